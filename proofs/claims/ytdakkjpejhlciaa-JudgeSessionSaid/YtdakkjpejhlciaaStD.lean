/- A reader's Feed. No condition. -/
import Derived.Test.YtdakkjpejhlciaaStC
import Derived.Deep.AppendLies
namespace Go.Proofs.Ytdakkjpejhlciaa
open Go.ChangeShapes Go.WideShapes Go.ChangeAt Go.RowKit
set_option linter.unusedVariables false
set_option maxRecDepth 100000
/-- append of elements to what the call owns: where the answer lies, told -/
theorem appRq {α : Type} {sz : Nat} {C : α → List Value} {P : Program} (hC : ∀ x, (C x).length = sz) {t e : TypeId} (ht : P.underlying t = some (.slice e)) {z : Value} {bytes : Nat} (hzs : z.cells.size = sz) (hsz : 0 < sz) (hinfo : (P.info? e).map (fun i => (i.zero, i.size, i.bytes)) = some (some z, sz, bytes))
    {w : World} {ops : Array Oper} {rest : List Oper} {o : Oper} {a : Act} {Q : Exit → Act → World → Prop} (hgd : o.guard = none) (s x : Operand)
    (ho : o.op = .call { callee := .builtin .append, args := #[s, x], argTypes := #[t, t] }) (base : Nat)
    (v : Value) (xs : List α) (hs : a.eval s = v) (hown : OwnR sz C e w base v xs) (u : Value) (zs : List α) (hx : a.eval x = u) (hsl : SlR sz C w u zs) (hne : 0 < zs.length) (h1c : ∀ x ∈ zs, ∀ u ∈ C x, u.oneCell' = true)
    (h63 : xs.length + zs.length ≤ maxLen) (hb : (xs.length + zs.length) * bytes ≤ 140737488355328) (hbase : base ≤ w.heap.size)
    (h : ∀ g cap w', OwnR sz C e w' base (.slice (some ⟨g, 0, none⟩) (xs.length + zs.length) cap) (xs ++ zs) → w.grownBy w' v.ownBlock → (v.ownBlock = some g ∨ g = w.heap.size) → wpList P ops Q rest (a.put o.dst (.slice (some ⟨g, 0, none⟩) (xs.length + zs.length) cap)) w') : wpList P ops Q (o :: rest) a w := by
  obtain ⟨i0, hi, hz0, hz1, hz2⟩ := info_parts hinfo
  rcases hsl.src hC with ⟨_, h0, _⟩ | ⟨ad, c, rfl, hc⟩
  · omega
  · refine wpList_append_lies w hgd s x t ho base e i0 z sz bytes ht hi hz0 hz1 hz2 hzs hsz v xs.length _ hs hown ad zs.length c (zs.flatMap C) hx (flat_len hC zs) hc (fun u hu => ?_) hne h63 hb hbase w.heap.size rfl fun g cap w' h2 h3 h4 _ => h g cap w' ?_ h3 h4
    · obtain ⟨y, hy1, hy⟩ := List.mem_flatMap.1 hu
      exact h1c y hy1 u hy
    · unfold OwnR
      rw [List.flatMap_append, List.length_append]
      exact h2
namespace St
theorem info_frm : (Try.prog.info? 57).map (fun i => (i.zero, i.size, i.bytes)) = some (some (.agg #[.int .u8 0, .string ⟨#[]⟩]), 2, 24) := by kernel_rfl
theorem ownR_same {α : Type} {sz : Nat} {C : α → List Value} {e : TypeId} {w w' : World} {B : Nat} {v : Value} {xs : List α} (h : OwnR sz C e w B v xs) (hs : ∀ q, v.ownBlock = some q → w'.heap[q]? = w.heap[q]?) : OwnR sz C e w' B v xs := by
  refine ⟨h.1, ?_⟩
  rcases h.2 with h2 | ⟨q, cap, cur, rfl, h3, h4, h5⟩
  · exact .inl h2
  · exact .inr ⟨q, cap, cur, rfl, h3, (hs q rfl).trans h4, h5⟩
theorem sl_at {w : World} {a : Option Addr} {n c k : Nat} {bs : List Int} (h : Sl .u8 w (.slice a n c) bs) (hk : k < bs.length) : ∃ b off, a = some ⟨b, off, none⟩ ∧ w.cell? ⟨b, off + k, none⟩ = some (.int .u8 bs[k]) := by
  obtain ⟨a', c', e, h1, h2, h3, h4⟩ := h
  simp only [Value.slice.injEq] at e
  obtain ⟨rfl, rfl, rfl⟩ := e
  rcases h4 with ⟨_, _, rfl⟩ | ⟨b, off, sp, rfl, rfl | ⟨rfl, hlt, hc⟩⟩
  · simp at hk
  · simp at hk
  · refine ⟨b, off, rfl, (hc k hk).trans ?_⟩
    simp [List.getD, List.getElem?_eq_getElem hk]
/-- what Feed tells -/
def FeedR (B g : Nat) (s : Rst) (S : Option Nat) (bs : List Int) (w : World) (e : Ending) (w' : World) : Prop :=
  ∃ S' v, e = .returned v ∧ Rdr B w' g (runV s bs).2 S' ∧ NewS w S S' ∧ FarR B g S w w' ∧ OwnR 2 frmC 57 w' w.heap.size v (runV s bs).1 ∧ ∀ q, v.ownBlock = some q → q ≠ g ∧ S' ≠ some q
/-- behind k bytes -/
def FeedK (B g : Nat) (s : Rst) (S : Option Nat) (bs : List Int) (w : World) (k : Nat) (v : Value) (wr : World) : Prop :=
  ∃ S', Rdr B wr g (runV s (bs.take k)).2 S' ∧ NewS w S S' ∧ FarR B g S w wr ∧ OwnR 2 frmC 57 wr w.heap.size v (runV s (bs.take k)).1 ∧ ∀ q, v.ownBlock = some q → q ≠ g ∧ S' ≠ some q
set_option maxHeartbeats 8000000 in
theorem feed_any (B g : Nat) (s : Rst) (S : Option Nat) (bs : List Int) (vb : Value) (w : World) (h : Rdr B w g s S) (hok : okR s) (hv : ∀ w', FarR B g S w w' → Sl .u8 w' vb bs) (hl : bs.length ≤ 1000000) :
    Calls Try.prog 35 #[.pointer (some ⟨g, 0, none⟩), vb] w (FeedR B g s S bs w) := by
  have hgl := h.lt
  have HV := Lib.hid hv
  have hw := (hv w (FarR.refl w)).wf
  obtain ⟨ab, cb, rfl, hb1, hb2, -⟩ := id (hv w (FarR.refl w))
  unfold maxLen at hb2
  have HBW : Hid (B ≤ w.heap.size) := Lib.hid (by obtain ⟨vt, -, -, -, -, h5⟩ := h; omega)
  have HLS := Lib.hid h.ltS
  have HOK : Hid (∀ k, okR (runV s (bs.take k)).2) := Lib.hid (fun k => ok_run hok _ (fun x hx => hw x (List.mem_of_mem_take hx)))
  have HFL : Hid (∀ k, (runV s (bs.take k)).1.length ≤ k) := Lib.hid (fun k => Nat.le_trans (run_len _) (List.length_take_le _ _))
  have H0 : Hid (FeedK B g s S bs w 0 (.slice none 0 0) w) := Lib.hid ⟨S, by simpa [runV] using h, NewS.refl, FarR.refl w, by simpa [runV] using OwnR.nil _ _ _, fun q hq => by cases hq⟩
  have HW := Lib.hid hw
  clear hv hw h hok
  go_enter Try.func35, Try.ntmps35
  go_wp2
  go_loopw [5, 14] (fun done i wr => ∃ (k : Nat) (vd : Value), k ≤ bs.length ∧ i = .int .i64 k ∧ vd = done ∧ Hid (FeedK B g s S bs w k vd wr)) (fun _ i _ => bs.length - (intOf i).toNat)
  case atStart => exact ⟨0, _, Nat.zero_le _, rfl, rfl, H0⟩
  case round =>
    obtain ⟨k, vd, hk, rfl, rfl, HK⟩ := hrel
    by_cases hlt : k < bs.length
    · obtain ⟨S1, r1, r2, r3, r4, r5⟩ := HK.out
      obtain ⟨b, off, rfl, hc⟩ := sl_at (HV.out wr r3) hlt
      have HX := Lib.hid (HW.out bs[k] (List.getElem_mem hlt))
      have HTK : Hid (bs.take (k + 1) = bs.take k ++ [bs[k]]) := Lib.hid (List.take_succ_eq_append_getElem hlt)
      have HRS := Lib.hid (run_snoc s (bs.take k) bs[k])
      have R1 := Lib.hid r1
      have R2 := Lib.hid r2
      have R3 := Lib.hid r3
      have R4 := Lib.hid r4
      have R5 := Lib.hid r5
      have hkz : (k : Int) < (bs.length : Int) := by omega
      have hfl := HFL.out k
      have HFLk := Lib.hid hfl
      clear r1 r2 r3 r4 r5 hfl
      generalize bs[k] = x at *
      go_wp2_with fail
      refine (step_any B g _ S1 x _ R1.out (HOK.out k) HX.out).mono ?_
      rintro e w2 ⟨S2, rfl, p1, p2, p3⟩
      have P1 := Lib.hid p1
      have P2 := Lib.hid p2
      have P3 := Lib.hid p3
      have hsz2 := p3.1.size
      have HSZ2 := Lib.hid hsz2
      have HN2 : Hid (NewS w S S2) := Lib.hid (NewS.trans (B := B) (g := g) R3.out.1.size R2.out p2)
      have HF2 : Hid (FarR B g S w w2) := Lib.hid (R3.out.trans R2.out p3)
      have HOW2 : Hid (OwnR 2 frmC 57 w2 w.heap.size vd (runV s (bs.take k)).1) := Lib.hid (ownR_same R4.out fun q hq => p3.2 q (World.ownsRow.lt R4.out q hq).2 (R5.out q hq).1 (fun e => (R5.out q hq).2 e.symm))
      have HD2 : Hid (∀ q, vd.ownBlock = some q → q ≠ g ∧ S2 ≠ some q) := Lib.hid (fun q hq => ⟨(R5.out q hq).1, fun e => by
        rcases p2 with rfl | p2
        · exact (R5.out q hq).2 e
        · have := p2 q e; have := (World.ownsRow.lt R4.out q hq).2; omega⟩)
      clear p1 p2 p3 hsz2
      cases ho : (stepV (runV s (bs.take k)).2 x).1 with
      | none =>
        have HRK : Hid (runV s (bs.take (k + 1)) = ((runV s (bs.take k)).1, (stepV (runV s (bs.take k)).2 x).2)) := Lib.hid (by rw [HTK.out, HRS.out, ho]; simp)
        have HKN : Hid (FeedK B g s S bs w (k + 1) vd (w2.alloc (.cells #[.int .u8 0, .string ⟨#[]⟩] 57))) := Lib.hid (by
          refine ⟨S2, ?_, HN2.out, HF2.out.alloc HBW.out _, ?_, HD2.out⟩
          · rw [HRK.out]; exact P1.out.alloc _
          · rw [HRK.out]; exact HOW2.out.alloc _)
        clear ho
        unfold oArr
        go_wp2
        go_roundw
        case rel => exact ⟨k + 1, vd, by omega, by go_num, rfl, Lib.hid HKN.out⟩
        case measure => simp [intOf]; omega
      | some f =>
        obtain ⟨fk, ft⟩ := f
        have HRK : Hid (runV s (bs.take (k + 1)) = ((runV s (bs.take k)).1 ++ [⟨fk, ft⟩], (stepV (runV s (bs.take k)).2 x).2)) := Lib.hid (by rw [HTK.out, HRS.out, ho]; simp)
        have HOW4 := Lib.hid ((HOW2.out.alloc (.cells #[.int .u8 fk, .string ft] 57)).alloc (.cells #[.int .u8 fk, .string ft] 57))
        have HS4 : Hid (((w2.alloc (.cells #[.int .u8 fk, .string ft] 57)).alloc (.cells #[.int .u8 fk, .string ft] 57)).heap.size = w2.heap.size + 2) := Lib.hid (by simp)
        have HLIT : Hid (SlR 2 frmC ((w2.alloc (.cells #[.int .u8 fk, .string ft] 57)).alloc (.cells #[.int .u8 fk, .string ft] 57)) (.slice (some ⟨w2.heap.size + 1, 0, none⟩) 1 1) [⟨fk, ft⟩]) := Lib.hid (SlR.one frmC_len _ (w2.heap.size + 1) (by simp) _ ⟨fk, ft⟩ rfl)
        have HF4 := Lib.hid ((HF2.out.alloc HBW.out (.cells #[.int .u8 fk, .string ft] 57)).alloc HBW.out (.cells #[.int .u8 fk, .string ft] 57))
        have HR4 := Lib.hid ((P1.out.alloc (.cells #[.int .u8 fk, .string ft] 57)).alloc (.cells #[.int .u8 fk, .string ft] 57))
        have hwz : w.heap.size ≤ w2.heap.size := Nat.le_trans R3.out.1.size HSZ2.out
        have HWZ := Lib.hid hwz
        obtain ⟨sd, cd, hvd, -⟩ := HOW2.out.sl frmC_len
        subst hvd
        clear ho hwz
        unfold oArr
        go_wp2_with (at_builtin; refine appRq frmC_len Try.underlying29 rfl (by decide) info_frm rfl (.tmp 25) (.tmp 27) rfl w.heap.size (.slice sd (runV s (bs.take k)).1.length cd) (runV s (bs.take k)).1 rfl HOW4.out (.slice (some ⟨w2.heap.size + 1, 0, none⟩) 1 1) [⟨fk, ft⟩] rfl HLIT.out (Nat.succ_pos _) (by intro y hy; exact frmC_one y) (by have := HFLk.out; unfold maxLen; simp; omega) (by have := HFLk.out; simp; omega) (by have := HWZ.out; simp; omega) ?_; intro g5 c5 w5 hown5 hgr5 hli5; have HOWN5 := Lib.hid hown5; have HGR5 := Lib.hid hgr5; have HLI5 := Lib.hid hli5; clear hown5 hgr5 hli5)
        have hsz5 := HS4.out
        have HKN : Hid (FeedK B g s S bs w (k + 1) (.slice (some ⟨g5, 0, none⟩) ((runV s (bs.take k)).1.length + 1) c5) w5) := Lib.hid (by
          have hne : some g ≠ (Value.slice sd (runV s (bs.take k)).1.length cd).ownBlock := fun e => (HD2.out g e.symm).1 rfl
          have hr5 : Rdr B w5 g (stepV (runV s (bs.take k)).2 x).2 S2 := HR4.out.same (HGR5.out.block g (by have := HR4.out.lt; exact this) hne) fun q hq => HGR5.out.block q (HR4.out.ltS q hq).2 (fun e => (HD2.out q e.symm).2 hq)
          refine ⟨S2, ?_, HN2.out, ⟨(HF4.out.1).grown HGR5.out (Nat.le_trans HBW.out HF4.out.1.size) (fun q hq => Nat.le_trans HBW.out (World.ownsRow.lt HOW4.out q hq).1), fun q hq hn hs => (HGR5.out.block q (Nat.lt_of_lt_of_le hq HF4.out.1.size) (fun e => by have := (World.ownsRow.lt HOW4.out q e.symm).1; omega)).trans (HF4.out.2 q hq hn hs)⟩, ?_, fun q hq => ?_⟩
          · rw [HRK.out]; exact hr5
          · rw [HRK.out]; exact HOWN5.out
          · obtain rfl : g5 = q := by simpa [Value.ownBlock] using hq
            rcases HLI5.out with e | e
            · exact HD2.out g5 e
            · refine ⟨fun e2 => ?_, fun e2 => ?_⟩
              · have := HR4.out.lt; omega
              · have := (HR4.out.ltS g5 e2).2; omega)
        go_roundw
        case rel => exact ⟨k + 1, _, by omega, by go_num, rfl, Lib.hid HKN.out⟩
        case measure => simp [intOf]; omega
    · obtain rfl : k = bs.length := by omega
      have HE : Hid (FeedR B g s S bs w (.returned vd) wr) := Lib.hid (by
        obtain ⟨S1, r1, r2, r3, r4, r5⟩ := HK.out
        rw [List.take_length] at r1 r4
        exact ⟨S1, vd, rfl, r1, r2, r3, r4, r5⟩)
      go_wp2
      go_ret
      exact HE.out
end St
end Go.Proofs.Ytdakkjpejhlciaa
