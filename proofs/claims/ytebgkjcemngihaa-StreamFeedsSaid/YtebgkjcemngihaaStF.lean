/- Frames' bytes: the package's. No condition. -/
import Derived.Test.YtebgkjcemngihaaStE
import Derived.Test.YtebgkjcemngihaaSbs
namespace Go.Proofs.Ytebgkjcemngihaa
open Go.ChangeShapes Go.WideShapes Go.ChangeAt Go.RowKit
set_option linter.unusedVariables false
set_option maxRecDepth 100000
namespace St
theorem emp_iff (s : ByteArray) : s.toList = [] ↔ s = emp := by
  rw [ByteArray.toList_eq]
  constructor
  · intro h
    obtain ⟨⟨l⟩⟩ := s
    simp at h
    subst h
    rfl
  · rintro rfl
    rfl
theorem ne_emp {s : ByteArray} (h : s ≠ emp) : ¬ s.toList = [] ∧ (!s.toList.isEmpty) = true := by
  have h1 : ¬ s.toList = [] := fun q => h ((emp_iff s).1 q)
  refine ⟨h1, ?_⟩
  cases hs : s.toList with
  | nil => exact absurd hs h1
  | cons a l => rfl
def fitF (f : Frm) : Prop := ((f.kind = 66 ∨ f.kind = 69) ∧ f.text = emp) ∨ (f.kind = 81 ∧ f.text.size ≤ 48)
def byteF (f : Frm) : List Int := if f.kind = 81 then [81, (f.text.size : Int)] ++ sb f.text else [f.kind]
theorem byteF_len {f : Frm} (h : fitF f) : (byteF f).length ≤ 50 := by
  unfold byteF
  rcases h with ⟨_, _⟩ | ⟨h, h2⟩
  · split
    · rename_i q; rename_i a b; rcases a with r | r <;> (rw [r] at q; cases q)
    · simp
  · rw [if_pos h]; simp [sb_length]; omega
theorem bytes_len (l : List Frm) (h : ∀ f ∈ l, fitF f) : (l.flatMap byteF).length ≤ l.length * 50 := by
  induction l with
  | nil => simp
  | cons f l ih =>
    have h1 := byteF_len (h f (by simp))
    have h2 := ih (fun g hg => h g (by simp [hg]))
    rw [List.flatMap_cons, List.length_append, List.length_cons]; omega
theorem byteF_wf {f : Frm} (h : fitF f) : ∀ x ∈ byteF f, (Lit.int .u8 x).wf = true := by
  unfold byteF
  rcases h with ⟨a, _⟩ | ⟨h, h2⟩
  · rw [if_neg (by rcases a with r | r <;> (rw [r]; decide))]
    intro x hx; simp at hx; subst hx
    rcases a with r | r <;> (rw [r]; decide)
  · rw [if_pos h]
    intro x hx
    rcases List.mem_append.1 hx with q | q
    · simp only [List.mem_cons, List.not_mem_nil, or_false] at q
      rcases q with rfl | rfl
      · decide
      · exact WalkArith.wf_u8 ⟨by omega, by omega⟩
    · exact sb_wf _ x q
theorem bytes_wf (l : List Frm) (h : ∀ f ∈ l, fitF f) : ∀ x ∈ l.flatMap byteF, (Lit.int .u8 x).wf = true := by
  intro x hx
  obtain ⟨f, hf, hx⟩ := List.mem_flatMap.1 hx
  exact byteF_wf (h f hf) x hx
def SaysB (P : Prop) (w : World) (e : Ending) (w' : World) : Prop := ∃ b, e = .returned (.bool b) ∧ (b = true ↔ P) ∧ Below w.heap.size w w'
theorem saysB_no {P : Prop} (h : ¬ P) {w w' : World} (hb : Below w.heap.size w w') : SaysB P w (.returned (.bool false)) w' := ⟨_, rfl, ⟨fun h => (by cases h), fun h2 => absurd h2 h⟩, hb⟩
theorem saysB_as {P : Prop} {b : Bool} (h : b = true ↔ P) {w w' : World} (hb : Below w.heap.size w w') : SaysB P w (.returned (.bool b)) w' := ⟨_, rfl, h, hb⟩
abbrev fArr (f : Frm) : Array Value := #[.int .u8 f.kind, .string f.text]
theorem box1 {w : World} {A : Array Value} {t : TypeId} : Below w.heap.size w (w.alloc (.cells A t)) := (Below.refl _ _).alloc (Nat.le_refl _) _
set_option maxHeartbeats 2000000 in
theorem fits_any (f : Frm) (w : World) : Calls Try.prog 26 #[.agg (fArr f)] w (SaysB (fitF f) w) := by
  obtain ⟨k, s⟩ := f
  by_cases h1 : k = 66
  · subst h1
    have HE : Hid (∀ b : Bool, (b = true ↔ s = emp) → (b = true ↔ fitF ⟨66, s⟩)) := Lib.hid (fun b hb => by unfold fitF; simp [hb])
    go_enter Try.func26, Try.ntmps26
    go_wp2
    go_ret
    exact saysB_as (HE.out _ (by simp [emp_iff])) box1
  · by_cases h2 : k = 69
    · subst h2
      have HE : Hid (∀ b : Bool, (b = true ↔ s = emp) → (b = true ↔ fitF ⟨69, s⟩)) := Lib.hid (fun b hb => by unfold fitF; simp [hb])
      clear h1
      go_enter Try.func26, Try.ntmps26
      go_wp2
      go_ret
      exact saysB_as (HE.out _ (by simp [emp_iff])) box1
    · by_cases h3 : k = 81
      · subst h3
        have HE : Hid ((decide ((s.size : Int) ≤ 48) = true) ↔ fitF ⟨81, s⟩) := Lib.hid (by unfold fitF; simp; omega)
        clear h1 h2
        go_enter Try.func26, Try.ntmps26
        go_wp2
        go_ret
        exact saysB_as HE.out box1
      · have HE : Hid (¬ fitF ⟨k, s⟩) := Lib.hid (by unfold fitF; simp [h1, h2, h3])
        have e1 : (k == 66) = false := beq_eq_false_iff_ne.2 h1
        have e2 : (k == 69) = false := beq_eq_false_iff_ne.2 h2
        have e3 : (k == 81) = false := beq_eq_false_iff_ne.2 h3
        clear h1 h2 h3
        go_enter Try.func26, Try.ntmps26
        go_wp2
        go_ret
        exact saysB_no HE.out box1
theorem rows_open {α : Type} {sz : Nat} {C : α → List Value} {w : World} {a : Option Addr} {cap : Nat} {xs : List α} {k : Nat} (hk : k < xs.length)
    (h4 : (a = none ∧ cap = 0 ∧ xs = []) ∨ ∃ b off sp, a = some ⟨b, off, sp⟩ ∧ (xs = [] ∨ (sp = none ∧ b < w.heap.size ∧ ∀ i x, xs[i]? = some x → ∀ j u, (C x)[j]? = some u → w.cell? ⟨b, off + (i * sz + j), none⟩ = some u))) :
    ∃ b off, a = some ⟨b, off, none⟩ ∧ b < w.heap.size ∧ ∀ i x, xs[i]? = some x → ∀ j u, (C x)[j]? = some u → w.cell? ⟨b, off + (i * sz + j), none⟩ = some u := by
  rcases h4 with ⟨_, _, rfl⟩ | ⟨b, off, sp, rfl, rfl | ⟨rfl, hlt, hc⟩⟩
  · simp at hk
  · simp at hk
  · exact ⟨b, off, rfl, hlt, hc⟩
theorem rgetD {α : Type} {l : List α} {k : Nat} (h : k < l.length) : l[k]? = some l[k] := List.getElem?_eq_getElem h
/-- what Bytes tells -/
def BytesR (l : List Frm) (w : World) (e : Ending) (w' : World) : Prop :=
  ((∀ f ∈ l, fitF f) ∧ ∃ v, e = .returned (.tuple #[v, .int .i64 0]) ∧ Own w' w.heap.size v (l.flatMap byteF) ∧ Below w.heap.size w w') ∨ ((¬ ∀ f ∈ l, fitF f) ∧ e = .returned (.tuple #[.slice none 0 0, .int .i64 90]) ∧ Below w.heap.size w w')
set_option maxHeartbeats 8000000 in
theorem bytes_any (l : List Frm) (v0 : Value) (w : World) (h0 : IsFrms w v0 l) (hl : l.length ≤ 1048576) : Calls Try.prog 20 #[v0] w (BytesR l w) := by
  obtain ⟨a0, c0, rfl, hl0, hm0, hr0⟩ := h0.1
  unfold maxLen at hm0
  have HR0 := Lib.hid hr0
  have HWF := Lib.hid h0.2
  clear h0 hr0
  go_enter Try.func20, Try.ntmps20
  go_wp2
  go_loopw [4, 9] (fun b i wr => ∃ (k : Nat) (vd : Value) (zs : List Int), k ≤ l.length ∧ i = .int .i64 k ∧ vd = b ∧ Hid (Own wr w.heap.size vd zs) ∧ Hid (zs = (l.take k).flatMap byteF) ∧ Hid (∀ f ∈ l.take k, fitF f) ∧ Hid (Below w.heap.size w wr)) (fun _ i _ => l.length - (intOf i).toNat)
  case atStart => exact ⟨0, _, [], Nat.zero_le _, rfl, rfl, Lib.hid (Own.nil _ _), Lib.hid (by simp), Lib.hid (by simp), Lib.hid (Below.refl _ _)⟩
  case round =>
    obtain ⟨k, vd, zs, hk, rfl, rfl, HOW, HZS, HFI, HB⟩ := hrel
    by_cases hlt : k < l.length
    · obtain ⟨b, off, rfl, hbl, hc⟩ := rows_open hlt HR0.out
      have hce := fun j u hu => (HB.out.cell (p := ⟨b, off + (k * 2 + j), none⟩) hbl).trans (hc k _ (rgetD hlt) j u hu)
      have HTK : Hid (l.take (k + 1) = l.take k ++ [l[k]]) := Lib.hid (List.take_succ_eq_append_getElem hlt)
      have HMEM : Hid (l[k] ∈ l) := Lib.hid (List.getElem_mem hlt)
      have hbl2 := bytes_len _ HFI.out
      have HLEN : Hid (zs.length ≤ 52428800) := Lib.hid (by rw [HZS.out]; rw [List.length_take] at hbl2; omega)
      clear hc hbl2
      generalize l[k] = f at *
      obtain ⟨x0, x1⟩ := frm_cells hce
      have hkz : (k : Int) < (l.length : Int) := by omega
      clear hce
      obtain ⟨ad, cd, hvd, hd1, hd2, -⟩ := id (HOW.out.sl (by rw [HZS.out]; exact bytes_wf _ HFI.out))
      subst hvd
      have hb1 : Below wr.heap.size wr (wr.alloc (.cells (fArr f) 42)) := box1
      have HB1 := Lib.hid (HB.out.trans (hb1.mono HB.out.size))
      have HF1 := Lib.hid (heap_alloc_new wr (.cells (fArr f) 42))
      have HOW1 := Lib.hid (HOW.out.below hb1 (Nat.le_refl _))
      clear hb1
      go_wp2_with fail
      refine (fits_any f _).mono ?_
      rintro e w2 ⟨t, rfl, ht, hb2⟩
      have HB2 := Lib.hid (HB1.out.trans (hb2.mono HB1.out.size))
      have HF2 := Lib.hid ((hb2.block wr.heap.size (by simp)).trans HF1.out)
      have HOW2 := Lib.hid (HOW1.out.below hb2 (Nat.le_refl _))
      have HLW2 : Hid (wr.heap.size + 1 ≤ w2.heap.size) := Lib.hid (by have := hb2.size; simpa using this)
      clear hb2
      obtain ⟨y0, y1, -, -⟩ := cells2 HF2.out
      cases t with
      | false =>
        have HN : Hid (¬ ∀ f ∈ l, fitF f) := Lib.hid (fun q => by cases ht.2 (q f HMEM.out))
        clear ht
        go_wp2
        go_ret2
        exact .inr ⟨HN.out, rfl, HB2.out⟩
      | true =>
        have HFT := Lib.hid (ht.1 rfl)
        have HFK : Hid (∀ g ∈ l.take (k + 1), fitF g) := Lib.hid (fun g hg => by
          rw [HTK.out] at hg
          rcases List.mem_append.1 hg with q | q
          · exact HFI.out g q
          · simp at q; subst q; exact HFT.out)
        have HZK : Hid ((l.take (k + 1)).flatMap byteF = zs ++ byteF f) := Lib.hid (by rw [HTK.out, List.flatMap_append, HZS.out]; simp)
        clear ht
        have HKW : Hid ((Lit.int .u8 f.kind).wf = true) := Lib.hid (by rcases HFT.out with ⟨q | q, _⟩ | ⟨q, _⟩ <;> (rw [q]; decide))
        have HOW3 := Lib.hid (HOW2.out.below (box1 (A := #[.int .u8 f.kind]) (t := 5)) (Nat.le_refl _))
        have HL3 : Hid (Sl .u8 (w2.alloc (.cells #[.int .u8 f.kind] 5)) (.slice (some ⟨w2.heap.size, 0, none⟩) 1 1) [f.kind]) := Lib.hid (Sl.newAt w2 w2.heap.size rfl #[.int .u8 f.kind] [f.kind] rfl rfl (Nat.le_refl _) (by decide) (by intro y hy; simp at hy; subst hy; exact HKW.out))
        have HB3 := Lib.hid (HB2.out.alloc HB2.out.size (.cells #[.int .u8 f.kind] 5))
        have HF3 := Lib.hid (arow (o := .cells #[.int .u8 f.kind] 5) HF2.out)
        have HWR := Lib.hid HB.out.size
        have HLT0 : Hid (∀ q, (Value.slice ad zs.length cd).ownBlock = some q → q < wr.heap.size) := Lib.hid (fun q hq => (World.ownsRow.lt HOW.out q hq).2)
        have HROWF : Hid (∀ w', (w2.alloc (.cells #[.int .u8 f.kind] 5)).grownBy w' (Value.slice ad zs.length cd).ownBlock → w'.heap[wr.heap.size]? = some (.cells (fArr f) 42 (0, 0))) := Lib.hid (fun w' hg => (hg.block wr.heap.size (by have := HLW2.out; simp; omega) (fun e => by have := HLT0.out _ e.symm; omega)).trans HF3.out)
        by_cases k81 : f.kind = 81
        · have hsz48 : (f.text.size : Int) ≤ 48 := by
            rcases HFT.out with ⟨q | q, _⟩ | ⟨_, q⟩
            · rw [k81] at q; cases q
            · rw [k81] at q; cases q
            · omega
          have HSZ := Lib.hid hsz48
          have HZ2 : Hid (byteF f = [f.kind] ++ [(f.text.size : Int)] ++ sb f.text) := Lib.hid (by unfold byteF; rw [if_pos k81, k81]; simp)
          rw [k81] at HL3 HOW3 HB3 HF3 HROWF y0 HKW
          have HLF : Hid (∀ w4 : World, Sl .u8 (w4.alloc (.cells #[.int .u8 (f.text.size : Int)] 5)) (.slice (some ⟨w4.heap.size, 0, none⟩) 1 1) [(f.text.size : Int)]) := Lib.hid (fun w4 => Sl.newAt w4 w4.heap.size rfl #[.int .u8 (f.text.size : Int)] [(f.text.size : Int)] rfl rfl (Nat.le_refl _) (by decide) (by intro y hy; simp at hy; subst hy; exact WalkArith.wf_u8 ⟨by omega, by have := HSZ.out; omega⟩))
          have HROWG : Hid (∀ (v4 : Value) (w4 : World), w4.heap[wr.heap.size]? = some (.cells (fArr f) 42 (0, 0)) → Lies (w2.alloc (.cells #[.int .u8 81] 5)) (.slice ad zs.length cd) v4 → ∀ w', (w4.alloc (.cells #[.int .u8 (f.text.size : Int)] 5)).grownBy w' v4.ownBlock → w'.heap[wr.heap.size]? = some (.cells (fArr f) 42 (0, 0))) := Lib.hid (fun v4 w4 hr hl w' hg => (hg.block wr.heap.size (by have := (Array.getElem?_eq_some_iff.1 hr).1; simp; omega) (fun e => by
            rcases hl with q | q
            · have := HLT0.out wr.heap.size (q.symm.trans e.symm); omega
            · have q2 := q wr.heap.size e.symm; have := HLW2.out; simp at q2; omega)).trans (arow hr))
          go_wp2_with (first
            | (at_builtin; refine app8q rfl (.tmp 16) (.tmp 19) rfl w.heap.size (.slice ad zs.length cd) zs rfl HOW3.out (.slice (some ⟨w2.heap.size, 0, none⟩) 1 1) [81] rfl HL3.out (by have := HLEN.out; simp; omega) (by have := HB3.out.size; exact this) ?_; intro v4 w4 hown4 hgr4 hli4; have hrow4 := HROWF.out w4 hgr4; have HOWN4 := Lib.hid hown4; have HGR4 := Lib.hid hgr4; have HLI4 := Lib.hid hli4; have HROW4 := Lib.hid hrow4; have HOW5 := Lib.hid (hown4.below (box1 (A := #[.int .u8 (f.text.size : Int)]) (t := 5)) (Nat.le_refl _)); have HL5 := Lib.hid (HLF.out w4); have HB4 := Lib.hid (Below.own HB3.out HB3.out.size HOW3.out hgr4); have HB5 := Lib.hid (HB4.out.alloc HB4.out.size (.cells #[.int .u8 (f.text.size : Int)] 5)); obtain ⟨z0, z1, -, -⟩ := cells2 hrow4; clear hown4 hgr4 hli4 hrow4)
            | (at_builtin; refine app8q rfl (.tmp 24) (.tmp 29) rfl w.heap.size v4 (zs ++ [81]) rfl HOW5.out (.slice (some ⟨w4.heap.size, 0, none⟩) 1 1) [(f.text.size : Int)] rfl HL5.out (by have := HLEN.out; simp; omega) (by have := HB5.out.size; exact this) ?_; intro v6 w6 hown6 hgr6 hli6; have hrow6 := HROWG.out v4 w4 HROW4.out HLI4.out w6 hgr6; have HOWN6 := Lib.hid hown6; have HB6 := Lib.hid (Below.own HB5.out HB5.out.size HOW5.out hgr6); obtain ⟨t0, t1, -, -⟩ := cells2 hrow6; clear hown6 hgr6 hli6 hrow6)
            | (at_builtin; refine app8s rfl (.tmp 31) (.tmp 33) rfl w.heap.size v6 (zs ++ [81] ++ [(f.text.size : Int)]) rfl HOWN6.out f.text rfl (by have := HLEN.out; have := HSZ.out; simp; omega) (by have := HB6.out.size; exact this) ?_; intro v7 w7 hown7 hb7; have HOWN7 := Lib.hid hown7; have HB7 := Lib.hid (HB6.out.trans hb7); clear hown7 hb7))
          go_roundw
          case rel => exact ⟨k + 1, v7, _, by omega, by go_num, rfl, HOWN7, Lib.hid (by rw [HZK.out, HZ2.out, k81]; simp), Lib.hid HFK.out, Lib.hid HB7.out⟩
          case measure => simp [intOf]; omega
        · have e81 : (f.kind == 81) = false := beq_eq_false_iff_ne.2 k81
          have HZ2 : Hid (byteF f = [f.kind]) := Lib.hid (by unfold byteF; rw [if_neg k81])
          clear k81
          go_wp2_with (at_builtin; refine app8q rfl (.tmp 16) (.tmp 19) rfl w.heap.size (.slice ad zs.length cd) zs rfl HOW3.out (.slice (some ⟨w2.heap.size, 0, none⟩) 1 1) [f.kind] rfl HL3.out (by have := HLEN.out; simp; omega) (by have := HB3.out.size; exact this) ?_; intro v4 w4 hown4 hgr4 hli4; have hrow4 := HROWF.out w4 hgr4; have HOWN4 := Lib.hid hown4; have HGR4 := Lib.hid hgr4; obtain ⟨z0, z1, -, -⟩ := cells2 hrow4; clear hown4 hgr4 hli4 hrow4)
          have HB4 := Lib.hid (Below.own HB3.out HB3.out.size HOW3.out HGR4.out)
          go_roundw
          case rel => exact ⟨k + 1, v4, _, by omega, by go_num, rfl, HOWN4, Lib.hid (by rw [HZK.out, HZ2.out]), Lib.hid HFK.out, Lib.hid HB4.out⟩
          case measure => simp [intOf]; omega
    · obtain rfl : k = l.length := by omega
      have HE : Hid (BytesR l w (.returned (.tuple #[vd, .int .i64 0])) wr) := Lib.hid (by
        have h1 := HOW.out
        have h2 := HFI.out
        rw [HZS.out, List.take_length] at h1
        rw [List.take_length] at h2
        exact .inl ⟨h2, vd, rfl, h1, HB.out⟩)
      go_wp2
      go_ret2
      exact HE.out
end St
end Go.Proofs.Ytebgkjcemngihaa
