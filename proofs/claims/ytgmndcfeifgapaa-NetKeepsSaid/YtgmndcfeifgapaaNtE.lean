/- Package net: the document's own calls. No condition. -/
import Derived.Test.YtgmndcfeifgapaaNtD
import Derived.Test.YtgmndcfeifgapaaWl
import Derived.Deep.RegionLawGrows
import Derived.Maps.AppendAt
import Derived.Laws.AppendOwnNone
namespace Go.Proofs.Ytgmndcfeifgapaa
open Go.ChangeShapes Go.WideShapes Go.ChangeAt Go.RowKit Go.Deep
set_option linter.unusedVariables false
set_option maxRecDepth 100000
set_option linter.unusedSimpArgs false
/-- an append of rows, none among them perhaps, at a step of a region that draws its order -/
theorem stepRq {α : Type} {sz : Nat} {C : α → List Value} {P : Program} (hC : ∀ x, (C x).length = sz) {t e : TypeId} (ht : P.underlying t = some (.slice e)) {z : Value} {bytes : Nat} (hzs : z.cells.size = sz) (hsz : 0 < sz) (hinfo : (P.info? e).map (fun i => (i.zero, i.size, i.bytes)) = some (some z, sz, bytes))
    {w : World} {ops : Array Oper} {o : Oper} {a : Act} {K : Act → World → Prop} {Q : Exit → Act → World → Prop} {E : Prop} (hgd : o.guard = none) (s x : Operand)
    (ho : o.op = .call { callee := .builtin .append, args := #[s, x], argTypes := #[t, t] }) (base : Nat)
    (v : Value) (xs : List α) (hs : a.eval s = v) (hown : OwnR sz C e w base v xs) (u : Value) (zs : List α) (hx : a.eval x = u) (hsl : SlR sz C w u zs) (h1c : ∀ x ∈ zs, ∀ u ∈ C x, u.oneCell' = true)
    (h63 : xs.length + zs.length ≤ maxLen) (hb : (xs.length + zs.length) * bytes ≤ 140737488355328) (hbase : base ≤ w.heap.size)
    (h : ∀ v' w', OwnR sz C e w' base v' (xs ++ zs) → w.grownBy w' v.ownBlock → (v'.ownBlock = v.ownBlock ∨ v'.ownBlock = some w.heap.size) → K (a.put o.dst v') w') :
    if Region.wanted o (yielded ops a.tmps) = true then Oper.wp P o a w K Q else E := by
  have hw : Region.wanted o (yielded ops a.tmps) = true := by simp [Region.wanted, hgd]
  rw [if_pos hw]
  obtain ⟨i0, hi, hz0, hz1, hz2⟩ := info_parts hinfo
  have hmk : ∀ {w' : World} {v' : Value}, w'.ownsRow base e sz v' (xs.length + zs.length) (xs.flatMap C ++ zs.flatMap C) → OwnR sz C e w' base v' (xs ++ zs) := fun q => by
    unfold OwnR
    rw [List.flatMap_append, List.length_append]
    exact q
  rcases hsl.src hC with ⟨rfl, h0, hz⟩ | ⟨ad, c, rfl, hc⟩
  · have hrun := run_append_owned_none (P := P) (w := w) base t o.type e i0 sz ht hi v xs.length _ hown
    unfold Oper.wp
    simp [execOp, ho, resolve, invoke, builtin, hs, hx, hrun, Result.andThen]
    exact h _ _ (hmk (by rw [hz, h0, List.append_nil, Nat.add_zero]; exact hown)) (World.grownBy.refl _ _) (.inl rfl)
  · obtain ⟨v', w', hr, h2, h3, h4, h5⟩ := run_append_own_at (P := P) w base t o.type e i0 z sz bytes ht hi hz0 hz1 hz2 hzs hsz v xs.length _ hown ad zs.length c (zs.flatMap C) (flat_len hC zs) hc (fun u hu => by
      obtain ⟨y, hy1, hy⟩ := List.mem_flatMap.1 hu
      exact h1c y hy1 u hy) h63 hb hbase
    unfold Oper.wp execOp
    simp only [ho, resolve, invoke, builtin, Sem.run_bind, Sem.run_pure, Result.andThen_ok, List.map_toArray, List.map_cons, List.map_nil, hs, hx, hr]
    exact h _ _ (hmk h2) h3 h5
/-- an append that has no room: a new row, at a step of a region that draws its order -/
theorem stepGx {α : Type} {sz : Nat} {C : α → List Value} {P : Program} (hC : ∀ x, (C x).length = sz) {t e : TypeId} (ht : P.underlying t = some (.slice e)) {z : Value} {bytes : Nat} (hzs : z.cells.size = sz) (hsz : 0 < sz) (hinfo : (P.info? e).map (fun i => (i.zero, i.size, i.bytes)) = some (some z, sz, bytes))
    {w : World} {ops : Array Oper} {o : Oper} {a : Act} {K : Act → World → Prop} {Q : Exit → Act → World → Prop} {E : Prop} (hgd : o.guard = none) (s x : Operand)
    (ho : o.op = .call { callee := .builtin .append, args := #[s, x], argTypes := #[t, t] })
    (ao : Option Addr) (xs : List α) (hs : a.eval s = .slice ao xs.length xs.length) (hslx : SlR sz C w (.slice ao xs.length xs.length) xs) (u : Value) (zs : List α) (hx : a.eval x = u) (hsl : SlR sz C w u zs) (hne : 0 < zs.length) (h1c : ∀ x ∈ zs, ∀ u ∈ C x, u.oneCell' = true)
    (h63 : xs.length + zs.length ≤ maxLen) (hb : (xs.length + zs.length) * bytes ≤ 140737488355328)
    (h : ∀ g cap w', OwnR sz C e w' w.heap.size (.slice (some ⟨g, 0, none⟩) (xs.length + zs.length) cap) (xs ++ zs) → w.grownBy w' none → K (a.put o.dst (.slice (some ⟨g, 0, none⟩) (xs.length + zs.length) cap)) w') :
    if Region.wanted o (yielded ops a.tmps) = true then Oper.wp P o a w K Q else E := by
  obtain ⟨i0, hi, hz0, hz1, hz2⟩ := info_parts hinfo
  rcases hsl.src hC with ⟨_, h0, _⟩ | ⟨ad, c, rfl, hc⟩
  · omega
  · refine step_append_grows hgd s x t ho e i0 z sz bytes ht hi hz0 hz1 hz2 hzs hsz ao xs.length xs.length (xs.flatMap C) hs ?_ (flat_len hC xs) ?_ ad zs.length c (zs.flatMap C) hx (flat_len hC zs) hc (fun u hu => ?_) (by omega) h63 hb ?_
    · intro e0
      rcases hslx.src hC with ⟨e1, h1, _⟩ | ⟨ad2, c2, e1, _⟩
      · exact ⟨h1, h1⟩
      · subst e0; cases e1
    · intro b e0 j u hu
      rcases hslx.src hC with ⟨e1, h1, h2⟩ | ⟨ad2, c2, e1, h2⟩
      · rw [h2] at hu; simp at hu
      · subst e0
        simp only [Value.slice.injEq, Option.some.injEq] at e1
        obtain ⟨rfl, -, -⟩ := e1
        exact h2 j u hu
    · obtain ⟨y, hy1, hy⟩ := List.mem_flatMap.1 hu
      exact h1c y hy1 u hy
    · intro v' w' hown hgr
      rcases own_form hown with ⟨-, e0⟩ | ⟨g, cap, cur, rfl, -⟩
      · omega
      · refine h g cap w' ?_ hgr
        unfold OwnR
        rw [List.flatMap_append, List.length_append]
        exact hown
/-- the beginning of a list, and its end, where the whole lies in a row of one's own -/
theorem SlR.takes {α : Type} {sz : Nat} {C : α → List Value} {w : World} {g c : Nat} {xs : List α} (h : SlR sz C w (.slice (some ⟨g, 0, none⟩) xs.length c) xs) (k : Nat) (hk : k ≤ xs.length) : SlR sz C w (.slice (some ⟨g, 0, none⟩) k c) (xs.take k) := by
  obtain ⟨a, cap, e, h1, h2, h3⟩ := h
  simp only [Value.slice.injEq] at e
  obtain ⟨rfl, -, rfl⟩ := e
  have hl : (xs.take k).length = k := by rw [List.length_take]; omega
  refine ⟨_, c, by rw [hl], by omega, h2, ?_⟩
  rcases h3 with ⟨h3, -⟩ | ⟨b, off, sp, h3, h4⟩
  · cases h3
  · refine .inr ⟨b, off, sp, h3, ?_⟩
    rcases h4 with rfl | ⟨h5, h6, h7⟩
    · exact .inl (by simp)
    · exact .inr ⟨h5, h6, fun i x hx j u hu => h7 i x (by
        rw [List.getElem?_take] at hx
        split at hx
        · exact hx
        · cases hx) j u hu⟩
theorem SlR.drops {α : Type} {sz : Nat} {C : α → List Value} {w : World} {g c : Nat} {xs : List α} (h : SlR sz C w (.slice (some ⟨g, 0, none⟩) xs.length c) xs) (k : Nat) (hk : k ≤ xs.length) : SlR sz C w (.slice (some ⟨g, k * sz, none⟩) (xs.length - k) (c - k)) (xs.drop k) := by
  obtain ⟨a, cap, e, h1, h2, h3⟩ := h
  simp only [Value.slice.injEq] at e
  obtain ⟨rfl, -, rfl⟩ := e
  have hl : (xs.drop k).length = xs.length - k := List.length_drop
  refine ⟨_, c - k, by rw [hl], by omega, Nat.le_trans (Nat.sub_le _ _) h2, ?_⟩
  rcases h3 with ⟨h3, -⟩ | ⟨b, off, sp, h3, h4⟩
  · cases h3
  · simp only [Option.some.injEq, Addr.mk.injEq] at h3
    obtain ⟨rfl, rfl, rfl⟩ := h3
    refine .inr ⟨g, k * sz, none, rfl, ?_⟩
    rcases h4 with rfl | ⟨h5, h6, h7⟩
    · exact .inl (by simp)
    · refine .inr ⟨rfl, h6, fun i x hx j u hu => ?_⟩
      rw [List.getElem?_drop] at hx
      have := h7 (k + i) x hx j u hu
      rw [Nat.zero_add, Nat.add_mul] at this
      rw [← this]
      congr 2
      omega
theorem SlR.none_left {α : Type} {sz : Nat} {C : α → List Value} (w : World) (g : Nat) : SlR sz C w (.slice (some ⟨g, 0, none⟩) 0 0) ([] : List α) := ⟨_, 0, rfl, Nat.le_refl _, Nat.zero_le _, .inr ⟨g, 0, none, rfl, .inl rfl⟩⟩
theorem SlR.full {α : Type} {sz : Nat} {C : α → List Value} {w : World} {a : Option Addr} {c : Nat} {xs : List α} (h : SlR sz C w (.slice a xs.length c) xs) : SlR sz C w (.slice a xs.length xs.length) xs := by
  obtain ⟨a, cap, e, h1, h2, h3⟩ := h
  simp only [Value.slice.injEq] at e
  obtain ⟨rfl, -, rfl⟩ := e
  refine ⟨_, xs.length, rfl, Nat.le_refl _, Nat.le_trans h1 h2, ?_⟩
  rcases h3 with ⟨rfl, -, rfl⟩ | h3
  · exact .inl ⟨rfl, rfl, rfl⟩
  · exact .inr h3
namespace Nt
abbrev NetR (w : World) (B p : Nat) (v : Value) (ls : List Letr) : Prop := NetAt 29 37 w B p v ls
def NetV (TN TL : TypeId) (B p : Nat) (v v' : Value) (ls' : List Letr) (w w' : World) : Prop := NetAt TN TL w' B p v' ls' ∧ Only (fun k => k = p ∨ v.ownBlock = some k) w w' ∧ (v'.ownBlock = v.ownBlock ∨ ∀ q, v'.ownBlock = some q → w.heap.size ≤ q)
/-- a store into a block that is new, and none of the net's -/
theorem NetV.put {TN TL : TypeId} {B p b : Nat} {v v' : Value} {ls' : List Letr} {w w5 w6 : World} (h : NetV TN TL B p v v' ls' w w5) (hp : p ≠ b) (hv : ∀ q, v'.ownBlock = some q → q ≠ b) (hw : w.heap.size ≤ b) (hbk : ∀ q, q ≠ b → w6.heap[q]? = w5.heap[q]?) (hs : w5.heap.size ≤ w6.heap.size) (hos : w6.os = w5.os ∧ w6.tape = w5.tape ∧ w6.output = w5.output) : NetV TN TL B p v v' ls' w w6 := by
  obtain ⟨⟨a1, a2, a3⟩, b4, b5⟩ := h
  exact ⟨⟨(hbk p hp).trans a1, own_keep a2 (fun q hq _ => hbk q (hv q hq)), a3⟩, ⟨hos.1.trans b4.1, hos.2.1.trans b4.2.1, hos.2.2.trans b4.2.2.1, Nat.le_trans b4.2.2.2.1 hs, fun q hq hn => (hbk q (by omega)).trans (b4.2.2.2.2 q hq hn)⟩, b5⟩
/-- behind an append that made a new row, and the store into the net's box -/
theorem new_fin {TN TL : TypeId} (hne : TL ≠ TN) {B p : Nat} {v v' : Value} {ls ls' : List Letr} {w X w' : World} (hX : NetAt TN TL X B p v ls) (hb : Below w.heap.size w X) (hB : B ≤ w.heap.size)
    (own' : OwnR 3 letC TL w' X.heap.size v' ls') (hgr : X.grownBy w' none) :
    NetV TN TL B p v v' ls' w (w'.setCell ⟨p, 0, none⟩ v') := by
  obtain ⟨h1, h2, h3⟩ := hX
  have hp : w'.heap[p]? = some (.cells #[v] TN (0, 0)) := by
    rw [hgr.block p (row_lt h1) (fun e => by cases e)]
    exact h1
  have hup : ∀ q, v'.ownBlock = some q → X.heap.size ≤ q := fun q hq => (World.ownsRow.lt own' q hq).1
  have hgp := own_ty own' hp hne
  refine ⟨⟨by rw [heap_setCell_same _ p 0 _ _ _ hp]; rfl, own_up (own_keep own' (fun q hq _ => Below.heap_setCell _ _ _ _ (by simpa using hgp q hq))) (fun q hq => Nat.le_trans (Nat.le_trans hB hb.size) (hup q hq)), h3⟩, ?_, ?_⟩
  · exact ((Below.only hb _).trans (Only.grown (S := fun k => k = p ∨ v.ownBlock = some k) hgr (fun q hq => by cases hq))).trans (Only.setCell _ _ _ (.inl rfl))
  · exact .inr (fun q hq => Nat.le_trans hb.size (hup q hq))
/-- what grows twice, the second time in a row that is new -/
theorem grown_two {a b c : World} {row : Option Nat} (h : a.grownBy b none) (g : b.grownBy c row) (hr : ∀ q, row = some q → a.heap.size ≤ q) : a.grownBy c none :=
  ⟨g.os.trans h.os, g.tape.trans h.tape, g.output.trans h.output, Nat.le_trans h.size g.size, fun k hk hn => by
    rw [g.block k (Nat.lt_of_lt_of_le hk h.size) (fun e => by have := hr k e.symm; omega)]
    exact h.block k hk (fun e => by cases e)⟩
set_option maxHeartbeats 4000000 in
theorem rsend_any {B p : Nat} {v : Value} {ls : List Letr} (x : Letr) (w : World) (h : NetR w B p v ls) (hB : B ≤ w.heap.size) (hl : ls.length ≤ 1000) :
    Calls Try.prog 8 #[.pointer (some ⟨p, 0, none⟩), .agg (letC x).toArray] w fun e w' => e = .returned (.int .i64 (sendE ls x)) ∧ NetC 29 37 B p v (sendL ls x) w w' := by
  obtain ⟨W1, hW1⟩ : ∃ q, w.alloc (.cells #[.int .i64 x.src, .int .i64 x.dst, .string x.bytes] 37) = q := ⟨_, rfl⟩
  have hb1 : Below w.heap.size w W1 := by rw [← hW1]; exact (Below.refl _ _).alloc (Nat.le_refl _) _
  have hx1 : W1.heap[w.heap.size]? = some (.cells #[.int .i64 x.src, .int .i64 x.dst, .string x.bytes] 37 (0, 0)) := by rw [← hW1]; exact heap_alloc_new _ _
  have HN1 := Lib.hid (h.below hb1)
  have HB1 := Lib.hid hb1
  have HH := Lib.hid h
  have HBW := Lib.hid hB
  have x0 : W1.cell? ⟨w.heap.size, 0, none⟩ = some (.int .i64 x.src) := (cell_of_row W1 _ 0 _ _ _ hx1).trans rfl
  have x1 : W1.cell? ⟨w.heap.size, 1, none⟩ = some (.int .i64 x.dst) := (cell_of_row W1 _ 1 _ _ _ hx1).trans rfl
  have x2 : W1.cell? ⟨w.heap.size, 2, none⟩ = some (.string x.bytes) := (cell_of_row W1 _ 2 _ _ _ hx1).trans rfl
  have HX1 := Lib.hid hx1
  have c0 := HN1.out.c0
  have f0 := HN1.out.f0
  clear hb1 hx1 hB
  have bad : ∀ (q : ¬ (1 ≤ x.src ∧ x.src ≤ 7) ∨ ¬ (1 ≤ x.dst ∧ x.dst ≤ 7)), sendE ls x = 1 ∧ sendL ls x = ls := fun q => by
    unfold sendE sendL nodeP
    rw [if_pos q, if_pos q]; exact ⟨rfl, rfl⟩
  have HBAD := Lib.hid bad
  clear bad
  by_cases g1 : x.src < 1
  · obtain ⟨e1, e2⟩ := HBAD.out (.inl (by omega))
    rw [e1, e2]
    clear e1 e2 h
    go_enter Try.func8, Try.ntmps8
    go_wp2
    go_ret
    exact ⟨rfl, NetC.same HH.out HB1.out⟩
  by_cases g2 : 7 < x.src
  · obtain ⟨e1, e2⟩ := HBAD.out (.inl (by omega))
    rw [e1, e2]
    clear e1 e2 h
    go_enter Try.func8, Try.ntmps8
    go_wp2
    go_ret
    exact ⟨rfl, NetC.same HH.out HB1.out⟩
  by_cases g3 : x.dst < 1
  · obtain ⟨e1, e2⟩ := HBAD.out (.inr (by omega))
    rw [e1, e2]
    clear e1 e2 h
    go_enter Try.func8, Try.ntmps8
    go_wp2
    go_ret
    exact ⟨rfl, NetC.same HH.out HB1.out⟩
  by_cases g4 : 7 < x.dst
  · obtain ⟨e1, e2⟩ := HBAD.out (.inr (by omega))
    rw [e1, e2]
    clear e1 e2 h
    go_enter Try.func8, Try.ntmps8
    go_wp2
    go_ret
    exact ⟨rfl, NetC.same HH.out HB1.out⟩
  have hn : ¬ (¬ nodeP x.src ∨ ¬ nodeP x.dst) := by rintro (q | q); exact q ⟨by omega, by omega⟩; exact q ⟨by omega, by omega⟩
  by_cases g5 : 8200 < x.bytes.size
  · have g5i : (8200 : Int) < (x.bytes.size : Int) := by omega
    rw [show sendE ls x = 2 by unfold sendE; rw [if_neg hn, if_pos g5], show sendL ls x = ls by unfold sendL; rw [if_neg hn, if_pos g5]]
    clear hn g5 h
    go_enter Try.func8, Try.ntmps8
    go_wp2
    go_ret
    exact ⟨rfl, NetC.same HH.out HB1.out⟩
  have g5i : ¬ (8200 : Int) < (x.bytes.size : Int) := by omega
  rw [show sendE ls x = addE ls by unfold sendE; rw [if_neg hn, if_neg g5], show sendL ls x = addL ls x by unfold sendL; rw [if_neg hn, if_neg g5]]
  obtain ⟨a, c, rfl⟩ := own_slice h.2.1
  clear hn g5
  by_cases h2 : 200 ≤ ls.length
  · have h2i : (200 : Int) ≤ (ls.length : Int) := by omega
    rw [show addE ls = 5 from if_pos h2, show addL ls x = ls from if_pos h2]
    clear h2 h
    go_enter Try.func8, Try.ntmps8
    go_wp2
    go_ret
    exact ⟨rfl, NetC.same HH.out HB1.out⟩
  · have h2i : ¬ (200 : Int) ≤ (ls.length : Int) := by omega
    rw [show addE ls = 0 from if_neg h2, show addL ls x = ls ++ [x] from if_neg h2]
    have hlc : ls.length ≤ c ∧ c ≤ 9223372036854775807 := by
      obtain ⟨a', c', e, k1, k2, -⟩ := h.2.1.sl letC_len
      simp only [Value.slice.injEq] at e
      unfold maxLen at k2
      omega
    obtain ⟨hlc1, hlc2⟩ := hlc
    have HA : Hid (NetR (W1.drew.alloc (.cells #[.int .i64 x.src, .int .i64 x.dst, .string x.bytes] 37)) B p (.slice a ls.length c) ls) := Lib.hid (HN1.out.below ((Below.refl W1.heap.size W1).drew.alloc (Nat.le_refl _) _))
    have HBA : Hid (Below w.heap.size w (W1.drew.alloc (.cells #[.int .i64 x.src, .int .i64 x.dst, .string x.bytes] 37))) := Lib.hid (HB1.out.drew.alloc HB1.out.size _)
    have HXA : Hid ((W1.drew.alloc (.cells #[.int .i64 x.src, .int .i64 x.dst, .string x.bytes] 37)).heap[w.heap.size]? = some (.cells #[.int .i64 x.src, .int .i64 x.dst, .string x.bytes] 37 (0, 0))) := Lib.hid ((((Below.refl W1.heap.size W1).drew.alloc (Nat.le_refl _) (.cells #[.int .i64 x.src, .int .i64 x.dst, .string x.bytes] 37)).block _ (row_lt HX1.out)).trans HX1.out)
    clear h2 h
    go_enter Try.func8, Try.ntmps8
    go_upto_region 7 with fail
    clear hW1
    refine Wl.start 21 (fun u => u.cell? ⟨p, 0, none⟩ = some (.slice a ls.length c) ∧ u.heap[w.heap.size]? = some (.cells #[.int .i64 x.src, .int .i64 x.dst, .string x.bytes] 37 (0, 0))) (fun _ => True) (by kernel_rfl) ⟨c0, HX1.out⟩ trivial (fun hk => ?_)
    refine Wl.take (i := 0) (v := .pointer (some ⟨p, 0, none⟩)) [19, 20, 21] rfl (by kernel_rfl) (by kernel_rfl) (by kernel_rfl) (by kernel_rfl) (by kernel_rfl) (fun _ _ _ h => h) (.inl ⟨by kernel_rfl, ?_⟩) hk ?_
    · intro wx hSw
      clear hSw hk
      go_simp
      try first | with_reducible rfl | kernel_rfl
    simp only [Act.put, List.getElem_toArray, List.getElem_cons_succ, List.getElem_cons_zero, List.setIfInBounds_toArray, List.set_cons_succ, List.set_cons_zero]
    refine Wl.take (i := 1) (v := .pointer (some ⟨p, 0, none⟩)) [2, 3, 4, 15, 18, 19, 20, 21] rfl (by kernel_rfl) (by kernel_rfl) (by kernel_rfl) (by kernel_rfl) (by kernel_rfl) (fun _ _ _ h => h) (.inl ⟨by kernel_rfl, ?_⟩) hk ?_
    · intro wx hSw
      clear hSw hk
      go_simp
      try first | with_reducible rfl | kernel_rfl
    simp only [Act.put, List.getElem_toArray, List.getElem_cons_succ, List.getElem_cons_zero, List.setIfInBounds_toArray, List.set_cons_succ, List.set_cons_zero]
    refine Wl.take (i := 2) (v := .pointer (some ⟨p, 0, none⟩)) [3, 4, 15, 18, 19, 20, 21] rfl (by kernel_rfl) (by kernel_rfl) (by kernel_rfl) (by kernel_rfl) (by kernel_rfl) (fun _ _ _ h => h) (.inl ⟨by kernel_rfl, ?_⟩) hk ?_
    · intro wx hSw
      clear hSw hk
      go_simp
      try first | with_reducible rfl | kernel_rfl
    simp only [Act.put, List.getElem_toArray, List.getElem_cons_succ, List.getElem_cons_zero, List.setIfInBounds_toArray, List.set_cons_succ, List.set_cons_zero]
    refine Wl.take (i := 3) (v := .pointer (some ⟨p, 0, none⟩)) [4, 15, 18, 19, 20, 21] rfl (by kernel_rfl) (by kernel_rfl) (by kernel_rfl) (by kernel_rfl) (by kernel_rfl) (fun _ _ _ h => h) (.inl ⟨by kernel_rfl, ?_⟩) hk ?_
    · intro wx hSw
      clear hSw hk
      go_simp
      try first | with_reducible rfl | kernel_rfl
    simp only [Act.put, List.getElem_toArray, List.getElem_cons_succ, List.getElem_cons_zero, List.setIfInBounds_toArray, List.set_cons_succ, List.set_cons_zero]
    refine Wl.take (i := 4) (v := .slice a ls.length c) [15, 18, 19, 20, 21] rfl (by kernel_rfl) (by kernel_rfl) (by kernel_rfl) (by kernel_rfl) (by kernel_rfl) (fun _ _ _ h => h) (.inl ⟨by kernel_rfl, ?_⟩) hk ?_
    · intro wx hSw
      have cc := hSw.1.1
      clear hSw hk
      go_simp
      try first | with_reducible rfl | kernel_rfl
    simp only [Act.put, List.getElem_toArray, List.getElem_cons_succ, List.getElem_cons_zero, List.setIfInBounds_toArray, List.set_cons_succ, List.set_cons_zero]
    refine Wl.take (i := 5) (v := .pointer (some ⟨p, 0, none⟩)) [6, 7, 8, 9, 15, 18, 19, 20, 21] rfl (by kernel_rfl) (by kernel_rfl) (by kernel_rfl) (by kernel_rfl) (by kernel_rfl) (fun _ _ _ h => h) (.inl ⟨by kernel_rfl, ?_⟩) hk ?_
    · intro wx hSw
      clear hSw hk
      go_simp
      try first | with_reducible rfl | kernel_rfl
    simp only [Act.put, List.getElem_toArray, List.getElem_cons_succ, List.getElem_cons_zero, List.setIfInBounds_toArray, List.set_cons_succ, List.set_cons_zero]
    refine Wl.take (i := 6) (v := .pointer (some ⟨p, 0, none⟩)) [7, 8, 9, 15, 18, 19, 20, 21] rfl (by kernel_rfl) (by kernel_rfl) (by kernel_rfl) (by kernel_rfl) (by kernel_rfl) (fun _ _ _ h => h) (.inl ⟨by kernel_rfl, ?_⟩) hk ?_
    · intro wx hSw
      clear hSw hk
      go_simp
      try first | with_reducible rfl | kernel_rfl
    simp only [Act.put, List.getElem_toArray, List.getElem_cons_succ, List.getElem_cons_zero, List.setIfInBounds_toArray, List.set_cons_succ, List.set_cons_zero]
    refine Wl.take (i := 7) (v := .pointer (some ⟨p, 0, none⟩)) [8, 9, 15, 18, 19, 20, 21] rfl (by kernel_rfl) (by kernel_rfl) (by kernel_rfl) (by kernel_rfl) (by kernel_rfl) (fun _ _ _ h => h) (.inl ⟨by kernel_rfl, ?_⟩) hk ?_
    · intro wx hSw
      clear hSw hk
      go_simp
      try first | with_reducible rfl | kernel_rfl
    simp only [Act.put, List.getElem_toArray, List.getElem_cons_succ, List.getElem_cons_zero, List.setIfInBounds_toArray, List.set_cons_succ, List.set_cons_zero]
    refine Wl.take (i := 8) (v := .slice a ls.length c) [9, 15, 18, 19, 20, 21] rfl (by kernel_rfl) (by kernel_rfl) (by kernel_rfl) (by kernel_rfl) (by kernel_rfl) (fun _ _ _ h => h) (.inl ⟨by kernel_rfl, ?_⟩) hk ?_
    · intro wx hSw
      have cc := hSw.1.1
      clear hSw hk
      go_simp
      try first | with_reducible rfl | kernel_rfl
    simp only [Act.put, List.getElem_toArray, List.getElem_cons_succ, List.getElem_cons_zero, List.setIfInBounds_toArray, List.set_cons_succ, List.set_cons_zero]
    refine Wl.take (i := 9) (v := .int .i64 ls.length) [15, 18, 19, 20, 21] rfl (by kernel_rfl) (by kernel_rfl) (by kernel_rfl) (by kernel_rfl) (by kernel_rfl) (fun _ _ _ h => h) (.inl ⟨by kernel_rfl, ?_⟩) hk ?_
    · intro wx hSw
      clear hSw hk
      go_simp
      try first | with_reducible rfl | kernel_rfl
    simp only [Act.put, List.getElem_toArray, List.getElem_cons_succ, List.getElem_cons_zero, List.setIfInBounds_toArray, List.set_cons_succ, List.set_cons_zero]
    refine Wl.take (i := 10) (v := .pointer (some ⟨p, 0, none⟩)) [11, 12, 13, 14, 15, 18, 19, 20, 21] rfl (by kernel_rfl) (by kernel_rfl) (by kernel_rfl) (by kernel_rfl) (by kernel_rfl) (fun _ _ _ h => h) (.inl ⟨by kernel_rfl, ?_⟩) hk ?_
    · intro wx hSw
      clear hSw hk
      go_simp
      try first | with_reducible rfl | kernel_rfl
    simp only [Act.put, List.getElem_toArray, List.getElem_cons_succ, List.getElem_cons_zero, List.setIfInBounds_toArray, List.set_cons_succ, List.set_cons_zero]
    refine Wl.take (i := 11) (v := .pointer (some ⟨p, 0, none⟩)) [12, 13, 14, 15, 18, 19, 20, 21] rfl (by kernel_rfl) (by kernel_rfl) (by kernel_rfl) (by kernel_rfl) (by kernel_rfl) (fun _ _ _ h => h) (.inl ⟨by kernel_rfl, ?_⟩) hk ?_
    · intro wx hSw
      clear hSw hk
      go_simp
      try first | with_reducible rfl | kernel_rfl
    simp only [Act.put, List.getElem_toArray, List.getElem_cons_succ, List.getElem_cons_zero, List.setIfInBounds_toArray, List.set_cons_succ, List.set_cons_zero]
    refine Wl.take (i := 12) (v := .pointer (some ⟨p, 0, none⟩)) [13, 14, 15, 18, 19, 20, 21] rfl (by kernel_rfl) (by kernel_rfl) (by kernel_rfl) (by kernel_rfl) (by kernel_rfl) (fun _ _ _ h => h) (.inl ⟨by kernel_rfl, ?_⟩) hk ?_
    · intro wx hSw
      clear hSw hk
      go_simp
      try first | with_reducible rfl | kernel_rfl
    simp only [Act.put, List.getElem_toArray, List.getElem_cons_succ, List.getElem_cons_zero, List.setIfInBounds_toArray, List.set_cons_succ, List.set_cons_zero]
    refine Wl.take (i := 13) (v := .slice a ls.length c) [14, 15, 18, 19, 20, 21] rfl (by kernel_rfl) (by kernel_rfl) (by kernel_rfl) (by kernel_rfl) (by kernel_rfl) (fun _ _ _ h => h) (.inl ⟨by kernel_rfl, ?_⟩) hk ?_
    · intro wx hSw
      have cc := hSw.1.1
      clear hSw hk
      go_simp
      try first | with_reducible rfl | kernel_rfl
    simp only [Act.put, List.getElem_toArray, List.getElem_cons_succ, List.getElem_cons_zero, List.setIfInBounds_toArray, List.set_cons_succ, List.set_cons_zero]
    refine Wl.take (i := 14) (v := .int .i64 ls.length) [15, 18, 19, 20, 21] rfl (by kernel_rfl) (by kernel_rfl) (by kernel_rfl) (by kernel_rfl) (by kernel_rfl) (fun _ _ _ h => h) (.inl ⟨by kernel_rfl, ?_⟩) hk ?_
    · intro wx hSw
      clear hSw hk
      go_simp
      try first | with_reducible rfl | kernel_rfl
    simp only [Act.put, List.getElem_toArray, List.getElem_cons_succ, List.getElem_cons_zero, List.setIfInBounds_toArray, List.set_cons_succ, List.set_cons_zero]
    refine Wl.take (i := 15) (v := .slice a ls.length ls.length) [18, 19, 20, 21] rfl (by kernel_rfl) (by kernel_rfl) (by kernel_rfl) (by kernel_rfl) (by kernel_rfl) (fun _ _ _ h => h) (.inl ⟨by kernel_rfl, ?_⟩) hk ?_
    · intro wx hSw
      clear hSw hk
      go_simp
      try first | with_reducible rfl | kernel_rfl
    simp only [Act.put, List.getElem_toArray, List.getElem_cons_succ, List.getElem_cons_zero, List.setIfInBounds_toArray, List.set_cons_succ, List.set_cons_zero]
    refine Wl.take (i := 16) (v := .agg #[.int .i64 x.src, .int .i64 x.dst, .string x.bytes]) [17, 18, 19, 20, 21] rfl (by kernel_rfl) (by kernel_rfl) (by kernel_rfl) (by kernel_rfl) (by kernel_rfl) (fun _ _ _ h => h) (yieldsIf_load_mid (by rfl) _ _ rfl _ _ rfl (letC x) _ (fun w h => Wl.rng_of_row h.1.2) Try.underlying37 rfl (by kernel_rfl)) hk ?_
    simp only [Act.put, List.getElem_toArray, List.getElem_cons_succ, List.getElem_cons_zero, List.setIfInBounds_toArray, List.set_cons_succ, List.set_cons_zero]
    refine Wl.one (i := 17) (by kernel_rfl) rfl (fun K hK => ?_)
    go_simp
    refine hK.out _ _ (Wl.Kn.on ⟨HA.out.c0, HXA.out⟩ trivial) (fun hk => ?_)
    clear hK K
    refine Wl.one (i := 18) (by kernel_rfl) rfl (fun K hK => ?_)
    refine stepGx letC_len Try.underlying27 rfl (by decide) info_rlet rfl (.tmp 51) (.tmp 53) rfl a ls rfl (HA.out.2.1.sl letC_len).full (.slice (some ⟨W1.heap.size, 0, none⟩) 1 1) [x] rfl (SlR.one letC_len W1.drew W1.heap.size rfl #[.int .i64 x.src, .int .i64 x.dst, .string x.bytes] x rfl) (Nat.lt_succ_self 0) (fun y hy => letC_one y) (by unfold maxLen; simp; omega) (by simp; omega) ?_
    intro g5 c5 w5 own5 hgr5
    have HF := Lib.hid (new_fin (by decide) HA.out HBA.out HBW.out own5 hgr5)
    have hp5 : w5.heap[p]? = some (.cells #[.slice a ls.length c] 29 (0, 0)) := (hgr5.block p (row_lt HA.out.1) (fun e => by cases e)).trans HA.out.1
    have ck : w5.cell? ⟨p, 0, none⟩ = some (.slice a ls.length c) := (cell_of_row w5 _ 0 _ _ _ hp5).trans rfl
    have fk : w5.frozen? ⟨p, 0, none⟩ = false := frozen_of_row w5 _ 0 _ _ hp5
    have hx5 := (hgr5.block _ (row_lt HXA.out) (fun e => by cases e)).trans HXA.out
    clear own5 hgr5 hp5
    refine hK.out _ _ (Wl.Kn.on ⟨ck, hx5⟩ trivial) (fun hk => ?_)
    clear hK K hx5
    refine Wl.take (i := 19) (v := .pointer (some ⟨p, 0, none⟩)) [20, 21] rfl (by kernel_rfl) (by kernel_rfl) (by kernel_rfl) (by kernel_rfl) (by kernel_rfl) (fun _ _ _ h => h) (.inl ⟨by kernel_rfl, ?_⟩) hk ?_
    · intro wx hSw
      clear hSw hk
      go_simp
      try first | with_reducible rfl | kernel_rfl
    simp only [Act.put, List.getElem_toArray, List.getElem_cons_succ, List.getElem_cons_zero, List.setIfInBounds_toArray, List.set_cons_succ, List.set_cons_zero]
    refine Wl.take (i := 20) (v := .pointer (some ⟨p, 0, none⟩)) [21] rfl (by kernel_rfl) (by kernel_rfl) (by kernel_rfl) (by kernel_rfl) (by kernel_rfl) (fun _ _ _ h => h) (.inl ⟨by kernel_rfl, ?_⟩) hk ?_
    · intro wx hSw
      clear hSw hk
      go_simp
      try first | with_reducible rfl | kernel_rfl
    simp only [Act.put, List.getElem_toArray, List.getElem_cons_succ, List.getElem_cons_zero, List.setIfInBounds_toArray, List.set_cons_succ, List.set_cons_zero]
    refine Wl.one (i := 21) (by kernel_rfl) rfl (fun K hK => ?_)
    go_simp
    refine hK.out _ _ (Wl.Kn.off (by kernel_rfl) trivial) (fun hk => ?_)
    clear hK K
    refine Wl.done (by kernel_rfl) ?_ _
    clear hk
    go_wp2
    go_ret
    exact ⟨rfl, _, HF.out⟩
set_option maxHeartbeats 4000000 in
theorem rdouble_any {B p : Nat} {v : Value} {ls : List Letr} (i : Int) (w : World) (h : NetR w B p v ls) (hB : B ≤ w.heap.size) (hok : okL ls) :
    Calls Try.prog 12 #[.pointer (some ⟨p, 0, none⟩), .int .i64 i] w fun e w' => e = .returned (.int .i64 (dblE ls i)) ∧ NetC 29 37 B p v (dblL ls i) w w' := by
  have HH := Lib.hid h
  have c0 := h.c0
  have hl : ls.length ≤ 1000 := by have := hok.1; omega
  obtain ⟨a, c, rfl⟩ := own_slice h.2.1
  clear h
  by_cases g1 : i < 0
  · have g : ¬ inP ls i := fun q => by have := q.1; omega
    rw [show dblE ls i = 4 from if_neg g, show dblL ls i = ls from if_neg g]
    clear g
    go_enter Try.func12, Try.ntmps12
    go_wp2
    go_ret
    exact ⟨rfl, NetC.same HH.out (Below.refl _ _)⟩
  by_cases g2 : (ls.length : Int) ≤ i
  · have g : ¬ inP ls i := fun q => by have := q.2; omega
    rw [show dblE ls i = 4 from if_neg g, show dblL ls i = ls from if_neg g]
    clear g
    go_enter Try.func12, Try.ntmps12
    go_wp2
    go_ret
    exact ⟨rfl, NetC.same HH.out (Below.refl _ _)⟩
  have g : inP ls i := ⟨by omega, by omega⟩
  obtain ⟨q1, q2⟩ := sendE_dbl hok g
  rw [← q1, ← q2]
  obtain ⟨k, rfl⟩ : ∃ k : Nat, i = k := ⟨i.toNat, by omega⟩
  have hk : k < ls.length := by omega
  obtain ⟨gb, cp, hv, -, -, -, -, a0, a1, a2⟩ := let_cells HH.out.2.1 hk
  simp only [Value.slice.injEq] at hv
  obtain ⟨rfl, -, rfl⟩ := hv
  rw [Int.toNat_natCast]
  obtain ⟨x, hx⟩ : ∃ x, ls.getD k zLet = x := ⟨_, rfl⟩
  rw [hx] at a0 a1 a2 ⊢
  have hki : (k : Int) < (ls.length : Int) := by omega
  clear g hx q1 q2
  go_enter Try.func12, Try.ntmps12
  go_wp2_with fail
  refine (rsend_any x _ HH.out hB hl).mono ?_
  rintro e w2 ⟨rfl, q1⟩
  have HF := Lib.hid q1
  clear q1
  go_wp2_with fail
  go_ret
  exact ⟨rfl, HF.out⟩
set_option maxHeartbeats 4000000 in
theorem rtake_any {B p : Nat} {v : Value} {ls : List Letr} (i : Int) (w : World) (h : NetR w B p v ls) (hB : B ≤ w.heap.size) (hl : ls.length ≤ 1000) :
    Calls Try.prog 10 #[.pointer (some ⟨p, 0, none⟩), .int .i64 i] w fun e w' => e = .returned (.tuple #[.agg (lA (takeX ls i)), .int .i64 (takeE ls i)]) ∧ NetC 29 37 B p v (takeL ls i) w w' := by
  obtain ⟨W1, hW1⟩ : ∃ q, w.alloc (.cells #[.int .i64 0, .int .i64 0, .string { data := #[] }] 37) = q := ⟨_, rfl⟩
  have hb1 : Below w.heap.size w W1 := by rw [← hW1]; exact (Below.refl _ _).alloc (Nat.le_refl _) _
  have hx1 : W1.heap[w.heap.size]? = some (.cells zLA 37 (0, 0)) := by rw [← hW1]; exact heap_alloc_new _ _
  have HH := Lib.hid h
  have HN1 := Lib.hid (h.below hb1)
  have HB1 := Lib.hid hb1
  have HX1 := Lib.hid hx1
  have HBW := Lib.hid hB
  have c1 := HN1.out.c0
  obtain ⟨a, c, rfl⟩ := own_slice h.2.1
  clear hb1 hB
  obtain ⟨W9, hW9⟩ : ∃ q, W1.setRow w.heap.size zLA = q := ⟨_, rfl⟩
  have hq9 : W9.heap[w.heap.size]? = some (.cells zLA 37 (0, 0)) := by rw [← hW9]; exact setRow_heap _ _ _ _ _ _ hx1
  have HB9 : Hid (Below w.heap.size w W9) := Lib.hid (by rw [← hW9]; exact below_row HB1.out (Nat.le_refl _) _)
  by_cases g1 : i < 0
  · have g : ¬ inP ls i := fun q => by have := q.1; omega
    rw [show takeE ls i = 4 from if_neg g, show takeX ls i = zLet from if_neg g, show takeL ls i = ls from if_neg g]
    clear g h
    go_enter Try.func10, Try.ntmps10
    go_wp2_with (first | (with_reducible refine wpList_store_row rfl 37 (.tmp 4) (.tmp 18) rfl w.heap.size zLA rfl rfl 37 _ hx1 (by kernel_rfl) rfl (by kernel_rfl) ?_; rw [hW9]; clear hW9) | fail)
    refine bodyPost_ret (v := .tuple #[.agg zLA, .int .i64 4]) (results_cell2 rfl _ _ w.heap.size 37 _ (0, 0) _ rfl hq9 Try.underlying37 rfl (by kernel_rfl) rfl) rfl ?_
    exact ⟨rfl, NetC.same HH.out HB9.out⟩
  by_cases g2 : (ls.length : Int) ≤ i
  · have g : ¬ inP ls i := fun q => by have := q.2; omega
    rw [show takeE ls i = 4 from if_neg g, show takeX ls i = zLet from if_neg g, show takeL ls i = ls from if_neg g]
    clear g h
    go_enter Try.func10, Try.ntmps10
    go_wp2_with (first | (with_reducible refine wpList_store_row rfl 37 (.tmp 4) (.tmp 18) rfl w.heap.size zLA rfl rfl 37 _ hx1 (by kernel_rfl) rfl (by kernel_rfl) ?_; rw [hW9]; clear hW9) | fail)
    refine bodyPost_ret (v := .tuple #[.agg zLA, .int .i64 4]) (results_cell2 rfl _ _ w.heap.size 37 _ (0, 0) _ rfl hq9 Try.underlying37 rfl (by kernel_rfl) rfl) rfl ?_
    exact ⟨rfl, NetC.same HH.out HB9.out⟩
  clear hq9 HB9 hW9 W9
  have g : inP ls i := ⟨by omega, by omega⟩
  rw [show takeE ls i = 0 from if_pos g, show takeX ls i = ls.getD i.toNat zLet from if_pos g, show takeL ls i = ls.take i.toNat ++ ls.drop (i.toNat + 1) from if_pos g]
  obtain ⟨k, rfl⟩ : ∃ k : Nat, i = k := ⟨i.toNat, by omega⟩
  have hk : k < ls.length := by omega
  rw [Int.toNat_natCast]
  obtain ⟨gb, cp, hv, hc1, hc2, -, -, a0, a1, a2⟩ := let_cells HN1.out.2.1 hk
  simp only [Value.slice.injEq] at hv
  obtain ⟨rfl, -, rfl⟩ := hv
  obtain ⟨x, hx⟩ : ∃ x, ls.getD k zLet = x := ⟨_, rfl⟩
  rw [hx] at a0 a1 a2 ⊢
  have hki : (k : Int) < (ls.length : Int) := by omega
  obtain ⟨W2, hW2⟩ : ∃ q, W1.alloc (.cells #[.int .i64 x.src, .int .i64 x.dst, .string x.bytes] 37) = q := ⟨_, rfl⟩
  have hb2 : Below W1.heap.size W1 W2 := by rw [← hW2]; exact (Below.refl _ _).alloc (Nat.le_refl _) _
  have HX2 : Hid (W2.heap[W1.heap.size]? = some (.cells (lA x) 37 (0, 0))) := Lib.hid (by rw [← hW2]; exact heap_alloc_new _ _)
  have HN2 := Lib.hid (HN1.out.below hb2)
  have HB2 := Lib.hid (HB1.out.trans (hb2.mono HB1.out.size))
  have HX12 := Lib.hid ((hb2.block _ (row_lt HX1.out)).trans HX1.out)
  have c2 := HN2.out.c0
  have HSL := Lib.hid (HN2.out.2.1.sl letC_len)
  have HD : Hid (NetR W2.drew B p (.slice (some ⟨gb, 0, none⟩) ls.length c) ls) := Lib.hid (HN2.out.below ((Below.refl W2.heap.size W2).drew))
  obtain ⟨AD, hAD⟩ : ∃ q, (if c = k + 1 then (some (⟨gb, 0, none⟩ : Addr)) else some ⟨gb, (k + 1) * 3, none⟩) = q := ⟨_, rfl⟩
  have HTK : Hid (SlR 3 letC W2.drew (.slice (some ⟨gb, 0, none⟩) k c) (ls.take k)) := Lib.hid ((HD.out.2.1.sl letC_len).takes k (by omega))
  have HDP : Hid (SlR 3 letC W2.drew (.slice AD (ls.length - (k + 1)) (c - (k + 1))) (ls.drop (k + 1))) := Lib.hid (by
    rw [← hAD]
    by_cases hc : c = k + 1
    · rw [if_pos hc, show ls.length - (k + 1) = 0 by omega, show c - (k + 1) = 0 by omega, List.drop_of_length_le (by omega)]
      exact SlR.none_left _ _
    · rw [if_neg hc]
      exact (HD.out.2.1.sl letC_len).drops (k + 1) (by omega))
  have hkc : k ≤ c := by omega
  have hkc1 : k + 1 ≤ c := by omega
  have hkl1 : k + 1 ≤ ls.length := by omega
  have hb0 : (0 : Int) ≤ (k : Int) + 1 := by omega
  have hb1 : ¬ (ls.length : Int) < (k : Int) + 1 := by omega
  clear g hx hb2 hx1 h
  go_enter Try.func10, Try.ntmps10
  go_upto_region 4 with fail
  refine Wl.start 18 (fun u => u.cell? ⟨p, 0, none⟩ = some (.slice (some ⟨gb, 0, none⟩) ls.length c)) (fun _ => True) (by kernel_rfl) c2 trivial (fun hk => ?_)
  refine Wl.take (i := 0) (v := .pointer (some ⟨p, 0, none⟩)) [16, 17, 18] rfl (by kernel_rfl) (by kernel_rfl) (by kernel_rfl) (by kernel_rfl) (by kernel_rfl) (fun _ _ _ h => h) (.inl ⟨by kernel_rfl, ?_⟩) hk ?_
  · intro wx hSw
    clear hSw hk
    go_simp
    try first | with_reducible rfl | kernel_rfl
  simp only [Act.put, List.getElem_toArray, List.getElem_cons_succ, List.getElem_cons_zero, List.setIfInBounds_toArray, List.set_cons_succ, List.set_cons_zero]
  refine Wl.take (i := 1) (v := .pointer (some ⟨p, 0, none⟩)) [2, 3, 4, 6, 7, 15, 16, 17, 18] rfl (by kernel_rfl) (by kernel_rfl) (by kernel_rfl) (by kernel_rfl) (by kernel_rfl) (fun _ _ _ h => h) (.inl ⟨by kernel_rfl, ?_⟩) hk ?_
  · intro wx hSw
    clear hSw hk
    go_simp
    try first | with_reducible rfl | kernel_rfl
  simp only [Act.put, List.getElem_toArray, List.getElem_cons_succ, List.getElem_cons_zero, List.setIfInBounds_toArray, List.set_cons_succ, List.set_cons_zero]
  refine Wl.take (i := 2) (v := .pointer (some ⟨p, 0, none⟩)) [3, 4, 6, 7, 15, 16, 17, 18] rfl (by kernel_rfl) (by kernel_rfl) (by kernel_rfl) (by kernel_rfl) (by kernel_rfl) (fun _ _ _ h => h) (.inl ⟨by kernel_rfl, ?_⟩) hk ?_
  · intro wx hSw
    clear hSw hk
    go_simp
    try first | with_reducible rfl | kernel_rfl
  simp only [Act.put, List.getElem_toArray, List.getElem_cons_succ, List.getElem_cons_zero, List.setIfInBounds_toArray, List.set_cons_succ, List.set_cons_zero]
  refine Wl.take (i := 3) (v := .pointer (some ⟨p, 0, none⟩)) [4, 6, 7, 15, 16, 17, 18] rfl (by kernel_rfl) (by kernel_rfl) (by kernel_rfl) (by kernel_rfl) (by kernel_rfl) (fun _ _ _ h => h) (.inl ⟨by kernel_rfl, ?_⟩) hk ?_
  · intro wx hSw
    clear hSw hk
    go_simp
    try first | with_reducible rfl | kernel_rfl
  simp only [Act.put, List.getElem_toArray, List.getElem_cons_succ, List.getElem_cons_zero, List.setIfInBounds_toArray, List.set_cons_succ, List.set_cons_zero]
  refine Wl.take (i := 4) (v := .slice (some ⟨gb, 0, none⟩) ls.length c) [6, 7, 15, 16, 17, 18] rfl (by kernel_rfl) (by kernel_rfl) (by kernel_rfl) (by kernel_rfl) (by kernel_rfl) (fun _ _ _ h => h) (.inl ⟨by kernel_rfl, ?_⟩) hk ?_
  · intro wx hSw
    have cc := hSw.1
    clear hSw hk
    go_simp
    try first | with_reducible rfl | kernel_rfl
  simp only [Act.put, List.getElem_toArray, List.getElem_cons_succ, List.getElem_cons_zero, List.setIfInBounds_toArray, List.set_cons_succ, List.set_cons_zero]
  refine Wl.take (i := 5) (v := .int .i64 (k : Int)) [6, 7, 15, 16, 17, 18] rfl (by kernel_rfl) (by kernel_rfl) (by kernel_rfl) (by kernel_rfl) (by kernel_rfl) (fun _ _ _ h => h) (.inl ⟨by kernel_rfl, ?_⟩) hk ?_
  · intro wx hSw
    clear hSw hk
    go_simp
    try first | with_reducible rfl | kernel_rfl
  simp only [Act.put, List.getElem_toArray, List.getElem_cons_succ, List.getElem_cons_zero, List.setIfInBounds_toArray, List.set_cons_succ, List.set_cons_zero]
  refine Wl.take (i := 6) (v := .slice (some ⟨gb, 0, none⟩) k c) [7, 15, 16, 17, 18] rfl (by kernel_rfl) (by kernel_rfl) (by kernel_rfl) (by kernel_rfl) (by kernel_rfl) (fun _ _ _ h => h) (.inl ⟨by kernel_rfl, ?_⟩) hk ?_
  · intro wx hSw
    clear hSw hk
    go_simp
    try first | with_reducible rfl | kernel_rfl
  simp only [Act.put, List.getElem_toArray, List.getElem_cons_succ, List.getElem_cons_zero, List.setIfInBounds_toArray, List.set_cons_succ, List.set_cons_zero]
  refine Wl.take (i := 8) (v := .pointer (some ⟨p, 0, none⟩)) [9, 10, 11, 14, 15, 16, 17, 18] rfl (by kernel_rfl) (by kernel_rfl) (by kernel_rfl) (by kernel_rfl) (by kernel_rfl) (fun _ _ _ h => h) (.inl ⟨by kernel_rfl, ?_⟩) hk ?_
  · intro wx hSw
    clear hSw hk
    go_simp
    try first | with_reducible rfl | kernel_rfl
  simp only [Act.put, List.getElem_toArray, List.getElem_cons_succ, List.getElem_cons_zero, List.setIfInBounds_toArray, List.set_cons_succ, List.set_cons_zero]
  refine Wl.take (i := 9) (v := .pointer (some ⟨p, 0, none⟩)) [10, 11, 14, 15, 16, 17, 18] rfl (by kernel_rfl) (by kernel_rfl) (by kernel_rfl) (by kernel_rfl) (by kernel_rfl) (fun _ _ _ h => h) (.inl ⟨by kernel_rfl, ?_⟩) hk ?_
  · intro wx hSw
    clear hSw hk
    go_simp
    try first | with_reducible rfl | kernel_rfl
  simp only [Act.put, List.getElem_toArray, List.getElem_cons_succ, List.getElem_cons_zero, List.setIfInBounds_toArray, List.set_cons_succ, List.set_cons_zero]
  refine Wl.take (i := 10) (v := .pointer (some ⟨p, 0, none⟩)) [11, 14, 15, 16, 17, 18] rfl (by kernel_rfl) (by kernel_rfl) (by kernel_rfl) (by kernel_rfl) (by kernel_rfl) (fun _ _ _ h => h) (.inl ⟨by kernel_rfl, ?_⟩) hk ?_
  · intro wx hSw
    clear hSw hk
    go_simp
    try first | with_reducible rfl | kernel_rfl
  simp only [Act.put, List.getElem_toArray, List.getElem_cons_succ, List.getElem_cons_zero, List.setIfInBounds_toArray, List.set_cons_succ, List.set_cons_zero]
  refine Wl.take (i := 11) (v := .slice (some ⟨gb, 0, none⟩) ls.length c) [14, 15, 16, 17, 18] rfl (by kernel_rfl) (by kernel_rfl) (by kernel_rfl) (by kernel_rfl) (by kernel_rfl) (fun _ _ _ h => h) (.inl ⟨by kernel_rfl, ?_⟩) hk ?_
  · intro wx hSw
    have cc := hSw.1
    clear hSw hk
    go_simp
    try first | with_reducible rfl | kernel_rfl
  simp only [Act.put, List.getElem_toArray, List.getElem_cons_succ, List.getElem_cons_zero, List.setIfInBounds_toArray, List.set_cons_succ, List.set_cons_zero]
  refine Wl.take (i := 12) (v := .int .i64 (k : Int)) [13, 14, 15, 16, 17, 18] rfl (by kernel_rfl) (by kernel_rfl) (by kernel_rfl) (by kernel_rfl) (by kernel_rfl) (fun _ _ _ h => h) (.inl ⟨by kernel_rfl, ?_⟩) hk ?_
  · intro wx hSw
    clear hSw hk
    go_simp
    try first | with_reducible rfl | kernel_rfl
  simp only [Act.put, List.getElem_toArray, List.getElem_cons_succ, List.getElem_cons_zero, List.setIfInBounds_toArray, List.set_cons_succ, List.set_cons_zero]
  refine Wl.take (i := 13) (v := .int .i64 ((k : Int) + 1)) [14, 15, 16, 17, 18] rfl (by kernel_rfl) (by kernel_rfl) (by kernel_rfl) (by kernel_rfl) (by kernel_rfl) (fun _ _ _ h => h) (.inl ⟨by kernel_rfl, ?_⟩) hk ?_
  · intro wx hSw
    have hwr : IntKind.i64.wrap ((k : Int) + 1) = (k : Int) + 1 := by rw [IntKind.wrap_i64]; omega
    clear hSw hk
    go_simp
    try first | with_reducible rfl | kernel_rfl
  simp only [Act.put, List.getElem_toArray, List.getElem_cons_succ, List.getElem_cons_zero, List.setIfInBounds_toArray, List.set_cons_succ, List.set_cons_zero]
  refine Wl.take (i := 14) (v := .slice AD (ls.length - (k + 1)) (c - (k + 1))) [15, 16, 17, 18] rfl (by kernel_rfl) (by kernel_rfl) (by kernel_rfl) (by kernel_rfl) (by kernel_rfl) (fun _ _ _ h => h) (.inl ⟨by kernel_rfl, ?_⟩) hk ?_
  · intro wx hSw
    rw [← hAD]
    by_cases hc : c = k + 1
    · subst hc
      clear hSw hk
      go_simp
      try first | with_reducible rfl | kernel_rfl
    clear hSw hk
    go_simp
    try first | with_reducible rfl | kernel_rfl
  simp only [Act.put, List.getElem_toArray, List.getElem_cons_succ, List.getElem_cons_zero, List.setIfInBounds_toArray, List.set_cons_succ, List.set_cons_zero]
  refine Wl.one (i := 7) (by kernel_rfl) rfl (fun K hK => ?_)
  refine stepRq letC_len Try.underlying27 rfl (by decide) info_rlet rfl (.const (.slice none 0 0)) (.tmp 32) rfl W2.heap.size (.slice none 0 0) ([] : List Letr) rfl (OwnR.nil _ _ _) (.slice (some ⟨gb, 0, none⟩) k c) (ls.take k) rfl HTK.out (fun y hy => letC_one y) (by rw [List.length_take]; unfold maxLen; simp; omega) (by rw [List.length_take]; simp; omega) (by show W2.heap.size ≤ W2.heap.size; exact Nat.le_refl _) ?_
  intro v3 w3 own3 hgr3 hor3
  rw [List.nil_append] at own3
  obtain ⟨a3, c3, rfl⟩ := own_slice own3
  have hgr3n : W2.drew.grownBy w3 none := hgr3
  have hb3 : Below W2.heap.size W2.drew w3 := ⟨hgr3n.os, hgr3n.tape, hgr3n.output, hgr3n.size, fun q hq => hgr3n.block q hq (fun e => by cases e)⟩
  have HN3 := Lib.hid (HD.out.below hb3)
  have HO3 := Lib.hid own3
  have HG3 := Lib.hid hgr3n
  have HDP3 := Lib.hid (HDP.out.below hb3 (Nat.le_refl _))
  have HS3 : Hid (W2.heap.size ≤ w3.heap.size) := Lib.hid hb3.size
  clear own3 hgr3 hor3 hgr3n hb3
  refine hK.out _ _ (Wl.Kn.on HN3.out.c0 trivial) (fun hk => ?_)
  clear hK K
  refine Wl.one (i := 15) (by kernel_rfl) rfl (fun K hK => ?_)
  refine stepRq letC_len Try.underlying27 rfl (by decide) info_rlet rfl (.tmp 33) (.tmp 40) rfl W2.heap.size (.slice a3 (ls.take k).length c3) (ls.take k) rfl HO3.out (.slice AD (ls.length - (k + 1)) (c - (k + 1))) (ls.drop (k + 1)) rfl HDP3.out (fun y hy => letC_one y) (by rw [List.length_take, List.length_drop]; unfold maxLen; omega) (by rw [List.length_take, List.length_drop]; omega) HS3.out ?_
  intro v4 w4 own4 hgr4 hor4
  obtain ⟨n4, hn4⟩ : ∃ q, (ls.take k ++ ls.drop (k + 1)).length = q := ⟨_, rfl⟩
  obtain ⟨a4, c4, hv4⟩ := own_slice own4
  rw [hn4] at hv4
  subst hv4
  have hrow3 : ∀ q, (Value.slice a3 (ls.take k).length c3).ownBlock = some q → W2.drew.heap.size ≤ q := fun q hq => (World.ownsRow.lt HO3.out q hq).1
  have hg4 : W2.drew.grownBy w4 none := grown_two HG3.out hgr4 hrow3
  have HF := Lib.hid (new_fin (by decide) HD.out HB2.out.drew HBW.out own4 hg4)
  have hp4 := (hg4.block p (row_lt HD.out.1) (fun e => by cases e)).trans HD.out.1
  have ck : w4.cell? ⟨p, 0, none⟩ = some (.slice (some ⟨gb, 0, none⟩) ls.length c) := (cell_of_row w4 _ 0 _ _ _ hp4).trans rfl
  have fk : w4.frozen? ⟨p, 0, none⟩ = false := frozen_of_row w4 _ 0 _ _ hp4
  have HX4 := Lib.hid ((hg4.block _ (row_lt (w := W2.drew) HX2.out) (fun e => by cases e)).trans HX2.out)
  have HX14 := Lib.hid ((hg4.block _ (row_lt (w := W2.drew) HX12.out) (fun e => by cases e)).trans HX12.out)
  have HNB : Hid (W1.heap.size ≠ p ∧ w.heap.size ≠ p) := Lib.hid (by have := row_lt HH.out.1; have := HB1.out.size; omega)
  have HUP : Hid (∀ q, (Value.slice a4 n4 c4).ownBlock = some q → w.heap.size < q) := Lib.hid (fun q hq => by
    have h1 := (World.ownsRow.lt own4 q hq).1
    have h2 := row_lt HX12.out
    omega)
  clear own4 hgr4 hor4 hrow3 hg4 hp4
  refine hK.out _ _ (Wl.Kn.on ck trivial) (fun hk => ?_)
  clear hK K
  refine Wl.take (i := 16) (v := .pointer (some ⟨p, 0, none⟩)) [17, 18] rfl (by kernel_rfl) (by kernel_rfl) (by kernel_rfl) (by kernel_rfl) (by kernel_rfl) (fun _ _ _ h => h) (.inl ⟨by kernel_rfl, ?_⟩) hk ?_
  · intro wx hSw
    clear hSw hk
    go_simp
    try first | with_reducible rfl | kernel_rfl
  simp only [Act.put, List.getElem_toArray, List.getElem_cons_succ, List.getElem_cons_zero, List.setIfInBounds_toArray, List.set_cons_succ, List.set_cons_zero]
  refine Wl.take (i := 17) (v := .pointer (some ⟨p, 0, none⟩)) [18] rfl (by kernel_rfl) (by kernel_rfl) (by kernel_rfl) (by kernel_rfl) (by kernel_rfl) (fun _ _ _ h => h) (.inl ⟨by kernel_rfl, ?_⟩) hk ?_
  · intro wx hSw
    clear hSw hk
    go_simp
    try first | with_reducible rfl | kernel_rfl
  simp only [Act.put, List.getElem_toArray, List.getElem_cons_succ, List.getElem_cons_zero, List.setIfInBounds_toArray, List.set_cons_succ, List.set_cons_zero]
  refine Wl.one (i := 18) (by kernel_rfl) rfl (fun K hK => ?_)
  go_simp
  refine hK.out _ _ (Wl.Kn.off (by kernel_rfl) trivial) (fun hk => ?_)
  clear hK K
  refine Wl.done (by kernel_rfl) ?_ _
  clear hk
  obtain ⟨W5, hW5⟩ : ∃ q, w4.setCell ⟨p, 0, none⟩ (.slice a4 n4 c4) = q := ⟨_, rfl⟩
  have hf := HF.out
  rw [hW5] at hf ⊢
  have hx5 : W5.heap[W1.heap.size]? = some (.cells (lA x) 37 (0, 0)) := by rw [← hW5, Below.heap_setCell _ _ _ _ (by simpa using HNB.out.1)]; exact HX4.out
  have hr5 : W5.heap[w.heap.size]? = some (.cells zLA 37 (0, 0)) := by rw [← hW5, Below.heap_setCell _ _ _ _ (by simpa using HNB.out.2)]; exact HX14.out
  obtain ⟨W6, hW6⟩ : ∃ q, W5.setRow w.heap.size (lA x) = q := ⟨_, rfl⟩
  have hq6 : W6.heap[w.heap.size]? = some (.cells (lA x) 37 (0, 0)) := by rw [← hW6]; exact setRow_heap _ _ _ _ _ _ hr5
  have HFF : Hid (NetV 29 37 B p (.slice (some ⟨gb, 0, none⟩) ls.length c) (.slice a4 n4 c4) (ls.take k ++ ls.drop (k + 1)) w W6) := Lib.hid (by
    have hbk : ∀ q, q ≠ w.heap.size → W6.heap[q]? = W5.heap[q]? := fun q hq => by rw [← hW6]; exact setRow_other _ _ _ _ hq
    have hs6 : W5.heap.size ≤ W6.heap.size := by rw [← hW6]; simp [World.setRow]
    have hos : W6.os = W5.os ∧ W6.tape = W5.tape ∧ W6.output = W5.output := by rw [← hW6]; exact ⟨rfl, rfl, rfl⟩
    exact hf.put (by have := row_lt HH.out.1; omega) (fun q hq => by have := HUP.out q hq; omega) (Nat.le_refl _) hbk hs6 hos)
  clear hf ck fk
  go_wp2_with (first
    | (with_reducible refine wpList_load_row rfl 37 (.tmp 6) rfl W1.heap.size rfl 37 (lA x) (0, 0) _ hx5 Try.underlying37 rfl (by kernel_rfl) ?_)
    | (with_reducible refine wpList_store_row rfl 37 (.tmp 4) (.tmp 44) rfl w.heap.size (lA x) rfl rfl 37 _ hr5 (by kernel_rfl) rfl (lA_one x) ?_; rw [hW6]; clear hW6))
  refine bodyPost_ret (v := .tuple #[.agg (lA x), .int .i64 0]) (results_cell2 rfl _ _ w.heap.size 37 _ (0, 0) _ rfl hq6 Try.underlying37 rfl (by kernel_rfl) rfl) rfl ?_
  exact ⟨rfl, _, HFF.out⟩
end Nt
end Go.Proofs.Ytgmndcfeifgapaa
