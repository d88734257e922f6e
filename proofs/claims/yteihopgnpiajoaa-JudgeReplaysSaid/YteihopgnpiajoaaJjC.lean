/- Package judge: a trace's open, step, as landed. No condition. -/
import Derived.Test.YteihopgnpiajoaaJjB
namespace Go.Proofs.Yteihopgnpiajoaa
open Go.ChangeShapes Go.WideShapes Go.ChangeAt Go.RowKit Go.Deep
set_option linter.unusedVariables false
set_option maxRecDepth 100000
set_option linter.unusedSimpArgs false
namespace Jj
variable {w w' : World} {p m n : Nat} {lim : Int} {cs : List Cx}
def openE (cs : List Cx) (s : Sx) : Int := if isB cs s = true then 3 else if otherB cs s = true then 220 else if 8 ≤ manyN cs s.node then 6 else 0
def Opened (p m n : Nat) (lim : Int) (cs : List Cx) (s : Sx) (w : World) (e : Ending) (w' : World) : Prop := e = .returned (.int .i64 (openE cs s)) ∧ (openE cs s = 0 → Tw w' p m (n + 1) lim (cs ++ [⟨s.node, s.tok⟩])) ∧ Only (fun k => k = p ∨ k = m) w w'
theorem MIput {f : Int → Option Value} (h : MI w m n f) (hn : n < 9223372036854775807) (t : Int) (ht : Mp.okI t) (z : Int) : ∃ w', (Instr.mapUpdate mT (.map (some m)) (.int .i64 t) (.int .i64 z)).run Try.prog w = .ok () w' ∧ MI w' m (n + 1) (Mp.upd f t (some (.int .i64 z))) ∧ w.grownBy w' (some m) :=
  h.put KI Try.underlying61 hn ht _
set_option maxHeartbeats 4000000 in
theorem open_any (s : Sx) (j : Nat) (w : World) (h : Tw w p m n lim cs) (hs : s.node = (j : Int)) (hj : 1 ≤ j ∧ j ≤ 7) (hk : Mp.okI s.tok) (hn : n < 9223372036854775807) (hok : openE cs s = 0 → OkC lim (cs ++ [⟨s.node, s.tok⟩])) :
    Calls Try.prog 45 #[.pointer (some ⟨p, 0, none⟩), .agg #[.int .i64 s.kind, .int .i64 s.node, .int .i64 s.tok]] w (Opened p m n lim cs s w) := by
  have hj8 : j < 8 := by omega
  obtain ⟨oz, hoz⟩ : ∃ x, ownZ cs s.tok = x := ⟨_, rfl⟩
  obtain ⟨z, hz⟩ : ∃ z : Int, (manyN cs (j : Int) : Int) = z := ⟨_, rfl⟩
  have eI : isB cs s = decide (oz = s.node) := by rw [is_own h.2.2 s (by omega), hoz]
  have eO : otherB cs s = (!decide (oz = 0) && !decide (oz = s.node)) := by rw [other_own h.2.2 s, hoz]
  have hzr : 0 ≤ z ∧ z ≤ 8 := by have := h.2.2.many (j : Int); omega
  have HK := Lib.hid hk
  have HO := Lib.hid hoz
  have HZ := Lib.hid hz
  have HS := Lib.hid hs
  have HOK := Lib.hid hok
  have HOE : Hid (openE cs s = if oz = s.node then 3 else if oz ≠ 0 then 220 else if 8 ≤ z then 6 else 0) := Lib.hid (by
    unfold openE
    rw [eI, eO]
    by_cases a : oz = s.node
    · rw [if_pos (decide_eq_true a), if_pos a]
    · have e1 : decide (oz = s.node) = false := decide_eq_false a
      rw [e1, if_neg (by decide), if_neg a]
      by_cases b : oz = 0
      · have e2 : decide (oz = 0) = true := decide_eq_true b
        rw [e2, if_neg (by decide), if_neg (show ¬ oz ≠ 0 from fun q => q b), hs]
        by_cases c : 8 ≤ z
        · rw [if_pos c, if_pos (by omega)]
        · rw [if_neg c, if_neg (by omega)]
      · have e2 : decide (oz = 0) = false := decide_eq_false b
        rw [e2, if_pos (by decide), if_pos b])
  obtain ⟨W1, hW1⟩ : ∃ q, w.alloc (.cells #[.int .i64 s.kind, .int .i64 s.node, .int .i64 s.tok] TS) = q := ⟨_, rfl⟩
  have hb1 : Below w.heap.size w W1 := by rw [← hW1]; exact (Below.refl _ _).alloc (Nat.le_refl _) _
  have hg1 : W1.heap[w.heap.size]? = some (.cells #[.int .i64 s.kind, .int .i64 s.node, .int .i64 s.tok] TS (0, 0)) := by rw [← hW1]; exact heap_alloc_new _ _
  obtain ⟨g, hg⟩ : ∃ q, w.heap.size = q := ⟨_, rfl⟩
  have hgl : g < W1.heap.size := by rw [← hg]; exact row_lt hg1
  rw [hg] at hg1
  have HT : Hid (Tw W1.drew p m n lim cs) := Lib.hid (h.below (w' := W1.drew) hb1.drew)
  have HG : Hid (W1.drew.heap[g]? = some (.cells #[.int .i64 s.kind, .int .i64 s.node, .int .i64 s.tok] TS (0, 0))) := Lib.hid hg1
  have HB : Hid (Below w.heap.size w W1) := Lib.hid hb1
  have HNE : Hid (m ≠ p ∧ g ≠ p ∧ g ≠ m) := Lib.hid ⟨h.ne, by have := World.rowIs.lt h.1; omega, by have := h.2.1.lt; omega⟩
  clear h hb1 hg1 hk hok eI eO hoz hz hs
  go_enter Try.func45, Try.ntmps45
  go_upto_region 1 with fail
  clear hW1
  refine Wl.start 999 (fun _ => True) (fun u => RowT u p m lim cs ∧ MI u m n (fO cs) ∧ u.heap[g]? = some (.cells #[.int .i64 s.kind, .int .i64 s.node, .int .i64 s.tok] TS (0, 0))) (by kernel_rfl) trivial ⟨HT.out.1, HT.out.2.1, HG.out⟩ (fun hk => ?_)
  refine Wl.take0 (i := 0) (v := .pointer (some ⟨p, 0, none⟩)) rfl (by kernel_rfl) (by kernel_rfl) (by kernel_rfl) (by kernel_rfl) (fun _ _ _ h => h) (.inl ⟨by kernel_rfl, ?_⟩) hk ?_
  · intro wx hSw
    clear hSw hk
    go_simp
    try first | with_reducible rfl | kernel_rfl
  simp only [Act.put, List.getElem_toArray, List.getElem_cons_succ, List.getElem_cons_zero, List.setIfInBounds_toArray, List.set_cons_succ, List.set_cons_zero]
  refine Wl.take0 (i := 1) (v := .pointer (some ⟨p, 0, none⟩)) rfl (by kernel_rfl) (by kernel_rfl) (by kernel_rfl) (by kernel_rfl) (fun _ _ _ h => h) (.inl ⟨by kernel_rfl, ?_⟩) hk ?_
  · intro wx hSw
    clear hSw hk
    go_simp
    try first | with_reducible rfl | kernel_rfl
  simp only [Act.put, List.getElem_toArray, List.getElem_cons_succ, List.getElem_cons_zero, List.setIfInBounds_toArray, List.set_cons_succ, List.set_cons_zero]
  refine Wl.take0 (i := 2) (v := .pointer (some ⟨p, 1, none⟩)) rfl (by kernel_rfl) (by kernel_rfl) (by kernel_rfl) (by kernel_rfl) (fun _ _ _ h => h) (.inl ⟨by kernel_rfl, ?_⟩) hk ?_
  · intro wx hSw
    clear hSw hk
    go_simp
    try first | with_reducible rfl | kernel_rfl
  simp only [Act.put, List.getElem_toArray, List.getElem_cons_succ, List.getElem_cons_zero, List.setIfInBounds_toArray, List.set_cons_succ, List.set_cons_zero]
  refine Wl.take0 (i := 3) (v := .map (some m)) rfl (by kernel_rfl) (by kernel_rfl) (by kernel_rfl) (by kernel_rfl) (fun _ _ _ h => h) (.inl ⟨by kernel_rfl, ?_⟩) hk ?_
  · intro wx hSw
    have cc := hSw.1.c1
    clear hSw hk
    go_simp
    try first | with_reducible rfl | kernel_rfl
  simp only [Act.put, List.getElem_toArray, List.getElem_cons_succ, List.getElem_cons_zero, List.setIfInBounds_toArray, List.set_cons_succ, List.set_cons_zero]
  refine Wl.take0 (i := 4) (v := .pointer (some ⟨g, 2, none⟩)) rfl (by kernel_rfl) (by kernel_rfl) (by kernel_rfl) (by kernel_rfl) (fun _ _ _ h => h) (.inl ⟨by kernel_rfl, ?_⟩) hk ?_
  · intro wx hSw
    clear hSw hk
    go_simp
    try first | with_reducible rfl | kernel_rfl
  simp only [Act.put, List.getElem_toArray, List.getElem_cons_succ, List.getElem_cons_zero, List.setIfInBounds_toArray, List.set_cons_succ, List.set_cons_zero]
  refine Wl.take0 (i := 5) (v := .int .i64 s.tok) rfl (by kernel_rfl) (by kernel_rfl) (by kernel_rfl) (by kernel_rfl) (fun _ _ _ h => h) (.inl ⟨by kernel_rfl, ?_⟩) hk ?_
  · intro wx hSw
    have cc := (cell_of_row wx _ 2 _ _ _ hSw.2.2).trans rfl
    clear hSw hk
    go_simp
    try first | with_reducible rfl | kernel_rfl
  simp only [Act.put, List.getElem_toArray, List.getElem_cons_succ, List.getElem_cons_zero, List.setIfInBounds_toArray, List.set_cons_succ, List.set_cons_zero]
  refine Wl.take0 (i := 6) (v := .int .i64 oz) rfl (by kernel_rfl) (by kernel_rfl) (by kernel_rfl) (by kernel_rfl) (fun _ _ _ h => h) (.inl ⟨by kernel_rfl, ?_⟩) hk ?_
  · intro wx hSw
    have cc := fO_get hSw.2.1 s.tok HK.out
    rw [HO.out] at cc
    clear hSw hk
    go_simp
    try first | with_reducible rfl | kernel_rfl
  simp only [Act.put, List.getElem_toArray, List.getElem_cons_succ, List.getElem_cons_zero, List.setIfInBounds_toArray, List.set_cons_succ, List.set_cons_zero]
  refine Wl.take0 (i := 7) (v := .int .i64 oz) rfl (by kernel_rfl) (by kernel_rfl) (by kernel_rfl) (by kernel_rfl) (fun _ _ _ h => h) (.inl ⟨by kernel_rfl, ?_⟩) hk ?_
  · intro wx hSw
    clear hSw hk
    go_simp
    try first | with_reducible rfl | kernel_rfl
  simp only [Act.put, List.getElem_toArray, List.getElem_cons_succ, List.getElem_cons_zero, List.setIfInBounds_toArray, List.set_cons_succ, List.set_cons_zero]
  refine Wl.done (by kernel_rfl) ?_ _
  clear hk
  have k1 : W1.drew.cell? ⟨g, 1, none⟩ = some (.int .i64 s.node) := (cell_of_row W1.drew _ 1 _ _ _ HG.out).trans rfl
  by_cases a : oz = s.node
  · have d1 : (oz == s.node) = true := by simpa using a
    have HE : Hid (openE cs s = 3) := Lib.hid (by rw [HOE.out, if_pos a])
    clear a
    go_wp2_with fail
    go_ret
    exact ⟨by rw [HE.out]; rfl, fun q => absurd q (by rw [HE.out]; decide), Below.only HB.out.drew _⟩
  · have d1 : (oz == s.node) = false := beq_eq_false_iff_ne.2 a
    have HA := Lib.hid a
    clear a
    by_cases b : oz = 0
    · have d2 : (oz != 0) = false := by simpa using b
      have HB0 := Lib.hid b
      clear b
      go_upto_region 6 with fail
      by_cases c : 8 ≤ z
      · have dz : decide (8 ≤ z) = true := decide_eq_true c
        have HE : Hid (openE cs s = 6) := Lib.hid (by rw [HOE.out, if_neg HA.out, if_neg (show ¬ oz ≠ 0 from fun q => q HB0.out), if_pos c])
        refine Wl.start 999 (fun _ => True) (fun u => RowT u p m lim cs ∧ MI u m n (fO cs) ∧ u.heap[g]? = some (.cells #[.int .i64 s.kind, .int .i64 s.node, .int .i64 s.tok] TS (0, 0))) (by kernel_rfl) trivial ⟨HT.out.1, HT.out.2.1, HG.out⟩ (fun hk => ?_)
        refine Wl.take0 (i := 0) (v := .pointer (some ⟨p, 0, none⟩)) rfl (by kernel_rfl) (by kernel_rfl) (by kernel_rfl) (by kernel_rfl) (fun _ _ _ h => h) (.inl ⟨by kernel_rfl, ?_⟩) hk ?_
        · intro wx hSw
          clear hSw hk
          go_simp
          try first | with_reducible rfl | kernel_rfl
        simp only [Act.put, List.getElem_toArray, List.getElem_cons_succ, List.getElem_cons_zero, List.setIfInBounds_toArray, List.set_cons_succ, List.set_cons_zero]
        refine Wl.take0 (i := 1) (v := .pointer (some ⟨g, 1, none⟩)) rfl (by kernel_rfl) (by kernel_rfl) (by kernel_rfl) (by kernel_rfl) (fun _ _ _ h => h) (.inl ⟨by kernel_rfl, ?_⟩) hk ?_
        · intro wx hSw
          clear hSw hk
          go_simp
          try first | with_reducible rfl | kernel_rfl
        simp only [Act.put, List.getElem_toArray, List.getElem_cons_succ, List.getElem_cons_zero, List.setIfInBounds_toArray, List.set_cons_succ, List.set_cons_zero]
        refine Wl.take0 (i := 2) (v := .int .i64 s.node) rfl (by kernel_rfl) (by kernel_rfl) (by kernel_rfl) (by kernel_rfl) (fun _ _ _ h => h) (.inl ⟨by kernel_rfl, ?_⟩) hk ?_
        · intro wx hSw
          have cc := (cell_of_row wx _ 1 _ _ _ hSw.2.2).trans rfl
          clear hSw hk
          go_simp
          try first | with_reducible rfl | kernel_rfl
        simp only [Act.put, List.getElem_toArray, List.getElem_cons_succ, List.getElem_cons_zero, List.setIfInBounds_toArray, List.set_cons_succ, List.set_cons_zero]
        refine Wl.take0 (i := 3) (v := .pointer (some ⟨p, 0, none⟩)) rfl (by kernel_rfl) (by kernel_rfl) (by kernel_rfl) (by kernel_rfl) (fun _ _ _ h => h) (.inl ⟨by kernel_rfl, ?_⟩) hk ?_
        · intro wx hSw
          clear hSw hk
          go_simp
          try first | with_reducible rfl | kernel_rfl
        simp only [Act.put, List.getElem_toArray, List.getElem_cons_succ, List.getElem_cons_zero, List.setIfInBounds_toArray, List.set_cons_succ, List.set_cons_zero]
        refine Wl.take0 (i := 4) (v := .pointer (some ⟨p, 2, none⟩)) rfl (by kernel_rfl) (by kernel_rfl) (by kernel_rfl) (by kernel_rfl) (fun _ _ _ h => h) (.inl ⟨by kernel_rfl, ?_⟩) hk ?_
        · intro wx hSw
          clear hSw hk
          go_simp
          try first | with_reducible rfl | kernel_rfl
        simp only [Act.put, List.getElem_toArray, List.getElem_cons_succ, List.getElem_cons_zero, List.setIfInBounds_toArray, List.set_cons_succ, List.set_cons_zero]
        refine Wl.take0 (i := 5) (v := .pointer (some ⟨p, 2 + j, none⟩)) rfl (by kernel_rfl) (by kernel_rfl) (by kernel_rfl) (by kernel_rfl) (fun _ _ _ h => h) (.inl ⟨by kernel_rfl, ?_⟩) hk ?_
        · intro wx hSw
          have hj1 : (j : Int) < 8 := by omega
          have hsn := HS.out
          rw [hsn]
          clear hSw hk
          go_simp
          try first | with_reducible rfl | kernel_rfl
        simp only [Act.put, List.getElem_toArray, List.getElem_cons_succ, List.getElem_cons_zero, List.setIfInBounds_toArray, List.set_cons_succ, List.set_cons_zero]
        refine Wl.take0 (i := 6) (v := .int .i64 z) rfl (by kernel_rfl) (by kernel_rfl) (by kernel_rfl) (by kernel_rfl) (fun _ _ _ h => h) (.inl ⟨by kernel_rfl, ?_⟩) hk ?_
        · intro wx hSw
          have cc := hSw.1.cn j hj8
          rw [HZ.out] at cc
          clear hSw hk
          go_simp
          try first | with_reducible rfl | kernel_rfl
        simp only [Act.put, List.getElem_toArray, List.getElem_cons_succ, List.getElem_cons_zero, List.setIfInBounds_toArray, List.set_cons_succ, List.set_cons_zero]
        refine Wl.take0 (i := 7) (v := .bool true) rfl (by kernel_rfl) (by kernel_rfl) (by kernel_rfl) (by kernel_rfl) (fun _ _ _ h => h) (.inl ⟨by kernel_rfl, ?_⟩) hk ?_
        · intro wx hSw
          have cc := dz
          clear hSw hk
          go_simp
          try first | with_reducible rfl | kernel_rfl
        simp only [Act.put, List.getElem_toArray, List.getElem_cons_succ, List.getElem_cons_zero, List.setIfInBounds_toArray, List.set_cons_succ, List.set_cons_zero]
        refine Wl.take0 (i := 8) (v := .bool true) rfl (by kernel_rfl) (by kernel_rfl) (by kernel_rfl) (by kernel_rfl) (fun _ _ _ h => h) (.inl ⟨by kernel_rfl, ?_⟩) hk ?_
        · intro wx hSw
          clear hSw hk
          go_simp
          try first | with_reducible rfl | kernel_rfl
        simp only [Act.put, List.getElem_toArray, List.getElem_cons_succ, List.getElem_cons_zero, List.setIfInBounds_toArray, List.set_cons_succ, List.set_cons_zero]
        refine Wl.done (by kernel_rfl) ?_ _
        clear hk
        go_wp2_with fail
        go_ret
        exact ⟨by rw [HE.out]; rfl, fun q => absurd q (by rw [HE.out]; decide), Below.only HB.out.drew.drew _⟩
      have dz : decide (8 ≤ z) = false := decide_eq_false c
      have HE : Hid (openE cs s = 0) := Lib.hid (by rw [HOE.out, if_neg HA.out, if_neg (show ¬ oz ≠ 0 from fun q => q HB0.out), if_neg c])
      refine Wl.start 999 (fun _ => True) (fun u => RowT u p m lim cs ∧ MI u m n (fO cs) ∧ u.heap[g]? = some (.cells #[.int .i64 s.kind, .int .i64 s.node, .int .i64 s.tok] TS (0, 0))) (by kernel_rfl) trivial ⟨HT.out.1, HT.out.2.1, HG.out⟩ (fun hk => ?_)
      refine Wl.take0 (i := 0) (v := .pointer (some ⟨p, 0, none⟩)) rfl (by kernel_rfl) (by kernel_rfl) (by kernel_rfl) (by kernel_rfl) (fun _ _ _ h => h) (.inl ⟨by kernel_rfl, ?_⟩) hk ?_
      · intro wx hSw
        clear hSw hk
        go_simp
        try first | with_reducible rfl | kernel_rfl
      simp only [Act.put, List.getElem_toArray, List.getElem_cons_succ, List.getElem_cons_zero, List.setIfInBounds_toArray, List.set_cons_succ, List.set_cons_zero]
      refine Wl.take0 (i := 1) (v := .pointer (some ⟨g, 1, none⟩)) rfl (by kernel_rfl) (by kernel_rfl) (by kernel_rfl) (by kernel_rfl) (fun _ _ _ h => h) (.inl ⟨by kernel_rfl, ?_⟩) hk ?_
      · intro wx hSw
        clear hSw hk
        go_simp
        try first | with_reducible rfl | kernel_rfl
      simp only [Act.put, List.getElem_toArray, List.getElem_cons_succ, List.getElem_cons_zero, List.setIfInBounds_toArray, List.set_cons_succ, List.set_cons_zero]
      refine Wl.take0 (i := 2) (v := .int .i64 s.node) rfl (by kernel_rfl) (by kernel_rfl) (by kernel_rfl) (by kernel_rfl) (fun _ _ _ h => h) (.inl ⟨by kernel_rfl, ?_⟩) hk ?_
      · intro wx hSw
        have cc := (cell_of_row wx _ 1 _ _ _ hSw.2.2).trans rfl
        clear hSw hk
        go_simp
        try first | with_reducible rfl | kernel_rfl
      simp only [Act.put, List.getElem_toArray, List.getElem_cons_succ, List.getElem_cons_zero, List.setIfInBounds_toArray, List.set_cons_succ, List.set_cons_zero]
      refine Wl.take0 (i := 3) (v := .pointer (some ⟨p, 0, none⟩)) rfl (by kernel_rfl) (by kernel_rfl) (by kernel_rfl) (by kernel_rfl) (fun _ _ _ h => h) (.inl ⟨by kernel_rfl, ?_⟩) hk ?_
      · intro wx hSw
        clear hSw hk
        go_simp
        try first | with_reducible rfl | kernel_rfl
      simp only [Act.put, List.getElem_toArray, List.getElem_cons_succ, List.getElem_cons_zero, List.setIfInBounds_toArray, List.set_cons_succ, List.set_cons_zero]
      refine Wl.take0 (i := 4) (v := .pointer (some ⟨p, 2, none⟩)) rfl (by kernel_rfl) (by kernel_rfl) (by kernel_rfl) (by kernel_rfl) (fun _ _ _ h => h) (.inl ⟨by kernel_rfl, ?_⟩) hk ?_
      · intro wx hSw
        clear hSw hk
        go_simp
        try first | with_reducible rfl | kernel_rfl
      simp only [Act.put, List.getElem_toArray, List.getElem_cons_succ, List.getElem_cons_zero, List.setIfInBounds_toArray, List.set_cons_succ, List.set_cons_zero]
      refine Wl.take0 (i := 5) (v := .pointer (some ⟨p, 2 + j, none⟩)) rfl (by kernel_rfl) (by kernel_rfl) (by kernel_rfl) (by kernel_rfl) (fun _ _ _ h => h) (.inl ⟨by kernel_rfl, ?_⟩) hk ?_
      · intro wx hSw
        have hj1 : (j : Int) < 8 := by omega
        have hsn := HS.out
        rw [hsn]
        clear hSw hk
        go_simp
        try first | with_reducible rfl | kernel_rfl
      simp only [Act.put, List.getElem_toArray, List.getElem_cons_succ, List.getElem_cons_zero, List.setIfInBounds_toArray, List.set_cons_succ, List.set_cons_zero]
      refine Wl.take0 (i := 6) (v := .int .i64 z) rfl (by kernel_rfl) (by kernel_rfl) (by kernel_rfl) (by kernel_rfl) (fun _ _ _ h => h) (.inl ⟨by kernel_rfl, ?_⟩) hk ?_
      · intro wx hSw
        have cc := hSw.1.cn j hj8
        rw [HZ.out] at cc
        clear hSw hk
        go_simp
        try first | with_reducible rfl | kernel_rfl
      simp only [Act.put, List.getElem_toArray, List.getElem_cons_succ, List.getElem_cons_zero, List.setIfInBounds_toArray, List.set_cons_succ, List.set_cons_zero]
      refine Wl.take0 (i := 7) (v := .bool false) rfl (by kernel_rfl) (by kernel_rfl) (by kernel_rfl) (by kernel_rfl) (fun _ _ _ h => h) (.inl ⟨by kernel_rfl, ?_⟩) hk ?_
      · intro wx hSw
        have cc := dz
        clear hSw hk
        go_simp
        try first | with_reducible rfl | kernel_rfl
      simp only [Act.put, List.getElem_toArray, List.getElem_cons_succ, List.getElem_cons_zero, List.setIfInBounds_toArray, List.set_cons_succ, List.set_cons_zero]
      refine Wl.take0 (i := 8) (v := .bool false) rfl (by kernel_rfl) (by kernel_rfl) (by kernel_rfl) (by kernel_rfl) (fun _ _ _ h => h) (.inl ⟨by kernel_rfl, ?_⟩) hk ?_
      · intro wx hSw
        clear hSw hk
        go_simp
        try first | with_reducible rfl | kernel_rfl
      simp only [Act.put, List.getElem_toArray, List.getElem_cons_succ, List.getElem_cons_zero, List.setIfInBounds_toArray, List.set_cons_succ, List.set_cons_zero]
      refine Wl.done (by kernel_rfl) ?_ _
      clear hk
      have hok2 := HOK.out HE.out
      have hno : ∀ d ∈ cs, d.tok ≠ s.tok := fun d hd e => by
        have := own_some HT.out.2.2 hd
        have h1 := HO.out
        unfold ownZ at h1
        rw [← e, this] at h1
        have := HT.out.2.2.node d hd
        have h2 : d.node = oz := h1
        have := HB0.out
        omega
      obtain ⟨W8, hP8, hM8, hG8⟩ := MIput (w := W1.drew.drew.drew) HT.out.2.1 hn s.tok HK.out s.node
      have HP8 := Lib.hid hP8
      have HM8 : Hid (MI W8 m (n + 1) (fO (cs ++ [⟨s.node, s.tok⟩]))) := Lib.hid (hM8.congr (fun x _ => fO_app cs ⟨s.node, s.tok⟩ hno x))
      have HR8 : Hid (RowT W8 p m lim cs) := Lib.hid (HT.out.1.block (hG8.block _ (World.rowIs.lt HT.out.1) (fun e => HNE.out.1 (Option.some.inj e).symm)))
      have HG8 : Hid (W8.heap[g]? = some (.cells #[.int .i64 s.kind, .int .i64 s.node, .int .i64 s.tok] TS (0, 0))) := Lib.hid ((hG8.block _ (row_lt HG.out) (fun e => HNE.out.2.2 (Option.some.inj e))).trans HG.out)
      have HO8 : Hid (Only (fun k => k = p ∨ k = m) w W8) := Lib.hid ((Below.only HB.out.drew.drew.drew _).trans (Only.grown hG8 (fun q hq => .inr (Option.some.inj hq).symm)))
      have HWZ : Hid (IntKind.i64.wrap (z + 1) = z + 1) := Lib.hid (by rw [IntKind.wrap_i64]; omega)
      obtain ⟨W9, hW9⟩ : ∃ x, W8.drew.setCell ⟨p, 2 + j, none⟩ (.int .i64 (z + 1)) = x := ⟨_, rfl⟩
      have HG9 : Hid (W9.heap[g]? = some (.cells #[.int .i64 s.kind, .int .i64 s.node, .int .i64 s.tok] TS (0, 0))) := Lib.hid (by rw [← hW9]; exact (Below.heap_setCell _ _ _ _ (by simpa using HNE.out.2.1)).trans HG8.out)
      have HM9 : Hid (MI W9 m (n + 1) (fO (cs ++ [⟨s.node, s.tok⟩]))) := Lib.hid (HM8.out.block (by rw [← hW9]; exact Below.heap_setCell _ _ _ _ (by simpa using HNE.out.1)))
      have HR9 : Hid (RowT W9 p m lim (cs ++ [⟨s.node, s.tok⟩])) := Lib.hid (by
        rw [← hW9]
        refine RowT.set (w := W8.drew) HR8.out j hj8 _ ?_ (fun i hi hne => ?_)
        · rw [many_app, if_pos HS.out]; have := HZ.out; omega
        · rw [many_app, if_neg (by show ¬ s.node = (i : Int); have := HS.out; omega)]; omega)
      have HO9 : Hid (Only (fun k => k = p ∨ k = m) w W9) := Lib.hid (by rw [← hW9]; exact (HO8.out.trans (Below.only ((Below.refl W8.heap.size W8).drew) _)).trans (Only.setCell _ _ _ (.inl rfl)))
      have HOK2 := Lib.hid hok2
      have q1 : W8.drew.cell? ⟨p, 2 + j, none⟩ = some (.int .i64 z) := by rw [← HZ.out]; exact HR8.out.cn j hj8
      have q2 : W8.drew.frozen? ⟨p, 2 + j, none⟩ = false := HR8.out.z (2 + j)
      clear hP8 hM8 hG8 hok2 hno
      go_upto_region 8 with fail
      refine Wl.start 8 (fun u => RowT u p m lim cs ∧ MI u m n (fO cs) ∧ u.heap[g]? = some (.cells #[.int .i64 s.kind, .int .i64 s.node, .int .i64 s.tok] TS (0, 0))) (fun _ => True) (by kernel_rfl) ⟨HT.out.1, HT.out.2.1, HG.out⟩ trivial (fun hk => ?_)
      refine Wl.take (i := 0) (v := .pointer (some ⟨p, 0, none⟩)) [1, 2, 3, 8] rfl (by kernel_rfl) (by kernel_rfl) (by kernel_rfl) (by kernel_rfl) (by kernel_rfl) (fun _ _ _ h => h) (.inl ⟨by kernel_rfl, ?_⟩) hk ?_
      · intro wx hSw
        clear hSw hk
        go_simp
        try first | with_reducible rfl | kernel_rfl
      simp only [Act.put, List.getElem_toArray, List.getElem_cons_succ, List.getElem_cons_zero, List.setIfInBounds_toArray, List.set_cons_succ, List.set_cons_zero]
      refine Wl.take (i := 1) (v := .pointer (some ⟨p, 0, none⟩)) [2, 3, 8] rfl (by kernel_rfl) (by kernel_rfl) (by kernel_rfl) (by kernel_rfl) (by kernel_rfl) (fun _ _ _ h => h) (.inl ⟨by kernel_rfl, ?_⟩) hk ?_
      · intro wx hSw
        clear hSw hk
        go_simp
        try first | with_reducible rfl | kernel_rfl
      simp only [Act.put, List.getElem_toArray, List.getElem_cons_succ, List.getElem_cons_zero, List.setIfInBounds_toArray, List.set_cons_succ, List.set_cons_zero]
      refine Wl.take (i := 2) (v := .pointer (some ⟨p, 1, none⟩)) [3, 8] rfl (by kernel_rfl) (by kernel_rfl) (by kernel_rfl) (by kernel_rfl) (by kernel_rfl) (fun _ _ _ h => h) (.inl ⟨by kernel_rfl, ?_⟩) hk ?_
      · intro wx hSw
        clear hSw hk
        go_simp
        try first | with_reducible rfl | kernel_rfl
      simp only [Act.put, List.getElem_toArray, List.getElem_cons_succ, List.getElem_cons_zero, List.setIfInBounds_toArray, List.set_cons_succ, List.set_cons_zero]
      refine Wl.take (i := 3) (v := .map (some m)) [8] rfl (by kernel_rfl) (by kernel_rfl) (by kernel_rfl) (by kernel_rfl) (by kernel_rfl) (fun _ _ _ h => h) (.inl ⟨by kernel_rfl, ?_⟩) hk ?_
      · intro wx hSw
        have cc := hSw.1.1.c1
        clear hSw hk
        go_simp
        try first | with_reducible rfl | kernel_rfl
      simp only [Act.put, List.getElem_toArray, List.getElem_cons_succ, List.getElem_cons_zero, List.setIfInBounds_toArray, List.set_cons_succ, List.set_cons_zero]
      refine Wl.take (i := 4) (v := .pointer (some ⟨g, 2, none⟩)) [5, 8] rfl (by kernel_rfl) (by kernel_rfl) (by kernel_rfl) (by kernel_rfl) (by kernel_rfl) (fun _ _ _ h => h) (.inl ⟨by kernel_rfl, ?_⟩) hk ?_
      · intro wx hSw
        clear hSw hk
        go_simp
        try first | with_reducible rfl | kernel_rfl
      simp only [Act.put, List.getElem_toArray, List.getElem_cons_succ, List.getElem_cons_zero, List.setIfInBounds_toArray, List.set_cons_succ, List.set_cons_zero]
      refine Wl.take (i := 5) (v := .int .i64 s.tok) [8] rfl (by kernel_rfl) (by kernel_rfl) (by kernel_rfl) (by kernel_rfl) (by kernel_rfl) (fun _ _ _ h => h) (.inl ⟨by kernel_rfl, ?_⟩) hk ?_
      · intro wx hSw
        have cc := (cell_of_row wx _ 2 _ _ _ hSw.1.2.2).trans rfl
        clear hSw hk
        go_simp
        try first | with_reducible rfl | kernel_rfl
      simp only [Act.put, List.getElem_toArray, List.getElem_cons_succ, List.getElem_cons_zero, List.setIfInBounds_toArray, List.set_cons_succ, List.set_cons_zero]
      refine Wl.take (i := 6) (v := .pointer (some ⟨g, 1, none⟩)) [7, 8] rfl (by kernel_rfl) (by kernel_rfl) (by kernel_rfl) (by kernel_rfl) (by kernel_rfl) (fun _ _ _ h => h) (.inl ⟨by kernel_rfl, ?_⟩) hk ?_
      · intro wx hSw
        clear hSw hk
        go_simp
        try first | with_reducible rfl | kernel_rfl
      simp only [Act.put, List.getElem_toArray, List.getElem_cons_succ, List.getElem_cons_zero, List.setIfInBounds_toArray, List.set_cons_succ, List.set_cons_zero]
      refine Wl.take (i := 7) (v := .int .i64 s.node) [8] rfl (by kernel_rfl) (by kernel_rfl) (by kernel_rfl) (by kernel_rfl) (by kernel_rfl) (fun _ _ _ h => h) (.inl ⟨by kernel_rfl, ?_⟩) hk ?_
      · intro wx hSw
        have cc := (cell_of_row wx _ 1 _ _ _ hSw.1.2.2).trans rfl
        clear hSw hk
        go_simp
        try first | with_reducible rfl | kernel_rfl
      simp only [Act.put, List.getElem_toArray, List.getElem_cons_succ, List.getElem_cons_zero, List.setIfInBounds_toArray, List.set_cons_succ, List.set_cons_zero]
      refine Wl.one (i := 8) (by kernel_rfl) rfl (fun K hK => ?_)
      have hrun := HP8.out
      go_simp
      clear hrun
      refine hK.out _ _ (Wl.Kn.off (by kernel_rfl) trivial) (fun hk => ?_)
      clear hK K
      refine Wl.done (by kernel_rfl) ?_ _
      clear hk
      go_upto_region 9 with fail
      refine Wl.start 11 (fun u => RowT u p m lim cs) (fun u => u.heap[g]? = some (.cells #[.int .i64 s.kind, .int .i64 s.node, .int .i64 s.tok] TS (0, 0))) (by kernel_rfl) HR8.out HG8.out (fun hk => ?_)
      refine Wl.take (i := 0) (v := .pointer (some ⟨p, 0, none⟩)) [3, 4, 5, 6, 7, 8, 9, 10, 11] rfl (by kernel_rfl) (by kernel_rfl) (by kernel_rfl) (by kernel_rfl) (by kernel_rfl) (fun _ _ _ h => h) (.inl ⟨by kernel_rfl, ?_⟩) hk ?_
      · intro wx hSw
        clear hSw hk
        go_simp
        try first | with_reducible rfl | kernel_rfl
      simp only [Act.put, List.getElem_toArray, List.getElem_cons_succ, List.getElem_cons_zero, List.setIfInBounds_toArray, List.set_cons_succ, List.set_cons_zero]
      refine Wl.take (i := 1) (v := .pointer (some ⟨g, 1, none⟩)) [2, 5, 6, 7, 10, 11] rfl (by kernel_rfl) (by kernel_rfl) (by kernel_rfl) (by kernel_rfl) (by kernel_rfl) (fun _ _ _ h => h) (.inl ⟨by kernel_rfl, ?_⟩) hk ?_
      · intro wx hSw
        clear hSw hk
        go_simp
        try first | with_reducible rfl | kernel_rfl
      simp only [Act.put, List.getElem_toArray, List.getElem_cons_succ, List.getElem_cons_zero, List.setIfInBounds_toArray, List.set_cons_succ, List.set_cons_zero]
      refine Wl.take (i := 2) (v := .int .i64 s.node) [5, 6, 7, 10, 11] rfl (by kernel_rfl) (by kernel_rfl) (by kernel_rfl) (by kernel_rfl) (by kernel_rfl) (fun _ _ _ h => h) (.inl ⟨by kernel_rfl, ?_⟩) hk ?_
      · intro wx hSw
        have cc := (cell_of_row wx _ 1 _ _ _ hSw.2).trans rfl
        clear hSw hk
        go_simp
        try first | with_reducible rfl | kernel_rfl
      simp only [Act.put, List.getElem_toArray, List.getElem_cons_succ, List.getElem_cons_zero, List.setIfInBounds_toArray, List.set_cons_succ, List.set_cons_zero]
      refine Wl.take (i := 3) (v := .pointer (some ⟨p, 0, none⟩)) [4, 5, 6, 7, 10, 11] rfl (by kernel_rfl) (by kernel_rfl) (by kernel_rfl) (by kernel_rfl) (by kernel_rfl) (fun _ _ _ h => h) (.inl ⟨by kernel_rfl, ?_⟩) hk ?_
      · intro wx hSw
        clear hSw hk
        go_simp
        try first | with_reducible rfl | kernel_rfl
      simp only [Act.put, List.getElem_toArray, List.getElem_cons_succ, List.getElem_cons_zero, List.setIfInBounds_toArray, List.set_cons_succ, List.set_cons_zero]
      refine Wl.take (i := 4) (v := .pointer (some ⟨p, 2, none⟩)) [5, 6, 7, 10, 11] rfl (by kernel_rfl) (by kernel_rfl) (by kernel_rfl) (by kernel_rfl) (by kernel_rfl) (fun _ _ _ h => h) (.inl ⟨by kernel_rfl, ?_⟩) hk ?_
      · intro wx hSw
        clear hSw hk
        go_simp
        try first | with_reducible rfl | kernel_rfl
      simp only [Act.put, List.getElem_toArray, List.getElem_cons_succ, List.getElem_cons_zero, List.setIfInBounds_toArray, List.set_cons_succ, List.set_cons_zero]
      refine Wl.take (i := 5) (v := .pointer (some ⟨p, 2 + j, none⟩)) [6, 7, 10, 11] rfl (by kernel_rfl) (by kernel_rfl) (by kernel_rfl) (by kernel_rfl) (by kernel_rfl) (fun _ _ _ h => h) (.inl ⟨by kernel_rfl, ?_⟩) hk ?_
      · intro wx hSw
        have hj1 : (j : Int) < 8 := by omega
        have hsn := HS.out
        rw [hsn]
        clear hSw hk
        go_simp
        try first | with_reducible rfl | kernel_rfl
      simp only [Act.put, List.getElem_toArray, List.getElem_cons_succ, List.getElem_cons_zero, List.setIfInBounds_toArray, List.set_cons_succ, List.set_cons_zero]
      refine Wl.take (i := 6) (v := .int .i64 z) [7, 10, 11] rfl (by kernel_rfl) (by kernel_rfl) (by kernel_rfl) (by kernel_rfl) (by kernel_rfl) (fun _ _ _ h => h) (.inl ⟨by kernel_rfl, ?_⟩) hk ?_
      · intro wx hSw
        have cc := hSw.1.cn j hj8
        rw [HZ.out] at cc
        clear hSw hk
        go_simp
        try first | with_reducible rfl | kernel_rfl
      simp only [Act.put, List.getElem_toArray, List.getElem_cons_succ, List.getElem_cons_zero, List.setIfInBounds_toArray, List.set_cons_succ, List.set_cons_zero]
      refine Wl.take (i := 7) (v := .int .i64 (z + 1)) [10, 11] rfl (by kernel_rfl) (by kernel_rfl) (by kernel_rfl) (by kernel_rfl) (by kernel_rfl) (fun _ _ _ h => h) (.inl ⟨by kernel_rfl, ?_⟩) hk ?_
      · intro wx hSw
        have cc := HWZ.out
        clear hSw hk
        go_simp
        try first | with_reducible rfl | kernel_rfl
      simp only [Act.put, List.getElem_toArray, List.getElem_cons_succ, List.getElem_cons_zero, List.setIfInBounds_toArray, List.set_cons_succ, List.set_cons_zero]
      refine Wl.take (i := 8) (v := .pointer (some ⟨p, 0, none⟩)) [9, 10, 11] rfl (by kernel_rfl) (by kernel_rfl) (by kernel_rfl) (by kernel_rfl) (by kernel_rfl) (fun _ _ _ h => h) (.inl ⟨by kernel_rfl, ?_⟩) hk ?_
      · intro wx hSw
        clear hSw hk
        go_simp
        try first | with_reducible rfl | kernel_rfl
      simp only [Act.put, List.getElem_toArray, List.getElem_cons_succ, List.getElem_cons_zero, List.setIfInBounds_toArray, List.set_cons_succ, List.set_cons_zero]
      refine Wl.take (i := 9) (v := .pointer (some ⟨p, 2, none⟩)) [10, 11] rfl (by kernel_rfl) (by kernel_rfl) (by kernel_rfl) (by kernel_rfl) (by kernel_rfl) (fun _ _ _ h => h) (.inl ⟨by kernel_rfl, ?_⟩) hk ?_
      · intro wx hSw
        clear hSw hk
        go_simp
        try first | with_reducible rfl | kernel_rfl
      simp only [Act.put, List.getElem_toArray, List.getElem_cons_succ, List.getElem_cons_zero, List.setIfInBounds_toArray, List.set_cons_succ, List.set_cons_zero]
      refine Wl.take (i := 10) (v := .pointer (some ⟨p, 2 + j, none⟩)) [11] rfl (by kernel_rfl) (by kernel_rfl) (by kernel_rfl) (by kernel_rfl) (by kernel_rfl) (fun _ _ _ h => h) (.inl ⟨by kernel_rfl, ?_⟩) hk ?_
      · intro wx hSw
        have hj1 : (j : Int) < 8 := by omega
        have hsn := HS.out
        rw [hsn]
        clear hSw hk
        go_simp
        try first | with_reducible rfl | kernel_rfl
      simp only [Act.put, List.getElem_toArray, List.getElem_cons_succ, List.getElem_cons_zero, List.setIfInBounds_toArray, List.set_cons_succ, List.set_cons_zero]
      refine Wl.one (i := 11) (by kernel_rfl) rfl (fun K hK => ?_)
      go_simp
      try rw [hW9]
      refine hK.out _ _ (Wl.Kn.off (by kernel_rfl) HG9.out) (fun hk => ?_)
      clear hK K
      refine Wl.done (by kernel_rfl) ?_ _
      clear hk
      clear hW9 q1 q2
      go_wp2_with fail
      go_ret
      exact ⟨by rw [HE.out]; rfl, fun _ => ⟨HR9.out, HM9.out, HOK2.out⟩, HO9.out⟩
    · have d2 : (oz != 0) = true := by simpa using b
      have HE : Hid (openE cs s = 220) := Lib.hid (by rw [HOE.out, if_neg HA.out, if_pos b])
      clear b
      go_wp2_with fail
      go_ret
      exact ⟨by rw [HE.out]; rfl, fun q => absurd q (by rw [HE.out]; decide), Below.only HB.out.drew _⟩
end Jj
end Go.Proofs.Yteihopgnpiajoaa
