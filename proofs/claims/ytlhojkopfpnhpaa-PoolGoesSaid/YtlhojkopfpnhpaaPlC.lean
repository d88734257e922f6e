/- Package pool: what each call does. No condition. -/
import Derived.Test.YtlhojkopfpnhpaaPlB
import Derived.Test.YtlhojkopfpnhpaaWl
namespace Go.Proofs.Ytlhojkopfpnhpaa
open Go.ChangeShapes Go.WideShapes Go.ChangeAt Go.RowKit Go.Deep
set_option linter.unusedVariables false
set_option maxRecDepth 100000
set_option linter.unusedSimpArgs false
theorem Only.set {S : Nat → Prop} {w w1 : World} (h : Only S w w1) (p i : Nat) (u : Value) (hs : S p) : Only S w (w1.setCell ⟨p, i, none⟩ u) :=
  h.trans (Only.setCell w1 ⟨p, i, none⟩ u hs)
theorem Only.row {S : Nat → Prop} {w w1 : World} (h : Only S w w1) (p : Nat) (cs : Array Value) (hs : S p) : Only S w (w1.setRow p cs) :=
  h.trans ⟨rfl, rfl, rfl, by simp [World.setRow], fun k hk hn => setRow_other w1 p k cs (fun e => hn (e ▸ hs))⟩
theorem Only.drew {S : Nat → Prop} {w w1 : World} (h : Only S w w1) : Only S w w1.drew := h
namespace Pl
theorem PoolAt.drew {w : World} {p : Nat} {cs : List Cn} {ws : List Int} (h : PoolAt w p cs ws) : PoolAt w.drew p cs ws := h
theorem RawP.drew {w : World} {p : Nat} {f : Nat → Int} (h : RawP w p f) : RawP w.drew p f := h
theorem PoolAt.ccells {w : World} {p : Nat} {cs : List Cn} {ws : List Int} (h : PoolAt w p cs ws) : ∀ i x, cs[i]? = some x → ∀ j u, (cnC x)[j]? = some u → w.cell? ⟨p, 0 + (i * 2 + j), none⟩ = some u := by
  intro i x hx j u hu
  have := h.tok hx
  match j, hu with
  | 0, hu => simp only [cnC, List.getElem?_cons_zero, Option.some.injEq] at hu; subst hu; rw [← this.1]; congr 2; omega
  | 1, hu => simp only [cnC, List.getElem?_cons_succ, List.getElem?_cons_zero, Option.some.injEq] at hu; subst hu; rw [← this.2]; congr 2; omega
  | j + 2, hu => simp at hu
theorem PoolAt.wcells {w : World} {p : Nat} {cs : List Cn} {ws : List Int} (h : PoolAt w p cs ws) : ∀ i x, ws[i]? = some x → w.cell? ⟨p, 17 + i, none⟩ = some (.int .i64 x) := fun i x hx => h.wait hx
def Sorted (cs : List Cn) : Prop := cs.Pairwise fun x y => x.tok < y.tok
theorem ret_tup {a b : Value} {c d : Value} (h : a = c) (g : b = d) : Ending.returned (.tuple #[a, b]) = .returned (.tuple #[c, d]) := by rw [h, g]

theorem find_any {p : Nat} {cs : List Cn} {ws : List Int} (t : Int) (w : World) (h : PoolAt w p cs ws) (hp : Sorted cs) : Calls Try.prog 20 #[.pointer (some ⟨p, 0, none⟩), .int .i64 t] w (Found t cs w) := by
  have HD := Lib.hid h.drew
  have HP := Lib.hid hp
  clear h hp
  go_enter Try.func20, Try.ntmps20
  go_upto_region 1 with fail
  refine Wl.start 999 (fun _ => True) (fun u => PoolAt u p cs ws) (by kernel_rfl) trivial HD.out (fun hk => ?_)
  refine Wl.take0 (i := 0) (v := .pointer (some ⟨p, 0, none⟩)) rfl (by kernel_rfl) (by kernel_rfl) (by kernel_rfl) (by kernel_rfl) (fun _ _ _ h => h) (.inl ⟨by kernel_rfl, ?_⟩) hk ?_
  · intro wx hSw
    clear hSw hk
    go_simp
    try first | with_reducible rfl | kernel_rfl
  simp only [Act.put, List.getElem_toArray, List.getElem_cons_succ, List.getElem_cons_zero, List.setIfInBounds_toArray, List.set_cons_succ, List.set_cons_zero]
  refine Wl.take0 (i := 1) (v := .pointer (some ⟨p, 0, none⟩)) rfl (by kernel_rfl) (by kernel_rfl) (by kernel_rfl) (by kernel_rfl) (fun _ _ _ h => h) (.inl ⟨by kernel_rfl, ?_⟩) hk ?_
  · intro wx hSw
    clear hSw hk
    go_simp
    try first | with_reducible rfl | kernel_rfl
  simp only [Act.put, List.getElem_toArray, List.getElem_cons_succ, List.getElem_cons_zero, List.setIfInBounds_toArray, List.set_cons_succ, List.set_cons_zero]
  refine Wl.take0 (i := 2) (v := .pointer (some ⟨p, 0, none⟩)) rfl (by kernel_rfl) (by kernel_rfl) (by kernel_rfl) (by kernel_rfl) (fun _ _ _ h => h) (.inl ⟨by kernel_rfl, ?_⟩) hk ?_
  · intro wx hSw
    clear hSw hk
    go_simp
    try first | with_reducible rfl | kernel_rfl
  simp only [Act.put, List.getElem_toArray, List.getElem_cons_succ, List.getElem_cons_zero, List.setIfInBounds_toArray, List.set_cons_succ, List.set_cons_zero]
  refine Wl.take0 (i := 3) (v := .pointer (some ⟨p, 0, none⟩)) rfl (by kernel_rfl) (by kernel_rfl) (by kernel_rfl) (by kernel_rfl) (fun _ _ _ h => h) (.inl ⟨by kernel_rfl, ?_⟩) hk ?_
  · intro wx hSw
    clear hSw hk
    go_simp
    try first | with_reducible rfl | kernel_rfl
  simp only [Act.put, List.getElem_toArray, List.getElem_cons_succ, List.getElem_cons_zero, List.setIfInBounds_toArray, List.set_cons_succ, List.set_cons_zero]
  refine Wl.take0 (i := 4) (v := .pointer (some ⟨p, 0, none⟩)) rfl (by kernel_rfl) (by kernel_rfl) (by kernel_rfl) (by kernel_rfl) (fun _ _ _ h => h) (.inl ⟨by kernel_rfl, ?_⟩) hk ?_
  · intro wx hSw
    clear hSw hk
    go_simp
    try first | with_reducible rfl | kernel_rfl
  simp only [Act.put, List.getElem_toArray, List.getElem_cons_succ, List.getElem_cons_zero, List.setIfInBounds_toArray, List.set_cons_succ, List.set_cons_zero]
  refine Wl.take0 (i := 5) (v := .pointer (some ⟨p, 16, none⟩)) rfl (by kernel_rfl) (by kernel_rfl) (by kernel_rfl) (by kernel_rfl) (fun _ _ _ h => h) (.inl ⟨by kernel_rfl, ?_⟩) hk ?_
  · intro wx hSw
    clear hSw hk
    go_simp
    try first | with_reducible rfl | kernel_rfl
  simp only [Act.put, List.getElem_toArray, List.getElem_cons_succ, List.getElem_cons_zero, List.setIfInBounds_toArray, List.set_cons_succ, List.set_cons_zero]
  refine Wl.take0 (i := 6) (v := .int .i64 (cs.length : Int)) rfl (by kernel_rfl) (by kernel_rfl) (by kernel_rfl) (by kernel_rfl) (fun _ _ _ h => h) (.inl ⟨by kernel_rfl, ?_⟩) hk ?_
  · intro wx hSw
    have cc := hSw.many
    clear hSw hk
    go_simp
    try first | with_reducible rfl | kernel_rfl
  simp only [Act.put, List.getElem_toArray, List.getElem_cons_succ, List.getElem_cons_zero, List.setIfInBounds_toArray, List.set_cons_succ, List.set_cons_zero]
  refine Wl.take0 (i := 7) (v := .slice (some ⟨p, 0, none⟩) cs.length 8) rfl (by kernel_rfl) (by kernel_rfl) (by kernel_rfl) (by kernel_rfl) (fun _ _ _ h => h) (.inl ⟨by kernel_rfl, ?_⟩) hk ?_
  · intro wx hSw
    have hl := hSw.2.1
    have hl2 : (cs.length : Int) ≤ 8 := by omega
    clear hSw hk
    go_simp
    try first | with_reducible rfl | kernel_rfl
  simp only [Act.put, List.getElem_toArray, List.getElem_cons_succ, List.getElem_cons_zero, List.setIfInBounds_toArray, List.set_cons_succ, List.set_cons_zero]
  refine Wl.take0 (i := 8) (v := .int .i64 t) rfl (by kernel_rfl) (by kernel_rfl) (by kernel_rfl) (by kernel_rfl) (fun _ _ _ h => h) (.inl ⟨by kernel_rfl, ?_⟩) hk ?_
  · intro wx hSw
    clear hSw hk
    go_simp
    try first | with_reducible rfl | kernel_rfl
  simp only [Act.put, List.getElem_toArray, List.getElem_cons_succ, List.getElem_cons_zero, List.setIfInBounds_toArray, List.set_cons_succ, List.set_cons_zero]
  refine Wl.one (i := 9) (by kernel_rfl) rfl (fun K hK => ?_)
  go_simp
  refine (search_any cs p 0 8 t _ ⟨HD.out.2.1, by omega⟩ HD.out.2.1 HD.out.1.lt HD.out.ccells HP.out).mono ?_
  rintro e w2 ⟨rfl, hb⟩
  have HB := Lib.hid hb
  have HD2 := Lib.hid (HD.out.below hb)
  clear hb
  refine hK.out _ _ (Wl.Kn.on trivial HD2.out) (fun hk => ?_)
  clear hK K
  refine Wl.take0 (i := 10) (v := .int .i64 (posC t cs : Int)) rfl (by kernel_rfl) (by kernel_rfl) (by kernel_rfl) (by kernel_rfl) (fun _ _ _ h => h) (.inl ⟨by kernel_rfl, ?_⟩) hk ?_
  · intro wx hSw
    clear hSw hk
    go_simp
    try first | with_reducible rfl | kernel_rfl
  simp only [Act.put, List.getElem_toArray, List.getElem_cons_succ, List.getElem_cons_zero, List.setIfInBounds_toArray, List.set_cons_succ, List.set_cons_zero]
  refine Wl.take0 (i := 11) (v := .bool (hasC t cs)) rfl (by kernel_rfl) (by kernel_rfl) (by kernel_rfl) (by kernel_rfl) (fun _ _ _ h => h) (.inl ⟨by kernel_rfl, ?_⟩) hk ?_
  · intro wx hSw
    clear hSw hk
    go_simp
    try first | with_reducible rfl | kernel_rfl
  simp only [Act.put, List.getElem_toArray, List.getElem_cons_succ, List.getElem_cons_zero, List.setIfInBounds_toArray, List.set_cons_succ, List.set_cons_zero]
  refine Wl.take0 (i := 12) (v := .int .i64 (posC t cs : Int)) rfl (by kernel_rfl) (by kernel_rfl) (by kernel_rfl) (by kernel_rfl) (fun _ _ _ h => h) (.inl ⟨by kernel_rfl, ?_⟩) hk ?_
  · intro wx hSw
    clear hSw hk
    go_simp
    try first | with_reducible rfl | kernel_rfl
  simp only [Act.put, List.getElem_toArray, List.getElem_cons_succ, List.getElem_cons_zero, List.setIfInBounds_toArray, List.set_cons_succ, List.set_cons_zero]
  refine Wl.take0 (i := 13) (v := .bool (hasC t cs)) rfl (by kernel_rfl) (by kernel_rfl) (by kernel_rfl) (by kernel_rfl) (fun _ _ _ h => h) (.inl ⟨by kernel_rfl, ?_⟩) hk ?_
  · intro wx hSw
    clear hSw hk
    go_simp
    try first | with_reducible rfl | kernel_rfl
  simp only [Act.put, List.getElem_toArray, List.getElem_cons_succ, List.getElem_cons_zero, List.setIfInBounds_toArray, List.set_cons_succ, List.set_cons_zero]
  refine Wl.done (by kernel_rfl) ?_ _
  clear hk
  go_wp2
  go_ret2
  exact ⟨rfl, (Below.refl _ _).drew.trans HB.out⟩

theorem holding_any {p : Nat} {cs : List Cn} {ws : List Int} (s : Int) (w : World) (h : PoolAt w p cs ws) : Calls Try.prog 26 #[.pointer (some ⟨p, 0, none⟩), .int .i64 s] w fun e w' => e = .returned (.int .i64 (idxOf (sessQ s) cs)) ∧ Below w.heap.size w w' := by
  obtain ⟨W1, hW1⟩ : ∃ q, w.alloc (.cells #[.int .i64 s] 3) = q := ⟨_, rfl⟩
  have hb1 : Below w.heap.size w W1 := by rw [← hW1]; exact (Below.refl _ _).alloc (Nat.le_refl _) _
  have HB1 := Lib.hid hb1
  have HD : Hid (PoolAt W1.drew p cs ws) := Lib.hid (h.below hb1).drew
  have HG : Hid (W1.drew.cell? ⟨w.heap.size, 0, none⟩ = some (.int .i64 s)) := Lib.hid (by rw [← hW1]; exact cell_new w _ _)
  have HGL : Hid (w.heap.size < W1.drew.heap.size) := Lib.hid (by rw [← hW1]; exact row_lt (heap_alloc_new w _))
  clear h hb1
  go_enter Try.func26, Try.ntmps26
  go_upto_region 1 with fail
  clear hW1
  refine Wl.start 999 (fun _ => True) (fun u => PoolAt u p cs ws) (by kernel_rfl) trivial HD.out (fun hk => ?_)
  refine Wl.take0 (i := 0) (v := .pointer (some ⟨p, 0, none⟩)) rfl (by kernel_rfl) (by kernel_rfl) (by kernel_rfl) (by kernel_rfl) (fun _ _ _ h => h) (.inl ⟨by kernel_rfl, ?_⟩) hk ?_
  · intro wx hSw
    clear hSw hk
    go_simp
    try first | with_reducible rfl | kernel_rfl
  simp only [Act.put, List.getElem_toArray, List.getElem_cons_succ, List.getElem_cons_zero, List.setIfInBounds_toArray, List.set_cons_succ, List.set_cons_zero]
  refine Wl.take0 (i := 1) (v := .pointer (some ⟨p, 0, none⟩)) rfl (by kernel_rfl) (by kernel_rfl) (by kernel_rfl) (by kernel_rfl) (fun _ _ _ h => h) (.inl ⟨by kernel_rfl, ?_⟩) hk ?_
  · intro wx hSw
    clear hSw hk
    go_simp
    try first | with_reducible rfl | kernel_rfl
  simp only [Act.put, List.getElem_toArray, List.getElem_cons_succ, List.getElem_cons_zero, List.setIfInBounds_toArray, List.set_cons_succ, List.set_cons_zero]
  refine Wl.take0 (i := 2) (v := .pointer (some ⟨p, 0, none⟩)) rfl (by kernel_rfl) (by kernel_rfl) (by kernel_rfl) (by kernel_rfl) (fun _ _ _ h => h) (.inl ⟨by kernel_rfl, ?_⟩) hk ?_
  · intro wx hSw
    clear hSw hk
    go_simp
    try first | with_reducible rfl | kernel_rfl
  simp only [Act.put, List.getElem_toArray, List.getElem_cons_succ, List.getElem_cons_zero, List.setIfInBounds_toArray, List.set_cons_succ, List.set_cons_zero]
  refine Wl.take0 (i := 3) (v := .pointer (some ⟨p, 0, none⟩)) rfl (by kernel_rfl) (by kernel_rfl) (by kernel_rfl) (by kernel_rfl) (fun _ _ _ h => h) (.inl ⟨by kernel_rfl, ?_⟩) hk ?_
  · intro wx hSw
    clear hSw hk
    go_simp
    try first | with_reducible rfl | kernel_rfl
  simp only [Act.put, List.getElem_toArray, List.getElem_cons_succ, List.getElem_cons_zero, List.setIfInBounds_toArray, List.set_cons_succ, List.set_cons_zero]
  refine Wl.take0 (i := 4) (v := .pointer (some ⟨p, 0, none⟩)) rfl (by kernel_rfl) (by kernel_rfl) (by kernel_rfl) (by kernel_rfl) (fun _ _ _ h => h) (.inl ⟨by kernel_rfl, ?_⟩) hk ?_
  · intro wx hSw
    clear hSw hk
    go_simp
    try first | with_reducible rfl | kernel_rfl
  simp only [Act.put, List.getElem_toArray, List.getElem_cons_succ, List.getElem_cons_zero, List.setIfInBounds_toArray, List.set_cons_succ, List.set_cons_zero]
  refine Wl.take0 (i := 5) (v := .pointer (some ⟨p, 16, none⟩)) rfl (by kernel_rfl) (by kernel_rfl) (by kernel_rfl) (by kernel_rfl) (fun _ _ _ h => h) (.inl ⟨by kernel_rfl, ?_⟩) hk ?_
  · intro wx hSw
    clear hSw hk
    go_simp
    try first | with_reducible rfl | kernel_rfl
  simp only [Act.put, List.getElem_toArray, List.getElem_cons_succ, List.getElem_cons_zero, List.setIfInBounds_toArray, List.set_cons_succ, List.set_cons_zero]
  refine Wl.take0 (i := 6) (v := .int .i64 (cs.length : Int)) rfl (by kernel_rfl) (by kernel_rfl) (by kernel_rfl) (by kernel_rfl) (fun _ _ _ h => h) (.inl ⟨by kernel_rfl, ?_⟩) hk ?_
  · intro wx hSw
    have cc := hSw.many
    clear hSw hk
    go_simp
    try first | with_reducible rfl | kernel_rfl
  simp only [Act.put, List.getElem_toArray, List.getElem_cons_succ, List.getElem_cons_zero, List.setIfInBounds_toArray, List.set_cons_succ, List.set_cons_zero]
  refine Wl.take0 (i := 7) (v := .slice (some ⟨p, 0, none⟩) cs.length 8) rfl (by kernel_rfl) (by kernel_rfl) (by kernel_rfl) (by kernel_rfl) (fun _ _ _ h => h) (.inl ⟨by kernel_rfl, ?_⟩) hk ?_
  · intro wx hSw
    have hl := hSw.2.1
    have hl2 : (cs.length : Int) ≤ 8 := by omega
    clear hSw hk
    go_simp
    try first | with_reducible rfl | kernel_rfl
  simp only [Act.put, List.getElem_toArray, List.getElem_cons_succ, List.getElem_cons_zero, List.setIfInBounds_toArray, List.set_cons_succ, List.set_cons_zero]
  refine Wl.take0 (i := 8) (v := .func (.func 39) #[] #[.pointer (some ⟨w.heap.size, 0, none⟩)]) rfl (by kernel_rfl) (by kernel_rfl) (by kernel_rfl) (by kernel_rfl) (fun _ _ _ h => h) (.inl ⟨by kernel_rfl, ?_⟩) hk ?_
  · intro wx hSw
    clear hSw hk
    go_simp
    try first | with_reducible rfl | kernel_rfl
  simp only [Act.put, List.getElem_toArray, List.getElem_cons_succ, List.getElem_cons_zero, List.setIfInBounds_toArray, List.set_cons_succ, List.set_cons_zero]
  refine Wl.one (i := 9) (by kernel_rfl) rfl (fun K hK => ?_)
  go_simp
  refine (ixf_any cs p 0 8 s w.heap.size _ ⟨HD.out.2.1, by omega⟩ HD.out.1.lt HG.out HGL.out HD.out.ccells).mono ?_
  rintro e w2 ⟨rfl, hb⟩
  have HB := Lib.hid hb
  have HD2 := Lib.hid (HD.out.below hb)
  clear hb
  refine hK.out _ _ (Wl.Kn.on trivial HD2.out) (fun hk => ?_)
  clear hK K
  refine Wl.take0 (i := 10) (v := .int .i64 (idxOf (sessQ s) cs)) rfl (by kernel_rfl) (by kernel_rfl) (by kernel_rfl) (by kernel_rfl) (fun _ _ _ h => h) (.inl ⟨by kernel_rfl, ?_⟩) hk ?_
  · intro wx hSw
    clear hSw hk
    go_simp
    try first | with_reducible rfl | kernel_rfl
  simp only [Act.put, List.getElem_toArray, List.getElem_cons_succ, List.getElem_cons_zero, List.setIfInBounds_toArray, List.set_cons_succ, List.set_cons_zero]
  refine Wl.done (by kernel_rfl) ?_ _
  clear hk
  go_wp2
  go_ret
  exact ⟨rfl, HB1.out.drew.trans (HB.out.mono HB1.out.size)⟩
def ofI (s : Int) (cs : List Cn) : Int := if s = 0 then -1 else idxOf (sessQ s) cs
theorem of_any {p : Nat} {cs : List Cn} {ws : List Int} (s : Int) (w : World) (h : PoolAt w p cs ws) : Calls Try.prog 24 #[.pointer (some ⟨p, 0, none⟩), .int .i64 s] w fun e w' => e = .returned (.int .i64 (ofI s cs)) ∧ Below w.heap.size w w' := by
  have HD := Lib.hid h
  clear h
  by_cases h0 : s = 0
  · subst h0
    go_enter Try.func24, Try.ntmps24
    go_wp2
    go_ret
    exact ⟨rfl, Below.refl _ _⟩
  · have e : ofI s cs = idxOf (sessQ s) cs := by unfold ofI; rw [if_neg h0]
    rw [e]
    clear e
    go_enter Try.func24, Try.ntmps24
    go_wp2_with (refine (holding_any s _ HD.out).mono ?_; rintro e w2 ⟨rfl, hb⟩)
    go_ret
    exact ⟨rfl, hb⟩

theorem erase_at {s : Int} {ws : List Int} {k : Nat} {x : Int} (hx : ws[k]? = some x) (hq : isQ s x = true) (ha : Ahead (isQ s) ws k) : s ∈ ws ∧ ∀ j, (ws.erase s)[j]? = if j < k then ws[j]? else ws[j + 1]? := by
  obtain rfl : x = s := by simpa [isQ] using hq
  refine ⟨List.mem_of_getElem? hx, ?_⟩
  induction ws generalizing k with
  | nil => simp at hx
  | cons y ys ih =>
    intro j
    cases k with
    | zero =>
      simp only [List.getElem?_cons_zero, Option.some.injEq] at hx
      subst hx
      rw [List.erase_cons_head, if_neg (by omega), List.getElem?_cons_succ]
    | succ k =>
      have hy : y ≠ x := by
        have := ha 0 y (by omega) rfl
        simpa [isQ] using this
      rw [List.erase_cons_tail (by simpa using hy)]
      rw [List.getElem?_cons_succ] at hx
      have hi := ih hx (fun i z hi hz => ha (i + 1) z (by omega) (by rw [List.getElem?_cons_succ]; exact hz))
      cases j with
      | zero => rw [List.getElem?_cons_zero, if_pos (by omega), List.getElem?_cons_zero]
      | succ j =>
        rw [List.getElem?_cons_succ, hi j]
        by_cases hj : j < k
        · rw [if_pos hj, if_pos (by omega), List.getElem?_cons_succ]
        · rw [if_neg hj, if_neg (by omega), List.getElem?_cons_succ]
/-- the row behind 'leave' -/
theorem leave_row {cs : List Cn} {ws : List Int} {s x : Int} {k : Nat} (h4 : ws.length ≤ 4) (hx : ws[k]? = some x) (hq : isQ s x = true) (ha : Ahead (isQ s) ws k) (i : Nat) (hi : i < 22) :
    (if i = 17 + (ws.length - 1) then (0 : Int) else if i = 21 then (ws.length : Int) - 1 else cpy (17 + k) (17 + (k + 1)) (ws.length - (k + 1)) (cellOf cs ws) i) = cellOf cs (ws.erase s) i := by
  obtain ⟨hm, he⟩ := erase_at hx hq ha
  have hk := (List.getElem?_eq_some_iff.1 hx).1
  have hl := List.length_erase_of_mem hm
  have hle : (ws.erase s).length = ws.length - 1 := hl
  by_cases h1 : i < 17
  · rw [if_neg (by omega), if_neg (by omega)]
    unfold cpy
    rw [if_neg (by omega)]
    unfold cellOf
    by_cases h2 : i < 16
    · rw [if_pos h2, if_pos h2]
    · rw [if_neg h2, if_neg h2, if_pos (by omega), if_pos (by omega)]
  · by_cases h2 : i = 21
    · subst h2
      rw [if_neg (by omega), if_pos rfl]
      unfold cellOf
      rw [if_neg (by omega), if_neg (by omega), if_neg (by omega), hle]
      omega
    · have hr : cellOf cs (ws.erase s) i = (if i - 17 < k then ws[i - 17]? else ws[i - 17 + 1]?).getD 0 := by
        unfold cellOf
        rw [if_neg (by omega), if_neg (by omega), if_pos (by omega), he]
      rw [hr]
      by_cases h3 : i = 17 + (ws.length - 1)
      · rw [if_pos h3, if_neg (by omega), List.getElem?_eq_none (by omega)]
        rfl
      · rw [if_neg h3, if_neg h2]
        unfold cpy
        by_cases h4 : 17 + k ≤ i ∧ i < 17 + k + (ws.length - (k + 1))
        · rw [if_pos h4, if_neg (by omega)]
          unfold cellOf
          rw [if_neg (by omega), if_neg (by omega), if_pos (by omega), show i - (17 + k) + (17 + (k + 1)) - 17 = i - 17 + 1 by omega]
        · rw [if_neg h4]
          unfold cellOf
          rw [if_neg (by omega), if_neg (by omega), if_pos (by omega)]
          by_cases h5 : i - 17 < k
          · rw [if_pos h5]
          · rw [if_neg h5, List.getElem?_eq_none (by omega), List.getElem?_eq_none (by omega)]
set_option maxHeartbeats 1000000 in
theorem leave_any {p : Nat} {cs : List Cn} {ws : List Int} (s : Int) (w : World) (h : PoolAt w p cs ws) : Calls Try.prog 28 #[.pointer (some ⟨p, 0, none⟩), .int .i64 s] w fun e w' => e = .returned (.bool (decide (s ∈ ws))) ∧ PoolAt w' p cs (ws.erase s) ∧ Only (fun k => k = p) w w' := by
  have HD := Lib.hid h.drew
  rcases idx_cases (isQ s) ws with ⟨k, x, hx, hk, hq, ha, e⟩ | ⟨ha, e⟩
  · have HI := Lib.hid e
    have HM := Lib.hid (erase_at hx hq ha).1
    have HR := Lib.hid (fun i hi => leave_row (cs := cs) h.2.2 hx hq ha i hi)
    have HER := Lib.hid (List.length_erase_of_mem (erase_at hx hq ha).1)
    have hk3 : k < 4 := by have := h.2.2; omega
    have HL4 : Hid (k < ws.length ∧ ws.length ≤ 4) := Lib.hid ⟨hk, h.2.2⟩
    have HMN : Hid (Nat.min (ws.length - (k + 1)) (4 - k) = ws.length - (k + 1)) := Lib.hid (by have := h.2.2; exact Nat.min_eq_left (by omega))
    obtain ⟨cur, hcu, hcl, hln, hsr, ho1, hraw⟩ := RawP.cpy h.1.drew.drew (17 + k) (17 + (k + 1)) (ws.length - (k + 1)) (by have := h.2.2; omega) (by have := h.2.2; omega)
    have HD2 : Hid (PoolAt w.drew.drew p cs ws) := Lib.hid h.drew.drew
    obtain ⟨AD, hAD⟩ : ∃ q, (if 4 = k + 1 then (⟨p, 17, none⟩ : Addr) else ⟨p, 17 + (k + 1), none⟩) = q := ⟨_, rfl⟩
    have HSR : Hid (∀ j v, ((List.range (ws.length - (k + 1))).map fun j => Value.int .i64 (cellOf cs ws (17 + (k + 1) + j)))[j]? = some v → w.drew.drew.cell? (AD.add j) = some v) := Lib.hid (fun j v hv => by
      by_cases hc : 4 = k + 1
      · exfalso
        have := (List.getElem?_eq_some_iff.1 hv).1
        rw [hln] at this
        have := h.2.2
        omega
      · rw [← hAD, if_neg hc]
        exact hsr j v hv)
    have HCU := Lib.hid hcu
    have HCL := Lib.hid hcl
    have HLN := Lib.hid hln
    have HO1 := Lib.hid ho1
    obtain ⟨W2, hW2⟩ : ∃ q, w.drew.drew.setRow p (splice cur (17 + k) ((List.range (ws.length - (k + 1))).map fun j => Value.int .i64 (cellOf cs ws (17 + (k + 1) + j)))).toArray = q := ⟨_, rfl⟩
    rw [hW2] at hraw
    obtain ⟨F, hF⟩ : ∃ F, cpy (17 + k) (17 + (k + 1)) (ws.length - (k + 1)) (cellOf cs ws) = F := ⟨_, rfl⟩
    have HR2 : Hid (∀ i, i < 22 → (if i = 17 + (ws.length - 1) then (0 : Int) else if i = 21 then (ws.length : Int) - 1 else F i) = cellOf cs (ws.erase s) i) := Lib.hid (fun i hi => by rw [← hF]; exact HR.out i hi)
    have f21 : F 21 = (ws.length : Int) := by
      rw [← hF]
      unfold cpy
      have h4 := h.2.2
      rw [if_neg (by clear e; omega)]
      rfl
    rw [hF] at hraw
    have c21 : W2.cell? ⟨p, 21, none⟩ = some (.int .i64 (ws.length : Int)) := by rw [← f21]; exact hraw.c 21 (by omega)
    have z21 : W2.frozen? ⟨p, 21, none⟩ = false := hraw.z 21
    obtain ⟨W3, hW3⟩ : ∃ q, W2.setCell ⟨p, 21, none⟩ (.int .i64 ((ws.length : Int) - 1)) = q := ⟨_, rfl⟩
    have hr3 := hraw.set 21 ((ws.length : Int) - 1)
    rw [hW3] at hr3
    have HP3 : Hid (RawP W3.drew p (fun j => if j = 21 then (ws.length : Int) - 1 else F j) ∧ W3.drew.cell? ⟨p, 21, none⟩ = some (.int .i64 ((ws.length : Int) - 1))) := Lib.hid ⟨hr3, hr3.c 21 (by omega)⟩
    have z3 : W3.drew.frozen? ⟨p, 17 + (ws.length - 1), none⟩ = false := hr3.drew.z _
    have c3 := hr3.drew.c (17 + (ws.length - 1)) (by have := h.2.2; omega)
    obtain ⟨W4, hW4⟩ : ∃ q, W3.drew.setCell ⟨p, 17 + (ws.length - 1), none⟩ (.int .i64 0) = q := ⟨_, rfl⟩
    have hr4 := hr3.drew.set (17 + (ws.length - 1)) 0
    rw [hW4] at hr4
    have HFIN : Hid (PoolAt W4 p cs (ws.erase s) ∧ Only (fun k => k = p) w W4) := Lib.hid ⟨⟨hr4.congr HR2.out, h.2.1, by rw [HER.out]; have := h.2.2; omega⟩, by
      rw [← hW4, ← hW3, ← hW2]
      exact ((((Only.refl (fun k => k = p) w).drew.drew.row p _ rfl).set p 21 _ rfl).drew).set p _ _ rfl⟩
    have hl1 : 1 ≤ ws.length := by omega
    have hl4 := h.2.2
    clear h hx ha hcu hcl hln hsr ho1 hraw hr3 hr4 hF f21 e hq
    rw [decide_eq_true HM.out]
    go_enter Try.func28, Try.ntmps28
    go_upto_region 3 with fail
    refine Wl.start 999 (fun _ => True) (fun u => PoolAt u p cs ws) (by kernel_rfl) trivial HD.out (fun hk => ?_)
    refine Wl.take0 (i := 0) (v := .pointer (some ⟨p, 0, none⟩)) rfl (by kernel_rfl) (by kernel_rfl) (by kernel_rfl) (by kernel_rfl) (fun _ _ _ h => h) (.inl ⟨by kernel_rfl, ?_⟩) hk ?_
    · intro wx hSw
      clear hSw hk
      go_simp
      try first | with_reducible rfl | kernel_rfl
    simp only [Act.put, List.getElem_toArray, List.getElem_cons_succ, List.getElem_cons_zero, List.setIfInBounds_toArray, List.set_cons_succ, List.set_cons_zero]
    refine Wl.take0 (i := 1) (v := .pointer (some ⟨p, 0, none⟩)) rfl (by kernel_rfl) (by kernel_rfl) (by kernel_rfl) (by kernel_rfl) (fun _ _ _ h => h) (.inl ⟨by kernel_rfl, ?_⟩) hk ?_
    · intro wx hSw
      clear hSw hk
      go_simp
      try first | with_reducible rfl | kernel_rfl
    simp only [Act.put, List.getElem_toArray, List.getElem_cons_succ, List.getElem_cons_zero, List.setIfInBounds_toArray, List.set_cons_succ, List.set_cons_zero]
    refine Wl.take0 (i := 2) (v := .pointer (some ⟨p, 17, none⟩)) rfl (by kernel_rfl) (by kernel_rfl) (by kernel_rfl) (by kernel_rfl) (fun _ _ _ h => h) (.inl ⟨by kernel_rfl, ?_⟩) hk ?_
    · intro wx hSw
      clear hSw hk
      go_simp
      try first | with_reducible rfl | kernel_rfl
    simp only [Act.put, List.getElem_toArray, List.getElem_cons_succ, List.getElem_cons_zero, List.setIfInBounds_toArray, List.set_cons_succ, List.set_cons_zero]
    refine Wl.take0 (i := 3) (v := .pointer (some ⟨p, 0, none⟩)) rfl (by kernel_rfl) (by kernel_rfl) (by kernel_rfl) (by kernel_rfl) (fun _ _ _ h => h) (.inl ⟨by kernel_rfl, ?_⟩) hk ?_
    · intro wx hSw
      clear hSw hk
      go_simp
      try first | with_reducible rfl | kernel_rfl
    simp only [Act.put, List.getElem_toArray, List.getElem_cons_succ, List.getElem_cons_zero, List.setIfInBounds_toArray, List.set_cons_succ, List.set_cons_zero]
    refine Wl.take0 (i := 4) (v := .pointer (some ⟨p, 0, none⟩)) rfl (by kernel_rfl) (by kernel_rfl) (by kernel_rfl) (by kernel_rfl) (fun _ _ _ h => h) (.inl ⟨by kernel_rfl, ?_⟩) hk ?_
    · intro wx hSw
      clear hSw hk
      go_simp
      try first | with_reducible rfl | kernel_rfl
    simp only [Act.put, List.getElem_toArray, List.getElem_cons_succ, List.getElem_cons_zero, List.setIfInBounds_toArray, List.set_cons_succ, List.set_cons_zero]
    refine Wl.take0 (i := 5) (v := .pointer (some ⟨p, 21, none⟩)) rfl (by kernel_rfl) (by kernel_rfl) (by kernel_rfl) (by kernel_rfl) (fun _ _ _ h => h) (.inl ⟨by kernel_rfl, ?_⟩) hk ?_
    · intro wx hSw
      clear hSw hk
      go_simp
      try first | with_reducible rfl | kernel_rfl
    simp only [Act.put, List.getElem_toArray, List.getElem_cons_succ, List.getElem_cons_zero, List.setIfInBounds_toArray, List.set_cons_succ, List.set_cons_zero]
    refine Wl.take0 (i := 6) (v := .int .i64 (ws.length : Int)) rfl (by kernel_rfl) (by kernel_rfl) (by kernel_rfl) (by kernel_rfl) (fun _ _ _ h => h) (.inl ⟨by kernel_rfl, ?_⟩) hk ?_
    · intro wx hSw
      have cc := hSw.waiting
      clear hSw hk
      go_simp
      try first | with_reducible rfl | kernel_rfl
    simp only [Act.put, List.getElem_toArray, List.getElem_cons_succ, List.getElem_cons_zero, List.setIfInBounds_toArray, List.set_cons_succ, List.set_cons_zero]
    refine Wl.take0 (i := 7) (v := .slice (some ⟨p, 17, none⟩) ws.length 4) rfl (by kernel_rfl) (by kernel_rfl) (by kernel_rfl) (by kernel_rfl) (fun _ _ _ h => h) (.inl ⟨by kernel_rfl, ?_⟩) hk ?_
    · intro wx hSw
      have hl := hSw.2.2
      have hl2 : (ws.length : Int) ≤ 4 := by omega
      clear hSw hk
      go_simp
      try first | with_reducible rfl | kernel_rfl
    simp only [Act.put, List.getElem_toArray, List.getElem_cons_succ, List.getElem_cons_zero, List.setIfInBounds_toArray, List.set_cons_succ, List.set_cons_zero]
    refine Wl.take0 (i := 8) (v := .int .i64 s) rfl (by kernel_rfl) (by kernel_rfl) (by kernel_rfl) (by kernel_rfl) (fun _ _ _ h => h) (.inl ⟨by kernel_rfl, ?_⟩) hk ?_
    · intro wx hSw
      clear hSw hk
      go_simp
      try first | with_reducible rfl | kernel_rfl
    simp only [Act.put, List.getElem_toArray, List.getElem_cons_succ, List.getElem_cons_zero, List.setIfInBounds_toArray, List.set_cons_succ, List.set_cons_zero]
    refine Wl.one (i := 9) (by kernel_rfl) rfl (fun K hK => ?_)
    go_simp
    refine (index_any ws p 17 4 s _ ⟨HD.out.2.2, by omega⟩ HD.out.wcells).mono ?_
    rintro e w2 ⟨rfl, rfl⟩
    rw [HI.out]
    refine hK.out _ _ (Wl.Kn.on trivial HD.out) (fun hk => ?_)
    clear hK K
    refine Wl.take0 (i := 10) (v := .int .i64 (k : Int)) rfl (by kernel_rfl) (by kernel_rfl) (by kernel_rfl) (by kernel_rfl) (fun _ _ _ h => h) (.inl ⟨by kernel_rfl, ?_⟩) hk ?_
    · intro wx hSw
      clear hSw hk
      go_simp
      try first | with_reducible rfl | kernel_rfl
    simp only [Act.put, List.getElem_toArray, List.getElem_cons_succ, List.getElem_cons_zero, List.setIfInBounds_toArray, List.set_cons_succ, List.set_cons_zero]
    refine Wl.done (by kernel_rfl) ?_ _
    clear hk
    go_upto_region 6 with fail
    refine Wl.start 15 (fun u => PoolAt u p cs ws) (fun _ => True) (by kernel_rfl) HD2.out trivial (fun hk => ?_)
    refine Wl.take (i := 0) (v := .pointer (some ⟨p, 0, none⟩)) [1, 2, 4, 15] rfl (by kernel_rfl) (by kernel_rfl) (by kernel_rfl) (by kernel_rfl) (by kernel_rfl) (fun _ _ _ h => h) (.inl ⟨by kernel_rfl, ?_⟩) hk ?_
    · intro wx hSw
      clear hSw hk
      go_simp
      try first | with_reducible rfl | kernel_rfl
    simp only [Act.put, List.getElem_toArray, List.getElem_cons_succ, List.getElem_cons_zero, List.setIfInBounds_toArray, List.set_cons_succ, List.set_cons_zero]
    refine Wl.take (i := 1) (v := .pointer (some ⟨p, 0, none⟩)) [2, 4, 15] rfl (by kernel_rfl) (by kernel_rfl) (by kernel_rfl) (by kernel_rfl) (by kernel_rfl) (fun _ _ _ h => h) (.inl ⟨by kernel_rfl, ?_⟩) hk ?_
    · intro wx hSw
      clear hSw hk
      go_simp
      try first | with_reducible rfl | kernel_rfl
    simp only [Act.put, List.getElem_toArray, List.getElem_cons_succ, List.getElem_cons_zero, List.setIfInBounds_toArray, List.set_cons_succ, List.set_cons_zero]
    refine Wl.take (i := 2) (v := .pointer (some ⟨p, 17, none⟩)) [4, 15] rfl (by kernel_rfl) (by kernel_rfl) (by kernel_rfl) (by kernel_rfl) (by kernel_rfl) (fun _ _ _ h => h) (.inl ⟨by kernel_rfl, ?_⟩) hk ?_
    · intro wx hSw
      clear hSw hk
      go_simp
      try first | with_reducible rfl | kernel_rfl
    simp only [Act.put, List.getElem_toArray, List.getElem_cons_succ, List.getElem_cons_zero, List.setIfInBounds_toArray, List.set_cons_succ, List.set_cons_zero]
    refine Wl.take (i := 3) (v := .int .i64 (k : Int)) [4, 15] rfl (by kernel_rfl) (by kernel_rfl) (by kernel_rfl) (by kernel_rfl) (by kernel_rfl) (fun _ _ _ h => h) (.inl ⟨by kernel_rfl, ?_⟩) hk ?_
    · intro wx hSw
      clear hSw hk
      go_simp
      try first | with_reducible rfl | kernel_rfl
    simp only [Act.put, List.getElem_toArray, List.getElem_cons_succ, List.getElem_cons_zero, List.setIfInBounds_toArray, List.set_cons_succ, List.set_cons_zero]
    refine Wl.take (i := 4) (v := .slice (some ⟨p, 17 + k, none⟩) (4 - k) (4 - k)) [15] rfl (by kernel_rfl) (by kernel_rfl) (by kernel_rfl) (by kernel_rfl) (by kernel_rfl) (fun _ _ _ h => h) (.inl ⟨by kernel_rfl, ?_⟩) hk ?_
    · intro wx hSw
      have hne : ¬ (4 = k) := by omega
      have hi1 : (k : Int) ≤ 4 := by omega
      clear hSw hk
      go_simp
      try first | with_reducible rfl | kernel_rfl
    simp only [Act.put, List.getElem_toArray, List.getElem_cons_succ, List.getElem_cons_zero, List.setIfInBounds_toArray, List.set_cons_succ, List.set_cons_zero]
    refine Wl.take (i := 5) (v := .pointer (some ⟨p, 0, none⟩)) [6, 7, 14, 15] rfl (by kernel_rfl) (by kernel_rfl) (by kernel_rfl) (by kernel_rfl) (by kernel_rfl) (fun _ _ _ h => h) (.inl ⟨by kernel_rfl, ?_⟩) hk ?_
    · intro wx hSw
      clear hSw hk
      go_simp
      try first | with_reducible rfl | kernel_rfl
    simp only [Act.put, List.getElem_toArray, List.getElem_cons_succ, List.getElem_cons_zero, List.setIfInBounds_toArray, List.set_cons_succ, List.set_cons_zero]
    refine Wl.take (i := 6) (v := .pointer (some ⟨p, 0, none⟩)) [7, 14, 15] rfl (by kernel_rfl) (by kernel_rfl) (by kernel_rfl) (by kernel_rfl) (by kernel_rfl) (fun _ _ _ h => h) (.inl ⟨by kernel_rfl, ?_⟩) hk ?_
    · intro wx hSw
      clear hSw hk
      go_simp
      try first | with_reducible rfl | kernel_rfl
    simp only [Act.put, List.getElem_toArray, List.getElem_cons_succ, List.getElem_cons_zero, List.setIfInBounds_toArray, List.set_cons_succ, List.set_cons_zero]
    refine Wl.take (i := 7) (v := .pointer (some ⟨p, 17, none⟩)) [14, 15] rfl (by kernel_rfl) (by kernel_rfl) (by kernel_rfl) (by kernel_rfl) (by kernel_rfl) (fun _ _ _ h => h) (.inl ⟨by kernel_rfl, ?_⟩) hk ?_
    · intro wx hSw
      clear hSw hk
      go_simp
      try first | with_reducible rfl | kernel_rfl
    simp only [Act.put, List.getElem_toArray, List.getElem_cons_succ, List.getElem_cons_zero, List.setIfInBounds_toArray, List.set_cons_succ, List.set_cons_zero]
    refine Wl.take (i := 8) (v := .int .i64 (k : Int)) [9, 14, 15] rfl (by kernel_rfl) (by kernel_rfl) (by kernel_rfl) (by kernel_rfl) (by kernel_rfl) (fun _ _ _ h => h) (.inl ⟨by kernel_rfl, ?_⟩) hk ?_
    · intro wx hSw
      clear hSw hk
      go_simp
      try first | with_reducible rfl | kernel_rfl
    simp only [Act.put, List.getElem_toArray, List.getElem_cons_succ, List.getElem_cons_zero, List.setIfInBounds_toArray, List.set_cons_succ, List.set_cons_zero]
    refine Wl.take (i := 9) (v := .int .i64 ((k : Int) + 1)) [14, 15] rfl (by kernel_rfl) (by kernel_rfl) (by kernel_rfl) (by kernel_rfl) (by kernel_rfl) (fun _ _ _ h => h) (.inl ⟨by kernel_rfl, ?_⟩) hk ?_
    · intro wx hSw
      have hwr : IntKind.i64.wrap ((k : Int) + 1) = (k : Int) + 1 := by rw [IntKind.wrap_i64]; omega
      clear hSw hk
      go_simp
      try first | with_reducible rfl | kernel_rfl
    simp only [Act.put, List.getElem_toArray, List.getElem_cons_succ, List.getElem_cons_zero, List.setIfInBounds_toArray, List.set_cons_succ, List.set_cons_zero]
    refine Wl.take (i := 10) (v := .pointer (some ⟨p, 0, none⟩)) [11, 12, 13, 14, 15] rfl (by kernel_rfl) (by kernel_rfl) (by kernel_rfl) (by kernel_rfl) (by kernel_rfl) (fun _ _ _ h => h) (.inl ⟨by kernel_rfl, ?_⟩) hk ?_
    · intro wx hSw
      clear hSw hk
      go_simp
      try first | with_reducible rfl | kernel_rfl
    simp only [Act.put, List.getElem_toArray, List.getElem_cons_succ, List.getElem_cons_zero, List.setIfInBounds_toArray, List.set_cons_succ, List.set_cons_zero]
    refine Wl.take (i := 11) (v := .pointer (some ⟨p, 0, none⟩)) [12, 13, 14, 15] rfl (by kernel_rfl) (by kernel_rfl) (by kernel_rfl) (by kernel_rfl) (by kernel_rfl) (fun _ _ _ h => h) (.inl ⟨by kernel_rfl, ?_⟩) hk ?_
    · intro wx hSw
      clear hSw hk
      go_simp
      try first | with_reducible rfl | kernel_rfl
    simp only [Act.put, List.getElem_toArray, List.getElem_cons_succ, List.getElem_cons_zero, List.setIfInBounds_toArray, List.set_cons_succ, List.set_cons_zero]
    refine Wl.take (i := 12) (v := .pointer (some ⟨p, 21, none⟩)) [13, 14, 15] rfl (by kernel_rfl) (by kernel_rfl) (by kernel_rfl) (by kernel_rfl) (by kernel_rfl) (fun _ _ _ h => h) (.inl ⟨by kernel_rfl, ?_⟩) hk ?_
    · intro wx hSw
      clear hSw hk
      go_simp
      try first | with_reducible rfl | kernel_rfl
    simp only [Act.put, List.getElem_toArray, List.getElem_cons_succ, List.getElem_cons_zero, List.setIfInBounds_toArray, List.set_cons_succ, List.set_cons_zero]
    refine Wl.take (i := 13) (v := .int .i64 (ws.length : Int)) [14, 15] rfl (by kernel_rfl) (by kernel_rfl) (by kernel_rfl) (by kernel_rfl) (by kernel_rfl) (fun _ _ _ h => h) (.inl ⟨by kernel_rfl, ?_⟩) hk ?_
    · intro wx hSw
      have cc := hSw.1.waiting
      clear hSw hk
      go_simp
      try first | with_reducible rfl | kernel_rfl
    simp only [Act.put, List.getElem_toArray, List.getElem_cons_succ, List.getElem_cons_zero, List.setIfInBounds_toArray, List.set_cons_succ, List.set_cons_zero]
    refine Wl.take (i := 14) (v := .slice (some AD) (ws.length - (k + 1)) (4 - (k + 1))) [15] rfl (by kernel_rfl) (by kernel_rfl) (by kernel_rfl) (by kernel_rfl) (by kernel_rfl) (fun _ _ _ h => h) (.inl ⟨by kernel_rfl, ?_⟩) hk ?_
    · intro wx hSw
      rw [← hAD]
      have hl := hSw.1.2.2
      have hq4 : (ws.length : Int) ≤ 4 := by omega
      have hkl := HL4.out.1
      by_cases hc : k = 3
      · subst hc
        have hq5 : (4 : Int) ≤ (ws.length : Int) := by omega
        have hq6 : ws.length - 4 = 0 := by omega
        clear hkl hl
        clear hSw hk
        go_simp
        try first | with_reducible rfl | kernel_rfl
      have hne : ¬ (4 = k + 1) := by omega
      have hq7 : (k : Int) + 1 ≤ (ws.length : Int) := by omega
      have hq8 : (0 : Int) ≤ (k : Int) + 1 := by omega
      have hq9 : ((k : Int) + 1).toNat = k + 1 := by omega
      have hq10 : 4 - (k + 1) = 3 - k := by omega
      clear hkl hl
      clear hSw hk
      go_simp
      try first | with_reducible rfl | kernel_rfl
    simp only [Act.put, List.getElem_toArray, List.getElem_cons_succ, List.getElem_cons_zero, List.setIfInBounds_toArray, List.set_cons_succ, List.set_cons_zero]
    refine Wl.one (i := 15) (by kernel_rfl) rfl (fun K hK => ?_)
    refine Sg.step_copy_rows rfl (.tmp 24) (.tmp 34) _ _ rfl 3 1 Try.underlying28 (by kernel_rfl) p (17 + k) (4 - k) (4 - k) AD (ws.length - (k + 1)) (4 - (k + 1)) rfl rfl cur 44 HCU.out ((List.range (ws.length - (k + 1))).map fun j => Value.int .i64 (cellOf cs ws (17 + (k + 1) + j))) (by rw [HLN.out, HMN.out]; omega) HSR.out (by rw [HLN.out, HCL.out]; have := HL4.out; omega) HO1.out ?_
    rw [hW2]
    refine hK.out _ _ (Wl.Kn.off (by kernel_rfl) trivial) (fun hk => ?_)
    clear hK K
    refine Wl.done (by kernel_rfl) ?_ _
    clear hk
    go_upto_region 8 with fail
    refine Wl.start 8 (fun u => RawP u p (fun j => if j = 21 then (ws.length : Int) - 1 else F j) ∧ u.cell? ⟨p, 21, none⟩ = some (.int .i64 ((ws.length : Int) - 1))) (fun _ => True) (by kernel_rfl) HP3.out trivial (fun hk => ?_)
    refine Wl.take (i := 0) (v := .pointer (some ⟨p, 0, none⟩)) [5, 6, 7, 8] rfl (by kernel_rfl) (by kernel_rfl) (by kernel_rfl) (by kernel_rfl) (by kernel_rfl) (fun _ _ _ h => h) (.inl ⟨by kernel_rfl, ?_⟩) hk ?_
    · intro wx hSw
      clear hSw hk
      go_simp
      try first | with_reducible rfl | kernel_rfl
    simp only [Act.put, List.getElem_toArray, List.getElem_cons_succ, List.getElem_cons_zero, List.setIfInBounds_toArray, List.set_cons_succ, List.set_cons_zero]
    refine Wl.take (i := 1) (v := .pointer (some ⟨p, 0, none⟩)) [2, 3, 4, 7, 8] rfl (by kernel_rfl) (by kernel_rfl) (by kernel_rfl) (by kernel_rfl) (by kernel_rfl) (fun _ _ _ h => h) (.inl ⟨by kernel_rfl, ?_⟩) hk ?_
    · intro wx hSw
      clear hSw hk
      go_simp
      try first | with_reducible rfl | kernel_rfl
    simp only [Act.put, List.getElem_toArray, List.getElem_cons_succ, List.getElem_cons_zero, List.setIfInBounds_toArray, List.set_cons_succ, List.set_cons_zero]
    refine Wl.take (i := 2) (v := .pointer (some ⟨p, 0, none⟩)) [3, 4, 7, 8] rfl (by kernel_rfl) (by kernel_rfl) (by kernel_rfl) (by kernel_rfl) (by kernel_rfl) (fun _ _ _ h => h) (.inl ⟨by kernel_rfl, ?_⟩) hk ?_
    · intro wx hSw
      clear hSw hk
      go_simp
      try first | with_reducible rfl | kernel_rfl
    simp only [Act.put, List.getElem_toArray, List.getElem_cons_succ, List.getElem_cons_zero, List.setIfInBounds_toArray, List.set_cons_succ, List.set_cons_zero]
    refine Wl.take (i := 3) (v := .pointer (some ⟨p, 21, none⟩)) [4, 7, 8] rfl (by kernel_rfl) (by kernel_rfl) (by kernel_rfl) (by kernel_rfl) (by kernel_rfl) (fun _ _ _ h => h) (.inl ⟨by kernel_rfl, ?_⟩) hk ?_
    · intro wx hSw
      clear hSw hk
      go_simp
      try first | with_reducible rfl | kernel_rfl
    simp only [Act.put, List.getElem_toArray, List.getElem_cons_succ, List.getElem_cons_zero, List.setIfInBounds_toArray, List.set_cons_succ, List.set_cons_zero]
    refine Wl.take (i := 4) (v := .int .i64 ((ws.length : Int) - 1)) [7, 8] rfl (by kernel_rfl) (by kernel_rfl) (by kernel_rfl) (by kernel_rfl) (by kernel_rfl) (fun _ _ _ h => h) (.inl ⟨by kernel_rfl, ?_⟩) hk ?_
    · intro wx hSw
      have cc := hSw.1.2
      clear hSw hk
      go_simp
      try first | with_reducible rfl | kernel_rfl
    simp only [Act.put, List.getElem_toArray, List.getElem_cons_succ, List.getElem_cons_zero, List.setIfInBounds_toArray, List.set_cons_succ, List.set_cons_zero]
    refine Wl.take (i := 5) (v := .pointer (some ⟨p, 0, none⟩)) [6, 7, 8] rfl (by kernel_rfl) (by kernel_rfl) (by kernel_rfl) (by kernel_rfl) (by kernel_rfl) (fun _ _ _ h => h) (.inl ⟨by kernel_rfl, ?_⟩) hk ?_
    · intro wx hSw
      clear hSw hk
      go_simp
      try first | with_reducible rfl | kernel_rfl
    simp only [Act.put, List.getElem_toArray, List.getElem_cons_succ, List.getElem_cons_zero, List.setIfInBounds_toArray, List.set_cons_succ, List.set_cons_zero]
    refine Wl.take (i := 6) (v := .pointer (some ⟨p, 17, none⟩)) [7, 8] rfl (by kernel_rfl) (by kernel_rfl) (by kernel_rfl) (by kernel_rfl) (by kernel_rfl) (fun _ _ _ h => h) (.inl ⟨by kernel_rfl, ?_⟩) hk ?_
    · intro wx hSw
      clear hSw hk
      go_simp
      try first | with_reducible rfl | kernel_rfl
    simp only [Act.put, List.getElem_toArray, List.getElem_cons_succ, List.getElem_cons_zero, List.setIfInBounds_toArray, List.set_cons_succ, List.set_cons_zero]
    refine Wl.take (i := 7) (v := .pointer (some ⟨p, 17 + (ws.length - 1), none⟩)) [8] rfl (by kernel_rfl) (by kernel_rfl) (by kernel_rfl) (by kernel_rfl) (by kernel_rfl) (fun _ _ _ h => h) (.inl ⟨by kernel_rfl, ?_⟩) hk ?_
    · intro wx hSw
      have hi0 : (1 : Int) ≤ (ws.length : Int) := by omega
      have hi1 : (0 : Int) ≤ (ws.length : Int) - 1 := by have := HL4.out; omega
      have hi2 : (ws.length : Int) - 1 < 4 := by have := HL4.out; omega
      have hi3 : ((ws.length : Int) - 1).toNat = ws.length - 1 := by omega
      clear hSw hk
      go_simp
      try first | with_reducible rfl | kernel_rfl
    simp only [Act.put, List.getElem_toArray, List.getElem_cons_succ, List.getElem_cons_zero, List.setIfInBounds_toArray, List.set_cons_succ, List.set_cons_zero]
    refine Wl.one (i := 8) (by kernel_rfl) rfl (fun K hK => ?_)
    go_simp
    try rw [hW4]
    refine hK.out _ _ (Wl.Kn.off (by kernel_rfl) trivial) (fun hk => ?_)
    clear hK K
    refine Wl.done (by kernel_rfl) ?_ _
    clear hk
    go_wp2
    go_ret
    exact ⟨rfl, HFIN.out⟩
  · have HI := Lib.hid e
    have HM : Hid (s ∉ ws) := Lib.hid (fun hs => by have := idx_mem s ws; rw [e, decide_eq_true hs] at this; simp at this)
    have HFIN : Hid (PoolAt w.drew p cs (ws.erase s) ∧ Only (fun k => k = p) w w.drew) := Lib.hid ⟨by rw [List.erase_of_not_mem HM.out]; exact h.drew, (Only.refl _ w).drew⟩
    clear h e ha
    rw [decide_eq_false HM.out]
    go_enter Try.func28, Try.ntmps28
    go_upto_region 3 with fail
    refine Wl.start 999 (fun _ => True) (fun u => PoolAt u p cs ws) (by kernel_rfl) trivial HD.out (fun hk => ?_)
    refine Wl.take0 (i := 0) (v := .pointer (some ⟨p, 0, none⟩)) rfl (by kernel_rfl) (by kernel_rfl) (by kernel_rfl) (by kernel_rfl) (fun _ _ _ h => h) (.inl ⟨by kernel_rfl, ?_⟩) hk ?_
    · intro wx hSw
      clear hSw hk
      go_simp
      try first | with_reducible rfl | kernel_rfl
    simp only [Act.put, List.getElem_toArray, List.getElem_cons_succ, List.getElem_cons_zero, List.setIfInBounds_toArray, List.set_cons_succ, List.set_cons_zero]
    refine Wl.take0 (i := 1) (v := .pointer (some ⟨p, 0, none⟩)) rfl (by kernel_rfl) (by kernel_rfl) (by kernel_rfl) (by kernel_rfl) (fun _ _ _ h => h) (.inl ⟨by kernel_rfl, ?_⟩) hk ?_
    · intro wx hSw
      clear hSw hk
      go_simp
      try first | with_reducible rfl | kernel_rfl
    simp only [Act.put, List.getElem_toArray, List.getElem_cons_succ, List.getElem_cons_zero, List.setIfInBounds_toArray, List.set_cons_succ, List.set_cons_zero]
    refine Wl.take0 (i := 2) (v := .pointer (some ⟨p, 17, none⟩)) rfl (by kernel_rfl) (by kernel_rfl) (by kernel_rfl) (by kernel_rfl) (fun _ _ _ h => h) (.inl ⟨by kernel_rfl, ?_⟩) hk ?_
    · intro wx hSw
      clear hSw hk
      go_simp
      try first | with_reducible rfl | kernel_rfl
    simp only [Act.put, List.getElem_toArray, List.getElem_cons_succ, List.getElem_cons_zero, List.setIfInBounds_toArray, List.set_cons_succ, List.set_cons_zero]
    refine Wl.take0 (i := 3) (v := .pointer (some ⟨p, 0, none⟩)) rfl (by kernel_rfl) (by kernel_rfl) (by kernel_rfl) (by kernel_rfl) (fun _ _ _ h => h) (.inl ⟨by kernel_rfl, ?_⟩) hk ?_
    · intro wx hSw
      clear hSw hk
      go_simp
      try first | with_reducible rfl | kernel_rfl
    simp only [Act.put, List.getElem_toArray, List.getElem_cons_succ, List.getElem_cons_zero, List.setIfInBounds_toArray, List.set_cons_succ, List.set_cons_zero]
    refine Wl.take0 (i := 4) (v := .pointer (some ⟨p, 0, none⟩)) rfl (by kernel_rfl) (by kernel_rfl) (by kernel_rfl) (by kernel_rfl) (fun _ _ _ h => h) (.inl ⟨by kernel_rfl, ?_⟩) hk ?_
    · intro wx hSw
      clear hSw hk
      go_simp
      try first | with_reducible rfl | kernel_rfl
    simp only [Act.put, List.getElem_toArray, List.getElem_cons_succ, List.getElem_cons_zero, List.setIfInBounds_toArray, List.set_cons_succ, List.set_cons_zero]
    refine Wl.take0 (i := 5) (v := .pointer (some ⟨p, 21, none⟩)) rfl (by kernel_rfl) (by kernel_rfl) (by kernel_rfl) (by kernel_rfl) (fun _ _ _ h => h) (.inl ⟨by kernel_rfl, ?_⟩) hk ?_
    · intro wx hSw
      clear hSw hk
      go_simp
      try first | with_reducible rfl | kernel_rfl
    simp only [Act.put, List.getElem_toArray, List.getElem_cons_succ, List.getElem_cons_zero, List.setIfInBounds_toArray, List.set_cons_succ, List.set_cons_zero]
    refine Wl.take0 (i := 6) (v := .int .i64 (ws.length : Int)) rfl (by kernel_rfl) (by kernel_rfl) (by kernel_rfl) (by kernel_rfl) (fun _ _ _ h => h) (.inl ⟨by kernel_rfl, ?_⟩) hk ?_
    · intro wx hSw
      have cc := hSw.waiting
      clear hSw hk
      go_simp
      try first | with_reducible rfl | kernel_rfl
    simp only [Act.put, List.getElem_toArray, List.getElem_cons_succ, List.getElem_cons_zero, List.setIfInBounds_toArray, List.set_cons_succ, List.set_cons_zero]
    refine Wl.take0 (i := 7) (v := .slice (some ⟨p, 17, none⟩) ws.length 4) rfl (by kernel_rfl) (by kernel_rfl) (by kernel_rfl) (by kernel_rfl) (fun _ _ _ h => h) (.inl ⟨by kernel_rfl, ?_⟩) hk ?_
    · intro wx hSw
      have hl := hSw.2.2
      have hl2 : (ws.length : Int) ≤ 4 := by omega
      clear hSw hk
      go_simp
      try first | with_reducible rfl | kernel_rfl
    simp only [Act.put, List.getElem_toArray, List.getElem_cons_succ, List.getElem_cons_zero, List.setIfInBounds_toArray, List.set_cons_succ, List.set_cons_zero]
    refine Wl.take0 (i := 8) (v := .int .i64 s) rfl (by kernel_rfl) (by kernel_rfl) (by kernel_rfl) (by kernel_rfl) (fun _ _ _ h => h) (.inl ⟨by kernel_rfl, ?_⟩) hk ?_
    · intro wx hSw
      clear hSw hk
      go_simp
      try first | with_reducible rfl | kernel_rfl
    simp only [Act.put, List.getElem_toArray, List.getElem_cons_succ, List.getElem_cons_zero, List.setIfInBounds_toArray, List.set_cons_succ, List.set_cons_zero]
    refine Wl.one (i := 9) (by kernel_rfl) rfl (fun K hK => ?_)
    go_simp
    refine (index_any ws p 17 4 s _ ⟨HD.out.2.2, by omega⟩ HD.out.wcells).mono ?_
    rintro e w2 ⟨rfl, rfl⟩
    rw [HI.out]
    refine hK.out _ _ (Wl.Kn.on trivial HD.out) (fun hk => ?_)
    clear hK K
    refine Wl.take0 (i := 10) (v := .int .i64 (-1)) rfl (by kernel_rfl) (by kernel_rfl) (by kernel_rfl) (by kernel_rfl) (fun _ _ _ h => h) (.inl ⟨by kernel_rfl, ?_⟩) hk ?_
    · intro wx hSw
      clear hSw hk
      go_simp
      try first | with_reducible rfl | kernel_rfl
    simp only [Act.put, List.getElem_toArray, List.getElem_cons_succ, List.getElem_cons_zero, List.setIfInBounds_toArray, List.set_cons_succ, List.set_cons_zero]
    refine Wl.done (by kernel_rfl) ?_ _
    clear hk
    go_wp2
    go_ret
    exact ⟨rfl, HFIN.out⟩
end Pl
end Go.Proofs.Ytlhojkopfpnhpaa
