/- Package pool: Conns, Waits, Clone; the law's example, what its do does; equal lists. No condition. -/
import Derived.Test.YtlhojkopfpnhpaaPlE
namespace Go.Proofs.Ytlhojkopfpnhpaa
open Go.ChangeShapes Go.WideShapes Go.ChangeAt Go.RowKit Go.Deep
set_option linter.unusedVariables false
set_option maxRecDepth 100000
set_option linter.unusedSimpArgs false
namespace Pl
theorem PoolAt.waitsR {w : World} {p : Nat} {cs : List Cn} {ws : List Int} (h : PoolAt w p cs ws) : SlR 1 intC w (.slice (some ⟨p, 17, none⟩) ws.length 4) ws := by
  refine ⟨_, _, rfl, h.2.2, by decide, .inr ⟨p, 17, none, rfl, .inr ⟨rfl, h.1.lt, ?_⟩⟩⟩
  intro i x hx j u hu
  match j, hu with
  | 0, hu => simp only [intC, List.getElem?_cons_zero, Option.some.injEq] at hu; subst hu; rw [← h.wait hx]; congr 2; omega
  | j + 1, hu => simp at hu

theorem Conns_any {p : Nat} {cs : List Cn} {ws : List Int} (w : World) (h : PoolAt w p cs ws) : Calls Try.prog 29 #[.pointer (some ⟨p, 0, none⟩)] w fun e w' => ∃ u, e = .returned u ∧ OwnR 2 cnC 40 w' w.heap.size u cs ∧ Below w.heap.size w w' := by
  have HDD := Lib.hid h.drew
  clear h
  go_enter Try.func29, Try.ntmps29
  go_upto_region 3 with fail
  refine Wl.start 999 (fun _ => True) (fun u => PoolAt u p cs ws) (by kernel_rfl) trivial HDD.out (fun hk => ?_)
  refine Wl.take0 (i := 0) (v := .pointer (some ⟨p, 0, none⟩)) rfl (by kernel_rfl) (by kernel_rfl) (by kernel_rfl) (by kernel_rfl) (fun _ _ _ h => h) (.inl ⟨by kernel_rfl, ?_⟩) hk ?_
  · intro wx hSw
    clear hSw hk
    go_simp
    try first | with_reducible rfl | kernel_rfl
  simp only [Act.put, List.getElem_toArray, List.getElem_cons_succ, List.getElem_cons_zero, List.setIfInBounds_toArray, List.set_cons_succ, List.set_cons_zero]
  refine Wl.take0 (i := 1) (v := .pointer (some ⟨p, 0, none⟩)) rfl (by kernel_rfl) (by kernel_rfl) (by kernel_rfl) (by kernel_rfl) (fun _ _ _ h => h) (.inl ⟨by kernel_rfl, ?_⟩) hk ?_
  · intro wx hSw
    clear hSw hk
    go_simp
    try first | with_reducible rfl | kernel_rfl
  simp only [Act.put, List.getElem_toArray, List.getElem_cons_succ, List.getElem_cons_zero, List.setIfInBounds_toArray, List.set_cons_succ, List.set_cons_zero]
  refine Wl.take0 (i := 2) (v := .pointer (some ⟨p, 0, none⟩)) rfl (by kernel_rfl) (by kernel_rfl) (by kernel_rfl) (by kernel_rfl) (fun _ _ _ h => h) (.inl ⟨by kernel_rfl, ?_⟩) hk ?_
  · intro wx hSw
    clear hSw hk
    go_simp
    try first | with_reducible rfl | kernel_rfl
  simp only [Act.put, List.getElem_toArray, List.getElem_cons_succ, List.getElem_cons_zero, List.setIfInBounds_toArray, List.set_cons_succ, List.set_cons_zero]
  refine Wl.take0 (i := 3) (v := .pointer (some ⟨p, 0, none⟩)) rfl (by kernel_rfl) (by kernel_rfl) (by kernel_rfl) (by kernel_rfl) (fun _ _ _ h => h) (.inl ⟨by kernel_rfl, ?_⟩) hk ?_
  · intro wx hSw
    clear hSw hk
    go_simp
    try first | with_reducible rfl | kernel_rfl
  simp only [Act.put, List.getElem_toArray, List.getElem_cons_succ, List.getElem_cons_zero, List.setIfInBounds_toArray, List.set_cons_succ, List.set_cons_zero]
  refine Wl.take0 (i := 4) (v := .pointer (some ⟨p, 0, none⟩)) rfl (by kernel_rfl) (by kernel_rfl) (by kernel_rfl) (by kernel_rfl) (fun _ _ _ h => h) (.inl ⟨by kernel_rfl, ?_⟩) hk ?_
  · intro wx hSw
    clear hSw hk
    go_simp
    try first | with_reducible rfl | kernel_rfl
  simp only [Act.put, List.getElem_toArray, List.getElem_cons_succ, List.getElem_cons_zero, List.setIfInBounds_toArray, List.set_cons_succ, List.set_cons_zero]
  refine Wl.take0 (i := 5) (v := .pointer (some ⟨p, 16, none⟩)) rfl (by kernel_rfl) (by kernel_rfl) (by kernel_rfl) (by kernel_rfl) (fun _ _ _ h => h) (.inl ⟨by kernel_rfl, ?_⟩) hk ?_
  · intro wx hSw
    clear hSw hk
    go_simp
    try first | with_reducible rfl | kernel_rfl
  simp only [Act.put, List.getElem_toArray, List.getElem_cons_succ, List.getElem_cons_zero, List.setIfInBounds_toArray, List.set_cons_succ, List.set_cons_zero]
  refine Wl.take0 (i := 6) (v := .int .i64 (cs.length : Int)) rfl (by kernel_rfl) (by kernel_rfl) (by kernel_rfl) (by kernel_rfl) (fun _ _ _ h => h) (.inl ⟨by kernel_rfl, ?_⟩) hk ?_
  · intro wx hSw
    have cc := hSw.many
    clear hSw hk
    go_simp
    try first | with_reducible rfl | kernel_rfl
  simp only [Act.put, List.getElem_toArray, List.getElem_cons_succ, List.getElem_cons_zero, List.setIfInBounds_toArray, List.set_cons_succ, List.set_cons_zero]
  refine Wl.take0 (i := 7) (v := .slice (some ⟨p, 0, none⟩) cs.length 8) rfl (by kernel_rfl) (by kernel_rfl) (by kernel_rfl) (by kernel_rfl) (fun _ _ _ h => h) (.inl ⟨by kernel_rfl, ?_⟩) hk ?_
  · intro wx hSw
    have hl := hSw.2.1
    have hl2 : (cs.length : Int) ≤ 8 := by omega
    clear hSw hk
    go_simp
    try first | with_reducible rfl | kernel_rfl
  simp only [Act.put, List.getElem_toArray, List.getElem_cons_succ, List.getElem_cons_zero, List.setIfInBounds_toArray, List.set_cons_succ, List.set_cons_zero]
  refine Wl.one (i := 8) (by kernel_rfl) rfl (fun K hK => ?_)
  go_simp
  refine (Ic.clone_any cs _ _ HDD.out.conns (by have := HDD.out.2.1; have := HDD.out.2.2; omega)).mono ?_
  rintro e w2 ⟨u, rfl, own, hb⟩
  have HOW := Lib.hid own
  have HB := Lib.hid hb
  have HD2 := Lib.hid (PoolAt.below HDD.out hb)
  clear own hb
  refine hK.out _ _ (Wl.Kn.on trivial HD2.out) (fun hk => ?_)
  clear hK K
  refine Wl.take0 (i := 9) (v := u) rfl (by kernel_rfl) (by kernel_rfl) (by kernel_rfl) (by kernel_rfl) (fun _ _ _ h => h) (.inl ⟨by kernel_rfl, ?_⟩) hk ?_
  · intro wx hSw
    clear hSw hk
    go_simp
    try first | with_reducible rfl | kernel_rfl
  simp only [Act.put, List.getElem_toArray, List.getElem_cons_succ, List.getElem_cons_zero, List.setIfInBounds_toArray, List.set_cons_succ, List.set_cons_zero]
  refine Wl.done (by kernel_rfl) ?_ _
  clear hk
  go_wp2
  go_ret
  exact ⟨_, rfl, HOW.out, (Below.refl _ _).drew.trans HB.out⟩

theorem Waits_any {p : Nat} {cs : List Cn} {ws : List Int} (w : World) (h : PoolAt w p cs ws) : Calls Try.prog 30 #[.pointer (some ⟨p, 0, none⟩)] w fun e w' => ∃ u, e = .returned u ∧ OwnR 1 intC 3 w' w.heap.size u ws ∧ Below w.heap.size w w' := by
  have HDD := Lib.hid h.drew
  clear h
  go_enter Try.func30, Try.ntmps30
  go_upto_region 3 with fail
  refine Wl.start 999 (fun _ => True) (fun u => PoolAt u p cs ws) (by kernel_rfl) trivial HDD.out (fun hk => ?_)
  refine Wl.take0 (i := 0) (v := .pointer (some ⟨p, 0, none⟩)) rfl (by kernel_rfl) (by kernel_rfl) (by kernel_rfl) (by kernel_rfl) (fun _ _ _ h => h) (.inl ⟨by kernel_rfl, ?_⟩) hk ?_
  · intro wx hSw
    clear hSw hk
    go_simp
    try first | with_reducible rfl | kernel_rfl
  simp only [Act.put, List.getElem_toArray, List.getElem_cons_succ, List.getElem_cons_zero, List.setIfInBounds_toArray, List.set_cons_succ, List.set_cons_zero]
  refine Wl.take0 (i := 1) (v := .pointer (some ⟨p, 0, none⟩)) rfl (by kernel_rfl) (by kernel_rfl) (by kernel_rfl) (by kernel_rfl) (fun _ _ _ h => h) (.inl ⟨by kernel_rfl, ?_⟩) hk ?_
  · intro wx hSw
    clear hSw hk
    go_simp
    try first | with_reducible rfl | kernel_rfl
  simp only [Act.put, List.getElem_toArray, List.getElem_cons_succ, List.getElem_cons_zero, List.setIfInBounds_toArray, List.set_cons_succ, List.set_cons_zero]
  refine Wl.take0 (i := 2) (v := .pointer (some ⟨p, 17, none⟩)) rfl (by kernel_rfl) (by kernel_rfl) (by kernel_rfl) (by kernel_rfl) (fun _ _ _ h => h) (.inl ⟨by kernel_rfl, ?_⟩) hk ?_
  · intro wx hSw
    clear hSw hk
    go_simp
    try first | with_reducible rfl | kernel_rfl
  simp only [Act.put, List.getElem_toArray, List.getElem_cons_succ, List.getElem_cons_zero, List.setIfInBounds_toArray, List.set_cons_succ, List.set_cons_zero]
  refine Wl.take0 (i := 3) (v := .pointer (some ⟨p, 0, none⟩)) rfl (by kernel_rfl) (by kernel_rfl) (by kernel_rfl) (by kernel_rfl) (fun _ _ _ h => h) (.inl ⟨by kernel_rfl, ?_⟩) hk ?_
  · intro wx hSw
    clear hSw hk
    go_simp
    try first | with_reducible rfl | kernel_rfl
  simp only [Act.put, List.getElem_toArray, List.getElem_cons_succ, List.getElem_cons_zero, List.setIfInBounds_toArray, List.set_cons_succ, List.set_cons_zero]
  refine Wl.take0 (i := 4) (v := .pointer (some ⟨p, 0, none⟩)) rfl (by kernel_rfl) (by kernel_rfl) (by kernel_rfl) (by kernel_rfl) (fun _ _ _ h => h) (.inl ⟨by kernel_rfl, ?_⟩) hk ?_
  · intro wx hSw
    clear hSw hk
    go_simp
    try first | with_reducible rfl | kernel_rfl
  simp only [Act.put, List.getElem_toArray, List.getElem_cons_succ, List.getElem_cons_zero, List.setIfInBounds_toArray, List.set_cons_succ, List.set_cons_zero]
  refine Wl.take0 (i := 5) (v := .pointer (some ⟨p, 21, none⟩)) rfl (by kernel_rfl) (by kernel_rfl) (by kernel_rfl) (by kernel_rfl) (fun _ _ _ h => h) (.inl ⟨by kernel_rfl, ?_⟩) hk ?_
  · intro wx hSw
    clear hSw hk
    go_simp
    try first | with_reducible rfl | kernel_rfl
  simp only [Act.put, List.getElem_toArray, List.getElem_cons_succ, List.getElem_cons_zero, List.setIfInBounds_toArray, List.set_cons_succ, List.set_cons_zero]
  refine Wl.take0 (i := 6) (v := .int .i64 (ws.length : Int)) rfl (by kernel_rfl) (by kernel_rfl) (by kernel_rfl) (by kernel_rfl) (fun _ _ _ h => h) (.inl ⟨by kernel_rfl, ?_⟩) hk ?_
  · intro wx hSw
    have cc := hSw.waiting
    clear hSw hk
    go_simp
    try first | with_reducible rfl | kernel_rfl
  simp only [Act.put, List.getElem_toArray, List.getElem_cons_succ, List.getElem_cons_zero, List.setIfInBounds_toArray, List.set_cons_succ, List.set_cons_zero]
  refine Wl.take0 (i := 7) (v := .slice (some ⟨p, 17, none⟩) ws.length 4) rfl (by kernel_rfl) (by kernel_rfl) (by kernel_rfl) (by kernel_rfl) (fun _ _ _ h => h) (.inl ⟨by kernel_rfl, ?_⟩) hk ?_
  · intro wx hSw
    have hl := hSw.2.2
    have hl2 : (ws.length : Int) ≤ 4 := by omega
    clear hSw hk
    go_simp
    try first | with_reducible rfl | kernel_rfl
  simp only [Act.put, List.getElem_toArray, List.getElem_cons_succ, List.getElem_cons_zero, List.setIfInBounds_toArray, List.set_cons_succ, List.set_cons_zero]
  refine Wl.one (i := 8) (by kernel_rfl) rfl (fun K hK => ?_)
  go_simp
  refine (Ii.clone_any ws _ _ HDD.out.waitsR (by have := HDD.out.2.1; have := HDD.out.2.2; omega)).mono ?_
  rintro e w2 ⟨u, rfl, own, hb⟩
  have HOW := Lib.hid own
  have HB := Lib.hid hb
  have HD2 := Lib.hid (PoolAt.below HDD.out hb)
  clear own hb
  refine hK.out _ _ (Wl.Kn.on trivial HD2.out) (fun hk => ?_)
  clear hK K
  refine Wl.take0 (i := 9) (v := u) rfl (by kernel_rfl) (by kernel_rfl) (by kernel_rfl) (by kernel_rfl) (fun _ _ _ h => h) (.inl ⟨by kernel_rfl, ?_⟩) hk ?_
  · intro wx hSw
    clear hSw hk
    go_simp
    try first | with_reducible rfl | kernel_rfl
  simp only [Act.put, List.getElem_toArray, List.getElem_cons_succ, List.getElem_cons_zero, List.setIfInBounds_toArray, List.set_cons_succ, List.set_cons_zero]
  refine Wl.done (by kernel_rfl) ?_ _
  clear hk
  go_wp2
  go_ret
  exact ⟨_, rfl, HOW.out, (Below.refl _ _).drew.trans HB.out⟩

theorem clone_any {p : Nat} {cs : List Cn} {ws : List Int} (w : World) (h : PoolAt w p cs ws) : Calls Try.prog 18 #[.pointer (some ⟨p, 0, none⟩)] w fun e w' => e = .returned (.pointer (some ⟨w.heap.size, 0, none⟩)) ∧ PoolAt w' w.heap.size cs ws ∧ Below w.heap.size w w' := by
  obtain ⟨⟨c, hg, hn, hc⟩, h8, h4⟩ := h
  have h1 : c.all (·.oneCell') = true := by
    rw [Array.all_eq_true_iff_forall_mem]
    intro v hv
    obtain ⟨i, hi, rfl⟩ := Array.mem_iff_getElem.1 hv
    have := hc i (by omega)
    rw [Array.getElem?_eq_getElem hi, Option.some.injEq] at this
    rw [this]
    rfl
  obtain ⟨W1, hW1⟩ : ∃ q, w.alloc (.cells #[.int .i64 0, .int .i64 0, .int .i64 0, .int .i64 0, .int .i64 0, .int .i64 0, .int .i64 0, .int .i64 0, .int .i64 0, .int .i64 0, .int .i64 0, .int .i64 0, .int .i64 0, .int .i64 0, .int .i64 0, .int .i64 0, .int .i64 0, .int .i64 0, .int .i64 0, .int .i64 0, .int .i64 0, .int .i64 0] 44) = q := ⟨_, rfl⟩
  have hb1 : Below w.heap.size w W1 := by rw [← hW1]; exact (Below.refl _ _).alloc (Nat.le_refl _) _
  have hg1 : W1.heap[w.heap.size]? = some (.cells #[.int .i64 0, .int .i64 0, .int .i64 0, .int .i64 0, .int .i64 0, .int .i64 0, .int .i64 0, .int .i64 0, .int .i64 0, .int .i64 0, .int .i64 0, .int .i64 0, .int .i64 0, .int .i64 0, .int .i64 0, .int .i64 0, .int .i64 0, .int .i64 0, .int .i64 0, .int .i64 0, .int .i64 0, .int .i64 0] 44 (0, 0)) := by rw [← hW1]; exact heap_alloc_new _ _
  obtain ⟨W2, hW2⟩ : ∃ q, W1.setRow w.heap.size c = q := ⟨_, rfl⟩
  have HF : Hid (PoolAt W2 w.heap.size cs ws ∧ Below w.heap.size w W2) := Lib.hid ⟨⟨⟨c, by rw [← hW2]; exact setRow_heap _ _ _ _ _ _ hg1, hn, hc⟩, h8, h4⟩, by rw [← hW2]; exact below_setRow hb1 (Nat.le_refl _) _⟩
  clear h8 h4 hc hb1
  go_enter Try.func18, Try.ntmps18
  go_wp2_with (first
    | (refine wpList_load_row rfl 44 (.tmp 7) rfl p rfl 44 c (0, 0) _ hg Try.underlying44 rfl (by rw [hn]; kernel_rfl) ?_)
    | (refine wpList_store_row rfl 44 (.tmp 3) (.tmp 8) rfl w.heap.size c rfl rfl 44 _ hg1 (by rw [hn]; kernel_rfl) (by rw [hn]; rfl) h1 ?_; rw [hW2]; clear hW2))
  go_ret
  exact ⟨rfl, HF.out⟩
/-! ### equal lists -/
theorem same_eq {v u : Value} {xs : List Int} (w : World) (hx : SlR 1 intC w v xs) (hz : SlR 1 intC w u xs) :
    Calls Try.prog 33 #[v, u] w fun e w' => e = .returned (.bool true) ∧ Below w.heap.size w w' := by
  rcases hx.cases with ⟨a, cap, rfl, rfl⟩ | ⟨b, off, cap, rfl, h0, hlc, hcm, hlt, hc⟩
  · obtain ⟨a2, cap2, rfl, -⟩ := hz
    clear hx
    go_enter Try.func33, Try.ntmps33
    go_wp2
    refine wp_loop_rounds 1 ?_
    rw [rounds_succ]
    go_wp2
    go_ret
    exact ⟨rfl, Below.refl _ _⟩
  · rcases hz.cases with ⟨a, cap, rfl, rfl⟩ | ⟨b2, off2, cap2, rfl, h02, hlc2, hcm2, hlt2, hc2⟩
    · simp at h0
    have HX : Hid (∀ k (hk : k < xs.length), w.cell? ⟨b, off + k, none⟩ = some (.int .i64 (xs.getD k 0))) := Lib.hid (fun k hk => by
      have := hc k _ (rgetD hk) 0 _ rfl
      have e : xs.getD k 0 = xs[k] := by rw [List.getD_eq_getElem?_getD, rgetD hk]; rfl
      rw [e]
      simpa using this)
    have HZ : Hid (∀ k (hk : k < xs.length), w.cell? ⟨b2, off2 + k, none⟩ = some (.int .i64 (xs.getD k 0))) := Lib.hid (fun k hk => by
      have := hc2 k _ (rgetD hk) 0 _ rfl
      have e : xs.getD k 0 = xs[k] := by rw [List.getD_eq_getElem?_getD, rgetD hk]; rfl
      rw [e]
      simpa using this)
    clear hx hz hc hc2
    go_enter Try.func33, Try.ntmps33
    go_wp2
    go_loopw [13] (fun i wr => ∃ k : Nat, k ≤ xs.length ∧ i = .int .i64 k ∧ Below w.heap.size w wr) (fun i _ => xs.length - (intOf i).toNat)
    case atStart => exact ⟨0, Nat.zero_le _, rfl, Below.refl _ _⟩
    case round =>
      obtain ⟨k, hk, rfl, hb⟩ := hrel
      by_cases hlt3 : k < xs.length
      · have hcx := (hb.cell (p := ⟨b, off + k, none⟩) hlt).trans (HX.out k hlt3)
        have hcz := (hb.cell (p := ⟨b2, off2 + k, none⟩) hlt2).trans (HZ.out k hlt3)
        generalize xs.getD k 0 = x at *
        have hkz : (k : Int) < (xs.length : Int) := by omega
        go_wp2
        go_quiet (fail)
        go_wp2
        go_roundw
        case rel => exact ⟨k + 1, by omega, by go_num, hb.trans (show Below w.heap.size _ _ from ⟨rfl, rfl, rfl, Nat.le_refl _, fun _ _ => rfl⟩)⟩
        case measure => simp [intOf]; omega
      · obtain rfl : k = xs.length := by omega
        go_wp2
        go_ret
        exact ⟨rfl, hb⟩
/-! ### what an op does -/
def doV (o : POp) (cs : List Cn) (ws : List Int) : Int := if o.kind = 0 then openV o.n cs ws else if o.kind = 3 then freeV o.n cs ws else if o.kind = 4 then leaveV o.n cs ws else 0
def doC (o : POp) (cs : List Cn) (ws : List Int) : List Cn := if o.kind = 0 then openC o.n cs ws else if o.kind = 1 then closeC o.n cs else if o.kind = 2 then wantC o.n cs ws else if o.kind = 3 then freeC o.n cs ws else if o.kind = 4 then leaveC o.n cs ws else cs
def doW (o : POp) (cs : List Cn) (ws : List Int) : List Int := if o.kind = 0 then openW o.n cs ws else if o.kind = 1 then ws else if o.kind = 2 then wantW o.n cs ws else if o.kind = 3 then freeW o.n cs ws else if o.kind = 4 then leaveW o.n cs ws else ws

set_option maxHeartbeats 1000000 in
theorem live_any (w : World) : Calls Try.prog 4 #[] w fun e w' => e = .returned (.bool true) ∧ Below w.heap.size w w' := by
  go_enter Try.func4, Try.ntmps4
  go_wp2_with fail
  refine (new_any _).mono ?_
  rintro e w0 ⟨rfl, hp, hb⟩
  have HP0 := Lib.hid hp
  have HB0 := Lib.hid hb
  clear hp hb
  go_wp2_with fail
  refine (want_any 3 _ HP0.out).mono ?_
  rintro e w1 ⟨rfl, hp, ho⟩
  have ev : wantV 3 [] [] = 0 := by decide
  have ee : wantE 3 [] [] = 0 := by decide
  have ec : wantC 3 [] [] = [] := by rfl
  have ew : wantW 3 [] [] = [3] := by rfl
  rw [ev, ee]
  rw [ec, ew] at hp
  have HP1 := Lib.hid hp
  have HB1 : Hid (Below w.heap.size w w1) := Lib.hid (ho.below HB0.out HB0.out.size (fun k hk => by rw [hk]; exact Nat.le_refl _))
  clear hp ho ev ee ec ew
  go_wp2_with fail
  refine (want_any 1 _ HP1.out).mono ?_
  rintro e w2 ⟨rfl, hp, ho⟩
  have ev : wantV 1 [] [3] = 0 := by decide
  have ee : wantE 1 [] [3] = 0 := by decide
  have ec : wantC 1 [] [3] = [] := by rfl
  have ew : wantW 1 [] [3] = [3, 1] := by rfl
  rw [ev, ee]
  rw [ec, ew] at hp
  have HP2 := Lib.hid hp
  have HB2 : Hid (Below w.heap.size w w2) := Lib.hid (ho.below HB1.out HB1.out.size (fun k hk => by rw [hk]; exact Nat.le_refl _))
  clear hp ho ev ee ec ew
  go_wp2_with fail
  refine (open_any 7 _ HP2.out (by unfold Sorted; simp)).mono ?_
  rintro e w3 ⟨rfl, hp, ho⟩
  have ev : openV 7 [] [3, 1] = 3 := by decide
  have ee : openE 7 [] = 0 := by decide
  have ec : openC 7 [] [3, 1] = [⟨7, 3⟩] := by rfl
  have ew : openW 7 [] [3, 1] = [1] := by rfl
  rw [ev, ee]
  rw [ec, ew] at hp
  have HP3 := Lib.hid hp
  have HB3 : Hid (Below w.heap.size w w3) := Lib.hid (ho.below HB2.out HB2.out.size (fun k hk => by rw [hk]; exact Nat.le_refl _))
  clear hp ho ev ee ec ew
  go_wp2_with fail
  refine (free_any 3 _ HP3.out).mono ?_
  rintro e w4 ⟨rfl, hp, ho⟩
  have ev : freeV 3 [⟨7, 3⟩] [1] = 1 := by decide
  have ee : freeE 3 [⟨7, 3⟩] = 0 := by decide
  have ec : freeC 3 [⟨7, 3⟩] [1] = [⟨7, 1⟩] := by rfl
  have ew : freeW 3 [⟨7, 3⟩] [1] = [] := by rfl
  rw [ev, ee]
  rw [ec, ew] at hp
  have HP4 := Lib.hid hp
  have HB4 : Hid (Below w.heap.size w w4) := Lib.hid (ho.below HB3.out HB3.out.size (fun k hk => by rw [hk]; exact Nat.le_refl _))
  clear hp ho ev ee ec ew
  go_wp2_with fail
  refine (close_any 7 _ HP4.out (by unfold Sorted; simp)).mono ?_
  rintro e w5 ⟨rfl, hp, ho⟩
  have ev : closeV 7 [⟨7, 1⟩] = 1 := by decide
  have ee : closeE 7 [⟨7, 1⟩] = 0 := by decide
  have ec : closeC 7 [⟨7, 1⟩] = [] := by rfl
  rw [ev, ee]
  rw [ec] at hp
  have HP5 := Lib.hid hp
  have HB5 : Hid (Below w.heap.size w w5) := Lib.hid (ho.below HB4.out HB4.out.size (fun k hk => by rw [hk]; exact Nat.le_refl _))
  clear hp ho ev ee ec
  go_wp2_with fail
  refine (open_any 5 _ HP5.out (by unfold Sorted; simp)).mono ?_
  rintro e w6 ⟨rfl, hp, ho⟩
  have ev : openV 5 [] [] = 0 := by decide
  have ee : openE 5 [] = 0 := by decide
  have ec : openC 5 [] [] = [⟨5, 0⟩] := by rfl
  have ew : openW 5 [] [] = [] := by rfl
  rw [ev, ee]
  rw [ec, ew] at hp
  have HP6 := Lib.hid hp
  have HB6 : Hid (Below w.heap.size w w6) := Lib.hid (ho.below HB5.out HB5.out.size (fun k hk => by rw [hk]; exact Nat.le_refl _))
  clear hp ho ev ee ec ew
  go_wp2_with fail
  refine (want_any 2 _ HP6.out).mono ?_
  rintro e w7 ⟨rfl, hp, ho⟩
  have ev : wantV 2 [⟨5, 0⟩] [] = 5 := by decide
  have ee : wantE 2 [⟨5, 0⟩] [] = 0 := by decide
  have ec : wantC 2 [⟨5, 0⟩] [] = [⟨5, 2⟩] := by rfl
  have ew : wantW 2 [⟨5, 0⟩] [] = [] := by rfl
  rw [ev, ee]
  rw [ec, ew] at hp
  have HP7 := Lib.hid hp
  have HB7 : Hid (Below w.heap.size w w7) := Lib.hid (ho.below HB6.out HB6.out.size (fun k hk => by rw [hk]; exact Nat.le_refl _))
  clear hp ho ev ee ec ew
  go_wp2_with fail
  refine (has_any 2 _ HP7.out).mono ?_
  rintro e w8 ⟨rfl, hp, hb⟩
  have ev : hasT 2 [⟨5, 2⟩] = 5 := by decide
  rw [ev]
  have HB8 := Lib.hid (HB7.out.trans (hb.mono HB7.out.size))
  clear hp hb ev
  go_wp2
  go_ret
  exact ⟨rfl, HB8.out⟩
end Pl
end Go.Proofs.Ytlhojkopfpnhpaa
