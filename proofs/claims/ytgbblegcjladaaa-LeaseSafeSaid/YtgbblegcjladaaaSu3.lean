/- The play's due. No condition. What the law LeaseSafe needs besides: its arguments, the play's start, its answers. No condition. -/
import Derived.Test.YtgbblegcjladaaaSu2
import Derived.Test.YtgbblegcjladaaaDrX
import Derived.Test.YtgbblegcjladaaaLsa
namespace Go.Proofs.Ytgbblegcjladaaa
open Go.ChangeShapes Go.WideShapes Go.ChangeAt Go.RowKit Go.Deep Go.Maps Go.ChangeMaps Go.MapKept
set_option linter.unusedVariables false
set_option maxRecDepth 100000
set_option linter.unusedSimpArgs false
namespace Sf
open Lt Ls La Ld Cm Mc Mp
variable {w w' w1 a : World} {Q O O' : Nat → Prop} {P pw pk g g' N B : Nat} {short n rho : Int} {x x' y : Pl} {vh vl va vh' vl' va' : Value} {s' : Wa} {K' : List Row} {j m : Nat}
/-- a call on the keeper that makes what is nobody's -/
theorem PlG.onKS {f : Nat} {args : Array Value} {R : Ending → World → Prop} (h : PlG P pw pk short n x vh vl va g N Q O B a w) (hc : ∀ S, KpX pk n x.K w S → Calls Try.prog f args w (fun e w' => R e w' ∧ KpX pk n K' w' S ∧ Only S w w')) :
    Calls Try.prog f args w (fun e w' => R e w' ∧ PlG P pw pk short n { x with K := K' } vh vl va g N Q (fun k => O k ∨ (w.heap.size ≤ k ∧ k < w'.heap.size)) B a w' ∧ ∀ k, O k → w'.heap[k]? = w.heap[k]?) := by
  refine (TwoO.sndS (V2' := KpX pk n K') (goodW pw short _) (goodK pk n _) (goodK pk n _) h.two (fun S hv _ _ => hc S hv)).mono ?_
  rintro e w' ⟨h1, h2, h3⟩
  refine ⟨h1, ⟨TwoO.mono h2 (fun k hk => ?_), fun k hq ho => ?_, (h3 P (.inl h.r.oP)).trans h.row, (h.r.as (x' := { x with K := K' }) rfl rfl rfl).keep (fun k hk _ => h3 k (.inl hk))⟩, fun k hk => h3 k (.inr hk)⟩
  · rcases hk with hk | hk | hk
    · exact .inl (.inl hk)
    · exact .inl (.inr hk)
    · exact .inr hk
  · rcases ho with ho | ho
    · exact h.ap k hq ho
    · have := (two_lt h.two (.inl hq)).1; omega
theorem find_key {t : Int} {H : List Held} {y : Held} (h : Lr.findT t H = some y) : y ∈ H ∧ y.token = t := by
  unfold Lr.findT at h
  exact ⟨List.mem_of_find?_eq_some h, by simpa using List.find?_some h⟩
theorem FoundV (t : Int) (H : List Held) : ∃ fh fb, (Lr.findT t H).getD Lr.zH = fh ∧ (Lr.findT t H).isSome = fb ∧ ((Lr.findT t H = none ∧ fb = false) ∨ (Lr.findT t H = some fh ∧ fb = true)) := by
  cases e : Lr.findT t H with
  | none => exact ⟨_, _, rfl, rfl, .inl ⟨rfl, rfl⟩⟩
  | some y => exact ⟨_, _, rfl, rfl, .inr ⟨rfl, rfl⟩⟩
set_option maxRecDepth 100000 in
set_option maxHeartbeats 64000000 in
theorem pdue_any (w : World) (h : PlV P pw pk short n N x O B a w) (hI : Inv rho short j m x) (hr : 0 ≤ rho ∧ rho ≤ 500) (hs : (1000 + rho) * short ≤ (1000 - rho) * n) (hn : 1 ≤ n ∧ n ≤ 1073741824) (hj : j ≤ 1000) (hm : m + 64 ≤ 90000) :
    Calls Try.prog 41 #[.pointer (some ⟨P, 0, none⟩)] w fun e w' => e = .returned (.bool true) ∧ ∃ x', Inv rho short j (m + 64) x' ∧ PlV P pw pk short n N x' O B a w' ∧ ∀ k, O k → w'.heap[k]? = w.heap[k]? := by
  obtain ⟨vh, vl, va, g, Q, h⟩ := h
  obtain ⟨D, hD⟩ : ∃ z, dueK n x.b x.K = z := ⟨_, rfl⟩
  have hKl : x.K.length ≤ 64 := by
    have e := congrArg List.length hI.kh
    rw [List.length_map] at e
    have := hI.led.1.2.2.2.1
    omega
  have hDl : D.length ≤ 64 := by
    rw [← hD]
    unfold dueK
    rw [List.length_map]
    exact Nat.le_trans (List.length_filter_le _ _) hKl
  have HSF : Hid (∀ z ∈ D, ∀ t ∈ x.s.L, ¬ (t.tok = z.token ∧ t.ser = z.serial)) := Lib.hid (fun z hz t ht => hI.safe hr hs (by rw [hD]; exact hz) ht)
  have HDU : Hid (Calls Try.prog 17 #[.pointer (some ⟨pk, 0, none⟩), .int .i64 x.b] w.drew fun e w' => (∃ vd, e = .returned vd ∧ OwnR 8 rcC TCm w' w.drew.heap.size vd D) ∧ PlG P pw pk short n { x with K := doneV n x.b x.K } vh vl va g N Q (fun k => O k ∨ (w.drew.heap.size ≤ k ∧ k < w'.heap.size)) B a w' ∧ ∀ k, O k → w'.heap[k]? = w.drew.heap[k]?) := Lib.hid (by
    rw [← hD]
    refine PlG.onKS (K' := doneV n x.b x.K) (R := fun e w' => ∃ vd, e = .returned vd ∧ OwnR 8 rcC TCm w' w.drew.heap.size vd (dueK n x.b x.K)) h.drew (fun S hv => ?_)
    obtain ⟨vk, b, hv⟩ := hv
    exact (Ls.due_any x.b w.drew hv hI.kok hn (by omega)).mono (fun e w' ⟨vd, he, h1, h2, h3⟩ => ⟨⟨vd, he, h1⟩, h2, h3⟩))
  have HQ0 : Hid (w.drew.cell? ⟨P, 1, none⟩ = some (.pointer (some ⟨pk, 0, none⟩)) ∧ w.drew.cell? ⟨P, 7, none⟩ = some (.int .i64 x.b)) := Lib.hid ⟨(cell_of_row w _ 1 _ _ _ h.row).trans rfl, (cell_of_row w _ 7 _ _ _ h.row).trans rfl⟩
  have HI0 := Lib.hid (hI.done hr n)
  have HZ0 : Hid ((doneV n x.b x.K).length ≤ 64) := Lib.hid (by unfold doneV; rw [List.length_map]; exact hKl)
  have HLT : Hid (∀ k, O k → k < w.heap.size) := Lib.hid (fun k hk => h.lt hk)
  clear hD hKl hI h
  go_enter Try.func41, Try.ntmps41
  go_upto_region 1 with fail
  refine Wl.start 999 (fun _ => True) (fun u => u.cell? ⟨P, 1, none⟩ = some (.pointer (some ⟨pk, 0, none⟩)) ∧ u.cell? ⟨P, 7, none⟩ = some (.int .i64 x.b)) (by kernel_rfl) trivial HQ0.out (fun hk => ?_)
  refine Wl.take0 (i := 0) (v := .pointer (some ⟨P, 0, none⟩)) rfl (by kernel_rfl) (by kernel_rfl) (by kernel_rfl) (by kernel_rfl) (fun _ _ _ h => h) (.inl ⟨by kernel_rfl, ?_⟩) hk ?_
  · intro wx hSw
    clear hSw hk
    go_simp
    try first | with_reducible rfl | kernel_rfl
  simp only [Act.put, List.getElem_toArray, List.getElem_cons_succ, List.getElem_cons_zero, List.setIfInBounds_toArray, List.set_cons_succ, List.set_cons_zero]
  refine Wl.take0 (i := 1) (v := .pointer (some ⟨P, 0, none⟩)) rfl (by kernel_rfl) (by kernel_rfl) (by kernel_rfl) (by kernel_rfl) (fun _ _ _ h => h) (.inl ⟨by kernel_rfl, ?_⟩) hk ?_
  · intro wx hSw
    clear hSw hk
    go_simp
    try first | with_reducible rfl | kernel_rfl
  simp only [Act.put, List.getElem_toArray, List.getElem_cons_succ, List.getElem_cons_zero, List.setIfInBounds_toArray, List.set_cons_succ, List.set_cons_zero]
  refine Wl.take0 (i := 2) (v := .pointer (some ⟨P, 1, none⟩)) rfl (by kernel_rfl) (by kernel_rfl) (by kernel_rfl) (by kernel_rfl) (fun _ _ _ h => h) (.inl ⟨by kernel_rfl, ?_⟩) hk ?_
  · intro wx hSw
    clear hSw hk
    go_simp
    try first | with_reducible rfl | kernel_rfl
  simp only [Act.put, List.getElem_toArray, List.getElem_cons_succ, List.getElem_cons_zero, List.setIfInBounds_toArray, List.set_cons_succ, List.set_cons_zero]
  refine Wl.take0 (i := 3) (v := .pointer (some ⟨pk, 0, none⟩)) rfl (by kernel_rfl) (by kernel_rfl) (by kernel_rfl) (by kernel_rfl) (fun _ _ _ h => h) (.inl ⟨by kernel_rfl, ?_⟩) hk ?_
  · intro wx hSw
    have cc := hSw.1
    clear hSw hk
    go_simp
    try first | with_reducible rfl | kernel_rfl
  simp only [Act.put, List.getElem_toArray, List.getElem_cons_succ, List.getElem_cons_zero, List.setIfInBounds_toArray, List.set_cons_succ, List.set_cons_zero]
  refine Wl.take0 (i := 4) (v := .pointer (some ⟨P, 0, none⟩)) rfl (by kernel_rfl) (by kernel_rfl) (by kernel_rfl) (by kernel_rfl) (fun _ _ _ h => h) (.inl ⟨by kernel_rfl, ?_⟩) hk ?_
  · intro wx hSw
    clear hSw hk
    go_simp
    try first | with_reducible rfl | kernel_rfl
  simp only [Act.put, List.getElem_toArray, List.getElem_cons_succ, List.getElem_cons_zero, List.setIfInBounds_toArray, List.set_cons_succ, List.set_cons_zero]
  refine Wl.take0 (i := 5) (v := .pointer (some ⟨P, 0, none⟩)) rfl (by kernel_rfl) (by kernel_rfl) (by kernel_rfl) (by kernel_rfl) (fun _ _ _ h => h) (.inl ⟨by kernel_rfl, ?_⟩) hk ?_
  · intro wx hSw
    clear hSw hk
    go_simp
    try first | with_reducible rfl | kernel_rfl
  simp only [Act.put, List.getElem_toArray, List.getElem_cons_succ, List.getElem_cons_zero, List.setIfInBounds_toArray, List.set_cons_succ, List.set_cons_zero]
  refine Wl.take0 (i := 6) (v := .pointer (some ⟨P, 7, none⟩)) rfl (by kernel_rfl) (by kernel_rfl) (by kernel_rfl) (by kernel_rfl) (fun _ _ _ h => h) (.inl ⟨by kernel_rfl, ?_⟩) hk ?_
  · intro wx hSw
    clear hSw hk
    go_simp
    try first | with_reducible rfl | kernel_rfl
  simp only [Act.put, List.getElem_toArray, List.getElem_cons_succ, List.getElem_cons_zero, List.setIfInBounds_toArray, List.set_cons_succ, List.set_cons_zero]
  refine Wl.take0 (i := 7) (v := .int .i64 x.b) rfl (by kernel_rfl) (by kernel_rfl) (by kernel_rfl) (by kernel_rfl) (fun _ _ _ h => h) (.inl ⟨by kernel_rfl, ?_⟩) hk ?_
  · intro wx hSw
    have cc := hSw.2
    clear hSw hk
    go_simp
    try first | with_reducible rfl | kernel_rfl
  simp only [Act.put, List.getElem_toArray, List.getElem_cons_succ, List.getElem_cons_zero, List.setIfInBounds_toArray, List.set_cons_succ, List.set_cons_zero]
  refine Wl.take0 (i := 10) (v := .int .i64 0) rfl (by kernel_rfl) (by kernel_rfl) (by kernel_rfl) (by kernel_rfl) (fun _ _ _ h => h) (.inl ⟨by kernel_rfl, ?_⟩) hk ?_
  · intro wx hSw
    clear hSw hk
    go_simp
    try first | with_reducible rfl | kernel_rfl
  simp only [Act.put, List.getElem_toArray, List.getElem_cons_succ, List.getElem_cons_zero, List.setIfInBounds_toArray, List.set_cons_succ, List.set_cons_zero]
  refine Wl.one (i := 8) (by kernel_rfl) rfl (fun K hK => ?_)
  go_simp
  refine HDU.out.mono ?_
  rintro e w2 ⟨⟨vd, rfl, od⟩, h2, k2⟩
  obtain ⟨ad, cd, rfl⟩ := own_slice od
  have H2 : Hid (PlG P pw pk short n { x with K := doneV n x.b x.K } vh vl va g N Q (fun k => O k ∨ (w.drew.heap.size ≤ k ∧ k < w2.heap.size)) B a w2 ∧ (∀ k, O k → w2.heap[k]? = w.heap[k]?) ∧ OwnR 8 rcC TCmd w2 w.heap.size (.slice ad D.length cd) D) := Lib.hid ⟨h2, k2, od⟩
  have HQ2 : Hid (w2.cell? ⟨P, 1, none⟩ = some (.pointer (some ⟨pk, 0, none⟩)) ∧ w2.cell? ⟨P, 7, none⟩ = some (.int .i64 x.b)) := Lib.hid ⟨(cell_of_row _ _ 1 _ _ _ h2.row).trans rfl, (cell_of_row _ _ 7 _ _ _ h2.row).trans rfl⟩
  clear h2 k2 od
  refine hK.out _ _ (Wl.Kn.on trivial HQ2.out) (fun hk => ?_)
  clear hK K
  refine Wl.take0 (i := 9) (v := .int .i64 (D.length : Int)) rfl (by kernel_rfl) (by kernel_rfl) (by kernel_rfl) (by kernel_rfl) (fun _ _ _ h => h) (.inl ⟨by kernel_rfl, ?_⟩) hk ?_
  · intro wx hSw
    clear hSw hk
    go_simp
    try first | with_reducible rfl | kernel_rfl
  simp only [Act.put, List.getElem_toArray, List.getElem_cons_succ, List.getElem_cons_zero, List.setIfInBounds_toArray, List.set_cons_succ, List.set_cons_zero]
  refine Wl.done (by kernel_rfl) ?_ _
  clear hk
  have hdm : (D.length : Int) ≤ 64 := by omega
  obtain ⟨O2, hO2⟩ : ∃ Z : Nat → Prop, Z = (fun k => O k ∨ (w.drew.heap.size ≤ k ∧ k < w2.heap.size)) := ⟨_, rfl⟩
  rw [← hO2] at H2
  have HOO : Hid ((∀ k, O k → O2 k) ∧ ∀ k, (Value.slice ad D.length cd).ownBlock = some k → O2 k) := Lib.hid (by
    rw [hO2]
    exact ⟨fun k hk => .inl hk, fun k hk => .inr (World.ownsRow.lt H2.out.2.2 k hk)⟩)
  have HDD : Hid (∀ wr : World, (∀ k, O2 k → wr.heap[k]? = w2.heap[k]?) → SlR 8 rcC wr (.slice ad D.length cd) D) := Lib.hid (fun wr hk => OwnR.sl rcC_len (show OwnR 8 rcC TCmd wr w.heap.size (.slice ad D.length cd) D from own_keep H2.out.2.2 (fun k hq _ => hk k (HOO.out.2 k hq))))
  clear HQ0 HDU hO2
  go_wp2_with fail
  go_loopw [19] (fun i wr => ∃ (j0 : Nat) (y : Pl), j0 ≤ D.length ∧ i = .int .i64 (j0 : Int) ∧ Hid (Inv rho short j (m + j0) y ∧ y.s = x.s ∧ PlV P pw pk short n N y O2 B a wr ∧ ∀ k, O2 k → wr.heap[k]? = w2.heap[k]?)) (fun i _ => D.length - (intOf i).toNat)
  case atStart => exact ⟨0, _, Nat.zero_le _, rfl, Lib.hid ⟨HI0.out, rfl, ⟨vh, vl, va, g, Q, H2.out.1⟩, fun k _ => rfl⟩⟩
  case round =>
    obtain ⟨j0, y, hj0, rfl, HR⟩ := hrel
    by_cases hlt : j0 < D.length
    · have hlti : (j0 : Int) < (D.length : Int) := by omega
      obtain ⟨z, hz⟩ : ∃ z, D[j0]? = some z := ⟨_, List.getElem?_eq_getElem hlt⟩
      have HZM := Lib.hid (List.mem_of_getElem? hz)
      obtain ⟨b0, off, rfl, y0, y1, y2, y3, y4, y5, y6, y7⟩ : ∃ b off, ad = some ⟨b, off, none⟩ ∧ wr.cell? ⟨b, off + j0 * 8, none⟩ = some (.int .i64 6) ∧ wr.cell? ⟨b, off + j0 * 8 + 1, none⟩ = some (.int .i64 0) ∧ wr.cell? ⟨b, off + j0 * 8 + 2, none⟩ = some (.int .i64 z.token) ∧ wr.cell? ⟨b, off + j0 * 8 + 3, none⟩ = some (.slice none 0 0) ∧ wr.cell? ⟨b, off + j0 * 8 + 4, none⟩ = some (.int .u64 0) ∧ wr.cell? ⟨b, off + j0 * 8 + 5, none⟩ = some (.int .u64 0) ∧ wr.cell? ⟨b, off + j0 * 8 + 6, none⟩ = some (.int .u64 z.serial) ∧ wr.cell? ⟨b, off + j0 * 8 + 7, none⟩ = some (.int .u64 z.stamp) := by
        rcases SlR.cases (HDD.out wr HR.out.2.2.2) with ⟨a9, c9, e, hnil⟩ | ⟨b, off, c9, e, -, -, -, -, hc⟩
        · rw [hnil] at hlt; simp at hlt
        · simp only [Value.slice.injEq] at e
          have hc := hc j0 z hz
          exact ⟨b, off, e.1, hc 0 _ rfl, by have := hc 1 _ rfl; rw [← Nat.add_assoc] at this; exact this, by have := hc 2 _ rfl; rw [← Nat.add_assoc] at this; exact this, by have := hc 3 _ rfl; rw [← Nat.add_assoc] at this; exact this, by have := hc 4 _ rfl; rw [← Nat.add_assoc] at this; exact this, by have := hc 5 _ rfl; rw [← Nat.add_assoc] at this; exact this, by have := hc 6 _ rfl; rw [← Nat.add_assoc] at this; exact this, by have := hc 7 _ rfl; rw [← Nat.add_assoc] at this; exact this⟩
      obtain ⟨vh, vl, va, g, Q, hG⟩ := HR.out.2.2.1
      obtain ⟨g4, hg4⟩ : ∃ z, wr.heap.size = z := ⟨_, rfl⟩
      obtain ⟨W4, hW4⟩ : ∃ q, wr.alloc (.cells #[.int .i64 6, .int .i64 0, .int .i64 z.token, .slice none 0 0, .int .u64 0, .int .u64 0, .int .u64 z.serial, .int .u64 z.stamp] TCmd) = q := ⟨_, rfl⟩
      have hb4 : Below wr.heap.size wr W4 := by rw [← hW4]; exact (Below.refl _ _).alloc (Nat.le_refl _) _
      have hr4 : W4.heap[g4]? = some (.cells (cmA (recK z)) TCmd (0, 0)) := by rw [← hW4, ← hg4]; exact heap_alloc_new _ _
      have HR4 := Lib.hid hr4
      have H4 : Hid (PlG P pw pk short n y vh vl va g N Q O2 B a W4 ∧ ∀ k, O2 k → W4.heap[k]? = w2.heap[k]?) := Lib.hid ⟨hG.below hb4, fun k hk => (hb4.block k (hG.lt hk)).trans (HR.out.2.2.2 k hk)⟩
      have HIY := Lib.hid HR.out.1
      have HYS := Lib.hid HR.out.2.1
      have HG4 : Hid (∀ k, O2 k → k ≠ g4) := Lib.hid (fun k hk e => by have := hG.lt hk; omega)
      obtain ⟨fh, fb, hf1, hf2, hf3⟩ := FoundV z.token y.l.held
      have HFT := Lib.hid (And.intro hf1 hf2)
      have HF3 := Lib.hid hf3
      have HPP : Hid (∀ u, Below W4.heap.size W4 u → u.rangeAt P 2 [.int .i64 y.l.limit, .int .u64 y.l.next, vh, vl] ∧ u.cell? ⟨g4, 2, none⟩ = some (.int .i64 z.token)) := Lib.hid (fun u hb => by
        have r1 := (hb.block P (row_lt H4.out.1.row)).trans H4.out.1.row
        have r2 := (hb.block g4 (row_lt HR4.out)).trans HR4.out
        exact ⟨rng_part 2 r1 rfl, (cell_of_row _ _ 2 _ _ _ r2).trans rfl⟩)
      have HFI : Hid (∀ u, Below W4.heap.size W4 u → Calls Try.prog 58 #[.agg (lArr y.l vh vl), .int .i64 z.token] u (Lr.Found z.token y.l.held u)) := Lib.hid (fun u hb => Lr.find_any y.l _ z.token u ((H4.out.1.below hb).led HIY.out.led.2))
      obtain ⟨u0, hu0⟩ : ∃ q, W4.drew = q := ⟨_, rfl⟩
      have HB0 : Hid (Below W4.heap.size W4 u0) := Lib.hid (by rw [← hu0]; exact (Below.refl _ _).drew)
      have HPD : Hid (W4.drew.rangeAt P 2 [.int .i64 y.l.limit, .int .u64 y.l.next, vh, vl] ∧ W4.drew.cell? ⟨g4, 2, none⟩ = some (.int .i64 z.token)) := Lib.hid (HPP.out _ (Below.refl _ _).drew)
      clear hz hG hb4 hr4 HR hf1 hf2 hf3
      go_upto_region 4 with (first | rw [hW4, hg4])
      clear y0 y1 y2 y3 y4 y5 y6 y7 hW4 hg4
      refine (fun (REST : ∀ (u : World) (g5 : Nat), Hid (Below W4.heap.size W4 u ∧ u.heap[g5]? = some (.cells #[.int .i64 0, .int .i64 0, .int .u64 0, .int .u64 0, .int .u64 0] 47 (0, 0)) ∧ W4.heap.size ≤ g5) → (?X : World → Nat → Prop) u g5) => ?_) ?_
      rotate_left
      refine Wl.start 11 (fun u => u.rangeAt P 2 [.int .i64 y.l.limit, .int .u64 y.l.next, vh, vl] ∧ u.cell? ⟨g4, 2, none⟩ = some (.int .i64 z.token)) (fun _ => True) (by kernel_rfl) HPD.out trivial (fun hk => ?_)
      rw [hu0] at hk ⊢
      refine Wl.take (i := 0) (v := .pointer (some ⟨P, 0, none⟩)) [1, 2, 3, 6, 7, 8, 11] rfl (by kernel_rfl) (by kernel_rfl) (by kernel_rfl) (by kernel_rfl) (by kernel_rfl) (fun _ _ _ h => h) (.inl ⟨by kernel_rfl, ?_⟩) hk ?_
      · intro wx hSw
        clear hSw hk
        go_simp
        try first | with_reducible rfl | kernel_rfl
      simp only [Act.put, List.getElem_toArray, List.getElem_cons_succ, List.getElem_cons_zero, List.setIfInBounds_toArray, List.set_cons_succ, List.set_cons_zero]
      refine Wl.take (i := 1) (v := .pointer (some ⟨P, 0, none⟩)) [2, 3, 6, 7, 8, 11] rfl (by kernel_rfl) (by kernel_rfl) (by kernel_rfl) (by kernel_rfl) (by kernel_rfl) (fun _ _ _ h => h) (.inl ⟨by kernel_rfl, ?_⟩) hk ?_
      · intro wx hSw
        clear hSw hk
        go_simp
        try first | with_reducible rfl | kernel_rfl
      simp only [Act.put, List.getElem_toArray, List.getElem_cons_succ, List.getElem_cons_zero, List.setIfInBounds_toArray, List.set_cons_succ, List.set_cons_zero]
      refine Wl.take (i := 2) (v := .pointer (some ⟨P, 2, none⟩)) [3, 6, 7, 8, 11] rfl (by kernel_rfl) (by kernel_rfl) (by kernel_rfl) (by kernel_rfl) (by kernel_rfl) (fun _ _ _ h => h) (.inl ⟨by kernel_rfl, ?_⟩) hk ?_
      · intro wx hSw
        clear hSw hk
        go_simp
        try first | with_reducible rfl | kernel_rfl
      simp only [Act.put, List.getElem_toArray, List.getElem_cons_succ, List.getElem_cons_zero, List.setIfInBounds_toArray, List.set_cons_succ, List.set_cons_zero]
      refine Wl.take (i := 3) (v := .agg #[.int .i64 y.l.limit, .int .u64 y.l.next, vh, vl]) [6, 7, 8, 11] rfl (by kernel_rfl) (by kernel_rfl) (by kernel_rfl) (by kernel_rfl) (by kernel_rfl) (fun _ _ _ h => h) (yieldsIf_load_mid (by rfl) _ _ rfl _ _ rfl [.int .i64 y.l.limit, .int .u64 y.l.next, vh, vl] _ (fun w h => h.1.1) Try.underlying35 rfl (by kernel_rfl)) hk ?_
      simp only [Act.put, List.getElem_toArray, List.getElem_cons_succ, List.getElem_cons_zero, List.setIfInBounds_toArray, List.set_cons_succ, List.set_cons_zero]
      refine Wl.take (i := 4) (v := .pointer (some ⟨g4, 2, none⟩)) [5, 6, 7, 8, 11] rfl (by kernel_rfl) (by kernel_rfl) (by kernel_rfl) (by kernel_rfl) (by kernel_rfl) (fun _ _ _ h => h) (.inl ⟨by kernel_rfl, ?_⟩) hk ?_
      · intro wx hSw
        clear hSw hk
        go_simp
        try first | with_reducible rfl | kernel_rfl
      simp only [Act.put, List.getElem_toArray, List.getElem_cons_succ, List.getElem_cons_zero, List.setIfInBounds_toArray, List.set_cons_succ, List.set_cons_zero]
      refine Wl.take (i := 5) (v := .int .i64 z.token) [6, 7, 8, 11] rfl (by kernel_rfl) (by kernel_rfl) (by kernel_rfl) (by kernel_rfl) (by kernel_rfl) (fun _ _ _ h => h) (.inl ⟨by kernel_rfl, ?_⟩) hk ?_
      · intro wx hSw
        have cc := hSw.1.2
        clear hSw hk
        go_simp
        try first | with_reducible rfl | kernel_rfl
      simp only [Act.put, List.getElem_toArray, List.getElem_cons_succ, List.getElem_cons_zero, List.setIfInBounds_toArray, List.set_cons_succ, List.set_cons_zero]
      refine Wl.two (i := 6) (j := 10) (by kernel_rfl) rfl rfl (fun K hK => ?_) (fun K hK => ?_)
      · go_simp
        refine (HFI.out u0 HB0.out).mono ?_
        rintro e u1 ⟨rfl, hb⟩
        have HB1 : Hid (Below W4.heap.size W4 u1) := Lib.hid (HB0.out.trans (hb.mono HB0.out.size))
        have HS1 : Hid (Below u0.heap.size u0 u1) := Lib.hid hb
        rw [HFT.out.1, HFT.out.2]
        refine hK.out _ _ (Wl.Kn.on (HPP.out _ HB1.out) trivial) (fun hk => ?_)
        clear hK K hb
        refine Wl.take (i := 7) (v := .tuple #[.agg (La.hA fh), .bool fb]) [8, 11] rfl (by kernel_rfl) (by kernel_rfl) (by kernel_rfl) (by kernel_rfl) (by kernel_rfl) (fun _ _ _ h => h) (.inl ⟨by kernel_rfl, ?_⟩) hk ?_
        · intro wx hSw
          clear hSw hk
          go_simp
          try first | with_reducible rfl | kernel_rfl
        simp only [Act.put, List.getElem_toArray, List.getElem_cons_succ, List.getElem_cons_zero, List.setIfInBounds_toArray, List.set_cons_succ, List.set_cons_zero]
        refine Wl.take (i := 8) (v := .agg (La.hA fh)) [11] rfl (by kernel_rfl) (by kernel_rfl) (by kernel_rfl) (by kernel_rfl) (by kernel_rfl) (fun _ _ _ h => h) (.inl ⟨by kernel_rfl, ?_⟩) hk ?_
        · intro wx hSw
          clear hSw hk
          go_simp
          try first | with_reducible rfl | kernel_rfl
        simp only [Act.put, List.getElem_toArray, List.getElem_cons_succ, List.getElem_cons_zero, List.setIfInBounds_toArray, List.set_cons_succ, List.set_cons_zero]
        refine Wl.take0 (i := 9) (v := .bool fb) rfl (by kernel_rfl) (by kernel_rfl) (by kernel_rfl) (by kernel_rfl) (fun _ _ _ h => h) (.inl ⟨by kernel_rfl, ?_⟩) hk ?_
        · intro wx hSw
          clear hSw hk
          go_simp
          try first | with_reducible rfl | kernel_rfl
        simp only [Act.put, List.getElem_toArray, List.getElem_cons_succ, List.getElem_cons_zero, List.setIfInBounds_toArray, List.set_cons_succ, List.set_cons_zero]
        refine Wl.one (i := 10) (by kernel_rfl) rfl (fun K hK => ?_)
        obtain ⟨g5, hg5⟩ : ∃ z, u1.heap.size = z := ⟨_, rfl⟩
        obtain ⟨u2, hu⟩ : ∃ z, u1.alloc (.cells #[.int .i64 0, .int .i64 0, .int .u64 0, .int .u64 0, .int .u64 0] 47) = z := ⟨_, rfl⟩
        have hb : Below u1.heap.size u1 u2 := by rw [← hu]; exact (Below.refl _ _).alloc (Nat.le_refl _) _
        have HG5 : Hid (u2.heap[g5]? = some (.cells #[.int .i64 0, .int .i64 0, .int .u64 0, .int .u64 0, .int .u64 0] 47 (0, 0)) ∧ W4.heap.size ≤ g5) := Lib.hid ⟨by rw [← hu, ← hg5]; exact heap_alloc_new _ _, by rw [← hg5]; exact HB1.out.size⟩
        have HB2 : Hid (Below W4.heap.size W4 u2) := Lib.hid (HB1.out.trans (hb.mono HB1.out.size))
        have HS2 : Hid (Below u1.heap.size u1 u2) := Lib.hid hb
        go_simp
        try rw [hg5]
        try rw [hu]
        refine hK.out _ _ (Wl.Kn.on (HPP.out _ HB2.out) trivial) (fun hk => ?_)
        clear hK K hb hu hg5
        clear hk
        exact REST u2 g5 (Lib.hid ⟨HB2.out, HG5.out.1, HG5.out.2⟩)
      · obtain ⟨g5, hg5⟩ : ∃ z, u0.heap.size = z := ⟨_, rfl⟩
        obtain ⟨u1, hu⟩ : ∃ z, u0.alloc (.cells #[.int .i64 0, .int .i64 0, .int .u64 0, .int .u64 0, .int .u64 0] 47) = z := ⟨_, rfl⟩
        have hb : Below u0.heap.size u0 u1 := by rw [← hu]; exact (Below.refl _ _).alloc (Nat.le_refl _) _
        have HG5 : Hid (u1.heap[g5]? = some (.cells #[.int .i64 0, .int .i64 0, .int .u64 0, .int .u64 0, .int .u64 0] 47 (0, 0)) ∧ W4.heap.size ≤ g5) := Lib.hid ⟨by rw [← hu, ← hg5]; exact heap_alloc_new _ _, by rw [← hg5]; exact HB0.out.size⟩
        have HB1 : Hid (Below W4.heap.size W4 u1) := Lib.hid (HB0.out.trans (hb.mono HB0.out.size))
        have HS1 : Hid (Below u0.heap.size u0 u1) := Lib.hid hb
        go_simp
        try rw [hg5]
        try rw [hu]
        refine hK.out _ _ (Wl.Kn.on (HPP.out _ HB1.out) trivial) (fun hk => ?_)
        clear hK K hb hu hg5
        refine Wl.one (i := 6) (by kernel_rfl) rfl (fun K hK => ?_)
        go_simp
        refine (HFI.out u1 HB1.out).mono ?_
        rintro e u2 ⟨rfl, hb⟩
        have HB2 : Hid (Below W4.heap.size W4 u2) := Lib.hid (HB1.out.trans (hb.mono HB1.out.size))
        have HS2 : Hid (Below u1.heap.size u1 u2) := Lib.hid hb
        rw [HFT.out.1, HFT.out.2]
        refine hK.out _ _ (Wl.Kn.on (HPP.out _ HB2.out) trivial) (fun hk => ?_)
        clear hK K hb
        refine Wl.take (i := 7) (v := .tuple #[.agg (La.hA fh), .bool fb]) [8, 11] rfl (by kernel_rfl) (by kernel_rfl) (by kernel_rfl) (by kernel_rfl) (by kernel_rfl) (fun _ _ _ h => h) (.inl ⟨by kernel_rfl, ?_⟩) hk ?_
        · intro wx hSw
          clear hSw hk
          go_simp
          try first | with_reducible rfl | kernel_rfl
        simp only [Act.put, List.getElem_toArray, List.getElem_cons_succ, List.getElem_cons_zero, List.setIfInBounds_toArray, List.set_cons_succ, List.set_cons_zero]
        refine Wl.take (i := 8) (v := .agg (La.hA fh)) [11] rfl (by kernel_rfl) (by kernel_rfl) (by kernel_rfl) (by kernel_rfl) (by kernel_rfl) (fun _ _ _ h => h) (.inl ⟨by kernel_rfl, ?_⟩) hk ?_
        · intro wx hSw
          clear hSw hk
          go_simp
          try first | with_reducible rfl | kernel_rfl
        simp only [Act.put, List.getElem_toArray, List.getElem_cons_succ, List.getElem_cons_zero, List.setIfInBounds_toArray, List.set_cons_succ, List.set_cons_zero]
        refine Wl.take0 (i := 9) (v := .bool fb) rfl (by kernel_rfl) (by kernel_rfl) (by kernel_rfl) (by kernel_rfl) (fun _ _ _ h => h) (.inl ⟨by kernel_rfl, ?_⟩) hk ?_
        · intro wx hSw
          clear hSw hk
          go_simp
          try first | with_reducible rfl | kernel_rfl
        simp only [Act.put, List.getElem_toArray, List.getElem_cons_succ, List.getElem_cons_zero, List.setIfInBounds_toArray, List.set_cons_succ, List.set_cons_zero]
        clear hk
        exact REST u2 g5 (Lib.hid ⟨HB2.out, ((HS2.out.block _ (row_lt (HG5.out.1))).trans (HG5.out.1)), HG5.out.2⟩)
      intro u g5 HF
      obtain ⟨W6, hW6⟩ : ∃ q, u.setRow g5 (La.hA fh) = q := ⟨_, rfl⟩
      have hr5 : W6.heap[g5]? = some (.cells (La.hA fh) 47 (0, 0)) := by rw [← hW6]; exact setRow_heap _ _ _ _ _ _ HF.out.2.1
      have hb46 : Below W4.heap.size W4 W6 := by rw [← hW6]; exact Ld.below_row HF.out.1 HF.out.2.2 _
      have hr46 := (hb46.block g4 (row_lt HR4.out)).trans HR4.out
      have H6 : Hid (PlG P pw pk short n y vh vl va g N Q O2 B a W6 ∧ (∀ k, O2 k → W6.heap[k]? = w2.heap[k]?)) := Lib.hid ⟨H4.out.1.below hb46, fun k hk => (hb46.block k (H4.out.1.lt hk)).trans (H4.out.2 k hk)⟩
      have HB6 := Lib.hid hb46
      have HR46 := Lib.hid hr46
      have HF5 := Lib.hid HF.out.2.1
      have HE : Hid (Inv rho short j (m + (j0 + 1)) y ∧ y.s = x.s ∧ PlV P pw pk short n N y O2 B a W6 ∧ ∀ k, O2 k → W6.heap[k]? = w2.heap[k]?) := Lib.hid ⟨HIY.out.more (Nat.le_refl _) (by omega), HYS.out, ⟨_, _, _, _, _, H6.out.1⟩, H6.out.2⟩
      have q2 : W6.cell? ⟨g4, 2, none⟩ = some (.int .i64 z.token) := (cell_of_row _ _ 2 _ _ _ hr46).trans rfl; have q6 : W6.cell? ⟨g4, 6, none⟩ = some (.int .u64 z.serial) := (cell_of_row _ _ 6 _ _ _ hr46).trans rfl; have q7 : W6.cell? ⟨g4, 7, none⟩ = some (.int .u64 z.stamp) := (cell_of_row _ _ 7 _ _ _ hr46).trans rfl
      have t3 : W6.cell? ⟨g5, 3, none⟩ = some (.int .u64 fh.serial) := (cell_of_row _ _ 3 _ _ _ hr5).trans rfl
      have t4 : W6.cell? ⟨g5, 4, none⟩ = some (.int .u64 fh.stamp) := (cell_of_row _ _ 4 _ _ _ hr5).trans rfl
      clear hr5 hb46 hr46
      refine Wl.one (i := 11) (by kernel_rfl) rfl (fun K hK => ?_)
      rw [if_pos (by kernel_rfl)]
      refine wp_store_row 47 (.tmp 5) (.tmp 31) (by kernel_rfl) g5 (La.hA fh) (by kernel_rfl) (by kernel_rfl) 47 #[.int .i64 0, .int .i64 0, .int .u64 0, .int .u64 0, .int .u64 0] HF5.out (by kernel_rfl) (by kernel_rfl) (by simp [Value.oneCell']) ?_
      rw [hW6]
      refine hK.out _ _ (Wl.Kn.off (by kernel_rfl) trivial) (fun hk => ?_)
      clear hK K
      refine Wl.take0 (i := 12) (v := .bool fb) rfl (by kernel_rfl) (by kernel_rfl) (by kernel_rfl) (by kernel_rfl) (fun _ _ _ h => h) (.inl ⟨by kernel_rfl, ?_⟩) hk ?_
      · intro wx hSw
        clear hSw hk
        go_simp
        try first | with_reducible rfl | kernel_rfl
      simp only [Act.put, List.getElem_toArray, List.getElem_cons_succ, List.getElem_cons_zero, List.setIfInBounds_toArray, List.set_cons_succ, List.set_cons_zero]
      refine Wl.done (by kernel_rfl) ?_ _
      clear hk hW6
      rcases HF3.out with ⟨hfn, rfl⟩ | ⟨hfs, rfl⟩
      · clear hfn
        go_wp2_with fail
        go_roundw
        case rel => exact ⟨j0 + 1, y, by omega, by go_num, HE.out⟩
        case measure => simp [intOf]; omega
      have HFK := Lib.hid (find_key hfs)
      clear hfs
      by_cases hse : fh.serial = z.serial
      rotate_left
      · have sb : (fh.serial != z.serial) = true := bne_iff_ne.2 hse
        clear hse
        go_wp2_with fail
        go_roundw
        case rel => exact ⟨j0 + 1, y, by omega, by go_num, HE.out⟩
        case measure => simp [intOf]; omega
      have sb : (fh.serial != z.serial) = false := by rw [hse]; exact bne_self_eq_false _
      have HSE := Lib.hid hse
      clear hse
      by_cases hst : fh.stamp = z.stamp
      rotate_left
      · have tb : (fh.stamp != z.stamp) = true := bne_iff_ne.2 hst
        clear hst
        go_wp2_with fail
        go_roundw
        case rel => exact ⟨j0 + 1, y, by omega, by go_num, HE.out⟩
        case measure => simp [intOf]; omega
      have tb : (fh.stamp != z.stamp) = false := by rw [hst]; exact bne_self_eq_false _
      have HKZ : Hid (keyR fh = z) := Lib.hid (by
        cases z
        have h1 := HFK.out.2
        have h2 := HSE.out
        dsimp only at h1 h2 hst
        unfold keyR
        rw [h1, h2, hst])
      clear hst
      have e0 : W6.cell? ⟨P, 0, none⟩ = some (.pointer (some ⟨pw, 0, none⟩)) := (cell_of_row _ _ 0 _ _ _ H6.out.1.row).trans rfl
      obtain ⟨S1, hv1⟩ : ∃ S, WaX pw short y.s W6 S := by obtain ⟨S1, S2, e, -⟩ := H6.out.1.two; exact ⟨S1, e⟩
      have HLN : Hid (y.s.L.length ≤ 1000) := Lib.hid (by have := HIY.out.len.1; omega)
      have HALL := Lib.hid (all_any W6 hv1 HLN.out)
      clear hv1
      go_wp2_with fail
      refine HALL.out.mono ?_
      rintro e w7 ⟨v7, rfl, o7, b7⟩
      obtain ⟨al, cl, rfl⟩ := own_slice o7
      have H7 : Hid (PlG P pw pk short n y vh vl va g N Q O2 B a w7 ∧ (∀ k, O2 k → w7.heap[k]? = w2.heap[k]?)) := Lib.hid ⟨H6.out.1.below b7, fun k hk => (b7.block k (H6.out.1.lt hk)).trans (H6.out.2 k hk)⟩
      have HR7 := Lib.hid ((b7.block g4 (row_lt HR46.out)).trans HR46.out)
      have HS7 : Hid (∀ w', Below w7.heap.size w7 w' → SlR 3 trC w' (.slice al y.s.L.length cl) y.s.L ∧ w'.heap[g4]? = some (.cells (cmA (recK z)) TCmd (0, 0))) := Lib.hid (fun w' hb => ⟨(o7.below hb (Nat.le_refl _)).sl trC_len, (hb.block g4 (row_lt HR7.out)).trans HR7.out⟩)
      have hlm : (y.s.L.length : Int) ≤ 1000 := by have := HLN.out; omega
      clear q2 q6 q7 t3 t4 e0 o7 b7 sb tb HALL
      go_wp2_with fail
      go_loopw [55] (fun i wq => ∃ (k : Nat), k ≤ y.s.L.length ∧ i = .int .i64 (k : Int) ∧ Hid (Below w7.heap.size w7 wq)) (fun i _ => y.s.L.length - (intOf i).toNat)
      case atStart => exact ⟨0, Nat.zero_le _, rfl, Lib.hid (Below.refl _ _)⟩
      case round =>
        obtain ⟨k, hk, rfl, HW⟩ := hrel
        by_cases hlk : k < y.s.L.length
        · have hlki : (k : Int) < (y.s.L.length : Int) := by omega
          obtain ⟨t, ht⟩ : ∃ t, y.s.L[k]? = some t := ⟨_, List.getElem?_eq_getElem hlk⟩
          have HTS : Hid (¬ (t.tok = z.token ∧ t.ser = z.serial)) := Lib.hid (HSF.out z HZM.out t (by rw [← HYS.out]; exact List.mem_of_getElem? ht))
          obtain ⟨b0, off, rfl, y0, y1, y2⟩ : ∃ b off, al = some ⟨b, off, none⟩ ∧ wr.cell? ⟨b, off + k * 3, none⟩ = some (.int .i64 t.tok) ∧ wr.cell? ⟨b, off + k * 3 + 1, none⟩ = some (.int .u64 t.ser) ∧ wr.cell? ⟨b, off + k * 3 + 2, none⟩ = some (.int .i64 t.til) := by
            rcases SlR.cases (HS7.out wr HW.out).1 with ⟨a9, c9, e, hnil⟩ | ⟨b, off, c9, e, -, -, -, -, hc⟩
            · rw [hnil] at ht; simp at ht
            · simp only [Value.slice.injEq] at e
              exact ⟨b, off, e.1, tr_cells (hc k _ ht)⟩
          obtain ⟨g8, hg8⟩ : ∃ q, wr.heap.size = q := ⟨_, rfl⟩
          obtain ⟨W8, hW8⟩ : ∃ q, wr.alloc (.cells #[.int .i64 t.tok, .int .u64 t.ser, .int .i64 t.til] 115) = q := ⟨_, rfl⟩
          have hr8 : W8.heap[g8]? = some (.cells #[.int .i64 t.tok, .int .u64 t.ser, .int .i64 t.til] 115 (0, 0)) := by rw [← hW8, ← hg8]; exact heap_alloc_new _ _
          have HB8 : Hid (Below w7.heap.size w7 W8) := Lib.hid (by rw [← hW8]; exact HW.out.alloc HW.out.size _)
          have d0 : W8.cell? ⟨g8, 0, none⟩ = some (.int .i64 t.tok) := (cell_of_row _ _ 0 _ _ _ hr8).trans rfl
          have d1 : W8.cell? ⟨g8, 1, none⟩ = some (.int .u64 t.ser) := (cell_of_row _ _ 1 _ _ _ hr8).trans rfl
          have q2 : W8.cell? ⟨g4, 2, none⟩ = some (.int .i64 z.token) := (cell_of_row _ _ 2 _ _ _ (HS7.out W8 HB8.out).2).trans rfl
          have q6 : W8.cell? ⟨g4, 6, none⟩ = some (.int .u64 z.serial) := (cell_of_row _ _ 6 _ _ _ (HS7.out W8 HB8.out).2).trans rfl
          clear hr8 ht HW
          by_cases htt : t.tok = z.token
          · have tb : (t.tok == z.token) = true := beq_iff_eq.2 htt
            have sb : (t.ser == z.serial) = false := beq_eq_false_iff_ne.2 (fun e => HTS.out ⟨htt, e⟩)
            clear htt
            go_wp2_with (first | rw [hW8, hg8])
            go_roundw
            case rel => exact ⟨k + 1, by omega, by go_num, HB8⟩
            case measure => simp [intOf]; omega
          · have tb : (t.tok == z.token) = false := beq_eq_false_iff_ne.2 htt
            clear htt
            go_wp2_with (first | rw [hW8, hg8])
            go_roundw
            case rel => exact ⟨k + 1, by omega, by go_num, HB8⟩
            case measure => simp [intOf]; omega
        · obtain rfl : k = y.s.L.length := by omega
          have HBE := Lib.hid HW.out
          clear HW
          have hr9 := (HS7.out wr HBE.out).2
          have c0 : wr.cell? ⟨g4, 0, none⟩ = some (.int .i64 6) := (cell_of_row _ _ 0 _ _ _ hr9).trans rfl; have c1 : wr.cell? ⟨g4, 1, none⟩ = some (.int .i64 0) := (cell_of_row _ _ 1 _ _ _ hr9).trans rfl; have c2 : wr.cell? ⟨g4, 2, none⟩ = some (.int .i64 z.token) := (cell_of_row _ _ 2 _ _ _ hr9).trans rfl; have c3 : wr.cell? ⟨g4, 3, none⟩ = some (.slice none 0 0) := (cell_of_row _ _ 3 _ _ _ hr9).trans rfl; have c4 : wr.cell? ⟨g4, 4, none⟩ = some (.int .u64 0) := (cell_of_row _ _ 4 _ _ _ hr9).trans rfl; have c5 : wr.cell? ⟨g4, 5, none⟩ = some (.int .u64 0) := (cell_of_row _ _ 5 _ _ _ hr9).trans rfl; have c6 : wr.cell? ⟨g4, 6, none⟩ = some (.int .u64 z.serial) := (cell_of_row _ _ 6 _ _ _ hr9).trans rfl; have c7 : wr.cell? ⟨g4, 7, none⟩ = some (.int .u64 z.stamp) := (cell_of_row _ _ 7 _ _ _ hr9).trans rfl
          have h9 := H7.out.1.below HBE.out
          obtain ⟨hz1, hz2⟩ := HIY.out.back hr HFK.out.1 (by omega)
          rw [HKZ.out] at hz1 hz2
          have hwz := HIY.out.led.2.2.2.1 fh HFK.out.1
          have hcok : cmdOk (recK z) := by rw [← HKZ.out]; exact ⟨⟨rfl, rfl, hwz.1, rfl, rfl, hwz.2.2.2.1, hwz.2.2.2.2⟩, rfl⟩
          have HAP := Lib.hid (papply_any (recK z) wr ⟨_, _, _, _, _, h9⟩ HIY.out.led HIY.out.kok hcok hz1 ⟨HIY.out.len.2.2.2.2.1, by have := HIY.out.len.2.2.2.2.2; omega⟩ hz2.led)
          have HI9 := Lib.hid hz2
          clear hr9 h9 hz1 hz2 hwz hcok
          go_wp2_with fail
          refine HAP.out.mono ?_
          rintro e w10 ⟨rfl, h10, k10⟩
          have HEE : Hid (Inv rho short j (m + (j0 + 1)) (appX y (recK z)) ∧ (appX y (recK z)).s = x.s ∧ PlV P pw pk short n N (appX y (recK z)) O2 B a w10 ∧ ∀ k, O2 k → w10.heap[k]? = w2.heap[k]?) := Lib.hid ⟨HI9.out, HYS.out, h10, fun k hk => (k10 k hk).trans ((HBE.out.block k (H7.out.1.lt hk)).trans (H7.out.2 k hk))⟩
          clear h10 k10 c0 c1 c2 c3 c4 c5 c6 c7
          go_wp2_with fail
          go_roundw
          case rel => exact ⟨j0 + 1, _, by omega, by go_num, HEE⟩
          case measure => simp [intOf]; omega
    · obtain rfl : j0 = D.length := by omega
      have HE := Lib.hid HR.out
      clear HR
      go_wp2_with fail
      go_ret
      refine ⟨rfl, y, HE.out.1.more (Nat.le_refl _) (by omega), ?_, fun k hk => (HE.out.2.2.2 k (HOO.out.1 k hk)).trans (H2.out.2.1 k hk)⟩
      obtain ⟨vh, vl, va, g, Q, hG⟩ := HE.out.2.2.1
      exact ⟨_, _, _, _, _, hG.mono HOO.out.1⟩
end Sf
end Go.Proofs.Ytgbblegcjladaaa
namespace Go.Proofs.Ytgbblegcjladaaa
open Go.ChangeShapes Go.WideShapes Go.ChangeAt Go.RowKit Go.Deep Go.Maps Go.ChangeMaps Go.MapKept
set_option linter.unusedVariables false
set_option maxRecDepth 100000
set_option linter.unusedSimpArgs false
namespace Sf
open Lt Ls La Ld Cm Mc Mp
variable {w w' w1 w2 a : World} {Q O O' : Nat → Prop} {P pw pk g g' N B : Nat} {short n rho : Int} {x x' y : Pl} {vh vl va vh' vl' va' : Value} {s' : Wa} {K' : List Row} {j m : Nat}
structure ActR where
  kind : Int
  n : Int
  real : Int
  da : Int
  db : Int
abbrev acC (x : ActR) : List Value := [.int .i64 x.kind, .int .i64 x.n, .int .i64 x.real, .int .i64 x.da, .int .i64 x.db]
theorem acC_len (x : ActR) : (acC x).length = 5 := rfl
theorem acC_one (x : ActR) : ∀ u ∈ acC x, u.oneCell' = true := by intro u hu; simp at hu; rcases hu with rfl | rfl | rfl | rfl | rfl <;> rfl
def ActR.wf (x : ActR) : Prop := (Lit.int .i64 x.kind).wf = true ∧ (Lit.int .i64 x.n).wf = true ∧ (Lit.int .i64 x.real).wf = true ∧ (Lit.int .i64 x.da).wf = true ∧ (Lit.int .i64 x.db).wf = true
def IsActs (w : World) (v : Value) (xs : List ActR) : Prop := SlR 5 acC w v xs ∧ ∀ x ∈ xs, x.wf
def IsActs.size (xs : List ActR) : Nat := xs.length
def IsActs.fits (xs : List ActR) : Prop := xs.length * 40 ≤ 140737488351232
theorem IsActs.below {w w' : World} {v : Value} {xs : List ActR} {B : Nat} (h : IsActs w v xs) (hb : Below B w w') (hB : w.heap.size ≤ B) : IsActs w' v xs := ⟨h.1.below hb hB, h.2⟩
section
variable {H : Type} {enc : TypeId × Value → H} {W : World}
theorem trod_acC {n : Nat} {cs : List Value} {y : DataW H × List MemPlace} (h : DataW.trod enc Try.prog W 0 (fun _ => true) true n 83 cs = some y) : ∃ x, cs = acC x ∧ x.wf := by
  obtain ⟨xs, m, _, rfl, hlen, hxl, hf⟩ := DataW.trod_struct Try.underlying83 h
  have hl : cs.length = 5 := hlen.trans (by kernel_rfl)
  match cs, hl, xs, hxl with
  | [c0, c1, c2, c3, c4], _, [y0, y1, y2, y3, y4], _ =>
    have k_int : Try.prog.cellsOf 3 = 1 := by kernel_rfl
    have k_int64 : Try.prog.cellsOf 2 = 1 := by kernel_rfl
    obtain ⟨z0, rfl, w0⟩ := int_cell (P := Try.prog) Try.underlying3 (by simpa [k_int, k_int64] using hf 0 _ rfl)
    obtain ⟨z1, rfl, w1⟩ := int_cell (P := Try.prog) Try.underlying3 (by simpa [k_int, k_int64] using hf 1 _ rfl)
    obtain ⟨z2, rfl, w2⟩ := int_cell (P := Try.prog) Try.underlying2 (by simpa [k_int, k_int64] using hf 2 _ rfl)
    obtain ⟨z3, rfl, w3⟩ := int_cell (P := Try.prog) Try.underlying2 (by simpa [k_int, k_int64] using hf 3 _ rfl)
    obtain ⟨z4, rfl, w4⟩ := int_cell (P := Try.prog) Try.underlying2 (by simpa [k_int, k_int64] using hf 4 _ rfl)
    exact ⟨⟨z0, z1, z2, z3, z4⟩, rfl, w0, w1, w2, w3, w4⟩
theorem open_acC {base : Nat} {v : Value} {d : DataW H} {ps : List MemPlace}
    (hok : Value.okWide Try.prog W .any base 75 v) (h : DataW.Trod enc Try.prog W 0 (fun _ => true) true 75 v d ps) : ∃ l, IsActs W v l ∧ IsActs.size l ≤ Rows.uptoBulk d ∧ (Wt Try.prog 75 d → IsActs.fits l) := by
  obtain ⟨fuel, hf⟩ := h
  rw [slice_cells Try.underlying75 hok] at hf
  obtain ⟨xs, h1, h2, h3, h4⟩ := rows_cell (P := Try.prog) (C := acC) (Q := ActR.wf) Try.underlying75 (sz := 5) (by kernel_rfl) (by omega) (fun m cs y h => trod_acC h) hf
  refine ⟨xs, ⟨h1, h2⟩, h3, fun hw => ?_⟩
  have := h4 hw
  rw [show Try.prog.bytesOf 83 = 40 from by kernel_rfl] at this
  simpa [reachBytes, IsActs.fits] using this
end
theorem acC_cells {w : World} {b o : Nat} {x : ActR} (h : ∀ j u, (acC x)[j]? = some u → w.cell? ⟨b, o + j, none⟩ = some u) : w.cell? ⟨b, o, none⟩ = some (.int .i64 x.kind) ∧ w.cell? ⟨b, o + 1, none⟩ = some (.int .i64 x.n) ∧ w.cell? ⟨b, o + 2, none⟩ = some (.int .i64 x.real) ∧ w.cell? ⟨b, o + 3, none⟩ = some (.int .i64 x.da) ∧ w.cell? ⟨b, o + 4, none⟩ = some (.int .i64 x.db) := ⟨h 0 _ rfl, h 1 _ rfl, h 2 _ rfl, h 3 _ rfl, h 4 _ rfl⟩
/-- the play at its start -/
theorem start_play (h : TwoO (WaX pw short newW) (KpX pk n []) (fun _ => False) B a w) (hg : w.heap.size = g) (h1 : w.alloc (.map #[] 0) = w1) (hP : w1.heap.size = P) (h2 : w1.alloc (.cells (plA pw pk pl0 (.slice none 0 0) (.slice none 0 0) (.slice none 0 0) g) TP) = w2) :
    PlV P pw pk short n 0 pl0 (fun _ => False) B a w2 := by
  have b1 : Below w.heap.size w w1 := by rw [← h1]; exact (Below.refl _ _).alloc (Nat.le_refl _) _
  have b2 : Below w1.heap.size w1 w2 := by rw [← h2]; exact (Below.refl _ _).alloc (Nat.le_refl _) _
  have hr : w2.heap[P]? = some (.cells (plA pw pk pl0 (.slice none 0 0) (.slice none 0 0) (.slice none 0 0) g) TP (0, 0)) := by rw [← h2, ← hP]; exact heap_alloc_new _ _
  have hm1 : MapF Try.prog 31 (Lit.int .u64) okU w1 g 0 (fun _ => none) := by rw [← h1, ← hg]; exact Mp.made _ _ _ _ w
  have hm2 := hm1.block (b2.block g hm1.lt)
  have ht := TwoO.more (goodW pw short _) (goodK pk n _) h (b1.trans (b2.mono b1.size))
  have hz := hm1.lt
  have hz2 := row_lt hr
  refine ⟨(.slice none 0 0), (.slice none 0 0), (.slice none 0 0), g, fun k => k = g ∨ k = P, ⟨TwoO.mono ht (fun k hk => ?_), fun k _ hk => hk, hr, ⟨OwnR.nil _ _ _, OwnR.nil _ _ _, OwnR.nil _ _ _, hm2.congr (fun _ _ => rfl), .inr rfl, ⟨.inl rfl, by omega⟩, fun k hk => (by cases hk), fun k hk => (by cases hk), fun k hk => (by cases hk)⟩⟩⟩
  have := b1.size
  rcases hk with (rfl | rfl) | hk
  · exact .inr ⟨by omega, hm2.lt⟩
  · exact .inr ⟨by omega, hz2⟩
  · exact hk.elim
/-- an answer, looked up -/
theorem look4 (f : Int → Option La.Ans) {q : Int} (hq : okU q) : ∃ (tv : La.Ans) (hs : Bool), (∀ (w : World) (g N : Nat), MapF Try.prog 31 (Lit.int .u64) okU w g N (fun z => (f z).map ansV) → (Instr.lookup TMA (.map (some g)) (.int .u64 q) true).run Try.prog w = .ok (.tuple #[ansV tv, .bool hs]) w) ∧ ((f q = none ∧ hs = false) ∨ (f q = some tv ∧ hs = true)) := by
  have hz : ∀ w, (zeroValue 60).run Try.prog w = .ok (.agg #[.int .i64 0, .int .i64 0, .int .u64 0]) w := fun w => by kernel_rfl
  have hk : Try.prog.underlying 31 = some (.int .u64) := Try.underlying31
  cases hf : f q with
  | none => exact ⟨⟨0, 0, 0⟩, false, fun w g N h => by
      have := h.look (u64K hk) Try.underlying79 (hz w) hq true
      rw [this, hf]
      rfl, .inl ⟨rfl, rfl⟩⟩
  | some y => exact ⟨y, true, fun w g N h => by
      have := h.look (u64K hk) Try.underlying79 (hz w) hq true
      rw [this, hf]
      rfl, .inr ⟨rfl, rfl⟩⟩
/-- an answer, noted -/
theorem PlG.note (h : PlG P pw pk short n x vh vl va g N Q O B a w) {q : Int} {y : La.Ans} (hm : MapF Try.prog 31 (Lit.int .u64) okU w' g (N + 1) (Mp.upd (ansF x) q (some (ansV y)))) (hg : w.grownBy w' (some g)) :
    PlG P pw pk short n { x with ans := fun z => if z = q then some y else x.ans z } vh vl va g (N + 1) Q O B a w' ∧ ∀ k, O k → w'.heap[k]? = w.heap[k]? := by
  have ho : Only Q w w' := Only.grown hg (fun k e => by cases e; exact h.r.og.1)
  obtain ⟨h1, h2⟩ := h.writes ho
  have hk : ∀ k, k < w.heap.size → k ≠ g → w'.heap[k]? = w.heap[k]? := fun k hk hn => hg.block k hk (fun e => hn (by cases e; rfl))
  refine ⟨⟨h1, h.ap, (hk P (row_lt h.row) (fun e => h.r.og.2 e.symm)).trans h.row, ⟨own_keep h.r.h (fun k hq hl => hk k hl (fun e => map_own_ne h.r.m h.r.h (e ▸ hq))), own_keep h.r.l (fun k hq hl => hk k hl (fun e => map_own_ne h.r.m h.r.l (e ▸ hq))), own_keep h.r.k (fun k hq hl => hk k hl (fun e => map_own_ne h.r.m h.r.k (e ▸ hq))), hm.congr (fun z _ => ?_), h.r.oP, h.r.og, h.r.oh, h.r.ol, h.r.ok⟩⟩, h2⟩
  unfold Mp.upd ansF
  dsimp only
  split <;> rfl
end Sf
end Go.Proofs.Ytgbblegcjladaaa
