/- Package judge: a trace's step, as landed. No condition. -/
import Derived.Test.YteihopgnpiajoaaJjC
namespace Go.Proofs.Yteihopgnpiajoaa
open Go.ChangeShapes Go.WideShapes Go.ChangeAt Go.RowKit Go.Deep
set_option linter.unusedVariables false
set_option maxRecDepth 100000
set_option linter.unusedSimpArgs false
namespace Jj
variable {w w' : World} {p m n : Nat} {lim : Int} {cs : List Cx}
abbrev RI (w : World) (m r n : Nat) (f : Int → Option Value) (left : Int → Bool) (cnt : Nat) : Prop := Mp.RangeF Try.prog 3 (Lit.int .i64) Mp.okI w m r n f left cnt
def Stepped (p m n : Nat) (lim : Int) (cs : List Cx) (s : Sx) (w : World) (e : Ending) (w' : World) : Prop := e = .returned (.int .i64 (wrongE lim cs s)) ∧ (wrongE lim cs s = 0 → Tw w' p m (n + 1) lim (stepO cs s)) ∧ Only (fun k => k = p ∨ k = m) w w'
def keepL (s : Sx) (left : Int → Bool) (c : Cx) : Bool := !decide (c.node = s.node) || left c.tok
theorem okI_tok {lim : Int} {cs : List Cx} (h : OkC lim cs) (hl : Mp.okI lim) {c : Cx} (hc : c ∈ cs) : Mp.okI c.tok := by
  have h1 := h.tok c hc
  unfold Mp.okI at hl ⊢
  simp [Lit.wf, IntKind.min, IntKind.max, IntKind.signed, IntKind.bits] at hl ⊢
  omega
theorem fO_some {cs : List Cx} (h : OkC lim cs) {c : Cx} (hc : c ∈ cs) : fO cs c.tok = some (.int .i64 c.node) := by unfold fO; rw [own_some h hc]; rfl
theorem fO_inv {cs : List Cx} {x : Int} {v : Value} (h : fO cs x = some v) : ∃ c ∈ cs, c.tok = x ∧ v = .int .i64 c.node := by
  unfold fO at h
  rcases own_cases (cs := cs) x with ⟨e, -⟩ | ⟨c, hc, ht, e⟩
  · rw [e] at h; cases h
  · rw [e] at h; simp at h; exact ⟨c, hc, ht, h.symm⟩
theorem keep_start (h : OkC lim cs) (s : Sx) : cs.filter (keepL s fun x => (fO cs x).isSome) = cs :=
  List.filter_eq_self.2 (fun c hc => by unfold keepL; simp only [fO_some h hc, Option.isSome_some, Bool.or_true])
theorem keep_hit (h : OkC lim cs) {s : Sx} {left : Int → Bool} {c : Cx} (hc : c ∈ cs) (hn : c.node = s.node) : (cs.filter (keepL s left)).filter (fun d => !decide (d.tok = c.tok)) = cs.filter (keepL s fun y => left y && !decide (y = c.tok)) := by
  rw [List.filter_filter]
  refine List.filter_congr (fun d hd => ?_)
  unfold keepL
  by_cases e : d.tok = c.tok
  · have : d = c := h.uniq hd hc e
    subst this
    simp [hn]
  · simp [e]
theorem keep_miss (h : OkC lim cs) {s : Sx} {left : Int → Bool} {c : Cx} (hc : c ∈ cs) (hn : c.node ≠ s.node) : cs.filter (keepL s left) = cs.filter (keepL s fun y => left y && !decide (y = c.tok)) := by
  refine List.filter_congr (fun d hd => ?_)
  unfold keepL
  by_cases e : d.tok = c.tok
  · have : d = c := h.uniq hd hc e
    subst this
    simp [hn]
  · simp [e]
theorem keep_end (h : OkC lim cs) (hl : Mp.okI lim) {s : Sx} {left : Int → Bool} (h0 : ∀ x, Mp.okI x → left x = false) (h3 : s.kind = 3) : cs.filter (keepL s left) = stepO cs s := by
  unfold stepO
  rw [if_neg (by omega)]
  refine List.filter_congr (fun d hd => ?_)
  unfold keepL keepB
  rw [h0 _ (okI_tok h hl hd), decide_eq_false (show ¬ s.kind = 2 by omega)]
  simp
theorem close_keep (h : OkC lim cs) {s : Sx} (h2 : s.kind = 2) {c : Cx} (hc : c ∈ cs) (ht : c.tok = s.tok) (hn : c.node = s.node) : (cs.filter fun d => !decide (d.tok = s.tok)) = stepO cs s := by
  unfold stepO
  rw [if_neg (by omega)]
  refine List.filter_congr (fun d hd => ?_)
  unfold keepB
  rw [decide_eq_true h2]
  by_cases e : d.tok = s.tok
  · have : d = c := h.uniq hd hc (e.trans ht.symm)
    subst this
    simp [hn, ht]
  · simp [e]
set_option maxHeartbeats 8000000 in
theorem step_any (s : Sx) (w : World) (h : Tw w p m n lim cs) (hs : s.wf) (hlim : Mp.okI lim) (hn : n < 9223372036854775807) :
    Calls Try.prog 35 #[.pointer (some ⟨p, 0, none⟩), .agg #[.int .i64 s.kind, .int .i64 s.node, .int .i64 s.tok]] w (Stepped p m n lim cs s w) := by
  have HT0 := Lib.hid h
  have HL := Lib.hid hlim
  have HK : Hid (Mp.okI s.tok) := Lib.hid hs.2.2
  have HN : Hid (n < 9223372036854775807) := Lib.hid hn
  obtain ⟨W1, hW1⟩ : ∃ q, w.alloc (.cells #[.int .i64 s.kind, .int .i64 s.node, .int .i64 s.tok] TS) = q := ⟨_, rfl⟩
  have hb1 : Below w.heap.size w W1 := by rw [← hW1]; exact (Below.refl _ _).alloc (Nat.le_refl _) _
  have hg1 : W1.heap[w.heap.size]? = some (.cells #[.int .i64 s.kind, .int .i64 s.node, .int .i64 s.tok] TS (0, 0)) := by rw [← hW1]; exact heap_alloc_new _ _
  obtain ⟨g, hg⟩ : ∃ q, w.heap.size = q := ⟨_, rfl⟩
  have hgl : g < W1.heap.size := by rw [← hg]; exact row_lt hg1
  rw [hg] at hg1
  have HTa := Lib.hid (h.below hb1)
  have HBa := Lib.hid hb1
  have HGa := Lib.hid hg1
  have HNE : Hid (m ≠ p ∧ g ≠ p ∧ g ≠ m) := Lib.hid ⟨h.ne, by have := World.rowIs.lt h.1; omega, by have := h.2.1.lt; omega⟩
  have k0 : W1.cell? ⟨g, 0, none⟩ = some (.int .i64 s.kind) := (cell_of_row W1 _ 0 _ _ _ hg1).trans rfl
  have k1 : W1.cell? ⟨g, 1, none⟩ = some (.int .i64 s.node) := (cell_of_row W1 _ 1 _ _ _ hg1).trans rfl
  have k2 : W1.cell? ⟨g, 2, none⟩ = some (.int .i64 s.tok) := (cell_of_row W1 _ 2 _ _ _ hg1).trans rfl
  clear h hb1 hg1 hs hlim hn
  go_enter Try.func35, Try.ntmps35
  go_wp2_with fail
  clear hW1
  refine (fits_any s _ HTa.out.1).mono ?_
  rintro e w2 ⟨rfl, hb⟩
  have HT := Lib.hid (HTa.out.below hb)
  have HB : Hid (Below w.heap.size w w2) := Lib.hid (HBa.out.trans (hb.mono (by have := HBa.out.size; omega)))
  have hg2 := (hb.block _ hgl).trans HGa.out
  have HG := Lib.hid hg2
  have q0 : w2.cell? ⟨g, 0, none⟩ = some (.int .i64 s.kind) := (cell_of_row w2 _ 0 _ _ _ hg2).trans rfl
  have q1 : w2.cell? ⟨g, 1, none⟩ = some (.int .i64 s.node) := (cell_of_row w2 _ 1 _ _ _ hg2).trans rfl
  have q2 : w2.cell? ⟨g, 2, none⟩ = some (.int .i64 s.tok) := (cell_of_row w2 _ 2 _ _ _ hg2).trans rfl
  clear hb hg2 k0 k1 k2
  by_cases hgd : goodB lim s = false
  · have HE : Hid (wrongE lim cs s = 1) := Lib.hid (by unfold wrongE; rw [if_pos hgd])
    rw [hgd]
    clear hgd
    go_wp2_with fail
    go_ret
    exact ⟨by rw [HE.out]; rfl, fun q => absurd q (by rw [HE.out]; decide), Below.only HB.out _⟩
  have hgt : goodB lim s = true := by simpa using hgd
  rw [hgt]
  have HW : Hid (wrongE lim cs s = if s.kind = 1 then openE cs s else if s.kind = 2 then (if isB cs s = true then 0 else 4) else 0) := Lib.hid (by unfold wrongE openE; rw [if_neg hgd])
  have hnode : 1 ≤ s.node ∧ s.node ≤ 7 ∧ (s.kind = 1 ∨ s.kind = 2 ∨ s.kind = 3) := by
    unfold goodB at hgt
    simp only [Bool.and_eq_true, Bool.or_eq_true, decide_eq_true_eq] at hgt
    omega
  obtain ⟨hn1, hn7, hkd⟩ := hnode
  obtain ⟨j, hj⟩ : ∃ j : Nat, s.node = (j : Int) := ⟨s.node.toNat, by omega⟩
  have hj17 : 1 ≤ j ∧ j ≤ 7 := by omega
  have HJ := Lib.hid hj
  clear hj hgt hgd
  rcases hkd with g1 | g1 | g1
  · have d0 : (s.kind == 1) = true := by rw [g1]; rfl
    have HE : Hid (wrongE lim cs s = openE cs s) := Lib.hid (by rw [HW.out, if_pos g1])
    have HST : Hid (stepO cs s = cs ++ [⟨s.node, s.tok⟩]) := Lib.hid (by unfold stepO; rw [if_pos g1])
    clear g1
    go_wp2_with fail
    refine (open_any s j _ HT.out HJ.out hj17 HK.out HN.out (fun q => by rw [← HST.out]; exact ok_step HT.out.2.2 (by rw [HE.out]; exact q))).mono ?_
    rintro e w3 ⟨rfl, hop, ho⟩
    have HOP := Lib.hid hop
    have HO3 := Lib.hid ((Below.only HB.out _).trans ho)
    clear hop ho q0 q1 q2
    go_wp2_with fail
    go_ret
    exact ⟨by rw [HE.out]; rfl, fun q => by rw [HST.out]; exact HOP.out (by rw [← HE.out]; exact q), HO3.out⟩
  · have d1 : (s.kind == 1) = false := by rw [g1]; rfl
    have d2 : (s.kind == 2) = true := by rw [g1]; rfl
    have HE : Hid (wrongE lim cs s = if isB cs s = true then 0 else 4) := Lib.hid (by rw [HW.out, if_neg (by omega), if_pos g1])
    have HG2 := Lib.hid g1
    obtain ⟨oz, hoz⟩ : ∃ x, ownZ cs s.tok = x := ⟨_, rfl⟩
    have HO := Lib.hid hoz
    have HI : Hid (isB cs s = decide (oz = s.node)) := Lib.hid (by rw [is_own HT.out.2.2 s hn1, hoz])
    clear g1 hoz
    go_upto_region 7 with fail
    clear q0 q1 q2
    by_cases a : oz = s.node
    · have d3 : (oz != s.node) = false := by simpa using a
      have hE0 : wrongE lim cs s = 0 := by rw [HE.out, HI.out, if_pos (decide_eq_true a)]
      have HE0 := Lib.hid hE0
      obtain ⟨c, hc, hct, hcn⟩ : ∃ c ∈ cs, c.tok = s.tok ∧ c.node = s.node := by
        have h1 := HO.out
        unfold ownZ at h1
        rcases own_cases (cs := cs) s.tok with ⟨e, -⟩ | ⟨c, hc, ht, e⟩
        · rw [e] at h1
          have : (0 : Int) = oz := h1
          omega
        · rw [e] at h1
          exact ⟨c, hc, ht, (show c.node = oz from h1).trans a⟩
      have HCL := Lib.hid (close_keep HT.out.2.2 HG2.out hc hct hcn)
      have HM : Hid (⟨(j : Int), s.tok⟩ ∈ cs) := Lib.hid (by
        have e : c = ⟨(j : Int), s.tok⟩ := by cases c; simp only at hct hcn; rw [hct, hcn, HJ.out]
        rw [← e]; exact hc)
      have HOJ : Hid (oz = (j : Int)) := Lib.hid (a.trans HJ.out)
      clear a hE0 hc hct hcn
      refine Wl.start 999 (fun _ => True) (fun u => RowT u p m lim cs ∧ MI u m n (fO cs) ∧ u.heap[g]? = some (.cells #[.int .i64 s.kind, .int .i64 s.node, .int .i64 s.tok] TS (0, 0))) (by kernel_rfl) trivial ⟨HT.out.1, HT.out.2.1, HG.out⟩ (fun hk => ?_)
      refine Wl.take0 (i := 0) (v := .pointer (some ⟨p, 0, none⟩)) rfl (by kernel_rfl) (by kernel_rfl) (by kernel_rfl) (by kernel_rfl) (fun _ _ _ h => h) (.inl ⟨by kernel_rfl, ?_⟩) hk ?_
      · intro wx hSw
        clear hSw hk
        go_simp
        try first | with_reducible rfl | kernel_rfl
      simp only [Act.put, List.getElem_toArray, List.getElem_cons_succ, List.getElem_cons_zero, List.setIfInBounds_toArray, List.set_cons_succ, List.set_cons_zero]
      refine Wl.take0 (i := 1) (v := .pointer (some ⟨p, 0, none⟩)) rfl (by kernel_rfl) (by kernel_rfl) (by kernel_rfl) (by kernel_rfl) (fun _ _ _ h => h) (.inl ⟨by kernel_rfl, ?_⟩) hk ?_
      · intro wx hSw
        clear hSw hk
        go_simp
        try first | with_reducible rfl | kernel_rfl
      simp only [Act.put, List.getElem_toArray, List.getElem_cons_succ, List.getElem_cons_zero, List.setIfInBounds_toArray, List.set_cons_succ, List.set_cons_zero]
      refine Wl.take0 (i := 2) (v := .pointer (some ⟨p, 1, none⟩)) rfl (by kernel_rfl) (by kernel_rfl) (by kernel_rfl) (by kernel_rfl) (fun _ _ _ h => h) (.inl ⟨by kernel_rfl, ?_⟩) hk ?_
      · intro wx hSw
        clear hSw hk
        go_simp
        try first | with_reducible rfl | kernel_rfl
      simp only [Act.put, List.getElem_toArray, List.getElem_cons_succ, List.getElem_cons_zero, List.setIfInBounds_toArray, List.set_cons_succ, List.set_cons_zero]
      refine Wl.take0 (i := 3) (v := .map (some m)) rfl (by kernel_rfl) (by kernel_rfl) (by kernel_rfl) (by kernel_rfl) (fun _ _ _ h => h) (.inl ⟨by kernel_rfl, ?_⟩) hk ?_
      · intro wx hSw
        have cc := hSw.1.c1
        clear hSw hk
        go_simp
        try first | with_reducible rfl | kernel_rfl
      simp only [Act.put, List.getElem_toArray, List.getElem_cons_succ, List.getElem_cons_zero, List.setIfInBounds_toArray, List.set_cons_succ, List.set_cons_zero]
      refine Wl.take0 (i := 4) (v := .pointer (some ⟨g, 2, none⟩)) rfl (by kernel_rfl) (by kernel_rfl) (by kernel_rfl) (by kernel_rfl) (fun _ _ _ h => h) (.inl ⟨by kernel_rfl, ?_⟩) hk ?_
      · intro wx hSw
        clear hSw hk
        go_simp
        try first | with_reducible rfl | kernel_rfl
      simp only [Act.put, List.getElem_toArray, List.getElem_cons_succ, List.getElem_cons_zero, List.setIfInBounds_toArray, List.set_cons_succ, List.set_cons_zero]
      refine Wl.take0 (i := 5) (v := .int .i64 s.tok) rfl (by kernel_rfl) (by kernel_rfl) (by kernel_rfl) (by kernel_rfl) (fun _ _ _ h => h) (.inl ⟨by kernel_rfl, ?_⟩) hk ?_
      · intro wx hSw
        have cc := (cell_of_row wx _ 2 _ _ _ hSw.2.2).trans rfl
        clear hSw hk
        go_simp
        try first | with_reducible rfl | kernel_rfl
      simp only [Act.put, List.getElem_toArray, List.getElem_cons_succ, List.getElem_cons_zero, List.setIfInBounds_toArray, List.set_cons_succ, List.set_cons_zero]
      refine Wl.take0 (i := 6) (v := .int .i64 oz) rfl (by kernel_rfl) (by kernel_rfl) (by kernel_rfl) (by kernel_rfl) (fun _ _ _ h => h) (.inl ⟨by kernel_rfl, ?_⟩) hk ?_
      · intro wx hSw
        have cc := fO_get hSw.2.1 s.tok HK.out
        rw [HO.out] at cc
        clear hSw hk
        go_simp
        try first | with_reducible rfl | kernel_rfl
      simp only [Act.put, List.getElem_toArray, List.getElem_cons_succ, List.getElem_cons_zero, List.setIfInBounds_toArray, List.set_cons_succ, List.set_cons_zero]
      refine Wl.take0 (i := 7) (v := .pointer (some ⟨g, 1, none⟩)) rfl (by kernel_rfl) (by kernel_rfl) (by kernel_rfl) (by kernel_rfl) (fun _ _ _ h => h) (.inl ⟨by kernel_rfl, ?_⟩) hk ?_
      · intro wx hSw
        clear hSw hk
        go_simp
        try first | with_reducible rfl | kernel_rfl
      simp only [Act.put, List.getElem_toArray, List.getElem_cons_succ, List.getElem_cons_zero, List.setIfInBounds_toArray, List.set_cons_succ, List.set_cons_zero]
      refine Wl.take0 (i := 8) (v := .int .i64 s.node) rfl (by kernel_rfl) (by kernel_rfl) (by kernel_rfl) (by kernel_rfl) (fun _ _ _ h => h) (.inl ⟨by kernel_rfl, ?_⟩) hk ?_
      · intro wx hSw
        have cc := (cell_of_row wx _ 1 _ _ _ hSw.2.2).trans rfl
        clear hSw hk
        go_simp
        try first | with_reducible rfl | kernel_rfl
      simp only [Act.put, List.getElem_toArray, List.getElem_cons_succ, List.getElem_cons_zero, List.setIfInBounds_toArray, List.set_cons_succ, List.set_cons_zero]
      refine Wl.take0 (i := 9) (v := .bool false) rfl (by kernel_rfl) (by kernel_rfl) (by kernel_rfl) (by kernel_rfl) (fun _ _ _ h => h) (.inl ⟨by kernel_rfl, ?_⟩) hk ?_
      · intro wx hSw
        have cc := d3
        clear hSw hk
        go_simp
        try first | with_reducible rfl | kernel_rfl
      simp only [Act.put, List.getElem_toArray, List.getElem_cons_succ, List.getElem_cons_zero, List.setIfInBounds_toArray, List.set_cons_succ, List.set_cons_zero]
      refine Wl.done (by kernel_rfl) ?_ _
      clear hk
      have q2 : w2.drew.cell? ⟨g, 2, none⟩ = some (.int .i64 s.tok) := (cell_of_row w2.drew _ 2 _ _ _ HG.out).trans rfl
      go_wp2_with fail
      refine (close_any (Z := fun u => Tw u p m n lim (stepO cs s) ∧ Only (fun k => k = p ∨ k = m) w u) s.tok j _ (HT.out.1.below (w' := w2.drew) ((Below.refl w2.heap.size w2).drew)) (by omega) HT.out.2.2 HM.out (fun u hu => by
        have := fO_get (HT.out.2.1.block (w' := u) hu) s.tok HK.out
        rw [HO.out, HOJ.out] at this
        exact this) HNE.out.1 (fun u ty hu hr ho => by
        obtain ⟨u', hrun, hm, hgr⟩ := (HT.out.2.1.block (w' := u) hu).del KI Try.underlying61 HK.out ty
        refine ⟨u', hrun, ⟨?_, hm.congr (fun x _ => by rw [fO_del, HCL.out]), ok_step HT.out.2.2 HE0.out⟩, ?_⟩
        · rw [← HCL.out]
          exact hr.block (hgr.block _ (World.rowIs.lt hr) (fun e => HNE.out.1 (Option.some.inj e).symm))
        · exact (((Below.only HB.out.drew _).trans (ho.mono (fun k hk => .inl hk)))).trans (Only.grown hgr (fun q hq => .inr (Option.some.inj hq).symm)))).mono ?_
      rintro e w5 ⟨rfl, hz, ho⟩
      have HZ5 := Lib.hid hz
      have HO5 := Lib.hid ho
      clear hz ho q2
      go_wp2_with fail
      go_ret
      exact ⟨by rw [HE0.out]; rfl, fun _ => ⟨HZ5.out.1, HZ5.out.2.1.mono (Nat.le_succ _), HZ5.out.2.2⟩, HO5.out⟩
    · have d3 : (oz != s.node) = true := by simpa using a
      have HE4 : Hid (wrongE lim cs s = 4) := Lib.hid (by rw [HE.out, HI.out, if_neg (by simpa using a)])
      clear a
      refine Wl.start 999 (fun _ => True) (fun u => RowT u p m lim cs ∧ MI u m n (fO cs) ∧ u.heap[g]? = some (.cells #[.int .i64 s.kind, .int .i64 s.node, .int .i64 s.tok] TS (0, 0))) (by kernel_rfl) trivial ⟨HT.out.1, HT.out.2.1, HG.out⟩ (fun hk => ?_)
      refine Wl.take0 (i := 0) (v := .pointer (some ⟨p, 0, none⟩)) rfl (by kernel_rfl) (by kernel_rfl) (by kernel_rfl) (by kernel_rfl) (fun _ _ _ h => h) (.inl ⟨by kernel_rfl, ?_⟩) hk ?_
      · intro wx hSw
        clear hSw hk
        go_simp
        try first | with_reducible rfl | kernel_rfl
      simp only [Act.put, List.getElem_toArray, List.getElem_cons_succ, List.getElem_cons_zero, List.setIfInBounds_toArray, List.set_cons_succ, List.set_cons_zero]
      refine Wl.take0 (i := 1) (v := .pointer (some ⟨p, 0, none⟩)) rfl (by kernel_rfl) (by kernel_rfl) (by kernel_rfl) (by kernel_rfl) (fun _ _ _ h => h) (.inl ⟨by kernel_rfl, ?_⟩) hk ?_
      · intro wx hSw
        clear hSw hk
        go_simp
        try first | with_reducible rfl | kernel_rfl
      simp only [Act.put, List.getElem_toArray, List.getElem_cons_succ, List.getElem_cons_zero, List.setIfInBounds_toArray, List.set_cons_succ, List.set_cons_zero]
      refine Wl.take0 (i := 2) (v := .pointer (some ⟨p, 1, none⟩)) rfl (by kernel_rfl) (by kernel_rfl) (by kernel_rfl) (by kernel_rfl) (fun _ _ _ h => h) (.inl ⟨by kernel_rfl, ?_⟩) hk ?_
      · intro wx hSw
        clear hSw hk
        go_simp
        try first | with_reducible rfl | kernel_rfl
      simp only [Act.put, List.getElem_toArray, List.getElem_cons_succ, List.getElem_cons_zero, List.setIfInBounds_toArray, List.set_cons_succ, List.set_cons_zero]
      refine Wl.take0 (i := 3) (v := .map (some m)) rfl (by kernel_rfl) (by kernel_rfl) (by kernel_rfl) (by kernel_rfl) (fun _ _ _ h => h) (.inl ⟨by kernel_rfl, ?_⟩) hk ?_
      · intro wx hSw
        have cc := hSw.1.c1
        clear hSw hk
        go_simp
        try first | with_reducible rfl | kernel_rfl
      simp only [Act.put, List.getElem_toArray, List.getElem_cons_succ, List.getElem_cons_zero, List.setIfInBounds_toArray, List.set_cons_succ, List.set_cons_zero]
      refine Wl.take0 (i := 4) (v := .pointer (some ⟨g, 2, none⟩)) rfl (by kernel_rfl) (by kernel_rfl) (by kernel_rfl) (by kernel_rfl) (fun _ _ _ h => h) (.inl ⟨by kernel_rfl, ?_⟩) hk ?_
      · intro wx hSw
        clear hSw hk
        go_simp
        try first | with_reducible rfl | kernel_rfl
      simp only [Act.put, List.getElem_toArray, List.getElem_cons_succ, List.getElem_cons_zero, List.setIfInBounds_toArray, List.set_cons_succ, List.set_cons_zero]
      refine Wl.take0 (i := 5) (v := .int .i64 s.tok) rfl (by kernel_rfl) (by kernel_rfl) (by kernel_rfl) (by kernel_rfl) (fun _ _ _ h => h) (.inl ⟨by kernel_rfl, ?_⟩) hk ?_
      · intro wx hSw
        have cc := (cell_of_row wx _ 2 _ _ _ hSw.2.2).trans rfl
        clear hSw hk
        go_simp
        try first | with_reducible rfl | kernel_rfl
      simp only [Act.put, List.getElem_toArray, List.getElem_cons_succ, List.getElem_cons_zero, List.setIfInBounds_toArray, List.set_cons_succ, List.set_cons_zero]
      refine Wl.take0 (i := 6) (v := .int .i64 oz) rfl (by kernel_rfl) (by kernel_rfl) (by kernel_rfl) (by kernel_rfl) (fun _ _ _ h => h) (.inl ⟨by kernel_rfl, ?_⟩) hk ?_
      · intro wx hSw
        have cc := fO_get hSw.2.1 s.tok HK.out
        rw [HO.out] at cc
        clear hSw hk
        go_simp
        try first | with_reducible rfl | kernel_rfl
      simp only [Act.put, List.getElem_toArray, List.getElem_cons_succ, List.getElem_cons_zero, List.setIfInBounds_toArray, List.set_cons_succ, List.set_cons_zero]
      refine Wl.take0 (i := 7) (v := .pointer (some ⟨g, 1, none⟩)) rfl (by kernel_rfl) (by kernel_rfl) (by kernel_rfl) (by kernel_rfl) (fun _ _ _ h => h) (.inl ⟨by kernel_rfl, ?_⟩) hk ?_
      · intro wx hSw
        clear hSw hk
        go_simp
        try first | with_reducible rfl | kernel_rfl
      simp only [Act.put, List.getElem_toArray, List.getElem_cons_succ, List.getElem_cons_zero, List.setIfInBounds_toArray, List.set_cons_succ, List.set_cons_zero]
      refine Wl.take0 (i := 8) (v := .int .i64 s.node) rfl (by kernel_rfl) (by kernel_rfl) (by kernel_rfl) (by kernel_rfl) (fun _ _ _ h => h) (.inl ⟨by kernel_rfl, ?_⟩) hk ?_
      · intro wx hSw
        have cc := (cell_of_row wx _ 1 _ _ _ hSw.2.2).trans rfl
        clear hSw hk
        go_simp
        try first | with_reducible rfl | kernel_rfl
      simp only [Act.put, List.getElem_toArray, List.getElem_cons_succ, List.getElem_cons_zero, List.setIfInBounds_toArray, List.set_cons_succ, List.set_cons_zero]
      refine Wl.take0 (i := 9) (v := .bool true) rfl (by kernel_rfl) (by kernel_rfl) (by kernel_rfl) (by kernel_rfl) (fun _ _ _ h => h) (.inl ⟨by kernel_rfl, ?_⟩) hk ?_
      · intro wx hSw
        have cc := d3
        clear hSw hk
        go_simp
        try first | with_reducible rfl | kernel_rfl
      simp only [Act.put, List.getElem_toArray, List.getElem_cons_succ, List.getElem_cons_zero, List.setIfInBounds_toArray, List.set_cons_succ, List.set_cons_zero]
      refine Wl.done (by kernel_rfl) ?_ _
      clear hk
      go_wp2_with fail
      go_ret
      exact ⟨by rw [HE4.out]; rfl, fun q => absurd q (by rw [HE4.out]; decide), Below.only HB.out.drew _⟩
  · have d1 : (s.kind == 1) = false := by rw [g1]; rfl
    have d2 : (s.kind == 2) = false := by rw [g1]; rfl
    have d3 : (s.kind == 3) = true := by rw [g1]; rfl
    have HE : Hid (wrongE lim cs s = 0) := Lib.hid (by rw [HW.out, if_neg (by omega), if_neg (by omega)])
    have HG3 := Lib.hid g1
    have c1 := HT.out.1.c1
    clear g1
    go_wp2_with (at_range; refine Mp.wp_range rfl _ _ rfl KI Try.underlying61 m n _ rfl HT.out.2.1 ?_; intro w3 cnt0 hrg0 hgr0 hsz0)
    go_frame
    obtain ⟨r, hr⟩ : ∃ q, w2.heap.size = q := ⟨_, rfl⟩
    rw [hr] at hrg0 ⊢
    have hb3 : Below w2.heap.size w2 w3 := ⟨hgr0.os, hgr0.tape, hgr0.output, hgr0.size, fun k hk => hgr0.block k hk (by simp)⟩
    have HRG0 : Hid (RI w3 m r n (fO (cs.filter (keepL s fun x => (fO cs x).isSome))) (fun x => (fO cs x).isSome) cnt0) := Lib.hid (by rw [keep_start HT.out.2.2]; exact hrg0)
    have HR0 : Hid (RowT w3 p m lim (cs.filter (keepL s fun x => (fO cs x).isSome))) := Lib.hid (by rw [keep_start HT.out.2.2]; exact HT.out.1.below hb3)
    have HG0 : Hid (w3.heap[g]? = some (.cells #[.int .i64 s.kind, .int .i64 s.node, .int .i64 s.tok] TS (0, 0))) := Lib.hid ((hb3.block _ (row_lt HG.out)).trans HG.out)
    have HO0 : Hid (Only (fun k => k = p ∨ k = m) w w3) := Lib.hid ((Below.only HB.out _).trans (Below.only hb3 _))
    have HRW : Hid (w.heap.size ≤ r) := Lib.hid (by rw [← hr]; exact HB.out.size)
    have HOK : Hid (OkC lim cs) := Lib.hid HT.out.2.2
    have HRN : Hid (r ≠ p ∧ r ≠ m) := Lib.hid (by have := World.rowIs.lt HT.out.1; have := HT.out.2.1.lt; omega)
    clear hrg0 hgr0 hsz0 hb3 q0 q1 q2 c1 hr HT HTa HBa HGa HT0 HG HB
    go_loopw [41] (fun x wr => ∃ (left : Int → Bool) (cnt : Nat), Hid (RI wr m r n (fO (cs.filter (keepL s left))) left cnt) ∧ Hid (RowT wr p m lim (cs.filter (keepL s left))) ∧ Hid (wr.heap[g]? = some (.cells #[.int .i64 s.kind, .int .i64 s.node, .int .i64 s.tok] TS (0, 0))) ∧ Hid (Only (fun k => k = p ∨ k = m) w wr)) (fun _ wr => wr.rangeLeft m r)
    case atStart => exact ⟨_, _, HRG0, HR0, HG0, HO0⟩
    case round =>
      clear HRG0 HR0 HG0 HO0
      obtain ⟨left, cnt, HRG, HRT, HBX, HOW⟩ := hrel
      go_wp2_with (at_next; refine Mp.wp_next rfl _ rfl KI m r n _ _ _ rfl HRG.out ?_ ?_)
      · intro h0 hl0
        have HL0 := Lib.hid hl0
        clear h0 hl0
        go_wp2_with fail
        go_ret
        have hk := keep_end HOK.out HL.out HL0.out HG3.out
        exact ⟨by rw [HE.out]; rfl, fun _ => ⟨hk ▸ HRT.out, (hk ▸ HRG.out.map).mono (Nat.le_succ _), ok_step HOK.out HE.out⟩, HOW.out⟩
      · intro x v w4 cnt4 hok hlx hfx hrg4 hlt4 hgr4 hsz4 hen
        obtain ⟨c, hc, hct, rfl⟩ := fO_inv hfx
        have hcm := (List.mem_filter.1 hc).1
        have HX := Lib.hid hok
        have HCT := Lib.hid hct
        have HCM := Lib.hid hcm
        have HCF := Lib.hid hc
        have HR4 := Lib.hid hrg4
        have HLT := Lib.hid hlt4
        have HT4 : Hid (RowT w4 p m lim (cs.filter (keepL s left))) := Lib.hid (HRT.out.block (hgr4.block _ (World.rowIs.lt HRT.out) (fun e => HRN.out.1 (Option.some.inj e).symm)))
        have HB4 : Hid (w4.heap[g]? = some (.cells #[.int .i64 s.kind, .int .i64 s.node, .int .i64 s.tok] TS (0, 0))) := Lib.hid ((hgr4.block _ (row_lt HBX.out) (fun e => by have h1 := HRG.out.row_ne HBX.out; exact h1.2 (Option.some.inj e).symm)).trans HBX.out)
        have HO4 : Hid (Only (fun k => k = p ∨ k = m) w w4) := Lib.hid (HOW.out.after (Only.grown (S := fun k => k = r) hgr4 (fun q hq => (Option.some.inj hq).symm)) (fun i hi e => by have := HRW.out; omega))
        have k1 : w4.cell? ⟨g, 1, none⟩ = some (.int .i64 s.node) := (cell_of_row w4 _ 1 _ _ _ HB4.out).trans rfl
        have HEN := Lib.hid hsz4
        clear hfx hc hct hcm hok hlx hrg4 hlt4 hgr4 hsz4
        by_cases a : c.node = s.node
        · have d4 : (c.node == s.node) = true := by simpa using a
          have HA := Lib.hid a
          clear a
          go_wp2_with fail
          refine (close_any (cs := cs.filter (keepL s left)) (Z := fun u => (∃ cnt5, RI u m r n (fO (cs.filter (keepL s fun y => left y && !decide (y = x)))) (fun y => left y && !decide (y = x)) cnt5 ∧ cnt5 ≤ cnt4) ∧ RowT u p m lim (cs.filter (keepL s fun y => left y && !decide (y = x))) ∧ u.heap[g]? = some (.cells #[.int .i64 s.kind, .int .i64 s.node, .int .i64 s.tok] TS (0, 0)) ∧ Only (fun k => k = p ∨ k = m) w u) x j _ HT4.out (by omega) (HOK.out.filter _) (by
            have e : c = ⟨(j : Int), x⟩ := by
              have h1 := HCT.out; have h2 := HA.out; have h3 := HJ.out
              cases c; simp only at h1 h2; rw [h1, h2, h3]
            rw [← e]; exact HCF.out) (fun u hu => by
            have := fO_get (HR4.out.map.block (w' := u) hu) x HX.out
            have e : ownZ (cs.filter (keepL s left)) x = (j : Int) := by
              unfold ownZ
              rw [← HCT.out, own_some (HOK.out.filter _) HCF.out]
              exact HA.out.trans HJ.out
            rw [e] at this
            exact this) HNE.out.1 (fun u ty hu hr ho => by
            have hru : RI u m r n _ _ _ := HR4.out.block hu (ho.2.2.2.2 _ HR4.out.lt HRN.out.1)
            obtain ⟨u', cnt5, hrun, hm, hle, hgr⟩ := hru.del KI Try.underlying61 HX.out ty
            have hkk := keep_hit (left := left) HOK.out HCM.out HA.out
            rw [HCT.out] at hkk
            rw [hkk] at hr
            refine ⟨u', hrun, ⟨cnt5, hm.congr (fun y _ => by rw [fO_del, hkk]) (fun y _ => by cases left y <;> by_cases e : y = x <;> simp [e]), hle⟩, hr.block (hgr.block _ (World.rowIs.lt hr) (fun e => HNE.out.1 (Option.some.inj e).symm)), ?_, ?_⟩
            · have h1 : u.heap[g]? = some (.cells #[.int .i64 s.kind, .int .i64 s.node, .int .i64 s.tok] TS (0, 0)) := (ho.2.2.2.2 _ (row_lt HB4.out) HNE.out.2.1).trans HB4.out
              exact (hgr.block _ (row_lt h1) (fun e => HNE.out.2.2 (Option.some.inj e))).trans h1
            · exact (HO4.out.trans (ho.mono (fun k hk => .inl hk))).trans (Only.grown hgr (fun q hq => .inr (Option.some.inj hq).symm)))).mono ?_
          rintro e w5 ⟨rfl, ⟨cnt5, hz, hle⟩, hr5, hb5, ho5⟩
          have HZ5 := Lib.hid hz
          have HLE := Lib.hid hle
          have HR5 := Lib.hid hr5
          have HB5 := Lib.hid hb5
          have HO5 := Lib.hid ho5
          clear hz hle hr5 hb5 ho5 k1 hen
          go_wp2_with fail
          go_roundw
          case rel => exact ⟨_, cnt5, HZ5, HR5, HB5, HO5⟩
          case measure =>
            have h1 := HZ5.out.left_eq
            have h2 := HRG.out.left_eq
            have h3 := HLT.out
            have h4 := HLE.out
            rw [h1, h2]; omega
        · have d4 : (c.node == s.node) = false := beq_eq_false_iff_ne.2 a
          have hkm := keep_miss (left := left) HOK.out HCM.out a
          rw [HCT.out] at hkm
          have HR5 : Hid (RI w4 m r n (fO (cs.filter (keepL s fun y => left y && !decide (y = x)))) (fun y => left y && !decide (y = x)) cnt4) := Lib.hid (by rw [← hkm]; exact HR4.out)
          have HT5 : Hid (RowT w4 p m lim (cs.filter (keepL s fun y => left y && !decide (y = x)))) := Lib.hid (by rw [← hkm]; exact HT4.out)
          clear a hkm
          go_wp2_with fail
          go_roundw
          case rel => exact ⟨_, cnt4, HR5, HT5, HB4, HO4⟩
          case measure =>
            have h1 := HR5.out.left_eq
            have h2 := HRG.out.left_eq
            have h3 := HLT.out
            rw [h1, h2]; omega
end Jj
end Go.Proofs.Yteihopgnpiajoaa
