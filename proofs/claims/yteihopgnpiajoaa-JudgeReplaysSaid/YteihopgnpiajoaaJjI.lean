/- Package judge: Replay, as landed. No condition. -/
import Derived.Test.YteihopgnpiajoaaJjE
import Derived.Test.YteihopgnpiajoaaJjH
import Derived.Test.YteihopgnpiajoaaJjS
import Derived.Test.YteihopgnpiajoaaSrt
namespace Go.Proofs.Yteihopgnpiajoaa
open Go.ChangeShapes Go.WideShapes Go.ChangeAt Go.RowKit Go.Deep
set_option linter.unusedVariables false
set_option maxRecDepth 100000
set_option linter.unusedSimpArgs false
namespace Jj
/-! ### lists -/
theorem lt_asymm {x y : Cx} (h : ltC x y) (g : ltC y x) : False := by unfold ltC at *; omega
theorem lt_irrefl {x : Cx} (h : ltC x x) : False := lt_asymm h h
theorem lt_tot (x y : Cx) (h : ¬ ltC x y) (g : ¬ ltC y x) : x = y := by
  cases x; cases y
  unfold ltC at *
  simp only at *
  simp only [Cx.mk.injEq]
  omega
theorem tot : ∀ x y : Cx, ltOf cfC x y = false → ltOf cfC y x = false → x = y := fun x y h g => by
  rw [lt_iff] at h g
  exact lt_tot x y (of_decide_eq_false h) (of_decide_eq_false g)
/-- what is open, in its order -/
def Srtd (o cs : List Cx) : Prop := cs.Pairwise ltC ∧ ∀ c, (c ∈ cs ↔ c ∈ o)
theorem srt_uniq : ∀ {a b : List Cx}, a.Pairwise ltC → b.Pairwise ltC → (∀ c, (c ∈ a ↔ c ∈ b)) → a = b
  | [], [], _, _, _ => rfl
  | [], y :: b, _, _, h => absurd ((h y).2 (by simp)) (by simp)
  | x :: a, [], _, _, h => absurd ((h x).1 (by simp)) (by simp)
  | x :: a, y :: b, ha, hb, h => by
    obtain ⟨ha1, ha2⟩ := List.pairwise_cons.1 ha
    obtain ⟨hb1, hb2⟩ := List.pairwise_cons.1 hb
    have e : x = y := by
      rcases List.mem_cons.1 ((h x).1 (by simp)) with g | g
      · exact g
      · rcases List.mem_cons.1 ((h y).2 (by simp)) with f | f
        · exact f.symm
        · exact (lt_asymm (hb1 _ g) (ha1 _ f)).elim
    subst e
    rw [srt_uniq ha2 hb2 (fun c => ⟨fun hc => by
      rcases List.mem_cons.1 ((h c).1 (List.mem_cons_of_mem _ hc)) with g | g
      · subst g; exact (lt_irrefl (ha1 _ hc)).elim
      · exact g, fun hc => by
      rcases List.mem_cons.1 ((h c).2 (List.mem_cons_of_mem _ hc)) with g | g
      · subst g; exact (lt_irrefl (hb1 _ hc)).elim
      · exact g⟩)]
theorem Srtd.uniq {o a b : List Cx} (h : Srtd o a) (g : Srtd o b) : a = b := srt_uniq h.1 g.1 (fun c => (h.2 c).trans (g.2 c).symm)
def srtL (xs : List Cx) : List Cx := xs.mergeSort fun x y => !(ltOf cfC) y x
theorem srt_of {A o : List Cx} (hn : A.Nodup) (hm : ∀ c, (c ∈ A ↔ c ∈ o)) : Srtd o (srtL A) := by
  have hp := List.mergeSort_perm A (fun x y => !(ltOf cfC) y x)
  refine ⟨?_, fun c => (hp.mem_iff).trans (hm c)⟩
  have h1 : (srtL A).Pairwise (fun a b => (!(ltOf cfC) b a) = true) := List.pairwise_mergeSort (fun a b c h1 h2 => by
    simp only [Bool.not_eq_true', lt_iff, decide_eq_false_iff_not] at h1 h2 ⊢
    unfold ltC at *; omega) (fun a b => by
    simp only [Bool.or_eq_true, Bool.not_eq_true', lt_iff, decide_eq_false_iff_not]
    unfold ltC; omega) A
  have h2 : (srtL A).Nodup := hp.nodup_iff.2 hn
  refine (List.Pairwise.and h1 h2).imp (fun {a b} h => ?_)
  obtain ⟨h3, h4⟩ := h
  simp only [Bool.not_eq_true', lt_iff, decide_eq_false_iff_not] at h3
  exact Classical.byContradiction fun q => h4 (lt_tot a b q h3)
/-! ### slices.SortFunc -/
theorem sort_any {B : Nat} {v : Value} {xs : List Cx} (w : World) (h : OwnR 2 cxC 34 w B v xs) (hl : xs.length ≤ 1000) :
    Calls Try.prog 24 #[v, .func (.func 25) #[] #[]] w fun e w' => e = .returned (.tuple #[]) ∧ OwnR 2 cxC 34 w' B v (srtL xs) ∧ Only (fun k => v.ownBlock = some k) w w' := by
  rcases own_form h with ⟨rfl, h0⟩ | ⟨g, c, cur, rfl, hg, hB⟩
  · have hx : xs = [] := List.length_eq_zero_iff.1 h0
    subst hx
    have hS := AnyF.slices_SortFunc_none (P := Try.prog) (ρ := sort_ren) { sortL with } none 0 (.func (.func 25) #[] #[]) w
    exact hS.mono fun e w' ⟨a, b⟩ => ⟨a, by rw [b, show srtL [] = [] from by simp [srtL]]; exact h, by rw [b]; exact Only.refl _ _⟩
  · have eg : ∀ args w, (callFunc 25 args).run Try.prog w = .ok (.enter 25 args) w := enters_of Try.func25 (by kernel_rfl) rfl
    have hS := AnyQ.slices_SortFunc_total sortL 2 Try.isAgg34 Try.sizeOf34 cxC cxC_len cxC_one cfC swo 25 #[] g 0 c xs.toArray w eg (cmpLays _ _ _ _) (Srt.holds cxC_len h) (row_lt hg) (by simp only [List.size_toArray]; omega) tot
    change Calls Try.prog 24 _ _ _ at hS
    refine hS.mono fun e w' hh => ?_
    obtain ⟨he, n, os, hw⟩ := hh
    obtain ⟨h1, h2⟩ := Srt.done (xs := xs) cxC_len h (by simp) hw
    exact ⟨he, by simpa [srtL, OwnR] using h1, h2.mono (fun k hk => by subst hk; rfl)⟩
/-! ### Replay -/
def Replayed (lim : Int) (l : List Sx) (w : World) (e : Ending) (w' : World) : Prop := ∃ (u : Value) (cs : List Cx) (i ee : Int), e = .returned (.tuple #[u, .int .i64 ee]) ∧ JudP lim l i ee ∧ OwnR 2 cxC 34 w' w.heap.size u cs ∧ Below w.heap.size w w' ∧ (ee ≠ 0 → cs = []) ∧ (ee = 0 → Srtd (openL l) cs)
set_option maxHeartbeats 4000000 in
theorem replay_any {v : Value} {l : List Sx} {lim : Int} (w : World) (hv : SlR 3 sxC w v l) (hwf : ∀ x ∈ l, x.wf) (hlim : Mp.okI lim) (hl : l.length ≤ 1000) :
    Calls Try.prog 10 #[.int .i64 lim, v] w (Replayed lim l w) := by
  have HV := Lib.hid hv
  have HWF := Lib.hid hwf
  have HLM := Lib.hid hlim
  have HL := Lib.hid hl
  clear hv hwf hlim hl
  go_enter Try.func10, Try.ntmps10
  go_wp2_with fail
  refine (follow_any w HV.out HWF.out HLM.out).mono ?_
  rintro e w2 ⟨tv, i, ee, rfl, hj, ht, hb⟩
  have HJ := Lib.hid hj
  have HB := Lib.hid hb
  have HTT := Lib.hid ht
  clear hj hb ht
  by_cases he : ee = 0
  · subst he
    obtain ⟨p, m, n, rfl, hT, hp, hm⟩ := HTT.out rfl
    clear HTT
    have c1 := hT.1.c1
    have HT := Lib.hid hT
    have HPM : Hid (w.heap.size ≤ p ∧ w.heap.size ≤ m) := Lib.hid ⟨hp, hm⟩
    obtain ⟨cs, hcs⟩ : ∃ q, openL l = q := ⟨_, rfl⟩
    have HCS := Lib.hid hcs
    have HLN : Hid (cs.length ≤ 1000) := Lib.hid (by rw [← hcs]; exact Nat.le_trans (open_len l) HL.out)
    rw [hcs] at HT
    clear hT hp hm hcs
    go_wp2_with (at_range; refine Mp.wp_range rfl _ _ rfl KI Try.underlying61 m n _ rfl HT.out.2.1 ?_; intro w3 cnt0 hrg0 hgr0 hsz0)
    go_frame
    obtain ⟨r, hr⟩ : ∃ q, w2.heap.size = q := ⟨_, rfl⟩
    rw [hr] at hrg0 ⊢
    have hb3 : Below w2.heap.size w2 w3 := ⟨hgr0.os, hgr0.tape, hgr0.output, hgr0.size, fun k hk => hgr0.block k hk (by simp)⟩
    have HRG0 := Lib.hid hrg0
    obtain ⟨D, hD⟩ : ∃ q, w3.heap.size = q := ⟨_, rfl⟩
    have HMR : Hid (m < D ∧ r < D ∧ w.heap.size ≤ D) := Lib.hid ⟨by rw [← hD]; exact hrg0.map.lt, by rw [← hD]; exact hrg0.lt, by rw [← hD]; exact Nat.le_trans HB.out.size hb3.size⟩
    have HD0 : Hid (D ≤ w3.heap.size) := Lib.hid (by rw [hD]; exact Nat.le_refl _)
    have HB0 : Hid (Below w.heap.size w w3) := Lib.hid (HB.out.trans (hb3.mono HB.out.size))
    have HRW : Hid (w.heap.size ≤ r) := Lib.hid (by rw [← hr]; exact HB.out.size)
    have HOK : Hid (OkC lim cs) := Lib.hid HT.out.2.2
    clear hD hrg0 hgr0 hsz0 hb3 c1 hr HT HB HV HWF
    go_loopw [9] (fun o wr => ∃ (left : Int → Bool) (cnt : Nat) (A : List Cx), Hid (RI wr m r n (fO cs) left cnt) ∧ Hid (D ≤ wr.heap.size ∧ OwnR 2 cxC 34 wr D o A) ∧ Hid (A.Nodup ∧ ∀ c, (c ∈ A ↔ c ∈ cs ∧ left c.tok = false)) ∧ Hid (Below w.heap.size w wr)) (fun _ wr => wr.rangeLeft m r)
    case atStart => exact ⟨_, _, [], HRG0, Lib.hid ⟨HD0.out, OwnR.nil _ _ _⟩, Lib.hid ⟨List.nodup_nil, fun c => by
      simp only [List.not_mem_nil, false_iff, not_and, Bool.not_eq_false]
      intro hc
      rw [fO_some HOK.out hc]; rfl⟩, HB0⟩
    case round =>
      clear HRG0 HB0 HD0
      obtain ⟨left, cnt, A, HRG, HOD, HA, HBW⟩ := hrel
      have HO := Lib.hid HOD.out.2
      have HAL : Hid (A.length ≤ 1000) := Lib.hid (Nat.le_trans (Mp.length_sub HA.out.1 (fun c hc => ((HA.out.2 c).1 hc).1)) HLN.out)
      go_wp2_with (at_next; refine Mp.wp_next rfl _ rfl KI m r n _ _ _ rfl HRG.out ?_ ?_)
      · intro h0 hl0
        have HS : Hid (Srtd (openL l) (srtL A)) := Lib.hid (by
          rw [HCS.out]
          refine srt_of HA.out.1 (fun c => (HA.out.2 c).trans ⟨fun q => q.1, fun q => ⟨q, hl0 _ (okI_tok HOK.out HLM.out q)⟩⟩))
        clear h0 hl0
        go_wp2_with fail
        refine (sort_any _ (own_up HO.out (fun q hq => Nat.le_trans HMR.out.2.2 (World.ownsRow.lt HO.out q hq).1)) HAL.out).mono ?_
        rintro e w4 ⟨rfl, ho4, hon⟩
        have HO4 := Lib.hid ho4
        have HB4 : Hid (Below w.heap.size w w4) := Lib.hid (hon.below HBW.out HBW.out.size (fun k hk => Nat.le_trans HMR.out.2.2 (World.ownsRow.lt HO.out k hk).1))
        clear ho4 hon
        go_wp2_with fail
        go_ret2
        exact ⟨_, _, _, _, rfl, HJ.out, HO4.out, HB4.out, fun q => absurd rfl q, fun _ => HS.out⟩
      · intro x v w4 cnt4 hok hlx hfx hrg4 hlt4 hgr4 hsz4 hen
        obtain ⟨c, hc, hct, rfl⟩ := fO_inv hfx
        have HR4 := Lib.hid hrg4
        have HLT := Lib.hid hlt4
        have HB4 : Hid (Below w.heap.size w w4) := Lib.hid ((Only.grown (S := fun k => k = r) hgr4 (fun q hq => (Option.some.inj hq).symm)).below HBW.out HBW.out.size (fun k hk => by subst hk; exact HRW.out))
        have HD4 : Hid (D ≤ w4.heap.size) := Lib.hid (by rw [hsz4]; exact HOD.out.1)
        have HO4 : Hid (OwnR 2 cxC 34 w4 D u9 A) := Lib.hid (own_keep HO.out (fun q hq hlt => hgr4.block q hlt (fun e => by
          rcases own_form HO.out with ⟨e1, -⟩ | ⟨g, c0, cur, e1, hg, -⟩
          · rw [e1] at hq; cases hq
          · rw [e1] at hq
            have h1 := HRG.out.row_ne hg
            have e2 : g = q := Option.some.inj hq
            exact h1.2 ((Option.some.inj e).symm.trans e2.symm |>.symm ▸ rfl))))
        have HA4 : Hid ((A ++ [c]).Nodup ∧ ∀ d, (d ∈ A ++ [c] ↔ d ∈ cs ∧ (left d.tok && !decide (d.tok = x)) = false)) := Lib.hid (by
          have hna : c ∉ A := fun q => by
            have := ((HA.out.2 c).1 q).2
            rw [hct, hlx] at this; cases this
          refine ⟨List.nodup_append.2 ⟨HA.out.1, by simp, fun a ha b hb => by
            simp only [List.mem_singleton] at hb
            subst hb
            exact fun q => hna (q ▸ ha)⟩, fun d => ?_⟩
          rw [List.mem_append, HA.out.2 d, List.mem_singleton]
          constructor
          · rintro (⟨h1, h2⟩ | rfl)
            · exact ⟨h1, by rw [h2]; rfl⟩
            · exact ⟨hc, by rw [hct]; simp⟩
          · rintro ⟨h1, h2⟩
            by_cases e : d.tok = x
            · exact .inr (HOK.out.uniq h1 hc (e.trans hct.symm))
            · exact .inl ⟨h1, by simpa [e] using h2⟩)
        have HEN := Lib.hid hct
        obtain ⟨W1, hW1⟩ : ∃ q, w4.alloc (.cells #[.int .i64 c.node, .int .i64 x] 34) = q := ⟨_, rfl⟩
        have HB5 : Hid (Below w.heap.size w W1) := Lib.hid (by rw [← hW1]; exact HB4.out.alloc HB4.out.size _)
        have HD5 : Hid (D ≤ W1.heap.size) := Lib.hid (by rw [← hW1]; exact Nat.le_trans HD4.out (by simp))
        have HO5 : Hid (OwnR 2 cxC 34 W1 D u9 A) := Lib.hid (by rw [← hW1]; exact HO4.out.alloc _)
        have HR5 : Hid (RI W1 m r n (fO cs) (fun y => left y && !decide (y = x)) cnt4) := Lib.hid (HR4.out.below (by rw [← hW1]; exact (Below.refl _ _).alloc (Nat.le_refl _) _))
        have HN5 : Hid (SlR 2 cxC W1 (.slice (some ⟨w4.heap.size, 0, none⟩) 1 1) [c]) := Lib.hid (by
          have := SlR.one cxC_len (e := 34) (fr := (0, 0)) w4 _ rfl _ c (show #[Value.int .i64 c.node, .int .i64 x] = _ from by rw [← hct])
          rw [← hW1]; exact this)
        clear hfx hc hct hok hlx hrg4 hlt4 hgr4 hsz4
        go_wp2_with (at_builtin; refine appR cxC_len cxC_one Try.underlying30 rfl (by decide) info_cx rfl _ _ rfl D _ _ rfl HO5.out (.slice (some ⟨w4.heap.size, 0, none⟩) 1 1) [c] rfl HN5.out (by have := HAL.out; simp only [List.length_singleton]; unfold maxLen; omega) (by have := HAL.out; simp only [List.length_singleton]; omega) HD5.out ?_; intro v6 w6 own6 hb6; have HO6 := Lib.hid (And.intro (Nat.le_trans HD5.out hb6.size) own6); have HB6 := Lib.hid (HB5.out.trans (hb6.mono HMR.out.2.2)); have HR6 := Lib.hid (HR5.out.block (hb6.block _ HMR.out.1) (hb6.block _ HMR.out.2.1)); clear own6 hb6)
        go_roundw
        case rel => exact ⟨_, cnt4, _, HR6, HO6, HA4, HB6⟩
        case measure =>
          have h1 := HR6.out.left_eq
          have h2 := HRG.out.left_eq
          have h3 := HLT.out
          rw [h1, h2]; omega
  · have hne : (ee != 0) = true := by simpa using he
    have HNE := Lib.hid he
    clear he HTT
    go_wp2_with fail
    go_ret2
    exact ⟨_, _, _, _, rfl, HJ.out, OwnR.nil _ _ _, HB.out, fun _ => rfl, fun q => absurd q HNE.out⟩
end Jj
end Go.Proofs.Yteihopgnpiajoaa
