/- The document's own Decode of a command hands back what package cmd's does. No condition. -/
import Derived.Test.YtlpoljknohiihaaCmdZd
import Derived.Test.YtlpoljknohiihaaCmdKJ
import Derived.BigRegion
namespace Go.Proofs.Ytlpoljknohiihaa
open Go.ChangeShapes Go.WideShapes Go.ChangeAt Go.RowKit
set_option linter.unusedVariables false
namespace Cm
theorem only_below {g : Nat} {a w w' : World} (h : Only (· = g) w w') (hb : Below a.heap.size a w) (hg : a.heap.size ≤ g) : Below a.heap.size a w' := Only.below h hb hb.size fun k hk => by omega
set_option maxHeartbeats 4000000 in
theorem rdec_any (v : Value) (zs : List Int) (w : World) (hs : Sl .u8 w v zs) : Calls Try.prog 17 #[v] w (Dec zs w) := by
  obtain ⟨a, cap, rfl, -⟩ := id hs
  have hb0 : Below w.heap.size w ((w.alloc (.cells (cArr zeroC (.slice none 0 0)) 25)).alloc (.cells (rA (.slice a zs.length cap) 0 0) 62)) := ((Below.refl _ _).alloc (Nat.le_refl _) _).alloc (by simp) _
  have hr0 : ((w.alloc (.cells (cArr zeroC (.slice none 0 0)) 25)).alloc (.cells (rA (.slice a zs.length cap) 0 0) 62)).heap[w.heap.size]? = some (.cells (cArr zeroC (.slice none 0 0)) 25 (0, 0)) := heap_alloc2_old _ _ _
  have hg0 : RB (w.heap.size + 1) (.slice a zs.length cap) 0 0 ((w.alloc (.cells (cArr zeroC (.slice none 0 0)) 25)).alloc (.cells (rA (.slice a zs.length cap) 0 0) 62)) := heap_alloc2_new _ _ _
  have hz0 : ((w.alloc (.cells (cArr zeroC (.slice none 0 0)) 25)).alloc (.cells (rA (.slice a zs.length cap) 0 0) 62)).heap.size = w.heap.size + 2 := by simp
  have HC := Lib.hid (rcmd_any (w.heap.size + 1) (.slice a zs.length cap) zs _ hg0 (fun w' ho' => hs.below (only_below ho' hb0 (by omega)) (Nat.le_refl _)))
  have HB0 := Lib.hid hb0
  have HR0 := Lib.hid hr0
  have HZ0 := Lib.hid hz0
  have HK := Lib.hid (decL_K (zs := zs))
  clear hb0 hr0 hg0 hz0 hs
  go_enter Try.func17, Try.ntmps17
  go_wp2_with fail
  refine HC.out.mono ?_
  rintro E w1 ⟨c, a3, q3, r3', u, e, rfl, hg1, he, hok, ho1⟩
  have hB1 : Below w.heap.size w w1 := only_below ho1 HB0.out (by omega)
  have hR1 := (ho1.2.2.2.2 w.heap.size (by have := HZ0.out; omega) (by omega)).trans HR0.out
  have hz1 : w.heap.size + 2 ≤ w1.heap.size := by have := ho1.2.2.2.1; have := HZ0.out; omega
  have hB2 : Below w.heap.size w (w1.alloc (.cells (cArr c (.slice a3 q3 r3')) 25)) := hB1.alloc hB1.size _
  have hR2 := (heap_alloc_old w1 (.cells (cArr c (.slice a3 q3 r3')) 25) (Array.getElem?_eq_some_iff.1 hR1).1).trans hR1
  have hg2 : RB (w.heap.size + 1) (.slice a zs.length cap) u e (w1.alloc (.cells (cArr c (.slice a3 q3 r3')) 25)) := (heap_alloc_old _ _ (by omega)).trans hg1
  have hh2 : (w1.alloc (.cells (cArr c (.slice a3 q3 r3')) 25)).heap[w1.heap.size]? = some (.cells (cArr c (.slice a3 q3 r3')) 25 (0, 0)) := heap_alloc_new _ _
  have hc2 := hg2.c2
  have HOK := Lib.hid hok
  have HE := Lib.hid he
  have HB2 := Lib.hid hB2
  have HR2 := Lib.hid hR2
  have HG2 := Lib.hid hg2
  have HH2 := Lib.hid hh2
  have hzs : w.heap.size < w1.heap.size := by omega
  clear hok he hB2 hR2 hg2 hh2 hB1 hR1 hg1 ho1
  cases hee : (e == 0) with
  | false =>
    have hne : (e != 0) = true := by rw [bne, hee]; rfl
    have HD : Hid (decL zs = (zeroC, 0, e)) := Lib.hid (by rw [HK.out, HE.out, hee]; simp only [Bool.false_eq_true, if_false])
    have hBd := Lib.hid HB2.out
    have hRw := HR2.out
    clear hee
    go_wp2_with fail
    generalize w1.alloc (.cells (cArr c (.slice a3 q3 r3')) 25) = w2 at *
    have r0 := cell_of_row w2 w.heap.size 0 _ _ _ hRw
    have z0 := frozen_of_row w2 w.heap.size 0 _ _ hRw
    have r1 := cell_of_row w2 w.heap.size 1 _ _ _ hRw
    have z1 := frozen_of_row w2 w.heap.size 1 _ _ hRw
    have r2 := cell_of_row w2 w.heap.size 2 _ _ _ hRw
    have z2 := frozen_of_row w2 w.heap.size 2 _ _ hRw
    have r3 := cell_of_row w2 w.heap.size 3 _ _ _ hRw
    have z3 := frozen_of_row w2 w.heap.size 3 _ _ hRw
    have r4 := cell_of_row w2 w.heap.size 4 _ _ _ hRw
    have z4 := frozen_of_row w2 w.heap.size 4 _ _ hRw
    have r5 := cell_of_row w2 w.heap.size 5 _ _ _ hRw
    have z5 := frozen_of_row w2 w.heap.size 5 _ _ hRw
    have r6 := cell_of_row w2 w.heap.size 6 _ _ _ hRw
    have z6 := frozen_of_row w2 w.heap.size 6 _ _ hRw
    have r7 := cell_of_row w2 w.heap.size 7 _ _ _ hRw
    have z7 := frozen_of_row w2 w.heap.size 7 _ _ hRw
    simp only [cArr, zeroC, List.getElem?_toArray, List.getElem?_cons_zero, List.getElem?_cons_succ] at r0 r1 r2 r3 r4 r5 r6 r7
    clear hRw
    go_wp2
    go_region
    go_wp2
    have hrow := row8 (.int .i64 0) (.int .i64 0) (.int .i64 0) (.slice none 0 0) (.int .u64 0) (.int .u64 0) (.int .u64 0) (.int .u64 0) HR2.out
    have hpast := past8 w2 w2.heap.size w.heap.size (.int .i64 0) (.int .i64 0) (.int .i64 0) (.slice none 0 0) (.int .u64 0) (.int .u64 0) (.int .u64 0) (.int .u64 0)
    revert hrow hpast
    generalize ((((((((w2.setCell ⟨w.heap.size, 0, none⟩ (.int .i64 0)).setCell ⟨w.heap.size, 1, none⟩ (.int .i64 0)).setCell ⟨w.heap.size, 2, none⟩ (.int .i64 0)).setCell ⟨w.heap.size, 3, none⟩ (.slice none 0 0)).setCell ⟨w.heap.size, 4, none⟩ (.int .u64 0)).setCell ⟨w.heap.size, 5, none⟩ (.int .u64 0)).setCell ⟨w.heap.size, 6, none⟩ (.int .u64 0)).setCell ⟨w.heap.size, 7, none⟩ (.int .u64 0)).drew = wf
    intro hrow hpast
    have honly : Only (fun j => j = w.heap.size) w2 wf := hpast
    have hBf : Below w.heap.size w wf := Only.below honly HB2.out HB2.out.size fun j hj => by omega
    refine bodyPost_ret (v := .tuple #[.agg (cArr zeroC (.slice none 0 0)), .int .i64 0, .int .i64 e]) (results_cell3 rfl _ _ w.heap.size 25 _ (0, 0) _ rfl hrow Try.underlying25 rfl (by kernel_rfl) rfl rfl) rfl ?_
    exact dec_zero HD.out hBf
  | true =>
    have he0 : e = 0 := by simpa using hee
    subst he0
    obtain ⟨hrd, hsl, hwf, hown1⟩ := HOK.out rfl
    rw [HZ0.out] at hown1
    have HOWN := Lib.hid (OwnK.alloc hown1 (.cells (cArr c (.slice a3 q3 r3')) 25))
    clear hown1
    have hic : IsCmd (w1.alloc (.cells (cArr c (.slice a3 q3 r3')) 25)) (.agg (cArr c (.slice a3 q3 r3'))) c := ⟨_, rfl, hsl.below ((Below.refl _ _).alloc (Nat.le_refl _) _) (Nat.le_refl _), hwf⟩
    have HIC := Lib.hid hic
    have HRD := Lib.hid hrd
    have hre := rchk_eq hwf
    have hh := HH2.out
    clear hee hrd hsl hic
    cases hck : chkC c with
    | false =>
      have HD : Hid (decL zs = (zeroC, 0, 40)) := Lib.hid (by rw [HK.out, HRD.out]; simp only [beq_self_eq_true, if_true, hck, Bool.false_eq_true, if_false])
      have HCE : Hid (cErr (rchk c) = 40) := Lib.hid (by rw [hre, hck]; rfl)
      clear hre hck
      go_wp2_with (refine wpList_load_row rfl 25 (.tmp 6) rfl w1.heap.size rfl 25 (cArr c (.slice a3 q3 r3')) (0, 0) _ hh Try.underlying25 rfl (by kernel_rfl) ?_)
      refine (rcheck_any c _ _ HIC.out).mono ?_
      rintro E w5 ⟨rfl, hb5⟩
      rw [HCE.out]
      have hr5 := (hb5.block w.heap.size (by simp; omega)).trans HR2.out
      have hB5 : Below w.heap.size w w5 := HB2.out.trans (hb5.mono HB2.out.size)
      go_wp2_with (refine wpList_store_row rfl 25 (.tmp 2) (.tmp 27) rfl w.heap.size (cArr zeroC (.slice none 0 0)) rfl rfl 25 _ hr5 (by kernel_rfl) rfl (cArr_one _ _ _ _) ?_)
      refine bodyPost_ret (v := .tuple #[.agg (cArr zeroC (.slice none 0 0)), .int .i64 0, .int .i64 40]) (results_cell3 rfl _ _ w.heap.size 25 _ (0, 0) _ rfl (set_row hr5) Try.underlying25 rfl (by kernel_rfl) rfl rfl) rfl ?_
      exact dec_zero HD.out (below_row hB5 (Nat.le_refl _) _)
    | true =>
      have HD : Hid (decL zs = (c, u, 0)) := Lib.hid (by rw [HK.out, HRD.out]; simp only [beq_self_eq_true, if_true, hck])
      have HCE : Hid (cErr (rchk c) = 0) := Lib.hid (by rw [hre, hck]; rfl)
      clear hre hck
      go_wp2_with (refine wpList_load_row rfl 25 (.tmp 6) rfl w1.heap.size rfl 25 (cArr c (.slice a3 q3 r3')) (0, 0) _ hh Try.underlying25 rfl (by kernel_rfl) ?_)
      refine (rcheck_any c _ _ HIC.out).mono ?_
      rintro E w5 ⟨rfl, hb5⟩
      rw [HCE.out]
      have hr5 := (hb5.block w.heap.size (by simp; omega)).trans HR2.out
      have hg5 : RB (w.heap.size + 1) (.slice a zs.length cap) u 0 w5 := (hb5.block (w.heap.size + 1) (by simp; omega)).trans HG2.out
      have hh5 := (hb5.block w1.heap.size (by simp)).trans HH2.out
      have hB5 : Below w.heap.size w w5 := HB2.out.trans (hb5.mono HB2.out.size)
      have HOWN5 : Hid (OwnI w5 (w.heap.size + 2) (.slice a3 q3 r3') c.nodes) := Lib.hid (OwnK.below HOWN.out hb5 (Nat.le_refl _))
      have HSWF := Lib.hid (show ∀ n ∈ c.nodes, (Lit.int .i64 n).wf = true by obtain ⟨vn, hv, hs', _⟩ := HIC.out; exact hs'.wf)
      have HCWF := Lib.hid hwf
      have d0 := cell_of_row w5 w1.heap.size 0 _ _ _ hh5
      have d1 := cell_of_row w5 w1.heap.size 1 _ _ _ hh5
      have d2 := cell_of_row w5 w1.heap.size 2 _ _ _ hh5
      have d3 := cell_of_row w5 w1.heap.size 3 _ _ _ hh5
      have d4 := cell_of_row w5 w1.heap.size 4 _ _ _ hh5
      have d5 := cell_of_row w5 w1.heap.size 5 _ _ _ hh5
      have d6 := cell_of_row w5 w1.heap.size 6 _ _ _ hh5
      have d7 := cell_of_row w5 w1.heap.size 7 _ _ _ hh5
      have r0 := cell_of_row w5 w.heap.size 0 _ _ _ hr5
      have z0 := frozen_of_row w5 w.heap.size 0 _ _ hr5
      have r1 := cell_of_row w5 w.heap.size 1 _ _ _ hr5
      have z1 := frozen_of_row w5 w.heap.size 1 _ _ hr5
      have r2 := cell_of_row w5 w.heap.size 2 _ _ _ hr5
      have z2 := frozen_of_row w5 w.heap.size 2 _ _ hr5
      have r3 := cell_of_row w5 w.heap.size 3 _ _ _ hr5
      have z3 := frozen_of_row w5 w.heap.size 3 _ _ hr5
      have r4 := cell_of_row w5 w.heap.size 4 _ _ _ hr5
      have z4 := frozen_of_row w5 w.heap.size 4 _ _ hr5
      have r5 := cell_of_row w5 w.heap.size 5 _ _ _ hr5
      have z5 := frozen_of_row w5 w.heap.size 5 _ _ hr5
      have r6 := cell_of_row w5 w.heap.size 6 _ _ _ hr5
      have z6 := frozen_of_row w5 w.heap.size 6 _ _ hr5
      have r7 := cell_of_row w5 w.heap.size 7 _ _ _ hr5
      have z7 := frozen_of_row w5 w.heap.size 7 _ _ hr5
      have e1 := hg5.c1
      simp only [cArr, zeroC, List.getElem?_toArray, List.getElem?_cons_zero, List.getElem?_cons_succ] at d0 d1 d2 d3 d4 d5 d6 d7 r0 r1 r2 r3 r4 r5 r6 r7
      have HR5 := Lib.hid hr5
      clear hr5 hg5 hh5 hb5 hh hc2
      go_wp2_with fail
      go_region
      go_wp2
      have hrow := row8 (.int .i64 c.kind) (.int .i64 c.node) (.int .i64 c.token) (.slice a3 q3 r3') (.int .u64 c.boot) (.int .u64 c.seq) (.int .u64 c.serial) (.int .u64 c.stamp) HR5.out
      have hpast := past8 w5 w5.heap.size w.heap.size (.int .i64 c.kind) (.int .i64 c.node) (.int .i64 c.token) (.slice a3 q3 r3') (.int .u64 c.boot) (.int .u64 c.seq) (.int .u64 c.serial) (.int .u64 c.stamp)
      revert hrow hpast
      generalize ((((((((w5.setCell ⟨w.heap.size, 0, none⟩ (.int .i64 c.kind)).setCell ⟨w.heap.size, 1, none⟩ (.int .i64 c.node)).setCell ⟨w.heap.size, 2, none⟩ (.int .i64 c.token)).setCell ⟨w.heap.size, 3, none⟩ (.slice a3 q3 r3')).setCell ⟨w.heap.size, 4, none⟩ (.int .u64 c.boot)).setCell ⟨w.heap.size, 5, none⟩ (.int .u64 c.seq)).setCell ⟨w.heap.size, 6, none⟩ (.int .u64 c.serial)).setCell ⟨w.heap.size, 7, none⟩ (.int .u64 c.stamp)).drew = wf
      intro hrow hpast
      have honly : Only (fun j => j = w.heap.size) w5 wf := hpast
      have hBf : Below w.heap.size w wf := Only.below honly hB5 hB5.size fun j hj => by omega
      have hVf : OwnI wf (w.heap.size + 2) (.slice a3 q3 r3') c.nodes := OwnK.past HOWN5.out hpast (Nat.le_refl _) (fun g hg => by omega)
      refine bodyPost_ret (v := .tuple #[.agg (cArr c (.slice a3 q3 r3')), .int .i64 u, .int .i64 0]) (results_cell3 rfl _ _ w.heap.size 25 _ (0, 0) _ rfl hrow Try.underlying25 rfl (by kernel_rfl) rfl rfl) rfl ?_
      exact dec_some HD.out (OwnK.sl hVf HSWF.out) HCWF.out hBf
end Cm
end Go.Proofs.Ytlpoljknohiihaa
