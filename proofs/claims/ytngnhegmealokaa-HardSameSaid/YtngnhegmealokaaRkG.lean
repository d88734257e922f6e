/- The reader of hard: entry, shot. No condition. -/
import Derived.Test.YtngnhegmealokaaRkD
import Derived.Test.YtngnhegmealokaaEdZ
import Derived.Deep.MidRow
namespace Go.Proofs.Ytngnhegmealokaa
open Go.ChangeShapes Go.WideShapes Go.ChangeAt Go.RowKit Go.Deep
set_option linter.unusedVariables false
set_option maxRecDepth 100000
namespace Rk
open Cm Sc Nm Rc Hd Nv Sh
theorem only_fin {w W w5 WZ : World} {g p : Nat} (h1 : Below w.heap.size w W) (h2 : Only (· = g) W w5) (h3 : Only (· = p) w5 WZ) (hp : w.heap.size ≤ p) : Only (· = g) w WZ :=
  ⟨h3.1.trans (h2.1.trans h1.os), h3.2.1.trans (h2.2.1.trans h1.tape), h3.2.2.1.trans (h2.2.2.1.trans h1.output), Nat.le_trans h1.size (Nat.le_trans h2.2.2.2.1 h3.2.2.2.1), fun k hk hn =>
    (h3.2.2.2.2 k (Nat.lt_of_lt_of_le hk (Nat.le_trans h1.size h2.2.2.2.1)) (by omega)).trans ((h2.2.2.2.2 k (Nat.lt_of_lt_of_le hk h1.size) hn).trans (h1.block k hk))⟩
theorem entS_err {st : Pst} (h : (st.2 == 0) = false) : entS st = (zEntV, st) := by unfold entS; rw [if_neg (by rw [h]; simp)]
theorem entS_ok {zs : List Int} {x : Ent} {k : Nat} {e : Int} (h : entD zs = (x, k, e)) : entS (zs, 0) = (x, (zs.drop k, e)) := by unfold entS; simp only [h, beq_self_eq_true, if_true]
def EntHE (w0 : World) (g : Nat) (r : Ent × Pst) (w : World) (e : Ending) (w' : World) : Prop := ∃ vn, e = .returned (.agg (entC (r.1, vn)).toArray) ∧ OwnI w' w.heap.size vn r.1.cmd.nodes ∧ EntW r.1 ∧ RdH w0 g r.2 w' ∧ Only (· = g) w w'
def PicE (w0 : World) (g : Nat) (r : Sho × Pst) (w : World) (e : Ending) (w' : World) : Prop := ∃ vn vh vl, e = .returned (.agg (sArr r.1 vn vh vl)) ∧ OwnI w' w.heap.size vn r.1.nodes ∧ OwnR 5 heldC 72 w' w.heap.size vh r.1.led.held ∧ OwnR 6 lastC 76 w' w.heap.size vl r.1.led.last ∧ ShoW r.1 ∧ RdH w0 g r.2 w' ∧ Only (· = g) w w'
set_option maxHeartbeats 3000000 in
theorem entry_any (w0 : World) (g : Nat) (st : Pst) (w : World) (hr : RdH w0 g st w) (hb : Below w0.heap.size w0 w) : Calls Try.prog 46 #[.pointer (some ⟨g, 0, none⟩)] w (EntHE w0 g (entS st) w) := by
  obtain ⟨zs, e0⟩ := st
  obtain ⟨a, cap, h1, h2⟩ := id hr
  dsimp only at h1 h2
  have hg := hr.lt
  obtain ⟨W0, hW0⟩ : ∃ q, w.alloc (.cells zEA 27) = q := ⟨_, rfl⟩
  have hb0 : Below w.heap.size w W0 := by rw [← hW0]; exact (Below.refl _ _).alloc (Nat.le_refl _) _
  have HQ0 : Hid (W0.heap[w.heap.size]? = some (.cells zEA 27 (0, 0))) := Lib.hid (by rw [← hW0]; exact heap_alloc_new _ _)
  have HB0 := Lib.hid hb0
  have HG := Lib.hid hg
  have HR0 : Hid (RdH w0 g (zs, e0) W0) := Lib.hid (hr.block (hb0.block g hg))
  have HSW : Hid (Sl .u8 W0 (.slice a zs.length cap) zs) := Lib.hid (h2.below (hb.trans (hb0.mono hb.size)) (Nat.le_refl _))
  have HWB : Hid (WfB zs) := Lib.hid h2.wf
  have hrow := (hb0.block g hg).trans h1
  have c0 : W0.cell? ⟨g, 0, none⟩ = some (.slice a zs.length cap) := (cell_of_row W0 g 0 _ _ _ hrow).trans rfl
  have c1 : W0.cell? ⟨g, 1, none⟩ = some (.int .i64 e0) := (cell_of_row W0 g 1 _ _ _ hrow).trans rfl
  clear hr h1 h2 hrow hb hb0 hg
  cases he : (e0 == 0) with
  | false =>
    have HE := Lib.hid (entS_err (st := (zs, e0)) he)
    have hne : (e0 != 0) = true := by rw [bne, he]; rfl
    obtain ⟨WZ, hWZ⟩ : ∃ q, W0.setRow w.heap.size zEA = q := ⟨_, rfl⟩
    have HQZ : Hid (WZ.heap[w.heap.size]? = some (.cells zEA 27 (0, 0))) := Lib.hid (by rw [← hWZ]; exact setRow_heap _ _ _ _ _ _ HQ0.out)
    have HFIN : Hid (EntHE w0 g (entS (zs, e0)) w (.returned (.agg zEA)) WZ) := Lib.hid (by
      rw [HE.out]
      have hx : Only (· = w.heap.size) W0 WZ := by rw [← hWZ]; exact only_row _ _ _
      have hG := HG.out
      exact ⟨.slice none 0 0, rfl, OwnK.nil _ _ _ _, zEntV_w, HR0.out.only hx (by omega), only_fin HB0.out (Only.refl _ _) hx (Nat.le_refl _)⟩)
    clear he
    go_enter Try.func46, Try.ntmps46
    go_wp2_with (first | (with_reducible refine wpList_store_row rfl 27 (.tmp 2) (.tmp 11) rfl w.heap.size zEA rfl rfl 27 _ HQ0.out (by kernel_rfl) rfl zEA_one ?_; rw [hWZ]; clear hWZ) | fail)
    exact bodyPost_ret (v := .agg zEA) (results_cell_row rfl _ _ w.heap.size 27 _ (0, 0) _ rfl HQZ.out Try.underlying27 rfl (by kernel_rfl)) rfl HFIN.out
  | true =>
    obtain rfl : e0 = 0 := by simpa using he
    clear he
    go_enter Try.func46, Try.ntmps46
    go_wp2_with fail
    refine (entdec_any zs _ _ HSW.out).mono ?_
    rintro e w3 ⟨vn, rfl, own3, hw3, hb3⟩
    rcases hd : entD zs with ⟨x, k, ec⟩
    rw [hd] at own3 hw3
    dsimp only at own3 hw3 ⊢
    have HE := Lib.hid (entS_ok hd)
    have hk : k ≤ zs.length := by have := entD_bd HWB.out; rw [hd] at this; exact this
    obtain ⟨an, m3, cn, rfl⟩ := own_formx own3
    have HW3 := Lib.hid hw3
    have hsC : (w3.alloc (.cells zEA 27)).heap[w3.heap.size]? = some (.cells zEA 27 (0, 0)) := heap_alloc_new _ _
    obtain ⟨W4, hW4⟩ : ∃ q, (w3.alloc (.cells zEA 27)).setRow w3.heap.size (entC (x, .slice an m3 cn)).toArray = q := ⟨_, rfl⟩
    have hb4 : Below w3.heap.size w3 W4 := by rw [← hW4]; exact Ld.below_row ((Below.refl _ _).alloc (Nat.le_refl _) _) (Nat.le_refl _) _
    have HX4 : Hid (W4.heap[w3.heap.size]? = some (.cells (entC (x, .slice an m3 cn)).toArray 27 (0, 0))) := Lib.hid (by rw [← hW4]; exact setRow_heap _ _ _ _ _ _ hsC)
    have hb04 : Below W0.heap.size W0 W4 := hb3.trans (hb4.mono hb3.size)
    have HB4 := Lib.hid (HB0.out.trans (hb04.mono HB0.out.size))
    have HQ4 := Lib.hid ((hb04.block _ (row_lt HQ0.out)).trans HQ0.out)
    have HR4 := Lib.hid (HR0.out.block (hb04.block g HR0.out.lt))
    have HO4 : Hid (OwnI W4 w.heap.size (.slice an m3 cn) x.cmd.nodes) := Lib.hid (own_lowerx HB0.out.size (own_belowx hb4 own3))
    have HT := Lib.hid (take_any w0 g zs 0 ec k W4 HR4.out hk)
    have HGW : Hid (g < w3.heap.size) := Lib.hid (Nat.lt_of_lt_of_le HR0.out.lt hb3.size)
    clear hb3 hb4 hb04 hd own3 hw3 c0 c1
    go_wp2_with (first | (with_reducible refine wpList_store_row rfl 27 (.tmp 3) (.tmp 18) rfl w3.heap.size (entC (x, .slice an m3 cn)).toArray rfl rfl 27 _ hsC (by kernel_rfl) rfl (entC_one _ _ _ _) ?_; rw [hW4]; clear hW4 hsC) | fail)
    refine HT.out.mono ?_
    rintro E w5 ⟨rfl, hr5, ho5, hz5⟩
    have hG := HG.out
    have hGW := HGW.out
    have HR5 := Lib.hid hr5
    have HQ5 := Lib.hid ((ho5.2.2.2.2 _ (row_lt HQ4.out) (by omega)).trans HQ4.out)
    have HX5 := Lib.hid ((ho5.2.2.2.2 _ (row_lt HX4.out) (by omega)).trans HX4.out)
    have HO5 : Hid (OwnI w5 w.heap.size (.slice an m3 cn) x.cmd.nodes) := Lib.hid (own_blk HO4.out (own_ge HO4.out hG) (fun q hq hn => ho5.2.2.2.2 q hq hn))
    obtain ⟨WZ, hWZ⟩ : ∃ q, w5.setRow w.heap.size (entC (x, .slice an m3 cn)).toArray = q := ⟨_, rfl⟩
    have HQZ : Hid (WZ.heap[w.heap.size]? = some (.cells (entC (x, .slice an m3 cn)).toArray 27 (0, 0))) := Lib.hid (by rw [← hWZ]; exact setRow_heap _ _ _ _ _ _ HQ5.out)
    have HFIN : Hid (EntHE w0 g (entS (zs, 0)) w (.returned (.agg (entC (x, .slice an m3 cn)).toArray)) WZ) := Lib.hid (by
      rw [HE.out]
      have hx : Only (· = w.heap.size) w5 WZ := by rw [← hWZ]; exact only_row _ _ _
      exact ⟨_, rfl, own_blk HO5.out (own_ty HO5.out HQ5.out (by decide)) (fun q hq hn => hx.2.2.2.2 q hq hn), HW3.out, HR5.out.only hx (by omega), only_fin HB4.out ho5 hx (Nat.le_refl _)⟩)
    clear hr5 ho5 hz5 hG hGW
    go_wp2_with (first
      | (with_reducible refine wpList_load_row rfl 27 (.tmp 3) rfl w3.heap.size rfl 27 (entC (x, .slice an m3 cn)).toArray (0, 0) _ HX5.out Try.underlying27 rfl (by kernel_rfl) ?_)
      | (with_reducible refine wpList_store_row rfl 27 (.tmp 2) (.tmp 25) rfl w.heap.size (entC (x, .slice an m3 cn)).toArray rfl rfl 27 _ HQ5.out (by kernel_rfl) rfl (entC_one _ _ _ _) ?_; rw [hWZ]; clear hWZ))
    exact bodyPost_ret (v := .agg (entC (x, .slice an m3 cn)).toArray) (results_cell_row rfl _ _ w.heap.size 27 _ (0, 0) _ rfl HQZ.out Try.underlying27 rfl (by kernel_rfl)) rfl HFIN.out
set_option maxHeartbeats 3000000 in
theorem shot_any (w0 : World) (g : Nat) (zs : List Int) (w : World) (hr : RdH w0 g (zs, 0) w) (hb : Below w0.heap.size w0 w) : Calls Try.prog 47 #[.pointer (some ⟨g, 0, none⟩)] w (PicE w0 g (picS (zs, 0)) w) := by
  obtain ⟨a, cap, h1, h2⟩ := id hr
  dsimp only at h1 h2
  have hg := hr.lt
  obtain ⟨W0, hW0⟩ : ∃ q, w.alloc (.cells zSA 33) = q := ⟨_, rfl⟩
  have hb0 : Below w.heap.size w W0 := by rw [← hW0]; exact (Below.refl _ _).alloc (Nat.le_refl _) _
  have HQ0 : Hid (W0.heap[w.heap.size]? = some (.cells zSA 33 (0, 0))) := Lib.hid (by rw [← hW0]; exact heap_alloc_new _ _)
  have HB0 := Lib.hid hb0
  have HG := Lib.hid hg
  have HR0 : Hid (RdH w0 g (zs, 0) W0) := Lib.hid (hr.block (hb0.block g hg))
  have HSW : Hid (Sl .u8 W0 (.slice a zs.length cap) zs) := Lib.hid (h2.below (hb.trans (hb0.mono hb.size)) (Nat.le_refl _))
  have HWB : Hid (WfB zs) := Lib.hid h2.wf
  have hrow := (hb0.block g hg).trans h1
  have c0 : W0.cell? ⟨g, 0, none⟩ = some (.slice a zs.length cap) := (cell_of_row W0 g 0 _ _ _ hrow).trans rfl
  have c1 : W0.cell? ⟨g, 1, none⟩ = some (.int .i64 0) := (cell_of_row W0 g 1 _ _ _ hrow).trans rfl
  clear hr h1 h2 hrow hb hb0 hg
  go_enter Try.func47, Try.ntmps47
  go_wp2_with fail
  refine (dec_any zs _ _ HSW.out).mono ?_
  rintro e w3 ⟨s, z, vn, vh, vl, rfl, hd, o1, o2, o3, hw3, hb3⟩
  obtain ⟨d1, m1, q1, rfl⟩ := own_formx o1
  obtain ⟨d2, m2, q2, rfl⟩ := own_formx o2
  obtain ⟨d3, m3, q3, rfl⟩ := own_formx o3
  have HD := Lib.hid hd
  have HW3 := Lib.hid hw3
  have hsC : (w3.alloc (.cells zSA 33)).heap[w3.heap.size]? = some (.cells zSA 33 (0, 0)) := heap_alloc_new _ _
  obtain ⟨W4, hW4⟩ : ∃ q, (w3.alloc (.cells zSA 33)).setRow w3.heap.size (sArr s (.slice d1 m1 q1) (.slice d2 m2 q2) (.slice d3 m3 q3)) = q := ⟨_, rfl⟩
  have hb4 : Below w3.heap.size w3 W4 := by rw [← hW4]; exact Ld.below_row ((Below.refl _ _).alloc (Nat.le_refl _) _) (Nat.le_refl _) _
  have HX4 : Hid (W4.heap[w3.heap.size]? = some (.cells (sArr s (.slice d1 m1 q1) (.slice d2 m2 q2) (.slice d3 m3 q3)) 33 (0, 0))) := Lib.hid (by rw [← hW4]; exact setRow_heap _ _ _ _ _ _ hsC)
  have hb04 : Below W0.heap.size W0 W4 := hb3.trans (hb4.mono hb3.size)
  have HB4 := Lib.hid (HB0.out.trans (hb04.mono HB0.out.size))
  have HQ4 := Lib.hid ((hb04.block _ (row_lt HQ0.out)).trans HQ0.out)
  have HR4 := Lib.hid (HR0.out.block (hb04.block g HR0.out.lt))
  have HO4 : Hid (OwnI W4 w.heap.size (.slice d1 m1 q1) s.nodes ∧ OwnR 5 heldC 72 W4 w.heap.size (.slice d2 m2 q2) s.led.held ∧ OwnR 6 lastC 76 W4 w.heap.size (.slice d3 m3 q3) s.led.last) := Lib.hid ⟨own_lowerx HB0.out.size (own_belowx hb4 o1), own_lowerx HB0.out.size (own_belowx hb4 o2), own_lowerx HB0.out.size (own_belowx hb4 o3)⟩
  have HGW : Hid (g < w3.heap.size) := Lib.hid (Nat.lt_of_lt_of_le HR0.out.lt hb3.size)
  obtain ⟨ax, cx, hrow4, -⟩ := id HR4.out
  dsimp only at hrow4
  have e0 : W4.cell? ⟨g, 0, none⟩ = some (.slice ax zs.length cx) := (cell_of_row W4 g 0 _ _ _ hrow4).trans rfl
  clear hb3 hb4 hb04 hd hw3 c0 c1 o1 o2 o3 hrow4
  by_cases h60 : z = 60
  · subst h60
    have HE : Hid (picS (zs, 0) = (s, ([], 0))) := Lib.hid (by unfold picS; simp only [HD.out]; rfl)
    have HT := Lib.hid (take_any w0 g zs 0 0 zs.length W4 HR4.out (Nat.le_refl _))
    go_wp2_with (first | (with_reducible refine wpList_store_row rfl 33 (.tmp 3) (.tmp 11) rfl w3.heap.size (sArr s (.slice d1 m1 q1) (.slice d2 m2 q2) (.slice d3 m3 q3)) rfl rfl 33 _ hsC (by kernel_rfl) rfl (sArr_one _ _ _ _ _ _ _ _ _ _) ?_; rw [hW4]; clear hW4 hsC) | fail)
    refine HT.out.mono ?_
    rintro E w5 ⟨rfl, hr5, ho5, hz5⟩
    rw [List.drop_length] at hr5
    have hG := HG.out
    have hGW := HGW.out
    have HR5 := Lib.hid hr5
    have HQ5 := Lib.hid ((ho5.2.2.2.2 _ (row_lt HQ4.out) (by omega)).trans HQ4.out)
    have HX5 := Lib.hid ((ho5.2.2.2.2 _ (row_lt HX4.out) (by omega)).trans HX4.out)
    obtain ⟨o1, o2, o3⟩ := HO4.out
    have hbq : ∀ q, q < W4.heap.size → q ≠ g → w5.heap[q]? = W4.heap[q]? := fun q hq hn => ho5.2.2.2.2 q hq hn
    have HO5 : Hid (OwnI w5 w.heap.size (.slice d1 m1 q1) s.nodes ∧ OwnR 5 heldC 72 w5 w.heap.size (.slice d2 m2 q2) s.led.held ∧ OwnR 6 lastC 76 w5 w.heap.size (.slice d3 m3 q3) s.led.last) := Lib.hid ⟨own_blk o1 (own_ge o1 hG) hbq, own_blk o2 (own_ge o2 hG) hbq, own_blk o3 (own_ge o3 hG) hbq⟩
    obtain ⟨WZ, hWZ⟩ : ∃ q, w5.setRow w.heap.size (sArr s (.slice d1 m1 q1) (.slice d2 m2 q2) (.slice d3 m3 q3)) = q := ⟨_, rfl⟩
    have HQZ : Hid (WZ.heap[w.heap.size]? = some (.cells (sArr s (.slice d1 m1 q1) (.slice d2 m2 q2) (.slice d3 m3 q3)) 33 (0, 0))) := Lib.hid (by rw [← hWZ]; exact setRow_heap _ _ _ _ _ _ HQ5.out)
    have HFIN : Hid (PicE w0 g (picS (zs, 0)) w (.returned (.agg (sArr s (.slice d1 m1 q1) (.slice d2 m2 q2) (.slice d3 m3 q3)))) WZ) := Lib.hid (by
      rw [HE.out]
      have hx : Only (· = w.heap.size) w5 WZ := by rw [← hWZ]; exact only_row _ _ _
      have hbz : ∀ q, q < w5.heap.size → q ≠ w.heap.size → WZ.heap[q]? = w5.heap[q]? := fun q hq hn => hx.2.2.2.2 q hq hn
      obtain ⟨o1, o2, o3⟩ := HO5.out
      exact ⟨_, _, _, rfl, own_blk o1 (own_ty o1 HQ5.out (by decide)) hbz, own_blk o2 (own_ty o2 HQ5.out (by decide)) hbz, own_blk o3 (own_ty o3 HQ5.out (by decide)) hbz, HW3.out, HR5.out.only hx (by omega), only_fin HB4.out ho5 hx (Nat.le_refl _)⟩)
    clear hr5 ho5 hz5 hG hGW o1 o2 o3 hbq e0
    go_wp2_with (first
      | (with_reducible refine wpList_load_row rfl 33 (.tmp 3) rfl w3.heap.size rfl 33 (sArr s (.slice d1 m1 q1) (.slice d2 m2 q2) (.slice d3 m3 q3)) (0, 0) _ HX5.out Try.underlying33 rfl (by kernel_rfl) ?_)
      | (with_reducible refine wpList_store_row rfl 33 (.tmp 2) (.tmp 23) rfl w.heap.size (sArr s (.slice d1 m1 q1) (.slice d2 m2 q2) (.slice d3 m3 q3)) rfl rfl 33 _ HQ5.out (by kernel_rfl) rfl (sArr_one _ _ _ _ _ _ _ _ _ _) ?_; rw [hWZ]; clear hWZ))
    exact bodyPost_ret (v := .agg (sArr s (.slice d1 m1 q1) (.slice d2 m2 q2) (.slice d3 m3 q3))) (results_cell_row rfl _ _ w.heap.size 33 _ (0, 0) _ rfl HQZ.out Try.underlying33 rfl (by kernel_rfl)) rfl HFIN.out
  · have n60 : (z == 60) = false := beq_eq_false_iff_ne.2 h60
    have HE : Hid (picS (zs, 0) = (s, ([], z))) := Lib.hid (by unfold picS; simp only [HD.out]; rw [if_neg (by rw [n60]; simp)])
    have HT := Lib.hid (take_any w0 g zs 0 z zs.length W4 HR4.out (Nat.le_refl _))
    go_wp2_with (first | (with_reducible refine wpList_store_row rfl 33 (.tmp 3) (.tmp 11) rfl w3.heap.size (sArr s (.slice d1 m1 q1) (.slice d2 m2 q2) (.slice d3 m3 q3)) rfl rfl 33 _ hsC (by kernel_rfl) rfl (sArr_one _ _ _ _ _ _ _ _ _ _) ?_; rw [hW4]; clear hW4 hsC) | fail)
    refine HT.out.mono ?_
    rintro E w5 ⟨rfl, hr5, ho5, hz5⟩
    rw [List.drop_length] at hr5
    have hG := HG.out
    have hGW := HGW.out
    have HR5 := Lib.hid hr5
    have HQ5 := Lib.hid ((ho5.2.2.2.2 _ (row_lt HQ4.out) (by omega)).trans HQ4.out)
    have HX5 := Lib.hid ((ho5.2.2.2.2 _ (row_lt HX4.out) (by omega)).trans HX4.out)
    obtain ⟨o1, o2, o3⟩ := HO4.out
    have hbq : ∀ q, q < W4.heap.size → q ≠ g → w5.heap[q]? = W4.heap[q]? := fun q hq hn => ho5.2.2.2.2 q hq hn
    have HO5 : Hid (OwnI w5 w.heap.size (.slice d1 m1 q1) s.nodes ∧ OwnR 5 heldC 72 w5 w.heap.size (.slice d2 m2 q2) s.led.held ∧ OwnR 6 lastC 76 w5 w.heap.size (.slice d3 m3 q3) s.led.last) := Lib.hid ⟨own_blk o1 (own_ge o1 hG) hbq, own_blk o2 (own_ge o2 hG) hbq, own_blk o3 (own_ge o3 hG) hbq⟩
    obtain ⟨WZ, hWZ⟩ : ∃ q, w5.setRow w.heap.size (sArr s (.slice d1 m1 q1) (.slice d2 m2 q2) (.slice d3 m3 q3)) = q := ⟨_, rfl⟩
    have HQZ : Hid (WZ.heap[w.heap.size]? = some (.cells (sArr s (.slice d1 m1 q1) (.slice d2 m2 q2) (.slice d3 m3 q3)) 33 (0, 0))) := Lib.hid (by rw [← hWZ]; exact setRow_heap _ _ _ _ _ _ HQ5.out)
    have HFIN : Hid (PicE w0 g (picS (zs, 0)) w (.returned (.agg (sArr s (.slice d1 m1 q1) (.slice d2 m2 q2) (.slice d3 m3 q3)))) WZ) := Lib.hid (by
      rw [HE.out]
      have hx : Only (· = w.heap.size) w5 WZ := by rw [← hWZ]; exact only_row _ _ _
      have hbz : ∀ q, q < w5.heap.size → q ≠ w.heap.size → WZ.heap[q]? = w5.heap[q]? := fun q hq hn => hx.2.2.2.2 q hq hn
      obtain ⟨o1, o2, o3⟩ := HO5.out
      exact ⟨_, _, _, rfl, own_blk o1 (own_ty o1 HQ5.out (by decide)) hbz, own_blk o2 (own_ty o2 HQ5.out (by decide)) hbz, own_blk o3 (own_ty o3 HQ5.out (by decide)) hbz, HW3.out, HR5.out.only hx (by omega), only_fin HB4.out ho5 hx (Nat.le_refl _)⟩)
    clear hr5 ho5 hz5 hG hGW o1 o2 o3 hbq e0
    go_wp2_with (first
      | (with_reducible refine wpList_load_row rfl 33 (.tmp 3) rfl w3.heap.size rfl 33 (sArr s (.slice d1 m1 q1) (.slice d2 m2 q2) (.slice d3 m3 q3)) (0, 0) _ HX5.out Try.underlying33 rfl (by kernel_rfl) ?_)
      | (with_reducible refine wpList_store_row rfl 33 (.tmp 2) (.tmp 23) rfl w.heap.size (sArr s (.slice d1 m1 q1) (.slice d2 m2 q2) (.slice d3 m3 q3)) rfl rfl 33 _ HQ5.out (by kernel_rfl) rfl (sArr_one _ _ _ _ _ _ _ _ _ _) ?_; rw [hWZ]; clear hWZ))
    exact bodyPost_ret (v := .agg (sArr s (.slice d1 m1 q1) (.slice d2 m2 q2) (.slice d3 m3 q3))) (results_cell_row rfl _ _ w.heap.size 33 _ (0, 0) _ rfl HQZ.out Try.underlying33 rfl (by kernel_rfl)) rfl HFIN.out
end Rk
end Go.Proofs.Ytngnhegmealokaa
