/- The reader of hard: entry, shot. No condition. The reader of hard: rec. No condition. hard.Decode. No condition. -/
import Derived.Test.YtngnhegmealokaaRkX
import Derived.Test.YtngnhegmealokaaEdZ
import Derived.Deep.MidRow
import Derived.Test.YtngnhegmealokaaCeB
namespace Go.Proofs.Ytngnhegmealokaa
open Go.ChangeShapes Go.WideShapes Go.ChangeAt Go.RowKit Go.Deep
set_option linter.unusedVariables false
set_option maxRecDepth 100000
namespace Rk
open Cm Sc Nm Rc Hd Nv Sh
theorem only_fin {w W w5 WZ : World} {g p : Nat} (h1 : Below w.heap.size w W) (h2 : Only (· = g) W w5) (h3 : Only (· = p) w5 WZ) (hp : w.heap.size ≤ p) : Only (· = g) w WZ :=
  ⟨h3.1.trans (h2.1.trans h1.os), h3.2.1.trans (h2.2.1.trans h1.tape), h3.2.2.1.trans (h2.2.2.1.trans h1.output), Nat.le_trans h1.size (Nat.le_trans h2.2.2.2.1 h3.2.2.2.1), fun k hk hn =>
    (h3.2.2.2.2 k (Nat.lt_of_lt_of_le hk (Nat.le_trans h1.size h2.2.2.2.1)) (by omega)).trans ((h2.2.2.2.2 k (Nat.lt_of_lt_of_le hk h1.size) hn).trans (h1.block k hk))⟩
theorem entS_err {st : Pst} (h : (st.2 == 0) = false) : entS st = (zEntV, st) := by unfold entS; rw [if_neg (by rw [h]; simp)]
theorem entS_ok {zs : List Int} {x : Ent} {k : Nat} {e : Int} (h : entD zs = (x, k, e)) : entS (zs, 0) = (x, (zs.drop k, e)) := by unfold entS; simp only [h, beq_self_eq_true, if_true]
def EntHE (w0 : World) (g : Nat) (r : Ent × Pst) (w : World) (e : Ending) (w' : World) : Prop := ∃ vn, e = .returned (.agg (entC (r.1, vn)).toArray) ∧ OwnI w' w.heap.size vn r.1.cmd.nodes ∧ EntW r.1 ∧ RdH w0 g r.2 w' ∧ Only (· = g) w w'
def PicE (w0 : World) (g : Nat) (r : Sho × Pst) (w : World) (e : Ending) (w' : World) : Prop := ∃ vn vh vl, e = .returned (.agg (sArr r.1 vn vh vl)) ∧ OwnI w' w.heap.size vn r.1.nodes ∧ OwnR 5 heldC 72 w' w.heap.size vh r.1.led.held ∧ OwnR 6 lastC 76 w' w.heap.size vl r.1.led.last ∧ ShoW r.1 ∧ RdH w0 g r.2 w' ∧ Only (· = g) w w'
set_option maxHeartbeats 3000000 in
theorem entry_any (w0 : World) (g : Nat) (st : Pst) (w : World) (hr : RdH w0 g st w) (hb : Below w0.heap.size w0 w) : Calls Try.prog 46 #[.pointer (some ⟨g, 0, none⟩)] w (EntHE w0 g (entS st) w) := by
  obtain ⟨zs, e0⟩ := st
  obtain ⟨a, cap, h1, h2⟩ := id hr
  dsimp only at h1 h2
  have hg := hr.lt
  obtain ⟨W0, hW0⟩ : ∃ q, w.alloc (.cells zEA 27) = q := ⟨_, rfl⟩
  have hb0 : Below w.heap.size w W0 := by rw [← hW0]; exact (Below.refl _ _).alloc (Nat.le_refl _) _
  have HQ0 : Hid (W0.heap[w.heap.size]? = some (.cells zEA 27 (0, 0))) := Lib.hid (by rw [← hW0]; exact heap_alloc_new _ _)
  have HB0 := Lib.hid hb0
  have HG := Lib.hid hg
  have HR0 : Hid (RdH w0 g (zs, e0) W0) := Lib.hid (hr.block (hb0.block g hg))
  have HSW : Hid (Sl .u8 W0 (.slice a zs.length cap) zs) := Lib.hid (h2.below (hb.trans (hb0.mono hb.size)) (Nat.le_refl _))
  have HWB : Hid (WfB zs) := Lib.hid h2.wf
  have hrow := (hb0.block g hg).trans h1
  have c0 : W0.cell? ⟨g, 0, none⟩ = some (.slice a zs.length cap) := (cell_of_row W0 g 0 _ _ _ hrow).trans rfl
  have c1 : W0.cell? ⟨g, 1, none⟩ = some (.int .i64 e0) := (cell_of_row W0 g 1 _ _ _ hrow).trans rfl
  clear hr h1 h2 hrow hb hb0 hg
  cases he : (e0 == 0) with
  | false =>
    have HE := Lib.hid (entS_err (st := (zs, e0)) he)
    have hne : (e0 != 0) = true := by rw [bne, he]; rfl
    obtain ⟨WZ, hWZ⟩ : ∃ q, W0.setRow w.heap.size zEA = q := ⟨_, rfl⟩
    have HQZ : Hid (WZ.heap[w.heap.size]? = some (.cells zEA 27 (0, 0))) := Lib.hid (by rw [← hWZ]; exact setRow_heap _ _ _ _ _ _ HQ0.out)
    have HFIN : Hid (EntHE w0 g (entS (zs, e0)) w (.returned (.agg zEA)) WZ) := Lib.hid (by
      rw [HE.out]
      have hx : Only (· = w.heap.size) W0 WZ := by rw [← hWZ]; exact only_row _ _ _
      have hG := HG.out
      exact ⟨.slice none 0 0, rfl, OwnK.nil _ _ _ _, zEntV_w, HR0.out.only hx (by omega), only_fin HB0.out (Only.refl _ _) hx (Nat.le_refl _)⟩)
    clear he
    go_enter Try.func46, Try.ntmps46
    go_wp2_with (first | (with_reducible refine wpList_store_row rfl 27 (.tmp 2) (.tmp 11) rfl w.heap.size zEA rfl rfl 27 _ HQ0.out (by kernel_rfl) rfl zEA_one ?_; rw [hWZ]; clear hWZ) | fail)
    exact bodyPost_ret (v := .agg zEA) (results_cell_row rfl _ _ w.heap.size 27 _ (0, 0) _ rfl HQZ.out Try.underlying27 rfl (by kernel_rfl)) rfl HFIN.out
  | true =>
    obtain rfl : e0 = 0 := by simpa using he
    clear he
    go_enter Try.func46, Try.ntmps46
    go_wp2_with fail
    refine (entdec_any zs _ _ HSW.out).mono ?_
    rintro e w3 ⟨vn, rfl, own3, hw3, hb3⟩
    rcases hd : entD zs with ⟨x, k, ec⟩
    rw [hd] at own3 hw3
    dsimp only at own3 hw3 ⊢
    have HE := Lib.hid (entS_ok hd)
    have hk : k ≤ zs.length := by have := entD_bd HWB.out; rw [hd] at this; exact this
    obtain ⟨an, m3, cn, rfl⟩ := own_formx own3
    have HW3 := Lib.hid hw3
    have hsC : (w3.alloc (.cells zEA 27)).heap[w3.heap.size]? = some (.cells zEA 27 (0, 0)) := heap_alloc_new _ _
    obtain ⟨W4, hW4⟩ : ∃ q, (w3.alloc (.cells zEA 27)).setRow w3.heap.size (entC (x, .slice an m3 cn)).toArray = q := ⟨_, rfl⟩
    have hb4 : Below w3.heap.size w3 W4 := by rw [← hW4]; exact Ld.below_row ((Below.refl _ _).alloc (Nat.le_refl _) _) (Nat.le_refl _) _
    have HX4 : Hid (W4.heap[w3.heap.size]? = some (.cells (entC (x, .slice an m3 cn)).toArray 27 (0, 0))) := Lib.hid (by rw [← hW4]; exact setRow_heap _ _ _ _ _ _ hsC)
    have hb04 : Below W0.heap.size W0 W4 := hb3.trans (hb4.mono hb3.size)
    have HB4 := Lib.hid (HB0.out.trans (hb04.mono HB0.out.size))
    have HQ4 := Lib.hid ((hb04.block _ (row_lt HQ0.out)).trans HQ0.out)
    have HR4 := Lib.hid (HR0.out.block (hb04.block g HR0.out.lt))
    have HO4 : Hid (OwnI W4 w.heap.size (.slice an m3 cn) x.cmd.nodes) := Lib.hid (own_lowerx HB0.out.size (own_belowx hb4 own3))
    have HT := Lib.hid (take_any w0 g zs 0 ec k W4 HR4.out hk)
    have HGW : Hid (g < w3.heap.size) := Lib.hid (Nat.lt_of_lt_of_le HR0.out.lt hb3.size)
    clear hb3 hb4 hb04 hd own3 hw3 c0 c1
    go_wp2_with (first | (with_reducible refine wpList_store_row rfl 27 (.tmp 3) (.tmp 18) rfl w3.heap.size (entC (x, .slice an m3 cn)).toArray rfl rfl 27 _ hsC (by kernel_rfl) rfl (entC_one _ _ _ _) ?_; rw [hW4]; clear hW4 hsC) | fail)
    refine HT.out.mono ?_
    rintro E w5 ⟨rfl, hr5, ho5, hz5⟩
    have hG := HG.out
    have hGW := HGW.out
    have HR5 := Lib.hid hr5
    have HQ5 := Lib.hid ((ho5.2.2.2.2 _ (row_lt HQ4.out) (by omega)).trans HQ4.out)
    have HX5 := Lib.hid ((ho5.2.2.2.2 _ (row_lt HX4.out) (by omega)).trans HX4.out)
    have HO5 : Hid (OwnI w5 w.heap.size (.slice an m3 cn) x.cmd.nodes) := Lib.hid (own_blk HO4.out (own_ge HO4.out hG) (fun q hq hn => ho5.2.2.2.2 q hq hn))
    obtain ⟨WZ, hWZ⟩ : ∃ q, w5.setRow w.heap.size (entC (x, .slice an m3 cn)).toArray = q := ⟨_, rfl⟩
    have HQZ : Hid (WZ.heap[w.heap.size]? = some (.cells (entC (x, .slice an m3 cn)).toArray 27 (0, 0))) := Lib.hid (by rw [← hWZ]; exact setRow_heap _ _ _ _ _ _ HQ5.out)
    have HFIN : Hid (EntHE w0 g (entS (zs, 0)) w (.returned (.agg (entC (x, .slice an m3 cn)).toArray)) WZ) := Lib.hid (by
      rw [HE.out]
      have hx : Only (· = w.heap.size) w5 WZ := by rw [← hWZ]; exact only_row _ _ _
      exact ⟨_, rfl, own_blk HO5.out (own_ty HO5.out HQ5.out (by decide)) (fun q hq hn => hx.2.2.2.2 q hq hn), HW3.out, HR5.out.only hx (by omega), only_fin HB4.out ho5 hx (Nat.le_refl _)⟩)
    clear hr5 ho5 hz5 hG hGW
    go_wp2_with (first
      | (with_reducible refine wpList_load_row rfl 27 (.tmp 3) rfl w3.heap.size rfl 27 (entC (x, .slice an m3 cn)).toArray (0, 0) _ HX5.out Try.underlying27 rfl (by kernel_rfl) ?_)
      | (with_reducible refine wpList_store_row rfl 27 (.tmp 2) (.tmp 25) rfl w.heap.size (entC (x, .slice an m3 cn)).toArray rfl rfl 27 _ HQ5.out (by kernel_rfl) rfl (entC_one _ _ _ _) ?_; rw [hWZ]; clear hWZ))
    exact bodyPost_ret (v := .agg (entC (x, .slice an m3 cn)).toArray) (results_cell_row rfl _ _ w.heap.size 27 _ (0, 0) _ rfl HQZ.out Try.underlying27 rfl (by kernel_rfl)) rfl HFIN.out
set_option maxHeartbeats 3000000 in
theorem shot_any (w0 : World) (g : Nat) (zs : List Int) (w : World) (hr : RdH w0 g (zs, 0) w) (hb : Below w0.heap.size w0 w) : Calls Try.prog 47 #[.pointer (some ⟨g, 0, none⟩)] w (PicE w0 g (picS (zs, 0)) w) := by
  obtain ⟨a, cap, h1, h2⟩ := id hr
  dsimp only at h1 h2
  have hg := hr.lt
  obtain ⟨W0, hW0⟩ : ∃ q, w.alloc (.cells zSA 33) = q := ⟨_, rfl⟩
  have hb0 : Below w.heap.size w W0 := by rw [← hW0]; exact (Below.refl _ _).alloc (Nat.le_refl _) _
  have HQ0 : Hid (W0.heap[w.heap.size]? = some (.cells zSA 33 (0, 0))) := Lib.hid (by rw [← hW0]; exact heap_alloc_new _ _)
  have HB0 := Lib.hid hb0
  have HG := Lib.hid hg
  have HR0 : Hid (RdH w0 g (zs, 0) W0) := Lib.hid (hr.block (hb0.block g hg))
  have HSW : Hid (Sl .u8 W0 (.slice a zs.length cap) zs) := Lib.hid (h2.below (hb.trans (hb0.mono hb.size)) (Nat.le_refl _))
  have HWB : Hid (WfB zs) := Lib.hid h2.wf
  have hrow := (hb0.block g hg).trans h1
  have c0 : W0.cell? ⟨g, 0, none⟩ = some (.slice a zs.length cap) := (cell_of_row W0 g 0 _ _ _ hrow).trans rfl
  have c1 : W0.cell? ⟨g, 1, none⟩ = some (.int .i64 0) := (cell_of_row W0 g 1 _ _ _ hrow).trans rfl
  clear hr h1 h2 hrow hb hb0 hg
  go_enter Try.func47, Try.ntmps47
  go_wp2_with fail
  refine (dec_any zs _ _ HSW.out).mono ?_
  rintro e w3 ⟨s, z, vn, vh, vl, rfl, hd, o1, o2, o3, hw3, hb3⟩
  obtain ⟨d1, m1, q1, rfl⟩ := own_formx o1
  obtain ⟨d2, m2, q2, rfl⟩ := own_formx o2
  obtain ⟨d3, m3, q3, rfl⟩ := own_formx o3
  have HD := Lib.hid hd
  have HW3 := Lib.hid hw3
  have hsC : (w3.alloc (.cells zSA 33)).heap[w3.heap.size]? = some (.cells zSA 33 (0, 0)) := heap_alloc_new _ _
  obtain ⟨W4, hW4⟩ : ∃ q, (w3.alloc (.cells zSA 33)).setRow w3.heap.size (sArr s (.slice d1 m1 q1) (.slice d2 m2 q2) (.slice d3 m3 q3)) = q := ⟨_, rfl⟩
  have hb4 : Below w3.heap.size w3 W4 := by rw [← hW4]; exact Ld.below_row ((Below.refl _ _).alloc (Nat.le_refl _) _) (Nat.le_refl _) _
  have HX4 : Hid (W4.heap[w3.heap.size]? = some (.cells (sArr s (.slice d1 m1 q1) (.slice d2 m2 q2) (.slice d3 m3 q3)) 33 (0, 0))) := Lib.hid (by rw [← hW4]; exact setRow_heap _ _ _ _ _ _ hsC)
  have hb04 : Below W0.heap.size W0 W4 := hb3.trans (hb4.mono hb3.size)
  have HB4 := Lib.hid (HB0.out.trans (hb04.mono HB0.out.size))
  have HQ4 := Lib.hid ((hb04.block _ (row_lt HQ0.out)).trans HQ0.out)
  have HR4 := Lib.hid (HR0.out.block (hb04.block g HR0.out.lt))
  have HO4 : Hid (OwnI W4 w.heap.size (.slice d1 m1 q1) s.nodes ∧ OwnR 5 heldC 72 W4 w.heap.size (.slice d2 m2 q2) s.led.held ∧ OwnR 6 lastC 76 W4 w.heap.size (.slice d3 m3 q3) s.led.last) := Lib.hid ⟨own_lowerx HB0.out.size (own_belowx hb4 o1), own_lowerx HB0.out.size (own_belowx hb4 o2), own_lowerx HB0.out.size (own_belowx hb4 o3)⟩
  have HGW : Hid (g < w3.heap.size) := Lib.hid (Nat.lt_of_lt_of_le HR0.out.lt hb3.size)
  obtain ⟨ax, cx, hrow4, -⟩ := id HR4.out
  dsimp only at hrow4
  have e0 : W4.cell? ⟨g, 0, none⟩ = some (.slice ax zs.length cx) := (cell_of_row W4 g 0 _ _ _ hrow4).trans rfl
  clear hb3 hb4 hb04 hd hw3 c0 c1 o1 o2 o3 hrow4
  by_cases h60 : z = 60
  · subst h60
    have HE : Hid (picS (zs, 0) = (s, ([], 0))) := Lib.hid (by unfold picS; simp only [HD.out]; rfl)
    have HT := Lib.hid (take_any w0 g zs 0 0 zs.length W4 HR4.out (Nat.le_refl _))
    go_wp2_with (first | (with_reducible refine wpList_store_row rfl 33 (.tmp 3) (.tmp 11) rfl w3.heap.size (sArr s (.slice d1 m1 q1) (.slice d2 m2 q2) (.slice d3 m3 q3)) rfl rfl 33 _ hsC (by kernel_rfl) rfl (sArr_one _ _ _ _ _ _ _ _ _ _) ?_; rw [hW4]; clear hW4 hsC) | fail)
    refine HT.out.mono ?_
    rintro E w5 ⟨rfl, hr5, ho5, hz5⟩
    rw [List.drop_length] at hr5
    have hG := HG.out
    have hGW := HGW.out
    have HR5 := Lib.hid hr5
    have HQ5 := Lib.hid ((ho5.2.2.2.2 _ (row_lt HQ4.out) (by omega)).trans HQ4.out)
    have HX5 := Lib.hid ((ho5.2.2.2.2 _ (row_lt HX4.out) (by omega)).trans HX4.out)
    obtain ⟨o1, o2, o3⟩ := HO4.out
    have hbq : ∀ q, q < W4.heap.size → q ≠ g → w5.heap[q]? = W4.heap[q]? := fun q hq hn => ho5.2.2.2.2 q hq hn
    have HO5 : Hid (OwnI w5 w.heap.size (.slice d1 m1 q1) s.nodes ∧ OwnR 5 heldC 72 w5 w.heap.size (.slice d2 m2 q2) s.led.held ∧ OwnR 6 lastC 76 w5 w.heap.size (.slice d3 m3 q3) s.led.last) := Lib.hid ⟨own_blk o1 (own_ge o1 hG) hbq, own_blk o2 (own_ge o2 hG) hbq, own_blk o3 (own_ge o3 hG) hbq⟩
    obtain ⟨WZ, hWZ⟩ : ∃ q, w5.setRow w.heap.size (sArr s (.slice d1 m1 q1) (.slice d2 m2 q2) (.slice d3 m3 q3)) = q := ⟨_, rfl⟩
    have HQZ : Hid (WZ.heap[w.heap.size]? = some (.cells (sArr s (.slice d1 m1 q1) (.slice d2 m2 q2) (.slice d3 m3 q3)) 33 (0, 0))) := Lib.hid (by rw [← hWZ]; exact setRow_heap _ _ _ _ _ _ HQ5.out)
    have HFIN : Hid (PicE w0 g (picS (zs, 0)) w (.returned (.agg (sArr s (.slice d1 m1 q1) (.slice d2 m2 q2) (.slice d3 m3 q3)))) WZ) := Lib.hid (by
      rw [HE.out]
      have hx : Only (· = w.heap.size) w5 WZ := by rw [← hWZ]; exact only_row _ _ _
      have hbz : ∀ q, q < w5.heap.size → q ≠ w.heap.size → WZ.heap[q]? = w5.heap[q]? := fun q hq hn => hx.2.2.2.2 q hq hn
      obtain ⟨o1, o2, o3⟩ := HO5.out
      exact ⟨_, _, _, rfl, own_blk o1 (own_ty o1 HQ5.out (by decide)) hbz, own_blk o2 (own_ty o2 HQ5.out (by decide)) hbz, own_blk o3 (own_ty o3 HQ5.out (by decide)) hbz, HW3.out, HR5.out.only hx (by omega), only_fin HB4.out ho5 hx (Nat.le_refl _)⟩)
    clear hr5 ho5 hz5 hG hGW o1 o2 o3 hbq e0
    go_wp2_with (first
      | (with_reducible refine wpList_load_row rfl 33 (.tmp 3) rfl w3.heap.size rfl 33 (sArr s (.slice d1 m1 q1) (.slice d2 m2 q2) (.slice d3 m3 q3)) (0, 0) _ HX5.out Try.underlying33 rfl (by kernel_rfl) ?_)
      | (with_reducible refine wpList_store_row rfl 33 (.tmp 2) (.tmp 23) rfl w.heap.size (sArr s (.slice d1 m1 q1) (.slice d2 m2 q2) (.slice d3 m3 q3)) rfl rfl 33 _ HQ5.out (by kernel_rfl) rfl (sArr_one _ _ _ _ _ _ _ _ _ _) ?_; rw [hWZ]; clear hWZ))
    exact bodyPost_ret (v := .agg (sArr s (.slice d1 m1 q1) (.slice d2 m2 q2) (.slice d3 m3 q3))) (results_cell_row rfl _ _ w.heap.size 33 _ (0, 0) _ rfl HQZ.out Try.underlying33 rfl (by kernel_rfl)) rfl HFIN.out
  · have n60 : (z == 60) = false := beq_eq_false_iff_ne.2 h60
    have HE : Hid (picS (zs, 0) = (s, ([], z))) := Lib.hid (by unfold picS; simp only [HD.out]; rw [if_neg (by rw [n60]; simp)])
    have HT := Lib.hid (take_any w0 g zs 0 z zs.length W4 HR4.out (Nat.le_refl _))
    go_wp2_with (first | (with_reducible refine wpList_store_row rfl 33 (.tmp 3) (.tmp 11) rfl w3.heap.size (sArr s (.slice d1 m1 q1) (.slice d2 m2 q2) (.slice d3 m3 q3)) rfl rfl 33 _ hsC (by kernel_rfl) rfl (sArr_one _ _ _ _ _ _ _ _ _ _) ?_; rw [hW4]; clear hW4 hsC) | fail)
    refine HT.out.mono ?_
    rintro E w5 ⟨rfl, hr5, ho5, hz5⟩
    rw [List.drop_length] at hr5
    have hG := HG.out
    have hGW := HGW.out
    have HR5 := Lib.hid hr5
    have HQ5 := Lib.hid ((ho5.2.2.2.2 _ (row_lt HQ4.out) (by omega)).trans HQ4.out)
    have HX5 := Lib.hid ((ho5.2.2.2.2 _ (row_lt HX4.out) (by omega)).trans HX4.out)
    obtain ⟨o1, o2, o3⟩ := HO4.out
    have hbq : ∀ q, q < W4.heap.size → q ≠ g → w5.heap[q]? = W4.heap[q]? := fun q hq hn => ho5.2.2.2.2 q hq hn
    have HO5 : Hid (OwnI w5 w.heap.size (.slice d1 m1 q1) s.nodes ∧ OwnR 5 heldC 72 w5 w.heap.size (.slice d2 m2 q2) s.led.held ∧ OwnR 6 lastC 76 w5 w.heap.size (.slice d3 m3 q3) s.led.last) := Lib.hid ⟨own_blk o1 (own_ge o1 hG) hbq, own_blk o2 (own_ge o2 hG) hbq, own_blk o3 (own_ge o3 hG) hbq⟩
    obtain ⟨WZ, hWZ⟩ : ∃ q, w5.setRow w.heap.size (sArr s (.slice d1 m1 q1) (.slice d2 m2 q2) (.slice d3 m3 q3)) = q := ⟨_, rfl⟩
    have HQZ : Hid (WZ.heap[w.heap.size]? = some (.cells (sArr s (.slice d1 m1 q1) (.slice d2 m2 q2) (.slice d3 m3 q3)) 33 (0, 0))) := Lib.hid (by rw [← hWZ]; exact setRow_heap _ _ _ _ _ _ HQ5.out)
    have HFIN : Hid (PicE w0 g (picS (zs, 0)) w (.returned (.agg (sArr s (.slice d1 m1 q1) (.slice d2 m2 q2) (.slice d3 m3 q3)))) WZ) := Lib.hid (by
      rw [HE.out]
      have hx : Only (· = w.heap.size) w5 WZ := by rw [← hWZ]; exact only_row _ _ _
      have hbz : ∀ q, q < w5.heap.size → q ≠ w.heap.size → WZ.heap[q]? = w5.heap[q]? := fun q hq hn => hx.2.2.2.2 q hq hn
      obtain ⟨o1, o2, o3⟩ := HO5.out
      exact ⟨_, _, _, rfl, own_blk o1 (own_ty o1 HQ5.out (by decide)) hbz, own_blk o2 (own_ty o2 HQ5.out (by decide)) hbz, own_blk o3 (own_ty o3 HQ5.out (by decide)) hbz, HW3.out, HR5.out.only hx (by omega), only_fin HB4.out ho5 hx (Nat.le_refl _)⟩)
    clear hr5 ho5 hz5 hG hGW o1 o2 o3 hbq e0
    go_wp2_with (first
      | (with_reducible refine wpList_load_row rfl 33 (.tmp 3) rfl w3.heap.size rfl 33 (sArr s (.slice d1 m1 q1) (.slice d2 m2 q2) (.slice d3 m3 q3)) (0, 0) _ HX5.out Try.underlying33 rfl (by kernel_rfl) ?_)
      | (with_reducible refine wpList_store_row rfl 33 (.tmp 2) (.tmp 23) rfl w.heap.size (sArr s (.slice d1 m1 q1) (.slice d2 m2 q2) (.slice d3 m3 q3)) rfl rfl 33 _ HQ5.out (by kernel_rfl) rfl (sArr_one _ _ _ _ _ _ _ _ _ _) ?_; rw [hWZ]; clear hWZ))
    exact bodyPost_ret (v := .agg (sArr s (.slice d1 m1 q1) (.slice d2 m2 q2) (.slice d3 m3 q3))) (results_cell_row rfl _ _ w.heap.size 33 _ (0, 0) _ rfl HQZ.out Try.underlying33 rfl (by kernel_rfl)) rfl HFIN.out
end Rk
end Go.Proofs.Ytngnhegmealokaa
namespace Go.Proofs.Ytngnhegmealokaa
open Go.ChangeShapes Go.WideShapes Go.ChangeAt Go.RowKit Go.Deep
set_option linter.unusedVariables false
set_option maxRecDepth 100000
namespace Rk
open Cm Sc Nm Rc Hd Nv Sh
/-- the lists of a record are the call's own -/
def RecO (w : World) (B : Nat) (r : RecR) (vc vn vh vl : Value) : Prop := OwnI w B vc r.ent.cmd.nodes ∧ OwnI w B vn r.shot.nodes ∧ OwnR 5 heldC 72 w B vh r.shot.led.held ∧ OwnR 6 lastC 76 w B vl r.shot.led.last
def RecW (r : RecR) : Prop := r.wf ∧ (∀ n ∈ r.ent.cmd.nodes, (Lit.int .i64 n).wf = true) ∧ ∀ n ∈ r.shot.nodes, (Lit.int .i64 n).wf = true
theorem RecO.row {w w' : World} {B p : Nat} {r : RecR} {vc vn vh vl : Value} {cs : Array Value} {fr : Nat × Nat} (h : RecO w B r vc vn vh vl) (hq : w.heap[p]? = some (.cells cs 35 fr)) (hx : Only (· = p) w w') : RecO w' B r vc vn vh vl := by
  obtain ⟨h1, h2, h3, h4⟩ := h
  have hb : ∀ q, q < w.heap.size → q ≠ p → w'.heap[q]? = w.heap[q]? := fun q hq hn => hx.2.2.2.2 q hq hn
  exact ⟨own_blk h1 (own_ty h1 hq (by decide)) hb, own_blk h2 (own_ty h2 hq (by decide)) hb, own_blk h3 (own_ty h3 hq (by decide)) hb, own_blk h4 (own_ty h4 hq (by decide)) hb⟩
theorem RecO.call {w w' : World} {B g : Nat} {r : RecR} {vc vn vh vl : Value} (h : RecO w B r vc vn vh vl) (hg : g < B) (hx : Only (· = g) w w') : RecO w' B r vc vn vh vl := by
  obtain ⟨h1, h2, h3, h4⟩ := h
  have hb : ∀ q, q < w.heap.size → q ≠ g → w'.heap[q]? = w.heap[q]? := fun q hq hn => hx.2.2.2.2 q hq hn
  exact ⟨own_blk h1 (own_ge h1 hg) hb, own_blk h2 (own_ge h2 hg) hb, own_blk h3 (own_ge h3 hg) hb, own_blk h4 (own_ge h4 hg) hb⟩
theorem RecO.is {w : World} {B : Nat} {r : RecR} {vc vn vh vl : Value} (h : RecO w B r vc vn vh vl) (hw : RecW r) : IsRec w (.agg (rArr r vc vn vh vl)) r :=
  ⟨vc, vn, vh, vl, rfl, ⟨h.1.sl hw.2.1, h.2.1.sl hw.2.2, h.2.2.1.sl heldC_len, h.2.2.2.sl lastC_len⟩, hw.1⟩
/-- what is known while a record is read: the box q holds it -/
def RecI (w w0 : World) (g q : Nat) (st : Pst) (r : RecR) (vc vn vh vl : Value) (wr : World) : Prop :=
  wr.heap[w.heap.size]? = some (.cells zR 35 (0, 0)) ∧ wr.heap[q]? = some (.cells (rArr r vc vn vh vl) 35 (0, 0)) ∧ RdH w0 g st wr ∧ Only (· = g) w wr ∧ RecO wr w.heap.size r vc vn vh vl ∧ w.heap.size < q ∧ g < w.heap.size
theorem RecI.call {w w0 wr w' : World} {g q : Nat} {st st' : Pst} {r : RecR} {vc vn vh vl : Value} (h : RecI w w0 g q st r vc vn vh vl wr) (hr : RdH w0 g st' w') (ho : Only (· = g) wr w') : RecI w w0 g q st' r vc vn vh vl w' := by
  obtain ⟨h1, h2, h3, h4, h5, h6, h7⟩ := h
  exact ⟨(ho.2.2.2.2 _ (row_lt h1) (by omega)).trans h1, (ho.2.2.2.2 _ (row_lt h2) (by omega)).trans h2, hr, h4.trans ho, h5.call h7 ho, h6, h7⟩
theorem RecI.put {w w0 wr w' : World} {g q : Nat} {st : Pst} {r r' : RecR} {vc vn vh vl vc' vn' vh' vl' : Value} (h : RecI w w0 g q st r vc vn vh vl wr) (hx : Only (· = q) wr w') (hrow : w'.heap[q]? = some (.cells (rArr r' vc' vn' vh' vl') 35 (0, 0))) (ho : RecO wr w.heap.size r' vc' vn' vh' vl') : RecI w w0 g q st r' vc' vn' vh' vl' w' := by
  obtain ⟨h1, h2, h3, h4, h5, h6, h7⟩ := h
  refine ⟨(hx.2.2.2.2 _ (row_lt h1) (by omega)).trans h1, hrow, h3.only hx (by omega), ?_, ho.row h2 hx, h6, h7⟩
  exact ⟨hx.1.trans h4.1, hx.2.1.trans h4.2.1, hx.2.2.1.trans h4.2.2.1, Nat.le_trans h4.2.2.2.1 hx.2.2.2.1, fun k hk hn => (hx.2.2.2.2 k (Nat.lt_of_lt_of_le hk h4.2.2.2.1) (by omega)).trans (h4.2.2.2.2 k hk hn)⟩
theorem RecI.err {w w0 wr : World} {g q : Nat} {st : Pst} {r : RecR} {vc vn vh vl : Value} (h : RecI w w0 g q st r vc vn vh vl wr) (x : Int) : RecI w w0 g q (st.1, x) r vc vn vh vl (wr.setCell ⟨g, 1, none⟩ (.int .i64 x)) :=
  h.call (h.2.2.1.err x) (Only.setCell _ _ _ rfl)
theorem RecI.below {w w0 wr : World} {g q : Nat} {st : Pst} {r : RecR} {vc vn vh vl : Value} (h : RecI w w0 g q st r vc vn vh vl wr) (hb : Below w0.heap.size w0 w) (hg : w0.heap.size ≤ g) : Below w0.heap.size w0 wr :=
  h.2.2.2.1.below hb hb.size (fun k hk => hk ▸ hg)
def RecHE (w0 : World) (g : Nat) (r : RecR × Pst) (w : World) (e : Ending) (w' : World) : Prop := ∃ vc vn vh vl, e = .returned (.agg (rArr r.1 vc vn vh vl)) ∧ RecO w' w.heap.size r.1 vc vn vh vl ∧ RecW r.1 ∧ RdH w0 g r.2 w' ∧ Only (· = g) w w'
theorem RecI.fin {w w0 wr : World} {g q : Nat} {st : Pst} {r : RecR} {vc vn vh vl : Value} (h : RecI w w0 g q st r vc vn vh vl wr) (hw : RecW r) (cs : Array Value) : RecHE w0 g (r, st) w (.returned (.agg (rArr r vc vn vh vl))) (wr.setRow w.heap.size cs) := by
  obtain ⟨h1, h2, h3, h4, h5, h6, h7⟩ := h
  have hx : Only (· = w.heap.size) wr (wr.setRow w.heap.size cs) := only_row _ _ _
  refine ⟨_, _, _, _, rfl, h5.row h1 hx, hw, h3.only hx (by omega), ?_⟩
  exact ⟨hx.1.trans h4.1, hx.2.1.trans h4.2.1, hx.2.2.1.trans h4.2.2.1, Nat.le_trans h4.2.2.2.1 hx.2.2.2.1, fun k hk hn => (hx.2.2.2.2 k (Nat.lt_of_lt_of_le hk h4.2.2.2.1) (by omega)).trans (h4.2.2.2.2 k hk hn)⟩
theorem ent_putx {w : World} {g : Nat} {r : RecR} {vc vn vh vl : Value} (x : Ent) (vx : Value) (h : w.heap[g]? = some (.cells (rArr r vc vn vh vl) 35 (0, 0))) : (w.setCells g 5 (entC (x, vx))).heap[g]? = some (.cells (rArr { r with ent := x } vx vn vh vl) 35 (0, 0)) := by
  rw [heap_setCells g _ _ h]
  simp [setsA]
theorem shot_putx {w : World} {g : Nat} {r : RecR} {vc vn vh vl : Value} (s : Sho) (un uh ul : Value) (h : w.heap[g]? = some (.cells (rArr r vc vn vh vl) 35 (0, 0))) : (w.setCells g 14 (sArr s un uh ul).toList).heap[g]? = some (.cells (rArr { r with shot := s } vc un uh ul) 35 (0, 0)) := by
  rw [heap_setCells g _ _ h]
  simp [setsA]
theorem setCells_only (q : Nat) : ∀ (vs : List Value) (o : Nat) (w : World), Only (· = q) w (w.setCells q o vs)
  | [], _, _ => Only.refl _ _
  | v :: r, o, w => (Only.setCell (S := (· = q)) w ⟨q, o, none⟩ v rfl).trans (setCells_only q r (o + 1) _)
theorem zi : (Lit.int .i64 0).wf = true := by decide
theorem zu : (Lit.int .u64 0).wf = true := by decide
theorem ki1 : (Lit.int .i64 1).wf = true := by decide
theorem ki2 : (Lit.int .i64 2).wf = true := by decide
theorem ki3 : (Lit.int .i64 3).wf = true := by decide
theorem ki4 : (Lit.int .i64 4).wf = true := by decide
theorem ki5 : (Lit.int .i64 5).wf = true := by decide
theorem zW (k : Int) (hk : (Lit.int .i64 k).wf = true) : RecW { zRecV with kind := k } := ⟨⟨hk, zi, zu, zu, zu, zEnt_wf, zSho_wf⟩, by simp [zRecV, zEntV], by simp [zRecV, zShoV]⟩
theorem wideH {w0 w : World} {g : Nat} {st s1 : Pst} {n : Int} (h : wideS st = (n, s1)) (hr : RdH w0 g st w) (hb : Below w0.heap.size w0 w) : Calls Try.prog 44 #[.pointer (some ⟨g, 0, none⟩)] w (NumH w0 g (n, s1) (.int .u64 n) w) := by
  have c := wide_any w0 g st w hr hb
  rw [h] at c
  exact c
theorem smallH {w0 w : World} {g : Nat} {st s1 : Pst} {n : Int} (h : smallS st = (n, s1)) (hr : RdH w0 g st w) (hb : Below w0.heap.size w0 w) : Calls Try.prog 45 #[.pointer (some ⟨g, 0, none⟩), .int .u64 65535] w (NumH w0 g (n, s1) (.int .u64 n) w) := by
  have c := number_any w0 g st 65535 w hr hb (by decide)
  rw [show pnum 65535 st = (n, s1) from h] at c
  exact c
theorem entryH {w0 w : World} {g : Nat} {st s1 : Pst} {x : Ent} (h : entS st = (x, s1)) (hr : RdH w0 g st w) (hb : Below w0.heap.size w0 w) : Calls Try.prog 46 #[.pointer (some ⟨g, 0, none⟩)] w (EntHE w0 g (x, s1) w) := by
  have c := entry_any w0 g st w hr hb
  rw [h] at c
  exact c
theorem picH {w0 w : World} {g : Nat} {zs : List Int} {s1 : Pst} {s : Sho} (h : picS (zs, 0) = (s, s1)) (hr : RdH w0 g (zs, 0) w) (hb : Below w0.heap.size w0 w) : Calls Try.prog 47 #[.pointer (some ⟨g, 0, none⟩)] w (PicE w0 g (s, s1) w) := by
  have c := shot_any w0 g zs w hr hb
  rw [h] at c
  exact c
theorem rec_nil : recS (([] : List Int), 0) = ({ zRecV with kind := 0 }, ([], 10)) := rfl
theorem rec_cons (x : Int) (rest : List Int) : recS (x :: rest, 0) = bodyS x (rest, 0) := rfl
theorem body_1 {st s1 : Pst} {n : Int} (h : wideS st = (n, s1)) : bodyS 1 st = ({ zRecV with kind := 1, boot := n }, s1) := by unfold bodyS; rw [if_pos rfl, h]
theorem body_2 {st s1 s2 : Pst} {n m : Int} (h : wideS st = (n, s1)) (h2 : smallS s1 = (m, s2)) : bodyS 2 st = ({ zRecV with kind := 2, term := n, vote := m }, s2) := by unfold bodyS; rw [if_neg (by decide), if_pos rfl, h]; simp only [h2]
theorem body_3 {st s1 s2 : Pst} {n : Int} {x : Ent} (h : wideS st = (n, s1)) (h2 : entS s1 = (x, s2)) : bodyS 3 st = ({ zRecV with kind := 3, index := n, ent := x }, s2) := by unfold bodyS; rw [if_neg (by decide), if_neg (by decide), if_pos rfl, h]; simp only [h2]
theorem body_4 {st s1 : Pst} {n : Int} (h : wideS st = (n, s1)) : bodyS 4 st = ({ zRecV with kind := 4, index := n }, s1) := by unfold bodyS; rw [if_neg (by decide), if_neg (by decide), if_neg (by decide), if_pos rfl, h]
theorem body_5 {st s1 : Pst} {s : Sho} (h : picS st = (s, s1)) : bodyS 5 st = ({ zRecV with kind := 5, shot := s }, s1) := by unfold bodyS; rw [if_neg (by decide), if_neg (by decide), if_neg (by decide), if_neg (by decide), if_pos rfl, h]
theorem body_x {k : Int} {st : Pst} (h1 : k ≠ 1) (h2 : k ≠ 2) (h3 : k ≠ 3) (h4 : k ≠ 4) (h5 : k ≠ 5) : bodyS k st = ({ zRecV with kind := k }, (st.1, 11)) := by unfold bodyS; rw [if_neg h1, if_neg h2, if_neg h3, if_neg h4, if_neg h5]
theorem wideS_wf {st s1 : Pst} {n : Int} (h : wideS st = (n, s1)) : (Lit.int .u64 n).wf = true := by have := wide_wf st; rw [h] at this; exact this
theorem smallS_bd {st s1 : Pst} {n : Int} (h : smallS st = (n, s1)) : 0 ≤ n ∧ n ≤ 65535 := by have := pnum_bd 65535 (by decide) st; rw [show pnum 65535 st = (n, s1) from h] at this; exact this
theorem entS_w {st s1 : Pst} {x : Ent} (h : entS st = (x, s1)) (hx : EntW (entS st).1) : EntW x := by rw [h] at hx; exact hx
set_option maxHeartbeats 6000000 in
theorem rec_any (w0 : World) (g : Nat) (zs : List Int) (w : World) (hr : RdH w0 g (zs, 0) w) (hb : Below w0.heap.size w0 w) (hg0 : w0.heap.size ≤ g) : Calls Try.prog 21 #[.pointer (some ⟨g, 0, none⟩)] w (RecHE w0 g (recS (zs, 0)) w) := by
  have hg := hr.lt
  obtain ⟨W0, hW0⟩ : ∃ q, w.alloc (.cells zR 35) = q := ⟨_, rfl⟩
  have hb0 : Below w.heap.size w W0 := by rw [← hW0]; exact (Below.refl _ _).alloc (Nat.le_refl _) _
  have HQ0 : Hid (W0.heap[w.heap.size]? = some (.cells zR 35 (0, 0))) := Lib.hid (by rw [← hW0]; exact heap_alloc_new _ _)
  have HB0 := Lib.hid hb0
  have HG := Lib.hid hg
  have HG0 := Lib.hid hg0
  have HBW := Lib.hid hb
  have HK := Lib.hid (kind_any w0 g zs W0 (hr.block (hb0.block g hg)) (hb.trans (hb0.mono hb.size)))
  have HWB : Hid (WfB zs) := Lib.hid (by obtain ⟨a, cap, h1, h2⟩ := hr; exact h2.wf)
  clear hb hb0 hg hg0 hr
  go_enter Try.func21, Try.ntmps21
  go_wp2_with fail
  refine HK.out.mono ?_
  rintro E w2 ⟨rfl, hr2, ho2, -⟩
  cases zs with
  | nil =>
    rw [show kindS (([] : List Int), 0) = (0, ([], 10)) from rfl] at hr2 ⊢
    dsimp only at hr2 ⊢
    have hsR : (w2.alloc (.cells zR 35)).heap[w2.heap.size]? = some (.cells zR 35 (0, 0)) := heap_alloc_new _ _
    obtain ⟨W4, hW4⟩ : ∃ y, (w2.alloc (.cells zR 35)).setRow w2.heap.size (rArr ({ zRecV with kind := 0 } : RecR) (.slice none 0 0) (.slice none 0 0) (.slice none 0 0) (.slice none 0 0)) = y := ⟨_, rfl⟩
    have hb4 : Below w2.heap.size w2 W4 := by rw [← hW4]; exact Ld.below_row ((Below.refl _ _).alloc (Nat.le_refl _) _) (Nat.le_refl _) _
    have hz2 : W0.heap.size ≤ w2.heap.size := ho2.2.2.2.1
    have hz0 := row_lt HQ0.out
    have hgl := HG.out
    have HI4 : Hid (RecI w w0 g w2.heap.size ([], 10) { zRecV with kind := 0 } (.slice none 0 0) (.slice none 0 0) (.slice none 0 0) (.slice none 0 0) W4) := Lib.hid ⟨(hb4.block _ (by omega)).trans ((ho2.2.2.2.2 _ hz0 (by omega)).trans HQ0.out), by rw [← hW4]; exact setRow_heap _ _ _ _ _ _ hsR, hr2.block (hb4.block g (by omega)), ((Below.only HB0.out _).trans ho2).trans (Below.only hb4 _), ⟨OwnK.nil _ _ _ _, OwnK.nil _ _ _ _, OwnR.nil _ _ _, OwnR.nil _ _ _⟩, by omega, hgl⟩
    obtain ⟨ax, cx, hrow, -⟩ := id HI4.out.2.2.1
    dsimp only at hrow
    have e1 := (cell_of_row W4 g 1 _ _ _ hrow).trans rfl
    have ef1 : W4.frozen? ⟨g, 1, none⟩ = false := frozen_of_row _ _ 1 _ _ hrow
    have k0 := (cell_of_row W4 _ 0 _ _ _ HI4.out.2.1).trans rfl
    clear hr2 ho2 hb4 hz2 hz0 hgl hrow
    have HE := Lib.hid rec_nil
    obtain ⟨WZ, hWZ⟩ : ∃ y, W4.setRow w.heap.size (rArr ({ zRecV with kind := 0 } : RecR) (.slice none 0 0) (.slice none 0 0) (.slice none 0 0) (.slice none 0 0)) = y := ⟨_, rfl⟩
    have HQZ : Hid (WZ.heap[w.heap.size]? = some (.cells (rArr ({ zRecV with kind := 0 } : RecR) (.slice none 0 0) (.slice none 0 0) (.slice none 0 0) (.slice none 0 0)) 35 (0, 0))) := Lib.hid (by rw [← hWZ]; exact setRow_heap _ _ _ _ _ _ HI4.out.1)
    have HFIN : Hid (RecHE w0 g (recS ([], 0)) w (.returned (.agg (rArr ({ zRecV with kind := 0 } : RecR) (.slice none 0 0) (.slice none 0 0) (.slice none 0 0) (.slice none 0 0)))) WZ) := Lib.hid (by rw [HE.out, ← hWZ]; exact HI4.out.fin (zW 0 (by decide)) _)
    have HL := Lib.hid HI4.out.2.1
    have HQ := Lib.hid HI4.out.1
    go_wp2_with (first
      | (with_reducible refine wpList_store_row rfl 35 (.tmp 3) (.tmp 7) rfl w2.heap.size (rArr ({ zRecV with kind := 0 } : RecR) (.slice none 0 0) (.slice none 0 0) (.slice none 0 0) (.slice none 0 0)) rfl rfl 35 _ hsR (by kernel_rfl) rfl (rArr_one _ _ _ _ _ _ _ _ _ _ _ _ _) ?_; rw [hW4]; clear hW4 hsR)
      | (with_reducible refine wpList_load_row rfl 35 (.tmp 3) rfl w2.heap.size rfl 35 (rArr ({ zRecV with kind := 0 } : RecR) (.slice none 0 0) (.slice none 0 0) (.slice none 0 0) (.slice none 0 0)) (0, 0) _ HL.out Try.underlying35 rfl (by kernel_rfl) ?_)
      | (with_reducible refine wpList_store_row rfl 35 (.tmp 2) (.tmp 13) rfl w.heap.size (rArr ({ zRecV with kind := 0 } : RecR) (.slice none 0 0) (.slice none 0 0) (.slice none 0 0) (.slice none 0 0)) rfl rfl 35 _ HQ.out (by kernel_rfl) rfl (rArr_one _ _ _ _ _ _ _ _ _ _ _ _ _) ?_; rw [hWZ]; clear hWZ))
    exact bodyPost_ret (v := .agg (rArr ({ zRecV with kind := 0 } : RecR) (.slice none 0 0) (.slice none 0 0) (.slice none 0 0) (.slice none 0 0))) (results_cell_row rfl _ _ w.heap.size 35 _ (0, 0) _ rfl HQZ.out Try.underlying35 rfl (by kernel_rfl)) rfl HFIN.out
  | cons x rest =>
    rw [show kindS (x :: rest, 0) = (x, (rest, 0)) from rfl] at hr2 ⊢
    dsimp only at hr2 ⊢
    have HXW : Hid ((Lit.int .i64 x).wf = true) := Lib.hid (by
      have := HWB.out x List.mem_cons_self
      simp [Lit.wf, IntKind.min, IntKind.max, IntKind.signed, IntKind.bits] at this ⊢
      omega)
    have HRC := Lib.hid (rec_cons x rest)
    have hsR : (w2.alloc (.cells zR 35)).heap[w2.heap.size]? = some (.cells zR 35 (0, 0)) := heap_alloc_new _ _
    obtain ⟨W4, hW4⟩ : ∃ y, (w2.alloc (.cells zR 35)).setRow w2.heap.size (rArr ({ zRecV with kind := x } : RecR) (.slice none 0 0) (.slice none 0 0) (.slice none 0 0) (.slice none 0 0)) = y := ⟨_, rfl⟩
    have hb4 : Below w2.heap.size w2 W4 := by rw [← hW4]; exact Ld.below_row ((Below.refl _ _).alloc (Nat.le_refl _) _) (Nat.le_refl _) _
    have hz2 : W0.heap.size ≤ w2.heap.size := ho2.2.2.2.1
    have hz0 := row_lt HQ0.out
    have hgl := HG.out
    have HI4 : Hid (RecI w w0 g w2.heap.size (rest, 0) { zRecV with kind := x } (.slice none 0 0) (.slice none 0 0) (.slice none 0 0) (.slice none 0 0) W4) := Lib.hid ⟨(hb4.block _ (by omega)).trans ((ho2.2.2.2.2 _ hz0 (by omega)).trans HQ0.out), by rw [← hW4]; exact setRow_heap _ _ _ _ _ _ hsR, hr2.block (hb4.block g (by omega)), ((Below.only HB0.out _).trans ho2).trans (Below.only hb4 _), ⟨OwnK.nil _ _ _ _, OwnK.nil _ _ _ _, OwnR.nil _ _ _, OwnR.nil _ _ _⟩, by omega, hgl⟩
    obtain ⟨ax, cx, hrow, -⟩ := id HI4.out.2.2.1
    dsimp only at hrow
    have e1 := (cell_of_row W4 g 1 _ _ _ hrow).trans rfl
    have ef1 : W4.frozen? ⟨g, 1, none⟩ = false := frozen_of_row _ _ 1 _ _ hrow
    have k0 := (cell_of_row W4 _ 0 _ _ _ HI4.out.2.1).trans rfl
    clear hr2 ho2 hb4 hz2 hz0 hgl hrow
    by_cases hx1 : x = 1
    · subst hx1
      rcases hy : wideS (rest, 0) with ⟨n, s1⟩
      have HYW := Lib.hid (wideS_wf hy)
      have HE := Lib.hid (HRC.out.trans (body_1 hy))
      have HWR : Hid (RecW { zRecV with kind := 1, boot := n }) := Lib.hid ⟨⟨ki1, zi, HYW.out, zu, zu, zEnt_wf, zSho_wf⟩, by simp [zRecV, zEntV], by simp [zRecV, zShoV]⟩
      go_wp2_with (first | (with_reducible refine wpList_store_row rfl 35 (.tmp 3) (.tmp 7) rfl w2.heap.size (rArr ({ zRecV with kind := 1 } : RecR) (.slice none 0 0) (.slice none 0 0) (.slice none 0 0) (.slice none 0 0)) rfl rfl 35 _ hsR (by kernel_rfl) rfl (rArr_one _ _ _ _ _ _ _ _ _ _ _ _ _) ?_; rw [hW4]; clear hW4 hsR) | fail)
      refine (wideH hy HI4.out.2.2.1 (HI4.out.below HBW.out HG0.out)).mono ?_
      rintro E w5 ⟨rfl, hr5, ho5, -⟩
      have HI5 := Lib.hid (HI4.out.call hr5 ho5)
      have cc5 := (cell_of_row w5 _ 2 _ _ _ HI5.out.2.1).trans rfl
      have ff5 : w5.frozen? ⟨w2.heap.size, 2, none⟩ = false := frozen_of_row _ _ 2 _ _ HI5.out.2.1
      obtain ⟨W5, hW5⟩ : ∃ y, w5.setCell ⟨w2.heap.size, 2, none⟩ (.int .u64 n) = y := ⟨_, rfl⟩
      have HJ5 : Hid (RecI w w0 g w2.heap.size s1 { zRecV with kind := 1, boot := n } (.slice none 0 0) (.slice none 0 0) (.slice none 0 0) (.slice none 0 0) W5) := Lib.hid (HI5.out.put (r' := { zRecV with kind := 1, boot := n }) (by rw [← hW5]; exact Only.setCell _ _ _ rfl) (by rw [← hW5, heap_setCell_same _ _ 2 _ _ _ HI5.out.2.1]; rfl) HI5.out.2.2.2.2.1)
      clear hr5 ho5
      obtain ⟨WZ, hWZ⟩ : ∃ y, W5.setRow w.heap.size (rArr ({ zRecV with kind := 1, boot := n } : RecR) (.slice none 0 0) (.slice none 0 0) (.slice none 0 0) (.slice none 0 0)) = y := ⟨_, rfl⟩
      have HQZ : Hid (WZ.heap[w.heap.size]? = some (.cells (rArr ({ zRecV with kind := 1, boot := n } : RecR) (.slice none 0 0) (.slice none 0 0) (.slice none 0 0) (.slice none 0 0)) 35 (0, 0))) := Lib.hid (by rw [← hWZ]; exact setRow_heap _ _ _ _ _ _ HJ5.out.1)
      have HFIN : Hid (RecHE w0 g (recS (1 :: rest, 0)) w (.returned (.agg (rArr ({ zRecV with kind := 1, boot := n } : RecR) (.slice none 0 0) (.slice none 0 0) (.slice none 0 0) (.slice none 0 0)))) WZ) := Lib.hid (by rw [HE.out, ← hWZ]; exact HJ5.out.fin HWR.out _)
      have HL := Lib.hid HJ5.out.2.1
      have HQ := Lib.hid HJ5.out.1
      go_wp2_with (first
        | (with_reducible refine wpList_load_row rfl 35 (.tmp 3) rfl w2.heap.size rfl 35 (rArr ({ zRecV with kind := 1, boot := n } : RecR) (.slice none 0 0) (.slice none 0 0) (.slice none 0 0) (.slice none 0 0)) (0, 0) _ HL.out Try.underlying35 rfl (by kernel_rfl) ?_)
        | (with_reducible refine wpList_store_row rfl 35 (.tmp 2) (.tmp 49) rfl w.heap.size (rArr ({ zRecV with kind := 1, boot := n } : RecR) (.slice none 0 0) (.slice none 0 0) (.slice none 0 0) (.slice none 0 0)) rfl rfl 35 _ HQ.out (by kernel_rfl) rfl (rArr_one _ _ _ _ _ _ _ _ _ _ _ _ _) ?_; rw [hWZ]; clear hWZ))
      exact bodyPost_ret (v := .agg (rArr ({ zRecV with kind := 1, boot := n } : RecR) (.slice none 0 0) (.slice none 0 0) (.slice none 0 0) (.slice none 0 0))) (results_cell_row rfl _ _ w.heap.size 35 _ (0, 0) _ rfl HQZ.out Try.underlying35 rfl (by kernel_rfl)) rfl HFIN.out
    by_cases hx2 : x = 2
    · subst hx2
      rcases hy : wideS (rest, 0) with ⟨n, s1⟩
      rcases hy2 : smallS s1 with ⟨m, s2⟩
      have HYW := Lib.hid (wideS_wf hy)
      obtain ⟨hm0, hm1⟩ := smallS_bd hy2
      have HE := Lib.hid (HRC.out.trans (body_2 hy hy2))
      have HWR : Hid (RecW { zRecV with kind := 2, term := n, vote := m }) := Lib.hid ⟨⟨ki2, i64_of ⟨hm0, hm1⟩, zu, HYW.out, zu, zEnt_wf, zSho_wf⟩, by simp [zRecV, zEntV], by simp [zRecV, zShoV]⟩
      go_wp2_with (first | (with_reducible refine wpList_store_row rfl 35 (.tmp 3) (.tmp 7) rfl w2.heap.size (rArr ({ zRecV with kind := 2 } : RecR) (.slice none 0 0) (.slice none 0 0) (.slice none 0 0) (.slice none 0 0)) rfl rfl 35 _ hsR (by kernel_rfl) rfl (rArr_one _ _ _ _ _ _ _ _ _ _ _ _ _) ?_; rw [hW4]; clear hW4 hsR) | fail)
      refine (wideH hy HI4.out.2.2.1 (HI4.out.below HBW.out HG0.out)).mono ?_
      rintro E w5 ⟨rfl, hr5, ho5, -⟩
      have HI5 := Lib.hid (HI4.out.call hr5 ho5)
      have cc5 := (cell_of_row w5 _ 3 _ _ _ HI5.out.2.1).trans rfl
      have ff5 : w5.frozen? ⟨w2.heap.size, 3, none⟩ = false := frozen_of_row _ _ 3 _ _ HI5.out.2.1
      obtain ⟨W5, hW5⟩ : ∃ y, w5.setCell ⟨w2.heap.size, 3, none⟩ (.int .u64 n) = y := ⟨_, rfl⟩
      have HJ5 : Hid (RecI w w0 g w2.heap.size s1 { zRecV with kind := 2, term := n } (.slice none 0 0) (.slice none 0 0) (.slice none 0 0) (.slice none 0 0) W5) := Lib.hid (HI5.out.put (r' := { zRecV with kind := 2, term := n }) (by rw [← hW5]; exact Only.setCell _ _ _ rfl) (by rw [← hW5, heap_setCell_same _ _ 3 _ _ _ HI5.out.2.1]; rfl) HI5.out.2.2.2.2.1)
      clear hr5 ho5
      go_wp2_with fail
      refine (smallH hy2 HJ5.out.2.2.1 (HJ5.out.below HBW.out HG0.out)).mono ?_
      rintro E w6 ⟨rfl, hr6, ho6, -⟩
      have HI6 := Lib.hid (HJ5.out.call hr6 ho6)
      have cc6 := (cell_of_row w6 _ 1 _ _ _ HI6.out.2.1).trans rfl
      have ff6 : w6.frozen? ⟨w2.heap.size, 1, none⟩ = false := frozen_of_row _ _ 1 _ _ HI6.out.2.1
      obtain ⟨W6, hW6⟩ : ∃ y, w6.setCell ⟨w2.heap.size, 1, none⟩ (.int .i64 m) = y := ⟨_, rfl⟩
      have HJ6 : Hid (RecI w w0 g w2.heap.size s2 { zRecV with kind := 2, term := n, vote := m } (.slice none 0 0) (.slice none 0 0) (.slice none 0 0) (.slice none 0 0) W6) := Lib.hid (HI6.out.put (r' := { zRecV with kind := 2, term := n, vote := m }) (by rw [← hW6]; exact Only.setCell _ _ _ rfl) (by rw [← hW6, heap_setCell_same _ _ 1 _ _ _ HI6.out.2.1]; rfl) HI6.out.2.2.2.2.1)
      clear hr6 ho6
      obtain ⟨WZ, hWZ⟩ : ∃ y, W6.setRow w.heap.size (rArr ({ zRecV with kind := 2, term := n, vote := m } : RecR) (.slice none 0 0) (.slice none 0 0) (.slice none 0 0) (.slice none 0 0)) = y := ⟨_, rfl⟩
      have HQZ : Hid (WZ.heap[w.heap.size]? = some (.cells (rArr ({ zRecV with kind := 2, term := n, vote := m } : RecR) (.slice none 0 0) (.slice none 0 0) (.slice none 0 0) (.slice none 0 0)) 35 (0, 0))) := Lib.hid (by rw [← hWZ]; exact setRow_heap _ _ _ _ _ _ HJ6.out.1)
      have HFIN : Hid (RecHE w0 g (recS (2 :: rest, 0)) w (.returned (.agg (rArr ({ zRecV with kind := 2, term := n, vote := m } : RecR) (.slice none 0 0) (.slice none 0 0) (.slice none 0 0) (.slice none 0 0)))) WZ) := Lib.hid (by rw [HE.out, ← hWZ]; exact HJ6.out.fin HWR.out _)
      have HL := Lib.hid HJ6.out.2.1
      have HQ := Lib.hid HJ6.out.1
      go_wp2_with (first
        | (with_reducible refine wpList_load_row rfl 35 (.tmp 3) rfl w2.heap.size rfl 35 (rArr ({ zRecV with kind := 2, term := n, vote := m } : RecR) (.slice none 0 0) (.slice none 0 0) (.slice none 0 0) (.slice none 0 0)) (0, 0) _ HL.out Try.underlying35 rfl (by kernel_rfl) ?_)
        | (with_reducible refine wpList_store_row rfl 35 (.tmp 2) (.tmp 49) rfl w.heap.size (rArr ({ zRecV with kind := 2, term := n, vote := m } : RecR) (.slice none 0 0) (.slice none 0 0) (.slice none 0 0) (.slice none 0 0)) rfl rfl 35 _ HQ.out (by kernel_rfl) rfl (rArr_one _ _ _ _ _ _ _ _ _ _ _ _ _) ?_; rw [hWZ]; clear hWZ))
      exact bodyPost_ret (v := .agg (rArr ({ zRecV with kind := 2, term := n, vote := m } : RecR) (.slice none 0 0) (.slice none 0 0) (.slice none 0 0) (.slice none 0 0))) (results_cell_row rfl _ _ w.heap.size 35 _ (0, 0) _ rfl HQZ.out Try.underlying35 rfl (by kernel_rfl)) rfl HFIN.out
    by_cases hx3 : x = 3
    · subst hx3
      rcases hy : wideS (rest, 0) with ⟨n, s1⟩
      rcases hy2 : entS s1 with ⟨x, s2⟩
      have HYW := Lib.hid (wideS_wf hy)
      have HE := Lib.hid (HRC.out.trans (body_3 hy hy2))
      go_wp2_with (first | (with_reducible refine wpList_store_row rfl 35 (.tmp 3) (.tmp 7) rfl w2.heap.size (rArr ({ zRecV with kind := 3 } : RecR) (.slice none 0 0) (.slice none 0 0) (.slice none 0 0) (.slice none 0 0)) rfl rfl 35 _ hsR (by kernel_rfl) rfl (rArr_one _ _ _ _ _ _ _ _ _ _ _ _ _) ?_; rw [hW4]; clear hW4 hsR) | fail)
      refine (wideH hy HI4.out.2.2.1 (HI4.out.below HBW.out HG0.out)).mono ?_
      rintro E w5 ⟨rfl, hr5, ho5, -⟩
      have HI5 := Lib.hid (HI4.out.call hr5 ho5)
      have cc5 := (cell_of_row w5 _ 4 _ _ _ HI5.out.2.1).trans rfl
      have ff5 : w5.frozen? ⟨w2.heap.size, 4, none⟩ = false := frozen_of_row _ _ 4 _ _ HI5.out.2.1
      obtain ⟨W5, hW5⟩ : ∃ y, w5.setCell ⟨w2.heap.size, 4, none⟩ (.int .u64 n) = y := ⟨_, rfl⟩
      have HJ5 : Hid (RecI w w0 g w2.heap.size s1 { zRecV with kind := 3, index := n } (.slice none 0 0) (.slice none 0 0) (.slice none 0 0) (.slice none 0 0) W5) := Lib.hid (HI5.out.put (r' := { zRecV with kind := 3, index := n }) (by rw [← hW5]; exact Only.setCell _ _ _ rfl) (by rw [← hW5, heap_setCell_same _ _ 4 _ _ _ HI5.out.2.1]; rfl) HI5.out.2.2.2.2.1)
      clear hr5 ho5
      go_wp2_with fail
      refine (entryH hy2 HJ5.out.2.2.1 (HJ5.out.below HBW.out HG0.out)).mono ?_
      rintro E w6 ⟨vx, rfl, ox, hxw, hr6, ho6⟩
      obtain ⟨an, m3, cn, rfl⟩ := own_formx ox
      have HI6 := Lib.hid (HJ5.out.call hr6 ho6)
      have HXE := Lib.hid hxw
      have hlow : w.heap.size ≤ W5.heap.size := HJ5.out.2.2.2.1.2.2.2.1
      have hth : w6.there w2.heap.size 5 9 := there_row HI6.out.2.1 5 9 (by simp)
      obtain ⟨W7, hW7⟩ : ∃ y, w6.setCells w2.heap.size 5 (entC (x, (.slice an m3 cn))) = y := ⟨_, rfl⟩
      have HJ7 : Hid (RecI w w0 g w2.heap.size s2 { zRecV with kind := 3, index := n, ent := x } (.slice an m3 cn) (.slice none 0 0) (.slice none 0 0) (.slice none 0 0) W7) := Lib.hid (HI6.out.put (r' := { zRecV with kind := 3, index := n, ent := x }) (by rw [← hW7]; exact setCells_only _ _ _ _) (by rw [← hW7]; exact ent_putx x _ HI6.out.2.1) ⟨own_lowerx hlow ox, HI6.out.2.2.2.2.1.2⟩)
      have HWR : Hid (RecW { zRecV with kind := 3, index := n, ent := x }) := Lib.hid ⟨⟨ki3, zi, zu, zu, HYW.out, HXE.out.1, zSho_wf⟩, HXE.out.2, by simp [zRecV, zShoV]⟩
      clear hr6 ho6 ox hxw hlow
      obtain ⟨WZ, hWZ⟩ : ∃ y, W7.setRow w.heap.size (rArr ({ zRecV with kind := 3, index := n, ent := x } : RecR) (.slice an m3 cn) (.slice none 0 0) (.slice none 0 0) (.slice none 0 0)) = y := ⟨_, rfl⟩
      have HQZ : Hid (WZ.heap[w.heap.size]? = some (.cells (rArr ({ zRecV with kind := 3, index := n, ent := x } : RecR) (.slice an m3 cn) (.slice none 0 0) (.slice none 0 0) (.slice none 0 0)) 35 (0, 0))) := Lib.hid (by rw [← hWZ]; exact setRow_heap _ _ _ _ _ _ HJ7.out.1)
      have HFIN : Hid (RecHE w0 g (recS (3 :: rest, 0)) w (.returned (.agg (rArr ({ zRecV with kind := 3, index := n, ent := x } : RecR) (.slice an m3 cn) (.slice none 0 0) (.slice none 0 0) (.slice none 0 0)))) WZ) := Lib.hid (by rw [HE.out, ← hWZ]; exact HJ7.out.fin HWR.out _)
      have HL := Lib.hid HJ7.out.2.1
      have HQ := Lib.hid HJ7.out.1
      go_wp2_with (first
        | (refine wpList_store_mid rfl 27 (.tmp 42) (.tmp 41) rfl w2.heap.size 5 (entC (x, (.slice an m3 cn))).toArray rfl rfl hth (by kernel_rfl) (entC_one _ _ _ _) ?_; rw [hW7]; clear hW7 hth)
        | (with_reducible refine wpList_load_row rfl 35 (.tmp 3) rfl w2.heap.size rfl 35 (rArr ({ zRecV with kind := 3, index := n, ent := x } : RecR) (.slice an m3 cn) (.slice none 0 0) (.slice none 0 0) (.slice none 0 0)) (0, 0) _ HL.out Try.underlying35 rfl (by kernel_rfl) ?_)
        | (with_reducible refine wpList_store_row rfl 35 (.tmp 2) (.tmp 49) rfl w.heap.size (rArr ({ zRecV with kind := 3, index := n, ent := x } : RecR) (.slice an m3 cn) (.slice none 0 0) (.slice none 0 0) (.slice none 0 0)) rfl rfl 35 _ HQ.out (by kernel_rfl) rfl (rArr_one _ _ _ _ _ _ _ _ _ _ _ _ _) ?_; rw [hWZ]; clear hWZ))
      exact bodyPost_ret (v := .agg (rArr ({ zRecV with kind := 3, index := n, ent := x } : RecR) (.slice an m3 cn) (.slice none 0 0) (.slice none 0 0) (.slice none 0 0))) (results_cell_row rfl _ _ w.heap.size 35 _ (0, 0) _ rfl HQZ.out Try.underlying35 rfl (by kernel_rfl)) rfl HFIN.out
    by_cases hx4 : x = 4
    · subst hx4
      rcases hy : wideS (rest, 0) with ⟨n, s1⟩
      have HYW := Lib.hid (wideS_wf hy)
      have HE := Lib.hid (HRC.out.trans (body_4 hy))
      have HWR : Hid (RecW { zRecV with kind := 4, index := n }) := Lib.hid ⟨⟨ki4, zi, zu, zu, HYW.out, zEnt_wf, zSho_wf⟩, by simp [zRecV, zEntV], by simp [zRecV, zShoV]⟩
      go_wp2_with (first | (with_reducible refine wpList_store_row rfl 35 (.tmp 3) (.tmp 7) rfl w2.heap.size (rArr ({ zRecV with kind := 4 } : RecR) (.slice none 0 0) (.slice none 0 0) (.slice none 0 0) (.slice none 0 0)) rfl rfl 35 _ hsR (by kernel_rfl) rfl (rArr_one _ _ _ _ _ _ _ _ _ _ _ _ _) ?_; rw [hW4]; clear hW4 hsR) | fail)
      refine (wideH hy HI4.out.2.2.1 (HI4.out.below HBW.out HG0.out)).mono ?_
      rintro E w5 ⟨rfl, hr5, ho5, -⟩
      have HI5 := Lib.hid (HI4.out.call hr5 ho5)
      have cc5 := (cell_of_row w5 _ 4 _ _ _ HI5.out.2.1).trans rfl
      have ff5 : w5.frozen? ⟨w2.heap.size, 4, none⟩ = false := frozen_of_row _ _ 4 _ _ HI5.out.2.1
      obtain ⟨W5, hW5⟩ : ∃ y, w5.setCell ⟨w2.heap.size, 4, none⟩ (.int .u64 n) = y := ⟨_, rfl⟩
      have HJ5 : Hid (RecI w w0 g w2.heap.size s1 { zRecV with kind := 4, index := n } (.slice none 0 0) (.slice none 0 0) (.slice none 0 0) (.slice none 0 0) W5) := Lib.hid (HI5.out.put (r' := { zRecV with kind := 4, index := n }) (by rw [← hW5]; exact Only.setCell _ _ _ rfl) (by rw [← hW5, heap_setCell_same _ _ 4 _ _ _ HI5.out.2.1]; rfl) HI5.out.2.2.2.2.1)
      clear hr5 ho5
      obtain ⟨WZ, hWZ⟩ : ∃ y, W5.setRow w.heap.size (rArr ({ zRecV with kind := 4, index := n } : RecR) (.slice none 0 0) (.slice none 0 0) (.slice none 0 0) (.slice none 0 0)) = y := ⟨_, rfl⟩
      have HQZ : Hid (WZ.heap[w.heap.size]? = some (.cells (rArr ({ zRecV with kind := 4, index := n } : RecR) (.slice none 0 0) (.slice none 0 0) (.slice none 0 0) (.slice none 0 0)) 35 (0, 0))) := Lib.hid (by rw [← hWZ]; exact setRow_heap _ _ _ _ _ _ HJ5.out.1)
      have HFIN : Hid (RecHE w0 g (recS (4 :: rest, 0)) w (.returned (.agg (rArr ({ zRecV with kind := 4, index := n } : RecR) (.slice none 0 0) (.slice none 0 0) (.slice none 0 0) (.slice none 0 0)))) WZ) := Lib.hid (by rw [HE.out, ← hWZ]; exact HJ5.out.fin HWR.out _)
      have HL := Lib.hid HJ5.out.2.1
      have HQ := Lib.hid HJ5.out.1
      go_wp2_with (first
        | (with_reducible refine wpList_load_row rfl 35 (.tmp 3) rfl w2.heap.size rfl 35 (rArr ({ zRecV with kind := 4, index := n } : RecR) (.slice none 0 0) (.slice none 0 0) (.slice none 0 0) (.slice none 0 0)) (0, 0) _ HL.out Try.underlying35 rfl (by kernel_rfl) ?_)
        | (with_reducible refine wpList_store_row rfl 35 (.tmp 2) (.tmp 49) rfl w.heap.size (rArr ({ zRecV with kind := 4, index := n } : RecR) (.slice none 0 0) (.slice none 0 0) (.slice none 0 0) (.slice none 0 0)) rfl rfl 35 _ HQ.out (by kernel_rfl) rfl (rArr_one _ _ _ _ _ _ _ _ _ _ _ _ _) ?_; rw [hWZ]; clear hWZ))
      exact bodyPost_ret (v := .agg (rArr ({ zRecV with kind := 4, index := n } : RecR) (.slice none 0 0) (.slice none 0 0) (.slice none 0 0) (.slice none 0 0))) (results_cell_row rfl _ _ w.heap.size 35 _ (0, 0) _ rfl HQZ.out Try.underlying35 rfl (by kernel_rfl)) rfl HFIN.out
    by_cases hx5 : x = 5
    · subst hx5
      rcases hy : picS (rest, 0) with ⟨s, s1⟩
      have HE := Lib.hid (HRC.out.trans (body_5 hy))
      go_wp2_with (first | (with_reducible refine wpList_store_row rfl 35 (.tmp 3) (.tmp 7) rfl w2.heap.size (rArr ({ zRecV with kind := 5 } : RecR) (.slice none 0 0) (.slice none 0 0) (.slice none 0 0) (.slice none 0 0)) rfl rfl 35 _ hsR (by kernel_rfl) rfl (rArr_one _ _ _ _ _ _ _ _ _ _ _ _ _) ?_; rw [hW4]; clear hW4 hsR) | fail)
      refine (picH hy HI4.out.2.2.1 (HI4.out.below HBW.out HG0.out)).mono ?_
      rintro E w6 ⟨un, uh, ul, rfl, o1, o2, o3, hsw, hr6, ho6⟩
      obtain ⟨d1, m1, q1, rfl⟩ := own_formx o1
      obtain ⟨d2, m2, q2, rfl⟩ := own_formx o2
      obtain ⟨d3, m3, q3, rfl⟩ := own_formx o3
      have HI6 := Lib.hid (HI4.out.call hr6 ho6)
      have HSW := Lib.hid hsw
      have hlow : w.heap.size ≤ W4.heap.size := HI4.out.2.2.2.1.2.2.2.1
      have hth : w6.there w2.heap.size 14 7 := there_row HI6.out.2.1 14 7 (by simp)
      obtain ⟨W7, hW7⟩ : ∃ y, w6.setCells w2.heap.size 14 (sArr s (.slice d1 m1 q1) (.slice d2 m2 q2) (.slice d3 m3 q3)).toList = y := ⟨_, rfl⟩
      have HJ7 : Hid (RecI w w0 g w2.heap.size s1 { zRecV with kind := 5, shot := s } (.slice none 0 0) (.slice d1 m1 q1) (.slice d2 m2 q2) (.slice d3 m3 q3) W7) := Lib.hid (HI6.out.put (r' := { zRecV with kind := 5, shot := s }) (by rw [← hW7]; exact setCells_only _ _ _ _) (by rw [← hW7]; exact shot_putx s _ _ _ HI6.out.2.1) ⟨HI6.out.2.2.2.2.1.1, own_lowerx hlow o1, own_lowerx hlow o2, own_lowerx hlow o3⟩)
      have HWR : Hid (RecW { zRecV with kind := 5, shot := s }) := Lib.hid ⟨⟨ki5, zi, zu, zu, zu, zEnt_wf, HSW.out.1⟩, by simp [zRecV, zEntV], HSW.out.2⟩
      clear hr6 ho6 o1 o2 o3 hsw hlow
      obtain ⟨WZ, hWZ⟩ : ∃ y, W7.setRow w.heap.size (rArr ({ zRecV with kind := 5, shot := s } : RecR) (.slice none 0 0) (.slice d1 m1 q1) (.slice d2 m2 q2) (.slice d3 m3 q3)) = y := ⟨_, rfl⟩
      have HQZ : Hid (WZ.heap[w.heap.size]? = some (.cells (rArr ({ zRecV with kind := 5, shot := s } : RecR) (.slice none 0 0) (.slice d1 m1 q1) (.slice d2 m2 q2) (.slice d3 m3 q3)) 35 (0, 0))) := Lib.hid (by rw [← hWZ]; exact setRow_heap _ _ _ _ _ _ HJ7.out.1)
      have HFIN : Hid (RecHE w0 g (recS (5 :: rest, 0)) w (.returned (.agg (rArr ({ zRecV with kind := 5, shot := s } : RecR) (.slice none 0 0) (.slice d1 m1 q1) (.slice d2 m2 q2) (.slice d3 m3 q3)))) WZ) := Lib.hid (by rw [HE.out, ← hWZ]; exact HJ7.out.fin HWR.out _)
      have HL := Lib.hid HJ7.out.2.1
      have HQ := Lib.hid HJ7.out.1
      go_wp2_with (first
        | (refine wpList_store_mid rfl 33 (.tmp 45) (.tmp 44) rfl w2.heap.size 14 (sArr s (.slice d1 m1 q1) (.slice d2 m2 q2) (.slice d3 m3 q3)) rfl rfl hth (by kernel_rfl) (Sc.sArr_one _ _ _ _ _ _ _ _ _ _) ?_; rw [hW7]; clear hW7 hth)
        | (with_reducible refine wpList_load_row rfl 35 (.tmp 3) rfl w2.heap.size rfl 35 (rArr ({ zRecV with kind := 5, shot := s } : RecR) (.slice none 0 0) (.slice d1 m1 q1) (.slice d2 m2 q2) (.slice d3 m3 q3)) (0, 0) _ HL.out Try.underlying35 rfl (by kernel_rfl) ?_)
        | (with_reducible refine wpList_store_row rfl 35 (.tmp 2) (.tmp 49) rfl w.heap.size (rArr ({ zRecV with kind := 5, shot := s } : RecR) (.slice none 0 0) (.slice d1 m1 q1) (.slice d2 m2 q2) (.slice d3 m3 q3)) rfl rfl 35 _ HQ.out (by kernel_rfl) rfl (rArr_one _ _ _ _ _ _ _ _ _ _ _ _ _) ?_; rw [hWZ]; clear hWZ))
      exact bodyPost_ret (v := .agg (rArr ({ zRecV with kind := 5, shot := s } : RecR) (.slice none 0 0) (.slice d1 m1 q1) (.slice d2 m2 q2) (.slice d3 m3 q3))) (results_cell_row rfl _ _ w.heap.size 35 _ (0, 0) _ rfl HQZ.out Try.underlying35 rfl (by kernel_rfl)) rfl HFIN.out
    have n1 : (x == 1) = false := beq_eq_false_iff_ne.2 hx1
    have n2 : (x == 2) = false := beq_eq_false_iff_ne.2 hx2
    have n3 : (x == 3) = false := beq_eq_false_iff_ne.2 hx3
    have n4 : (x == 4) = false := beq_eq_false_iff_ne.2 hx4
    have n5 : (x == 5) = false := beq_eq_false_iff_ne.2 hx5
    have HE := Lib.hid (HRC.out.trans (body_x hx1 hx2 hx3 hx4 hx5))
    clear hx1 hx2 hx3 hx4 hx5
    obtain ⟨W5, hW5⟩ : ∃ y, W4.setCell ⟨g, 1, none⟩ (.int .i64 11) = y := ⟨_, rfl⟩
    have HJ5 : Hid (RecI w w0 g w2.heap.size (rest, 11) { zRecV with kind := x } (.slice none 0 0) (.slice none 0 0) (.slice none 0 0) (.slice none 0 0) W5) := Lib.hid (by rw [← hW5]; exact HI4.out.err 11)
    obtain ⟨WZ, hWZ⟩ : ∃ y, W5.setRow w.heap.size (rArr ({ zRecV with kind := x } : RecR) (.slice none 0 0) (.slice none 0 0) (.slice none 0 0) (.slice none 0 0)) = y := ⟨_, rfl⟩
    have HQZ : Hid (WZ.heap[w.heap.size]? = some (.cells (rArr ({ zRecV with kind := x } : RecR) (.slice none 0 0) (.slice none 0 0) (.slice none 0 0) (.slice none 0 0)) 35 (0, 0))) := Lib.hid (by rw [← hWZ]; exact setRow_heap _ _ _ _ _ _ HJ5.out.1)
    have HFIN : Hid (RecHE w0 g (recS (x :: rest, 0)) w (.returned (.agg (rArr ({ zRecV with kind := x } : RecR) (.slice none 0 0) (.slice none 0 0) (.slice none 0 0) (.slice none 0 0)))) WZ) := Lib.hid (by rw [HE.out, ← hWZ]; exact HJ5.out.fin (zW x HXW.out) _)
    have HL := Lib.hid HJ5.out.2.1
    have HQ := Lib.hid HJ5.out.1
    go_wp2_with (first
      | (with_reducible refine wpList_store_row rfl 35 (.tmp 3) (.tmp 7) rfl w2.heap.size (rArr ({ zRecV with kind := x } : RecR) (.slice none 0 0) (.slice none 0 0) (.slice none 0 0) (.slice none 0 0)) rfl rfl 35 _ hsR (by kernel_rfl) rfl (rArr_one _ _ _ _ _ _ _ _ _ _ _ _ _) ?_; rw [hW4]; clear hW4 hsR)
      | (with_reducible refine wpList_load_row rfl 35 (.tmp 3) rfl w2.heap.size rfl 35 (rArr ({ zRecV with kind := x } : RecR) (.slice none 0 0) (.slice none 0 0) (.slice none 0 0) (.slice none 0 0)) (0, 0) _ HL.out Try.underlying35 rfl (by kernel_rfl) ?_)
      | (with_reducible refine wpList_store_row rfl 35 (.tmp 2) (.tmp 49) rfl w.heap.size (rArr ({ zRecV with kind := x } : RecR) (.slice none 0 0) (.slice none 0 0) (.slice none 0 0) (.slice none 0 0)) rfl rfl 35 _ HQ.out (by kernel_rfl) rfl (rArr_one _ _ _ _ _ _ _ _ _ _ _ _ _) ?_; rw [hWZ]; clear hWZ))
    exact bodyPost_ret (v := .agg (rArr ({ zRecV with kind := x } : RecR) (.slice none 0 0) (.slice none 0 0) (.slice none 0 0) (.slice none 0 0))) (results_cell_row rfl _ _ w.heap.size 35 _ (0, 0) _ rfl HQZ.out Try.underlying35 rfl (by kernel_rfl)) rfl HFIN.out
end Rk
end Go.Proofs.Ytngnhegmealokaa
namespace Go.Proofs.Ytngnhegmealokaa
open Go.ChangeShapes Go.WideShapes Go.ChangeAt Go.RowKit Go.Deep
set_option linter.unusedVariables false
set_option maxRecDepth 100000
namespace Rk
open Cm Sc Nm Rc Hd Nv Sh
abbrev zRH : Array Value := #[.slice none 0 0, .int .i64 0]
theorem zR_one : zR.all (·.oneCell') = true := by simp [zR, Value.oneCell']
def DecRE (zs : List Int) (w : World) (e : Ending) (w' : World) : Prop := ∃ r z vc vn vh vl, e = .returned (.tuple #[.agg (rArr r vc vn vh vl), .int .i64 z]) ∧ decR zs = (r, z) ∧ IsRec w' (.agg (rArr r vc vn vh vl)) r ∧ Below w.heap.size w w'
theorem zRecV_is (w : World) : IsRec w (.agg (rArr zRecV (.slice none 0 0) (.slice none 0 0) (.slice none 0 0) (.slice none 0 0))) zRecV := ⟨_, _, _, _, rfl, ⟨Nm.sl_nil _ _, Nm.sl_nil _ _, SlR.nil _, SlR.nil _⟩, (zW 0 (by decide)).1⟩
theorem decR_nil {zs : List Int} {z : Int} {w W : World} (he : decR zs = (zRecV, z)) (hb : Below w.heap.size w W) : DecRE zs w (.returned (.tuple #[.agg zR, .int .i64 z])) W := ⟨zRecV, z, _, _, _, _, rfl, he, zRecV_is _, hb⟩
set_option maxHeartbeats 8000000 in
theorem dec_any (s : ByteArray) (w : World) : Calls Try.prog 10 #[.string s] w (DecRE (sbs s) w) := by
  have hlen : (sbs s).length = s.size := sbs_length s
  obtain ⟨zs, hzs⟩ : ∃ zs, sbs s = zs := ⟨_, rfl⟩
  rw [hzs] at hlen
  obtain ⟨W0, hW0⟩ : ∃ q, w.alloc (.cells zR 35) = q := ⟨_, rfl⟩
  have hb0 : Below w.heap.size w W0 := by rw [← hW0]; exact (Below.refl _ _).alloc (Nat.le_refl _) _
  have HQ0 : Hid (W0.heap[w.heap.size]? = some (.cells zR 35 (0, 0))) := Lib.hid (by rw [← hW0]; exact heap_alloc_new _ _)
  have HZ0 : Hid (W0.heap.size = w.heap.size + 1) := Lib.hid (by rw [← hW0]; simp)
  have HB0 := Lib.hid hb0
  rw [hzs]
  by_cases hl : 8000 < zs.length
  · have HDV := Lib.hid (decR_long hl)
    have hl2 : (8000 : Int) < (s.size : Int) := by omega
    obtain ⟨WZ, hWZ⟩ : ∃ q, W0.setRow w.heap.size zR = q := ⟨_, rfl⟩
    have HQZ : Hid (WZ.heap[w.heap.size]? = some (.cells zR 35 (0, 0))) := Lib.hid (by rw [← hWZ]; exact setRow_heap _ _ _ _ _ _ HQ0.out)
    have HFIN := Lib.hid (decR_nil (w := w) (W := WZ) HDV.out (by rw [← hWZ]; exact Ld.below_row HB0.out (Nat.le_refl _) _))
    clear hb0 hl hlen hzs
    go_enter Try.func10, Try.ntmps10
    go_wp2_with (first | (with_reducible refine wpList_store_row rfl 35 (.tmp 2) (.tmp 9) rfl w.heap.size zR rfl rfl 35 _ HQ0.out (by kernel_rfl) rfl zR_one ?_; rw [hWZ]; clear hWZ) | fail)
    refine bodyPost_ret (v := .tuple #[.agg zR, .int .i64 2]) (results_c2 rfl _ _ w.heap.size 35 _ (0, 0) _ rfl HQZ.out Try.underlying35 rfl (by kernel_rfl) rfl) rfl ?_
    exact HFIN.out
  have hl2 : ¬ (8000 : Int) < (s.size : Int) := by omega
  have HNL := Lib.hid hl
  obtain ⟨cap, wc, hcv, hslc, hbc, hzc⟩ := run_bytes W0 s (by unfold maxLen; omega)
  rw [hzs] at hslc
  have hsR : (wc.alloc (.cells zRH 53)).heap[wc.heap.size]? = some (.cells zRH 53 (0, 0)) := heap_alloc_new _ _
  obtain ⟨W1, hW1⟩ : ∃ q, (wc.alloc (.cells zRH 53)).setRow wc.heap.size #[.slice (some ⟨W0.heap.size, 0, none⟩) s.size cap, .int .i64 0] = q := ⟨_, rfl⟩
  have hb1 : Below wc.heap.size wc W1 := by rw [← hW1]; exact Ld.below_row ((Below.refl _ _).alloc (Nat.le_refl _) _) (Nat.le_refl _) _
  have HBC := Lib.hid hb1
  have HGC : Hid (w.heap.size < wc.heap.size) := Lib.hid (by have := HZ0.out; omega)
  have HR1 : Hid (RdH wc wc.heap.size (zs, 0) W1) := Lib.hid ⟨some ⟨W0.heap.size, 0, none⟩, cap, by rw [← hW1, hlen]; exact setRow_heap _ _ _ _ _ _ hsR, by rw [hlen]; exact hslc⟩
  have HB1 := Lib.hid (HB0.out.trans ((hbc.trans (hb1.mono hbc.size)).mono HB0.out.size))
  have HQ1 := Lib.hid (((hbc.trans (hb1.mono hbc.size)).block _ (row_lt HQ0.out)).trans HQ0.out)
  have hone1 : (#[.slice (some ⟨W0.heap.size, 0, none⟩) s.size cap, .int .i64 0] : Array Value).all (·.oneCell') = true := by simp [Value.oneCell']
  rcases hS : recS (zs, 0) with ⟨S, rest, er⟩
  have HS := Lib.hid hS
  clear hS hl hb0 hb1 hslc hlen hzs hzc hbc
  go_enter Try.func10, Try.ntmps10
  go_wp2_with (first | (with_reducible refine wpList_store_row rfl 53 (.tmp 4) (.tmp 12) rfl wc.heap.size #[.slice (some ⟨W0.heap.size, 0, none⟩) s.size cap, .int .i64 0] rfl rfl 53 _ hsR (by kernel_rfl) rfl hone1 ?_; rw [hW1]; clear hW1 hsR) | fail)
  refine (rec_any wc wc.heap.size zs W1 HR1.out HBC.out (Nat.le_refl _)).mono ?_
  rintro E w2 ⟨vc, vn, vh, vl, rfl, ho, hw2, hr2, ho2⟩
  rw [HS.out] at ho hw2 hr2 ⊢
  obtain ⟨a1, m1, q1, rfl⟩ := own_formx ho.1
  obtain ⟨a2, m2, q2, rfl⟩ := own_formx ho.2.1
  obtain ⟨a3, m3, q3, rfl⟩ := own_formx ho.2.2.1
  obtain ⟨a4, m4, q4, rfl⟩ := own_formx ho.2.2.2
  have HO2 := Lib.hid ho
  have HW2 := Lib.hid hw2
  have HB2 : Hid (Below w.heap.size w w2) := Lib.hid (ho2.below HB1.out HB1.out.size (fun q hq => by have := HGC.out; omega))
  have HQ2 := Lib.hid ((ho2.2.2.2.2 _ (row_lt HQ1.out) (by have := HGC.out; omega)).trans HQ1.out)
  have hsS : (w2.alloc (.cells zR 35)).heap[w2.heap.size]? = some (.cells zR 35 (0, 0)) := heap_alloc_new _ _
  obtain ⟨W3, hW3⟩ : ∃ q, (w2.alloc (.cells zR 35)).setRow w2.heap.size (rArr S (.slice a1 m1 q1) (.slice a2 m2 q2) (.slice a3 m3 q3) (.slice a4 m4 q4)) = q := ⟨_, rfl⟩
  have hb3 : Below w2.heap.size w2 W3 := by rw [← hW3]; exact Ld.below_row ((Below.refl _ _).alloc (Nat.le_refl _) _) (Nat.le_refl _) _
  have HX3 : Hid (W3.heap[w2.heap.size]? = some (.cells (rArr S (.slice a1 m1 q1) (.slice a2 m2 q2) (.slice a3 m3 q3) (.slice a4 m4 q4)) 35 (0, 0))) := Lib.hid (by rw [← hW3]; exact setRow_heap _ _ _ _ _ _ hsS)
  have HB3 := Lib.hid (HB2.out.trans (hb3.mono HB2.out.size))
  have HQ3 := Lib.hid ((hb3.block _ (row_lt HQ2.out)).trans HQ2.out)
  have HO3 : Hid (RecO W3 W1.heap.size S (.slice a1 m1 q1) (.slice a2 m2 q2) (.slice a3 m3 q3) (.slice a4 m4 q4)) := Lib.hid ⟨own_belowx hb3 HO2.out.1, own_belowx hb3 HO2.out.2.1, own_belowx hb3 HO2.out.2.2.1, own_belowx hb3 HO2.out.2.2.2⟩
  obtain ⟨ar, cr, hrow, hsr⟩ := hr2.block (hb3.block _ hr2.lt)
  dsimp only at hrow hsr
  have HROW := Lib.hid hrow
  have e0 : W3.cell? ⟨wc.heap.size, 0, none⟩ = some (.slice ar rest.length cr) := (cell_of_row _ _ 0 _ _ _ hrow).trans rfl
  have e1 : W3.cell? ⟨wc.heap.size, 1, none⟩ = some (.int .i64 er) := (cell_of_row _ _ 1 _ _ _ hrow).trans rfl
  have ef1 : W3.frozen? ⟨wc.heap.size, 1, none⟩ = false := frozen_of_row _ _ 1 _ _ hrow
  have HERR : Hid (errR zs = if (er == 0) = true ∧ 0 < rest.length then 11 else er) := Lib.hid (by unfold errR; rw [HS.out])
  have HGX : Hid (wc.heap.size < w2.heap.size) := Lib.hid hr2.lt
  clear ho hr2 ho2 hb3 hrow hsr hw2
  cases her : (er == 0) with
  | false =>
    have hne : (er != 0) = true := by rw [bne, her]; rfl
    have HDV : Hid (decR zs = (zRecV, er)) := Lib.hid (by
      have q : errR zs = er := by rw [HERR.out, her]; simp
      rw [decR_err HNL.out (by rw [q]; simpa using her), q])
    go_upto_region 10 with (first | (with_reducible refine wpList_store_row rfl 35 (.tmp 5) (.tmp 13) rfl w2.heap.size (rArr S (.slice a1 m1 q1) (.slice a2 m2 q2) (.slice a3 m3 q3) (.slice a4 m4 q4)) rfl rfl 35 _ hsS (by kernel_rfl) rfl (rArr_one _ _ _ _ _ _ _ _ _ _ _ _ _) ?_; rw [hW3]; clear hW3 hsS) | fail)
    obtain ⟨WZ, hWZ⟩ : ∃ q, W3.drew.setRow w.heap.size zR = q := ⟨_, rfl⟩
    have HQD : Hid (W3.drew.heap[w.heap.size]? = some (.cells zR 35 (0, 0))) := Lib.hid HQ3.out
    have HQZ : Hid (WZ.heap[w.heap.size]? = some (.cells zR 35 (0, 0))) := Lib.hid (by rw [← hWZ]; exact setRow_heap _ _ _ _ _ _ HQD.out)
    have HRZ : Hid (WZ.heap[wc.heap.size]? = some (.cells #[.slice ar rest.length cr, .int .i64 er] 53 (0, 0))) := Lib.hid (by have := HGC.out; rw [← hWZ]; exact (setRow_other _ _ _ _ (by omega)).trans HROW.out)
    have HFIN := Lib.hid (decR_nil (w := w) (W := WZ) HDV.out (by rw [← hWZ]; exact Ld.below_row HB3.out.drew (Nat.le_refl _) _))
    refine wp_region_held_drew (S := fun w' => w'.heap[wc.heap.size]? = some (.cells #[.slice ar rest.length cr, .int .i64 er] 53 (0, 0))) (by kernel_rfl) HROW.out (fun hHeld => ?_)
    refine wpAnyH_take (i := 0) (v := (.agg zR)) rfl (by kernel_rfl) (by kernel_rfl) (by kernel_rfl) (fun _ _ _ h => h) (Or.inl ⟨by kernel_rfl, ?_⟩) (by assumption) ?_
    · intro wx hSw
      clear hSw hHeld
      go_simp
      try first | with_reducible rfl | kernel_rfl
    simp only [Act.put, List.getElem_toArray, List.getElem_cons_zero, List.setIfInBounds_toArray, List.set_cons_succ, List.set_cons_zero]
    refine wpAnyH_take (i := 1) (v := .pointer (some ⟨wc.heap.size, 1, none⟩)) rfl (by kernel_rfl) (by kernel_rfl) (by kernel_rfl) (fun _ _ _ h => h) (Or.inl ⟨by kernel_rfl, ?_⟩) (by assumption) ?_
    · intro wx hSw
      clear hSw hHeld
      go_simp
      try first | with_reducible rfl | kernel_rfl
    simp only [Act.put, List.getElem_toArray, List.getElem_cons_succ, List.getElem_cons_zero, List.setIfInBounds_toArray, List.set_cons_succ, List.set_cons_zero]
    refine wpAnyH_take (i := 2) (v := (.int .i64 er)) rfl (by kernel_rfl) (by kernel_rfl) (by kernel_rfl) (fun _ _ _ h => h) (Or.inl ⟨by kernel_rfl, ?_⟩) (by assumption) ?_
    · intro wx hSw
      have cc : wx.cell? ⟨wc.heap.size, 1, none⟩ = some (.int .i64 er) := (cell_of_row wx _ 1 _ _ _ hSw).trans rfl
      clear hSw hHeld
      go_simp
      try first | with_reducible rfl | kernel_rfl
    simp only [Act.put, List.getElem_toArray, List.getElem_cons_succ, List.getElem_cons_zero, List.setIfInBounds_toArray, List.set_cons_succ, List.set_cons_zero]
    refine wpAnyH_ready (rs := [3]) (by kernel_rfl) (by simp) ?_
    refine AllReadyH.cons rfl (fun K hK => ?_) AllReadyH.nil
    rw [if_pos (by kernel_rfl)]
    refine wp_store_row 35 (.tmp 2) (.tmp 36) (by kernel_rfl) w.heap.size zR (by kernel_rfl) (by kernel_rfl) 35 zR HQD.out (by kernel_rfl) (by kernel_rfl) zR_one ?_
    rw [hWZ]
    clear hHeld
    refine hK.out _ _ HRZ.out (fun hHeld => ?_)
    clear hK K
    refine wpAnyH_take (i := 4) (v := (.int .i64 er)) rfl (by kernel_rfl) (by kernel_rfl) (by kernel_rfl) (fun _ _ _ h => h) (Or.inl ⟨by kernel_rfl, ?_⟩) (by assumption) ?_
    · intro wx hSw
      clear hSw hHeld
      go_simp
      try first | with_reducible rfl | kernel_rfl
    simp only [Act.put, List.getElem_toArray, List.getElem_cons_succ, List.getElem_cons_zero, List.setIfInBounds_toArray, List.set_cons_succ, List.set_cons_zero]
    refine wpAnyH_done (by kernel_rfl) ?_ _
    clear hHeld
    go_wp2_with fail
    refine bodyPost_ret (v := .tuple #[.agg zR, .int .i64 er]) (results_c2 rfl _ _ w.heap.size 35 _ (0, 0) _ rfl HQZ.out Try.underlying35 rfl (by kernel_rfl) rfl) rfl ?_
    exact HFIN.out
  | true =>
    obtain rfl : er = 0 := by simpa using her
    clear her
    by_cases hrl : 0 < rest.length
    · have hrl2 : (0 : Int) < (rest.length : Int) := by omega
      have HDV : Hid (decR zs = (zRecV, 11)) := Lib.hid (by
        have q : errR zs = 11 := by rw [HERR.out, if_pos ⟨by simp, hrl⟩]
        rw [decR_err HNL.out (by rw [q]; decide), q])
      obtain ⟨W4, hW4⟩ : ∃ q, W3.setCell ⟨wc.heap.size, 1, none⟩ (.int .i64 11) = q := ⟨_, rfl⟩
      have HROWW4 : Hid (W4.heap[wc.heap.size]? = some (.cells #[.slice ar rest.length cr, .int .i64 11] 53 (0, 0))) := Lib.hid (by rw [← hW4, heap_setCell_same _ _ 1 _ _ _ HROW.out]; rfl)
      have hoW4 : Only (· = wc.heap.size) W3 W4 := by rw [← hW4]; exact Only.setCell _ _ _ rfl
      have HQW4 := Lib.hid ((hoW4.2.2.2.2 _ (row_lt HQ3.out) (by have := HGC.out; omega)).trans HQ3.out)
      have HBW4 : Hid (Below w.heap.size w W4) := Lib.hid (hoW4.below HB3.out HB3.out.size (fun q hq => by have := HGC.out; omega))
      have g1 : W4.cell? ⟨wc.heap.size, 1, none⟩ = some (.int .i64 11) := (cell_of_row _ _ 1 _ _ _ HROWW4.out).trans rfl
      clear hoW4
      go_upto_region 10 with (first | (with_reducible refine wpList_store_row rfl 35 (.tmp 5) (.tmp 13) rfl w2.heap.size (rArr S (.slice a1 m1 q1) (.slice a2 m2 q2) (.slice a3 m3 q3) (.slice a4 m4 q4)) rfl rfl 35 _ hsS (by kernel_rfl) rfl (rArr_one _ _ _ _ _ _ _ _ _ _ _ _ _) ?_; rw [hW3]; clear hW3 hsS) | fail)
      obtain ⟨WZ, hWZ⟩ : ∃ q, W4.drew.setRow w.heap.size zR = q := ⟨_, rfl⟩
      have HQD : Hid (W4.drew.heap[w.heap.size]? = some (.cells zR 35 (0, 0))) := Lib.hid HQW4.out
      have HQZ : Hid (WZ.heap[w.heap.size]? = some (.cells zR 35 (0, 0))) := Lib.hid (by rw [← hWZ]; exact setRow_heap _ _ _ _ _ _ HQD.out)
      have HRZ : Hid (WZ.heap[wc.heap.size]? = some (.cells #[.slice ar rest.length cr, .int .i64 11] 53 (0, 0))) := Lib.hid (by have := HGC.out; rw [← hWZ]; exact (setRow_other _ _ _ _ (by omega)).trans HROWW4.out)
      have HFIN := Lib.hid (decR_nil (w := w) (W := WZ) HDV.out (by rw [← hWZ]; exact Ld.below_row HBW4.out.drew (Nat.le_refl _) _))
      refine wp_region_held_drew (S := fun w' => w'.heap[wc.heap.size]? = some (.cells #[.slice ar rest.length cr, .int .i64 11] 53 (0, 0))) (by kernel_rfl) HROWW4.out (fun hHeld => ?_)
      refine wpAnyH_take (i := 0) (v := (.agg zR)) rfl (by kernel_rfl) (by kernel_rfl) (by kernel_rfl) (fun _ _ _ h => h) (Or.inl ⟨by kernel_rfl, ?_⟩) (by assumption) ?_
      · intro wx hSw
        clear hSw hHeld
        go_simp
        try first | with_reducible rfl | kernel_rfl
      simp only [Act.put, List.getElem_toArray, List.getElem_cons_zero, List.setIfInBounds_toArray, List.set_cons_succ, List.set_cons_zero]
      refine wpAnyH_take (i := 1) (v := .pointer (some ⟨wc.heap.size, 1, none⟩)) rfl (by kernel_rfl) (by kernel_rfl) (by kernel_rfl) (fun _ _ _ h => h) (Or.inl ⟨by kernel_rfl, ?_⟩) (by assumption) ?_
      · intro wx hSw
        clear hSw hHeld
        go_simp
        try first | with_reducible rfl | kernel_rfl
      simp only [Act.put, List.getElem_toArray, List.getElem_cons_succ, List.getElem_cons_zero, List.setIfInBounds_toArray, List.set_cons_succ, List.set_cons_zero]
      refine wpAnyH_take (i := 2) (v := (.int .i64 11)) rfl (by kernel_rfl) (by kernel_rfl) (by kernel_rfl) (fun _ _ _ h => h) (Or.inl ⟨by kernel_rfl, ?_⟩) (by assumption) ?_
      · intro wx hSw
        have cc : wx.cell? ⟨wc.heap.size, 1, none⟩ = some (.int .i64 11) := (cell_of_row wx _ 1 _ _ _ hSw).trans rfl
        clear hSw hHeld
        go_simp
        try first | with_reducible rfl | kernel_rfl
      simp only [Act.put, List.getElem_toArray, List.getElem_cons_succ, List.getElem_cons_zero, List.setIfInBounds_toArray, List.set_cons_succ, List.set_cons_zero]
      refine wpAnyH_ready (rs := [3]) (by kernel_rfl) (by simp) ?_
      refine AllReadyH.cons rfl (fun K hK => ?_) AllReadyH.nil
      rw [if_pos (by kernel_rfl)]
      refine wp_store_row 35 (.tmp 2) (.tmp 36) (by kernel_rfl) w.heap.size zR (by kernel_rfl) (by kernel_rfl) 35 zR HQD.out (by kernel_rfl) (by kernel_rfl) zR_one ?_
      rw [hWZ]
      clear hHeld
      refine hK.out _ _ HRZ.out (fun hHeld => ?_)
      clear hK K
      refine wpAnyH_take (i := 4) (v := (.int .i64 11)) rfl (by kernel_rfl) (by kernel_rfl) (by kernel_rfl) (fun _ _ _ h => h) (Or.inl ⟨by kernel_rfl, ?_⟩) (by assumption) ?_
      · intro wx hSw
        clear hSw hHeld
        go_simp
        try first | with_reducible rfl | kernel_rfl
      simp only [Act.put, List.getElem_toArray, List.getElem_cons_succ, List.getElem_cons_zero, List.setIfInBounds_toArray, List.set_cons_succ, List.set_cons_zero]
      refine wpAnyH_done (by kernel_rfl) ?_ _
      clear hHeld
      go_wp2_with fail
      refine bodyPost_ret (v := .tuple #[.agg zR, .int .i64 11]) (results_c2 rfl _ _ w.heap.size 35 _ (0, 0) _ rfl HQZ.out Try.underlying35 rfl (by kernel_rfl) rfl) rfl ?_
      exact HFIN.out
    · have hrl2 : ¬ (0 : Int) < (rest.length : Int) := by omega
      have HE0 : Hid (errR zs = 0) := Lib.hid (by rw [HERR.out, if_neg (fun q => hrl q.2)])
      have HIS : Hid (IsRec W3 (.agg (rArr S (.slice a1 m1 q1) (.slice a2 m2 q2) (.slice a3 m3 q3) (.slice a4 m4 q4))) S) := Lib.hid (HO3.out.is HW2.out)
      clear hrl
      go_wp2_with (first
        | (with_reducible refine wpList_store_row rfl 35 (.tmp 5) (.tmp 13) rfl w2.heap.size (rArr S (.slice a1 m1 q1) (.slice a2 m2 q2) (.slice a3 m3 q3) (.slice a4 m4 q4)) rfl rfl 35 _ hsS (by kernel_rfl) rfl (rArr_one _ _ _ _ _ _ _ _ _ _ _ _ _) ?_; rw [hW3]; clear hW3 hsS)
        | (with_reducible refine wpList_load_rowG rfl 35 (.tmp 5) rfl w2.heap.size rfl 35 (rArr S (.slice a1 m1 q1) (.slice a2 m2 q2) (.slice a3 m3 q3) (.slice a4 m4 q4)) (0, 0) _ HX3.out Try.underlying35 rfl (by kernel_rfl) ?_))
      refine (Rc.fits_any S _ _ HIS.out).mono ?_
      rintro e w5 ⟨b, rfl, hz, hb5⟩
      have HQ5 := Lib.hid ((hb5.block _ (row_lt HQ3.out)).trans HQ3.out)
      have HX5 := Lib.hid ((hb5.block _ (row_lt HX3.out)).trans HX3.out)
      have HB5 := Lib.hid (HB3.out.trans (hb5.mono HB3.out.size))
      have HO5 : Hid (RecO w5 W1.heap.size S (.slice a1 m1 q1) (.slice a2 m2 q2) (.slice a3 m3 q3) (.slice a4 m4 q4)) := Lib.hid ⟨own_belowx hb5 HO3.out.1, own_belowx hb5 HO3.out.2.1, own_belowx hb5 HO3.out.2.2.1, own_belowx hb5 HO3.out.2.2.2⟩
      have HROW5 : Hid (w5.heap[wc.heap.size]? = some (.cells #[.slice ar rest.length cr, .int .i64 0] 53 (0, 0))) := Lib.hid ((hb5.block _ (row_lt HROW.out)).trans HROW.out)
      clear hb5 e0 e1 ef1
      cases b with
      | true =>
        have ok := hz.1 rfl
        have HDV : Hid (decR zs = (S, 0)) := Lib.hid (by rw [decR_ok HNL.out HE0.out (by rw [HS.out]; exact ok), HS.out])
        have e1 : w5.cell? ⟨wc.heap.size, 1, none⟩ = some (.int .i64 0) := (cell_of_row _ _ 1 _ _ _ HROW5.out).trans rfl
        obtain ⟨WZ, hWZ⟩ : ∃ q, w5.setRow w.heap.size (rArr S (.slice a1 m1 q1) (.slice a2 m2 q2) (.slice a3 m3 q3) (.slice a4 m4 q4)) = q := ⟨_, rfl⟩
        have HQZ : Hid (WZ.heap[w.heap.size]? = some (.cells (rArr S (.slice a1 m1 q1) (.slice a2 m2 q2) (.slice a3 m3 q3) (.slice a4 m4 q4)) 35 (0, 0))) := Lib.hid (by rw [← hWZ]; exact setRow_heap _ _ _ _ _ _ HQ5.out)
        have HFIN : Hid (DecRE zs w (.returned (.tuple #[.agg (rArr S (.slice a1 m1 q1) (.slice a2 m2 q2) (.slice a3 m3 q3) (.slice a4 m4 q4)), .int .i64 0])) WZ) := Lib.hid (by
          have hx : Only (· = w.heap.size) w5 WZ := by rw [← hWZ]; exact only_row _ _ _
          exact ⟨S, 0, _, _, _, _, rfl, HDV.out, (HO5.out.row HQ5.out hx).is HW2.out, by rw [← hWZ]; exact Ld.below_row HB5.out (Nat.le_refl _) _⟩)
        clear ok hz
        go_wp2_with (first
          | (with_reducible refine wpList_load_row rfl 35 (.tmp 5) rfl w2.heap.size rfl 35 (rArr S (.slice a1 m1 q1) (.slice a2 m2 q2) (.slice a3 m3 q3) (.slice a4 m4 q4)) (0, 0) _ HX5.out Try.underlying35 rfl (by kernel_rfl) ?_)
          | (with_reducible refine wpList_store_row rfl 35 (.tmp 2) (.tmp 39) rfl w.heap.size (rArr S (.slice a1 m1 q1) (.slice a2 m2 q2) (.slice a3 m3 q3) (.slice a4 m4 q4)) rfl rfl 35 _ HQ5.out (by kernel_rfl) rfl (rArr_one _ _ _ _ _ _ _ _ _ _ _ _ _) ?_; rw [hWZ]; clear hWZ))
        refine bodyPost_ret (v := .tuple #[.agg (rArr S (.slice a1 m1 q1) (.slice a2 m2 q2) (.slice a3 m3 q3) (.slice a4 m4 q4)), .int .i64 0]) (results_c2 rfl _ _ w.heap.size 35 _ (0, 0) _ rfl HQZ.out Try.underlying35 rfl (by kernel_rfl) rfl) rfl ?_
        exact HFIN.out
      | false =>
        have HDV : Hid (decR zs = (zRecV, 130)) := Lib.hid (decR_no HNL.out HE0.out (by rw [HS.out]; exact fun q => by cases hz.2 q))
        have e1 : w5.cell? ⟨wc.heap.size, 1, none⟩ = some (.int .i64 0) := (cell_of_row _ _ 1 _ _ _ HROW5.out).trans rfl
        have ef1 : w5.frozen? ⟨wc.heap.size, 1, none⟩ = false := frozen_of_row _ _ 1 _ _ HROW5.out
        obtain ⟨W6, hW6⟩ : ∃ q, w5.setCell ⟨wc.heap.size, 1, none⟩ (.int .i64 130) = q := ⟨_, rfl⟩
        have HROWW6 : Hid (W6.heap[wc.heap.size]? = some (.cells #[.slice ar rest.length cr, .int .i64 130] 53 (0, 0))) := Lib.hid (by rw [← hW6, heap_setCell_same _ _ 1 _ _ _ HROW5.out]; rfl)
        have hoW6 : Only (· = wc.heap.size) w5 W6 := by rw [← hW6]; exact Only.setCell _ _ _ rfl
        have HQW6 := Lib.hid ((hoW6.2.2.2.2 _ (row_lt HQ5.out) (by have := HGC.out; omega)).trans HQ5.out)
        have HBW6 : Hid (Below w.heap.size w W6) := Lib.hid (hoW6.below HB5.out HB5.out.size (fun q hq => by have := HGC.out; omega))
        have g1 : W6.cell? ⟨wc.heap.size, 1, none⟩ = some (.int .i64 130) := (cell_of_row _ _ 1 _ _ _ HROWW6.out).trans rfl
        clear hoW6
        clear hz
        go_upto_region 10 with (fail)
        obtain ⟨WZ, hWZ⟩ : ∃ q, W6.drew.setRow w.heap.size zR = q := ⟨_, rfl⟩
        have HQD : Hid (W6.drew.heap[w.heap.size]? = some (.cells zR 35 (0, 0))) := Lib.hid HQW6.out
        have HQZ : Hid (WZ.heap[w.heap.size]? = some (.cells zR 35 (0, 0))) := Lib.hid (by rw [← hWZ]; exact setRow_heap _ _ _ _ _ _ HQD.out)
        have HRZ : Hid (WZ.heap[wc.heap.size]? = some (.cells #[.slice ar rest.length cr, .int .i64 130] 53 (0, 0))) := Lib.hid (by have := HGC.out; rw [← hWZ]; exact (setRow_other _ _ _ _ (by omega)).trans HROWW6.out)
        have HFIN := Lib.hid (decR_nil (w := w) (W := WZ) HDV.out (by rw [← hWZ]; exact Ld.below_row HBW6.out.drew (Nat.le_refl _) _))
        refine wp_region_held_drew (S := fun w' => w'.heap[wc.heap.size]? = some (.cells #[.slice ar rest.length cr, .int .i64 130] 53 (0, 0))) (by kernel_rfl) HROWW6.out (fun hHeld => ?_)
        refine wpAnyH_take (i := 0) (v := (.agg zR)) rfl (by kernel_rfl) (by kernel_rfl) (by kernel_rfl) (fun _ _ _ h => h) (Or.inl ⟨by kernel_rfl, ?_⟩) (by assumption) ?_
        · intro wx hSw
          clear hSw hHeld
          go_simp
          try first | with_reducible rfl | kernel_rfl
        simp only [Act.put, List.getElem_toArray, List.getElem_cons_zero, List.setIfInBounds_toArray, List.set_cons_succ, List.set_cons_zero]
        refine wpAnyH_take (i := 1) (v := .pointer (some ⟨wc.heap.size, 1, none⟩)) rfl (by kernel_rfl) (by kernel_rfl) (by kernel_rfl) (fun _ _ _ h => h) (Or.inl ⟨by kernel_rfl, ?_⟩) (by assumption) ?_
        · intro wx hSw
          clear hSw hHeld
          go_simp
          try first | with_reducible rfl | kernel_rfl
        simp only [Act.put, List.getElem_toArray, List.getElem_cons_succ, List.getElem_cons_zero, List.setIfInBounds_toArray, List.set_cons_succ, List.set_cons_zero]
        refine wpAnyH_take (i := 2) (v := (.int .i64 130)) rfl (by kernel_rfl) (by kernel_rfl) (by kernel_rfl) (fun _ _ _ h => h) (Or.inl ⟨by kernel_rfl, ?_⟩) (by assumption) ?_
        · intro wx hSw
          have cc : wx.cell? ⟨wc.heap.size, 1, none⟩ = some (.int .i64 130) := (cell_of_row wx _ 1 _ _ _ hSw).trans rfl
          clear hSw hHeld
          go_simp
          try first | with_reducible rfl | kernel_rfl
        simp only [Act.put, List.getElem_toArray, List.getElem_cons_succ, List.getElem_cons_zero, List.setIfInBounds_toArray, List.set_cons_succ, List.set_cons_zero]
        refine wpAnyH_ready (rs := [3]) (by kernel_rfl) (by simp) ?_
        refine AllReadyH.cons rfl (fun K hK => ?_) AllReadyH.nil
        rw [if_pos (by kernel_rfl)]
        refine wp_store_row 35 (.tmp 2) (.tmp 36) (by kernel_rfl) w.heap.size zR (by kernel_rfl) (by kernel_rfl) 35 zR HQD.out (by kernel_rfl) (by kernel_rfl) zR_one ?_
        rw [hWZ]
        clear hHeld
        refine hK.out _ _ HRZ.out (fun hHeld => ?_)
        clear hK K
        refine wpAnyH_take (i := 4) (v := (.int .i64 130)) rfl (by kernel_rfl) (by kernel_rfl) (by kernel_rfl) (fun _ _ _ h => h) (Or.inl ⟨by kernel_rfl, ?_⟩) (by assumption) ?_
        · intro wx hSw
          clear hSw hHeld
          go_simp
          try first | with_reducible rfl | kernel_rfl
        simp only [Act.put, List.getElem_toArray, List.getElem_cons_succ, List.getElem_cons_zero, List.setIfInBounds_toArray, List.set_cons_succ, List.set_cons_zero]
        refine wpAnyH_done (by kernel_rfl) ?_ _
        clear hHeld
        go_wp2_with fail
        refine bodyPost_ret (v := .tuple #[.agg zR, .int .i64 130]) (results_c2 rfl _ _ w.heap.size 35 _ (0, 0) _ rfl HQZ.out Try.underlying35 rfl (by kernel_rfl) rfl) rfl ?_
        exact HFIN.out
end Rk
end Go.Proofs.Ytngnhegmealokaa
