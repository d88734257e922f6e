/- New snapshots where one is made: shot.New and the document's own. No condition but the list's size. -/
import Derived.Test.YtlkmdoddgfmnbaaShN
import Derived.Test.YtlkmdoddgfmnbaaShE
import Derived.Test.YtlkmdoddgfmnbaaLaF
import Derived.Test.YtlkmdoddgfmnbaaLaC
import Derived.Deep.RegionHeldLaw
import Derived.Deep.AppendLies
import Derived.Deep.RegionLaw
namespace Go.Proofs.Ytlkmdoddgfmnbaa
open Go.ChangeShapes Go.WideShapes Go.ChangeAt Go.RowKit
set_option linter.unusedVariables false
set_option maxRecDepth 100000
namespace Sh
def newS (k : Int) (zs : List Int) : Sho := ⟨0, 0, zs, ⟨k, 1, [], []⟩⟩
/-- a new snapshot, its list the call's own -/
def Makes (k : Int) (zs : List Int) (w : World) (e : Ending) (w' : World) : Prop := ∃ vn, e = .returned (.tuple #[.agg (sArr (newS k zs) vn (.slice none 0 0) (.slice none 0 0)), .int .i64 0]) ∧ OwnI w' w.heap.size vn zs ∧ (∀ n ∈ zs, (Lit.int .i64 n).wf = true) ∧ (Lit.int .i64 k).wf = true ∧ Below w.heap.size w w'
theorem row_cells7 {w : World} {g : Nat} {t : TypeId} {c0 c1 c2 c3 c4 c5 c6 : Value} (h : w.heap[g]? = some (.cells #[c0, c1, c2, c3, c4, c5, c6] t (0, 0))) (a b c d e f i : Value) : (w.setCells g 0 [a, b, c, d, e, f, i]).heap[g]? = some (.cells #[a, b, c, d, e, f, i] t (0, 0)) := by
  show (((((((w.setCell ⟨g, 0, none⟩ a).setCell ⟨g, 1, none⟩ b).setCell ⟨g, 2, none⟩ c).setCell ⟨g, 3, none⟩ d).setCell ⟨g, 4, none⟩ e).setCell ⟨g, 5, none⟩ f).setCell ⟨g, 6, none⟩ i).heap[g]? = _
  rw [heap_setCell_same _ g 6 _ _ i (heap_setCell_same _ g 5 _ _ f (heap_setCell_same _ g 4 _ _ e (heap_setCell_same _ g 3 _ _ d (heap_setCell_same _ g 2 _ _ c (heap_setCell_same _ g 1 _ _ b (heap_setCell_same _ g 0 _ _ a h))))))]; rfl
theorem other7 (g q : Nat) : ∀ (vs : List Value) (o : Nat) {w : World}, q ≠ g → (w.setCells g o vs).heap[q]? = w.heap[q]?
  | [], _, _, _ => rfl
  | v :: r, o, w, h => (other7 g q r (o + 1) h).trans (heap_setCell_other _ _ _ _ (by show q ≠ g; exact h))
theorem below7 (p : Nat) {g : Nat} (hg : p ≤ g) : ∀ (vs : List Value) (o : Nat) (w : World), Below p w (w.setCells g o vs)
  | [], _, _ => Below.refl _ _
  | v :: r, o, w => ((Below.refl _ _).setCell hg _).trans (below7 p hg r (o + 1) _)
theorem keepI {w w' : World} {B : Nat} {v : Value} {zs : List Int} (h : OwnI w B v zs) (hb : ∀ k, v.ownBlock = some k → B ≤ k → w'.heap[k]? = w.heap[k]?) : OwnI w' B v zs := by
  refine ⟨h.1, ?_⟩
  rcases h.2 with h2 | ⟨g, cap, cur, rfl, h3, h4, h5⟩
  · exact .inl h2
  · exact .inr ⟨g, cap, cur, rfl, h3, (hb g rfl h3).trans h4, h5⟩
theorem lowerI {w : World} {B D : Nat} {v : Value} {zs : List Int} (h : OwnI w B v zs) (hD : D ≤ B) : OwnI w D v zs := by
  refine ⟨h.1, ?_⟩
  rcases h.2 with h2 | ⟨q, cap, cur, h2, h3, h4⟩
  · exact .inl h2
  · exact .inr ⟨q, cap, cur, h2, Nat.le_trans hD h3, h4⟩
theorem makes_of {w w5 Wz : World} {k : Int} {zs : List Int} {vn : Value} {B : Nat} (hB : w.heap.size < B) (h5 : OwnI w5 B vn zs) (hwf : ∀ n ∈ zs, (Lit.int .i64 n).wf = true) (hz : ∀ g, g ≠ w.heap.size → Wz.heap[g]? = w5.heap[g]?) (hk : (Lit.int .i64 k).wf = true) (hb : Below w.heap.size w Wz) :
    Makes k zs w (.returned (.tuple #[.agg (sArr (newS k zs) vn (.slice none 0 0) (.slice none 0 0)), .int .i64 0])) Wz :=
  ⟨vn, rfl, lowerI (keepI h5 fun g _ hg => hz g (by omega)) (by omega), hwf, hk, hb⟩
/-- an append to nothing, at a step of a region that draws its order -/
theorem stepI {P : Program} {t e : TypeId} (ht : P.underlying t = some (.slice e)) (hinfo : (P.info? e).map (fun i => (i.zero, i.size, i.bytes)) = some (some (.int .i64 0), 1, 8))
    {w : World} {ops : Array Oper} {o : Oper} {a : Act} {K : Act → World → Prop} {Q : Exit → Act → World → Prop} {E : Prop} (hgd : o.guard = none) (s x : Operand)
    (ho : o.op = .call { callee := .builtin .append, args := #[s, x], argTypes := #[t, t] }) (base : Nat)
    (hs : a.eval s = .slice none 0 0) (u : Value) (zs : List Int) (hx : a.eval x = u) (hsl : Sl .i64 w u zs) (hne : 0 < zs.length)
    (h63 : zs.length ≤ maxLen) (hb : zs.length * 8 ≤ 140737488355328) (hbase : base ≤ w.heap.size)
    (h : ∀ g cap w', OwnK .i64 e w' base (.slice (some ⟨g, 0, none⟩) zs.length cap) zs → Below w.heap.size w w' → K (a.put o.dst (.slice (some ⟨g, 0, none⟩) zs.length cap)) w') :
    if Region.wanted o (yielded ops a.tmps) = true then Oper.wp P o a w K Q else E := by
  have hw : Region.wanted o (yielded ops a.tmps) = true := by simp [Region.wanted, hgd]
  rw [if_pos hw]
  obtain ⟨i0, hi, hz0, hz1, hz2⟩ := info_parts hinfo
  rcases hsl.src with ⟨_, h0, _⟩ | ⟨ad, c, rfl, hc⟩
  · omega
  · refine wp_append_lies w s x t ho base e i0 (.int .i64 0) 1 8 ht hi hz0 hz1 hz2 rfl (by decide) (.slice none 0 0) 0 [] hs (World.ownsRow_nil _ _ _ _) ad zs.length c (zs.map (Value.int .i64)) hx (by simp) hc (ints_oneCell _ _) hne (by omega) (by omega) hbase _ rfl fun g cap w' h2 h3 h4 _ => ?_
    have e0 : 0 + zs.length = zs.length := Nat.zero_add _
    rw [e0] at h2 ⊢
    exact h g cap w' h2 ⟨h3.os, h3.tape, h3.output, h3.size, fun k hk => h3.block k hk (fun e => by cases e)⟩
set_option maxHeartbeats 8000000 in
theorem new_ok (k : Int) (v : Value) (zs : List Int) (w : World) (h : Sl .i64 w v zs) (hok : newOk k zs) (hb8 : zs.length * 8 ≤ 140737488351232) :
    Calls Try.prog 25 #[.int .i64 k, v] w (Makes k zs w) := by
  have hst : (w.alloc (.cells zS 58)).heap[w.heap.size]? = some (.cells zS 58 (0, 0)) := heap_alloc_new _ _
  have hb0 : Below w.heap.size w (w.alloc (.cells zS 58)) := (Below.refl _ _).alloc (Nat.le_refl _) _
  have HB := Lib.hid hb0
  have HST := Lib.hid hst
  have HV := Lib.hid h
  obtain ⟨hk, hz⟩ := hok
  have HC : Hid (Nd.errOf (Nd.chk zs) = 0) := Lib.hid (by rw [hz]; rfl)
  have HNE : Hid (0 < zs.length) := Lib.hid (by
    cases zs with
    | nil => simp [Nd.chk] at hz
    | cons a l => simp)
  have HE1 : Hid (Ld.newL k = k) := Lib.hid (if_pos hk)
  have HE2 : Hid (Ld.newN k = 1) := Lib.hid (if_pos hk)
  have HE3 : Hid (Ld.newE k = 0) := Lib.hid (if_pos hk)
  have HWK : Hid ((Lit.int .i64 k).wf = true) := Lib.hid (La.wf_i64 (by omega) (by omega))
  have hml := h.len
  unfold maxLen at hml
  have HML := Lib.hid hml
  clear hst hb0 h hz hk hml
  go_enter Try.func25, Try.ntmps25
  go_wp2_with fail
  refine (Ld.new_any k _).mono ?_
  rintro e w1 ⟨rfl, hb1⟩
  rw [HE3.out]
  have hA := (hb1.block w.heap.size (by simp)).trans HST.out
  have hz1 : w.heap.size < w1.heap.size := by have := hb1.size; simp at this; omega
  have hB1 : Below w.heap.size w w1 := HB.out.trans (hb1.mono HB.out.size)
  have HA := Lib.hid hA
  have HB1 := Lib.hid hB1
  have HZ := Lib.hid hz1
  have HV1 := Lib.hid (fun o => HV.out.below (hB1.alloc (Nat.le_of_lt hz1) o) (Nat.le_refl _))
  clear hA hb1 hz1 hB1
  go_wp2_with fail
  refine (Nd.check_any _ zs _ (HV1.out _)).mono ?_
  rintro e W2 ⟨rfl, hW2⟩
  rw [HC.out]
  have hb2 : Below w1.heap.size w1 W2 := by rw [← hW2]; exact (Below.refl _ _).alloc (Nat.le_refl _) _
  have hr6 : W2.heap[w1.heap.size]? = some (.cells (Ld.nilA (Ld.newL k) (Ld.newN k)) 26 (0, 0)) := by rw [← hW2]; exact heap_alloc_new _ _
  have hr4 := (hb2.block w.heap.size HZ.out).trans HA.out
  have HB2 : Hid (Below w.heap.size w W2) := Lib.hid (HB1.out.trans (hb2.mono (Nat.le_of_lt HZ.out)))
  have HV2 := Lib.hid (HV.out.below HB2.out (Nat.le_refl _))
  have HVD := Lib.hid (HV2.out.below ((Below.refl W2.heap.size W2).drew) (Nat.le_refl _))
  rw [HE1.out, HE2.out] at hr6
  have HR4 := Lib.hid hr4
  have HR6 := Lib.hid hr6
  have hzz : w.heap.size < w1.heap.size := HZ.out
  have HZ2 : Hid (w1.heap.size < W2.heap.size) := Lib.hid ((Array.getElem?_eq_some_iff.1 hr6).1)
  have pc0 := (cell_of_row W2 _ 0 _ _ _ hr4).trans rfl
  have pc1 := (cell_of_row W2 _ 1 _ _ _ hr4).trans rfl
  have pc2 := (cell_of_row W2 _ 2 _ _ _ hr4).trans rfl
  have pc3 := (cell_of_row W2 _ 3 _ _ _ hr4).trans rfl
  have pc4 := (cell_of_row W2 _ 4 _ _ _ hr4).trans rfl
  have pc5 := (cell_of_row W2 _ 5 _ _ _ hr4).trans rfl
  have pc6 := (cell_of_row W2 _ 6 _ _ _ hr4).trans rfl
  have pf0 := La.frozen_of (o := 0) hr4
  have pf1 := La.frozen_of (o := 1) hr4
  have pf2 := La.frozen_of (o := 2) hr4
  have pf3 := La.frozen_of (o := 3) hr4
  have pf4 := La.frozen_of (o := 4) hr4
  have pf5 := La.frozen_of (o := 5) hr4
  have pf6 := La.frozen_of (o := 6) hr4
  have py0 := (cell_of_row W2 _ 0 _ _ _ hr6).trans rfl
  have py1 := (cell_of_row W2 _ 1 _ _ _ hr6).trans rfl
  have py2 := (cell_of_row W2 _ 2 _ _ _ hr6).trans rfl
  have py3 := (cell_of_row W2 _ 3 _ _ _ hr6).trans rfl
  clear hb2 hr4 hr6 hW2
  go_wp2_with fail
  go_region_with (go_at_call 60; refine (Cl.clone_any zs v _ HVD.out hb8).mono ?_; rintro e w5 ⟨u5, rfl, hown5, hsl5, hb5⟩; obtain ⟨a5, cp5, hv5, -⟩ := id hsl5; subst hv5; have hr4 := (hb5.block w.heap.size (by show w.heap.size < W2.heap.size; have := HZ2.out; omega)).trans HR4.out; have hr6 := (hb5.block w1.heap.size (by show w1.heap.size < W2.heap.size; exact HZ2.out)).trans HR6.out; have qc0 := (cell_of_row w5 _ 0 _ _ _ hr4).trans rfl; have qc1 := (cell_of_row w5 _ 1 _ _ _ hr4).trans rfl; have qc2 := (cell_of_row w5 _ 2 _ _ _ hr4).trans rfl; have qc3 := (cell_of_row w5 _ 3 _ _ _ hr4).trans rfl; have qc4 := (cell_of_row w5 _ 4 _ _ _ hr4).trans rfl; have qc5 := (cell_of_row w5 _ 5 _ _ _ hr4).trans rfl; have qc6 := (cell_of_row w5 _ 6 _ _ _ hr4).trans rfl; have qf0 := La.frozen_of (o := 0) hr4; have qf1 := La.frozen_of (o := 1) hr4; have qf2 := La.frozen_of (o := 2) hr4; have qf3 := La.frozen_of (o := 3) hr4; have qf4 := La.frozen_of (o := 4) hr4; have qf5 := La.frozen_of (o := 5) hr4; have qf6 := La.frozen_of (o := 6) hr4; have qy0 := (cell_of_row w5 _ 0 _ _ _ hr6).trans rfl; have qy1 := (cell_of_row w5 _ 1 _ _ _ hr6).trans rfl; have qy2 := (cell_of_row w5 _ 2 _ _ _ hr6).trans rfl; have qy3 := (cell_of_row w5 _ 3 _ _ _ hr6).trans rfl; have HR45 := Lib.hid hr4; have HO5 := Lib.hid hown5; have HB5 := Lib.hid hb5; clear hown5 hsl5 hb5 hr4 hr6)
  all_goals
    obtain ⟨Wz, hWz⟩ : ∃ Wz, w5.setCells w.heap.size 0 [.int .u64 0, .int .u64 0, .slice a5 zs.length cp5, .int .i64 k, .int .u64 1, .slice none 0 0, .slice none 0 0] = Wz := ⟨_, rfl⟩
    have hrz : Wz.heap[w.heap.size]? = some (.cells #[.int .u64 0, .int .u64 0, .slice a5 zs.length cp5, .int .i64 k, .int .u64 1, .slice none 0 0, .slice none 0 0] 58 (0, 0)) := by rw [← hWz]; exact row_cells7 HR45.out _ _ _ _ _ _ _
    have hEz : ∀ g, g ≠ w.heap.size → Wz.heap[g]? = w5.heap[g]? := fun g hg => by rw [← hWz]; exact other7 _ _ _ _ hg
    have hBz : Below w.heap.size w Wz := by rw [← hWz]; exact ((HB2.out.drew).trans (HB5.out.mono (by show w.heap.size ≤ W2.heap.size; have := HZ2.out; omega))).trans (below7 _ (Nat.le_refl _) _ _ _)
    have HFIN := Lib.hid (makes_of (k := k) (B := W2.heap.size) (by have := HZ2.out; omega) HO5.out HV.out.wf hEz HWK.out hBz)
    have HRz := Lib.hid hrz
    clear hrz hEz hBz qc0 qc1 qc2 qc3 qc4 qc5 qc6 qf0 qf1 qf2 qf3 qf4 qf5 qf6 qy0 qy1 qy2 qy3
    go_wp2
    change bodyPost _ _ _ _ _ (w5.setCells w.heap.size 0 [.int .u64 0, .int .u64 0, .slice a5 zs.length cp5, .int .i64 k, .int .u64 1, .slice none 0 0, .slice none 0 0])
    rw [hWz]
    exact bodyPost_ret (v := .tuple #[.agg #[.int .u64 0, .int .u64 0, .slice a5 zs.length cp5, .int .i64 k, .int .u64 1, .slice none 0 0, .slice none 0 0], .int .i64 0]) (results_cell2 rfl _ _ w.heap.size 58 _ (0, 0) _ rfl HRz.out Try.underlying58 rfl (by kernel_rfl) rfl) rfl HFIN.out
set_option maxHeartbeats 8000000 in
theorem rnew_ok (k : Int) (v : Value) (zs : List Int) (w : World) (h : Sl .i64 w v zs) (hok : newOk k zs) (hb8 : zs.length * 8 ≤ 140737488351232) :
    Calls Try.prog 26 #[.int .i64 k, v] w (Makes k zs w) := by
  have hst : (w.alloc (.cells zS 58)).heap[w.heap.size]? = some (.cells zS 58 (0, 0)) := heap_alloc_new _ _
  have hb0 : Below w.heap.size w (w.alloc (.cells zS 58)) := (Below.refl _ _).alloc (Nat.le_refl _) _
  have HB := Lib.hid hb0
  have HST := Lib.hid hst
  have HV := Lib.hid h
  obtain ⟨hk, hz⟩ := hok
  have HC : Hid (Nd.errOf (Nd.chk zs) = 0) := Lib.hid (by rw [hz]; rfl)
  have HNE : Hid (0 < zs.length) := Lib.hid (by
    cases zs with
    | nil => simp [Nd.chk] at hz
    | cons a l => simp)
  have HE1 : Hid (Ld.newL k = k) := Lib.hid (if_pos hk)
  have HE2 : Hid (Ld.newN k = 1) := Lib.hid (if_pos hk)
  have HE3 : Hid (Ld.newE k = 0) := Lib.hid (if_pos hk)
  have HWK : Hid ((Lit.int .i64 k).wf = true) := Lib.hid (La.wf_i64 (by omega) (by omega))
  have hml := h.len
  unfold maxLen at hml
  have HML := Lib.hid hml
  clear hst hb0 h hz hk hml
  go_enter Try.func26, Try.ntmps26
  go_wp2_with fail
  refine (Ld.rnew_any k _).mono ?_
  rintro e w1 ⟨rfl, hb1⟩
  rw [HE3.out]
  have hA := (hb1.block w.heap.size (by simp)).trans HST.out
  have hz1 : w.heap.size < w1.heap.size := by have := hb1.size; simp at this; omega
  have hB1 : Below w.heap.size w w1 := HB.out.trans (hb1.mono HB.out.size)
  have HA := Lib.hid hA
  have HB1 := Lib.hid hB1
  have HZ := Lib.hid hz1
  have HV1 := Lib.hid (fun o => HV.out.below (hB1.alloc (Nat.le_of_lt hz1) o) (Nat.le_refl _))
  clear hA hb1 hz1 hB1
  go_wp2_with fail
  refine (Nd.rcheck_any _ zs _ (HV1.out _)).mono ?_
  rintro e W2 ⟨rfl, hW2⟩
  rw [HC.out]
  have hb2 : Below w1.heap.size w1 W2 := by rw [← hW2]; exact (Below.refl _ _).alloc (Nat.le_refl _) _
  have hr6 : W2.heap[w1.heap.size]? = some (.cells (Ld.nilA (Ld.newL k) (Ld.newN k)) 26 (0, 0)) := by rw [← hW2]; exact heap_alloc_new _ _
  have hr4 := (hb2.block w.heap.size HZ.out).trans HA.out
  have HB2 : Hid (Below w.heap.size w W2) := Lib.hid (HB1.out.trans (hb2.mono (Nat.le_of_lt HZ.out)))
  have HV2 := Lib.hid (HV.out.below HB2.out (Nat.le_refl _))
  have HVD := Lib.hid (HV2.out.below ((Below.refl W2.heap.size W2).drew) (Nat.le_refl _))
  rw [HE1.out, HE2.out] at hr6
  have HR4 := Lib.hid hr4
  have HR6 := Lib.hid hr6
  have hzz : w.heap.size < w1.heap.size := HZ.out
  have HZ2 : Hid (w1.heap.size < W2.heap.size) := Lib.hid ((Array.getElem?_eq_some_iff.1 hr6).1)
  have pc0 := (cell_of_row W2 _ 0 _ _ _ hr4).trans rfl
  have pc1 := (cell_of_row W2 _ 1 _ _ _ hr4).trans rfl
  have pc2 := (cell_of_row W2 _ 2 _ _ _ hr4).trans rfl
  have pc3 := (cell_of_row W2 _ 3 _ _ _ hr4).trans rfl
  have pc4 := (cell_of_row W2 _ 4 _ _ _ hr4).trans rfl
  have pc5 := (cell_of_row W2 _ 5 _ _ _ hr4).trans rfl
  have pc6 := (cell_of_row W2 _ 6 _ _ _ hr4).trans rfl
  have pf0 := La.frozen_of (o := 0) hr4
  have pf1 := La.frozen_of (o := 1) hr4
  have pf2 := La.frozen_of (o := 2) hr4
  have pf3 := La.frozen_of (o := 3) hr4
  have pf4 := La.frozen_of (o := 4) hr4
  have pf5 := La.frozen_of (o := 5) hr4
  have pf6 := La.frozen_of (o := 6) hr4
  have py0 := (cell_of_row W2 _ 0 _ _ _ hr6).trans rfl
  have py1 := (cell_of_row W2 _ 1 _ _ _ hr6).trans rfl
  have py2 := (cell_of_row W2 _ 2 _ _ _ hr6).trans rfl
  have py3 := (cell_of_row W2 _ 3 _ _ _ hr6).trans rfl
  clear hb2 hr4 hr6 hW2
  go_wp2_with fail
  go_region_law (refine stepI Try.underlying27 (by kernel_rfl) rfl (.const (.slice none 0 0)) (.tmp 21) rfl W2.heap.size rfl v zs rfl HVD.out HNE.out (by unfold maxLen; exact HML.out) (by omega) (Nat.le_refl _) ?_; intro g5 cp5 w5 hown5 hb5; have hr4 := (hb5.block w.heap.size (by show w.heap.size < W2.heap.size; have := HZ2.out; omega)).trans HR4.out; have hr6 := (hb5.block w1.heap.size (by show w1.heap.size < W2.heap.size; exact HZ2.out)).trans HR6.out; have qc0 := (cell_of_row w5 _ 0 _ _ _ hr4).trans rfl; have qc1 := (cell_of_row w5 _ 1 _ _ _ hr4).trans rfl; have qc2 := (cell_of_row w5 _ 2 _ _ _ hr4).trans rfl; have qc3 := (cell_of_row w5 _ 3 _ _ _ hr4).trans rfl; have qc4 := (cell_of_row w5 _ 4 _ _ _ hr4).trans rfl; have qc5 := (cell_of_row w5 _ 5 _ _ _ hr4).trans rfl; have qc6 := (cell_of_row w5 _ 6 _ _ _ hr4).trans rfl; have qf0 := La.frozen_of (o := 0) hr4; have qf1 := La.frozen_of (o := 1) hr4; have qf2 := La.frozen_of (o := 2) hr4; have qf3 := La.frozen_of (o := 3) hr4; have qf4 := La.frozen_of (o := 4) hr4; have qf5 := La.frozen_of (o := 5) hr4; have qf6 := La.frozen_of (o := 6) hr4; have qy0 := (cell_of_row w5 _ 0 _ _ _ hr6).trans rfl; have qy1 := (cell_of_row w5 _ 1 _ _ _ hr6).trans rfl; have qy2 := (cell_of_row w5 _ 2 _ _ _ hr6).trans rfl; have qy3 := (cell_of_row w5 _ 3 _ _ _ hr6).trans rfl; have HR45 := Lib.hid hr4; have HO5 := Lib.hid hown5; have HB5 := Lib.hid hb5; clear hown5 hb5 hr4 hr6)
  all_goals
    obtain ⟨Wz, hWz⟩ : ∃ Wz, w5.setCells w.heap.size 0 [.int .u64 0, .int .u64 0, .slice (some ⟨g5, 0, none⟩) zs.length cp5, .int .i64 k, .int .u64 1, .slice none 0 0, .slice none 0 0] = Wz := ⟨_, rfl⟩
    have hrz : Wz.heap[w.heap.size]? = some (.cells #[.int .u64 0, .int .u64 0, .slice (some ⟨g5, 0, none⟩) zs.length cp5, .int .i64 k, .int .u64 1, .slice none 0 0, .slice none 0 0] 58 (0, 0)) := by rw [← hWz]; exact row_cells7 HR45.out _ _ _ _ _ _ _
    have hEz : ∀ g, g ≠ w.heap.size → Wz.heap[g]? = w5.heap[g]? := fun g hg => by rw [← hWz]; exact other7 _ _ _ _ hg
    have hBz : Below w.heap.size w Wz := by rw [← hWz]; exact ((HB2.out.drew).trans (HB5.out.mono (by show w.heap.size ≤ W2.heap.size; have := HZ2.out; omega))).trans (below7 _ (Nat.le_refl _) _ _ _)
    have HFIN := Lib.hid (makes_of (k := k) (B := W2.heap.size) (by have := HZ2.out; omega) HO5.out HV.out.wf hEz HWK.out hBz)
    have HRz := Lib.hid hrz
    clear hrz hEz hBz qc0 qc1 qc2 qc3 qc4 qc5 qc6 qf0 qf1 qf2 qf3 qf4 qf5 qf6 qy0 qy1 qy2 qy3
    go_wp2
    change bodyPost _ _ _ _ _ (w5.setCells w.heap.size 0 [.int .u64 0, .int .u64 0, .slice (some ⟨g5, 0, none⟩) zs.length cp5, .int .i64 k, .int .u64 1, .slice none 0 0, .slice none 0 0])
    rw [hWz]
    exact bodyPost_ret (v := .tuple #[.agg #[.int .u64 0, .int .u64 0, .slice (some ⟨g5, 0, none⟩) zs.length cp5, .int .i64 k, .int .u64 1, .slice none 0 0, .slice none 0 0], .int .i64 0]) (results_cell2 rfl _ _ w.heap.size 58 _ (0, 0) _ rfl HRz.out Try.underlying58 rfl (by kernel_rfl) rfl) rfl HFIN.out
def nilS : Sho := ⟨0, 0, [], ⟨0, 0, [], []⟩⟩
open Classical in
noncomputable def shotOf (k : Int) (zs : List Int) : Sho := if newOk k zs then newS k zs else nilS
open Classical in
noncomputable def errOf (k : Int) (zs : List Int) : Int := if newOk k zs then 0 else 1
/-- what New hands back, one made or none -/
def Made (s : Sho) (z : Int) (w : World) (e : Ending) (w' : World) : Prop := ∃ vn, e = .returned (.tuple #[.agg (sArr s vn (.slice none 0 0) (.slice none 0 0)), .int .i64 z]) ∧ OwnI w' w.heap.size vn s.nodes ∧ ((∀ n ∈ s.nodes, (Lit.int .i64 n).wf = true) ∧ s.wf ∧ s.led.held = [] ∧ s.led.last = []) ∧ Below w.heap.size w w'
theorem made_ok {k : Int} {zs : List Int} {w : World} {e : Ending} {w' : World} (h : newOk k zs) (g : Makes k zs w e w') : Made (shotOf k zs) (errOf k zs) w e w' := by
  unfold shotOf errOf
  rw [if_pos h, if_pos h]
  obtain ⟨vn, h1, h2, h3, h4, h5⟩ := g
  exact ⟨vn, h1, h2, ⟨h3, ⟨by show (Lit.int .u64 0).wf = true; decide, by show (Lit.int .u64 0).wf = true; decide, h4, by show (Lit.int .u64 1).wf = true; decide, by simp [newS], by simp [newS]⟩, rfl, rfl⟩, h5⟩
theorem made_no {k : Int} {zs : List Int} {w : World} {e : Ending} {w' : World} (h : ¬ newOk k zs) (g : Fails w e w') : Made (shotOf k zs) (errOf k zs) w e w' := by
  unfold shotOf errOf
  rw [if_neg h, if_neg h]
  exact ⟨_, g.1, OwnK.nil _ _ _ _, ⟨by simp [nilS], ⟨by decide, by decide, by decide, by decide, by simp [nilS], by simp [nilS]⟩, rfl, rfl⟩, g.2⟩
theorem new_all (k : Int) (v : Value) (zs : List Int) (w : World) (h : Sl .i64 w v zs) (hb8 : zs.length * 8 ≤ 140737488351232) : Calls Try.prog 25 #[.int .i64 k, v] w (Made (shotOf k zs) (errOf k zs) w) := by
  by_cases hok : newOk k zs
  · exact (new_ok k v zs w h hok hb8).mono fun e w' g => made_ok hok g
  · exact (new_bad k v zs w h hok).mono fun e w' g => made_no hok g
theorem rnew_all (k : Int) (v : Value) (zs : List Int) (w : World) (h : Sl .i64 w v zs) (hb8 : zs.length * 8 ≤ 140737488351232) : Calls Try.prog 26 #[.int .i64 k, v] w (Made (shotOf k zs) (errOf k zs) w) := by
  by_cases hok : newOk k zs
  · exact (rnew_ok k v zs w h hok hb8).mono fun e w' g => made_ok hok g
  · exact (rnew_bad k v zs w h hok).mono fun e w' g => made_no hok g
theorem shot_one : shotOf 2 [1] = newS 2 [1] ∧ errOf 2 [1] = 0 := by
  have h : newOk 2 [1] := ⟨by decide, by decide⟩
  unfold shotOf errOf
  exact ⟨if_pos h, if_pos h⟩
theorem sArr1 (s : Sho) (a : Option Addr) (n c : Nat) : (sArr s (.slice a n c) (.slice none 0 0) (.slice none 0 0)).all (·.oneCell') = true := by simp [Value.oneCell']
theorem zS_one : zS.all (·.oneCell') = true := sArr1 nilS none 0 0
/-- a snapshot stored into a box of its own -/
theorem boxS (w1 : World) (cs : Array Value) : ∃ W, (w1.alloc (.cells zS 58)).setRow w1.heap.size cs = W ∧ Below w1.heap.size w1 W ∧ W.heap[w1.heap.size]? = some (.cells cs 58 (0, 0)) ∧ W.heap.size = w1.heap.size + 1 ∧ (w1.alloc (.cells zS 58)).heap[w1.heap.size]? = some (.cells zS 58 (0, 0)) :=
  ⟨_, rfl, Ld.below_row ((Below.refl _ _).alloc (Nat.le_refl _) _) (Nat.le_refl _) _, setRow_heap _ _ _ _ _ _ (heap_alloc_new _ _), by simp, heap_alloc_new _ _⟩
end Sh
end Go.Proofs.Ytlkmdoddgfmnbaa
