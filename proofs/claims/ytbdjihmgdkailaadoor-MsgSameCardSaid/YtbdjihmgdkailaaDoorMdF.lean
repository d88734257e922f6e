/- Package msg: Decode. Condition: the table octet.steps reads as the program's text lays it. -/
import Derived.Test.YtbdjihmgdkailaaDoorMdE
import Derived.Test.YtbdjihmgdkailaaDoorMxD
namespace Go.Proofs.YtbdjihmgdkailaaDoor
open Go.ChangeShapes Go.WideShapes Go.ChangeAt Go.RowKit Go.Deep
set_option linter.unusedVariables false
set_option maxRecDepth 100000
namespace Ms
open Nv Cm Sc Hd Rc
/-- what Decode makes of a frame -/
def DecR (zs : List Int) (m : Mes) (z : Int) : Prop := ∃ xs k er, Fr.Opens zs xs k er ∧ ((er ≠ 0 ∧ m = nilM0 ∧ z = er) ∨ (er = 0 ∧ k < zs.length ∧ m = nilM0 ∧ z = 11) ∨ (er = 0 ∧ zs.length ≤ k ∧ (m, z) = decM xs))
def DecME (zs : List Int) (w : World) (e : Ending) (w' : World) : Prop := ∃ m z ve vn vh vl rows, e = .returned (.tuple #[.agg (mArr m ve vn vh vl), .int .i64 z]) ∧ DecR zs m z ∧ OM w.heap.size m ve vn vh vl rows w' ∧ Below w.heap.size w w'
theorem om_nil (B : Nat) (W : World) : OM B nilM0 (.slice none 0 0) (.slice none 0 0) (.slice none 0 0) (.slice none 0 0) [] W :=
  ⟨OwnR.nil _ _ _, fun r hr => by simp at hr, rfl, OwnK.nil _ _ _ _, OwnR.nil _ _ _, OwnR.nil _ _ _, nilM0_wf, by simp⟩
theorem decM_err {xs : List Int} (h : (readP xs).2.2 ≠ 0) : decM xs = (nilM0, (readP xs).2.2) := by unfold decM; rw [if_pos h]
theorem decM_ok {xs : List Int} (h : (readP xs).2.2 = 0) (ok : msgOk (readP xs).1) : decM xs = ((readP xs).1, 0) := by unfold decM; rw [if_neg (by simpa using h), if_pos ok]
theorem decM_no {xs : List Int} (h : (readP xs).2.2 = 0) (ok : ¬ msgOk (readP xs).1) : decM xs = (nilM0, 80) := by unfold decM; rw [if_neg (by simpa using h), if_neg ok]
theorem zMB_one : zMB.all (·.oneCell') = true := by kernel_rfl
set_option maxHeartbeats 8000000 in
theorem dec_any (v : Value) (zs : List Int) (w : World) (hs : Sl .u8 w v zs) (ht : Oc.Tab w) : Calls Tryd.prog 11 #[v] w (DecME zs w) := by
  obtain ⟨a, cap, rfl, -⟩ := id hs
  have hb0 : Below w.heap.size w (w.alloc (.cells zMB 32)) := (Below.refl _ _).alloc (Nat.le_refl _) _
  have HR0 : Hid ((w.alloc (.cells zMB 32)).heap[w.heap.size]? = some (.cells zMB 32 (0, 0))) := Lib.hid (heap_alloc_new _ _)
  have HS0 := Lib.hid (hs.below hb0 (Nat.le_refl _))
  have HT0 := Lib.hid (ht.below hb0 (Nat.le_refl _))
  have HB0 := Lib.hid hb0
  have hlen := hs.len
  unfold maxLen at hlen
  clear hs ht hb0
  go_enter Tryd.func11, Tryd.ntmps11
  go_wp2_with fail
  refine (Fr.open_any _ _ _ HS0.out HT0.out).mono ?_
  rintro e w1 ⟨v1, ys, k, er, rfl, hop, -, hs1, hb1⟩
  have HOP := Lib.hid hop
  have hr1 := (hb1.block _ (row_lt HR0.out)).trans HR0.out
  have HR1 := Lib.hid hr1
  have HB1 := Lib.hid (HB0.out.trans (hb1.mono HB0.out.size))
  have HS1 := Lib.hid hs1
  clear hop hb1 hs1
  by_cases he : er = 0
  rotate_left
  · have HE := Lib.hid he
    have he0 : (er != 0) = true := bne_t he
    clear he
    go_wp2_with (refine wpList_store_row rfl 32 (.tmp 2) (.tmp 16) rfl w.heap.size zMB rfl rfl 32 _ hr1 (by kernel_rfl) rfl zMB_one ?_)
    refine bodyPost_ret (v := .tuple #[.agg zMB, .int .i64 er]) (results_c2 rfl _ _ w.heap.size 32 _ (0, 0) _ rfl (setRow_heap _ _ _ _ _ _ hr1) Tryd.underlying32 rfl (by kernel_rfl) rfl) rfl ?_
    exact ⟨nilM0, er, _, _, _, _, [], rfl, ⟨ys, k, er, HOP.out, .inl ⟨HE.out, rfl, rfl⟩⟩, om_nil _ _, Ld.below_row HB1.out (Nat.le_refl _) _⟩
  subst he
  by_cases hk : k < zs.length
  · have hki : (k : Int) < (zs.length : Int) := by omega
    go_wp2_with (refine wpList_store_row rfl 32 (.tmp 2) (.tmp 22) rfl w.heap.size zMB rfl rfl 32 _ hr1 (by kernel_rfl) rfl zMB_one ?_)
    refine bodyPost_ret (v := .tuple #[.agg zMB, .int .i64 11]) (results_c2 rfl _ _ w.heap.size 32 _ (0, 0) _ rfl (setRow_heap _ _ _ _ _ _ hr1) Tryd.underlying32 rfl (by kernel_rfl) rfl) rfl ?_
    exact ⟨nilM0, 11, _, _, _, _, [], rfl, ⟨ys, k, 0, HOP.out, .inr (.inl ⟨rfl, hk, rfl, rfl⟩)⟩, om_nil _ _, Ld.below_row HB1.out (Nat.le_refl _) _⟩
  have hki : (zs.length : Int) ≤ (k : Int) := by omega
  have HK : Hid (zs.length ≤ k) := Lib.hid (by omega)
  clear hk hr1
  go_wp2_with fail
  refine (read_any v1 ys _ HS1.out).mono ?_
  rintro e w2 ⟨ve, vn, vh, vl, rows, rfl, hom, hb2⟩
  obtain ⟨a1, i1, j1, a2, i2, j2, a3, i3, j3, a4, i4, j4, rfl, rfl, rfl, rfl⟩ := hom.forms
  obtain ⟨mm, hmm⟩ : ∃ q, (readP ys).1 = q := ⟨_, rfl⟩
  obtain ⟨er, her⟩ : ∃ q, (readP ys).2.2 = q := ⟨_, rfl⟩
  rw [hmm] at hom
  have HMM := Lib.hid hmm
  have HER := Lib.hid her
  rw [hmm, her]
  have HOM := Lib.hid hom
  have HR2 := Lib.hid ((hb2.block _ (row_lt HR1.out)).trans HR1.out)
  have HB2 := Lib.hid (HB1.out.trans (hb2.mono HB1.out.size))
  have HZ : Hid (w.heap.size < w1.heap.size ∧ w1.heap.size ≤ w2.heap.size) := Lib.hid ⟨row_lt HR1.out, hb2.size⟩
  have hst : (w2.alloc (.cells zMB 32)).heap[w2.heap.size]? = some (.cells zMB 32 (0, 0)) := heap_alloc_new _ _
  obtain ⟨W3, hW3⟩ : ∃ q, (w2.alloc (.cells zMB 32)).setRow w2.heap.size (mArr mm (.slice a1 i1 j1) (.slice a2 i2 j2) (.slice a3 i3 j3) (.slice a4 i4 j4)) = q := ⟨_, rfl⟩
  have hb3 : Below w2.heap.size w2 W3 := by rw [← hW3]; exact Ld.below_row ((Below.refl _ _).alloc (Nat.le_refl _) _) (Nat.le_refl _) _
  have hq3 : W3.heap[w2.heap.size]? = some (.cells (mArr mm (.slice a1 i1 j1) (.slice a2 i2 j2) (.slice a3 i3 j3) (.slice a4 i4 j4)) 32 (0, 0)) := by rw [← hW3]; exact setRow_heap _ _ _ _ _ _ hst
  have HOM3 : Hid (OM w1.heap.size mm (.slice a1 i1 j1) (.slice a2 i2 j2) (.slice a3 i3 j3) (.slice a4 i4 j4) rows W3) := Lib.hid (hom.blk (Nat.le_refl _) (fun q hq _ => hb3.block q hq))
  have hr3 := (hb3.block _ (row_lt HR2.out)).trans HR2.out
  have HR3 := Lib.hid hr3
  have HQ3 := Lib.hid hq3
  have HB3 := Lib.hid (HB2.out.trans (hb3.mono HB2.out.size))
  have hone := mArr_one mm a1 a2 a3 a4 i1 j1 i2 j2 i3 j3 i4 j4
  clear hmm her hom hb2 hb3
  by_cases he : er = 0
  rotate_left
  · have HE := Lib.hid he
    have he0 : (er != 0) = true := bne_t he
    have he1 : (er == 0) = false := beq_f he
    clear he
    have HD : Hid (decM ys = (nilM0, er)) := Lib.hid (by rw [decM_err (by rw [HER.out]; exact HE.out), HER.out])
    go_wp2_with (first
      | (refine wpList_store_row rfl 32 (.tmp 7) (.tmp 26) rfl w2.heap.size (mArr mm (.slice a1 i1 j1) (.slice a2 i2 j2) (.slice a3 i3 j3) (.slice a4 i4 j4)) rfl rfl 32 _ hst (by kernel_rfl) rfl hone ?_; rw [hW3]; clear hW3 hst)
      | (refine wpList_store_row rfl 32 (.tmp 2) (.tmp 34) rfl w.heap.size zMB rfl rfl 32 _ hr3 (by kernel_rfl) rfl zMB_one ?_))
    refine bodyPost_ret (v := .tuple #[.agg zMB, .int .i64 er]) (results_c2 rfl _ _ w.heap.size 32 _ (0, 0) _ rfl (setRow_heap _ _ _ _ _ _ hr3) Tryd.underlying32 rfl (by kernel_rfl) rfl) rfl ?_
    exact ⟨nilM0, er, _, _, _, _, [], rfl, ⟨ys, k, 0, HOP.out, .inr (.inr ⟨rfl, HK.out, HD.out.symm⟩)⟩, om_nil _ _, Ld.below_row HB3.out (Nat.le_refl _) _⟩
  subst he
  go_wp2_with (first
    | (refine wpList_store_row rfl 32 (.tmp 7) (.tmp 26) rfl w2.heap.size (mArr mm (.slice a1 i1 j1) (.slice a2 i2 j2) (.slice a3 i3 j3) (.slice a4 i4 j4)) rfl rfl 32 _ hst (by kernel_rfl) rfl hone ?_; rw [hW3]; clear hW3 hst)
    | (refine wpList_load_row rfl 32 (.tmp 7) rfl w2.heap.size rfl 32 (mArr mm (.slice a1 i1 j1) (.slice a2 i2 j2) (.slice a3 i3 j3) (.slice a4 i4 j4)) (0, 0) _ hq3 Tryd.underlying32 rfl (by kernel_rfl) ?_))
  refine (check_any mm _ _ HOM3.out.msg).mono ?_
  rintro e w4 ⟨z, rfl, hz, hb4⟩
  have hq4 := (hb4.block _ (row_lt HQ3.out)).trans HQ3.out
  have hr4 := (hb4.block _ (row_lt HR3.out)).trans HR3.out
  have HB4 := Lib.hid (HB3.out.trans (hb4.mono HB3.out.size))
  have HOM4 : Hid (OM w1.heap.size mm (.slice a1 i1 j1) (.slice a2 i2 j2) (.slice a3 i3 j3) (.slice a4 i4 j4) rows w4) := Lib.hid (HOM3.out.blk (Nat.le_refl _) (fun q hq _ => hb4.block q hq))
  clear hq3 hr3 hb4
  rcases hz with ⟨rfl, hok⟩ | ⟨rfl, hno⟩
  · have HD : Hid (decM ys = (mm, 0)) := Lib.hid (by rw [decM_ok HER.out (by rw [HMM.out]; exact hok), HMM.out])
    have HFO : Hid (OM w.heap.size mm (.slice a1 i1 j1) (.slice a2 i2 j2) (.slice a3 i3 j3) (.slice a4 i4 j4) rows (w4.setRow w.heap.size (mArr mm (.slice a1 i1 j1) (.slice a2 i2 j2) (.slice a3 i3 j3) (.slice a4 i4 j4)))) := Lib.hid (HOM4.out.blk (by have := HZ.out; omega) (fun q hq hB => setRow_other _ _ _ _ (by have := HZ.out; omega)))
    clear hok
    go_wp2_with (first
      | (refine wpList_load_row rfl 32 (.tmp 7) rfl w2.heap.size rfl 32 (mArr mm (.slice a1 i1 j1) (.slice a2 i2 j2) (.slice a3 i3 j3) (.slice a4 i4 j4)) (0, 0) _ hq4 Tryd.underlying32 rfl (by kernel_rfl) ?_)
      | (refine wpList_store_row rfl 32 (.tmp 2) (.tmp 36) rfl w.heap.size (mArr mm (.slice a1 i1 j1) (.slice a2 i2 j2) (.slice a3 i3 j3) (.slice a4 i4 j4)) rfl rfl 32 _ hr4 (by kernel_rfl) rfl hone ?_))
    refine bodyPost_ret (v := .tuple #[.agg (mArr mm (.slice a1 i1 j1) (.slice a2 i2 j2) (.slice a3 i3 j3) (.slice a4 i4 j4)), .int .i64 0]) (results_c2 rfl _ _ w.heap.size 32 _ (0, 0) _ rfl (setRow_heap _ _ _ _ _ _ hr4) Tryd.underlying32 rfl (by kernel_rfl) rfl) rfl ?_
    exact ⟨mm, 0, _, _, _, _, rows, rfl, ⟨ys, k, 0, HOP.out, .inr (.inr ⟨rfl, HK.out, HD.out.symm⟩)⟩, HFO.out, Ld.below_row HB4.out (Nat.le_refl _) _⟩
  · have HD : Hid (decM ys = (nilM0, 80)) := Lib.hid (decM_no HER.out (by rw [HMM.out]; exact hno))
    clear hno
    go_wp2_with (refine wpList_store_row rfl 32 (.tmp 2) (.tmp 34) rfl w.heap.size zMB rfl rfl 32 _ hr4 (by kernel_rfl) rfl zMB_one ?_)
    refine bodyPost_ret (v := .tuple #[.agg zMB, .int .i64 80]) (results_c2 rfl _ _ w.heap.size 32 _ (0, 0) _ rfl (setRow_heap _ _ _ _ _ _ hr4) Tryd.underlying32 rfl (by kernel_rfl) rfl) rfl ?_
    exact ⟨nilM0, 80, _, _, _, _, [], rfl, ⟨ys, k, 0, HOP.out, .inr (.inr ⟨rfl, HK.out, HD.out.symm⟩)⟩, om_nil _ _, Ld.below_row HB4.out (Nat.le_refl _) _⟩
end Ms
end Go.Proofs.YtbdjihmgdkailaaDoor
