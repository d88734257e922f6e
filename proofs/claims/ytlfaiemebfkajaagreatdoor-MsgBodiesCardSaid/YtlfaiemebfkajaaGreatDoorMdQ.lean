/- Package msg: read. No condition. Package msg: Decode. Condition: the table octet.steps reads as the program's text lays it. -/
import Derived.Test.YtlfaiemebfkajaaGreatDoorMdO
import Derived.Deep.DeepCutAuto
import Derived.Deep.CutRange
import Derived.Deep.CutBlock
import Derived.Test.YtlfaiemebfkajaaGreatDoorMxM
namespace Go.Proofs.YtlfaiemebfkajaaGreatDoor
open Go.ChangeShapes Go.WideShapes Go.ChangeAt Go.RowKit Go.Deep
set_option linter.unusedVariables false
set_option maxRecDepth 100000
namespace Ms
open Nv Cm Sc Hd Rc
theorem own_keepT {W W' : World} {B sz n : Nat} {v : Value} {xs : List Value} (h : W.ownsRow B 68 sz v n xs) (hk : KeepT W W') : W'.ownsRow B 68 sz v n xs := by
  refine ⟨h.1, ?_⟩
  rcases h.2 with h2 | ⟨g, cap, cur, h2, h3, h4, h5⟩
  · exact .inl h2
  · exact .inr ⟨g, cap, cur, h2, h3, hk _ _ _ h4, h5⟩
/-- a message whose lists are the call's own -/
def OM (B : Nat) (m : Mes) (ve vn vh vl : Value) (rows : List ERow) (W : World) : Prop :=
  OwnR 9 entC 88 W B ve rows ∧ EntsO W B ve.ownBlock rows ∧ rows.map Prod.fst = m.ents ∧ OwnI W B vn m.shot.nodes ∧ OwnR 5 heldC 110 W B vh m.shot.led.held ∧ OwnR 6 lastC 114 W B vl m.shot.led.last ∧ m.wf ∧ ∀ n ∈ m.shot.nodes, (Lit.int .i64 n).wf = true
theorem OM.msg {B : Nat} {m : Mes} {ve vn vh vl : Value} {rows : List ERow} {W : World} (h : OM B m ve vn vh vl rows W) : IsMsg W (.agg (mArr m ve vn vh vl)) m := by
  obtain ⟨h1, h2, h3, h4, h5, h6, h7, h8⟩ := h
  exact ⟨ve, vn, vh, vl, rfl, ⟨rows, h1.sl entC_len, h2.ents, h3⟩, OwnK.sl h4 h8, h5.sl heldC_len, h6.sl lastC_len, h7⟩
theorem OM.blk {B D : Nat} {m : Mes} {ve vn vh vl : Value} {rows : List ERow} {W W' : World} (h : OM B m ve vn vh vl rows W) (hD : D ≤ B) (hb : ∀ q, q < W.heap.size → B ≤ q → W'.heap[q]? = W.heap[q]?) : OM D m ve vn vh vl rows W' := by
  obtain ⟨h1, h2, h3, h4, h5, h6, h7, h8⟩ := h
  have keep : ∀ {e sz n : Nat} {v : Value} {xs : List Value}, W.ownsRow B e sz v n xs → W'.ownsRow D e sz v n xs := fun {e sz n v xs} q => by
    refine ⟨q.1, ?_⟩
    rcases q.2 with q2 | ⟨p, cap, cur, rfl, k3, k4, k5⟩
    · exact .inl q2
    · exact .inr ⟨_, cap, cur, rfl, Nat.le_trans hD k3, (hb _ (row_lt k4) k3).trans k4, k5⟩
  exact ⟨keep h1, fun r hr => ⟨keep (h2 r hr).1, (h2 r hr).2⟩, h3, keep h4, keep h5, keep h6, h7, h8⟩
theorem OM.forms {B : Nat} {m : Mes} {ve vn vh vl : Value} {rows : List ERow} {W : World} (h : OM B m ve vn vh vl rows W) : ∃ a i j b k n c p q d r s, ve = .slice a i j ∧ vn = .slice b k n ∧ vh = .slice c p q ∧ vl = .slice d r s := by
  obtain ⟨a, i, j, ha⟩ := own_formx h.1
  obtain ⟨b, k, n, hb⟩ := own_formx h.2.2.2.1
  obtain ⟨c, p, q, hc⟩ := own_formx h.2.2.2.2.1
  obtain ⟨d, r, s, hd⟩ := own_formx h.2.2.2.2.2.1
  exact ⟨a, i, j, b, k, n, c, p, q, d, r, s, ha, hb, hc, hd⟩
def ReadE (zs : List Int) (w : World) (e : Ending) (w' : World) : Prop := ∃ ve vn vh vl rows, e = .returned (.tuple #[.agg (mArr (readP zs).1 ve vn vh vl), .int .i64 (readP zs).2.2]) ∧ OM w.heap.size (readP zs).1 ve vn vh vl rows w' ∧ Below w.heap.size w w'
theorem read_tail {w W : World} {s : MSt} (h : RD w s W) : ∃ ve vn vh vl rows, W.heap[w.heap.size + 2]? = some (.cells (mArr s.1 ve vn vh vl) 33 (0, 0)) ∧ OM (w.heap.size + 4) s.1 ve vn vh vl rows W := by
  obtain ⟨ve, vn, vh, vl, rows, hM⟩ := h.2.2.1
  exact ⟨ve, vn, vh, vl, rows, hM.1, hM.2⟩
theorem nilM0_wf : nilM0.wf := ⟨by decide, by decide, by decide, by decide, by decide, by decide, by decide, by decide, by decide, by decide, by decide, by simp, by simp⟩
theorem rd_init {v : Value} {zs : List Int} {w : World} (hs : Sl .u8 w v zs) : RD w (nilM0, (zs, 0)) ((((w.alloc (.cells #[v] 22)).alloc (.cells zMB 33)).alloc (.cells zMB 33)).alloc (.cells #[.int .i64 0] 34)) := by
  obtain ⟨a, cap, rfl, -⟩ := id hs
  have e3 : ((w.alloc (.cells #[.slice a zs.length cap] 22)).alloc (.cells zMB 33)).heap.size = w.heap.size + 2 := by simp
  have e4 : (((w.alloc (.cells #[.slice a zs.length cap] 22)).alloc (.cells zMB 33)).alloc (.cells zMB 33)).heap.size = w.heap.size + 3 := by simp
  have k0 : ((((w.alloc (.cells #[.slice a zs.length cap] 22)).alloc (.cells zMB 33)).alloc (.cells zMB 33)).alloc (.cells #[.int .i64 0] 34)).heap[w.heap.size]? = some (.cells #[.slice a zs.length cap] 22 (0, 0)) := by
    rw [heap_alloc_old _ _ (by simp; omega), heap_alloc_old _ _ (by simp; omega), heap_alloc_old _ _ (by simp)]
    exact heap_alloc_new _ _
  have k1 : ((((w.alloc (.cells #[.slice a zs.length cap] 22)).alloc (.cells zMB 33)).alloc (.cells zMB 33)).alloc (.cells #[.int .i64 0] 34)).heap[w.heap.size + 1]? = some (.cells zMB 33 (0, 0)) := by
    rw [heap_alloc_old _ _ (by simp), heap_alloc_old _ _ (by simp)]
    exact heap_alloc2_new _ _ _
  have k2 : ((((w.alloc (.cells #[.slice a zs.length cap] 22)).alloc (.cells zMB 33)).alloc (.cells zMB 33)).alloc (.cells #[.int .i64 0] 34)).heap[w.heap.size + 2]? = some (.cells zMB 33 (0, 0)) := by
    rw [heap_alloc_old _ _ (by simp), ← e3]
    exact heap_alloc_new _ _
  have k3 : ((((w.alloc (.cells #[.slice a zs.length cap] 22)).alloc (.cells zMB 33)).alloc (.cells zMB 33)).alloc (.cells #[.int .i64 0] 34)).heap[w.heap.size + 3]? = some (.cells #[.int .i64 0] 34 (0, 0)) := by
    rw [← e4]
    exact heap_alloc_new _ _
  refine ⟨⟨a, cap, k0, hs⟩, k1, ⟨.slice none 0 0, .slice none 0 0, .slice none 0 0, .slice none 0 0, [], k2, OwnR.nil _ _ _, fun r hr => by simp at hr, rfl, OwnK.nil _ _ _ _, OwnR.nil _ _ _, OwnR.nil _ _ _, ?_, by simp⟩, k3, ?_, by simp⟩
  · exact nilM0_wf
  · exact ((((Below.refl _ _).alloc (Nat.le_refl _) _).alloc (by simp) _).alloc (by simp; omega) _).alloc (by simp; omega) _
theorem RD.store3 {w W : World} {m : Mes} {zs : List Int} {e0 er : Int} (h : RD w (m, (zs, e0)) W) : RD w (m, (zs, er)) (W.setCell ⟨w.heap.size + 3, 0, none⟩ (.int .i64 er)) := by
  obtain ⟨⟨a, cap, h1, h2⟩, h3, h4, h5, h6, h7⟩ := h
  refine ⟨⟨a, cap, (heap_setCell_other _ ⟨w.heap.size + 3, 0, none⟩ _ _ (by simp)).trans h1, h2⟩, (heap_setCell_other _ ⟨w.heap.size + 3, 0, none⟩ _ _ (by simp)).trans h3, h4.cell (by omega) (by omega), ?_, h6.setCell (p := ⟨w.heap.size + 3, 0, none⟩) (Nat.le_add_right _ 3) _, by simp; omega⟩
  rw [heap_setCell_same _ _ 0 _ _ _ h5]; rfl
set_option maxHeartbeats 32000000 in
theorem read_any (v : Value) (zs : List Int) (w : World) (hs : Sl .u8 w v zs) : Calls Tryz.prog 11 #[v] w (ReadE zs w) := by
  obtain ⟨W0, hW0⟩ : ∃ q, ((((w.alloc (.cells #[v] 22)).alloc (.cells zMB 33)).alloc (.cells zMB 33)).alloc (.cells #[.int .i64 0] 34)) = q := ⟨_, rfl⟩
  have HR0 : Hid (RD w (nilM0, (zs, 0)) W0) := Lib.hid (by rw [← hW0]; exact rd_init hs)
  obtain ⟨av, cv, rfl, -⟩ := id hs
  unfold ReadE
  clear hs
  have hc3 : W0.cell? ⟨w.heap.size + 1 + 1 + 1, 0, none⟩ = some (.int .i64 0) := (cell_of_row _ _ 0 _ _ _ HR0.out.2.2.2.1).trans rfl
  have hf3 : W0.frozen? ⟨w.heap.size + 1 + 1 + 1, 0, none⟩ = false := frozen_of_row _ _ 0 _ _ HR0.out.2.2.2.1
  obtain ⟨V0, hV0⟩ : ∃ q, W0.setCell ⟨w.heap.size + 1 + 1 + 1, 0, none⟩ (.int .i64 0) = q := ⟨_, rfl⟩
  have HV0 : Hid (RD w (nilM0, (zs, 0)) V0) := Lib.hid (by rw [← hV0]; exact HR0.out.store3)
  have hmf : ∀ (fn : Fn) (first cap : Array Value) (w : World), (Instr.makeFunc fn first cap).run Tryz.prog w = .ok (.func fn first cap) w := fun _ _ _ _ => rfl
  go_enter Tryz.func11, Tryz.ntmps11
  go_wp2_with (go_at_call 27; refine (mk_kindInto _ _).mono ?_; rintro e wq ⟨rfl, rfl⟩)
  refine (step_kind w _ (V0.alloc (.cells #[.pointer (some ⟨w.heap.size + 2, 0, none⟩)] 65)) V0.heap.size (HV0.out.below ((Below.refl _ _).alloc (Nat.le_refl _) _)) (heap_alloc_new _ _)).mono ?_
  rintro e u1 ⟨rfl, hrd, hkt, -⟩
  have HRu1 := Lib.hid hrd
  have HKu1 : Hid (KeepT V0 u1) := Lib.hid ((KeepT.below ((Below.refl _ _).alloc (Nat.le_refl _) _)).trans hkt)
  clear hrd hkt
  clear hW0 HR0 hV0 hc3 hf3 HV0
  go_wp2_with (go_at_call 28; refine (mk_byteInto _ _).mono ?_; rintro e wq ⟨rfl, rfl⟩)
  refine (step_src w _ (u1.alloc (.cells #[.pointer (some ⟨w.heap.size + 2, 1, none⟩)] 65)) u1.heap.size (HRu1.out.below ((Below.refl _ _).alloc (Nat.le_refl _) _)) (heap_alloc_new _ _)).mono ?_
  rintro e u2 ⟨rfl, hrd, hkt, -⟩
  have HRu2 := Lib.hid hrd
  have HKu2 : Hid (KeepT u1 u2) := Lib.hid ((KeepT.below ((Below.refl _ _).alloc (Nat.le_refl _) _)).trans hkt)
  clear hrd hkt
  go_wp2_with (go_at_call 28; refine (mk_byteInto _ _).mono ?_; rintro e wq ⟨rfl, rfl⟩)
  refine (step_dst w _ (u2.alloc (.cells #[.pointer (some ⟨w.heap.size + 2, 2, none⟩)] 65)) u2.heap.size (HRu2.out.below ((Below.refl _ _).alloc (Nat.le_refl _) _)) (heap_alloc_new _ _)).mono ?_
  rintro e u3 ⟨rfl, hrd, hkt, -⟩
  have HRu3 := Lib.hid hrd
  have HKu3 : Hid (KeepT u2 u3) := Lib.hid ((KeepT.below ((Below.refl _ _).alloc (Nat.le_refl _) _)).trans hkt)
  clear hrd hkt
  have HS3 : Hid (RD w (headP zs) u3) := Lib.hid HRu3.out
  have HLN : Hid ((headP zs).1.ents = []) := Lib.hid (headP_ents zs)
  clear HKu1 HKu2 HKu3 HRu1 HRu2 HRu3
  obtain ⟨s3, hs3⟩ : ∃ q, headP zs = q := ⟨_, rfl⟩
  rw [hs3] at HS3 HLN
  have HEQ3 : Hid (readP zs = endP (fldsP (fieldsM s3.1.kind) s3)) := Lib.hid (by rw [← hs3]; rfl)
  clear hs3
  obtain ⟨ve0, vn0, vh0, vl0, rows0, hrow0, -⟩ := read_tail HS3.out
  obtain ⟨q0, -⟩ := cells16 hrow0
  clear hrow0
  by_cases hk : kindM s3.1.kind
  rotate_left
  · have HK := Lib.hid hk
    have HF0 : Hid (fieldsM s3.1.kind = []) := Lib.hid (by unfold kindM at hk; unfold fieldsM; rw [if_neg (by omega), if_neg (by omega), if_neg (by omega), if_neg (by omega), if_neg (by omega), if_neg (by omega)])
    clear hk
    go_wp2_with fail
    refine (fields_no s3.1.kind _ HK.out).mono ?_
    rintro e w4 ⟨rfl, rfl⟩
    clear q0
    go_wp2
    refine wp_loop_rounds 1 ?_
    rw [rounds_succ]
    go_wp2_with fail
    refine (step_end w _ _ HS3.out).mono ?_
    rintro e we ⟨rfl, hrd, -, -⟩
    have hfin : RD w (readP zs) we := by rw [HEQ3.out, HF0.out]; exact hrd
    obtain ⟨ve, vn, vh, vl, rows, hrow, hom⟩ := read_tail hfin
    obtain ⟨a1, i1, j1, a2, i2, j2, a3, i3, j3, a4, i4, j4, rfl, rfl, rfl, rfl⟩ := hom.forms
    have hz1 := hfin.2.1
    have he3 := hfin.2.2.2.1
    have hbw := hfin.2.2.2.2.1
    obtain ⟨mm, hm1⟩ : ∃ q, (readP zs).1 = q := ⟨_, rfl⟩
    obtain ⟨er, hm2⟩ : ∃ q, (readP zs).2.2 = q := ⟨_, rfl⟩
    rw [hm1] at hrow hom
    rw [hm2] at he3
    have HM1 := Lib.hid hm1
    have HM2 := Lib.hid hm2
    clear hm1 hm2
    obtain ⟨WZ, hWZ⟩ : ∃ q, we.drew.setRow (w.heap.size + 1) (mArr mm (.slice a1 i1 j1) (.slice a2 i2 j2) (.slice a3 i3 j3) (.slice a4 i4 j4)) = q := ⟨_, rfl⟩
    have HQD : Hid (we.drew.heap[w.heap.size + 1]? = some (.cells zMB 33 (0, 0))) := Lib.hid hz1
    have HQZ : Hid (WZ.heap[w.heap.size + 1]? = some (.cells (mArr mm (.slice a1 i1 j1) (.slice a2 i2 j2) (.slice a3 i3 j3) (.slice a4 i4 j4)) 33 (0, 0))) := Lib.hid (by rw [← hWZ]; exact setRow_heap _ _ _ _ _ _ HQD.out)
    have HS0 : Hid (we.drew.heap[w.heap.size + 2]? = some (.cells (mArr mm (.slice a1 i1 j1) (.slice a2 i2 j2) (.slice a3 i3 j3) (.slice a4 i4 j4)) 33 (0, 0)) ∧ we.drew.heap[w.heap.size + 3]? = some (.cells #[.int .i64 er] 34 (0, 0))) := Lib.hid ⟨hrow, he3⟩
    have HSZ : Hid (WZ.heap[w.heap.size + 2]? = some (.cells (mArr mm (.slice a1 i1 j1) (.slice a2 i2 j2) (.slice a3 i3 j3) (.slice a4 i4 j4)) 33 (0, 0)) ∧ WZ.heap[w.heap.size + 3]? = some (.cells #[.int .i64 er] 34 (0, 0))) := Lib.hid (by
      rw [← hWZ]
      exact ⟨(setRow_other _ _ _ _ (by omega)).trans hrow, (setRow_other _ _ _ _ (by omega)).trans he3⟩)
    have HOM : Hid (OM w.heap.size mm (.slice a1 i1 j1) (.slice a2 i2 j2) (.slice a3 i3 j3) (.slice a4 i4 j4) rows WZ) := Lib.hid (by
      rw [← hWZ]
      exact hom.blk (by omega) (fun q hq hB => setRow_other _ _ _ _ (by omega)))
    have HBZ : Hid (Below w.heap.size w WZ) := Lib.hid (by rw [← hWZ]; exact Ld.below_row hbw.drew (by omega) _)
    clear hrd hfin hrow hom hz1 he3 hbw
    go_upto_region 32 with fail
    refine wp_region_held_drew (S := fun wx => wx.heap[w.heap.size + 2]? = some (.cells (mArr mm (.slice a1 i1 j1) (.slice a2 i2 j2) (.slice a3 i3 j3) (.slice a4 i4 j4)) 33 (0, 0)) ∧ wx.heap[w.heap.size + 3]? = some (.cells #[.int .i64 er] 34 (0, 0))) (by kernel_rfl) HS0.out (fun hHeld => ?_)
    refine wpAnyH_take (i := 0) (v := .agg (mArr mm (.slice a1 i1 j1) (.slice a2 i2 j2) (.slice a3 i3 j3) (.slice a4 i4 j4))) rfl (by kernel_rfl) (by kernel_rfl) (by kernel_rfl) (fun _ _ _ h => h) (yieldsIf_load_mid (by rfl) _ _ rfl _ _ rfl (mArr mm (.slice a1 i1 j1) (.slice a2 i2 j2) (.slice a3 i3 j3) (.slice a4 i4 j4)).toList _ (fun w h => rng_of_row h.1) Tryz.underlying33 rfl (by kernel_rfl)) (by assumption) ?_
    simp only [Act.put, List.getElem_toArray, List.getElem_cons_zero, List.setIfInBounds_toArray, List.set_cons_succ, List.set_cons_zero]
    refine wpAnyH_take (i := 1) (v := .int .i64 er) rfl (by kernel_rfl) (by kernel_rfl) (by kernel_rfl) (fun _ _ _ h => h) (Or.inl ⟨by kernel_rfl, ?_⟩) (by assumption) ?_
    · intro wx hSw
      have cc : wx.cell? ⟨w.heap.size + 3, 0, none⟩ = some (.int .i64 er) := (cell_of_row wx _ 0 _ _ _ hSw.2).trans rfl
      clear hSw hHeld
      go_simp
      try first | with_reducible rfl | kernel_rfl
    simp only [Act.put, List.getElem_toArray, List.getElem_cons_succ, List.getElem_cons_zero, List.setIfInBounds_toArray, List.set_cons_succ, List.set_cons_zero]
    refine wpAnyH_ready (rs := [2]) (by kernel_rfl) (by simp) ?_
    refine AllReadyH.cons rfl (fun K hK => ?_) AllReadyH.nil
    rw [if_pos (by kernel_rfl)]
    refine wp_store_row 33 (.tmp 2) (.tmp 84) (by kernel_rfl) (w.heap.size + 1) (mArr mm (.slice a1 i1 j1) (.slice a2 i2 j2) (.slice a3 i3 j3) (.slice a4 i4 j4)) (by kernel_rfl) (by kernel_rfl) 33 zMB HQD.out (by kernel_rfl) (by kernel_rfl) (mArr_one _ _ _ _ _ _ _ _ _ _ _ _ _) ?_
    rw [hWZ]
    clear hHeld
    refine hK.out _ _ HSZ.out (fun hHeld => ?_)
    clear hK K
    refine wpAnyH_take (i := 3) (v := .int .i64 er) rfl (by kernel_rfl) (by kernel_rfl) (by kernel_rfl) (fun _ _ _ h => h) (Or.inl ⟨by kernel_rfl, ?_⟩) (by assumption) ?_
    · intro wx hSw
      clear hSw hHeld
      go_simp
      try first | with_reducible rfl | kernel_rfl
    simp only [Act.put, List.getElem_toArray, List.getElem_cons_succ, List.getElem_cons_zero, List.setIfInBounds_toArray, List.set_cons_succ, List.set_cons_zero]
    refine wpAnyH_done (by kernel_rfl) ?_ _
    clear hHeld
    go_wp2_with fail
    refine bodyPost_ret (v := .tuple #[.agg (mArr mm (.slice a1 i1 j1) (.slice a2 i2 j2) (.slice a3 i3 j3) (.slice a4 i4 j4)), .int .i64 er]) (results_c2 rfl _ _ (w.heap.size + 1) 33 _ (0, 0) _ rfl HQZ.out Tryz.underlying33 rfl (by kernel_rfl) rfl) rfl ?_
    rw [HM1.out, HM2.out]
    exact ⟨_, _, _, _, rows, rfl, HOM.out, HBZ.out⟩
  have HK := Lib.hid hk
  clear hk
  have HFW := Lib.hid (fieldsM_wf s3.1.kind)
  have hf5 : (fieldsM s3.1.kind).length ≤ 5 := fieldsM_len s3.1.kind
  go_wp2_with fail
  refine (fields_own s3.1.kind _ HK.out).mono ?_
  rintro e u4 ⟨⟨fb, fo, fs⟩, fc, rfl, hown4, hb4⟩
  have HR4 : Hid (RD w (fldsP ((fieldsM s3.1.kind).take 0) s3) u4) := Lib.hid (HS3.out.below hb4)
  have HO4 := Lib.hid hown4
  clear hown4 hb4 q0
  go_wp2
  go_loopw [27] (fun i wr => ∃ (k : Nat), k ≤ (fieldsM s3.1.kind).length ∧ i = .int .i64 k ∧ Hid (RD w (fldsP ((fieldsM s3.1.kind).take k) s3) wr) ∧ Hid (OwnK .i64 68 wr u3.heap.size (.slice (some ⟨fb, fo, fs⟩) (fieldsM s3.1.kind).length fc) (fieldsM s3.1.kind))) (fun i _ => (fieldsM s3.1.kind).length - (intOf i).toNat)
  case atStart => exact ⟨0, Nat.zero_le _, rfl, HR4, HO4⟩
  case round =>
    clear HR4 HO4
    obtain ⟨k, hk, rfl, HR, HO⟩ := hrel
    by_cases hlt2 : k < (fieldsM s3.1.kind).length
    · obtain ⟨b, off, hbo, -, hcx⟩ := Sl.at (HO.out.sl HFW.out) (i := k) hlt2
      cases hbo
      have HT := Lib.hid (Nd.take_get hlt2)
      have hfm : 0 ≤ (fieldsM s3.1.kind).getD k 0 ∧ (fieldsM s3.1.kind).getD k 0 ≤ 6 := by
        have q := Nd.mem_get hlt2
        have q2 : ∀ k : Int, ∀ n ∈ fieldsM k, 0 ≤ n ∧ n ≤ 6 := fun k => by
          unfold fieldsM
          repeat' split
          all_goals decide
        exact q2 _ _ q
      have HLE : Hid ((fldsP ((fieldsM s3.1.kind).take k) s3).1.ents.length ≤ 20) := Lib.hid (by
        have q := fldsP_len ((fieldsM s3.1.kind).take k) s3
        rw [HLN.out, List.length_take, Nat.min_eq_left hk] at q
        simp only [List.length_nil] at q
        omega)
      generalize (fieldsM s3.1.kind).getD k 0 = z at *
      obtain ⟨f, rfl⟩ : ∃ f : Nat, z = f := ⟨z.toNat, by omega⟩
      have HSN : Hid (fldsP ((fieldsM s3.1.kind).take (k + 1)) s3 = fldP f (fldsP ((fieldsM s3.1.kind).take k) s3)) := Lib.hid (by rw [HT.out, fldsP_snoc]; rfl)
      obtain ⟨sk, hsk⟩ : ∃ q, fldsP ((fieldsM s3.1.kind).take k) s3 = q := ⟨_, rfl⟩
      rw [hsk] at HR HLE HSN
      clear hsk
      rcases (show f = 0 ∨ f = 1 ∨ f = 2 ∨ f = 3 ∨ f = 4 ∨ f = 5 ∨ f = 6 by omega) with rfl | rfl | rfl | rfl | rfl | rfl | rfl
      · go_wp2_with (go_at_call 30; refine (mk_numberInto _ _).mono ?_; rintro e wq ⟨rfl, rfl⟩)
        refine (step_num0 w _ (wr.alloc (.cells #[.pointer (some ⟨w.heap.size + 2, 3, none⟩)] 70)) wr.heap.size (HR.out.below ((Below.refl _ _).alloc (Nat.le_refl _) _)) (heap_alloc_new _ _)).mono ?_
        rintro e u5 ⟨rfl, hrd, hkt, -⟩
        have HRu5 := Lib.hid hrd
        have HKu5 : Hid (KeepT wr u5) := Lib.hid ((KeepT.below ((Below.refl _ _).alloc (Nat.le_refl _) _)).trans hkt)
        clear hrd hkt
        have HON : Hid (OwnK .i64 68 u5 u3.heap.size (.slice (some ⟨fb, fo, none⟩) (fieldsM s3.1.kind).length fc) (fieldsM s3.1.kind)) := Lib.hid (own_keepT HO.out HKu5.out)
        have HRN : Hid (RD w (fldsP ((fieldsM s3.1.kind).take (k + 1)) s3) u5) := Lib.hid (by rw [HSN.out]; exact HRu5.out)
        go_wp2
        go_roundw
        case rel => exact ⟨k + 1, by omega, by go_num, HRN, HON⟩
        case measure => simp [intOf]; omega
      · go_wp2_with (go_at_call 30; refine (mk_numberInto _ _).mono ?_; rintro e wq ⟨rfl, rfl⟩)
        refine (step_num1 w _ (wr.alloc (.cells #[.pointer (some ⟨w.heap.size + 2, 4, none⟩)] 70)) wr.heap.size (HR.out.below ((Below.refl _ _).alloc (Nat.le_refl _) _)) (heap_alloc_new _ _)).mono ?_
        rintro e u5 ⟨rfl, hrd, hkt, -⟩
        have HRu5 := Lib.hid hrd
        have HKu5 : Hid (KeepT wr u5) := Lib.hid ((KeepT.below ((Below.refl _ _).alloc (Nat.le_refl _) _)).trans hkt)
        clear hrd hkt
        have HON : Hid (OwnK .i64 68 u5 u3.heap.size (.slice (some ⟨fb, fo, none⟩) (fieldsM s3.1.kind).length fc) (fieldsM s3.1.kind)) := Lib.hid (own_keepT HO.out HKu5.out)
        have HRN : Hid (RD w (fldsP ((fieldsM s3.1.kind).take (k + 1)) s3) u5) := Lib.hid (by rw [HSN.out]; exact HRu5.out)
        go_wp2
        go_roundw
        case rel => exact ⟨k + 1, by omega, by go_num, HRN, HON⟩
        case measure => simp [intOf]; omega
      · go_wp2_with (go_at_call 30; refine (mk_numberInto _ _).mono ?_; rintro e wq ⟨rfl, rfl⟩)
        refine (step_num2 w _ (wr.alloc (.cells #[.pointer (some ⟨w.heap.size + 2, 5, none⟩)] 70)) wr.heap.size (HR.out.below ((Below.refl _ _).alloc (Nat.le_refl _) _)) (heap_alloc_new _ _)).mono ?_
        rintro e u5 ⟨rfl, hrd, hkt, -⟩
        have HRu5 := Lib.hid hrd
        have HKu5 : Hid (KeepT wr u5) := Lib.hid ((KeepT.below ((Below.refl _ _).alloc (Nat.le_refl _) _)).trans hkt)
        clear hrd hkt
        have HON : Hid (OwnK .i64 68 u5 u3.heap.size (.slice (some ⟨fb, fo, none⟩) (fieldsM s3.1.kind).length fc) (fieldsM s3.1.kind)) := Lib.hid (own_keepT HO.out HKu5.out)
        have HRN : Hid (RD w (fldsP ((fieldsM s3.1.kind).take (k + 1)) s3) u5) := Lib.hid (by rw [HSN.out]; exact HRu5.out)
        go_wp2
        go_roundw
        case rel => exact ⟨k + 1, by omega, by go_num, HRN, HON⟩
        case measure => simp [intOf]; omega
      · go_wp2_with (go_at_call 30; refine (mk_numberInto _ _).mono ?_; rintro e wq ⟨rfl, rfl⟩)
        refine (step_num3 w _ (wr.alloc (.cells #[.pointer (some ⟨w.heap.size + 2, 6, none⟩)] 70)) wr.heap.size (HR.out.below ((Below.refl _ _).alloc (Nat.le_refl _) _)) (heap_alloc_new _ _)).mono ?_
        rintro e u5 ⟨rfl, hrd, hkt, -⟩
        have HRu5 := Lib.hid hrd
        have HKu5 : Hid (KeepT wr u5) := Lib.hid ((KeepT.below ((Below.refl _ _).alloc (Nat.le_refl _) _)).trans hkt)
        clear hrd hkt
        have HON : Hid (OwnK .i64 68 u5 u3.heap.size (.slice (some ⟨fb, fo, none⟩) (fieldsM s3.1.kind).length fc) (fieldsM s3.1.kind)) := Lib.hid (own_keepT HO.out HKu5.out)
        have HRN : Hid (RD w (fldsP ((fieldsM s3.1.kind).take (k + 1)) s3) u5) := Lib.hid (by rw [HSN.out]; exact HRu5.out)
        go_wp2
        go_roundw
        case rel => exact ⟨k + 1, by omega, by go_num, HRN, HON⟩
        case measure => simp [intOf]; omega
      · go_wp2_with (go_at_call 31; refine (mk_flagInto _ _).mono ?_; rintro e wq ⟨rfl, rfl⟩)
        refine (step_flag w _ (wr.alloc (.cells #[.pointer (some ⟨w.heap.size + 2, 7, none⟩)] 72)) wr.heap.size (HR.out.below ((Below.refl _ _).alloc (Nat.le_refl _) _)) (heap_alloc_new _ _)).mono ?_
        rintro e u5 ⟨rfl, hrd, hkt, -⟩
        have HRu5 := Lib.hid hrd
        have HKu5 : Hid (KeepT wr u5) := Lib.hid ((KeepT.below ((Below.refl _ _).alloc (Nat.le_refl _) _)).trans hkt)
        clear hrd hkt
        have HON : Hid (OwnK .i64 68 u5 u3.heap.size (.slice (some ⟨fb, fo, none⟩) (fieldsM s3.1.kind).length fc) (fieldsM s3.1.kind)) := Lib.hid (own_keepT HO.out HKu5.out)
        have HRN : Hid (RD w (fldsP ((fieldsM s3.1.kind).take (k + 1)) s3) u5) := Lib.hid (by rw [HSN.out]; exact HRu5.out)
        go_wp2
        go_roundw
        case rel => exact ⟨k + 1, by omega, by go_num, HRN, HON⟩
        case measure => simp [intOf]; omega
      · have hb5 : Below wr.heap.size wr (wr.alloc (.cells #[.int .u64 0] 23)) := (Below.refl _ _).alloc (Nat.le_refl _) _
        have HR5 := Lib.hid (HR.out.below hb5)
        have HC5 : Hid (Cnt wr.heap.size 0 (wr.alloc (.cells #[.int .u64 0] 23))) := Lib.hid (heap_alloc_new _ _)
        have HK5 := Lib.hid (KeepT.below hb5)
        have h4 := HR.out.2.2.2.2.2
        clear hb5
        go_wp2_with (go_at_call 32; refine (mk_manyInto _ _).mono ?_; rintro e wq ⟨rfl, rfl⟩)
        have hbq : Below (wr.alloc (.cells #[.int .u64 0] 23)).heap.size (wr.alloc (.cells #[.int .u64 0] 23)) ((wr.alloc (.cells #[.int .u64 0] 23)).alloc (.cells #[.pointer (some ⟨wr.heap.size, 0, none⟩)] 70)) := (Below.refl _ _).alloc (Nat.le_refl _) _
        refine (step_many w sk ((wr.alloc (.cells #[.int .u64 0] 23)).alloc (.cells #[.pointer (some ⟨wr.heap.size, 0, none⟩)] 70)) (wr.heap.size + 1) wr.heap.size (HR5.out.below hbq) (heap_alloc2_new _ _ _) ((hbq.block _ (row_lt HC5.out)).trans HC5.out) h4).mono ?_
        rintro e u5 ⟨rfl, hrd, hkt, hct⟩
        have HR6 := Lib.hid hrd
        have HK6 : Hid (KeepT wr u5) := Lib.hid ((HK5.out.trans (KeepT.below hbq)).trans hkt)
        have cn : u5.cell? ⟨wr.heap.size, 0, none⟩ = some (.int .u64 ((manyP sk.2).1 : Nat)) := (cell_of_row _ _ 0 _ _ _ hct).trans rfl
        have hn4 := manyP_le sk.2
        have HON : Hid (OwnK .i64 68 u5 u3.heap.size (.slice (some ⟨fb, fo, none⟩) (fieldsM s3.1.kind).length fc) (fieldsM s3.1.kind)) := Lib.hid (own_keepT HO.out HK6.out)
        have HSE : Hid (fldP 5 sk = entsP (manyP sk.2).1 (sk.1, (manyP sk.2).2)) := Lib.hid rfl
        obtain ⟨nn, hnn⟩ : ∃ q, (manyP sk.2).1 = q := ⟨_, rfl⟩
        rw [hnn] at cn hn4 HSE
        obtain ⟨sm, hsm⟩ : ∃ q : MSt, (sk.1, (manyP sk.2).2) = q := ⟨_, rfl⟩
        rw [hsm] at HR6 HSE
        have HLM : Hid (sm.1.ents.length ≤ 20) := Lib.hid (by rw [← hsm]; exact HLE.out)
        clear hrd hkt hct hbq HC5 HK5 HR5 hnn hsm
        go_wp2
        obtain ⟨wo, hwo⟩ : ∃ q, q = wr := ⟨_, rfl⟩
        subst hwo
        clear cn
        go_loopw [68] (fun i wr => ∃ (j : Nat), j ≤ nn ∧ i = .int .u64 j ∧ Hid (RD w (entsP j sm) wr) ∧ Hid (OwnK .i64 68 wr u3.heap.size (.slice (some ⟨fb, fo, none⟩) (fieldsM s3.1.kind).length fc) (fieldsM s3.1.kind))) (fun i _ => nn - (intOf i).toNat)
        case atStart => exact ⟨0, Nat.zero_le _, rfl, HR6, HON⟩
        case round =>
          clear HR6 HON
          obtain ⟨j, hj, rfl, HRJ, HOJ⟩ := hrel
          by_cases hlt4 : j < nn
          · have HLJ : Hid ((entsP j sm).1.ents.length ≤ 1000) := Lib.hid (by have q := entsP_len j sm; have := HLM.out; omega)
            go_wp2_with (go_at_call 33; refine (mk_entryInto _ _).mono ?_; rintro e wq ⟨rfl, rfl⟩)
            refine (step_ent w _ (wr.alloc (.cells #[.pointer (some ⟨w.heap.size + 2, 8, none⟩)] 74)) wr.heap.size (HRJ.out.below ((Below.refl _ _).alloc (Nat.le_refl _) _)) (heap_alloc_new _ _) HLJ.out).mono ?_
            rintro e u6 ⟨rfl, hrd, hkt, -⟩
            have HRu6 := Lib.hid hrd
            have HKu6 : Hid (KeepT wr u6) := Lib.hid ((KeepT.below ((Below.refl _ _).alloc (Nat.le_refl _) _)).trans hkt)
            clear hrd hkt
            have HOX : Hid (OwnK .i64 68 u6 u3.heap.size (.slice (some ⟨fb, fo, none⟩) (fieldsM s3.1.kind).length fc) (fieldsM s3.1.kind)) := Lib.hid (own_keepT HOJ.out HKu6.out)
            go_wp2
            go_roundw
            case rel => exact ⟨j + 1, by omega, by go_num, HRu6, HOX⟩
            case measure => simp [intOf]; omega
          · obtain rfl : j = nn := by omega
            have HRN : Hid (RD w (fldsP ((fieldsM s3.1.kind).take (k + 1)) s3) wr) := Lib.hid (by rw [HSN.out, HSE.out]; exact HRJ.out)
            go_wp2
            go_roundw
            case rel => exact ⟨k + 1, by omega, by go_num, HRN, HOJ⟩
            case measure => simp [intOf]; omega
      · go_wp2_with (go_at_call 34; refine (mk_shotInto _ _).mono ?_; rintro e wq ⟨rfl, rfl⟩)
        refine (step_shot w _ (wr.alloc (.cells #[.pointer (some ⟨w.heap.size + 2, 9, none⟩)] 76)) wr.heap.size (HR.out.below ((Below.refl _ _).alloc (Nat.le_refl _) _)) (heap_alloc_new _ _)).mono ?_
        rintro e u5 ⟨rfl, hrd, hkt, -⟩
        have HRu5 := Lib.hid hrd
        have HKu5 : Hid (KeepT wr u5) := Lib.hid ((KeepT.below ((Below.refl _ _).alloc (Nat.le_refl _) _)).trans hkt)
        clear hrd hkt
        have HON : Hid (OwnK .i64 68 u5 u3.heap.size (.slice (some ⟨fb, fo, none⟩) (fieldsM s3.1.kind).length fc) (fieldsM s3.1.kind)) := Lib.hid (own_keepT HO.out HKu5.out)
        have HRN : Hid (RD w (fldsP ((fieldsM s3.1.kind).take (k + 1)) s3) u5) := Lib.hid (by rw [HSN.out]; exact HRu5.out)
        go_wp2
        go_roundw
        case rel => exact ⟨k + 1, by omega, by go_num, HRN, HON⟩
        case measure => simp [intOf]; omega
    · obtain rfl : k = (fieldsM s3.1.kind).length := by omega
      rw [List.take_length] at HR
      go_wp2_with fail
      refine (step_end w _ _ HR.out).mono ?_
      rintro e we ⟨rfl, hrd, -, -⟩
      have hfin : RD w (readP zs) we := by rw [HEQ3.out]; exact hrd
      obtain ⟨ve, vn, vh, vl, rows, hrow, hom⟩ := read_tail hfin
      obtain ⟨a1, i1, j1, a2, i2, j2, a3, i3, j3, a4, i4, j4, rfl, rfl, rfl, rfl⟩ := hom.forms
      have hz1 := hfin.2.1
      have he3 := hfin.2.2.2.1
      have hbw := hfin.2.2.2.2.1
      obtain ⟨mm, hm1⟩ : ∃ q, (readP zs).1 = q := ⟨_, rfl⟩
      obtain ⟨er, hm2⟩ : ∃ q, (readP zs).2.2 = q := ⟨_, rfl⟩
      rw [hm1] at hrow hom
      rw [hm2] at he3
      have HM1 := Lib.hid hm1
      have HM2 := Lib.hid hm2
      clear hm1 hm2
      obtain ⟨WZ, hWZ⟩ : ∃ q, we.drew.setRow (w.heap.size + 1) (mArr mm (.slice a1 i1 j1) (.slice a2 i2 j2) (.slice a3 i3 j3) (.slice a4 i4 j4)) = q := ⟨_, rfl⟩
      have HQD : Hid (we.drew.heap[w.heap.size + 1]? = some (.cells zMB 33 (0, 0))) := Lib.hid hz1
      have HQZ : Hid (WZ.heap[w.heap.size + 1]? = some (.cells (mArr mm (.slice a1 i1 j1) (.slice a2 i2 j2) (.slice a3 i3 j3) (.slice a4 i4 j4)) 33 (0, 0))) := Lib.hid (by rw [← hWZ]; exact setRow_heap _ _ _ _ _ _ HQD.out)
      have HS0 : Hid (we.drew.heap[w.heap.size + 2]? = some (.cells (mArr mm (.slice a1 i1 j1) (.slice a2 i2 j2) (.slice a3 i3 j3) (.slice a4 i4 j4)) 33 (0, 0)) ∧ we.drew.heap[w.heap.size + 3]? = some (.cells #[.int .i64 er] 34 (0, 0))) := Lib.hid ⟨hrow, he3⟩
      have HSZ : Hid (WZ.heap[w.heap.size + 2]? = some (.cells (mArr mm (.slice a1 i1 j1) (.slice a2 i2 j2) (.slice a3 i3 j3) (.slice a4 i4 j4)) 33 (0, 0)) ∧ WZ.heap[w.heap.size + 3]? = some (.cells #[.int .i64 er] 34 (0, 0))) := Lib.hid (by
        rw [← hWZ]
        exact ⟨(setRow_other _ _ _ _ (by omega)).trans hrow, (setRow_other _ _ _ _ (by omega)).trans he3⟩)
      have HOM : Hid (OM w.heap.size mm (.slice a1 i1 j1) (.slice a2 i2 j2) (.slice a3 i3 j3) (.slice a4 i4 j4) rows WZ) := Lib.hid (by
        rw [← hWZ]
        exact hom.blk (by omega) (fun q hq hB => setRow_other _ _ _ _ (by omega)))
      have HBZ : Hid (Below w.heap.size w WZ) := Lib.hid (by rw [← hWZ]; exact Ld.below_row hbw.drew (by omega) _)
      clear hrd hfin hrow hom hz1 he3 hbw
      go_upto_region 32 with fail
      refine wp_region_held_drew (S := fun wx => wx.heap[w.heap.size + 2]? = some (.cells (mArr mm (.slice a1 i1 j1) (.slice a2 i2 j2) (.slice a3 i3 j3) (.slice a4 i4 j4)) 33 (0, 0)) ∧ wx.heap[w.heap.size + 3]? = some (.cells #[.int .i64 er] 34 (0, 0))) (by kernel_rfl) HS0.out (fun hHeld => ?_)
      refine wpAnyH_take (i := 0) (v := .agg (mArr mm (.slice a1 i1 j1) (.slice a2 i2 j2) (.slice a3 i3 j3) (.slice a4 i4 j4))) rfl (by kernel_rfl) (by kernel_rfl) (by kernel_rfl) (fun _ _ _ h => h) (yieldsIf_load_mid (by rfl) _ _ rfl _ _ rfl (mArr mm (.slice a1 i1 j1) (.slice a2 i2 j2) (.slice a3 i3 j3) (.slice a4 i4 j4)).toList _ (fun w h => rng_of_row h.1) Tryz.underlying33 rfl (by kernel_rfl)) (by assumption) ?_
      simp only [Act.put, List.getElem_toArray, List.getElem_cons_zero, List.setIfInBounds_toArray, List.set_cons_succ, List.set_cons_zero]
      refine wpAnyH_take (i := 1) (v := .int .i64 er) rfl (by kernel_rfl) (by kernel_rfl) (by kernel_rfl) (fun _ _ _ h => h) (Or.inl ⟨by kernel_rfl, ?_⟩) (by assumption) ?_
      · intro wx hSw
        have cc : wx.cell? ⟨w.heap.size + 3, 0, none⟩ = some (.int .i64 er) := (cell_of_row wx _ 0 _ _ _ hSw.2).trans rfl
        clear hSw hHeld
        go_simp
        try first | with_reducible rfl | kernel_rfl
      simp only [Act.put, List.getElem_toArray, List.getElem_cons_succ, List.getElem_cons_zero, List.setIfInBounds_toArray, List.set_cons_succ, List.set_cons_zero]
      refine wpAnyH_ready (rs := [2]) (by kernel_rfl) (by simp) ?_
      refine AllReadyH.cons rfl (fun K hK => ?_) AllReadyH.nil
      rw [if_pos (by kernel_rfl)]
      refine wp_store_row 33 (.tmp 2) (.tmp 84) (by kernel_rfl) (w.heap.size + 1) (mArr mm (.slice a1 i1 j1) (.slice a2 i2 j2) (.slice a3 i3 j3) (.slice a4 i4 j4)) (by kernel_rfl) (by kernel_rfl) 33 zMB HQD.out (by kernel_rfl) (by kernel_rfl) (mArr_one _ _ _ _ _ _ _ _ _ _ _ _ _) ?_
      rw [hWZ]
      clear hHeld
      refine hK.out _ _ HSZ.out (fun hHeld => ?_)
      clear hK K
      refine wpAnyH_take (i := 3) (v := .int .i64 er) rfl (by kernel_rfl) (by kernel_rfl) (by kernel_rfl) (fun _ _ _ h => h) (Or.inl ⟨by kernel_rfl, ?_⟩) (by assumption) ?_
      · intro wx hSw
        clear hSw hHeld
        go_simp
        try first | with_reducible rfl | kernel_rfl
      simp only [Act.put, List.getElem_toArray, List.getElem_cons_succ, List.getElem_cons_zero, List.setIfInBounds_toArray, List.set_cons_succ, List.set_cons_zero]
      refine wpAnyH_done (by kernel_rfl) ?_ _
      clear hHeld
      go_wp2_with fail
      refine bodyPost_ret (v := .tuple #[.agg (mArr mm (.slice a1 i1 j1) (.slice a2 i2 j2) (.slice a3 i3 j3) (.slice a4 i4 j4)), .int .i64 er]) (results_c2 rfl _ _ (w.heap.size + 1) 33 _ (0, 0) _ rfl HQZ.out Tryz.underlying33 rfl (by kernel_rfl) rfl) rfl ?_
      rw [HM1.out, HM2.out]
      exact ⟨_, _, _, _, rows, rfl, HOM.out, HBZ.out⟩
end Ms
end Go.Proofs.YtlfaiemebfkajaaGreatDoor
namespace Go.Proofs.YtlfaiemebfkajaaGreatDoor
open Go.ChangeShapes Go.WideShapes Go.ChangeAt Go.RowKit Go.Deep
set_option linter.unusedVariables false
set_option maxRecDepth 100000
namespace Ms
open Nv Cm Sc Hd Rc
/-- what Decode makes of a frame -/
def DecR (zs : List Int) (m : Mes) (z : Int) : Prop := ∃ xs k er, Fr.Opens zs xs k er ∧ ((er ≠ 0 ∧ m = nilM0 ∧ z = er) ∨ (er = 0 ∧ k < zs.length ∧ m = nilM0 ∧ z = 11) ∨ (er = 0 ∧ zs.length ≤ k ∧ (m, z) = decM xs))
def DecME (zs : List Int) (w : World) (e : Ending) (w' : World) : Prop := ∃ m z ve vn vh vl rows, e = .returned (.tuple #[.agg (mArr m ve vn vh vl), .int .i64 z]) ∧ DecR zs m z ∧ OM w.heap.size m ve vn vh vl rows w' ∧ Below w.heap.size w w'
theorem om_nil (B : Nat) (W : World) : OM B nilM0 (.slice none 0 0) (.slice none 0 0) (.slice none 0 0) (.slice none 0 0) [] W :=
  ⟨OwnR.nil _ _ _, fun r hr => by simp at hr, rfl, OwnK.nil _ _ _ _, OwnR.nil _ _ _, OwnR.nil _ _ _, nilM0_wf, by simp⟩
theorem decM_err {xs : List Int} (h : (readP xs).2.2 ≠ 0) : decM xs = (nilM0, (readP xs).2.2) := by unfold decM; rw [if_pos h]
theorem decM_ok {xs : List Int} (h : (readP xs).2.2 = 0) (ok : msgOk (readP xs).1) : decM xs = ((readP xs).1, 0) := by unfold decM; rw [if_neg (by simpa using h), if_pos ok]
theorem decM_no {xs : List Int} (h : (readP xs).2.2 = 0) (ok : ¬ msgOk (readP xs).1) : decM xs = (nilM0, 80) := by unfold decM; rw [if_neg (by simpa using h), if_neg ok]
theorem zMB_one : zMB.all (·.oneCell') = true := by kernel_rfl
set_option maxHeartbeats 8000000 in
theorem dec_any (v : Value) (zs : List Int) (w : World) (hs : Sl .u8 w v zs) (ht : Oc.Tab w) : Calls Tryz.prog 5 #[v] w (DecME zs w) := by
  obtain ⟨a, cap, rfl, -⟩ := id hs
  have hb0 : Below w.heap.size w (w.alloc (.cells zMB 33)) := (Below.refl _ _).alloc (Nat.le_refl _) _
  have HR0 : Hid ((w.alloc (.cells zMB 33)).heap[w.heap.size]? = some (.cells zMB 33 (0, 0))) := Lib.hid (heap_alloc_new _ _)
  have HS0 := Lib.hid (hs.below hb0 (Nat.le_refl _))
  have HT0 := Lib.hid (ht.below hb0 (Nat.le_refl _))
  have HB0 := Lib.hid hb0
  have hlen := hs.len
  unfold maxLen at hlen
  clear hs ht hb0
  go_enter Tryz.func5, Tryz.ntmps5
  go_wp2_with fail
  refine (Fr.open_any _ _ _ HS0.out HT0.out).mono ?_
  rintro e w1 ⟨v1, ys, k, er, rfl, hop, -, hs1, hb1⟩
  have HOP := Lib.hid hop
  have hr1 := (hb1.block _ (row_lt HR0.out)).trans HR0.out
  have HR1 := Lib.hid hr1
  have HB1 := Lib.hid (HB0.out.trans (hb1.mono HB0.out.size))
  have HS1 := Lib.hid hs1
  clear hop hb1 hs1
  by_cases he : er = 0
  rotate_left
  · have HE := Lib.hid he
    have he0 : (er != 0) = true := bne_t he
    clear he
    go_wp2_with (refine wpList_store_row rfl 33 (.tmp 2) (.tmp 16) rfl w.heap.size zMB rfl rfl 33 _ hr1 (by kernel_rfl) rfl zMB_one ?_)
    refine bodyPost_ret (v := .tuple #[.agg zMB, .int .i64 er]) (results_c2 rfl _ _ w.heap.size 33 _ (0, 0) _ rfl (setRow_heap _ _ _ _ _ _ hr1) Tryz.underlying33 rfl (by kernel_rfl) rfl) rfl ?_
    exact ⟨nilM0, er, _, _, _, _, [], rfl, ⟨ys, k, er, HOP.out, .inl ⟨HE.out, rfl, rfl⟩⟩, om_nil _ _, Ld.below_row HB1.out (Nat.le_refl _) _⟩
  subst he
  by_cases hk : k < zs.length
  · have hki : (k : Int) < (zs.length : Int) := by omega
    go_wp2_with (refine wpList_store_row rfl 33 (.tmp 2) (.tmp 22) rfl w.heap.size zMB rfl rfl 33 _ hr1 (by kernel_rfl) rfl zMB_one ?_)
    refine bodyPost_ret (v := .tuple #[.agg zMB, .int .i64 11]) (results_c2 rfl _ _ w.heap.size 33 _ (0, 0) _ rfl (setRow_heap _ _ _ _ _ _ hr1) Tryz.underlying33 rfl (by kernel_rfl) rfl) rfl ?_
    exact ⟨nilM0, 11, _, _, _, _, [], rfl, ⟨ys, k, 0, HOP.out, .inr (.inl ⟨rfl, hk, rfl, rfl⟩)⟩, om_nil _ _, Ld.below_row HB1.out (Nat.le_refl _) _⟩
  have hki : (zs.length : Int) ≤ (k : Int) := by omega
  have HK : Hid (zs.length ≤ k) := Lib.hid (by omega)
  clear hk hr1
  go_wp2_with fail
  refine (read_any v1 ys _ HS1.out).mono ?_
  rintro e w2 ⟨ve, vn, vh, vl, rows, rfl, hom, hb2⟩
  obtain ⟨a1, i1, j1, a2, i2, j2, a3, i3, j3, a4, i4, j4, rfl, rfl, rfl, rfl⟩ := hom.forms
  obtain ⟨mm, hmm⟩ : ∃ q, (readP ys).1 = q := ⟨_, rfl⟩
  obtain ⟨er, her⟩ : ∃ q, (readP ys).2.2 = q := ⟨_, rfl⟩
  rw [hmm] at hom
  have HMM := Lib.hid hmm
  have HER := Lib.hid her
  rw [hmm, her]
  have HOM := Lib.hid hom
  have HR2 := Lib.hid ((hb2.block _ (row_lt HR1.out)).trans HR1.out)
  have HB2 := Lib.hid (HB1.out.trans (hb2.mono HB1.out.size))
  have HZ : Hid (w.heap.size < w1.heap.size ∧ w1.heap.size ≤ w2.heap.size) := Lib.hid ⟨row_lt HR1.out, hb2.size⟩
  have hst : (w2.alloc (.cells zMB 33)).heap[w2.heap.size]? = some (.cells zMB 33 (0, 0)) := heap_alloc_new _ _
  obtain ⟨W3, hW3⟩ : ∃ q, (w2.alloc (.cells zMB 33)).setRow w2.heap.size (mArr mm (.slice a1 i1 j1) (.slice a2 i2 j2) (.slice a3 i3 j3) (.slice a4 i4 j4)) = q := ⟨_, rfl⟩
  have hb3 : Below w2.heap.size w2 W3 := by rw [← hW3]; exact Ld.below_row ((Below.refl _ _).alloc (Nat.le_refl _) _) (Nat.le_refl _) _
  have hq3 : W3.heap[w2.heap.size]? = some (.cells (mArr mm (.slice a1 i1 j1) (.slice a2 i2 j2) (.slice a3 i3 j3) (.slice a4 i4 j4)) 33 (0, 0)) := by rw [← hW3]; exact setRow_heap _ _ _ _ _ _ hst
  have HOM3 : Hid (OM w1.heap.size mm (.slice a1 i1 j1) (.slice a2 i2 j2) (.slice a3 i3 j3) (.slice a4 i4 j4) rows W3) := Lib.hid (hom.blk (Nat.le_refl _) (fun q hq _ => hb3.block q hq))
  have hr3 := (hb3.block _ (row_lt HR2.out)).trans HR2.out
  have HR3 := Lib.hid hr3
  have HQ3 := Lib.hid hq3
  have HB3 := Lib.hid (HB2.out.trans (hb3.mono HB2.out.size))
  have hone := mArr_one mm a1 a2 a3 a4 i1 j1 i2 j2 i3 j3 i4 j4
  clear hmm her hom hb2 hb3
  by_cases he : er = 0
  rotate_left
  · have HE := Lib.hid he
    have he0 : (er != 0) = true := bne_t he
    have he1 : (er == 0) = false := beq_f he
    clear he
    have HD : Hid (decM ys = (nilM0, er)) := Lib.hid (by rw [decM_err (by rw [HER.out]; exact HE.out), HER.out])
    go_wp2_with (first
      | (refine wpList_store_row rfl 33 (.tmp 7) (.tmp 26) rfl w2.heap.size (mArr mm (.slice a1 i1 j1) (.slice a2 i2 j2) (.slice a3 i3 j3) (.slice a4 i4 j4)) rfl rfl 33 _ hst (by kernel_rfl) rfl hone ?_; rw [hW3]; clear hW3 hst)
      | (refine wpList_store_row rfl 33 (.tmp 2) (.tmp 34) rfl w.heap.size zMB rfl rfl 33 _ hr3 (by kernel_rfl) rfl zMB_one ?_))
    refine bodyPost_ret (v := .tuple #[.agg zMB, .int .i64 er]) (results_c2 rfl _ _ w.heap.size 33 _ (0, 0) _ rfl (setRow_heap _ _ _ _ _ _ hr3) Tryz.underlying33 rfl (by kernel_rfl) rfl) rfl ?_
    exact ⟨nilM0, er, _, _, _, _, [], rfl, ⟨ys, k, 0, HOP.out, .inr (.inr ⟨rfl, HK.out, HD.out.symm⟩)⟩, om_nil _ _, Ld.below_row HB3.out (Nat.le_refl _) _⟩
  subst he
  go_wp2_with (first
    | (refine wpList_store_row rfl 33 (.tmp 7) (.tmp 26) rfl w2.heap.size (mArr mm (.slice a1 i1 j1) (.slice a2 i2 j2) (.slice a3 i3 j3) (.slice a4 i4 j4)) rfl rfl 33 _ hst (by kernel_rfl) rfl hone ?_; rw [hW3]; clear hW3 hst)
    | (refine wpList_load_row rfl 33 (.tmp 7) rfl w2.heap.size rfl 33 (mArr mm (.slice a1 i1 j1) (.slice a2 i2 j2) (.slice a3 i3 j3) (.slice a4 i4 j4)) (0, 0) _ hq3 Tryz.underlying33 rfl (by kernel_rfl) ?_))
  refine (check_any mm _ _ HOM3.out.msg).mono ?_
  rintro e w4 ⟨z, rfl, hz, hb4⟩
  have hq4 := (hb4.block _ (row_lt HQ3.out)).trans HQ3.out
  have hr4 := (hb4.block _ (row_lt HR3.out)).trans HR3.out
  have HB4 := Lib.hid (HB3.out.trans (hb4.mono HB3.out.size))
  have HOM4 : Hid (OM w1.heap.size mm (.slice a1 i1 j1) (.slice a2 i2 j2) (.slice a3 i3 j3) (.slice a4 i4 j4) rows w4) := Lib.hid (HOM3.out.blk (Nat.le_refl _) (fun q hq _ => hb4.block q hq))
  clear hq3 hr3 hb4
  rcases hz with ⟨rfl, hok⟩ | ⟨rfl, hno⟩
  · have HD : Hid (decM ys = (mm, 0)) := Lib.hid (by rw [decM_ok HER.out (by rw [HMM.out]; exact hok), HMM.out])
    have HFO : Hid (OM w.heap.size mm (.slice a1 i1 j1) (.slice a2 i2 j2) (.slice a3 i3 j3) (.slice a4 i4 j4) rows (w4.setRow w.heap.size (mArr mm (.slice a1 i1 j1) (.slice a2 i2 j2) (.slice a3 i3 j3) (.slice a4 i4 j4)))) := Lib.hid (HOM4.out.blk (by have := HZ.out; omega) (fun q hq hB => setRow_other _ _ _ _ (by have := HZ.out; omega)))
    clear hok
    go_wp2_with (first
      | (refine wpList_load_row rfl 33 (.tmp 7) rfl w2.heap.size rfl 33 (mArr mm (.slice a1 i1 j1) (.slice a2 i2 j2) (.slice a3 i3 j3) (.slice a4 i4 j4)) (0, 0) _ hq4 Tryz.underlying33 rfl (by kernel_rfl) ?_)
      | (refine wpList_store_row rfl 33 (.tmp 2) (.tmp 36) rfl w.heap.size (mArr mm (.slice a1 i1 j1) (.slice a2 i2 j2) (.slice a3 i3 j3) (.slice a4 i4 j4)) rfl rfl 33 _ hr4 (by kernel_rfl) rfl hone ?_))
    refine bodyPost_ret (v := .tuple #[.agg (mArr mm (.slice a1 i1 j1) (.slice a2 i2 j2) (.slice a3 i3 j3) (.slice a4 i4 j4)), .int .i64 0]) (results_c2 rfl _ _ w.heap.size 33 _ (0, 0) _ rfl (setRow_heap _ _ _ _ _ _ hr4) Tryz.underlying33 rfl (by kernel_rfl) rfl) rfl ?_
    exact ⟨mm, 0, _, _, _, _, rows, rfl, ⟨ys, k, 0, HOP.out, .inr (.inr ⟨rfl, HK.out, HD.out.symm⟩)⟩, HFO.out, Ld.below_row HB4.out (Nat.le_refl _) _⟩
  · have HD : Hid (decM ys = (nilM0, 80)) := Lib.hid (decM_no HER.out (by rw [HMM.out]; exact hno))
    clear hno
    go_wp2_with (refine wpList_store_row rfl 33 (.tmp 2) (.tmp 34) rfl w.heap.size zMB rfl rfl 33 _ hr4 (by kernel_rfl) rfl zMB_one ?_)
    refine bodyPost_ret (v := .tuple #[.agg zMB, .int .i64 80]) (results_c2 rfl _ _ w.heap.size 33 _ (0, 0) _ rfl (setRow_heap _ _ _ _ _ _ hr4) Tryz.underlying33 rfl (by kernel_rfl) rfl) rfl ?_
    exact ⟨nilM0, 80, _, _, _, _, [], rfl, ⟨ys, k, 0, HOP.out, .inr (.inr ⟨rfl, HK.out, HD.out.symm⟩)⟩, om_nil _ _, Ld.below_row HB4.out (Nat.le_refl _) _⟩
end Ms
end Go.Proofs.YtlfaiemebfkajaaGreatDoor
