/- The document's own fields, has, node and zero of a message. No condition. The document's own entries and put of a message. No condition. The document's own Check of a message. No condition. -/
import Derived.Test.YtlfaiemebfkajaaGreatDoorMsV
import Derived.Test.YtlfaiemebfkajaaGreatDoorCmB
import Derived.Test.YtlfaiemebfkajaaGreatDoorSmE
import Derived.Test.YtlfaiemebfkajaaGreatDoorCmdKJ
import Derived.Test.YtlfaiemebfkajaaGreatDoorShR
import Derived.Deep.DeepCutAuto
import Derived.Deep.CutRange
import Derived.Deep.CutBlock
namespace Go.Proofs.YtlfaiemebfkajaaGreatDoor
open Go.ChangeShapes Go.WideShapes Go.ChangeAt Go.RowKit Go.Deep
set_option linter.unusedVariables false
set_option maxRecDepth 100000
namespace Ms
open Nv
def fieldT (k : Int) : ByteArray := if k = 1 then ⟨#[116, 105, 108]⟩ else if k = 2 then ⟨#[116, 102]⟩ else if k = 3 then ⟨#[116, 105, 108, 99, 101]⟩ else if k = 4 then ⟨#[116, 102, 105]⟩ else if k = 5 then ⟨#[116, 115]⟩ else if k = 6 then ⟨#[101]⟩ else ⟨#[]⟩
theorem ret_s {s t : ByteArray} (h : s = t) : Ending.returned (.string s) = .returned (.string t) := by rw [h]
theorem fieldT_no {k : Int} (h : ¬ kindM k) : fieldT k = ⟨#[]⟩ := by
  unfold kindM at h
  unfold fieldT; rw [if_neg (by omega), if_neg (by omega), if_neg (by omega), if_neg (by omega), if_neg (by omega), if_neg (by omega)]
set_option maxHeartbeats 800000 in
theorem rfields_any (k : Int) (w : World) : Calls Tryz.prog 41 #[.int .i64 k] w fun e w' => e = .returned (.string (fieldT k)) ∧ w = w' := by
  by_cases h : kindM k
  · unfold kindM at h
    rcases (show k = 1 ∨ k = 2 ∨ k = 3 ∨ k = 4 ∨ k = 5 ∨ k = 6 by omega) with rfl | rfl | rfl | rfl | rfl | rfl
    all_goals
      clear h
      go_enter Tryz.func41, Tryz.ntmps41
      go_wp2
      go_ret
      exact ⟨rfl, rfl⟩
  · have HS := Lib.hid (fieldT_no h)
    unfold kindM at h
    have h1 : (k == 1) = false := beq_eq_false_iff_ne.2 (by omega)
    have h2 : (k == 2) = false := beq_eq_false_iff_ne.2 (by omega)
    have h3 : (k == 3) = false := beq_eq_false_iff_ne.2 (by omega)
    have h4 : (k == 4) = false := beq_eq_false_iff_ne.2 (by omega)
    have h5 : (k == 5) = false := beq_eq_false_iff_ne.2 (by omega)
    have h6 : (k == 6) = false := beq_eq_false_iff_ne.2 (by omega)
    clear h
    go_enter Tryz.func41, Tryz.ntmps41
    go_wp2
    go_ret
    exact ⟨ret_s HS.out.symm, rfl⟩
theorem rnode_any (n : Int) (w : World) : Calls Tryz.prog 46 #[.int .i64 n] w fun e w' => e = .returned (.bool (decide (1 ≤ n ∧ n ≤ 7))) ∧ w = w' := by
  go_enter Tryz.func46, Tryz.ntmps46
  go_wp2
  all_goals (go_ret; exact ⟨ret_bool (by first | (exact decide_eq_decide.2 (by omega)) | (simp; omega)), rfl⟩)
theorem fieldT_small (k : Int) : (fieldT k).size ≤ 1000 := by
  unfold fieldT
  repeat' split
  all_goals decide
set_option maxHeartbeats 400000 in
theorem rhas_any (s : ByteArray) (c : Int) (hs : s.size ≤ 1000) (w : World) :
    Calls Tryz.prog 48 #[.string s, .int .u8 c] w fun e w' => e = .returned (.bool (Cm.hasB s c)) ∧ w = w' := by
  go_enter Tryz.func48, Tryz.ntmps48
  go_wp2
  go_loop [5] (fun i => ∃ k : Nat, k ≤ s.size ∧ i = .int .i64 k ∧ Hid (c ∉ (Cm.sbs s).take k)) (fun i => s.size - (intOf i).toNat)
  case atStart => exact ⟨0, Nat.zero_le _, rfl, Lib.hid (by simp)⟩
  case round =>
    obtain ⟨k, hk, rfl, HO⟩ := hrel
    by_cases hlt : k < s.size
    · have hg := Cm.sbs_get s k hlt
      have HM := Lib.hid (Nd.mem_get (l := Cm.sbs s) (k := k) (by rw [Cm.sbs_length]; exact hlt))
      have HT := Lib.hid (Nd.take_get (l := Cm.sbs s) (k := k) (by rw [Cm.sbs_length]; exact hlt))
      rw [hg] at HM HT
      clear hg
      by_cases hz : (s[k].toNat : Int) = c
      · have HB : Hid (Cm.hasB s c = true) := Lib.hid (decide_eq_true (by rw [← hz]; exact HM.out))
        have hz2 : ((s[k].toNat : Int) == c) = true := beq_iff_eq.2 hz
        clear hz
        go_wp2
        go_ret
        exact ⟨ret_bool HB.out.symm, rfl⟩
      · have HO2 : Hid (c ∉ (Cm.sbs s).take (k + 1)) := by
          refine Lib.hid ?_
          rw [HT.out, List.mem_append, List.mem_singleton]
          rintro (h | h)
          · exact HO.out h
          · exact hz h.symm
        have hz2 : ((s[k].toNat : Int) == c) = false := beq_eq_false_iff_ne.2 hz
        clear hz
        go_wp2
        go_round
        case rel => exact ⟨k + 1, by omega, by go_num, HO2⟩
        case measure => simp [intOf]; omega
    · obtain rfl : k = s.size := by omega
      have HO2 := HO.out
      rw [← Cm.sbs_length, List.take_length] at HO2
      have HB : Hid (Cm.hasB s c = false) := Lib.hid (decide_eq_false HO2)
      clear HO2
      go_wp2
      go_ret
      exact ⟨ret_bool HB.out.symm, rfl⟩

abbrev zSV : Value := .agg #[.int .u64 0, .int .u64 0, .slice none 0 0, .int .i64 0, .int .u64 0, .slice none 0 0, .slice none 0 0]
abbrev zShoM : Sho := ⟨0, 0, [], ⟨0, 0, [], []⟩⟩
theorem zShoM_wf : zShoM.wf := ⟨by decide, by decide, by decide, by decide, by simp, by simp⟩
theorem zS_is (w : World) : IsShot w zSV zShoM := ⟨_, _, _, rfl, Cm.sl_nil _ _, SlR.nil _, SlR.nil _, zShoM_wf⟩
theorem zS_z : zSho zShoM := ⟨rfl, rfl, rfl, rfl, rfl, rfl, rfl⟩
theorem sameZ_any (s : Sho) (v : Value) (w : World) (h : IsShot w v s) : Calls Tryz.prog 20 #[v, zSV] w (Tells (zSho s) w) := by
  by_cases hz : zSho s
  · have he : s = zShoM := Rc.sho_eq_of hz zS_z
    subst he
    refine (Sh.same_any _ _ _ _ h (zS_is w)).mono ?_
    rintro e w1 ⟨rfl, hb⟩
    exact tells_yes hz hb
  · refine (Rc.sho_noR zShoM s _ _ _ h (zS_is w) zS_z hz).mono ?_
    rintro e w1 ⟨rfl, hb⟩
    exact tells_no hz hb
set_option maxHeartbeats 16000000 in
theorem zero_1 (m : Mes) (hk : m.kind = 1) (v : Value) (w : World) (h : IsMsg w v m) : Calls Tryz.prog 47 #[v] w (Tells (zUp m 7) w) := by
  have HZ : Hid (∀ f : Nat, f < 7 → (f : Int) ∉ fieldsM 1 → ¬ zF m f → ¬ zUp m 7) := Lib.hid (fun f hf hn hz g => hz (g f hf (by rw [hk]; exact hn)))
  have HA : Hid (zF m 3 → zF m 4 → zF m 5 → zF m 6 → zUp m 7) := Lib.hid (fun gc gf ge gs f hf hn => by
    rw [hk] at hn
    rcases (show f = 0 ∨ f = 1 ∨ f = 2 ∨ f = 3 ∨ f = 4 ∨ f = 5 ∨ f = 6 by omega) with rfl | rfl | rfl | rfl | rfl | rfl | rfl
    · exact absurd (by decide) hn
    · exact absurd (by decide) hn
    · exact absurd (by decide) hn
    · exact gc
    · exact gf
    · exact ge
    · exact gs)
  have HF : Hid (fieldT m.kind = ⟨#[116, 105, 108]⟩) := Lib.hid (by rw [hk]; rfl)
  have Ht : Hid (Cm.hasB ⟨#[116, 105, 108]⟩ 116 = true) := Lib.hid (by decide)
  have Hi : Hid (Cm.hasB ⟨#[116, 105, 108]⟩ 105 = true) := Lib.hid (by decide)
  have Hl : Hid (Cm.hasB ⟨#[116, 105, 108]⟩ 108 = true) := Lib.hid (by decide)
  have Hc : Hid (Cm.hasB ⟨#[116, 105, 108]⟩ 99 = false) := Lib.hid (by decide)
  have Hf : Hid (Cm.hasB ⟨#[116, 105, 108]⟩ 102 = false) := Lib.hid (by decide)
  have He : Hid (Cm.hasB ⟨#[116, 105, 108]⟩ 101 = false) := Lib.hid (by decide)
  have Hs : Hid (Cm.hasB ⟨#[116, 105, 108]⟩ 115 = false) := Lib.hid (by decide)
  clear hk
  obtain ⟨ae, ce, vn, vh, vl, rfl, hlc, hcm, hx⟩ := BoxM.of h
  obtain ⟨q0, q1, q2, q3, q4, q5, q6, q7, q8, q9, q10, -⟩ := cells16 hx.2.1
  have ra := shot_range hx.2.1
  have HX := Lib.hid hx
  have HSH : Hid (IsShot (w.alloc (.cells (mArr m (.slice ae m.ents.length ce) vn vh vl) 33)) (.agg (sArr m.shot vn vh vl)) m.shot) := Lib.hid (IsMsg_shot hx.2.2.1)
  clear hx h
  by_cases hc : m.commit = 0
  rotate_left
  · have HE : Hid (¬ zUp m 7) := Lib.hid (HZ.out 3 (by omega) (by decide) (fun g => hc g))
    have e3 : (m.commit == 0) = false := beq_f hc
    clear hc
    go_enter Tryz.func47, Tryz.ntmps47
    go_wp2_with (first
      | (go_at_call 41; refine (rfields_any _ _).mono ?_; rintro e w2 ⟨rfl, rfl⟩; rw [HF.out])
      | (go_at_call 48; refine (rhas_any _ _ (by decide) _).mono ?_; rintro e w2 ⟨rfl, rfl⟩; first | rw [Ht.out] | rw [Hi.out] | rw [Hl.out] | rw [Hc.out] | rw [Hf.out] | rw [He.out] | rw [Hs.out]))
    go_ret
    exact tells_no HE.out HX.out.1
  have Zc : Hid (zF m 3) := Lib.hid hc
  have e3 : (m.commit == 0) = true := beq_t hc
  clear hc
  cases hfl : m.flag
  rotate_left
  · have HE : Hid (¬ zUp m 7) := Lib.hid (HZ.out 4 (by omega) (by decide) (fun g => Bool.noConfusion (hfl.symm.trans (show m.flag = false from g))))
    have hnf : (!m.flag) = false := by rw [hfl]; rfl
    clear hfl
    go_enter Tryz.func47, Tryz.ntmps47
    go_wp2_with (first
      | (go_at_call 41; refine (rfields_any _ _).mono ?_; rintro e w2 ⟨rfl, rfl⟩; rw [HF.out])
      | (go_at_call 48; refine (rhas_any _ _ (by decide) _).mono ?_; rintro e w2 ⟨rfl, rfl⟩; first | rw [Ht.out] | rw [Hi.out] | rw [Hl.out] | rw [Hc.out] | rw [Hf.out] | rw [He.out] | rw [Hs.out]))
    go_ret
    exact tells_no HE.out HX.out.1
  have Zf : Hid (zF m 4) := Lib.hid hfl
  have hnf : (!m.flag) = true := by rw [hfl]; rfl
  clear hfl
  by_cases he : m.ents.length = 0
  rotate_left
  · have HE : Hid (¬ zUp m 7) := Lib.hid (HZ.out 5 (by omega) (by decide) (fun g => he g))
    have e5 : ((m.ents.length : Int) == 0) = false := beq_f (by omega)
    clear he
    go_enter Tryz.func47, Tryz.ntmps47
    go_wp2_with (first
      | (go_at_call 41; refine (rfields_any _ _).mono ?_; rintro e w2 ⟨rfl, rfl⟩; rw [HF.out])
      | (go_at_call 48; refine (rhas_any _ _ (by decide) _).mono ?_; rintro e w2 ⟨rfl, rfl⟩; first | rw [Ht.out] | rw [Hi.out] | rw [Hl.out] | rw [Hc.out] | rw [Hf.out] | rw [He.out] | rw [Hs.out]))
    go_ret
    exact tells_no HE.out HX.out.1
  have Ze : Hid (zF m 5) := Lib.hid he
  have e5 : ((m.ents.length : Int) == 0) = true := beq_t (by omega)
  clear he
  go_enter Tryz.func47, Tryz.ntmps47
  go_wp2_with (first
    | (go_at_call 41; refine (rfields_any _ _).mono ?_; rintro e w2 ⟨rfl, rfl⟩; rw [HF.out])
    | (go_at_call 48; refine (rhas_any _ _ (by decide) _).mono ?_; rintro e w2 ⟨rfl, rfl⟩; first | rw [Ht.out] | rw [Hi.out] | rw [Hl.out] | rw [Hc.out] | rw [Hf.out] | rw [He.out] | rw [Hs.out])
    | (refine Rc.wpList_load_midG rfl 31 (.tmp 64) rfl w.heap.size 9 rfl (sArr m.shot vn vh vl).toList _ ra Tryz.underlying31 rfl (by kernel_rfl) ?_))
  refine (sameZ_any m.shot _ _ HSH.out).mono ?_
  rintro e w2 ⟨bb, rfl, hbb, hb2⟩
  have HX2 := Lib.hid (HX.out.on hb2)
  have HBB := Lib.hid hbb
  clear hbb hb2
  go_wp2
  go_ret
  refine ⟨bb, rfl, HBB.out.trans ⟨fun g => HA.out Zc.out Zf.out Ze.out g, fun g => Classical.byContradiction fun q => HZ.out 6 (by omega) (by decide) q g⟩, HX2.out.1⟩
set_option maxHeartbeats 16000000 in
theorem zero_2 (m : Mes) (hk : m.kind = 2) (v : Value) (w : World) (h : IsMsg w v m) : Calls Tryz.prog 47 #[v] w (Tells (zUp m 7) w) := by
  have HZ : Hid (∀ f : Nat, f < 7 → (f : Int) ∉ fieldsM 2 → ¬ zF m f → ¬ zUp m 7) := Lib.hid (fun f hf hn hz g => hz (g f hf (by rw [hk]; exact hn)))
  have HA : Hid (zF m 1 → zF m 2 → zF m 3 → zF m 5 → zF m 6 → zUp m 7) := Lib.hid (fun gi gl gc ge gs f hf hn => by
    rw [hk] at hn
    rcases (show f = 0 ∨ f = 1 ∨ f = 2 ∨ f = 3 ∨ f = 4 ∨ f = 5 ∨ f = 6 by omega) with rfl | rfl | rfl | rfl | rfl | rfl | rfl
    · exact absurd (by decide) hn
    · exact gi
    · exact gl
    · exact gc
    · exact absurd (by decide) hn
    · exact ge
    · exact gs)
  have HF : Hid (fieldT m.kind = ⟨#[116, 102]⟩) := Lib.hid (by rw [hk]; rfl)
  have Ht : Hid (Cm.hasB ⟨#[116, 102]⟩ 116 = true) := Lib.hid (by decide)
  have Hi : Hid (Cm.hasB ⟨#[116, 102]⟩ 105 = false) := Lib.hid (by decide)
  have Hl : Hid (Cm.hasB ⟨#[116, 102]⟩ 108 = false) := Lib.hid (by decide)
  have Hc : Hid (Cm.hasB ⟨#[116, 102]⟩ 99 = false) := Lib.hid (by decide)
  have Hf : Hid (Cm.hasB ⟨#[116, 102]⟩ 102 = true) := Lib.hid (by decide)
  have He : Hid (Cm.hasB ⟨#[116, 102]⟩ 101 = false) := Lib.hid (by decide)
  have Hs : Hid (Cm.hasB ⟨#[116, 102]⟩ 115 = false) := Lib.hid (by decide)
  clear hk
  obtain ⟨ae, ce, vn, vh, vl, rfl, hlc, hcm, hx⟩ := BoxM.of h
  obtain ⟨q0, q1, q2, q3, q4, q5, q6, q7, q8, q9, q10, -⟩ := cells16 hx.2.1
  have ra := shot_range hx.2.1
  have HX := Lib.hid hx
  have HSH : Hid (IsShot (w.alloc (.cells (mArr m (.slice ae m.ents.length ce) vn vh vl) 33)) (.agg (sArr m.shot vn vh vl)) m.shot) := Lib.hid (IsMsg_shot hx.2.2.1)
  clear hx h
  by_cases hi : m.index = 0
  rotate_left
  · have HE : Hid (¬ zUp m 7) := Lib.hid (HZ.out 1 (by omega) (by decide) (fun g => hi g))
    have e1 : (m.index == 0) = false := beq_f hi
    clear hi
    go_enter Tryz.func47, Tryz.ntmps47
    go_wp2_with (first
      | (go_at_call 41; refine (rfields_any _ _).mono ?_; rintro e w2 ⟨rfl, rfl⟩; rw [HF.out])
      | (go_at_call 48; refine (rhas_any _ _ (by decide) _).mono ?_; rintro e w2 ⟨rfl, rfl⟩; first | rw [Ht.out] | rw [Hi.out] | rw [Hl.out] | rw [Hc.out] | rw [Hf.out] | rw [He.out] | rw [Hs.out]))
    go_ret
    exact tells_no HE.out HX.out.1
  have Zi : Hid (zF m 1) := Lib.hid hi
  have e1 : (m.index == 0) = true := beq_t hi
  clear hi
  by_cases hl : m.lterm = 0
  rotate_left
  · have HE : Hid (¬ zUp m 7) := Lib.hid (HZ.out 2 (by omega) (by decide) (fun g => hl g))
    have e2 : (m.lterm == 0) = false := beq_f hl
    clear hl
    go_enter Tryz.func47, Tryz.ntmps47
    go_wp2_with (first
      | (go_at_call 41; refine (rfields_any _ _).mono ?_; rintro e w2 ⟨rfl, rfl⟩; rw [HF.out])
      | (go_at_call 48; refine (rhas_any _ _ (by decide) _).mono ?_; rintro e w2 ⟨rfl, rfl⟩; first | rw [Ht.out] | rw [Hi.out] | rw [Hl.out] | rw [Hc.out] | rw [Hf.out] | rw [He.out] | rw [Hs.out]))
    go_ret
    exact tells_no HE.out HX.out.1
  have Zl : Hid (zF m 2) := Lib.hid hl
  have e2 : (m.lterm == 0) = true := beq_t hl
  clear hl
  by_cases hc : m.commit = 0
  rotate_left
  · have HE : Hid (¬ zUp m 7) := Lib.hid (HZ.out 3 (by omega) (by decide) (fun g => hc g))
    have e3 : (m.commit == 0) = false := beq_f hc
    clear hc
    go_enter Tryz.func47, Tryz.ntmps47
    go_wp2_with (first
      | (go_at_call 41; refine (rfields_any _ _).mono ?_; rintro e w2 ⟨rfl, rfl⟩; rw [HF.out])
      | (go_at_call 48; refine (rhas_any _ _ (by decide) _).mono ?_; rintro e w2 ⟨rfl, rfl⟩; first | rw [Ht.out] | rw [Hi.out] | rw [Hl.out] | rw [Hc.out] | rw [Hf.out] | rw [He.out] | rw [Hs.out]))
    go_ret
    exact tells_no HE.out HX.out.1
  have Zc : Hid (zF m 3) := Lib.hid hc
  have e3 : (m.commit == 0) = true := beq_t hc
  clear hc
  by_cases he : m.ents.length = 0
  rotate_left
  · have HE : Hid (¬ zUp m 7) := Lib.hid (HZ.out 5 (by omega) (by decide) (fun g => he g))
    have e5 : ((m.ents.length : Int) == 0) = false := beq_f (by omega)
    clear he
    go_enter Tryz.func47, Tryz.ntmps47
    go_wp2_with (first
      | (go_at_call 41; refine (rfields_any _ _).mono ?_; rintro e w2 ⟨rfl, rfl⟩; rw [HF.out])
      | (go_at_call 48; refine (rhas_any _ _ (by decide) _).mono ?_; rintro e w2 ⟨rfl, rfl⟩; first | rw [Ht.out] | rw [Hi.out] | rw [Hl.out] | rw [Hc.out] | rw [Hf.out] | rw [He.out] | rw [Hs.out]))
    go_ret
    exact tells_no HE.out HX.out.1
  have Ze : Hid (zF m 5) := Lib.hid he
  have e5 : ((m.ents.length : Int) == 0) = true := beq_t (by omega)
  clear he
  go_enter Tryz.func47, Tryz.ntmps47
  go_wp2_with (first
    | (go_at_call 41; refine (rfields_any _ _).mono ?_; rintro e w2 ⟨rfl, rfl⟩; rw [HF.out])
    | (go_at_call 48; refine (rhas_any _ _ (by decide) _).mono ?_; rintro e w2 ⟨rfl, rfl⟩; first | rw [Ht.out] | rw [Hi.out] | rw [Hl.out] | rw [Hc.out] | rw [Hf.out] | rw [He.out] | rw [Hs.out])
    | (refine Rc.wpList_load_midG rfl 31 (.tmp 64) rfl w.heap.size 9 rfl (sArr m.shot vn vh vl).toList _ ra Tryz.underlying31 rfl (by kernel_rfl) ?_))
  refine (sameZ_any m.shot _ _ HSH.out).mono ?_
  rintro e w2 ⟨bb, rfl, hbb, hb2⟩
  have HX2 := Lib.hid (HX.out.on hb2)
  have HBB := Lib.hid hbb
  clear hbb hb2
  go_wp2
  go_ret
  refine ⟨bb, rfl, HBB.out.trans ⟨fun g => HA.out Zi.out Zl.out Zc.out Ze.out g, fun g => Classical.byContradiction fun q => HZ.out 6 (by omega) (by decide) q g⟩, HX2.out.1⟩
set_option maxHeartbeats 16000000 in
theorem zero_3 (m : Mes) (hk : m.kind = 3) (v : Value) (w : World) (h : IsMsg w v m) : Calls Tryz.prog 47 #[v] w (Tells (zUp m 7) w) := by
  have HZ : Hid (∀ f : Nat, f < 7 → (f : Int) ∉ fieldsM 3 → ¬ zF m f → ¬ zUp m 7) := Lib.hid (fun f hf hn hz g => hz (g f hf (by rw [hk]; exact hn)))
  have HA : Hid (zF m 4 → zF m 6 → zUp m 7) := Lib.hid (fun gf gs f hf hn => by
    rw [hk] at hn
    rcases (show f = 0 ∨ f = 1 ∨ f = 2 ∨ f = 3 ∨ f = 4 ∨ f = 5 ∨ f = 6 by omega) with rfl | rfl | rfl | rfl | rfl | rfl | rfl
    · exact absurd (by decide) hn
    · exact absurd (by decide) hn
    · exact absurd (by decide) hn
    · exact absurd (by decide) hn
    · exact gf
    · exact absurd (by decide) hn
    · exact gs)
  have HF : Hid (fieldT m.kind = ⟨#[116, 105, 108, 99, 101]⟩) := Lib.hid (by rw [hk]; rfl)
  have Ht : Hid (Cm.hasB ⟨#[116, 105, 108, 99, 101]⟩ 116 = true) := Lib.hid (by decide)
  have Hi : Hid (Cm.hasB ⟨#[116, 105, 108, 99, 101]⟩ 105 = true) := Lib.hid (by decide)
  have Hl : Hid (Cm.hasB ⟨#[116, 105, 108, 99, 101]⟩ 108 = true) := Lib.hid (by decide)
  have Hc : Hid (Cm.hasB ⟨#[116, 105, 108, 99, 101]⟩ 99 = true) := Lib.hid (by decide)
  have Hf : Hid (Cm.hasB ⟨#[116, 105, 108, 99, 101]⟩ 102 = false) := Lib.hid (by decide)
  have He : Hid (Cm.hasB ⟨#[116, 105, 108, 99, 101]⟩ 101 = true) := Lib.hid (by decide)
  have Hs : Hid (Cm.hasB ⟨#[116, 105, 108, 99, 101]⟩ 115 = false) := Lib.hid (by decide)
  clear hk
  obtain ⟨ae, ce, vn, vh, vl, rfl, hlc, hcm, hx⟩ := BoxM.of h
  obtain ⟨q0, q1, q2, q3, q4, q5, q6, q7, q8, q9, q10, -⟩ := cells16 hx.2.1
  have ra := shot_range hx.2.1
  have HX := Lib.hid hx
  have HSH : Hid (IsShot (w.alloc (.cells (mArr m (.slice ae m.ents.length ce) vn vh vl) 33)) (.agg (sArr m.shot vn vh vl)) m.shot) := Lib.hid (IsMsg_shot hx.2.2.1)
  clear hx h
  cases hfl : m.flag
  rotate_left
  · have HE : Hid (¬ zUp m 7) := Lib.hid (HZ.out 4 (by omega) (by decide) (fun g => Bool.noConfusion (hfl.symm.trans (show m.flag = false from g))))
    have hnf : (!m.flag) = false := by rw [hfl]; rfl
    clear hfl
    go_enter Tryz.func47, Tryz.ntmps47
    go_wp2_with (first
      | (go_at_call 41; refine (rfields_any _ _).mono ?_; rintro e w2 ⟨rfl, rfl⟩; rw [HF.out])
      | (go_at_call 48; refine (rhas_any _ _ (by decide) _).mono ?_; rintro e w2 ⟨rfl, rfl⟩; first | rw [Ht.out] | rw [Hi.out] | rw [Hl.out] | rw [Hc.out] | rw [Hf.out] | rw [He.out] | rw [Hs.out]))
    go_ret
    exact tells_no HE.out HX.out.1
  have Zf : Hid (zF m 4) := Lib.hid hfl
  have hnf : (!m.flag) = true := by rw [hfl]; rfl
  clear hfl
  go_enter Tryz.func47, Tryz.ntmps47
  go_wp2_with (first
    | (go_at_call 41; refine (rfields_any _ _).mono ?_; rintro e w2 ⟨rfl, rfl⟩; rw [HF.out])
    | (go_at_call 48; refine (rhas_any _ _ (by decide) _).mono ?_; rintro e w2 ⟨rfl, rfl⟩; first | rw [Ht.out] | rw [Hi.out] | rw [Hl.out] | rw [Hc.out] | rw [Hf.out] | rw [He.out] | rw [Hs.out])
    | (refine Rc.wpList_load_midG rfl 31 (.tmp 64) rfl w.heap.size 9 rfl (sArr m.shot vn vh vl).toList _ ra Tryz.underlying31 rfl (by kernel_rfl) ?_))
  refine (sameZ_any m.shot _ _ HSH.out).mono ?_
  rintro e w2 ⟨bb, rfl, hbb, hb2⟩
  have HX2 := Lib.hid (HX.out.on hb2)
  have HBB := Lib.hid hbb
  clear hbb hb2
  go_wp2
  go_ret
  refine ⟨bb, rfl, HBB.out.trans ⟨fun g => HA.out Zf.out g, fun g => Classical.byContradiction fun q => HZ.out 6 (by omega) (by decide) q g⟩, HX2.out.1⟩
set_option maxHeartbeats 16000000 in
theorem zero_4 (m : Mes) (hk : m.kind = 4) (v : Value) (w : World) (h : IsMsg w v m) : Calls Tryz.prog 47 #[v] w (Tells (zUp m 7) w) := by
  have HZ : Hid (∀ f : Nat, f < 7 → (f : Int) ∉ fieldsM 4 → ¬ zF m f → ¬ zUp m 7) := Lib.hid (fun f hf hn hz g => hz (g f hf (by rw [hk]; exact hn)))
  have HA : Hid (zF m 2 → zF m 3 → zF m 5 → zF m 6 → zUp m 7) := Lib.hid (fun gl gc ge gs f hf hn => by
    rw [hk] at hn
    rcases (show f = 0 ∨ f = 1 ∨ f = 2 ∨ f = 3 ∨ f = 4 ∨ f = 5 ∨ f = 6 by omega) with rfl | rfl | rfl | rfl | rfl | rfl | rfl
    · exact absurd (by decide) hn
    · exact absurd (by decide) hn
    · exact gl
    · exact gc
    · exact absurd (by decide) hn
    · exact ge
    · exact gs)
  have HF : Hid (fieldT m.kind = ⟨#[116, 102, 105]⟩) := Lib.hid (by rw [hk]; rfl)
  have Ht : Hid (Cm.hasB ⟨#[116, 102, 105]⟩ 116 = true) := Lib.hid (by decide)
  have Hi : Hid (Cm.hasB ⟨#[116, 102, 105]⟩ 105 = true) := Lib.hid (by decide)
  have Hl : Hid (Cm.hasB ⟨#[116, 102, 105]⟩ 108 = false) := Lib.hid (by decide)
  have Hc : Hid (Cm.hasB ⟨#[116, 102, 105]⟩ 99 = false) := Lib.hid (by decide)
  have Hf : Hid (Cm.hasB ⟨#[116, 102, 105]⟩ 102 = true) := Lib.hid (by decide)
  have He : Hid (Cm.hasB ⟨#[116, 102, 105]⟩ 101 = false) := Lib.hid (by decide)
  have Hs : Hid (Cm.hasB ⟨#[116, 102, 105]⟩ 115 = false) := Lib.hid (by decide)
  clear hk
  obtain ⟨ae, ce, vn, vh, vl, rfl, hlc, hcm, hx⟩ := BoxM.of h
  obtain ⟨q0, q1, q2, q3, q4, q5, q6, q7, q8, q9, q10, -⟩ := cells16 hx.2.1
  have ra := shot_range hx.2.1
  have HX := Lib.hid hx
  have HSH : Hid (IsShot (w.alloc (.cells (mArr m (.slice ae m.ents.length ce) vn vh vl) 33)) (.agg (sArr m.shot vn vh vl)) m.shot) := Lib.hid (IsMsg_shot hx.2.2.1)
  clear hx h
  by_cases hl : m.lterm = 0
  rotate_left
  · have HE : Hid (¬ zUp m 7) := Lib.hid (HZ.out 2 (by omega) (by decide) (fun g => hl g))
    have e2 : (m.lterm == 0) = false := beq_f hl
    clear hl
    go_enter Tryz.func47, Tryz.ntmps47
    go_wp2_with (first
      | (go_at_call 41; refine (rfields_any _ _).mono ?_; rintro e w2 ⟨rfl, rfl⟩; rw [HF.out])
      | (go_at_call 48; refine (rhas_any _ _ (by decide) _).mono ?_; rintro e w2 ⟨rfl, rfl⟩; first | rw [Ht.out] | rw [Hi.out] | rw [Hl.out] | rw [Hc.out] | rw [Hf.out] | rw [He.out] | rw [Hs.out]))
    go_ret
    exact tells_no HE.out HX.out.1
  have Zl : Hid (zF m 2) := Lib.hid hl
  have e2 : (m.lterm == 0) = true := beq_t hl
  clear hl
  by_cases hc : m.commit = 0
  rotate_left
  · have HE : Hid (¬ zUp m 7) := Lib.hid (HZ.out 3 (by omega) (by decide) (fun g => hc g))
    have e3 : (m.commit == 0) = false := beq_f hc
    clear hc
    go_enter Tryz.func47, Tryz.ntmps47
    go_wp2_with (first
      | (go_at_call 41; refine (rfields_any _ _).mono ?_; rintro e w2 ⟨rfl, rfl⟩; rw [HF.out])
      | (go_at_call 48; refine (rhas_any _ _ (by decide) _).mono ?_; rintro e w2 ⟨rfl, rfl⟩; first | rw [Ht.out] | rw [Hi.out] | rw [Hl.out] | rw [Hc.out] | rw [Hf.out] | rw [He.out] | rw [Hs.out]))
    go_ret
    exact tells_no HE.out HX.out.1
  have Zc : Hid (zF m 3) := Lib.hid hc
  have e3 : (m.commit == 0) = true := beq_t hc
  clear hc
  by_cases he : m.ents.length = 0
  rotate_left
  · have HE : Hid (¬ zUp m 7) := Lib.hid (HZ.out 5 (by omega) (by decide) (fun g => he g))
    have e5 : ((m.ents.length : Int) == 0) = false := beq_f (by omega)
    clear he
    go_enter Tryz.func47, Tryz.ntmps47
    go_wp2_with (first
      | (go_at_call 41; refine (rfields_any _ _).mono ?_; rintro e w2 ⟨rfl, rfl⟩; rw [HF.out])
      | (go_at_call 48; refine (rhas_any _ _ (by decide) _).mono ?_; rintro e w2 ⟨rfl, rfl⟩; first | rw [Ht.out] | rw [Hi.out] | rw [Hl.out] | rw [Hc.out] | rw [Hf.out] | rw [He.out] | rw [Hs.out]))
    go_ret
    exact tells_no HE.out HX.out.1
  have Ze : Hid (zF m 5) := Lib.hid he
  have e5 : ((m.ents.length : Int) == 0) = true := beq_t (by omega)
  clear he
  go_enter Tryz.func47, Tryz.ntmps47
  go_wp2_with (first
    | (go_at_call 41; refine (rfields_any _ _).mono ?_; rintro e w2 ⟨rfl, rfl⟩; rw [HF.out])
    | (go_at_call 48; refine (rhas_any _ _ (by decide) _).mono ?_; rintro e w2 ⟨rfl, rfl⟩; first | rw [Ht.out] | rw [Hi.out] | rw [Hl.out] | rw [Hc.out] | rw [Hf.out] | rw [He.out] | rw [Hs.out])
    | (refine Rc.wpList_load_midG rfl 31 (.tmp 64) rfl w.heap.size 9 rfl (sArr m.shot vn vh vl).toList _ ra Tryz.underlying31 rfl (by kernel_rfl) ?_))
  refine (sameZ_any m.shot _ _ HSH.out).mono ?_
  rintro e w2 ⟨bb, rfl, hbb, hb2⟩
  have HX2 := Lib.hid (HX.out.on hb2)
  have HBB := Lib.hid hbb
  clear hbb hb2
  go_wp2
  go_ret
  refine ⟨bb, rfl, HBB.out.trans ⟨fun g => HA.out Zl.out Zc.out Ze.out g, fun g => Classical.byContradiction fun q => HZ.out 6 (by omega) (by decide) q g⟩, HX2.out.1⟩
set_option maxHeartbeats 16000000 in
theorem zero_5 (m : Mes) (hk : m.kind = 5) (v : Value) (w : World) (h : IsMsg w v m) : Calls Tryz.prog 47 #[v] w (Tells (zUp m 7) w) := by
  have HZ : Hid (∀ f : Nat, f < 7 → (f : Int) ∉ fieldsM 5 → ¬ zF m f → ¬ zUp m 7) := Lib.hid (fun f hf hn hz g => hz (g f hf (by rw [hk]; exact hn)))
  have HA : Hid (zF m 1 → zF m 2 → zF m 3 → zF m 4 → zF m 5 → zUp m 7) := Lib.hid (fun gi gl gc gf ge f hf hn => by
    rw [hk] at hn
    rcases (show f = 0 ∨ f = 1 ∨ f = 2 ∨ f = 3 ∨ f = 4 ∨ f = 5 ∨ f = 6 by omega) with rfl | rfl | rfl | rfl | rfl | rfl | rfl
    · exact absurd (by decide) hn
    · exact gi
    · exact gl
    · exact gc
    · exact gf
    · exact ge
    · exact absurd (by decide) hn)
  have HF : Hid (fieldT m.kind = ⟨#[116, 115]⟩) := Lib.hid (by rw [hk]; rfl)
  have Ht : Hid (Cm.hasB ⟨#[116, 115]⟩ 116 = true) := Lib.hid (by decide)
  have Hi : Hid (Cm.hasB ⟨#[116, 115]⟩ 105 = false) := Lib.hid (by decide)
  have Hl : Hid (Cm.hasB ⟨#[116, 115]⟩ 108 = false) := Lib.hid (by decide)
  have Hc : Hid (Cm.hasB ⟨#[116, 115]⟩ 99 = false) := Lib.hid (by decide)
  have Hf : Hid (Cm.hasB ⟨#[116, 115]⟩ 102 = false) := Lib.hid (by decide)
  have He : Hid (Cm.hasB ⟨#[116, 115]⟩ 101 = false) := Lib.hid (by decide)
  have Hs : Hid (Cm.hasB ⟨#[116, 115]⟩ 115 = true) := Lib.hid (by decide)
  clear hk
  obtain ⟨ae, ce, vn, vh, vl, rfl, hlc, hcm, hx⟩ := BoxM.of h
  obtain ⟨q0, q1, q2, q3, q4, q5, q6, q7, q8, q9, q10, -⟩ := cells16 hx.2.1
  have ra := shot_range hx.2.1
  have HX := Lib.hid hx
  have HSH : Hid (IsShot (w.alloc (.cells (mArr m (.slice ae m.ents.length ce) vn vh vl) 33)) (.agg (sArr m.shot vn vh vl)) m.shot) := Lib.hid (IsMsg_shot hx.2.2.1)
  clear hx h
  by_cases hi : m.index = 0
  rotate_left
  · have HE : Hid (¬ zUp m 7) := Lib.hid (HZ.out 1 (by omega) (by decide) (fun g => hi g))
    have e1 : (m.index == 0) = false := beq_f hi
    clear hi
    go_enter Tryz.func47, Tryz.ntmps47
    go_wp2_with (first
      | (go_at_call 41; refine (rfields_any _ _).mono ?_; rintro e w2 ⟨rfl, rfl⟩; rw [HF.out])
      | (go_at_call 48; refine (rhas_any _ _ (by decide) _).mono ?_; rintro e w2 ⟨rfl, rfl⟩; first | rw [Ht.out] | rw [Hi.out] | rw [Hl.out] | rw [Hc.out] | rw [Hf.out] | rw [He.out] | rw [Hs.out]))
    go_ret
    exact tells_no HE.out HX.out.1
  have Zi : Hid (zF m 1) := Lib.hid hi
  have e1 : (m.index == 0) = true := beq_t hi
  clear hi
  by_cases hl : m.lterm = 0
  rotate_left
  · have HE : Hid (¬ zUp m 7) := Lib.hid (HZ.out 2 (by omega) (by decide) (fun g => hl g))
    have e2 : (m.lterm == 0) = false := beq_f hl
    clear hl
    go_enter Tryz.func47, Tryz.ntmps47
    go_wp2_with (first
      | (go_at_call 41; refine (rfields_any _ _).mono ?_; rintro e w2 ⟨rfl, rfl⟩; rw [HF.out])
      | (go_at_call 48; refine (rhas_any _ _ (by decide) _).mono ?_; rintro e w2 ⟨rfl, rfl⟩; first | rw [Ht.out] | rw [Hi.out] | rw [Hl.out] | rw [Hc.out] | rw [Hf.out] | rw [He.out] | rw [Hs.out]))
    go_ret
    exact tells_no HE.out HX.out.1
  have Zl : Hid (zF m 2) := Lib.hid hl
  have e2 : (m.lterm == 0) = true := beq_t hl
  clear hl
  by_cases hc : m.commit = 0
  rotate_left
  · have HE : Hid (¬ zUp m 7) := Lib.hid (HZ.out 3 (by omega) (by decide) (fun g => hc g))
    have e3 : (m.commit == 0) = false := beq_f hc
    clear hc
    go_enter Tryz.func47, Tryz.ntmps47
    go_wp2_with (first
      | (go_at_call 41; refine (rfields_any _ _).mono ?_; rintro e w2 ⟨rfl, rfl⟩; rw [HF.out])
      | (go_at_call 48; refine (rhas_any _ _ (by decide) _).mono ?_; rintro e w2 ⟨rfl, rfl⟩; first | rw [Ht.out] | rw [Hi.out] | rw [Hl.out] | rw [Hc.out] | rw [Hf.out] | rw [He.out] | rw [Hs.out]))
    go_ret
    exact tells_no HE.out HX.out.1
  have Zc : Hid (zF m 3) := Lib.hid hc
  have e3 : (m.commit == 0) = true := beq_t hc
  clear hc
  cases hfl : m.flag
  rotate_left
  · have HE : Hid (¬ zUp m 7) := Lib.hid (HZ.out 4 (by omega) (by decide) (fun g => Bool.noConfusion (hfl.symm.trans (show m.flag = false from g))))
    have hnf : (!m.flag) = false := by rw [hfl]; rfl
    clear hfl
    go_enter Tryz.func47, Tryz.ntmps47
    go_wp2_with (first
      | (go_at_call 41; refine (rfields_any _ _).mono ?_; rintro e w2 ⟨rfl, rfl⟩; rw [HF.out])
      | (go_at_call 48; refine (rhas_any _ _ (by decide) _).mono ?_; rintro e w2 ⟨rfl, rfl⟩; first | rw [Ht.out] | rw [Hi.out] | rw [Hl.out] | rw [Hc.out] | rw [Hf.out] | rw [He.out] | rw [Hs.out]))
    go_ret
    exact tells_no HE.out HX.out.1
  have Zf : Hid (zF m 4) := Lib.hid hfl
  have hnf : (!m.flag) = true := by rw [hfl]; rfl
  clear hfl
  by_cases he : m.ents.length = 0
  rotate_left
  · have HE : Hid (¬ zUp m 7) := Lib.hid (HZ.out 5 (by omega) (by decide) (fun g => he g))
    have e5 : ((m.ents.length : Int) == 0) = false := beq_f (by omega)
    clear he
    go_enter Tryz.func47, Tryz.ntmps47
    go_wp2_with (first
      | (go_at_call 41; refine (rfields_any _ _).mono ?_; rintro e w2 ⟨rfl, rfl⟩; rw [HF.out])
      | (go_at_call 48; refine (rhas_any _ _ (by decide) _).mono ?_; rintro e w2 ⟨rfl, rfl⟩; first | rw [Ht.out] | rw [Hi.out] | rw [Hl.out] | rw [Hc.out] | rw [Hf.out] | rw [He.out] | rw [Hs.out]))
    go_ret
    exact tells_no HE.out HX.out.1
  have Ze : Hid (zF m 5) := Lib.hid he
  have e5 : ((m.ents.length : Int) == 0) = true := beq_t (by omega)
  clear he
  go_enter Tryz.func47, Tryz.ntmps47
  go_wp2_with (first
    | (go_at_call 41; refine (rfields_any _ _).mono ?_; rintro e w2 ⟨rfl, rfl⟩; rw [HF.out])
    | (go_at_call 48; refine (rhas_any _ _ (by decide) _).mono ?_; rintro e w2 ⟨rfl, rfl⟩; first | rw [Ht.out] | rw [Hi.out] | rw [Hl.out] | rw [Hc.out] | rw [Hf.out] | rw [He.out] | rw [Hs.out]))
  go_ret
  exact tells_yes (HA.out Zi.out Zl.out Zc.out Zf.out Ze.out) HX.out.1
set_option maxHeartbeats 16000000 in
theorem zero_6 (m : Mes) (hk : m.kind = 6) (v : Value) (w : World) (h : IsMsg w v m) : Calls Tryz.prog 47 #[v] w (Tells (zUp m 7) w) := by
  have HZ : Hid (∀ f : Nat, f < 7 → (f : Int) ∉ fieldsM 6 → ¬ zF m f → ¬ zUp m 7) := Lib.hid (fun f hf hn hz g => hz (g f hf (by rw [hk]; exact hn)))
  have HA : Hid (zF m 0 → zF m 1 → zF m 2 → zF m 3 → zF m 4 → zF m 6 → zUp m 7) := Lib.hid (fun gt gi gl gc gf gs f hf hn => by
    rw [hk] at hn
    rcases (show f = 0 ∨ f = 1 ∨ f = 2 ∨ f = 3 ∨ f = 4 ∨ f = 5 ∨ f = 6 by omega) with rfl | rfl | rfl | rfl | rfl | rfl | rfl
    · exact gt
    · exact gi
    · exact gl
    · exact gc
    · exact gf
    · exact absurd (by decide) hn
    · exact gs)
  have HF : Hid (fieldT m.kind = ⟨#[101]⟩) := Lib.hid (by rw [hk]; rfl)
  have Ht : Hid (Cm.hasB ⟨#[101]⟩ 116 = false) := Lib.hid (by decide)
  have Hi : Hid (Cm.hasB ⟨#[101]⟩ 105 = false) := Lib.hid (by decide)
  have Hl : Hid (Cm.hasB ⟨#[101]⟩ 108 = false) := Lib.hid (by decide)
  have Hc : Hid (Cm.hasB ⟨#[101]⟩ 99 = false) := Lib.hid (by decide)
  have Hf : Hid (Cm.hasB ⟨#[101]⟩ 102 = false) := Lib.hid (by decide)
  have He : Hid (Cm.hasB ⟨#[101]⟩ 101 = true) := Lib.hid (by decide)
  have Hs : Hid (Cm.hasB ⟨#[101]⟩ 115 = false) := Lib.hid (by decide)
  clear hk
  obtain ⟨ae, ce, vn, vh, vl, rfl, hlc, hcm, hx⟩ := BoxM.of h
  obtain ⟨q0, q1, q2, q3, q4, q5, q6, q7, q8, q9, q10, -⟩ := cells16 hx.2.1
  have ra := shot_range hx.2.1
  have HX := Lib.hid hx
  have HSH : Hid (IsShot (w.alloc (.cells (mArr m (.slice ae m.ents.length ce) vn vh vl) 33)) (.agg (sArr m.shot vn vh vl)) m.shot) := Lib.hid (IsMsg_shot hx.2.2.1)
  clear hx h
  by_cases ht : m.term = 0
  rotate_left
  · have HE : Hid (¬ zUp m 7) := Lib.hid (HZ.out 0 (by omega) (by decide) (fun g => ht g))
    have e0 : (m.term == 0) = false := beq_f ht
    clear ht
    go_enter Tryz.func47, Tryz.ntmps47
    go_wp2_with (first
      | (go_at_call 41; refine (rfields_any _ _).mono ?_; rintro e w2 ⟨rfl, rfl⟩; rw [HF.out])
      | (go_at_call 48; refine (rhas_any _ _ (by decide) _).mono ?_; rintro e w2 ⟨rfl, rfl⟩; first | rw [Ht.out] | rw [Hi.out] | rw [Hl.out] | rw [Hc.out] | rw [Hf.out] | rw [He.out] | rw [Hs.out]))
    go_ret
    exact tells_no HE.out HX.out.1
  have Zt : Hid (zF m 0) := Lib.hid ht
  have e0 : (m.term == 0) = true := beq_t ht
  clear ht
  by_cases hi : m.index = 0
  rotate_left
  · have HE : Hid (¬ zUp m 7) := Lib.hid (HZ.out 1 (by omega) (by decide) (fun g => hi g))
    have e1 : (m.index == 0) = false := beq_f hi
    clear hi
    go_enter Tryz.func47, Tryz.ntmps47
    go_wp2_with (first
      | (go_at_call 41; refine (rfields_any _ _).mono ?_; rintro e w2 ⟨rfl, rfl⟩; rw [HF.out])
      | (go_at_call 48; refine (rhas_any _ _ (by decide) _).mono ?_; rintro e w2 ⟨rfl, rfl⟩; first | rw [Ht.out] | rw [Hi.out] | rw [Hl.out] | rw [Hc.out] | rw [Hf.out] | rw [He.out] | rw [Hs.out]))
    go_ret
    exact tells_no HE.out HX.out.1
  have Zi : Hid (zF m 1) := Lib.hid hi
  have e1 : (m.index == 0) = true := beq_t hi
  clear hi
  by_cases hl : m.lterm = 0
  rotate_left
  · have HE : Hid (¬ zUp m 7) := Lib.hid (HZ.out 2 (by omega) (by decide) (fun g => hl g))
    have e2 : (m.lterm == 0) = false := beq_f hl
    clear hl
    go_enter Tryz.func47, Tryz.ntmps47
    go_wp2_with (first
      | (go_at_call 41; refine (rfields_any _ _).mono ?_; rintro e w2 ⟨rfl, rfl⟩; rw [HF.out])
      | (go_at_call 48; refine (rhas_any _ _ (by decide) _).mono ?_; rintro e w2 ⟨rfl, rfl⟩; first | rw [Ht.out] | rw [Hi.out] | rw [Hl.out] | rw [Hc.out] | rw [Hf.out] | rw [He.out] | rw [Hs.out]))
    go_ret
    exact tells_no HE.out HX.out.1
  have Zl : Hid (zF m 2) := Lib.hid hl
  have e2 : (m.lterm == 0) = true := beq_t hl
  clear hl
  by_cases hc : m.commit = 0
  rotate_left
  · have HE : Hid (¬ zUp m 7) := Lib.hid (HZ.out 3 (by omega) (by decide) (fun g => hc g))
    have e3 : (m.commit == 0) = false := beq_f hc
    clear hc
    go_enter Tryz.func47, Tryz.ntmps47
    go_wp2_with (first
      | (go_at_call 41; refine (rfields_any _ _).mono ?_; rintro e w2 ⟨rfl, rfl⟩; rw [HF.out])
      | (go_at_call 48; refine (rhas_any _ _ (by decide) _).mono ?_; rintro e w2 ⟨rfl, rfl⟩; first | rw [Ht.out] | rw [Hi.out] | rw [Hl.out] | rw [Hc.out] | rw [Hf.out] | rw [He.out] | rw [Hs.out]))
    go_ret
    exact tells_no HE.out HX.out.1
  have Zc : Hid (zF m 3) := Lib.hid hc
  have e3 : (m.commit == 0) = true := beq_t hc
  clear hc
  cases hfl : m.flag
  rotate_left
  · have HE : Hid (¬ zUp m 7) := Lib.hid (HZ.out 4 (by omega) (by decide) (fun g => Bool.noConfusion (hfl.symm.trans (show m.flag = false from g))))
    have hnf : (!m.flag) = false := by rw [hfl]; rfl
    clear hfl
    go_enter Tryz.func47, Tryz.ntmps47
    go_wp2_with (first
      | (go_at_call 41; refine (rfields_any _ _).mono ?_; rintro e w2 ⟨rfl, rfl⟩; rw [HF.out])
      | (go_at_call 48; refine (rhas_any _ _ (by decide) _).mono ?_; rintro e w2 ⟨rfl, rfl⟩; first | rw [Ht.out] | rw [Hi.out] | rw [Hl.out] | rw [Hc.out] | rw [Hf.out] | rw [He.out] | rw [Hs.out]))
    go_ret
    exact tells_no HE.out HX.out.1
  have Zf : Hid (zF m 4) := Lib.hid hfl
  have hnf : (!m.flag) = true := by rw [hfl]; rfl
  clear hfl
  go_enter Tryz.func47, Tryz.ntmps47
  go_wp2_with (first
    | (go_at_call 41; refine (rfields_any _ _).mono ?_; rintro e w2 ⟨rfl, rfl⟩; rw [HF.out])
    | (go_at_call 48; refine (rhas_any _ _ (by decide) _).mono ?_; rintro e w2 ⟨rfl, rfl⟩; first | rw [Ht.out] | rw [Hi.out] | rw [Hl.out] | rw [Hc.out] | rw [Hf.out] | rw [He.out] | rw [Hs.out])
    | (refine Rc.wpList_load_midG rfl 31 (.tmp 64) rfl w.heap.size 9 rfl (sArr m.shot vn vh vl).toList _ ra Tryz.underlying31 rfl (by kernel_rfl) ?_))
  refine (sameZ_any m.shot _ _ HSH.out).mono ?_
  rintro e w2 ⟨bb, rfl, hbb, hb2⟩
  have HX2 := Lib.hid (HX.out.on hb2)
  have HBB := Lib.hid hbb
  clear hbb hb2
  go_wp2
  go_ret
  refine ⟨bb, rfl, HBB.out.trans ⟨fun g => HA.out Zt.out Zi.out Zl.out Zc.out Zf.out g, fun g => Classical.byContradiction fun q => HZ.out 6 (by omega) (by decide) q g⟩, HX2.out.1⟩
theorem zero_any (m : Mes) (hk : kindM m.kind) (v : Value) (w : World) (h : IsMsg w v m) : Calls Tryz.prog 47 #[v] w (Tells (zUp m 7) w) := by
  unfold kindM at hk
  rcases (show m.kind = 1 ∨ m.kind = 2 ∨ m.kind = 3 ∨ m.kind = 4 ∨ m.kind = 5 ∨ m.kind = 6 by omega) with k | k | k | k | k | k
  · exact zero_1 m k v w h
  · exact zero_2 m k v w h
  · exact zero_3 m k v w h
  · exact zero_4 m k v w h
  · exact zero_5 m k v w h
  · exact zero_6 m k v w h
end Ms
end Go.Proofs.YtlfaiemebfkajaaGreatDoor
namespace Go.Proofs.YtlfaiemebfkajaaGreatDoor
open Go.ChangeShapes Go.WideShapes Go.ChangeAt Go.RowKit Go.Deep
set_option linter.unusedVariables false
set_option maxRecDepth 100000
namespace Ms
open Nv
theorem cErr_ne (b : Bool) : (Cm.cErr b != 0) = !b := by cases b <;> rfl
theorem rcmd_any (c : Cmd) (v : Value) (w : World) (h : IsCmd w v c) : Calls Tryz.prog 78 #[v] w fun e w' => e = .returned (.int .i64 (Cm.cErr (Cm.chkC c))) ∧ Below w.heap.size w w' := by
  obtain ⟨vn, _, _, hw⟩ := id h
  rw [← Cm.rchk_eq hw]
  exact Cm.rcheck_any c v w h
/-- what an entry's term must reach -/
def Least (m : Mes) (k : Nat) (b : Int) : Prop := ∀ t : Int, (1 ≤ t ∧ Hd.befE m.lterm (m.ents.take k) ≤ t) ↔ b ≤ t
set_option maxHeartbeats 16000000 in
theorem rents_any (m : Mes) (v : Value) (w : World) (h : IsMsg w v m) : Calls Tryz.prog 49 #[v] w (Tells (feedOk m) w) := by
  obtain ⟨ae, ce, vn, vh, vl, rfl, hlc, hcm, hx⟩ := BoxM.of h
  obtain ⟨q0, q1, q2, q3, q4, q5, q6, q7, q8, -⟩ := cells16 hx.2.1
  have HX := Lib.hid hx
  have hG : IsLog (w.alloc (.cells (mArr m (.slice ae m.ents.length ce) vn vh vl) 33)) (.slice ae m.ents.length ce) m.ents := IsMsg_log hx.2.2.1
  clear hx h
  obtain ⟨rows, hrows, hents, hmap⟩ := hG
  have hrl : rows.length = m.ents.length := by rw [← hmap, List.length_map]
  have HENT := Lib.hid hents
  have HRL := Lib.hid hrl
  have HGET : Hid (∀ k (hk : k < rows.length), m.ents[k]? = some rows[k].1) := Lib.hid (fun k hk => by rw [← hmap, List.getElem?_map, List.getElem?_eq_getElem hk]; rfl)
  have HTK : Hid (∀ k (hk : k < rows.length), m.ents.take (k + 1) = m.ents.take k ++ [rows[k].1]) := Lib.hid (fun k hk => by rw [← hmap, ← List.map_take, ← List.map_take, List.take_succ_eq_append_getElem hk, List.map_append]; rfl)
  obtain ⟨a', cap', hv, hl1, hl2, hrc⟩ := hrows
  simp only [Value.slice.injEq] at hv
  obtain ⟨rfl, -, rfl⟩ := hv
  have HRC := Lib.hid hrc
  clear hrc hmap hents hl1 hl2 hrl
  obtain ⟨mx, hmx⟩ : ∃ q : Int, (if 1 < m.lterm then m.lterm else 1) = q := ⟨_, rfl⟩
  have HL0 : Hid (Least m 0 mx) := Lib.hid (fun t => by
    rw [← hmx, List.take_zero, Hd.befE_nil]
    split <;> omega)
  go_enter Tryz.func49, Tryz.ntmps49
  go_wp2
  clear hmx
  go_loopw [3, 12] (fun bf i wr => ∃ k : Nat, ∃ b : Int, k ≤ m.ents.length ∧ i = .int .i64 k ∧ bf = .int .u64 b ∧ Hid (Least m k b) ∧ Hid (feedUp m k) ∧ Below (w.alloc (.cells (mArr m (.slice ae m.ents.length ce) vn vh vl) 33)).heap.size (w.alloc (.cells (mArr m (.slice ae m.ents.length ce) vn vh vl) 33)) wr) (fun _ i _ => m.ents.length - (intOf i).toNat)
  case atStart => exact ⟨0, mx, Nat.zero_le _, rfl, rfl, HL0, Lib.hid (feed_zero _), Below.refl _ _⟩
  case round =>
    clear q0 q1 q2 q3 q4 q5 q6 q7 q8
    obtain ⟨k, bl, hk, rfl, rfl, HL, HU, hb⟩ := hrel
    have HXR := Lib.hid (HX.out.on hb)
    by_cases hlt2 : k < m.ents.length
    · have hlt3 : k < rows.length := by have := HRL.out; omega
      obtain ⟨b, off, rfl, hlt, hc⟩ := Ld.rows_open hlt3 HRC.out
      have hce := fun j u hu => (hb.cell (p := ⟨b, off + (k * 9 + j), none⟩) hlt).trans (hc k _ (Ld.rgetD hlt3) j u hu)
      have hes := HENT.out _ (List.getElem_mem hlt3)
      have HG := Lib.hid (HGET.out k hlt3)
      have HT := Lib.hid (HTK.out k hlt3)
      have HBB := Lib.hid hb
      have hsl := hes.1.below hb (Nat.le_refl _)
      have hwf := hes.2
      clear hc hb hes
      generalize rows[k] = r at *
      obtain ⟨x, vr⟩ := r
      simp only [] at HG HT hsl hwf
      obtain ⟨ar, cr, hvr, -⟩ := id hsl
      subst hvr
      obtain ⟨e0, e1, e2, e3, e4, e5, e6, e7, e8⟩ := Hd.ent_cells hce
      have hx0 := Ld.u64_nonneg hwf.1
      have hb4 : Below wr.heap.size wr (wr.alloc (.cells (entC (x, .slice ar x.cmd.nodes.length cr)).toArray 88)) := (Below.refl _ _).alloc (Nat.le_refl _) _
      have HC4 : Hid (IsCmd (wr.alloc (.cells (entC (x, .slice ar x.cmd.nodes.length cr)).toArray 88)) (.agg (Cm.cArr x.cmd (.slice ar x.cmd.nodes.length cr))) x.cmd) := Lib.hid ⟨_, rfl, hsl.below hb4 (Nat.le_refl _), hwf.2⟩
      have HX4 := Lib.hid (HXR.out.on hb4)
      have HB4 := Lib.hid hb4
      have HK4 := Lib.hid (heap_alloc_new wr (.cells (entC (x, .slice ar x.cmd.nodes.length cr)).toArray 88 (0, 0)))
      obtain ⟨q0, q1, q2, q3, q4, q5, q6, q7, q8, -⟩ := cells16 HX4.out.2.1
      clear hce hsl hwf hb4
      by_cases hlo : x.term < bl
      · have HE : Hid (¬ feedOk m) := Lib.hid (feed_bad HG.out (by omega) (fun q => by have := (HL.out x.term).1 ⟨q.1.1, q.1.2.1⟩; omega))
        go_wp2
        go_ret
        exact tells_no HE.out HX4.out.1
      · have hlo2 : bl ≤ x.term := by omega
        have HLO := Lib.hid ((HL.out x.term).2 hlo2)
        clear hlo
        by_cases hhi : m.term < x.term
        · have HE : Hid (¬ feedOk m) := Lib.hid (feed_bad HG.out (by omega) (fun q => by have := q.2; omega))
          go_wp2
          go_ret
          exact tells_no HE.out HX4.out.1
        · have hhi2 : x.term ≤ m.term := by omega
          clear hhi
          obtain ⟨yc, hyc⟩ : ∃ y, (Cm.cErr (Cm.chkC x.cmd) != 0) = y := ⟨_, rfl⟩
          have HPC : Hid ((!Cm.chkC x.cmd) = yc) := Lib.hid ((cErr_ne _).symm.trans hyc)
          go_wp2_with fail
          refine (rcmd_any x.cmd _ _ HC4.out).mono ?_
          rintro e w5 ⟨rfl, hb5⟩
          have hb45 := HB4.out.trans (hb5.mono (by simp))
          have HY5 := Lib.hid (HBB.out.trans (hb45.mono HBB.out.size))
          have HX5 := Lib.hid (HXR.out.on hb45)
          obtain ⟨d0, d1, d2, d3, d4, d5, d6, d7, d8⟩ := Hd.ent9 ((hb5.block wr.heap.size (by simp)).trans HK4.out)
          clear hb5 hb45 e0 e1 e2 e3 e4 e5 e6 e7 e8 q0 q1 q2 q3 q4 q5 q6 q7 q8
          cases yc
          · have HCH : Hid (Cm.chkC x.cmd = true) := Lib.hid (by have := HPC.out; simpa using this)
            have HU2 := Lib.hid (feed_succ HU.out HG.out ⟨HLO.out.1, HLO.out.2, HCH.out⟩ hhi2)
            have HL2 : Hid (Least m (k + 1) x.term) := Lib.hid (fun t => by
              rw [HT.out, Hd.befE_snoc]
              have := HLO.out.1
              omega)
            go_wp2
            go_roundw
            case rel => exact ⟨k + 1, x.term, by omega, by go_num, rfl, HL2, HU2, HY5.out⟩
            case measure => simp [intOf]; omega
          · have HE : Hid (¬ feedOk m) := Lib.hid (feed_bad HG.out (by omega) (fun q => by
              have := HPC.out
              rw [q.1.2.2] at this
              cases this))
            go_wp2
            go_ret
            exact tells_no HE.out HX5.out.1
    · obtain rfl : k = m.ents.length := by omega
      obtain ⟨q0, q1, q2, q3, q4, q5, q6, q7, q8, -⟩ := cells16 HXR.out.2.1
      by_cases c2 : m.ents.length ≤ 4
      · have c2i : (m.ents.length : Int) ≤ 4 := by omega
        by_cases c1 : m.index ≤ 4611686018427387904
        · have HE : Hid (feedOk m) := Lib.hid ⟨c1, c2, HU.out⟩
          go_wp2
          go_ret
          exact tells_yes HE.out HXR.out.1
        · have HE : Hid (¬ feedOk m) := Lib.hid (fun g => c1 g.1)
          have c3 : 4611686018427387904 < m.index := by omega
          clear c1
          go_wp2
          go_ret
          first
            | exact tells_no HE.out HXR.out.1
            | exact ⟨_, rfl, ⟨fun g => absurd (of_decide_eq_true g) (by omega), fun g => absurd g HE.out⟩, HXR.out.1⟩
      · have HE : Hid (¬ feedOk m) := Lib.hid (fun g => c2 g.2.1)
        have c3 : 4 < m.ents.length := by omega
        have c3i : (4 : Int) < (m.ents.length : Int) := by omega
        clear c2
        go_wp2
        go_ret
        exact tells_no HE.out HXR.out.1
set_option maxHeartbeats 16000000 in
theorem rput_any (m : Mes) (v : Value) (w : World) (h : IsMsg w v m) : Calls Tryz.prog 51 #[v] w (Tells (putOk m) w) := by
  obtain ⟨ae, ce, vn, vh, vl, rfl, hlc, hcm, hx⟩ := BoxM.of h
  obtain ⟨q0, q1, q2, q3, q4, q5, q6, q7, q8, -⟩ := cells16 hx.2.1
  have HX := Lib.hid hx
  have hG : IsLog (w.alloc (.cells (mArr m (.slice ae m.ents.length ce) vn vh vl) 33)) (.slice ae m.ents.length ce) m.ents := IsMsg_log hx.2.2.1
  clear hx h
  by_cases c1 : m.ents.length = 1
  · obtain ⟨x, b, off, ar, cr, he, rfl, hlt, hsl, hwf, hc⟩ := one_cells hG c1
    have HNO : Hid (¬ (x.term = 0 ∧ (x.cmd.kind = 3 ∨ x.cmd.kind = 4 ∨ x.cmd.kind = 5) ∧ Cm.chkC x.cmd = true ∧ x.cmd.node = m.src) → ¬ putOk m) := Lib.hid (put_not he)
    have HYE : Hid ((x.term = 0 ∧ (x.cmd.kind = 3 ∨ x.cmd.kind = 4 ∨ x.cmd.kind = 5) ∧ Cm.chkC x.cmd = true ∧ x.cmd.node = m.src) → putOk m) := Lib.hid (fun g => ⟨x, he, g⟩)
    clear he hG
    have e0 := hc 0 _ rfl
    have e1 := hc 1 _ rfl
    have e2 := hc 2 _ rfl
    have e3 := hc 3 _ rfl
    have e4 := hc 4 _ rfl
    have e5 := hc 5 _ rfl
    have e6 := hc 6 _ rfl
    have e7 := hc 7 _ rfl
    have e8 := hc 8 _ rfl
    rw [Nat.add_zero] at e0
    clear hc
    unfold BoxM at HX
    generalize m.ents.length = n at *
    subst c1
    have hx := HX.out
    have hb1 : Below (w.alloc (.cells (mArr m (.slice (some ⟨b, off, none⟩) 1 ce) vn vh vl) 33)).heap.size (w.alloc (.cells (mArr m (.slice (some ⟨b, off, none⟩) 1 ce) vn vh vl) 33)) ((w.alloc (.cells (mArr m (.slice (some ⟨b, off, none⟩) 1 ce) vn vh vl) 33)).alloc (.cells (Cm.cArr x.cmd (.slice ar x.cmd.nodes.length cr)) 86)) := (Below.refl _ _).alloc (Nat.le_refl _) _
    have HC : Hid (IsCmd ((w.alloc (.cells (mArr m (.slice (some ⟨b, off, none⟩) 1 ce) vn vh vl) 33)).alloc (.cells (Cm.cArr x.cmd (.slice ar x.cmd.nodes.length cr)) 86)) (.agg (Cm.cArr x.cmd (.slice ar x.cmd.nodes.length cr))) x.cmd) := Lib.hid ⟨_, rfl, hsl.below hb1 (Nat.le_refl _), hwf.2⟩
    have hA1 := (hb1.block _ hx.2.2.2).trans hx.2.1
    have HA1 := Lib.hid hA1
    have HB1 := Lib.hid (hx.1.trans (hb1.mono hx.1.size))
    have HK1 : Hid (((w.alloc (.cells (mArr m (.slice (some ⟨b, off, none⟩) 1 ce) vn vh vl) 33)).alloc (.cells (Cm.cArr x.cmd (.slice ar x.cmd.nodes.length cr)) 86)).heap[w.heap.size + 1]? = some (.cells (Cm.cArr x.cmd (.slice ar x.cmd.nodes.length cr)) 86 (0, 0))) := Lib.hid (heap_alloc2_new _ _ _)
    obtain ⟨-, -, -, -, -, -, -, -, p8, -⟩ := cells16 hA1
    have f0 := (hb1.cell (p := ⟨b, off, none⟩) hlt).trans e0
    clear hx HX hb1 hsl hwf hA1
    by_cases ht : x.term = 0
    · have t0 : (x.term == 0) = true := beq_t ht
      have HTT := Lib.hid ht
      clear ht
      obtain ⟨yc, hyc⟩ : ∃ y, (Cm.cErr (Cm.chkC x.cmd) == 0) = y := ⟨_, rfl⟩
      have HPC : Hid (Cm.chkC x.cmd = yc) := Lib.hid ((Hd.cErr_eq _).symm.trans hyc)
      have hK : x.cmd.kind = 3 ∨ x.cmd.kind = 4 ∨ x.cmd.kind = 5 ∨ ¬ (x.cmd.kind = 3 ∨ x.cmd.kind = 4 ∨ x.cmd.kind = 5) := by omega
      obtain ⟨yn, hyn⟩ : ∃ y, (x.cmd.node == m.src) = y := ⟨_, rfl⟩
      have HPN : Hid (x.cmd.node = m.src ↔ yn = true) := Lib.hid (by rw [← hyn, beq_iff_eq])
      have main : ∀ (y3 y4 y5 : Bool), (x.cmd.kind == 3) = y3 → (x.cmd.kind == 4) = y4 → (x.cmd.kind == 5) = y5 →
          Calls Tryz.prog 51 #[.agg (mArr m (.slice (some ⟨b, off, none⟩) 1 ce) vn vh vl)] w (Tells (putOk m) w) := by
        intro y3 y4 y5 hy3 hy4 hy5
        have HP : Hid ((x.cmd.kind = 3 ∨ x.cmd.kind = 4 ∨ x.cmd.kind = 5) ↔ (y3 = true ∨ y4 = true ∨ y5 = true)) := Lib.hid (by rw [← hy3, ← hy4, ← hy5, beq_iff_eq, beq_iff_eq, beq_iff_eq])
        clear hK
        cases yc
        · have HE : Hid (¬ putOk m) := Lib.hid (HNO.out fun g => Bool.noConfusion (HPC.out.symm.trans g.2.2.1))
          go_enter Tryz.func51, Tryz.ntmps51
          go_wp2_with fail
          refine (rcmd_any x.cmd _ _ HC.out).mono ?_
          rintro e w2 ⟨rfl, hb2⟩
          have HB2 := Lib.hid (HB1.out.trans (hb2.mono HB1.out.size))
          clear hb2 q0 q1 q2 q3 q4 q5 q6 q7 q8 e0 e1 e2 e3 e4 e5 e6 e7 e8 p8 f0
          go_wp2
          go_ret
          exact tells_no HE.out HB2.out
        · cases y3 <;> cases y4 <;> cases y5 <;> cases yn
          all_goals
            first
              | have HE : Hid (putOk m) := Lib.hid (HYE.out ⟨HTT.out, HP.out.2 (of_decide_eq_true rfl), HPC.out, HPN.out.2 rfl⟩)
              | have HE : Hid (¬ putOk m) := Lib.hid (HNO.out fun g => Bool.noConfusion (HPN.out.1 g.2.2.2))
              | have HE : Hid (¬ putOk m) := Lib.hid (HNO.out fun g => by rcases HP.out.1 g.2.1 with h | h | h <;> cases h)
            go_enter Tryz.func51, Tryz.ntmps51
            go_wp2_with fail
            refine (rcmd_any x.cmd _ _ HC.out).mono ?_
            rintro e w2 ⟨rfl, hb2⟩
            obtain ⟨p0, p1, -⟩ := cells16 ((hb2.block _ (Rc.lt_of_row8 HA1.out)).trans HA1.out)
            have r0 := (cell_of_row w2 _ 0 _ _ _ ((hb2.block _ (Rc.lt_of_row8 HK1.out)).trans HK1.out)).trans rfl
            have r1 := (cell_of_row w2 _ 1 _ _ _ ((hb2.block _ (Rc.lt_of_row8 HK1.out)).trans HK1.out)).trans rfl
            have HB2 := Lib.hid (HB1.out.trans (hb2.mono HB1.out.size))
            clear hb2 q0 q1 q2 q3 q4 q5 q6 q7 q8 e0 e1 e2 e3 e4 e5 e6 e7 e8 p8 f0
            go_wp2
            go_ret
            first
              | exact tells_yes HE.out HB2.out
              | exact tells_no HE.out HB2.out
      exact main _ _ _ rfl rfl rfl
    · have t0 : (x.term == 0) = false := beq_f ht
      have HE : Hid (¬ putOk m) := Lib.hid (HNO.out fun g => ht g.1)
      clear ht
      go_enter Tryz.func51, Tryz.ntmps51
      go_wp2
      go_ret
      exact tells_no HE.out HB1.out
  · have HE : Hid (¬ putOk m) := Lib.hid (fun ⟨x, g, _⟩ => c1 (by rw [g]; rfl))
    have c2 : ((m.ents.length : Int) != 1) = true := bne_t (by omega)
    clear c1
    go_enter Tryz.func51, Tryz.ntmps51
    go_wp2
    go_ret
    exact tells_no HE.out HX.out.1
end Ms
end Go.Proofs.YtlfaiemebfkajaaGreatDoor
namespace Go.Proofs.YtlfaiemebfkajaaGreatDoor
open Go.ChangeShapes Go.WideShapes Go.ChangeAt Go.RowKit Go.Deep
set_option linter.unusedVariables false
set_option maxRecDepth 100000
namespace Ms
open Nv
def preOk (m : Mes) : Prop := kindM m.kind ∧ nodeP m.src ∧ nodeP m.dst ∧ m.src ≠ m.dst ∧ zUp m 7
def midOk (m : Mes) : Prop := preOk m ∧ (m.kind ≠ 6 → 1 ≤ m.term) ∧ (m.kind = 1 ∨ m.kind = 3 → ltOk m)
theorem msg_iff (m : Mes) : msgOk m ↔ midOk m ∧ (m.kind = 3 → feedOk m) ∧ (m.kind = 5 → shipOk m) ∧ (m.kind = 6 → putOk m) := by
  unfold msgOk midOk preOk fitsM
  constructor
  · rintro ⟨a, b, c, d, e, f, g, h, i, j⟩
    exact ⟨⟨⟨a, b, c, d, e⟩, g, fun q => q.elim h (fun r => (i r).1)⟩, fun q => (i q).2, j, f⟩
  · rintro ⟨⟨⟨a, b, c, d, e⟩, f, g⟩, h, i, j⟩
    exact ⟨a, b, c, d, e, j, f, fun q => g (.inl q), fun q => ⟨g (.inr q), h q⟩, i⟩
theorem has_t {k : Int} (h : kindM k) : Cm.hasB (fieldT k) 116 = true ↔ k ≠ 6 := by
  unfold kindM at h
  rcases (show k = 1 ∨ k = 2 ∨ k = 3 ∨ k = 4 ∨ k = 5 ∨ k = 6 by omega) with rfl | rfl | rfl | rfl | rfl | rfl <;> decide
theorem has_l {k : Int} (h : kindM k) : Cm.hasB (fieldT k) 108 = true ↔ k = 1 ∨ k = 3 := by
  unfold kindM at h
  rcases (show k = 1 ∨ k = 2 ∨ k = 3 ∨ k = 4 ∨ k = 5 ∨ k = 6 by omega) with rfl | rfl | rfl | rfl | rfl | rfl <;> decide
theorem emp_no {s : ByteArray} (h : 0 < s.size) : s.toList.isEmpty = false := by
  cases hq : s.toList with
  | nil =>
    exfalso
    have := congrArg List.length hq
    rw [ByteArray.toList_eq, Array.length_toList] at this
    have h2 : s.size = 0 := this
    omega
  | cons a l => rfl
theorem emp_yes {s : ByteArray} (h : s.size = 0) : s.toList.isEmpty = true := by
  have : s.toList.length = 0 := by rw [ByteArray.toList_eq, Array.length_toList]; exact h
  rw [List.eq_nil_of_length_eq_zero this]
  rfl
theorem kind_b {k : Int} {b : Bool} (h : (!(fieldT k).toList.isEmpty) = b) : kindM k ↔ b = true := by
  subst h
  by_cases hk : kindM k
  · refine ⟨fun _ => ?_, fun _ => hk⟩
    unfold kindM at hk
    rcases (show k = 1 ∨ k = 2 ∨ k = 3 ∨ k = 4 ∨ k = 5 ∨ k = 6 by omega) with rfl | rfl | rfl | rfl | rfl | rfl <;> (rw [emp_no (by decide)]; rfl)
  · rw [fieldT_no hk, emp_yes (by decide)]
    exact ⟨fun g => absurd g hk, fun g => absurd g (by decide)⟩
set_option maxHeartbeats 16000000 in
theorem rcheck_any (m : Mes) (v : Value) (w : World) (h : IsMsg w v m) : Calls Tryz.prog 16 #[v] w (SaysM m w) := by
  obtain ⟨ae, ce, vn, vh, vl, rfl, hlc, hcm, hx⟩ := BoxM.of h
  obtain ⟨q0, q1, q2, q3, q4, q5, q6, q7, q8, q9, q10, -⟩ := cells16 hx.2.1
  have hr := hx.2.1
  have HX := Lib.hid hx
  clear hx h
  have HIFF := Lib.hid (msg_iff m)
  have HHT := Lib.hid (fun h => has_t (k := m.kind) h)
  have HHL := Lib.hid (fun h => has_l (k := m.kind) h)
  go_enter Tryz.func16, Tryz.ntmps16
  go_upto_region 2 with (go_at_call 41; refine (rfields_any _ _).mono ?_; rintro e w2 ⟨rfl, rfl⟩)
  go_cut [4] (fun s4 wx => ∃ b, s4 = .bool b ∧ Hid (b = true ↔ preOk m) ∧ BoxM w wx m ae ce vn vh vl)
  case first =>
    obtain ⟨yk, hyk⟩ : ∃ y, (!(fieldT m.kind).toList.isEmpty) = y := ⟨_, rfl⟩
    obtain ⟨y1, hy1⟩ : ∃ y, decide (1 ≤ m.src ∧ m.src ≤ 7) = y := ⟨_, rfl⟩
    obtain ⟨y2, hy2⟩ : ∃ y, decide (1 ≤ m.dst ∧ m.dst ≤ 7) = y := ⟨_, rfl⟩
    obtain ⟨y3, hy3⟩ : ∃ y, (m.src != m.dst) = y := ⟨_, rfl⟩
    have HYK := Lib.hid (kind_b hyk)
    have HN1 := Lib.hid (node_b hy1)
    have HN2 := Lib.hid (node_b hy2)
    have HN3 : Hid (m.src ≠ m.dst ↔ y3 = true) := Lib.hid (by rw [← hy3]; exact bne_iff_ne.symm)
    have HY1 := Lib.hid hy1
    have HY2 := Lib.hid hy2
    clear hy1 hy2
    cases yk
    · have HE : Hid (¬ preOk m) := Lib.hid (fun g => Bool.noConfusion (HYK.out.1 g.1))
      go_wp2
      go_meet
      exact ⟨false, rfl, Lib.hid ⟨fun g => Bool.noConfusion g, fun g => absurd g HE.out⟩, HX.out⟩
    have HK := Lib.hid (HYK.out.2 rfl)
    cases y1
    · have HE : Hid (¬ preOk m) := Lib.hid (fun g => Bool.noConfusion (HN1.out.1 g.2.1))
      go_wp2_with (go_at_call 46; refine (rnode_any _ _).mono ?_; rintro e w2 ⟨rfl, rfl⟩; rw [HY1.out])
      go_meet
      exact ⟨false, rfl, Lib.hid ⟨fun g => Bool.noConfusion g, fun g => absurd g HE.out⟩, HX.out⟩
    have HP1 := Lib.hid (HN1.out.2 rfl)
    cases y2
    · have HE : Hid (¬ preOk m) := Lib.hid (fun g => Bool.noConfusion (HN2.out.1 g.2.2.1))
      go_wp2_with (go_at_call 46; refine (rnode_any _ _).mono ?_; rintro e w2 ⟨rfl, rfl⟩; first | rw [HY1.out] | rw [HY2.out])
      go_meet
      exact ⟨false, rfl, Lib.hid ⟨fun g => Bool.noConfusion g, fun g => absurd g HE.out⟩, HX.out⟩
    have HP2 := Lib.hid (HN2.out.2 rfl)
    cases y3
    · have HE : Hid (¬ preOk m) := Lib.hid (fun g => Bool.noConfusion (HN3.out.1 g.2.2.2.1))
      go_wp2_with (go_at_call 46; refine (rnode_any _ _).mono ?_; rintro e w2 ⟨rfl, rfl⟩; first | rw [HY1.out] | rw [HY2.out])
      go_meet
      exact ⟨false, rfl, Lib.hid ⟨fun g => Bool.noConfusion g, fun g => absurd g HE.out⟩, HX.out⟩
    have HP3 := Lib.hid (HN3.out.2 rfl)
    go_wp2_with (first
      | (go_at_call 46; refine (rnode_any _ _).mono ?_; rintro e w2 ⟨rfl, rfl⟩; first | rw [HY1.out] | rw [HY2.out])
      | (refine wpList_load_rowG rfl 33 (.tmp 1) rfl w.heap.size rfl 33 (mArr m (.slice ae m.ents.length ce) vn vh vl) (0, 0) _ hr Tryz.underlying33 rfl (by kernel_rfl) ?_))
    refine (zero_any m HK.out _ _ HX.out.2.2.1).mono ?_
    rintro e w1 ⟨bb, rfl, hbb, hb1⟩
    have HX1 := Lib.hid (HX.out.on hb1)
    have HBB := Lib.hid hbb
    clear hbb hb1
    go_wp2
    go_meet
    exact ⟨bb, rfl, Lib.hid ⟨fun g => ⟨HK.out, HP1.out, HP2.out, HP3.out, HBB.out.1 g⟩, fun g => HBB.out.2 g.2.2.2.2⟩, HX1.out⟩
  case rest =>
    obtain ⟨b1, rfl, HB1, hx1⟩ := hcut
    have HX1 := Lib.hid hx1
    clear q0 q1 q2 q3 q4 q5 q6 q7 q8 q9 q10 hr HX
    obtain ⟨q0, q1, q2, q3, q4, q5, q6, q7, q8, q9, q10, -⟩ := cells16 hx1.2.1
    clear hx1
    go_upto_region 3 with fail
    go_cut [4] (fun s4 wx => ∃ b, s4 = .bool b ∧ Hid (b = true ↔ midOk m) ∧ BoxM w wx m ae ce vn vh vl)
    case first =>
      cases b1
      · have HE : Hid (¬ midOk m) := Lib.hid (fun g => Bool.noConfusion (HB1.out.2 g.1))
        go_wp2
        go_meet
        exact ⟨false, rfl, Lib.hid ⟨fun g => Bool.noConfusion g, fun g => absurd g HE.out⟩, HX1.out⟩
      have HPRE := Lib.hid (HB1.out.1 rfl)
      have HHT2 := Lib.hid (HHT.out HPRE.out.1)
      have HHL2 := Lib.hid (HHL.out HPRE.out.1)
      obtain ⟨bt, hbt⟩ : ∃ y, Cm.hasB (fieldT m.kind) 116 = y := ⟨_, rfl⟩
      obtain ⟨bl, hbl⟩ : ∃ y, Cm.hasB (fieldT m.kind) 108 = y := ⟨_, rfl⟩
      have HT : Hid (bt = true ↔ m.kind ≠ 6) := Lib.hid (by rw [← hbt]; exact HHT2.out)
      have HL : Hid (bl = true ↔ m.kind = 1 ∨ m.kind = 3) := Lib.hid (by rw [← hbl]; exact HHL2.out)
      have HBT := Lib.hid hbt
      have HBL := Lib.hid hbl
      clear hbt hbl
      by_cases hg : bt = true ∧ m.term < 1
      · obtain ⟨rfl, hlt⟩ := hg
        have HE : Hid (¬ midOk m) := Lib.hid (fun g => by have := g.2.1 (HT.out.1 rfl); omega)
        go_wp2_with (go_at_call 48; refine (rhas_any _ _ (fieldT_small _) _).mono ?_; rintro e w2 ⟨rfl, rfl⟩; first | rw [HBT.out] | rw [HBL.out])
        go_meet
        exact ⟨false, rfl, Lib.hid ⟨fun g => Bool.noConfusion g, fun g => absurd g HE.out⟩, HX1.out⟩
      have HTM : Hid (m.kind ≠ 6 → 1 ≤ m.term) := Lib.hid (fun q => by have := HT.out.2 q; by_cases h : 1 ≤ m.term; exact h; exact absurd ⟨this, by omega⟩ hg)
      obtain ⟨x, hx⟩ : ∃ x, (m.lterm == 0) = x := ⟨_, rfl⟩
      obtain ⟨y, hy⟩ : ∃ y, (m.index == 0) = y := ⟨_, rfl⟩
      have HP : Hid (ltOk m ↔ (x = y ∧ m.lterm ≤ m.term)) := Lib.hid (by
        unfold ltOk
        rw [← hx, ← hy]
        constructor
        · rintro ⟨a, b⟩
          exact ⟨by rw [Bool.eq_iff_iff, beq_iff_eq, beq_iff_eq]; exact a, b⟩
        · rintro ⟨a, b⟩
          exact ⟨by rw [Bool.eq_iff_iff, beq_iff_eq, beq_iff_eq] at a; exact a, b⟩)
      have hT : bt = false ∨ (bt = true ∧ 1 ≤ m.term) := by
        cases bt
        · exact .inl rfl
        · exact .inr ⟨rfl, Classical.byContradiction fun q => hg ⟨rfl, by omega⟩⟩
      clear hg
      rcases hT with rfl | ⟨rfl, hge⟩ <;> cases bl
      case inl.false | inr.false =>
        have HE : Hid (midOk m) := Lib.hid ⟨HPRE.out, HTM.out, fun q => Bool.noConfusion (HL.out.2 q)⟩
        go_wp2_with (go_at_call 48; refine (rhas_any _ _ (fieldT_small _) _).mono ?_; rintro e w2 ⟨rfl, rfl⟩; first | rw [HBT.out] | rw [HBL.out])
        go_meet
        exact ⟨true, rfl, Lib.hid ⟨fun _ => HE.out, fun _ => rfl⟩, HX1.out⟩
      all_goals
        have HKL := Lib.hid (HL.out.1 rfl)
        by_cases c : m.lterm ≤ m.term
        · have hd : decide (m.lterm ≤ m.term) = true := decide_eq_true c
          cases x <;> cases y
          all_goals
            first
              | have HE : Hid (midOk m) := Lib.hid ⟨HPRE.out, HTM.out, fun _ => HP.out.2 ⟨rfl, c⟩⟩
              | have HE : Hid (¬ midOk m) := Lib.hid (fun g => Bool.noConfusion (HP.out.1 (g.2.2 HKL.out)).1)
            go_wp2_with (go_at_call 48; refine (rhas_any _ _ (fieldT_small _) _).mono ?_; rintro e w2 ⟨rfl, rfl⟩; first | rw [HBT.out] | rw [HBL.out])
            go_meet
            first
              | exact ⟨true, rfl, Lib.hid ⟨fun _ => HE.out, fun _ => rfl⟩, HX1.out⟩
              | exact ⟨false, rfl, Lib.hid ⟨fun g => Bool.noConfusion g, fun g => absurd g HE.out⟩, HX1.out⟩
        · have hd : decide (m.lterm ≤ m.term) = false := decide_eq_false c
          have HE : Hid (¬ midOk m) := Lib.hid (fun g => c (g.2.2 HKL.out).2)
          have c' : m.term < m.lterm := by omega
          have HD := Lib.hid hd
          clear c hd
          cases x <;> cases y
          all_goals
            go_wp2_with (go_at_call 48; refine (rhas_any _ _ (fieldT_small _) _).mono ?_; rintro e w2 ⟨rfl, rfl⟩; first | rw [HBT.out] | rw [HBL.out])
            go_meet
            first
              | exact ⟨false, rfl, Lib.hid ⟨fun g => Bool.noConfusion g, fun g => absurd g HE.out⟩, HX1.out⟩
              | exact ⟨_, rfl, Lib.hid ⟨fun g => absurd (of_decide_eq_true g) (by omega), fun g => absurd g HE.out⟩, HX1.out⟩
    case rest =>
      obtain ⟨b2, rfl, HB2, hx2⟩ := hcut
      have HX2 := Lib.hid hx2
      clear q0 q1 q2 q3 q4 q5 q6 q7 q8 q9 q10 HX1 HB1
      obtain ⟨q0, q1, q2, q3, q4, q5, q6, q7, q8, q9, q10, -⟩ := cells16 hx2.2.1
      have hr := hx2.2.1
      have ra := shot_range hx2.2.1
      have HSH : Hid (IsShot _ (.agg (sArr m.shot vn vh vl)) m.shot) := Lib.hid (IsMsg_shot hx2.2.2.1)
      clear hx2
      obtain ⟨k3, hk3⟩ : ∃ y, (m.kind == 3) = y := ⟨_, rfl⟩
      obtain ⟨k5, hk5⟩ : ∃ y, (m.kind == 5) = y := ⟨_, rfl⟩
      obtain ⟨k6, hk6⟩ : ∃ y, (m.kind == 6) = y := ⟨_, rfl⟩
      have HK3 : Hid (m.kind = 3 ↔ k3 = true) := Lib.hid (by rw [← hk3]; exact beq_iff_eq.symm)
      have HK5 : Hid (m.kind = 5 ↔ k5 = true) := Lib.hid (by rw [← hk5]; exact beq_iff_eq.symm)
      have HK6 : Hid (m.kind = 6 ↔ k6 = true) := Lib.hid (by rw [← hk6]; exact beq_iff_eq.symm)
      go_upto_block 0 with fail
      go_cut [4] (fun s4 wx => ∃ b, s4 = .bool b ∧ Hid (b = true ↔ msgOk m) ∧ BoxM w wx m ae ce vn vh vl)
      case first =>
        cases b2
        · have HE : Hid (¬ msgOk m) := Lib.hid (fun g => Bool.noConfusion (HB2.out.2 (HIFF.out.1 g).1))
          cases k3 <;> cases k5 <;> cases k6
          all_goals
            go_wp2
            go_meet
            exact ⟨false, rfl, Lib.hid ⟨fun g => Bool.noConfusion g, fun g => absurd g HE.out⟩, HX2.out⟩
        have HMID := Lib.hid (HB2.out.1 rfl)
        cases k3
        rotate_left
        · have h3 := HK3.out.2 rfl
          have HQ : Hid (msgOk m ↔ feedOk m) := Lib.hid (HIFF.out.trans ⟨fun g => g.2.1 h3, fun g => ⟨HMID.out, fun _ => g, fun q => by omega, fun q => by omega⟩⟩)
          clear h3
          go_wp2_with (refine wpList_load_rowG rfl 33 (.tmp 1) rfl w.heap.size rfl 33 (mArr m (.slice ae m.ents.length ce) vn vh vl) (0, 0) _ hr Tryz.underlying33 rfl (by kernel_rfl) ?_)
          refine (rents_any m _ _ HX2.out.2.2.1).mono ?_
          rintro e w3 ⟨bb, rfl, hbb, hb3⟩
          have HX3 := Lib.hid (HX2.out.on hb3)
          have HBB := Lib.hid (hbb.trans HQ.out.symm)
          clear hbb hb3 hr ra q0 q1 q2 q3 q4 q5 q6 q7 q8 q9 q10
          cases bb
          · have HE : Hid (¬ msgOk m) := Lib.hid (fun g => Bool.noConfusion (HBB.out.2 g))
            go_wp2
            go_meet
            exact ⟨false, rfl, Lib.hid ⟨fun g => Bool.noConfusion g, fun g => absurd g HE.out⟩, HX3.out⟩
          · have HE := Lib.hid (HBB.out.1 rfl)
            go_wp2
            go_meet
            exact ⟨true, rfl, Lib.hid ⟨fun _ => HE.out, fun _ => rfl⟩, HX3.out⟩
        have HN3 : Hid (m.kind ≠ 3) := Lib.hid (fun q => Bool.noConfusion (HK3.out.1 q))
        cases k5
        rotate_left
        · have h5 := HK5.out.2 rfl
          have HQ : Hid (msgOk m ↔ shipOk m) := Lib.hid (HIFF.out.trans ⟨fun g => g.2.2.1 h5, fun g => ⟨HMID.out, fun q => by omega, fun _ => g, fun q => by omega⟩⟩)
          clear h5
          go_wp2_with (refine wpList_load_midG rfl 31 (.tmp 76) rfl w.heap.size 9 rfl (sArr m.shot vn vh vl).toList _ ra Tryz.underlying31 rfl (by kernel_rfl) ?_)
          refine (Sh.rcheck_any m.shot _ _ HSH.out).mono ?_
          rintro e w3 ⟨z, rfl, hz, hb3⟩
          have HX3 := Lib.hid (HX2.out.on hb3)
          clear hr ra q0 q1 q2 q3 q4 q5 q6 q7 q8 q9 q10 hb3
          rcases hz with ⟨rfl, hok⟩ | ⟨rfl, hno⟩
          · have HOK := Lib.hid hok
            obtain ⟨q0, q1, q2, q3, q4, q5, q6, q7, q8, q9, q10, -⟩ := cells16 HX3.out.2.1
            clear hok
            by_cases c1 : 1 ≤ m.shot.index
            · have HE : Hid (decide (m.shot.term ≤ m.term) = true ↔ msgOk m) := Lib.hid (decide_eq_true_iff.trans ⟨fun g => HQ.out.2 ⟨HOK.out, c1, g⟩, fun g => (HQ.out.1 g).2.2⟩)
              go_wp2
              go_meet
              exact ⟨_, rfl, HE, HX3.out⟩
            · have HE : Hid (¬ msgOk m) := Lib.hid (fun g => c1 (HQ.out.1 g).2.1)
              have c3 : m.shot.index < 1 := by omega
              clear c1
              go_wp2
              go_meet
              exact ⟨false, rfl, Lib.hid ⟨fun g => Bool.noConfusion g, fun g => absurd g HE.out⟩, HX3.out⟩
          · have HE : Hid (¬ msgOk m) := Lib.hid (fun g => hno (HQ.out.1 g).1)
            clear hno
            go_wp2
            go_meet
            exact ⟨false, rfl, Lib.hid ⟨fun g => Bool.noConfusion g, fun g => absurd g HE.out⟩, HX3.out⟩
        have HN5 : Hid (m.kind ≠ 5) := Lib.hid (fun q => Bool.noConfusion (HK5.out.1 q))
        cases k6
        · have HE : Hid (msgOk m) := Lib.hid (HIFF.out.2 ⟨HMID.out, fun q => absurd q HN3.out, fun q => absurd q HN5.out, fun q => Bool.noConfusion (HK6.out.1 q)⟩)
          go_wp2
          go_meet
          exact ⟨true, rfl, Lib.hid ⟨fun _ => HE.out, fun _ => rfl⟩, HX2.out⟩
        · have HQ : Hid (msgOk m ↔ putOk m) := Lib.hid (HIFF.out.trans ⟨fun g => g.2.2.2 (HK6.out.2 rfl), fun g => ⟨HMID.out, fun q => absurd q HN3.out, fun q => absurd q HN5.out, fun _ => g⟩⟩)
          go_wp2_with (refine wpList_load_rowG rfl 33 (.tmp 1) rfl w.heap.size rfl 33 (mArr m (.slice ae m.ents.length ce) vn vh vl) (0, 0) _ hr Tryz.underlying33 rfl (by kernel_rfl) ?_)
          refine (rput_any m _ _ HX2.out.2.2.1).mono ?_
          rintro e w3 ⟨bb, rfl, hbb, hb3⟩
          have HX3 := Lib.hid (HX2.out.on hb3)
          have HBB := Lib.hid (hbb.trans HQ.out.symm)
          clear hbb hb3 hr ra q0 q1 q2 q3 q4 q5 q6 q7 q8 q9 q10
          cases bb
          · have HE : Hid (¬ msgOk m) := Lib.hid (fun g => Bool.noConfusion (HBB.out.2 g))
            go_wp2
            go_meet
            exact ⟨false, rfl, Lib.hid ⟨fun g => Bool.noConfusion g, fun g => absurd g HE.out⟩, HX3.out⟩
          · have HE := Lib.hid (HBB.out.1 rfl)
            go_wp2
            go_meet
            exact ⟨true, rfl, Lib.hid ⟨fun _ => HE.out, fun _ => rfl⟩, HX3.out⟩
      case rest =>
        obtain ⟨b4, rfl, HB4, hx4⟩ := hcut
        have HX4 := Lib.hid hx4
        clear hx4 hr ra q0 q1 q2 q3 q4 q5 q6 q7 q8 q9 q10
        cases b4
        · have HE : Hid (¬ msgOk m) := Lib.hid (fun g => Bool.noConfusion (HB4.out.2 g))
          go_wp2
          go_ret
          exact says_no HE.out HX4.out.1
        · have HE := Lib.hid (HB4.out.1 rfl)
          go_wp2
          go_ret
          exact says_yes HE.out HX4.out.1
end Ms
end Go.Proofs.YtlfaiemebfkajaaGreatDoor
