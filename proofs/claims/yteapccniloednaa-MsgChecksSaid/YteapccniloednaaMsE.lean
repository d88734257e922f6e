/- The document's own fields, has, node and zero of a message. No condition. -/
import Derived.Test.YteapccniloednaaMsD
import Derived.Test.YteapccniloednaaCmB
import Derived.Test.YteapccniloednaaSmE
namespace Go.Proofs.Yteapccniloednaa
open Go.ChangeShapes Go.WideShapes Go.ChangeAt Go.RowKit Go.Deep
set_option linter.unusedVariables false
set_option maxRecDepth 100000
namespace Ms
open Nv
def fieldT (k : Int) : ByteArray := if k = 1 then ⟨#[116, 105, 108]⟩ else if k = 2 then ⟨#[116, 102]⟩ else if k = 3 then ⟨#[116, 105, 108, 99, 101]⟩ else if k = 4 then ⟨#[116, 102, 105]⟩ else if k = 5 then ⟨#[116, 115]⟩ else if k = 6 then ⟨#[101]⟩ else ⟨#[]⟩
theorem ret_s {s t : ByteArray} (h : s = t) : Ending.returned (.string s) = .returned (.string t) := by rw [h]
theorem fieldT_no {k : Int} (h : ¬ kindM k) : fieldT k = ⟨#[]⟩ := by
  unfold kindM at h
  unfold fieldT; rw [if_neg (by omega), if_neg (by omega), if_neg (by omega), if_neg (by omega), if_neg (by omega), if_neg (by omega)]
set_option maxHeartbeats 800000 in
theorem rfields_any (k : Int) (w : World) : Calls Try.prog 15 #[.int .i64 k] w fun e w' => e = .returned (.string (fieldT k)) ∧ w = w' := by
  by_cases h : kindM k
  · unfold kindM at h
    rcases (show k = 1 ∨ k = 2 ∨ k = 3 ∨ k = 4 ∨ k = 5 ∨ k = 6 by omega) with rfl | rfl | rfl | rfl | rfl | rfl
    all_goals
      clear h
      go_enter Try.func15, Try.ntmps15
      go_wp2
      go_ret
      exact ⟨rfl, rfl⟩
  · have HS := Lib.hid (fieldT_no h)
    unfold kindM at h
    have h1 : (k == 1) = false := beq_eq_false_iff_ne.2 (by omega)
    have h2 : (k == 2) = false := beq_eq_false_iff_ne.2 (by omega)
    have h3 : (k == 3) = false := beq_eq_false_iff_ne.2 (by omega)
    have h4 : (k == 4) = false := beq_eq_false_iff_ne.2 (by omega)
    have h5 : (k == 5) = false := beq_eq_false_iff_ne.2 (by omega)
    have h6 : (k == 6) = false := beq_eq_false_iff_ne.2 (by omega)
    clear h
    go_enter Try.func15, Try.ntmps15
    go_wp2
    go_ret
    exact ⟨ret_s HS.out.symm, rfl⟩
theorem rnode_any (n : Int) (w : World) : Calls Try.prog 16 #[.int .i64 n] w fun e w' => e = .returned (.bool (decide (1 ≤ n ∧ n ≤ 7))) ∧ w = w' := by
  go_enter Try.func16, Try.ntmps16
  go_wp2
  all_goals (go_ret; exact ⟨ret_bool (by first | (exact decide_eq_decide.2 (by omega)) | (simp; omega)), rfl⟩)
theorem fieldT_small (k : Int) : (fieldT k).size ≤ 1000 := by
  unfold fieldT
  repeat' split
  all_goals decide
set_option maxHeartbeats 400000 in
theorem rhas_any (s : ByteArray) (c : Int) (hs : s.size ≤ 1000) (w : World) :
    Calls Try.prog 18 #[.string s, .int .u8 c] w fun e w' => e = .returned (.bool (Cm.hasB s c)) ∧ w = w' := by
  go_enter Try.func18, Try.ntmps18
  go_wp2
  go_loop [5] (fun i => ∃ k : Nat, k ≤ s.size ∧ i = .int .i64 k ∧ Hid (c ∉ (Cm.sbs s).take k)) (fun i => s.size - (intOf i).toNat)
  case atStart => exact ⟨0, Nat.zero_le _, rfl, Lib.hid (by simp)⟩
  case round =>
    obtain ⟨k, hk, rfl, HO⟩ := hrel
    by_cases hlt : k < s.size
    · have hg := Cm.sbs_get s k hlt
      have HM := Lib.hid (Nd.mem_get (l := Cm.sbs s) (k := k) (by rw [Cm.sbs_length]; exact hlt))
      have HT := Lib.hid (Nd.take_get (l := Cm.sbs s) (k := k) (by rw [Cm.sbs_length]; exact hlt))
      rw [hg] at HM HT
      clear hg
      by_cases hz : (s[k].toNat : Int) = c
      · have HB : Hid (Cm.hasB s c = true) := Lib.hid (decide_eq_true (by rw [← hz]; exact HM.out))
        have hz2 : ((s[k].toNat : Int) == c) = true := beq_iff_eq.2 hz
        clear hz
        go_wp2
        go_ret
        exact ⟨ret_bool HB.out.symm, rfl⟩
      · have HO2 : Hid (c ∉ (Cm.sbs s).take (k + 1)) := by
          refine Lib.hid ?_
          rw [HT.out, List.mem_append, List.mem_singleton]
          rintro (h | h)
          · exact HO.out h
          · exact hz h.symm
        have hz2 : ((s[k].toNat : Int) == c) = false := beq_eq_false_iff_ne.2 hz
        clear hz
        go_wp2
        go_round
        case rel => exact ⟨k + 1, by omega, by go_num, HO2⟩
        case measure => simp [intOf]; omega
    · obtain rfl : k = s.size := by omega
      have HO2 := HO.out
      rw [← Cm.sbs_length, List.take_length] at HO2
      have HB : Hid (Cm.hasB s c = false) := Lib.hid (decide_eq_false HO2)
      clear HO2
      go_wp2
      go_ret
      exact ⟨ret_bool HB.out.symm, rfl⟩

abbrev zSV : Value := .agg #[.int .u64 0, .int .u64 0, .slice none 0 0, .int .i64 0, .int .u64 0, .slice none 0 0, .slice none 0 0]
abbrev zShoM : Sho := ⟨0, 0, [], ⟨0, 0, [], []⟩⟩
theorem zShoM_wf : zShoM.wf := ⟨by decide, by decide, by decide, by decide, by simp, by simp⟩
theorem zS_is (w : World) : IsShot w zSV zShoM := ⟨_, _, _, rfl, Cm.sl_nil _ _, SlR.nil _, SlR.nil _, zShoM_wf⟩
theorem zS_z : zSho zShoM := ⟨rfl, rfl, rfl, rfl, rfl, rfl, rfl⟩
theorem sameZ_any (s : Sho) (v : Value) (w : World) (h : IsShot w v s) : Calls Try.prog 23 #[v, zSV] w (Tells (zSho s) w) := by
  by_cases hz : zSho s
  · have he : s = zShoM := Rc.sho_eq_of hz zS_z
    subst he
    refine (Sh.same_any _ _ _ _ h (zS_is w)).mono ?_
    rintro e w1 ⟨rfl, hb⟩
    exact tells_yes hz hb
  · refine (Rc.sho_noR zShoM s _ _ _ h (zS_is w) zS_z hz).mono ?_
    rintro e w1 ⟨rfl, hb⟩
    exact tells_no hz hb
set_option maxHeartbeats 16000000 in
theorem zero_1 (m : Mes) (hk : m.kind = 1) (v : Value) (w : World) (h : IsMsg w v m) : Calls Try.prog 17 #[v] w (Tells (zUp m 7) w) := by
  have HZ : Hid (∀ f : Nat, f < 7 → (f : Int) ∉ fieldsM 1 → ¬ zF m f → ¬ zUp m 7) := Lib.hid (fun f hf hn hz g => hz (g f hf (by rw [hk]; exact hn)))
  have HA : Hid (zF m 3 → zF m 4 → zF m 5 → zF m 6 → zUp m 7) := Lib.hid (fun gc gf ge gs f hf hn => by
    rw [hk] at hn
    rcases (show f = 0 ∨ f = 1 ∨ f = 2 ∨ f = 3 ∨ f = 4 ∨ f = 5 ∨ f = 6 by omega) with rfl | rfl | rfl | rfl | rfl | rfl | rfl
    · exact absurd (by decide) hn
    · exact absurd (by decide) hn
    · exact absurd (by decide) hn
    · exact gc
    · exact gf
    · exact ge
    · exact gs)
  have HF : Hid (fieldT m.kind = ⟨#[116, 105, 108]⟩) := Lib.hid (by rw [hk]; rfl)
  have Ht : Hid (Cm.hasB ⟨#[116, 105, 108]⟩ 116 = true) := Lib.hid (by decide)
  have Hi : Hid (Cm.hasB ⟨#[116, 105, 108]⟩ 105 = true) := Lib.hid (by decide)
  have Hl : Hid (Cm.hasB ⟨#[116, 105, 108]⟩ 108 = true) := Lib.hid (by decide)
  have Hc : Hid (Cm.hasB ⟨#[116, 105, 108]⟩ 99 = false) := Lib.hid (by decide)
  have Hf : Hid (Cm.hasB ⟨#[116, 105, 108]⟩ 102 = false) := Lib.hid (by decide)
  have He : Hid (Cm.hasB ⟨#[116, 105, 108]⟩ 101 = false) := Lib.hid (by decide)
  have Hs : Hid (Cm.hasB ⟨#[116, 105, 108]⟩ 115 = false) := Lib.hid (by decide)
  clear hk
  obtain ⟨ae, ce, vn, vh, vl, rfl, hlc, hcm, hx⟩ := BoxM.of h
  obtain ⟨q0, q1, q2, q3, q4, q5, q6, q7, q8, q9, q10, -⟩ := cells16 hx.2.1
  have ra := shot_range hx.2.1
  have HX := Lib.hid hx
  have HSH : Hid (IsShot (w.alloc (.cells (mArr m (.slice ae m.ents.length ce) vn vh vl) 32)) (.agg (sArr m.shot vn vh vl)) m.shot) := Lib.hid (IsMsg_shot hx.2.2.1)
  clear hx h
  by_cases hc : m.commit = 0
  rotate_left
  · have HE : Hid (¬ zUp m 7) := Lib.hid (HZ.out 3 (by omega) (by decide) (fun g => hc g))
    have e3 : (m.commit == 0) = false := beq_f hc
    clear hc
    go_enter Try.func17, Try.ntmps17
    go_wp2_with (first
      | (go_at_call 15; refine (rfields_any _ _).mono ?_; rintro e w2 ⟨rfl, rfl⟩; rw [HF.out])
      | (go_at_call 18; refine (rhas_any _ _ (by decide) _).mono ?_; rintro e w2 ⟨rfl, rfl⟩; first | rw [Ht.out] | rw [Hi.out] | rw [Hl.out] | rw [Hc.out] | rw [Hf.out] | rw [He.out] | rw [Hs.out]))
    go_ret
    exact tells_no HE.out HX.out.1
  have Zc : Hid (zF m 3) := Lib.hid hc
  have e3 : (m.commit == 0) = true := beq_t hc
  clear hc
  cases hfl : m.flag
  rotate_left
  · have HE : Hid (¬ zUp m 7) := Lib.hid (HZ.out 4 (by omega) (by decide) (fun g => Bool.noConfusion (hfl.symm.trans (show m.flag = false from g))))
    have hnf : (!m.flag) = false := by rw [hfl]; rfl
    clear hfl
    go_enter Try.func17, Try.ntmps17
    go_wp2_with (first
      | (go_at_call 15; refine (rfields_any _ _).mono ?_; rintro e w2 ⟨rfl, rfl⟩; rw [HF.out])
      | (go_at_call 18; refine (rhas_any _ _ (by decide) _).mono ?_; rintro e w2 ⟨rfl, rfl⟩; first | rw [Ht.out] | rw [Hi.out] | rw [Hl.out] | rw [Hc.out] | rw [Hf.out] | rw [He.out] | rw [Hs.out]))
    go_ret
    exact tells_no HE.out HX.out.1
  have Zf : Hid (zF m 4) := Lib.hid hfl
  have hnf : (!m.flag) = true := by rw [hfl]; rfl
  clear hfl
  by_cases he : m.ents.length = 0
  rotate_left
  · have HE : Hid (¬ zUp m 7) := Lib.hid (HZ.out 5 (by omega) (by decide) (fun g => he g))
    have e5 : ((m.ents.length : Int) == 0) = false := beq_f (by omega)
    clear he
    go_enter Try.func17, Try.ntmps17
    go_wp2_with (first
      | (go_at_call 15; refine (rfields_any _ _).mono ?_; rintro e w2 ⟨rfl, rfl⟩; rw [HF.out])
      | (go_at_call 18; refine (rhas_any _ _ (by decide) _).mono ?_; rintro e w2 ⟨rfl, rfl⟩; first | rw [Ht.out] | rw [Hi.out] | rw [Hl.out] | rw [Hc.out] | rw [Hf.out] | rw [He.out] | rw [Hs.out]))
    go_ret
    exact tells_no HE.out HX.out.1
  have Ze : Hid (zF m 5) := Lib.hid he
  have e5 : ((m.ents.length : Int) == 0) = true := beq_t (by omega)
  clear he
  go_enter Try.func17, Try.ntmps17
  go_wp2_with (first
    | (go_at_call 15; refine (rfields_any _ _).mono ?_; rintro e w2 ⟨rfl, rfl⟩; rw [HF.out])
    | (go_at_call 18; refine (rhas_any _ _ (by decide) _).mono ?_; rintro e w2 ⟨rfl, rfl⟩; first | rw [Ht.out] | rw [Hi.out] | rw [Hl.out] | rw [Hc.out] | rw [Hf.out] | rw [He.out] | rw [Hs.out])
    | (refine Rc.wpList_load_midG rfl 30 (.tmp 64) rfl w.heap.size 9 rfl (sArr m.shot vn vh vl).toList _ ra Try.underlying30 rfl (by kernel_rfl) ?_))
  refine (sameZ_any m.shot _ _ HSH.out).mono ?_
  rintro e w2 ⟨bb, rfl, hbb, hb2⟩
  have HX2 := Lib.hid (HX.out.on hb2)
  have HBB := Lib.hid hbb
  clear hbb hb2
  go_wp2
  go_ret
  refine ⟨bb, rfl, HBB.out.trans ⟨fun g => HA.out Zc.out Zf.out Ze.out g, fun g => Classical.byContradiction fun q => HZ.out 6 (by omega) (by decide) q g⟩, HX2.out.1⟩
set_option maxHeartbeats 16000000 in
theorem zero_2 (m : Mes) (hk : m.kind = 2) (v : Value) (w : World) (h : IsMsg w v m) : Calls Try.prog 17 #[v] w (Tells (zUp m 7) w) := by
  have HZ : Hid (∀ f : Nat, f < 7 → (f : Int) ∉ fieldsM 2 → ¬ zF m f → ¬ zUp m 7) := Lib.hid (fun f hf hn hz g => hz (g f hf (by rw [hk]; exact hn)))
  have HA : Hid (zF m 1 → zF m 2 → zF m 3 → zF m 5 → zF m 6 → zUp m 7) := Lib.hid (fun gi gl gc ge gs f hf hn => by
    rw [hk] at hn
    rcases (show f = 0 ∨ f = 1 ∨ f = 2 ∨ f = 3 ∨ f = 4 ∨ f = 5 ∨ f = 6 by omega) with rfl | rfl | rfl | rfl | rfl | rfl | rfl
    · exact absurd (by decide) hn
    · exact gi
    · exact gl
    · exact gc
    · exact absurd (by decide) hn
    · exact ge
    · exact gs)
  have HF : Hid (fieldT m.kind = ⟨#[116, 102]⟩) := Lib.hid (by rw [hk]; rfl)
  have Ht : Hid (Cm.hasB ⟨#[116, 102]⟩ 116 = true) := Lib.hid (by decide)
  have Hi : Hid (Cm.hasB ⟨#[116, 102]⟩ 105 = false) := Lib.hid (by decide)
  have Hl : Hid (Cm.hasB ⟨#[116, 102]⟩ 108 = false) := Lib.hid (by decide)
  have Hc : Hid (Cm.hasB ⟨#[116, 102]⟩ 99 = false) := Lib.hid (by decide)
  have Hf : Hid (Cm.hasB ⟨#[116, 102]⟩ 102 = true) := Lib.hid (by decide)
  have He : Hid (Cm.hasB ⟨#[116, 102]⟩ 101 = false) := Lib.hid (by decide)
  have Hs : Hid (Cm.hasB ⟨#[116, 102]⟩ 115 = false) := Lib.hid (by decide)
  clear hk
  obtain ⟨ae, ce, vn, vh, vl, rfl, hlc, hcm, hx⟩ := BoxM.of h
  obtain ⟨q0, q1, q2, q3, q4, q5, q6, q7, q8, q9, q10, -⟩ := cells16 hx.2.1
  have ra := shot_range hx.2.1
  have HX := Lib.hid hx
  have HSH : Hid (IsShot (w.alloc (.cells (mArr m (.slice ae m.ents.length ce) vn vh vl) 32)) (.agg (sArr m.shot vn vh vl)) m.shot) := Lib.hid (IsMsg_shot hx.2.2.1)
  clear hx h
  by_cases hi : m.index = 0
  rotate_left
  · have HE : Hid (¬ zUp m 7) := Lib.hid (HZ.out 1 (by omega) (by decide) (fun g => hi g))
    have e1 : (m.index == 0) = false := beq_f hi
    clear hi
    go_enter Try.func17, Try.ntmps17
    go_wp2_with (first
      | (go_at_call 15; refine (rfields_any _ _).mono ?_; rintro e w2 ⟨rfl, rfl⟩; rw [HF.out])
      | (go_at_call 18; refine (rhas_any _ _ (by decide) _).mono ?_; rintro e w2 ⟨rfl, rfl⟩; first | rw [Ht.out] | rw [Hi.out] | rw [Hl.out] | rw [Hc.out] | rw [Hf.out] | rw [He.out] | rw [Hs.out]))
    go_ret
    exact tells_no HE.out HX.out.1
  have Zi : Hid (zF m 1) := Lib.hid hi
  have e1 : (m.index == 0) = true := beq_t hi
  clear hi
  by_cases hl : m.lterm = 0
  rotate_left
  · have HE : Hid (¬ zUp m 7) := Lib.hid (HZ.out 2 (by omega) (by decide) (fun g => hl g))
    have e2 : (m.lterm == 0) = false := beq_f hl
    clear hl
    go_enter Try.func17, Try.ntmps17
    go_wp2_with (first
      | (go_at_call 15; refine (rfields_any _ _).mono ?_; rintro e w2 ⟨rfl, rfl⟩; rw [HF.out])
      | (go_at_call 18; refine (rhas_any _ _ (by decide) _).mono ?_; rintro e w2 ⟨rfl, rfl⟩; first | rw [Ht.out] | rw [Hi.out] | rw [Hl.out] | rw [Hc.out] | rw [Hf.out] | rw [He.out] | rw [Hs.out]))
    go_ret
    exact tells_no HE.out HX.out.1
  have Zl : Hid (zF m 2) := Lib.hid hl
  have e2 : (m.lterm == 0) = true := beq_t hl
  clear hl
  by_cases hc : m.commit = 0
  rotate_left
  · have HE : Hid (¬ zUp m 7) := Lib.hid (HZ.out 3 (by omega) (by decide) (fun g => hc g))
    have e3 : (m.commit == 0) = false := beq_f hc
    clear hc
    go_enter Try.func17, Try.ntmps17
    go_wp2_with (first
      | (go_at_call 15; refine (rfields_any _ _).mono ?_; rintro e w2 ⟨rfl, rfl⟩; rw [HF.out])
      | (go_at_call 18; refine (rhas_any _ _ (by decide) _).mono ?_; rintro e w2 ⟨rfl, rfl⟩; first | rw [Ht.out] | rw [Hi.out] | rw [Hl.out] | rw [Hc.out] | rw [Hf.out] | rw [He.out] | rw [Hs.out]))
    go_ret
    exact tells_no HE.out HX.out.1
  have Zc : Hid (zF m 3) := Lib.hid hc
  have e3 : (m.commit == 0) = true := beq_t hc
  clear hc
  by_cases he : m.ents.length = 0
  rotate_left
  · have HE : Hid (¬ zUp m 7) := Lib.hid (HZ.out 5 (by omega) (by decide) (fun g => he g))
    have e5 : ((m.ents.length : Int) == 0) = false := beq_f (by omega)
    clear he
    go_enter Try.func17, Try.ntmps17
    go_wp2_with (first
      | (go_at_call 15; refine (rfields_any _ _).mono ?_; rintro e w2 ⟨rfl, rfl⟩; rw [HF.out])
      | (go_at_call 18; refine (rhas_any _ _ (by decide) _).mono ?_; rintro e w2 ⟨rfl, rfl⟩; first | rw [Ht.out] | rw [Hi.out] | rw [Hl.out] | rw [Hc.out] | rw [Hf.out] | rw [He.out] | rw [Hs.out]))
    go_ret
    exact tells_no HE.out HX.out.1
  have Ze : Hid (zF m 5) := Lib.hid he
  have e5 : ((m.ents.length : Int) == 0) = true := beq_t (by omega)
  clear he
  go_enter Try.func17, Try.ntmps17
  go_wp2_with (first
    | (go_at_call 15; refine (rfields_any _ _).mono ?_; rintro e w2 ⟨rfl, rfl⟩; rw [HF.out])
    | (go_at_call 18; refine (rhas_any _ _ (by decide) _).mono ?_; rintro e w2 ⟨rfl, rfl⟩; first | rw [Ht.out] | rw [Hi.out] | rw [Hl.out] | rw [Hc.out] | rw [Hf.out] | rw [He.out] | rw [Hs.out])
    | (refine Rc.wpList_load_midG rfl 30 (.tmp 64) rfl w.heap.size 9 rfl (sArr m.shot vn vh vl).toList _ ra Try.underlying30 rfl (by kernel_rfl) ?_))
  refine (sameZ_any m.shot _ _ HSH.out).mono ?_
  rintro e w2 ⟨bb, rfl, hbb, hb2⟩
  have HX2 := Lib.hid (HX.out.on hb2)
  have HBB := Lib.hid hbb
  clear hbb hb2
  go_wp2
  go_ret
  refine ⟨bb, rfl, HBB.out.trans ⟨fun g => HA.out Zi.out Zl.out Zc.out Ze.out g, fun g => Classical.byContradiction fun q => HZ.out 6 (by omega) (by decide) q g⟩, HX2.out.1⟩
set_option maxHeartbeats 16000000 in
theorem zero_3 (m : Mes) (hk : m.kind = 3) (v : Value) (w : World) (h : IsMsg w v m) : Calls Try.prog 17 #[v] w (Tells (zUp m 7) w) := by
  have HZ : Hid (∀ f : Nat, f < 7 → (f : Int) ∉ fieldsM 3 → ¬ zF m f → ¬ zUp m 7) := Lib.hid (fun f hf hn hz g => hz (g f hf (by rw [hk]; exact hn)))
  have HA : Hid (zF m 4 → zF m 6 → zUp m 7) := Lib.hid (fun gf gs f hf hn => by
    rw [hk] at hn
    rcases (show f = 0 ∨ f = 1 ∨ f = 2 ∨ f = 3 ∨ f = 4 ∨ f = 5 ∨ f = 6 by omega) with rfl | rfl | rfl | rfl | rfl | rfl | rfl
    · exact absurd (by decide) hn
    · exact absurd (by decide) hn
    · exact absurd (by decide) hn
    · exact absurd (by decide) hn
    · exact gf
    · exact absurd (by decide) hn
    · exact gs)
  have HF : Hid (fieldT m.kind = ⟨#[116, 105, 108, 99, 101]⟩) := Lib.hid (by rw [hk]; rfl)
  have Ht : Hid (Cm.hasB ⟨#[116, 105, 108, 99, 101]⟩ 116 = true) := Lib.hid (by decide)
  have Hi : Hid (Cm.hasB ⟨#[116, 105, 108, 99, 101]⟩ 105 = true) := Lib.hid (by decide)
  have Hl : Hid (Cm.hasB ⟨#[116, 105, 108, 99, 101]⟩ 108 = true) := Lib.hid (by decide)
  have Hc : Hid (Cm.hasB ⟨#[116, 105, 108, 99, 101]⟩ 99 = true) := Lib.hid (by decide)
  have Hf : Hid (Cm.hasB ⟨#[116, 105, 108, 99, 101]⟩ 102 = false) := Lib.hid (by decide)
  have He : Hid (Cm.hasB ⟨#[116, 105, 108, 99, 101]⟩ 101 = true) := Lib.hid (by decide)
  have Hs : Hid (Cm.hasB ⟨#[116, 105, 108, 99, 101]⟩ 115 = false) := Lib.hid (by decide)
  clear hk
  obtain ⟨ae, ce, vn, vh, vl, rfl, hlc, hcm, hx⟩ := BoxM.of h
  obtain ⟨q0, q1, q2, q3, q4, q5, q6, q7, q8, q9, q10, -⟩ := cells16 hx.2.1
  have ra := shot_range hx.2.1
  have HX := Lib.hid hx
  have HSH : Hid (IsShot (w.alloc (.cells (mArr m (.slice ae m.ents.length ce) vn vh vl) 32)) (.agg (sArr m.shot vn vh vl)) m.shot) := Lib.hid (IsMsg_shot hx.2.2.1)
  clear hx h
  cases hfl : m.flag
  rotate_left
  · have HE : Hid (¬ zUp m 7) := Lib.hid (HZ.out 4 (by omega) (by decide) (fun g => Bool.noConfusion (hfl.symm.trans (show m.flag = false from g))))
    have hnf : (!m.flag) = false := by rw [hfl]; rfl
    clear hfl
    go_enter Try.func17, Try.ntmps17
    go_wp2_with (first
      | (go_at_call 15; refine (rfields_any _ _).mono ?_; rintro e w2 ⟨rfl, rfl⟩; rw [HF.out])
      | (go_at_call 18; refine (rhas_any _ _ (by decide) _).mono ?_; rintro e w2 ⟨rfl, rfl⟩; first | rw [Ht.out] | rw [Hi.out] | rw [Hl.out] | rw [Hc.out] | rw [Hf.out] | rw [He.out] | rw [Hs.out]))
    go_ret
    exact tells_no HE.out HX.out.1
  have Zf : Hid (zF m 4) := Lib.hid hfl
  have hnf : (!m.flag) = true := by rw [hfl]; rfl
  clear hfl
  go_enter Try.func17, Try.ntmps17
  go_wp2_with (first
    | (go_at_call 15; refine (rfields_any _ _).mono ?_; rintro e w2 ⟨rfl, rfl⟩; rw [HF.out])
    | (go_at_call 18; refine (rhas_any _ _ (by decide) _).mono ?_; rintro e w2 ⟨rfl, rfl⟩; first | rw [Ht.out] | rw [Hi.out] | rw [Hl.out] | rw [Hc.out] | rw [Hf.out] | rw [He.out] | rw [Hs.out])
    | (refine Rc.wpList_load_midG rfl 30 (.tmp 64) rfl w.heap.size 9 rfl (sArr m.shot vn vh vl).toList _ ra Try.underlying30 rfl (by kernel_rfl) ?_))
  refine (sameZ_any m.shot _ _ HSH.out).mono ?_
  rintro e w2 ⟨bb, rfl, hbb, hb2⟩
  have HX2 := Lib.hid (HX.out.on hb2)
  have HBB := Lib.hid hbb
  clear hbb hb2
  go_wp2
  go_ret
  refine ⟨bb, rfl, HBB.out.trans ⟨fun g => HA.out Zf.out g, fun g => Classical.byContradiction fun q => HZ.out 6 (by omega) (by decide) q g⟩, HX2.out.1⟩
set_option maxHeartbeats 16000000 in
theorem zero_4 (m : Mes) (hk : m.kind = 4) (v : Value) (w : World) (h : IsMsg w v m) : Calls Try.prog 17 #[v] w (Tells (zUp m 7) w) := by
  have HZ : Hid (∀ f : Nat, f < 7 → (f : Int) ∉ fieldsM 4 → ¬ zF m f → ¬ zUp m 7) := Lib.hid (fun f hf hn hz g => hz (g f hf (by rw [hk]; exact hn)))
  have HA : Hid (zF m 2 → zF m 3 → zF m 5 → zF m 6 → zUp m 7) := Lib.hid (fun gl gc ge gs f hf hn => by
    rw [hk] at hn
    rcases (show f = 0 ∨ f = 1 ∨ f = 2 ∨ f = 3 ∨ f = 4 ∨ f = 5 ∨ f = 6 by omega) with rfl | rfl | rfl | rfl | rfl | rfl | rfl
    · exact absurd (by decide) hn
    · exact absurd (by decide) hn
    · exact gl
    · exact gc
    · exact absurd (by decide) hn
    · exact ge
    · exact gs)
  have HF : Hid (fieldT m.kind = ⟨#[116, 102, 105]⟩) := Lib.hid (by rw [hk]; rfl)
  have Ht : Hid (Cm.hasB ⟨#[116, 102, 105]⟩ 116 = true) := Lib.hid (by decide)
  have Hi : Hid (Cm.hasB ⟨#[116, 102, 105]⟩ 105 = true) := Lib.hid (by decide)
  have Hl : Hid (Cm.hasB ⟨#[116, 102, 105]⟩ 108 = false) := Lib.hid (by decide)
  have Hc : Hid (Cm.hasB ⟨#[116, 102, 105]⟩ 99 = false) := Lib.hid (by decide)
  have Hf : Hid (Cm.hasB ⟨#[116, 102, 105]⟩ 102 = true) := Lib.hid (by decide)
  have He : Hid (Cm.hasB ⟨#[116, 102, 105]⟩ 101 = false) := Lib.hid (by decide)
  have Hs : Hid (Cm.hasB ⟨#[116, 102, 105]⟩ 115 = false) := Lib.hid (by decide)
  clear hk
  obtain ⟨ae, ce, vn, vh, vl, rfl, hlc, hcm, hx⟩ := BoxM.of h
  obtain ⟨q0, q1, q2, q3, q4, q5, q6, q7, q8, q9, q10, -⟩ := cells16 hx.2.1
  have ra := shot_range hx.2.1
  have HX := Lib.hid hx
  have HSH : Hid (IsShot (w.alloc (.cells (mArr m (.slice ae m.ents.length ce) vn vh vl) 32)) (.agg (sArr m.shot vn vh vl)) m.shot) := Lib.hid (IsMsg_shot hx.2.2.1)
  clear hx h
  by_cases hl : m.lterm = 0
  rotate_left
  · have HE : Hid (¬ zUp m 7) := Lib.hid (HZ.out 2 (by omega) (by decide) (fun g => hl g))
    have e2 : (m.lterm == 0) = false := beq_f hl
    clear hl
    go_enter Try.func17, Try.ntmps17
    go_wp2_with (first
      | (go_at_call 15; refine (rfields_any _ _).mono ?_; rintro e w2 ⟨rfl, rfl⟩; rw [HF.out])
      | (go_at_call 18; refine (rhas_any _ _ (by decide) _).mono ?_; rintro e w2 ⟨rfl, rfl⟩; first | rw [Ht.out] | rw [Hi.out] | rw [Hl.out] | rw [Hc.out] | rw [Hf.out] | rw [He.out] | rw [Hs.out]))
    go_ret
    exact tells_no HE.out HX.out.1
  have Zl : Hid (zF m 2) := Lib.hid hl
  have e2 : (m.lterm == 0) = true := beq_t hl
  clear hl
  by_cases hc : m.commit = 0
  rotate_left
  · have HE : Hid (¬ zUp m 7) := Lib.hid (HZ.out 3 (by omega) (by decide) (fun g => hc g))
    have e3 : (m.commit == 0) = false := beq_f hc
    clear hc
    go_enter Try.func17, Try.ntmps17
    go_wp2_with (first
      | (go_at_call 15; refine (rfields_any _ _).mono ?_; rintro e w2 ⟨rfl, rfl⟩; rw [HF.out])
      | (go_at_call 18; refine (rhas_any _ _ (by decide) _).mono ?_; rintro e w2 ⟨rfl, rfl⟩; first | rw [Ht.out] | rw [Hi.out] | rw [Hl.out] | rw [Hc.out] | rw [Hf.out] | rw [He.out] | rw [Hs.out]))
    go_ret
    exact tells_no HE.out HX.out.1
  have Zc : Hid (zF m 3) := Lib.hid hc
  have e3 : (m.commit == 0) = true := beq_t hc
  clear hc
  by_cases he : m.ents.length = 0
  rotate_left
  · have HE : Hid (¬ zUp m 7) := Lib.hid (HZ.out 5 (by omega) (by decide) (fun g => he g))
    have e5 : ((m.ents.length : Int) == 0) = false := beq_f (by omega)
    clear he
    go_enter Try.func17, Try.ntmps17
    go_wp2_with (first
      | (go_at_call 15; refine (rfields_any _ _).mono ?_; rintro e w2 ⟨rfl, rfl⟩; rw [HF.out])
      | (go_at_call 18; refine (rhas_any _ _ (by decide) _).mono ?_; rintro e w2 ⟨rfl, rfl⟩; first | rw [Ht.out] | rw [Hi.out] | rw [Hl.out] | rw [Hc.out] | rw [Hf.out] | rw [He.out] | rw [Hs.out]))
    go_ret
    exact tells_no HE.out HX.out.1
  have Ze : Hid (zF m 5) := Lib.hid he
  have e5 : ((m.ents.length : Int) == 0) = true := beq_t (by omega)
  clear he
  go_enter Try.func17, Try.ntmps17
  go_wp2_with (first
    | (go_at_call 15; refine (rfields_any _ _).mono ?_; rintro e w2 ⟨rfl, rfl⟩; rw [HF.out])
    | (go_at_call 18; refine (rhas_any _ _ (by decide) _).mono ?_; rintro e w2 ⟨rfl, rfl⟩; first | rw [Ht.out] | rw [Hi.out] | rw [Hl.out] | rw [Hc.out] | rw [Hf.out] | rw [He.out] | rw [Hs.out])
    | (refine Rc.wpList_load_midG rfl 30 (.tmp 64) rfl w.heap.size 9 rfl (sArr m.shot vn vh vl).toList _ ra Try.underlying30 rfl (by kernel_rfl) ?_))
  refine (sameZ_any m.shot _ _ HSH.out).mono ?_
  rintro e w2 ⟨bb, rfl, hbb, hb2⟩
  have HX2 := Lib.hid (HX.out.on hb2)
  have HBB := Lib.hid hbb
  clear hbb hb2
  go_wp2
  go_ret
  refine ⟨bb, rfl, HBB.out.trans ⟨fun g => HA.out Zl.out Zc.out Ze.out g, fun g => Classical.byContradiction fun q => HZ.out 6 (by omega) (by decide) q g⟩, HX2.out.1⟩
set_option maxHeartbeats 16000000 in
theorem zero_5 (m : Mes) (hk : m.kind = 5) (v : Value) (w : World) (h : IsMsg w v m) : Calls Try.prog 17 #[v] w (Tells (zUp m 7) w) := by
  have HZ : Hid (∀ f : Nat, f < 7 → (f : Int) ∉ fieldsM 5 → ¬ zF m f → ¬ zUp m 7) := Lib.hid (fun f hf hn hz g => hz (g f hf (by rw [hk]; exact hn)))
  have HA : Hid (zF m 1 → zF m 2 → zF m 3 → zF m 4 → zF m 5 → zUp m 7) := Lib.hid (fun gi gl gc gf ge f hf hn => by
    rw [hk] at hn
    rcases (show f = 0 ∨ f = 1 ∨ f = 2 ∨ f = 3 ∨ f = 4 ∨ f = 5 ∨ f = 6 by omega) with rfl | rfl | rfl | rfl | rfl | rfl | rfl
    · exact absurd (by decide) hn
    · exact gi
    · exact gl
    · exact gc
    · exact gf
    · exact ge
    · exact absurd (by decide) hn)
  have HF : Hid (fieldT m.kind = ⟨#[116, 115]⟩) := Lib.hid (by rw [hk]; rfl)
  have Ht : Hid (Cm.hasB ⟨#[116, 115]⟩ 116 = true) := Lib.hid (by decide)
  have Hi : Hid (Cm.hasB ⟨#[116, 115]⟩ 105 = false) := Lib.hid (by decide)
  have Hl : Hid (Cm.hasB ⟨#[116, 115]⟩ 108 = false) := Lib.hid (by decide)
  have Hc : Hid (Cm.hasB ⟨#[116, 115]⟩ 99 = false) := Lib.hid (by decide)
  have Hf : Hid (Cm.hasB ⟨#[116, 115]⟩ 102 = false) := Lib.hid (by decide)
  have He : Hid (Cm.hasB ⟨#[116, 115]⟩ 101 = false) := Lib.hid (by decide)
  have Hs : Hid (Cm.hasB ⟨#[116, 115]⟩ 115 = true) := Lib.hid (by decide)
  clear hk
  obtain ⟨ae, ce, vn, vh, vl, rfl, hlc, hcm, hx⟩ := BoxM.of h
  obtain ⟨q0, q1, q2, q3, q4, q5, q6, q7, q8, q9, q10, -⟩ := cells16 hx.2.1
  have ra := shot_range hx.2.1
  have HX := Lib.hid hx
  have HSH : Hid (IsShot (w.alloc (.cells (mArr m (.slice ae m.ents.length ce) vn vh vl) 32)) (.agg (sArr m.shot vn vh vl)) m.shot) := Lib.hid (IsMsg_shot hx.2.2.1)
  clear hx h
  by_cases hi : m.index = 0
  rotate_left
  · have HE : Hid (¬ zUp m 7) := Lib.hid (HZ.out 1 (by omega) (by decide) (fun g => hi g))
    have e1 : (m.index == 0) = false := beq_f hi
    clear hi
    go_enter Try.func17, Try.ntmps17
    go_wp2_with (first
      | (go_at_call 15; refine (rfields_any _ _).mono ?_; rintro e w2 ⟨rfl, rfl⟩; rw [HF.out])
      | (go_at_call 18; refine (rhas_any _ _ (by decide) _).mono ?_; rintro e w2 ⟨rfl, rfl⟩; first | rw [Ht.out] | rw [Hi.out] | rw [Hl.out] | rw [Hc.out] | rw [Hf.out] | rw [He.out] | rw [Hs.out]))
    go_ret
    exact tells_no HE.out HX.out.1
  have Zi : Hid (zF m 1) := Lib.hid hi
  have e1 : (m.index == 0) = true := beq_t hi
  clear hi
  by_cases hl : m.lterm = 0
  rotate_left
  · have HE : Hid (¬ zUp m 7) := Lib.hid (HZ.out 2 (by omega) (by decide) (fun g => hl g))
    have e2 : (m.lterm == 0) = false := beq_f hl
    clear hl
    go_enter Try.func17, Try.ntmps17
    go_wp2_with (first
      | (go_at_call 15; refine (rfields_any _ _).mono ?_; rintro e w2 ⟨rfl, rfl⟩; rw [HF.out])
      | (go_at_call 18; refine (rhas_any _ _ (by decide) _).mono ?_; rintro e w2 ⟨rfl, rfl⟩; first | rw [Ht.out] | rw [Hi.out] | rw [Hl.out] | rw [Hc.out] | rw [Hf.out] | rw [He.out] | rw [Hs.out]))
    go_ret
    exact tells_no HE.out HX.out.1
  have Zl : Hid (zF m 2) := Lib.hid hl
  have e2 : (m.lterm == 0) = true := beq_t hl
  clear hl
  by_cases hc : m.commit = 0
  rotate_left
  · have HE : Hid (¬ zUp m 7) := Lib.hid (HZ.out 3 (by omega) (by decide) (fun g => hc g))
    have e3 : (m.commit == 0) = false := beq_f hc
    clear hc
    go_enter Try.func17, Try.ntmps17
    go_wp2_with (first
      | (go_at_call 15; refine (rfields_any _ _).mono ?_; rintro e w2 ⟨rfl, rfl⟩; rw [HF.out])
      | (go_at_call 18; refine (rhas_any _ _ (by decide) _).mono ?_; rintro e w2 ⟨rfl, rfl⟩; first | rw [Ht.out] | rw [Hi.out] | rw [Hl.out] | rw [Hc.out] | rw [Hf.out] | rw [He.out] | rw [Hs.out]))
    go_ret
    exact tells_no HE.out HX.out.1
  have Zc : Hid (zF m 3) := Lib.hid hc
  have e3 : (m.commit == 0) = true := beq_t hc
  clear hc
  cases hfl : m.flag
  rotate_left
  · have HE : Hid (¬ zUp m 7) := Lib.hid (HZ.out 4 (by omega) (by decide) (fun g => Bool.noConfusion (hfl.symm.trans (show m.flag = false from g))))
    have hnf : (!m.flag) = false := by rw [hfl]; rfl
    clear hfl
    go_enter Try.func17, Try.ntmps17
    go_wp2_with (first
      | (go_at_call 15; refine (rfields_any _ _).mono ?_; rintro e w2 ⟨rfl, rfl⟩; rw [HF.out])
      | (go_at_call 18; refine (rhas_any _ _ (by decide) _).mono ?_; rintro e w2 ⟨rfl, rfl⟩; first | rw [Ht.out] | rw [Hi.out] | rw [Hl.out] | rw [Hc.out] | rw [Hf.out] | rw [He.out] | rw [Hs.out]))
    go_ret
    exact tells_no HE.out HX.out.1
  have Zf : Hid (zF m 4) := Lib.hid hfl
  have hnf : (!m.flag) = true := by rw [hfl]; rfl
  clear hfl
  by_cases he : m.ents.length = 0
  rotate_left
  · have HE : Hid (¬ zUp m 7) := Lib.hid (HZ.out 5 (by omega) (by decide) (fun g => he g))
    have e5 : ((m.ents.length : Int) == 0) = false := beq_f (by omega)
    clear he
    go_enter Try.func17, Try.ntmps17
    go_wp2_with (first
      | (go_at_call 15; refine (rfields_any _ _).mono ?_; rintro e w2 ⟨rfl, rfl⟩; rw [HF.out])
      | (go_at_call 18; refine (rhas_any _ _ (by decide) _).mono ?_; rintro e w2 ⟨rfl, rfl⟩; first | rw [Ht.out] | rw [Hi.out] | rw [Hl.out] | rw [Hc.out] | rw [Hf.out] | rw [He.out] | rw [Hs.out]))
    go_ret
    exact tells_no HE.out HX.out.1
  have Ze : Hid (zF m 5) := Lib.hid he
  have e5 : ((m.ents.length : Int) == 0) = true := beq_t (by omega)
  clear he
  go_enter Try.func17, Try.ntmps17
  go_wp2_with (first
    | (go_at_call 15; refine (rfields_any _ _).mono ?_; rintro e w2 ⟨rfl, rfl⟩; rw [HF.out])
    | (go_at_call 18; refine (rhas_any _ _ (by decide) _).mono ?_; rintro e w2 ⟨rfl, rfl⟩; first | rw [Ht.out] | rw [Hi.out] | rw [Hl.out] | rw [Hc.out] | rw [Hf.out] | rw [He.out] | rw [Hs.out]))
  go_ret
  exact tells_yes (HA.out Zi.out Zl.out Zc.out Zf.out Ze.out) HX.out.1
set_option maxHeartbeats 16000000 in
theorem zero_6 (m : Mes) (hk : m.kind = 6) (v : Value) (w : World) (h : IsMsg w v m) : Calls Try.prog 17 #[v] w (Tells (zUp m 7) w) := by
  have HZ : Hid (∀ f : Nat, f < 7 → (f : Int) ∉ fieldsM 6 → ¬ zF m f → ¬ zUp m 7) := Lib.hid (fun f hf hn hz g => hz (g f hf (by rw [hk]; exact hn)))
  have HA : Hid (zF m 0 → zF m 1 → zF m 2 → zF m 3 → zF m 4 → zF m 6 → zUp m 7) := Lib.hid (fun gt gi gl gc gf gs f hf hn => by
    rw [hk] at hn
    rcases (show f = 0 ∨ f = 1 ∨ f = 2 ∨ f = 3 ∨ f = 4 ∨ f = 5 ∨ f = 6 by omega) with rfl | rfl | rfl | rfl | rfl | rfl | rfl
    · exact gt
    · exact gi
    · exact gl
    · exact gc
    · exact gf
    · exact absurd (by decide) hn
    · exact gs)
  have HF : Hid (fieldT m.kind = ⟨#[101]⟩) := Lib.hid (by rw [hk]; rfl)
  have Ht : Hid (Cm.hasB ⟨#[101]⟩ 116 = false) := Lib.hid (by decide)
  have Hi : Hid (Cm.hasB ⟨#[101]⟩ 105 = false) := Lib.hid (by decide)
  have Hl : Hid (Cm.hasB ⟨#[101]⟩ 108 = false) := Lib.hid (by decide)
  have Hc : Hid (Cm.hasB ⟨#[101]⟩ 99 = false) := Lib.hid (by decide)
  have Hf : Hid (Cm.hasB ⟨#[101]⟩ 102 = false) := Lib.hid (by decide)
  have He : Hid (Cm.hasB ⟨#[101]⟩ 101 = true) := Lib.hid (by decide)
  have Hs : Hid (Cm.hasB ⟨#[101]⟩ 115 = false) := Lib.hid (by decide)
  clear hk
  obtain ⟨ae, ce, vn, vh, vl, rfl, hlc, hcm, hx⟩ := BoxM.of h
  obtain ⟨q0, q1, q2, q3, q4, q5, q6, q7, q8, q9, q10, -⟩ := cells16 hx.2.1
  have ra := shot_range hx.2.1
  have HX := Lib.hid hx
  have HSH : Hid (IsShot (w.alloc (.cells (mArr m (.slice ae m.ents.length ce) vn vh vl) 32)) (.agg (sArr m.shot vn vh vl)) m.shot) := Lib.hid (IsMsg_shot hx.2.2.1)
  clear hx h
  by_cases ht : m.term = 0
  rotate_left
  · have HE : Hid (¬ zUp m 7) := Lib.hid (HZ.out 0 (by omega) (by decide) (fun g => ht g))
    have e0 : (m.term == 0) = false := beq_f ht
    clear ht
    go_enter Try.func17, Try.ntmps17
    go_wp2_with (first
      | (go_at_call 15; refine (rfields_any _ _).mono ?_; rintro e w2 ⟨rfl, rfl⟩; rw [HF.out])
      | (go_at_call 18; refine (rhas_any _ _ (by decide) _).mono ?_; rintro e w2 ⟨rfl, rfl⟩; first | rw [Ht.out] | rw [Hi.out] | rw [Hl.out] | rw [Hc.out] | rw [Hf.out] | rw [He.out] | rw [Hs.out]))
    go_ret
    exact tells_no HE.out HX.out.1
  have Zt : Hid (zF m 0) := Lib.hid ht
  have e0 : (m.term == 0) = true := beq_t ht
  clear ht
  by_cases hi : m.index = 0
  rotate_left
  · have HE : Hid (¬ zUp m 7) := Lib.hid (HZ.out 1 (by omega) (by decide) (fun g => hi g))
    have e1 : (m.index == 0) = false := beq_f hi
    clear hi
    go_enter Try.func17, Try.ntmps17
    go_wp2_with (first
      | (go_at_call 15; refine (rfields_any _ _).mono ?_; rintro e w2 ⟨rfl, rfl⟩; rw [HF.out])
      | (go_at_call 18; refine (rhas_any _ _ (by decide) _).mono ?_; rintro e w2 ⟨rfl, rfl⟩; first | rw [Ht.out] | rw [Hi.out] | rw [Hl.out] | rw [Hc.out] | rw [Hf.out] | rw [He.out] | rw [Hs.out]))
    go_ret
    exact tells_no HE.out HX.out.1
  have Zi : Hid (zF m 1) := Lib.hid hi
  have e1 : (m.index == 0) = true := beq_t hi
  clear hi
  by_cases hl : m.lterm = 0
  rotate_left
  · have HE : Hid (¬ zUp m 7) := Lib.hid (HZ.out 2 (by omega) (by decide) (fun g => hl g))
    have e2 : (m.lterm == 0) = false := beq_f hl
    clear hl
    go_enter Try.func17, Try.ntmps17
    go_wp2_with (first
      | (go_at_call 15; refine (rfields_any _ _).mono ?_; rintro e w2 ⟨rfl, rfl⟩; rw [HF.out])
      | (go_at_call 18; refine (rhas_any _ _ (by decide) _).mono ?_; rintro e w2 ⟨rfl, rfl⟩; first | rw [Ht.out] | rw [Hi.out] | rw [Hl.out] | rw [Hc.out] | rw [Hf.out] | rw [He.out] | rw [Hs.out]))
    go_ret
    exact tells_no HE.out HX.out.1
  have Zl : Hid (zF m 2) := Lib.hid hl
  have e2 : (m.lterm == 0) = true := beq_t hl
  clear hl
  by_cases hc : m.commit = 0
  rotate_left
  · have HE : Hid (¬ zUp m 7) := Lib.hid (HZ.out 3 (by omega) (by decide) (fun g => hc g))
    have e3 : (m.commit == 0) = false := beq_f hc
    clear hc
    go_enter Try.func17, Try.ntmps17
    go_wp2_with (first
      | (go_at_call 15; refine (rfields_any _ _).mono ?_; rintro e w2 ⟨rfl, rfl⟩; rw [HF.out])
      | (go_at_call 18; refine (rhas_any _ _ (by decide) _).mono ?_; rintro e w2 ⟨rfl, rfl⟩; first | rw [Ht.out] | rw [Hi.out] | rw [Hl.out] | rw [Hc.out] | rw [Hf.out] | rw [He.out] | rw [Hs.out]))
    go_ret
    exact tells_no HE.out HX.out.1
  have Zc : Hid (zF m 3) := Lib.hid hc
  have e3 : (m.commit == 0) = true := beq_t hc
  clear hc
  cases hfl : m.flag
  rotate_left
  · have HE : Hid (¬ zUp m 7) := Lib.hid (HZ.out 4 (by omega) (by decide) (fun g => Bool.noConfusion (hfl.symm.trans (show m.flag = false from g))))
    have hnf : (!m.flag) = false := by rw [hfl]; rfl
    clear hfl
    go_enter Try.func17, Try.ntmps17
    go_wp2_with (first
      | (go_at_call 15; refine (rfields_any _ _).mono ?_; rintro e w2 ⟨rfl, rfl⟩; rw [HF.out])
      | (go_at_call 18; refine (rhas_any _ _ (by decide) _).mono ?_; rintro e w2 ⟨rfl, rfl⟩; first | rw [Ht.out] | rw [Hi.out] | rw [Hl.out] | rw [Hc.out] | rw [Hf.out] | rw [He.out] | rw [Hs.out]))
    go_ret
    exact tells_no HE.out HX.out.1
  have Zf : Hid (zF m 4) := Lib.hid hfl
  have hnf : (!m.flag) = true := by rw [hfl]; rfl
  clear hfl
  go_enter Try.func17, Try.ntmps17
  go_wp2_with (first
    | (go_at_call 15; refine (rfields_any _ _).mono ?_; rintro e w2 ⟨rfl, rfl⟩; rw [HF.out])
    | (go_at_call 18; refine (rhas_any _ _ (by decide) _).mono ?_; rintro e w2 ⟨rfl, rfl⟩; first | rw [Ht.out] | rw [Hi.out] | rw [Hl.out] | rw [Hc.out] | rw [Hf.out] | rw [He.out] | rw [Hs.out])
    | (refine Rc.wpList_load_midG rfl 30 (.tmp 64) rfl w.heap.size 9 rfl (sArr m.shot vn vh vl).toList _ ra Try.underlying30 rfl (by kernel_rfl) ?_))
  refine (sameZ_any m.shot _ _ HSH.out).mono ?_
  rintro e w2 ⟨bb, rfl, hbb, hb2⟩
  have HX2 := Lib.hid (HX.out.on hb2)
  have HBB := Lib.hid hbb
  clear hbb hb2
  go_wp2
  go_ret
  refine ⟨bb, rfl, HBB.out.trans ⟨fun g => HA.out Zt.out Zi.out Zl.out Zc.out Zf.out g, fun g => Classical.byContradiction fun q => HZ.out 6 (by omega) (by decide) q g⟩, HX2.out.1⟩
theorem zero_any (m : Mes) (hk : kindM m.kind) (v : Value) (w : World) (h : IsMsg w v m) : Calls Try.prog 17 #[v] w (Tells (zUp m 7) w) := by
  unfold kindM at hk
  rcases (show m.kind = 1 ∨ m.kind = 2 ∨ m.kind = 3 ∨ m.kind = 4 ∨ m.kind = 5 ∨ m.kind = 6 by omega) with k | k | k | k | k | k
  · exact zero_1 m k v w h
  · exact zero_2 m k v w h
  · exact zero_3 m k v w h
  · exact zero_4 m k v w h
  · exact zero_5 m k v w h
  · exact zero_6 m k v w h
end Ms
end Go.Proofs.Yteapccniloednaa
