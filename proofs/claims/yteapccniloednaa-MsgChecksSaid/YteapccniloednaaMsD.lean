/- Package msg: fits, Check. No condition. -/
import Derived.Test.YteapccniloednaaMsC
import Derived.Test.YteapccniloednaaShC
namespace Go.Proofs.Yteapccniloednaa
open Go.ChangeShapes Go.WideShapes Go.ChangeAt Go.RowKit Go.Deep
set_option linter.unusedVariables false
set_option maxRecDepth 100000
namespace Ms
open Nv
def shipOk (m : Mes) : Prop := Sh.shotOk m.shot ∧ 1 ≤ m.shot.index ∧ m.shot.term ≤ m.term
def fitsM (m : Mes) : Prop := (m.kind = 6 → putOk m) ∧ (m.kind ≠ 6 → 1 ≤ m.term) ∧ (m.kind = 1 → ltOk m) ∧ (m.kind = 3 → ltOk m ∧ feedOk m) ∧ (m.kind = 5 → shipOk m)
set_option maxHeartbeats 16000000 in
theorem mfits_any (m : Mes) (v : Value) (w : World) (h : IsMsg w v m) : Calls Try.prog 14 #[v] w (Tells (fitsM m) w) := by
  obtain ⟨ae, ce, vn, vh, vl, rfl, hlc, hcm, hx⟩ := BoxM.of h
  obtain ⟨q0, q1, q2, q3, q4, q5, q6, q7, q8, q9, q10, -⟩ := cells16 hx.2.1
  have hr := hx.2.1
  have ra := shot_range hx.2.1
  have HX := Lib.hid hx
  have HM := Lib.hid hx.2.2.1
  have HSH : Hid (IsShot (w.alloc (.cells (mArr m (.slice ae m.ents.length ce) vn vh vl) 32)) (.agg (sArr m.shot vn vh vl)) m.shot) := Lib.hid (IsMsg_shot hx.2.2.1)
  clear hx h
  by_cases k6 : m.kind = 6
  · have HP : Hid (fitsM m ↔ putOk m) := Lib.hid ⟨fun g => g.1 k6, fun g => ⟨fun _ => g, fun q => absurd k6 q, fun q => by omega, fun q => by omega, fun q => by omega⟩⟩
    have g6 : (m.kind == 6) = true := beq_t k6
    clear k6
    go_enter Try.func14, Try.ntmps14
    go_wp2_with (refine wpList_load_row rfl 32 (.tmp 1) rfl w.heap.size rfl 32 (mArr m (.slice ae m.ents.length ce) vn vh vl) (0, 0) _ hr Try.underlying32 rfl (by kernel_rfl) ?_)
    refine (put_any m _ _ HM.out).mono ?_
    rintro e w1 ⟨bb, rfl, hbb, hb1⟩
    have HBB := Lib.hid hbb
    clear hbb
    go_wp2
    go_ret
    exact ⟨bb, rfl, HBB.out.trans HP.out.symm, HX.out.1.trans (hb1.mono HX.out.1.size)⟩
  have g6 : (m.kind == 6) = false := beq_f k6
  have HK6 := Lib.hid k6
  clear k6
  by_cases ht : 1 ≤ m.term
  rotate_left
  · have ht2 : m.term < 1 := by omega
    have HE : Hid (¬ fitsM m) := Lib.hid (fun g => ht (g.2.1 HK6.out))
    obtain ⟨y1, hy1⟩ : ∃ y, (m.kind == 1) = y := ⟨_, rfl⟩
    obtain ⟨y3, hy3⟩ : ∃ y, (m.kind == 3) = y := ⟨_, rfl⟩
    obtain ⟨y5, hy5⟩ : ∃ y, (m.kind == 5) = y := ⟨_, rfl⟩
    clear ht
    cases y1
    · cases y3
      · cases y5
        all_goals
          go_enter Try.func14, Try.ntmps14
          go_wp2
          go_ret
          first
            | exact tells_no HE.out HX.out.1
            | exact ⟨_, rfl, ⟨fun g => absurd (of_decide_eq_true g) (by omega), fun g => absurd g HE.out⟩, HX.out.1⟩
      · go_enter Try.func14, Try.ntmps14
        go_wp2
        go_ret
        exact tells_no HE.out HX.out.1
    · go_enter Try.func14, Try.ntmps14
      go_wp2
      go_ret
      exact tells_no HE.out HX.out.1
  by_cases k1 : m.kind = 1
  · have HP : Hid (fitsM m ↔ ltOk m) := Lib.hid ⟨fun g => g.2.2.1 k1, fun g => ⟨fun q => absurd q HK6.out, fun _ => ht, fun _ => g, fun q => by omega, fun q => by omega⟩⟩
    have g1 : (m.kind == 1) = true := beq_t k1
    clear k1
    go_enter Try.func14, Try.ntmps14
    go_wp2_with (refine wpList_load_rowG rfl 32 (.tmp 1) rfl w.heap.size rfl 32 (mArr m (.slice ae m.ents.length ce) vn vh vl) (0, 0) _ hr Try.underlying32 rfl (by kernel_rfl) ?_)
    refine (lt_any m _ _ HM.out).mono ?_
    rintro e w1 ⟨bb, rfl, hbb, hb1⟩
    have HBB := Lib.hid hbb
    clear hbb
    go_wp2
    go_ret
    exact ⟨bb, rfl, HBB.out.trans HP.out.symm, HX.out.1.trans (hb1.mono HX.out.1.size)⟩
  have g1 : (m.kind == 1) = false := beq_f k1
  have HK1 := Lib.hid k1
  clear k1
  by_cases k3 : m.kind = 3
  · have HP : Hid (fitsM m ↔ ltOk m ∧ feedOk m) := Lib.hid ⟨fun g => g.2.2.2.1 k3, fun g => ⟨fun q => absurd q HK6.out, fun _ => ht, fun q => absurd q HK1.out, fun _ => g, fun q => by omega⟩⟩
    have g3 : (m.kind == 3) = true := beq_t k3
    clear k3
    go_enter Try.func14, Try.ntmps14
    go_wp2_with (refine wpList_load_rowG rfl 32 (.tmp 1) rfl w.heap.size rfl 32 (mArr m (.slice ae m.ents.length ce) vn vh vl) (0, 0) _ hr Try.underlying32 rfl (by kernel_rfl) ?_)
    refine (lt_any m _ _ HM.out).mono ?_
    rintro e w1 ⟨bb, rfl, hbb, hb1⟩
    have HX1 := Lib.hid (HX.out.on hb1)
    clear hr ra q0 q1 q2 q3 q4 q5 q6 q7 q8 q9 q10
    cases bb
    · have HE : Hid (¬ fitsM m) := Lib.hid (fun g => Bool.noConfusion (hbb.2 (HP.out.1 g).1))
      clear hbb
      go_wp2
      go_ret
      exact tells_no HE.out HX1.out.1
    · have HLT := Lib.hid (hbb.1 rfl)
      have hr := HX1.out.2.1
      clear hbb
      go_wp2_with (refine wpList_load_rowG rfl 32 (.tmp 1) rfl w.heap.size rfl 32 (mArr m (.slice ae m.ents.length ce) vn vh vl) (0, 0) _ hr Try.underlying32 rfl (by kernel_rfl) ?_)
      refine (feed_any m _ _ HX1.out.2.2.1).mono ?_
      rintro e w2 ⟨b2, rfl, hb2, hbb2⟩
      have HBB := Lib.hid hb2
      clear hb2
      go_wp2
      go_ret
      exact ⟨b2, rfl, HBB.out.trans ⟨fun g => HP.out.2 ⟨HLT.out, g⟩, fun g => (HP.out.1 g).2⟩, (HX1.out.on hbb2).1⟩
  have g3 : (m.kind == 3) = false := beq_f k3
  have HK3 := Lib.hid k3
  clear k3
  by_cases k5 : m.kind = 5
  · have HP : Hid (fitsM m ↔ shipOk m) := Lib.hid ⟨fun g => g.2.2.2.2 k5, fun g => ⟨fun q => absurd q HK6.out, fun _ => ht, fun q => absurd q HK1.out, fun q => absurd q HK3.out, fun _ => g⟩⟩
    have g5 : (m.kind == 5) = true := beq_t k5
    clear k5
    go_enter Try.func14, Try.ntmps14
    go_wp2_with (refine Rc.wpList_load_midG rfl 30 (.tmp 37) rfl w.heap.size 9 rfl (sArr m.shot vn vh vl).toList _ ra Try.underlying30 rfl (by kernel_rfl) ?_)
    refine (Sh.check_any m.shot _ _ HSH.out).mono ?_
    rintro e w1 ⟨z, rfl, hz, hb1⟩
    have HX1 := Lib.hid (HX.out.on hb1)
    clear hr ra q0 q1 q2 q3 q4 q5 q6 q7 q8 q9 q10 hb1
    rcases hz with ⟨rfl, hok⟩ | ⟨rfl, hno⟩
    · have HOK := Lib.hid hok
      obtain ⟨q0, q1, q2, q3, q4, q5, q6, q7, q8, q9, q10, -⟩ := cells16 HX1.out.2.1
      clear hok
      by_cases c1 : 1 ≤ m.shot.index
      · by_cases c2 : m.shot.term ≤ m.term
        · have HE : Hid (fitsM m) := Lib.hid (HP.out.2 ⟨HOK.out, c1, c2⟩)
          go_wp2
          go_ret
          exact tells_yes HE.out HX1.out.1
        · have HE : Hid (¬ fitsM m) := Lib.hid (fun g => c2 (HP.out.1 g).2.2)
          have c3 : m.term < m.shot.term := by omega
          clear c2
          go_wp2
          go_ret
          first
            | exact tells_no HE.out HX1.out.1
            | exact ⟨_, rfl, ⟨fun g => absurd (of_decide_eq_true g) (by omega), fun g => absurd g HE.out⟩, HX1.out.1⟩
      · have HE : Hid (¬ fitsM m) := Lib.hid (fun g => c1 (HP.out.1 g).2.1)
        have c3 : m.shot.index < 1 := by omega
        clear c1
        go_wp2
        go_ret
        exact tells_no HE.out HX1.out.1
    · have HE : Hid (¬ fitsM m) := Lib.hid (fun g => hno (HP.out.1 g).1)
      clear hno
      go_wp2
      go_ret
      exact tells_no HE.out HX1.out.1
  have HE : Hid (fitsM m) := Lib.hid ⟨fun q => absurd q HK6.out, fun _ => ht, fun q => absurd q HK1.out, fun q => absurd q HK3.out, fun q => absurd q k5⟩
  have g5 : (m.kind == 5) = false := beq_f k5
  clear k5
  go_enter Try.func14, Try.ntmps14
  go_wp2
  go_ret
  first
    | exact tells_yes HE.out HX.out.1
    | exact ⟨_, rfl, ⟨fun _ => HE.out, fun _ => decide_eq_true ht⟩, HX.out.1⟩
def zUp (m : Mes) (k : Nat) : Prop := ∀ f : Nat, f < k → (f : Int) ∉ fieldsM m.kind → zF m f
def nodeP (n : Int) : Prop := 1 ≤ n ∧ n ≤ 7
def msgOk (m : Mes) : Prop := kindM m.kind ∧ nodeP m.src ∧ nodeP m.dst ∧ m.src ≠ m.dst ∧ zUp m 7 ∧ fitsM m
def SaysM (m : Mes) (w : World) (e : Ending) (w' : World) : Prop := ∃ z : Int, e = .returned (.int .i64 z) ∧ ((z = 0 ∧ msgOk m) ∨ (z = 80 ∧ ¬ msgOk m)) ∧ Below w.heap.size w w'
theorem says_no {m : Mes} (g : ¬ msgOk m) {w w' : World} (hb : Below w.heap.size w w') : SaysM m w (.returned (.int .i64 80)) w' := ⟨_, rfl, .inr ⟨rfl, g⟩, hb⟩
theorem says_yes {m : Mes} (g : msgOk m) {w w' : World} (hb : Below w.heap.size w w') : SaysM m w (.returned (.int .i64 0)) w' := ⟨_, rfl, .inl ⟨rfl, g⟩, hb⟩
theorem node_b {n : Int} {b : Bool} (h : decide (1 ≤ n ∧ n ≤ 7) = b) : nodeP n ↔ b = true := by subst h; exact (decide_eq_true_iff (p := 1 ≤ n ∧ n ≤ 7)).symm
set_option maxHeartbeats 16000000 in
theorem check_any (m : Mes) (v : Value) (w : World) (h : IsMsg w v m) : Calls Try.prog 5 #[v] w (SaysM m w) := by
  obtain ⟨ae, ce, vn, vh, vl, rfl, hlc, hcm, hx⟩ := BoxM.of h
  obtain ⟨q0, q1, q2, q3, q4, q5, q6, q7, q8, q9, q10, -⟩ := cells16 hx.2.1
  have HX := Lib.hid hx
  clear hx h
  have hn0 : ∀ w' : World, (binOp BinOp.eql 40 (.slice none 0 0) (.slice none 0 0)).run Try.prog w' = .ok (.bool true) w' := fun _ => by first | kernel_rfl | rfl
  by_cases hk : kindM m.kind
  rotate_left
  · have HE : Hid (¬ msgOk m) := Lib.hid (fun g => hk g.1)
    have HK := Lib.hid hk
    clear hk
    go_enter Try.func5, Try.ntmps5
    go_wp2_with fail
    refine (fields_no m.kind _ HK.out).mono ?_
    rintro e w1 ⟨rfl, rfl⟩
    go_wp2
    go_ret
    exact says_no HE.out HX.out.1
  have HK := Lib.hid hk
  clear hk
  go_enter Try.func5, Try.ntmps5
  go_wp2_with fail
  refine (fields_any m.kind _ HK.out).mono ?_
  rintro e w1 ⟨⟨fb, fo, fs⟩, fc, rfl, hs1, hb1⟩
  have HX1 := Lib.hid (HX.out.on hb1)
  have HS1 := Lib.hid hs1
  clear q0 q1 q2 q3 q4 q5 q6 q7 q8 q9 q10 hb1 hs1 hn0
  obtain ⟨q0, q1, q2, q3, q4, q5, q6, q7, q8, q9, q10, -⟩ := cells16 HX1.out.2.1
  have hn1 : ∀ w' : World, (binOp BinOp.eql 40 (.slice (some ⟨fb, fo, fs⟩) (fieldsM m.kind).length fc) (.slice none 0 0)).run Try.prog w' = .ok (.bool false) w' := fun _ => by first | kernel_rfl | rfl
  obtain ⟨y1, hy1⟩ : ∃ y, decide (1 ≤ m.src ∧ m.src ≤ 7) = y := ⟨_, rfl⟩
  obtain ⟨y2, hy2⟩ : ∃ y, decide (1 ≤ m.dst ∧ m.dst ≤ 7) = y := ⟨_, rfl⟩
  obtain ⟨y3, hy3⟩ : ∃ y, (m.src == m.dst) = y := ⟨_, rfl⟩
  have HY1 := Lib.hid hy1
  have HY2 := Lib.hid hy2
  have HY3 := Lib.hid hy3
  clear hy1 hy2
  by_cases hg : y1 = true ∧ y2 = true ∧ y3 = false
  rotate_left
  · have HE : Hid (¬ msgOk m) := Lib.hid (fun g => hg ⟨(node_b HY1.out).1 g.2.1, (node_b HY2.out).1 g.2.2.1, HY3.out.symm.trans (beq_f g.2.2.2.1)⟩)
    cases y1
    · clear hg
      go_wp2_with (go_at_call 11; refine (isNode_any _ _).mono ?_; rintro e w2 ⟨rfl, rfl⟩; rw [HY1.out])
      go_ret
      exact says_no HE.out HX1.out.1
    · cases y2
      · clear hg
        go_wp2_with (go_at_call 11; refine (isNode_any _ _).mono ?_; rintro e w2 ⟨rfl, rfl⟩; first | rw [HY1.out] | rw [HY2.out])
        go_ret
        exact says_no HE.out HX1.out.1
      · cases y3
        · exact absurd ⟨rfl, rfl, rfl⟩ hg
        · clear hg
          go_wp2_with (go_at_call 11; refine (isNode_any _ _).mono ?_; rintro e w2 ⟨rfl, rfl⟩; first | rw [HY1.out] | rw [HY2.out])
          go_ret
          exact says_no HE.out HX1.out.1
  obtain ⟨rfl, rfl, rfl⟩ := hg
  have HN1 := Lib.hid ((node_b HY1.out).2 rfl)
  have HN2 := Lib.hid ((node_b HY2.out).2 rfl)
  have HN3 : Hid (m.src ≠ m.dst) := Lib.hid (beq_eq_false_iff_ne.1 HY3.out)
  go_wp2_with (go_at_call 11; refine (isNode_any _ _).mono ?_; rintro e w2 ⟨rfl, rfl⟩; first | rw [HY1.out] | rw [HY2.out])
  clear hn1 hy3
  go_loopw [4] (fun f wr => ∃ k : Nat, k ≤ 7 ∧ f = .int .i64 k ∧ Below w1.heap.size w1 wr ∧ Hid (zUp m k)) (fun f _ => 7 - (intOf f).toNat)
  case atStart => exact ⟨0, by omega, rfl, Below.refl _ _, Lib.hid (fun g hg => absurd hg (by omega))⟩
  case round =>
    clear q0 q1 q2 q3 q4 q5 q6 q7 q8 q9 q10
    obtain ⟨k, hk, rfl, hb, HO⟩ := hrel
    have HXR := Lib.hid (HX1.out.on hb)
    have HSR := Lib.hid (HS1.out.below hb (Nat.le_refl _))
    have HBR := Lib.hid hb
    have hr := HXR.out.2.1
    clear hb
    by_cases hk6 : k ≤ 6
    · have hk6' : (k : Int) ≤ 6 := by omega
      by_cases hin : (k : Int) ∈ fieldsM m.kind
      · have HIN := Lib.hid (decide_eq_true hin)
        have HO2 : Hid (zUp m (k + 1)) := Lib.hid (fun f hf hfn => by
          rcases Nat.lt_or_ge f k with h | h
          · exact HO.out f h hfn
          · obtain rfl : f = k := by omega
            exact absurd hin hfn)
        clear hin
        go_wp2_with (go_at_call 12; refine (fcontains_any _ _ _ _ HSR.out).mono ?_; rintro e w2 ⟨rfl, rfl⟩; rw [HIN.out])
        go_roundw
        case rel => exact ⟨k + 1, by omega, by go_num, HBR.out, HO2⟩
        case measure => simp [intOf]; omega
      · have HIN := Lib.hid (decide_eq_false hin)
        have HNI := Lib.hid hin
        clear hin
        go_wp2_with (first
          | (go_at_call 12; refine (fcontains_any _ _ _ _ HSR.out).mono ?_; rintro e w2 ⟨rfl, rfl⟩; rw [HIN.out])
          | (refine wpList_load_rowG rfl 32 (.tmp 1) rfl w.heap.size rfl 32 (mArr m (.slice ae m.ents.length ce) vn vh vl) (0, 0) _ hr Try.underlying32 rfl (by kernel_rfl) ?_))
        refine (empty_any m k hk6 _ _ HXR.out.2.2.1).mono ?_
        rintro e w3 ⟨bb, rfl, hbb, hb3⟩
        have HX3 := Lib.hid (HXR.out.on hb3)
        have HB3 := Lib.hid (HBR.out.trans (hb3.mono HBR.out.size))
        clear hb3 hr
        cases bb
        · have HE : Hid (¬ msgOk m) := Lib.hid (fun g => Bool.noConfusion (hbb.2 (g.2.2.2.2.1 k (by omega) HNI.out)))
          clear hbb
          go_wp2
          go_ret
          exact says_no HE.out HX3.out.1
        · have hz := hbb.1 rfl
          have HO2 : Hid (zUp m (k + 1)) := Lib.hid (fun f hf hfn => by
            rcases Nat.lt_or_ge f k with h | h
            · exact HO.out f h hfn
            · obtain rfl : f = k := by omega
              exact hz)
          clear hbb hz
          go_wp2
          go_roundw
          case rel => exact ⟨k + 1, by omega, by go_num, HB3.out, HO2⟩
          case measure => simp [intOf]; omega
    · obtain rfl : k = 7 := by omega
      go_wp2_with (refine wpList_load_row rfl 32 (.tmp 1) rfl w.heap.size rfl 32 (mArr m (.slice ae m.ents.length ce) vn vh vl) (0, 0) _ hr Try.underlying32 rfl (by kernel_rfl) ?_)
      refine (mfits_any m _ _ HXR.out.2.2.1).mono ?_
      rintro e w3 ⟨bb, rfl, hbb, hb3⟩
      have HX3 := Lib.hid (HXR.out.on hb3)
      clear hb3 hr
      cases bb
      · have HE : Hid (¬ msgOk m) := Lib.hid (fun g => Bool.noConfusion (hbb.2 g.2.2.2.2.2))
        clear hbb
        go_wp2
        go_ret
        exact says_no HE.out HX3.out.1
      · have HE : Hid (msgOk m) := Lib.hid ⟨HK.out, HN1.out, HN2.out, HN3.out, HO.out, hbb.1 rfl⟩
        clear hbb
        go_wp2
        go_ret
        exact says_yes HE.out HX3.out.1
end Ms
end Go.Proofs.Yteapccniloednaa
