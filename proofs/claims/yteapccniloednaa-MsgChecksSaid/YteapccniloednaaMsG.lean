/- The document's own Check of a message. No condition. -/
import Derived.Test.YteapccniloednaaMsE
import Derived.Test.YteapccniloednaaMsF
import Derived.Test.YteapccniloednaaShR
import Derived.Deep.DeepCutAuto
import Derived.Deep.CutRange
import Derived.Deep.CutBlock
namespace Go.Proofs.Yteapccniloednaa
open Go.ChangeShapes Go.WideShapes Go.ChangeAt Go.RowKit Go.Deep
set_option linter.unusedVariables false
set_option maxRecDepth 100000
namespace Ms
open Nv
def preOk (m : Mes) : Prop := kindM m.kind ∧ nodeP m.src ∧ nodeP m.dst ∧ m.src ≠ m.dst ∧ zUp m 7
def midOk (m : Mes) : Prop := preOk m ∧ (m.kind ≠ 6 → 1 ≤ m.term) ∧ (m.kind = 1 ∨ m.kind = 3 → ltOk m)
theorem msg_iff (m : Mes) : msgOk m ↔ midOk m ∧ (m.kind = 3 → feedOk m) ∧ (m.kind = 5 → shipOk m) ∧ (m.kind = 6 → putOk m) := by
  unfold msgOk midOk preOk fitsM
  constructor
  · rintro ⟨a, b, c, d, e, f, g, h, i, j⟩
    exact ⟨⟨⟨a, b, c, d, e⟩, g, fun q => q.elim h (fun r => (i r).1)⟩, fun q => (i q).2, j, f⟩
  · rintro ⟨⟨⟨a, b, c, d, e⟩, f, g⟩, h, i, j⟩
    exact ⟨a, b, c, d, e, j, f, fun q => g (.inl q), fun q => ⟨g (.inr q), h q⟩, i⟩
theorem has_t {k : Int} (h : kindM k) : Cm.hasB (fieldT k) 116 = true ↔ k ≠ 6 := by
  unfold kindM at h
  rcases (show k = 1 ∨ k = 2 ∨ k = 3 ∨ k = 4 ∨ k = 5 ∨ k = 6 by omega) with rfl | rfl | rfl | rfl | rfl | rfl <;> decide
theorem has_l {k : Int} (h : kindM k) : Cm.hasB (fieldT k) 108 = true ↔ k = 1 ∨ k = 3 := by
  unfold kindM at h
  rcases (show k = 1 ∨ k = 2 ∨ k = 3 ∨ k = 4 ∨ k = 5 ∨ k = 6 by omega) with rfl | rfl | rfl | rfl | rfl | rfl <;> decide
theorem emp_no {s : ByteArray} (h : 0 < s.size) : s.toList.isEmpty = false := by
  cases hq : s.toList with
  | nil =>
    exfalso
    have := congrArg List.length hq
    rw [ByteArray.toList_eq, Array.length_toList] at this
    have h2 : s.size = 0 := this
    omega
  | cons a l => rfl
theorem emp_yes {s : ByteArray} (h : s.size = 0) : s.toList.isEmpty = true := by
  have : s.toList.length = 0 := by rw [ByteArray.toList_eq, Array.length_toList]; exact h
  rw [List.eq_nil_of_length_eq_zero this]
  rfl
theorem kind_b {k : Int} {b : Bool} (h : (!(fieldT k).toList.isEmpty) = b) : kindM k ↔ b = true := by
  subst h
  by_cases hk : kindM k
  · refine ⟨fun _ => ?_, fun _ => hk⟩
    unfold kindM at hk
    rcases (show k = 1 ∨ k = 2 ∨ k = 3 ∨ k = 4 ∨ k = 5 ∨ k = 6 by omega) with rfl | rfl | rfl | rfl | rfl | rfl <;> (rw [emp_no (by decide)]; rfl)
  · rw [fieldT_no hk, emp_yes (by decide)]
    exact ⟨fun g => absurd g hk, fun g => absurd g (by decide)⟩
set_option maxHeartbeats 16000000 in
theorem rcheck_any (m : Mes) (v : Value) (w : World) (h : IsMsg w v m) : Calls Try.prog 6 #[v] w (SaysM m w) := by
  obtain ⟨ae, ce, vn, vh, vl, rfl, hlc, hcm, hx⟩ := BoxM.of h
  obtain ⟨q0, q1, q2, q3, q4, q5, q6, q7, q8, q9, q10, -⟩ := cells16 hx.2.1
  have hr := hx.2.1
  have HX := Lib.hid hx
  clear hx h
  have HIFF := Lib.hid (msg_iff m)
  have HHT := Lib.hid (fun h => has_t (k := m.kind) h)
  have HHL := Lib.hid (fun h => has_l (k := m.kind) h)
  go_enter Try.func6, Try.ntmps6
  go_upto_region 2 with (go_at_call 15; refine (rfields_any _ _).mono ?_; rintro e w2 ⟨rfl, rfl⟩)
  go_cut [4] (fun s4 wx => ∃ b, s4 = .bool b ∧ Hid (b = true ↔ preOk m) ∧ BoxM w wx m ae ce vn vh vl)
  case first =>
    obtain ⟨yk, hyk⟩ : ∃ y, (!(fieldT m.kind).toList.isEmpty) = y := ⟨_, rfl⟩
    obtain ⟨y1, hy1⟩ : ∃ y, decide (1 ≤ m.src ∧ m.src ≤ 7) = y := ⟨_, rfl⟩
    obtain ⟨y2, hy2⟩ : ∃ y, decide (1 ≤ m.dst ∧ m.dst ≤ 7) = y := ⟨_, rfl⟩
    obtain ⟨y3, hy3⟩ : ∃ y, (m.src != m.dst) = y := ⟨_, rfl⟩
    have HYK := Lib.hid (kind_b hyk)
    have HN1 := Lib.hid (node_b hy1)
    have HN2 := Lib.hid (node_b hy2)
    have HN3 : Hid (m.src ≠ m.dst ↔ y3 = true) := Lib.hid (by rw [← hy3]; exact bne_iff_ne.symm)
    have HY1 := Lib.hid hy1
    have HY2 := Lib.hid hy2
    clear hy1 hy2
    cases yk
    · have HE : Hid (¬ preOk m) := Lib.hid (fun g => Bool.noConfusion (HYK.out.1 g.1))
      go_wp2
      go_meet
      exact ⟨false, rfl, Lib.hid ⟨fun g => Bool.noConfusion g, fun g => absurd g HE.out⟩, HX.out⟩
    have HK := Lib.hid (HYK.out.2 rfl)
    cases y1
    · have HE : Hid (¬ preOk m) := Lib.hid (fun g => Bool.noConfusion (HN1.out.1 g.2.1))
      go_wp2_with (go_at_call 16; refine (rnode_any _ _).mono ?_; rintro e w2 ⟨rfl, rfl⟩; rw [HY1.out])
      go_meet
      exact ⟨false, rfl, Lib.hid ⟨fun g => Bool.noConfusion g, fun g => absurd g HE.out⟩, HX.out⟩
    have HP1 := Lib.hid (HN1.out.2 rfl)
    cases y2
    · have HE : Hid (¬ preOk m) := Lib.hid (fun g => Bool.noConfusion (HN2.out.1 g.2.2.1))
      go_wp2_with (go_at_call 16; refine (rnode_any _ _).mono ?_; rintro e w2 ⟨rfl, rfl⟩; first | rw [HY1.out] | rw [HY2.out])
      go_meet
      exact ⟨false, rfl, Lib.hid ⟨fun g => Bool.noConfusion g, fun g => absurd g HE.out⟩, HX.out⟩
    have HP2 := Lib.hid (HN2.out.2 rfl)
    cases y3
    · have HE : Hid (¬ preOk m) := Lib.hid (fun g => Bool.noConfusion (HN3.out.1 g.2.2.2.1))
      go_wp2_with (go_at_call 16; refine (rnode_any _ _).mono ?_; rintro e w2 ⟨rfl, rfl⟩; first | rw [HY1.out] | rw [HY2.out])
      go_meet
      exact ⟨false, rfl, Lib.hid ⟨fun g => Bool.noConfusion g, fun g => absurd g HE.out⟩, HX.out⟩
    have HP3 := Lib.hid (HN3.out.2 rfl)
    go_wp2_with (first
      | (go_at_call 16; refine (rnode_any _ _).mono ?_; rintro e w2 ⟨rfl, rfl⟩; first | rw [HY1.out] | rw [HY2.out])
      | (refine wpList_load_rowG rfl 32 (.tmp 1) rfl w.heap.size rfl 32 (mArr m (.slice ae m.ents.length ce) vn vh vl) (0, 0) _ hr Try.underlying32 rfl (by kernel_rfl) ?_))
    refine (zero_any m HK.out _ _ HX.out.2.2.1).mono ?_
    rintro e w1 ⟨bb, rfl, hbb, hb1⟩
    have HX1 := Lib.hid (HX.out.on hb1)
    have HBB := Lib.hid hbb
    clear hbb hb1
    go_wp2
    go_meet
    exact ⟨bb, rfl, Lib.hid ⟨fun g => ⟨HK.out, HP1.out, HP2.out, HP3.out, HBB.out.1 g⟩, fun g => HBB.out.2 g.2.2.2.2⟩, HX1.out⟩
  case rest =>
    obtain ⟨b1, rfl, HB1, hx1⟩ := hcut
    have HX1 := Lib.hid hx1
    clear q0 q1 q2 q3 q4 q5 q6 q7 q8 q9 q10 hr HX
    obtain ⟨q0, q1, q2, q3, q4, q5, q6, q7, q8, q9, q10, -⟩ := cells16 hx1.2.1
    clear hx1
    go_upto_region 3 with fail
    go_cut [4] (fun s4 wx => ∃ b, s4 = .bool b ∧ Hid (b = true ↔ midOk m) ∧ BoxM w wx m ae ce vn vh vl)
    case first =>
      cases b1
      · have HE : Hid (¬ midOk m) := Lib.hid (fun g => Bool.noConfusion (HB1.out.2 g.1))
        go_wp2
        go_meet
        exact ⟨false, rfl, Lib.hid ⟨fun g => Bool.noConfusion g, fun g => absurd g HE.out⟩, HX1.out⟩
      have HPRE := Lib.hid (HB1.out.1 rfl)
      have HHT2 := Lib.hid (HHT.out HPRE.out.1)
      have HHL2 := Lib.hid (HHL.out HPRE.out.1)
      obtain ⟨bt, hbt⟩ : ∃ y, Cm.hasB (fieldT m.kind) 116 = y := ⟨_, rfl⟩
      obtain ⟨bl, hbl⟩ : ∃ y, Cm.hasB (fieldT m.kind) 108 = y := ⟨_, rfl⟩
      have HT : Hid (bt = true ↔ m.kind ≠ 6) := Lib.hid (by rw [← hbt]; exact HHT2.out)
      have HL : Hid (bl = true ↔ m.kind = 1 ∨ m.kind = 3) := Lib.hid (by rw [← hbl]; exact HHL2.out)
      have HBT := Lib.hid hbt
      have HBL := Lib.hid hbl
      clear hbt hbl
      by_cases hg : bt = true ∧ m.term < 1
      · obtain ⟨rfl, hlt⟩ := hg
        have HE : Hid (¬ midOk m) := Lib.hid (fun g => by have := g.2.1 (HT.out.1 rfl); omega)
        go_wp2_with (go_at_call 18; refine (rhas_any _ _ (fieldT_small _) _).mono ?_; rintro e w2 ⟨rfl, rfl⟩; first | rw [HBT.out] | rw [HBL.out])
        go_meet
        exact ⟨false, rfl, Lib.hid ⟨fun g => Bool.noConfusion g, fun g => absurd g HE.out⟩, HX1.out⟩
      have HTM : Hid (m.kind ≠ 6 → 1 ≤ m.term) := Lib.hid (fun q => by have := HT.out.2 q; by_cases h : 1 ≤ m.term; exact h; exact absurd ⟨this, by omega⟩ hg)
      obtain ⟨x, hx⟩ : ∃ x, (m.lterm == 0) = x := ⟨_, rfl⟩
      obtain ⟨y, hy⟩ : ∃ y, (m.index == 0) = y := ⟨_, rfl⟩
      have HP : Hid (ltOk m ↔ (x = y ∧ m.lterm ≤ m.term)) := Lib.hid (by
        unfold ltOk
        rw [← hx, ← hy]
        constructor
        · rintro ⟨a, b⟩
          exact ⟨by rw [Bool.eq_iff_iff, beq_iff_eq, beq_iff_eq]; exact a, b⟩
        · rintro ⟨a, b⟩
          exact ⟨by rw [Bool.eq_iff_iff, beq_iff_eq, beq_iff_eq] at a; exact a, b⟩)
      have hT : bt = false ∨ (bt = true ∧ 1 ≤ m.term) := by
        cases bt
        · exact .inl rfl
        · exact .inr ⟨rfl, Classical.byContradiction fun q => hg ⟨rfl, by omega⟩⟩
      clear hg
      rcases hT with rfl | ⟨rfl, hge⟩ <;> cases bl
      case inl.false | inr.false =>
        have HE : Hid (midOk m) := Lib.hid ⟨HPRE.out, HTM.out, fun q => Bool.noConfusion (HL.out.2 q)⟩
        go_wp2_with (go_at_call 18; refine (rhas_any _ _ (fieldT_small _) _).mono ?_; rintro e w2 ⟨rfl, rfl⟩; first | rw [HBT.out] | rw [HBL.out])
        go_meet
        exact ⟨true, rfl, Lib.hid ⟨fun _ => HE.out, fun _ => rfl⟩, HX1.out⟩
      all_goals
        have HKL := Lib.hid (HL.out.1 rfl)
        by_cases c : m.lterm ≤ m.term
        · have hd : decide (m.lterm ≤ m.term) = true := decide_eq_true c
          cases x <;> cases y
          all_goals
            first
              | have HE : Hid (midOk m) := Lib.hid ⟨HPRE.out, HTM.out, fun _ => HP.out.2 ⟨rfl, c⟩⟩
              | have HE : Hid (¬ midOk m) := Lib.hid (fun g => Bool.noConfusion (HP.out.1 (g.2.2 HKL.out)).1)
            go_wp2_with (go_at_call 18; refine (rhas_any _ _ (fieldT_small _) _).mono ?_; rintro e w2 ⟨rfl, rfl⟩; first | rw [HBT.out] | rw [HBL.out])
            go_meet
            first
              | exact ⟨true, rfl, Lib.hid ⟨fun _ => HE.out, fun _ => rfl⟩, HX1.out⟩
              | exact ⟨false, rfl, Lib.hid ⟨fun g => Bool.noConfusion g, fun g => absurd g HE.out⟩, HX1.out⟩
        · have hd : decide (m.lterm ≤ m.term) = false := decide_eq_false c
          have HE : Hid (¬ midOk m) := Lib.hid (fun g => c (g.2.2 HKL.out).2)
          have c' : m.term < m.lterm := by omega
          have HD := Lib.hid hd
          clear c hd
          cases x <;> cases y
          all_goals
            go_wp2_with (go_at_call 18; refine (rhas_any _ _ (fieldT_small _) _).mono ?_; rintro e w2 ⟨rfl, rfl⟩; first | rw [HBT.out] | rw [HBL.out])
            go_meet
            first
              | exact ⟨false, rfl, Lib.hid ⟨fun g => Bool.noConfusion g, fun g => absurd g HE.out⟩, HX1.out⟩
              | exact ⟨_, rfl, Lib.hid ⟨fun g => absurd (of_decide_eq_true g) (by omega), fun g => absurd g HE.out⟩, HX1.out⟩
    case rest =>
      obtain ⟨b2, rfl, HB2, hx2⟩ := hcut
      have HX2 := Lib.hid hx2
      clear q0 q1 q2 q3 q4 q5 q6 q7 q8 q9 q10 HX1 HB1
      obtain ⟨q0, q1, q2, q3, q4, q5, q6, q7, q8, q9, q10, -⟩ := cells16 hx2.2.1
      have hr := hx2.2.1
      have ra := shot_range hx2.2.1
      have HSH : Hid (IsShot _ (.agg (sArr m.shot vn vh vl)) m.shot) := Lib.hid (IsMsg_shot hx2.2.2.1)
      clear hx2
      obtain ⟨k3, hk3⟩ : ∃ y, (m.kind == 3) = y := ⟨_, rfl⟩
      obtain ⟨k5, hk5⟩ : ∃ y, (m.kind == 5) = y := ⟨_, rfl⟩
      obtain ⟨k6, hk6⟩ : ∃ y, (m.kind == 6) = y := ⟨_, rfl⟩
      have HK3 : Hid (m.kind = 3 ↔ k3 = true) := Lib.hid (by rw [← hk3]; exact beq_iff_eq.symm)
      have HK5 : Hid (m.kind = 5 ↔ k5 = true) := Lib.hid (by rw [← hk5]; exact beq_iff_eq.symm)
      have HK6 : Hid (m.kind = 6 ↔ k6 = true) := Lib.hid (by rw [← hk6]; exact beq_iff_eq.symm)
      go_upto_block 0 with fail
      go_cut [4] (fun s4 wx => ∃ b, s4 = .bool b ∧ Hid (b = true ↔ msgOk m) ∧ BoxM w wx m ae ce vn vh vl)
      case first =>
        cases b2
        · have HE : Hid (¬ msgOk m) := Lib.hid (fun g => Bool.noConfusion (HB2.out.2 (HIFF.out.1 g).1))
          cases k3 <;> cases k5 <;> cases k6
          all_goals
            go_wp2
            go_meet
            exact ⟨false, rfl, Lib.hid ⟨fun g => Bool.noConfusion g, fun g => absurd g HE.out⟩, HX2.out⟩
        have HMID := Lib.hid (HB2.out.1 rfl)
        cases k3
        rotate_left
        · have h3 := HK3.out.2 rfl
          have HQ : Hid (msgOk m ↔ feedOk m) := Lib.hid (HIFF.out.trans ⟨fun g => g.2.1 h3, fun g => ⟨HMID.out, fun _ => g, fun q => by omega, fun q => by omega⟩⟩)
          clear h3
          go_wp2_with (refine wpList_load_rowG rfl 32 (.tmp 1) rfl w.heap.size rfl 32 (mArr m (.slice ae m.ents.length ce) vn vh vl) (0, 0) _ hr Try.underlying32 rfl (by kernel_rfl) ?_)
          refine (rents_any m _ _ HX2.out.2.2.1).mono ?_
          rintro e w3 ⟨bb, rfl, hbb, hb3⟩
          have HX3 := Lib.hid (HX2.out.on hb3)
          have HBB := Lib.hid (hbb.trans HQ.out.symm)
          clear hbb hb3 hr ra q0 q1 q2 q3 q4 q5 q6 q7 q8 q9 q10
          cases bb
          · have HE : Hid (¬ msgOk m) := Lib.hid (fun g => Bool.noConfusion (HBB.out.2 g))
            go_wp2
            go_meet
            exact ⟨false, rfl, Lib.hid ⟨fun g => Bool.noConfusion g, fun g => absurd g HE.out⟩, HX3.out⟩
          · have HE := Lib.hid (HBB.out.1 rfl)
            go_wp2
            go_meet
            exact ⟨true, rfl, Lib.hid ⟨fun _ => HE.out, fun _ => rfl⟩, HX3.out⟩
        have HN3 : Hid (m.kind ≠ 3) := Lib.hid (fun q => Bool.noConfusion (HK3.out.1 q))
        cases k5
        rotate_left
        · have h5 := HK5.out.2 rfl
          have HQ : Hid (msgOk m ↔ shipOk m) := Lib.hid (HIFF.out.trans ⟨fun g => g.2.2.1 h5, fun g => ⟨HMID.out, fun q => by omega, fun _ => g, fun q => by omega⟩⟩)
          clear h5
          go_wp2_with (refine wpList_load_midG rfl 30 (.tmp 76) rfl w.heap.size 9 rfl (sArr m.shot vn vh vl).toList _ ra Try.underlying30 rfl (by kernel_rfl) ?_)
          refine (Sh.rcheck_any m.shot _ _ HSH.out).mono ?_
          rintro e w3 ⟨z, rfl, hz, hb3⟩
          have HX3 := Lib.hid (HX2.out.on hb3)
          clear hr ra q0 q1 q2 q3 q4 q5 q6 q7 q8 q9 q10 hb3
          rcases hz with ⟨rfl, hok⟩ | ⟨rfl, hno⟩
          · have HOK := Lib.hid hok
            obtain ⟨q0, q1, q2, q3, q4, q5, q6, q7, q8, q9, q10, -⟩ := cells16 HX3.out.2.1
            clear hok
            by_cases c1 : 1 ≤ m.shot.index
            · have HE : Hid (decide (m.shot.term ≤ m.term) = true ↔ msgOk m) := Lib.hid (decide_eq_true_iff.trans ⟨fun g => HQ.out.2 ⟨HOK.out, c1, g⟩, fun g => (HQ.out.1 g).2.2⟩)
              go_wp2
              go_meet
              exact ⟨_, rfl, HE, HX3.out⟩
            · have HE : Hid (¬ msgOk m) := Lib.hid (fun g => c1 (HQ.out.1 g).2.1)
              have c3 : m.shot.index < 1 := by omega
              clear c1
              go_wp2
              go_meet
              exact ⟨false, rfl, Lib.hid ⟨fun g => Bool.noConfusion g, fun g => absurd g HE.out⟩, HX3.out⟩
          · have HE : Hid (¬ msgOk m) := Lib.hid (fun g => hno (HQ.out.1 g).1)
            clear hno
            go_wp2
            go_meet
            exact ⟨false, rfl, Lib.hid ⟨fun g => Bool.noConfusion g, fun g => absurd g HE.out⟩, HX3.out⟩
        have HN5 : Hid (m.kind ≠ 5) := Lib.hid (fun q => Bool.noConfusion (HK5.out.1 q))
        cases k6
        · have HE : Hid (msgOk m) := Lib.hid (HIFF.out.2 ⟨HMID.out, fun q => absurd q HN3.out, fun q => absurd q HN5.out, fun q => Bool.noConfusion (HK6.out.1 q)⟩)
          go_wp2
          go_meet
          exact ⟨true, rfl, Lib.hid ⟨fun _ => HE.out, fun _ => rfl⟩, HX2.out⟩
        · have HQ : Hid (msgOk m ↔ putOk m) := Lib.hid (HIFF.out.trans ⟨fun g => g.2.2.2 (HK6.out.2 rfl), fun g => ⟨HMID.out, fun q => absurd q HN3.out, fun q => absurd q HN5.out, fun _ => g⟩⟩)
          go_wp2_with (refine wpList_load_rowG rfl 32 (.tmp 1) rfl w.heap.size rfl 32 (mArr m (.slice ae m.ents.length ce) vn vh vl) (0, 0) _ hr Try.underlying32 rfl (by kernel_rfl) ?_)
          refine (rput_any m _ _ HX2.out.2.2.1).mono ?_
          rintro e w3 ⟨bb, rfl, hbb, hb3⟩
          have HX3 := Lib.hid (HX2.out.on hb3)
          have HBB := Lib.hid (hbb.trans HQ.out.symm)
          clear hbb hb3 hr ra q0 q1 q2 q3 q4 q5 q6 q7 q8 q9 q10
          cases bb
          · have HE : Hid (¬ msgOk m) := Lib.hid (fun g => Bool.noConfusion (HBB.out.2 g))
            go_wp2
            go_meet
            exact ⟨false, rfl, Lib.hid ⟨fun g => Bool.noConfusion g, fun g => absurd g HE.out⟩, HX3.out⟩
          · have HE := Lib.hid (HBB.out.1 rfl)
            go_wp2
            go_meet
            exact ⟨true, rfl, Lib.hid ⟨fun _ => HE.out, fun _ => rfl⟩, HX3.out⟩
      case rest =>
        obtain ⟨b4, rfl, HB4, hx4⟩ := hcut
        have HX4 := Lib.hid hx4
        clear hx4 hr ra q0 q1 q2 q3 q4 q5 q6 q7 q8 q9 q10
        cases b4
        · have HE : Hid (¬ msgOk m) := Lib.hid (fun g => Bool.noConfusion (HB4.out.2 g))
          go_wp2
          go_ret
          exact says_no HE.out HX4.out.1
        · have HE := Lib.hid (HB4.out.1 rfl)
          go_wp2
          go_ret
          exact says_yes HE.out HX4.out.1
end Ms
end Go.Proofs.Yteapccniloednaa
