/- Package msg: empty. No condition. -/
import Derived.Test.YteapccniloednaaMsA
import Derived.Test.YteapccniloednaaMsZ
namespace Go.Proofs.Yteapccniloednaa
open Go.ChangeShapes Go.WideShapes Go.ChangeAt Go.RowKit Go.Deep
set_option linter.unusedVariables false
set_option maxRecDepth 100000
namespace Ms
open Nv
theorem shot_range {w : World} {g : Nat} {m : Mes} {ve vn vh vl : Value} (h : w.heap[g]? = some (.cells (mArr m ve vn vh vl) 32 (0, 0))) : w.rangeAt g 9 (sArr m.shot vn vh vl).toList := fun j v hv => by
  have hj : j < 7 := by have := (List.getElem?_eq_some_iff.1 hv).1; simpa using this
  rw [cell_of_row w g (9 + j) _ _ _ h, ← hv]
  match j, hj with
  | 0, _ => rfl
  | 1, _ => rfl
  | 2, _ => rfl
  | 3, _ => rfl
  | 4, _ => rfl
  | 5, _ => rfl
  | 6, _ => rfl
set_option maxHeartbeats 2000000 in
theorem empty_any (m : Mes) (f : Nat) (hf : f ≤ 6) (v : Value) (w : World) (h : IsMsg w v m) :
    Calls Try.prog 13 #[v, .int .i64 f] w (Tells (zF m f) w) := by
  have h' := h
  obtain ⟨ve, vn, vh, vl, rfl, hl, hn, hh, hla, hwf⟩ := h'
  obtain ⟨ae, ce, rfl, hle, -⟩ := Hd.IsLog.len hl
  have hb0 : Below w.heap.size w (w.alloc (.cells (mArr m (.slice ae m.ents.length ce) vn vh vl) 32)) := (Below.refl _ _).alloc (Nat.le_refl _) _
  have hr0 := heap_alloc_new w (.cells (mArr m (.slice ae m.ents.length ce) vn vh vl) 32 (0, 0))
  obtain ⟨q0, q1, q2, q3, q4, q5, q6, q7, q8, -⟩ := cells16 hr0
  have HS : Hid (IsShot (w.alloc (.cells (mArr m (.slice ae m.ents.length ce) vn vh vl) 32)) (.agg (sArr m.shot vn vh vl)) m.shot) := Lib.hid (IsMsg_shot (h.below hb0 (Nat.le_refl _)))
  have HM := Lib.hid (h.below hb0 (Nat.le_refl _))
  have HB := Lib.hid hb0
  have HR := Lib.hid hr0
  clear h hl hn hh hla hwf hb0 hr0
  by_cases h4 : f = 4
  · subst h4
    have HP : Hid ((!m.flag) = true ↔ zF m 4) := Lib.hid (by show _ ↔ m.flag = false; cases m.flag <;> simp)
    clear hf
    go_enter Try.func13, Try.ntmps13
    go_wp2
    go_ret
    exact ⟨_, rfl, HP.out, HB.out⟩
  by_cases h5 : f = 5
  · subst h5
    have HP : Hid (zF m 5 ↔ m.ents.length = 0) := Lib.hid Iff.rfl
    by_cases hz : m.ents.length = 0
    · have HY := Lib.hid (HP.out.2 hz)
      have e0 : ((m.ents.length : Int) == 0) = true := beq_iff_eq.2 (by omega)
      clear hf hz h4
      go_enter Try.func13, Try.ntmps13
      go_wp2
      go_ret
      exact tells_yes HY.out HB.out
    · have HY : Hid (¬ zF m 5) := Lib.hid (fun g => hz (HP.out.1 g))
      have e0 : ((m.ents.length : Int) == 0) = false := beq_eq_false_iff_ne.2 (by omega)
      clear hf hz h4
      go_enter Try.func13, Try.ntmps13
      go_wp2
      go_ret
      exact tells_no HY.out HB.out
  by_cases h6 : f = 6
  · subst h6
    clear hf h4 h5
    have ra := shot_range HR.out
    go_enter Try.func13, Try.ntmps13
    go_wp2_with (refine wpList_load_midG rfl 30 (.tmp 19) rfl w.heap.size 9 rfl (sArr m.shot vn vh vl).toList _ ra Try.underlying30 rfl (by kernel_rfl) ?_)
    refine (noShot_any _ _ _ HS.out).mono ?_
    rintro e w1 ⟨bb, rfl, hbb, hb1⟩
    have HBB := Lib.hid hbb
    clear hbb
    go_wp2
    go_ret
    exact ⟨bb, rfl, HBB.out, HB.out.trans (hb1.mono HB.out.size)⟩
  have HP : Hid (zF m f ↔ numM m f = 0) := Lib.hid (by unfold zF; rw [if_neg h4, if_neg h5, if_neg h6])
  have hf3 : f ≤ 3 := by omega
  have HN := Lib.hid (number_any m f hf3 _ _ HM.out)
  have g4 : (((f : Nat) : Int) == 4) = false := beq_eq_false_iff_ne.2 (by omega)
  have g5 : (((f : Nat) : Int) == 5) = false := beq_eq_false_iff_ne.2 (by omega)
  have g6 : (((f : Nat) : Int) == 6) = false := beq_eq_false_iff_ne.2 (by omega)
  have hr := HR.out
  by_cases hz : numM m f = 0
  · have HY := Lib.hid (HP.out.2 hz)
    rw [hz] at HN
    clear hf h4 h5 h6 hz hf3
    go_enter Try.func13, Try.ntmps13
    go_wp2_with (refine wpList_load_row rfl 32 (.tmp 2) rfl w.heap.size rfl 32 (mArr m (.slice ae m.ents.length ce) vn vh vl) (0, 0) _ hr Try.underlying32 rfl (by kernel_rfl) ?_)
    refine HN.out.mono ?_
    rintro e w1 ⟨rfl, hb1⟩
    go_wp2
    go_ret
    exact tells_yes HY.out (HB.out.trans (hb1.mono HB.out.size))
  · have HY : Hid (¬ zF m f) := Lib.hid (fun g => hz (HP.out.1 g))
    have e0 : (numM m f == 0) = false := beq_eq_false_iff_ne.2 hz
    clear hf h4 h5 h6 hz hf3
    go_enter Try.func13, Try.ntmps13
    go_wp2_with (refine wpList_load_row rfl 32 (.tmp 2) rfl w.heap.size rfl 32 (mArr m (.slice ae m.ents.length ce) vn vh vl) (0, 0) _ hr Try.underlying32 rfl (by kernel_rfl) ?_)
    refine HN.out.mono ?_
    rintro e w1 ⟨rfl, hb1⟩
    go_wp2
    go_ret
    exact tells_no HY.out (HB.out.trans (hb1.mono HB.out.size))
end Ms
end Go.Proofs.Yteapccniloednaa
