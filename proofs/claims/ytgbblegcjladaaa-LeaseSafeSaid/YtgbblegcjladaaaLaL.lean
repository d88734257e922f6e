/- What a command does to a ledger: ledger.Apply, whole. No condition but sizes. -/
import Derived.Test.YtgbblegcjladaaaLaK
namespace Go.Proofs.Ytgbblegcjladaaa
open Go.ChangeShapes Go.WideShapes Go.ChangeAt Go.RowKit Go.Lib
set_option linter.unusedVariables false
set_option maxRecDepth 100000
theorem results_cell3 {P : Program} {fn : Func} {p q a : Tmp} {ty ty2 : TypeId} (h : fn.results = #[.cell p ty, .cell q ty2, .tmp a]) (tmps : Array Value) (w : World) (g g2 : Nat) (t t2 : TypeId) (cs cs2 : Array Value) (fr fr2 : Nat × Nat) (d d2 : TypeDesc)
    (hp : tmps.getD p undef = .pointer (some ⟨g, 0, none⟩)) (hg : w.heap[g]? = some (.cells cs t fr))
    (hu : P.underlying ty = some d) (hd : (match d with | .struct _ | .array _ _ => true | _ => false) = true) (hi : (P.info? ty).map (·.size) = some cs.size)
    (hp2 : tmps.getD q undef = .pointer (some ⟨g2, 0, none⟩)) (hg2 : w.heap[g2]? = some (.cells cs2 t2 fr2))
    (hu2 : P.underlying ty2 = some d2) (hd2 : (match d2 with | .struct _ | .array _ _ => true | _ => false) = true) (hi2 : (P.info? ty2).map (·.size) = some cs2.size) {x : Value} (hx : tmps.getD a undef = x) :
    (results fn tmps).run P w = .ok (.tuple #[.agg cs, .agg cs2, x]) w := by
  subst hx
  have hp' : tmps[p]?.getD undef = .pointer (some ⟨g, 0, none⟩) := by simpa using hp
  have hp2' : tmps[q]?.getD undef = .pointer (some ⟨g2, 0, none⟩) := by simpa using hp2
  simp [results, h, hp', hp2', asAddr, run_loadVar_row w g t ty cs fr d hg hu hd hi, run_loadVar_row w g2 t2 ty2 cs2 fr2 d2 hg2 hu2 hd2 hi2]
namespace La
open Ld Cm
/-- what Apply hands back: rows that are the call's own, apart -/
def Applied (m : Led) (a : Ans) (z : Int) (w : World) (e : Ending) (w' : World) : Prop :=
  ∃ vh vl, e = .returned (.tuple #[.agg (lArr m vh vl), .agg #[.int .i64 a.code, .int .i64 a.token, .int .u64 a.serial], .int .i64 z]) ∧ OwnR 5 heldC 47 w' w.heap.size vh m.held ∧ OwnR 6 lastC 103 w' w.heap.size vl m.last ∧ (∀ k, vh.ownBlock = some k → vl.ownBlock ≠ some k) ∧ m.wf ∧ Below w.heap.size w w'
theorem applied_no {w w1 : World} {z : Int} (hb : Below w.heap.size w w1) (cs ds : Array Value) :
    Applied zLed zAns z w (.returned (.tuple #[.agg zArr, .agg #[.int .i64 0, .int .i64 0, .int .u64 0], .int .i64 z])) ((w1.setRow (w.heap.size + 2) cs).setRow (w.heap.size + 3) ds) :=
  ⟨.slice none 0 0, .slice none 0 0, rfl, OwnR.nil _ _ _, OwnR.nil _ _ _, fun k h => by simp [Value.ownBlock] at h, zLed_wf, Ld.below_row (Ld.below_row hb (by omega) _) (by omega) _⟩
theorem err_led {l : Led} {i : Int} {c : Cmd} (h : ¬ ledOk l) : errL l i c = 50 := by unfold errL; rw [if_pos h]
theorem err_cmd {l : Led} {i : Int} {c : Cmd} (h : ledOk l) (h2 : chkC c = false) : errL l i c = 40 := by unfold errL; rw [if_neg (fun k => k h), if_pos h2]
theorem err_arg {l : Led} {i : Int} {c : Cmd} (h : ledOk l) (h2 : chkC c = true) (h3 : i = 0) : errL l i c = 1 := by unfold errL; rw [if_neg (fun k => k h), if_neg (by rw [h2]; simp), if_pos h3]
theorem apply_bad {l : Led} {i : Int} {c : Cmd} {z : Int} (h : errL l i c = z) (hz : z ≠ 0) {w : World} {e : Ending} {w' : World} (g : Applied zLed zAns z w e w') : Applied (applyL l i c) (answerL l i c) (errL l i c) w e w' := by
  unfold applyL answerL
  rw [if_neg (by omega), if_neg (by omega), h]
  exact g
theorem apply_good {l : Led} {i : Int} {c : Cmd} (h : ledOk l) (h2 : chkC c = true) (h3 : i ≠ 0) {w : World} {e : Ending} {w' : World} (g : Applied (doL l i c).1 (doL l i c).2 0 w e w') : Applied (applyL l i c) (answerL l i c) (errL l i c) w e w' := by
  have h0 := err_zero.2 ⟨h, h2, h3⟩
  unfold applyL answerL
  rw [if_pos h0, if_pos h0, h0]
  exact g
theorem zArr_one : zArr.all (·.oneCell') = true := lArr_one zLed none none 0 0 0 0
theorem lArr_one' (l : Led) (vh vl : Value) (h : vh.oneCell' = true) (h2 : vl.oneCell' = true) : (lArr l vh vl).all (·.oneCell') = true := by
  simp [Value.oneCell'] at *; exact ⟨h, h2⟩

theorem row_cells4 {w : World} {g : Nat} {t : TypeId} {c0 c1 c2 c3 : Value} (h : w.heap[g]? = some (.cells #[c0, c1, c2, c3] t (0, 0))) (a b c d : Value) : (w.setCells g 0 [a, b, c, d]).heap[g]? = some (.cells #[a, b, c, d] t (0, 0)) := by
  show ((((w.setCell ⟨g, 0, none⟩ a).setCell ⟨g, 1, none⟩ b).setCell ⟨g, 2, none⟩ c).setCell ⟨g, 3, none⟩ d).heap[g]? = _
  rw [heap_setCell_same _ g 3 _ _ d (heap_setCell_same _ g 2 _ _ c (heap_setCell_same _ g 1 _ _ b (heap_setCell_same _ g 0 _ _ a h)))]; rfl
theorem row_cells3 {w : World} {g : Nat} {t : TypeId} {c0 c1 c2 : Value} (h : w.heap[g]? = some (.cells #[c0, c1, c2] t (0, 0))) (a b c : Value) : (w.setCells g 0 [a, b, c]).heap[g]? = some (.cells #[a, b, c] t (0, 0)) := by
  show (((w.setCell ⟨g, 0, none⟩ a).setCell ⟨g, 1, none⟩ b).setCell ⟨g, 2, none⟩ c).heap[g]? = _
  rw [heap_setCell_same _ g 2 _ _ c (heap_setCell_same _ g 1 _ _ b (heap_setCell_same _ g 0 _ _ a h))]; rfl

end La
end Go.Proofs.Ytgbblegcjladaaa
