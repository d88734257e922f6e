/- slices.Clone of a []int. No condition but the list's size. -/
import Derived.Test.YtlkmdoddgfmnbaaNodI
import Derived.Laws.NewBlocks
namespace Go.Proofs.Ytlkmdoddgfmnbaa
open Go.ChangeShapes Go.WideShapes Go.ChangeAt Go.RowKit
set_option linter.unusedVariables false
set_option maxRecDepth 100000
namespace Cl
def Cloned (zs : List Int) (w : World) (e : Ending) (w' : World) : Prop := ∃ u, e = .returned u ∧ OwnI w' w.heap.size u zs ∧ Sl .i64 w' u zs ∧ Below w.heap.size w w'
set_option maxHeartbeats 1000000 in
theorem clone_any (zs : List Int) (v : Value) (w : World) (h : Sl .i64 w v zs) (hb8 : zs.length * 8 ≤ 140737488351232) :
    Calls Try.prog 60 #[v] w (Cloned zs w) := by
  have HWF := Lib.hid h.wf
  have hml := h.len
  have HS := Lib.hid (fun A => h.below ((Below.refl w.heap.size w).alloc (Nat.le_refl _) (.cells A 3)) (Nat.le_refl _))
  obtain ⟨a, cap, rfl, h1, h2, hwf, h4⟩ := h
  rcases h4 with ⟨rfl, rfl, hnil⟩ | ⟨b, off, sp, rfl, h5⟩
  · subst hnil
    clear HS
    have hq : ∀ w' : World, (binOp BinOp.eql 27 (.slice none 0 0) (.slice none 0 0)).run Try.prog w' = .ok (.bool true) w' := fun _ => by first | kernel_rfl | rfl
    go_enter Try.func60, Try.ntmps60
    go_wp2
    go_ret
    exact ⟨_, rfl, OwnK.nil _ _ _ _, (OwnK.nil .i64 3 w 0).sl (by simp), Below.refl _ _⟩
  · clear h5
    have hq : ∀ w' : World, (binOp BinOp.eql 27 (.slice (some ⟨b, off, sp⟩) zs.length cap) (.slice none 0 0)).run Try.prog w' = .ok (.bool false) w' := fun _ => by first | kernel_rfl | rfl
    go_enter Try.func60, Try.ntmps60
    go_wp2_with (at_builtin; (refine appI rfl _ _ rfl w.heap.size _ [] rfl (OwnK.newAt w w.heap.size rfl #[] [] rfl rfl (by decide) (Nat.le_refl _)) _ zs rfl (HS.out _) (by simp; omega) (by simp) ?_; intro v1 w1 hown1 hb1; rw [List.nil_append] at hown1))
    go_ret
    exact ⟨_, rfl, hown1, hown1.sl HWF.out, ((Below.refl _ _).alloc (Nat.le_refl _) _).trans hb1⟩
end Cl
end Go.Proofs.Ytlkmdoddgfmnbaa
