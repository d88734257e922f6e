/- A copy of a message; the document's Same of a message and itself. No condition. -/
import Derived.Test.YtlfaiemebfkajaaGreatDoorMsV
import Derived.Test.YtlfaiemebfkajaaGreatDoorEnM
import Derived.Test.YtlfaiemebfkajaaGreatDoorShS
import Derived.Test.YtlfaiemebfkajaaGreatDoorSmE
import Derived.WalkSpells
import Derived.OwnWalk
namespace Go.Proofs.YtlfaiemebfkajaaGreatDoor
open Go.ChangeShapes Go.WideShapes Go.ChangeAt Go.RowKit Go.Deep
set_option linter.unusedVariables false
set_option maxRecDepth 100000
namespace Ms
open Nv
theorem entsO_map {w w' : World} {B D : Nat} {ob : Option Nat} {rows : List ERow} (h : EntsO w B ob rows) (f : ∀ v zs, OwnK .i64 3 w B v zs → OwnK .i64 3 w' D v zs) : Ents w' rows :=
  fun r hr => ⟨(f _ _ (h r hr).1).sl (h r hr).2.2.1, (h r hr).2.1⟩
theorem mid16 {w2 : World} {g : Nat} {m : Mes} {ve vn vh vl : Value} (hh : w2.heap[g]? = some (.cells (mArr m ve vn vh vl) 33 (0, 0))) (un uh ul : Value) : (w2.setCells g 9 (sArr m.shot un uh ul).toList).heap[g]? = some (.cells (mArr m ve un uh ul) 33 (0, 0)) := by
  show (((((((w2.setCell ⟨g, 9, none⟩ (.int .u64 m.shot.index)).setCell ⟨g, 10, none⟩ (.int .u64 m.shot.term)).setCell ⟨g, 11, none⟩ un).setCell ⟨g, 12, none⟩ (.int .i64 m.shot.led.limit)).setCell ⟨g, 13, none⟩ (.int .u64 m.shot.led.next)).setCell ⟨g, 14, none⟩ uh).setCell ⟨g, 15, none⟩ ul).heap[g]? = _
  rw [heap_setCell_same _ g 15 _ _ ul (heap_setCell_same _ g 14 _ _ uh (heap_setCell_same _ g 13 _ _ (.int .u64 m.shot.led.next) (heap_setCell_same _ g 12 _ _ (.int .i64 m.shot.led.limit) (heap_setCell_same _ g 11 _ _ un (heap_setCell_same _ g 10 _ _ (.int .u64 m.shot.term) (heap_setCell_same w2 g 9 _ _ (.int .u64 m.shot.index) hh))))))]
  simp only [List.setIfInBounds_toArray, List.set_cons_zero, List.set_cons_succ]
theorem there16 {w2 : World} {g : Nat} {m : Mes} {ve vn vh vl : Value} (hh : w2.heap[g]? = some (.cells (mArr m ve vn vh vl) 33 (0, 0))) : w2.there g 9 7 := by
  intro j hj
  refine ⟨?_, frozen_of_row w2 g (9 + j) _ _ hh⟩
  rw [cell_of_row w2 g (9 + j) _ _ _ hh, Array.getElem?_eq_getElem (by simp; omega)]
  rfl
theorem store8 {w1 : World} {g : Nat} {m : Mes} {ve vn vh vl : Value} (hh : w1.heap[g]? = some (.cells (mArr m ve vn vh vl) 33 (0, 0))) (u : Value) : (w1.setCell ⟨g, 8, none⟩ u).heap[g]? = some (.cells (mArr m u vn vh vl) 33 (0, 0)) := by
  rw [heap_setCell_same w1 g 8 _ _ u hh]; rfl
theorem mArr_one (m : Mes) (a b c d : Option Addr) (i j k n p q r s : Nat) : (mArr m (.slice a i j) (.slice b k n) (.slice c p q) (.slice d r s)).all (·.oneCell') = true := by simp [Value.oneCell']
def GivesMsg (m : Mes) (w : World) (e : Ending) (w' : World) : Prop := ∃ v, e = .returned v ∧ IsMsg w' v m ∧ Below w.heap.size w w'
set_option maxHeartbeats 8000000 in
theorem same_any (m : Mes) (v u : Value) (w : World) (h : IsMsg w v m) (g : IsMsg w u m) : Calls Tryz.prog 8 #[v, u] w fun e w' => e = .returned (.bool true) ∧ Below w.heap.size w w' := by
  obtain ⟨ve, vn, vh, vl, rfl, -⟩ := id h
  obtain ⟨ue, un, uh, ul, rfl, -⟩ := id g
  obtain ⟨W, hW⟩ : ∃ q, (w.alloc (.cells (mArr m ve vn vh vl) 33)).alloc (.cells (mArr m ue un uh ul) 33) = q := ⟨_, rfl⟩
  have hb0 : Below w.heap.size w W := by rw [← hW]; exact ((Below.refl _ _).alloc (Nat.le_refl _) _).alloc (by simp) _
  have hA : W.heap[w.heap.size]? = some (.cells (mArr m ve vn vh vl) 33 (0, 0)) := by rw [← hW]; exact heap_alloc2_old _ _ _
  have hC : W.heap[w.heap.size + 1]? = some (.cells (mArr m ue un uh ul) 33 (0, 0)) := by rw [← hW]; exact heap_alloc2_new _ _ _
  have HL := Lib.hid ((IsMsg_log h).below hb0 (Nat.le_refl _))
  have GL := Lib.hid ((IsMsg_log g).below hb0 (Nat.le_refl _))
  have HI := Lib.hid ((IsMsg_shot h).below hb0 (Nat.le_refl _))
  have GI := Lib.hid ((IsMsg_shot g).below hb0 (Nat.le_refl _))
  obtain ⟨p0, p1, p2, p3, p4, p5, p6, p7, p8, -⟩ := cells16 hA
  obtain ⟨q0, q1, q2, q3, q4, q5, q6, q7, q8, -⟩ := cells16 hC
  have HB := Lib.hid hb0
  have HA := Lib.hid hA
  have HC := Lib.hid hC
  clear h g hb0 hA hC
  go_enter Tryz.func8, Tryz.ntmps8
  go_wp2_with fail
  refine (Hd.ents_same m.ents _ _ _ HL.out GL.out).mono ?_
  rintro e w1 ⟨rfl, hb1⟩
  have ra := shot_range ((hb1.block _ (Rc.lt_of_row8 HA.out)).trans HA.out)
  have rb := shot_range ((hb1.block _ (Rc.lt_of_row8 HC.out)).trans HC.out)
  have HB1 := Lib.hid (HB.out.trans (hb1.mono HB.out.size))
  have HI1 := Lib.hid (HI.out.below hb1 (Nat.le_refl _))
  have GI1 := Lib.hid (GI.out.below hb1 (Nat.le_refl _))
  clear hb1 p0 p1 p2 p3 p4 p5 p6 p7 p8 q0 q1 q2 q3 q4 q5 q6 q7 q8 hW
  go_wp2_with (first
    | (refine wpList_load_midG (by kernel_rfl) 31 (.tmp 67) rfl w.heap.size 9 rfl (sArr m.shot vn vh vl).toList _ ra Tryz.underlying31 rfl (by kernel_rfl) ?_)
    | (refine wpList_load_midG (by kernel_rfl) 31 (.tmp 69) rfl (w.heap.size + 1) 9 rfl (sArr m.shot un uh ul).toList _ rb Tryz.underlying31 rfl (by kernel_rfl) ?_))
  refine (Sh.same_any m.shot _ _ _ HI1.out GI1.out).mono ?_
  rintro e w2 ⟨rfl, hb2⟩
  go_wp2
  go_ret
  exact ⟨rfl, HB1.out.trans (hb2.mono HB1.out.size)⟩
end Ms
end Go.Proofs.YtlfaiemebfkajaaGreatDoor
