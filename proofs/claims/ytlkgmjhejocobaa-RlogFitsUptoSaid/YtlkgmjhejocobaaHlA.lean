/- What lasts at first, and the laws' helper live. No condition. -/
import Derived.Test.YtlkgmjhejocobaaDoQ
namespace Go.Proofs.Ytlkgmjhejocobaa
open Go.ChangeShapes Go.WideShapes Go.ChangeAt Go.RowKit Go.Deep
set_option linter.unusedVariables false
set_option maxRecDepth 100000
namespace Rc
open Hd Nv
def zeroH : Har := ⟨0, 0, 0, ⟨0, 0, [1], ⟨2, 1, [], []⟩⟩, []⟩
def zero3 : Har := ⟨3, 0, 0, ⟨0, 0, [1], ⟨2, 1, [], []⟩⟩, []⟩
def r3 : RecR := ⟨1, 0, 3, 0, 0, zEntV, zShoV⟩
theorem zeroH_ok : hardOk zeroH := by
  refine ⟨by decide, ⟨by decide, ⟨by decide, by decide, by decide, ⟨by decide, fun j y hj hy => ?_⟩, fun j y hj hy => ?_⟩, by decide, fun j y hj hy => ?_⟩, by decide, by decide, ?_, by decide, by decide, by decide, by decide⟩
  · simp [zeroH] at hy
  · simp [zeroH] at hy
  · simp [zeroH] at hy
  · exact fun j y hj hy => by simp [zeroH] at hy
theorem zero3_ok : hardOk zero3 := by
  refine ⟨by decide, ⟨by decide, ⟨by decide, by decide, by decide, ⟨by decide, fun j y hj hy => ?_⟩, fun j y hj hy => ?_⟩, by decide, fun j y hj hy => ?_⟩, by decide, by decide, ?_, by decide, by decide, by decide, by decide⟩
  · simp [zero3] at hy
  · simp [zero3] at hy
  · simp [zero3] at hy
  · exact fun j y hj hy => by simp [zero3] at hy
theorem zero_do : doH zeroH r3 = zero3 := rfl
theorem zero_can : can zeroH r3 := ⟨zeroH_ok, ⟨rfl, rfl, rfl, rfl, ⟨rfl, rfl, rfl, rfl, rfl, rfl, rfl, rfl, rfl⟩, ⟨rfl, rfl, rfl, rfl, rfl, rfl, rfl⟩, .inl ⟨rfl, by decide⟩⟩, (by decide : (0 : Int) < 3), zero3_ok⟩
theorem zero_fits : IsHard.fits zeroH := ⟨⟨by decide, by decide, by decide⟩, by decide, fun x hx => by simp [zeroH] at hx⟩
theorem r3_fits : IsRec.fits r3 := ⟨(by decide : (0 : Nat) * 8 ≤ 140737488351232), ⟨by decide, by decide, by decide⟩⟩
theorem r3_is (w : World) : IsRec w (.agg (rArr r3 (.slice none 0 0) (.slice none 0 0) (.slice none 0 0) (.slice none 0 0))) r3 :=
  ⟨_, _, _, _, rfl, ⟨Cm.sl_nil _ _, Cm.sl_nil _ _, SlR.nil _, SlR.nil _⟩, by decide, by decide, by decide, by decide, by decide, zEnt_wf, zSho_wf⟩
theorem zero_w : HarW zeroH := ⟨⟨by decide, by decide, by decide, by decide, by decide, by decide, by decide, by simp [zeroH], by simp [zeroH]⟩, by simp [zeroH]; decide⟩
/-- sizes stay in bounds -/
def FitsN (N : Nat) (h : Har) : Prop := IsShot.fits h.shot ∧ h.log.length ≤ N ∧ ∀ x ∈ h.log, IsCmd.fits x.cmd
theorem FitsN.fits {N : Nat} {h : Har} (f : FitsN N h) (hN : N * 88 ≤ 140737488351232) : IsHard.fits h := ⟨f.1, by have := f.2.1; omega, f.2.2⟩
theorem behindL_sub {h : Har} {s : Sho} : (behindL h s).length ≤ h.log.length ∧ ∀ x ∈ behindL h s, x ∈ h.log := by
  unfold behindL
  split
  · exact ⟨Nat.zero_le _, fun x hx => by simp at hx⟩
  · split
    · exact ⟨by rw [List.length_drop]; omega, fun x hx => List.mem_of_mem_drop hx⟩
    · exact ⟨Nat.zero_le _, fun x hx => by simp at hx⟩
theorem doH_fits {N : Nat} {h : Har} {r : RecR} (f : FitsN N h) (g : IsRec.fits r) : FitsN (N + 1) (doH h r) := by
  obtain ⟨f1, f2, f3⟩ := f
  unfold doH
  split
  · exact ⟨f1, Nat.le_succ_of_le f2, f3⟩
  · split
    · exact ⟨f1, Nat.le_succ_of_le f2, f3⟩
    · split
      · refine ⟨f1, by simp only [List.length_append, List.length_cons, List.length_nil]; omega, fun x hx => ?_⟩
        rcases List.mem_append.1 hx with hx | hx
        · exact f3 x hx
        · simp only [List.mem_cons, List.not_mem_nil, or_false] at hx
          subst hx
          exact g.1
      · split
        · exact ⟨f1, Nat.le_trans (by simp only [List.length_take]; omega) (Nat.le_succ_of_le f2), fun x hx => f3 x (List.mem_of_mem_take hx)⟩
        · exact ⟨g.2, Nat.le_succ_of_le (Nat.le_trans behindL_sub.1 f2), fun x hx => f3 x (behindL_sub.2 x hx)⟩
def GivesZero (w : World) (e : Ending) (w' : World) : Prop := ∃ v, e = .returned v ∧ IsHard w' v zeroH ∧ Below w.heap.size w w'
set_option maxHeartbeats 2000000 in
theorem zero_any (w : World) : Calls Try.prog 31 #[] w (GivesZero w) := by
  go_enter Try.func31, Try.ntmps31
  go_wp2
  have hA := heap_alloc2_old w (.cells (hArr zeroH (.slice (some ⟨w.heap.size + 1, 0, none⟩) 1 1) (.slice none 0 0) (.slice none 0 0) (.slice none 0 0)) 43 (0, 0)) (.cells #[.int .i64 1] 3 (0, 0))
  have hB : Below w.heap.size w ((w.alloc (.cells (hArr zeroH (.slice (some ⟨w.heap.size + 1, 0, none⟩) 1 1) (.slice none 0 0) (.slice none 0 0) (.slice none 0 0)) 43)).alloc (.cells #[.int .i64 1] 3)) := ((Below.refl _ _).alloc (Nat.le_refl _) _).alloc (by simp) _
  have hN : Sl .i64 ((w.alloc (.cells (hArr zeroH (.slice (some ⟨w.heap.size + 1, 0, none⟩) 1 1) (.slice none 0 0) (.slice none 0 0) (.slice none 0 0)) 43)).alloc (.cells #[.int .i64 1] 3)) (.slice (some ⟨w.heap.size + 1, 0, none⟩) 1 1) [1] :=
    Sl.newAt _ _ (by simp) _ [1] rfl rfl (Nat.le_refl _) (by decide) (by decide)
  have hG : GivesZero w (.returned (.agg (hArr zeroH (.slice (some ⟨w.heap.size + 1, 0, none⟩) 1 1) (.slice none 0 0) (.slice none 0 0) (.slice none 0 0)))) ((w.alloc (.cells (hArr zeroH (.slice (some ⟨w.heap.size + 1, 0, none⟩) 1 1) (.slice none 0 0) (.slice none 0 0) (.slice none 0 0)) 43)).alloc (.cells #[.int .i64 1] 3)) :=
    ⟨_, rfl, ⟨_, _, _, _, rfl, hN, SlR.nil _, SlR.nil _, IsLog.nil _, zero_w.1⟩, hB⟩
  exact bodyPost_ret (v := .agg (hArr zeroH (.slice (some ⟨w.heap.size + 1, 0, none⟩) 1 1) (.slice none 0 0) (.slice none 0 0) (.slice none 0 0))) (results_cell_row rfl _ _ w.heap.size 43 _ (0, 0) _ rfl hA Try.underlying43 rfl (by kernel_rfl)) rfl hG
/-- lists in their places -/
theorem OwnH.forms {w : World} {B : Nat} {vn vh vl vg : Value} {h : Har} (o : OwnH w B vn vh vl vg h) (hw : HarW h) : ∃ a1 c1 a2 c2 a3 c3 a4 c4, vn = .slice a1 h.shot.nodes.length c1 ∧ vh = .slice a2 h.shot.led.held.length c2 ∧ vl = .slice a3 h.shot.led.last.length c3 ∧ vg = .slice a4 h.log.length c4 := by
  obtain ⟨a1, c1, e1, -⟩ := o.1.sl hw.2
  obtain ⟨a2, c2, e2, -⟩ := o.2.1.sl heldC_len
  obtain ⟨a3, c3, e3, -⟩ := o.2.2.1.sl lastC_len
  obtain ⟨a4, c4, e4, -⟩ := IsLog.len o.2.2.2.log
  exact ⟨a1, c1, a2, c2, a3, c3, a4, c4, e1, e2, e3, e4⟩
set_option maxHeartbeats 2000000 in
theorem live_any (w : World) : Calls Try.prog 27 #[] w fun e w' => e = .returned (.bool true) ∧ Below w.heap.size w w' := by
  go_enter Try.func27, Try.ntmps27
  go_wp2_with fail
  refine (zero_any _).mono ?_
  rintro e w1 ⟨v1, rfl, hh, hb1⟩
  go_wp2_with fail
  refine (do_any zeroH _ r3 _ _ hh zero_fits (r3_is _) r3_fits).mono ?_
  rintro e w2 ⟨z, h', vn, vh, vl, vg, rfl, hz, own, hw, hb2⟩
  obtain ⟨rfl, rfl⟩ : z = 0 ∧ h' = zero3 := by
    rcases hz with ⟨a, -, c⟩ | ⟨-, b, -⟩
    · exact ⟨a, c.trans zero_do⟩
    · exact absurd zero_can b
  obtain ⟨a1, c1, a2, c2, a3, c3, a4, c4, rfl, rfl, rfl, rfl⟩ := OwnH.forms own hw
  have HB := Lib.hid (hb1.trans (hb2.mono hb1.size))
  have hst : (w2.alloc (.cells zH 43)).heap[w2.heap.size]? = some (.cells zH 43 (0, 0)) := heap_alloc_new _ _
  have hrow := setRow_heap _ _ _ (hArr zero3 (.slice a1 zero3.shot.nodes.length c1) (.slice a2 zero3.shot.led.held.length c2) (.slice a3 zero3.shot.led.last.length c3) (.slice a4 zero3.log.length c4)) _ _ hst
  have hbw : Below w2.heap.size w2 ((w2.alloc (.cells zH 43)).setRow w2.heap.size (hArr zero3 (.slice a1 zero3.shot.nodes.length c1) (.slice a2 zero3.shot.led.held.length c2) (.slice a3 zero3.shot.led.last.length c3) (.slice a4 zero3.log.length c4))) := Ld.below_row ((Below.refl _ _).alloc (Nat.le_refl _) _) (Nat.le_refl _) _
  have HBW := Lib.hid (HB.out.trans (hbw.mono HB.out.size))
  have c0 := (cell_of_row _ _ 0 _ _ _ hrow).trans rfl
  clear hz own hw hb1 hb2 hh hrow hbw
  go_wp2_with ((with_reducible refine wpList_store_row rfl 43 (.tmp 1) (.tmp 7) rfl w2.heap.size (hArr zero3 (.slice a1 zero3.shot.nodes.length c1) (.slice a2 zero3.shot.led.held.length c2) (.slice a3 zero3.shot.led.last.length c3) (.slice a4 zero3.log.length c4)) rfl rfl 43 _ hst (by kernel_rfl) rfl (hArr_one _ _ _ _ _ _ _ _ _ _ _ _ _) ?_))
  go_ret
  exact ⟨rfl, HBW.out⟩
end Rc
end Go.Proofs.Ytlkgmjhejocobaa
