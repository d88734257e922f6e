/- A reader's query. No condition. -/
import Derived.Test.YtdakkjpejhlciaaStA
import Derived.Deep.QuietTactic
import Derived.BigQuiet
namespace Go.Proofs.Ytdakkjpejhlciaa
open Go.ChangeShapes Go.WideShapes Go.ChangeAt Go.RowKit
set_option linter.unusedVariables false
set_option maxRecDepth 100000
namespace St
theorem cells3 {w : World} {g : Nat} {a b c : Value} {t : TypeId} (h : w.heap[g]? = some (.cells #[a, b, c] t (0, 0))) : w.cell? ⟨g, 0, none⟩ = some a ∧ w.cell? ⟨g, 1, none⟩ = some b ∧ w.cell? ⟨g, 2, none⟩ = some c ∧ w.frozen? ⟨g, 0, none⟩ = false ∧ w.frozen? ⟨g, 1, none⟩ = false ∧ w.frozen? ⟨g, 2, none⟩ = false :=
  ⟨(cell_of_row w _ 0 _ _ _ h).trans rfl, (cell_of_row w _ 1 _ _ _ h).trans rfl, (cell_of_row w _ 2 _ _ _ h).trans rfl, frozen_of_row w _ 0 _ _ h, frozen_of_row w _ 1 _ _ h, frozen_of_row w _ 2 _ _ h⟩
theorem cells2 {w : World} {g : Nat} {a b : Value} {t : TypeId} (h : w.heap[g]? = some (.cells #[a, b] t (0, 0))) : w.cell? ⟨g, 0, none⟩ = some a ∧ w.cell? ⟨g, 1, none⟩ = some b ∧ w.frozen? ⟨g, 0, none⟩ = false ∧ w.frozen? ⟨g, 1, none⟩ = false :=
  ⟨(cell_of_row w _ 0 _ _ _ h).trans rfl, (cell_of_row w _ 1 _ _ _ h).trans rfl, frozen_of_row w _ 0 _ _ h, frozen_of_row w _ 1 _ _ h⟩
set_option maxHeartbeats 4000000 in
theorem query_any (B g : Nat) (s : Rst) (S : Option Nat) (w : World) (h : Rdr B w g s S) (hw : ∀ x ∈ s.text, (Lit.int .u8 x).wf = true) (hl : s.text.length ≤ 48) :
    Calls Try.prog 58 #[.pointer (some ⟨g, 0, none⟩)] w (StepR B g S (queryV s) w) := by
  have hgl := h.lt
  have hb1 : Below w.heap.size w (w.alloc (.cells #[.int .u8 0, .string ⟨#[]⟩] 57)) := (Below.refl _ _).alloc (Nat.le_refl _) _
  obtain ⟨vt, k1, k2, rfl, h4, h5⟩ := id h
  have HR1 : Hid (Rdr B (w.alloc (.cells #[.int .u8 0, .string ⟨#[]⟩] 57)) g s vt.ownBlock) := Lib.hid (h.below hb1)
  have h1 := (hb1.block g hgl).trans k1
  have h2 := k2.below hb1 (Nat.le_refl _)
  obtain ⟨d0, d1, d2, -, -, -⟩ := cells3 k1
  have HSL := Lib.hid (h2.sl hw)
  obtain ⟨at', ct, rfl, ht1, ht2, -⟩ := id HSL.out
  obtain ⟨c0, c1, c2, f0, f1, f2⟩ := cells3 h1
  have hz := heap_alloc_new w (.cells #[.int .u8 0, .string ⟨#[]⟩] 57)
  have HZ := Lib.hid hz
  have HX := Lib.hid (FarR.of_below (g := g) (S := (Value.slice at' s.text.length ct).ownBlock) hb1 (Nat.le_trans h5 (Nat.le_of_lt hgl)))
  have HB := Lib.hid h5
  have HBW : Hid (B ≤ w.heap.size) := Lib.hid (Nat.le_trans h5 (Nat.le_of_lt hgl))
  have HNS : Hid ((Value.slice at' s.text.length ct).ownBlock ≠ some w.heap.size) := Lib.hid (fun q => by have := (h.ltS _ q).2; omega)
  have hcv : ∀ n, (convert 37 9 (.slice at' s.text.length ct)).run Try.prog ((w.alloc (.cells #[.int .u8 0, .string ⟨#[]⟩] 57)).drewN n) = .ok (.string (strOfNums s.text)) ((w.alloc (.cells #[.int .u8 0, .string ⟨#[]⟩] 57)).drewN n) := fun n => run_str (HSL.out.below (B := (w.alloc (.cells #[.int .u8 0, .string ⟨#[]⟩] 57)).heap.size) ⟨rfl, rfl, rfl, Nat.le_refl _, fun _ _ => rfl⟩ (Nat.le_refl _))
  unfold maxLen at ht2
  have HG1 := Lib.hid h1
  clear h h1 h2 h4 hb1 hz k1 k2
  by_cases c : (s.text.length : Int) < s.want
  · have HQ : Hid (queryV s = (none, s)) := Lib.hid (by unfold queryV; rw [if_pos c])
    go_enter Try.func58, Try.ntmps58
    go_wp2
    go_quiet (fail)
    go_wp2
    refine bodyPost_ret (v := .tuple #[.agg #[.int .u8 0, .string ⟨#[]⟩], .bool false]) (results_cell2 rfl _ _ w.heap.size 57 _ (0, 0) _ rfl (two1 (two0 (drow _ HZ.out))) Try.underlying57 rfl (by kernel_rfl) rfl) rfl ?_
    rw [HQ.out]
    exact ⟨_, rfl, ((HR1.out.drewN _).cellNew (Nat.ne_of_lt hgl) HNS.out 0 _).cellNew (Nat.ne_of_lt hgl) HNS.out 1 _, NewS.refl, ((HX.out.drewN _).cellNew (Nat.le_refl _) HBW.out 0 _).cellNew (Nat.le_refl _) HBW.out 1 _⟩
  · have HQ : Hid (queryV s = (some (mkQ s.text), zero)) := Lib.hid (by unfold queryV; rw [if_neg c])
    have c' : s.want ≤ (s.text.length : Int) := by omega
    go_enter Try.func58, Try.ntmps58
    go_wp2
    go_quiet (fail)
    go_wp2
    have hne : w.heap.size ≠ g := by omega
    refine bodyPost_ret (v := .tuple #[.agg #[.int .u8 81, .string (strOfNums s.text)], .bool true]) (results_cell2 rfl _ _ w.heap.size 57 _ (0, 0) _ rfl (arow (two1 (two0 (crow (crow (crow (drow _ HZ.out) hne) hne) hne)))) Try.underlying57 rfl (by kernel_rfl) rfl) rfl ?_
    rw [HQ.out]
    exact ⟨none, rfl, ⟨.slice none 0 0, arow (crow (crow (thr2 (thr1 (thr0 (drow _ HG1.out)))) hne.symm) hne.symm), Own.nil _ _, rfl, by simp, HB.out⟩, .inr (fun q hq => by cases hq), ((((((HX.out.drewN _).setCell HB.out 0 _).setCell HB.out 1 _).setCell HB.out 2 _).cellNew (Nat.le_refl _) HBW.out 0 _).cellNew (Nat.le_refl _) HBW.out 1 _).alloc HBW.out _⟩
end St
end Go.Proofs.Ytdakkjpejhlciaa
