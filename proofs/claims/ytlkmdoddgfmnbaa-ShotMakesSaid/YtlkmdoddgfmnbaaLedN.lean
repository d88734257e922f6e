/- New ledgers: ledger.New and the document's own. No condition. -/
import Derived.Test.YtlkmdoddgfmnbaaSl
import Derived.Laws.Rows
import Derived.Laws.NewBlocks
namespace Go.Proofs.Ytlkmdoddgfmnbaa
open Go.ChangeShapes Go.WideShapes Go.ChangeAt Go.RowKit
set_option linter.unusedVariables false
set_option maxRecDepth 100000
theorem results_cell2 {P : Program} {fn : Func} {p a : Tmp} {ty : TypeId} (h : fn.results = #[.cell p ty, .tmp a]) (tmps : Array Value) (w : World) (g : Nat) (t : TypeId) (cs : Array Value) (fr : Nat × Nat) (d : TypeDesc)
    (hp : tmps.getD p undef = .pointer (some ⟨g, 0, none⟩)) (hg : w.heap[g]? = some (.cells cs t fr))
    (hu : P.underlying ty = some d) (hd : (match d with | .struct _ | .array _ _ => true | _ => false) = true) (hi : (P.info? ty).map (·.size) = some cs.size) {x : Value} (hx : tmps.getD a undef = x) :
    (results fn tmps).run P w = .ok (.tuple #[.agg cs, x]) w := by
  subst hx
  have hp' : tmps[p]?.getD undef = .pointer (some ⟨g, 0, none⟩) := by simpa using hp
  simp [results, h, hp', asAddr, run_loadVar_row w g t ty cs fr d hg hu hd hi]
namespace Ld

abbrev nilA (l n : Int) : Array Value := #[.int .i64 l, .int .u64 n, .slice none 0 0, .slice none 0 0]
def newL (k : Int) : Int := if 1 ≤ k ∧ k ≤ 65535 then k else 0
def newN (k : Int) : Int := if 1 ≤ k ∧ k ≤ 65535 then 1 else 0
def newE (k : Int) : Int := if 1 ≤ k ∧ k ≤ 65535 then 0 else 1
def New (k : Int) (w : World) (e : Ending) (w' : World) : Prop := e = .returned (.tuple #[.agg (nilA (newL k) (newN k)), .int .i64 (newE k)]) ∧ Below w.heap.size w w'

set_option maxHeartbeats 400000 in
theorem new_any (k : Int) (w : World) : Calls Try.prog 22 #[.int .i64 k] w (New k w) := by
  have hb0 : ∀ A, Below w.heap.size w (w.alloc (.cells A 26)) := fun A => (Below.refl _ _).alloc (Nat.le_refl _) _
  have HB := Lib.hid hb0
  clear hb0
  by_cases h : 1 ≤ k ∧ k ≤ 65535
  · have e1 : newL k = k := if_pos h
    have e2 : newN k = 1 := if_pos h
    have e3 : newE k = 0 := if_pos h
    have HE : Hid (New k w = fun e w' => e = .returned (.tuple #[.agg (nilA k 1), .int .i64 0]) ∧ Below w.heap.size w w') := Lib.hid (by unfold New; rw [e1, e2, e3])
    obtain ⟨h1, h2⟩ := h
    clear e1 e2 e3
    rw [HE.out]
    go_enter Try.func22, Try.ntmps22
    go_wp2
    exact bodyPost_ret (v := .tuple #[.agg (nilA k 1), .int .i64 0]) (results_cell2 rfl _ _ w.heap.size 26 _ (0, 0) _ rfl (heap_alloc_new _ _) Try.underlying26 rfl (by kernel_rfl) rfl) rfl ⟨rfl, HB.out _⟩
  · have e1 : newL k = 0 := if_neg h
    have e2 : newN k = 0 := if_neg h
    have e3 : newE k = 1 := if_neg h
    have HE : Hid (New k w = fun e w' => e = .returned (.tuple #[.agg (nilA 0 0), .int .i64 1]) ∧ Below w.heap.size w w') := Lib.hid (by unfold New; rw [e1, e2, e3])
    clear e1 e2 e3
    rw [HE.out]
    rcases (show k < 1 ∨ (1 ≤ k ∧ 65535 < k) by omega) with h1 | ⟨h1, h2⟩
    all_goals
      clear h
      go_enter Try.func22, Try.ntmps22
      go_wp2
      exact bodyPost_ret (v := .tuple #[.agg (nilA 0 0), .int .i64 1]) (results_cell2 rfl _ _ w.heap.size 26 _ (0, 0) _ rfl (heap_alloc_new _ _) Try.underlying26 rfl (by kernel_rfl) rfl) rfl ⟨rfl, HB.out _⟩

set_option maxHeartbeats 400000 in
theorem rnew_any (k : Int) (w : World) : Calls Try.prog 61 #[.int .i64 k] w (New k w) := by
  have hb0 : ∀ A, Below w.heap.size w (w.alloc (.cells A 26)) := fun A => (Below.refl _ _).alloc (Nat.le_refl _) _
  have HB := Lib.hid hb0
  clear hb0
  by_cases h : 1 ≤ k ∧ k ≤ 65535
  · have e1 : newL k = k := if_pos h
    have e2 : newN k = 1 := if_pos h
    have e3 : newE k = 0 := if_pos h
    have HE : Hid (New k w = fun e w' => e = .returned (.tuple #[.agg (nilA k 1), .int .i64 0]) ∧ Below w.heap.size w w') := Lib.hid (by unfold New; rw [e1, e2, e3])
    obtain ⟨h1, h2⟩ := h
    clear e1 e2 e3
    rw [HE.out]
    go_enter Try.func61, Try.ntmps61
    go_wp2
    exact bodyPost_ret (v := .tuple #[.agg (nilA k 1), .int .i64 0]) (results_cell2 rfl _ _ w.heap.size 26 _ (0, 0) _ rfl (heap_alloc_new _ _) Try.underlying26 rfl (by kernel_rfl) rfl) rfl ⟨rfl, HB.out _⟩
  · have e1 : newL k = 0 := if_neg h
    have e2 : newN k = 0 := if_neg h
    have e3 : newE k = 1 := if_neg h
    have HE : Hid (New k w = fun e w' => e = .returned (.tuple #[.agg (nilA 0 0), .int .i64 1]) ∧ Below w.heap.size w w') := Lib.hid (by unfold New; rw [e1, e2, e3])
    clear e1 e2 e3
    rw [HE.out]
    rcases (show k < 1 ∨ (1 ≤ k ∧ 65535 < k) by omega) with h1 | ⟨h1, h2⟩
    all_goals
      clear h
      go_enter Try.func61, Try.ntmps61
      go_wp2
      exact bodyPost_ret (v := .tuple #[.agg (nilA 0 0), .int .i64 1]) (results_cell2 rfl _ _ w.heap.size 26 _ (0, 0) _ rfl (heap_alloc_new _ _) Try.underlying26 rfl (by kernel_rfl) rfl) rfl ⟨rfl, HB.out _⟩

end Ld
end Go.Proofs.Ytlkmdoddgfmnbaa
