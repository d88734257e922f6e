/- A snapshot's bytes: shot.Encode. No condition. -/
import Derived.Test.YtpdhndldfmhaeaaEcA
import Derived.Deep.MidRow
namespace Go.Proofs.Ytpdhndldfmhaeaa
open Go.ChangeShapes Go.WideShapes Go.ChangeAt Go.RowKit Go.Deep
set_option linter.unusedVariables false
set_option maxRecDepth 100000
namespace Sc
open Cm Nm Sh
abbrev zLE : Array Value := #[.int .i64 0, .int .u64 0, .slice none 0 0, .slice none 0 0]
abbrev zHE : Array Value := #[.int .i64 0, .int .i64 0, .int .u64 0, .int .u64 0, .int .u64 0]
abbrev zLA : Array Value := #[.int .i64 0, .int .u64 0, .int .u64 0, .int .i64 0, .int .i64 0, .int .u64 0]
theorem heldA_one (x : Held) : (heldC x).toArray.all (·.oneCell') = true := by simp [heldC, Value.oneCell']
theorem lastA_one (x : LastR) : (lastC x).toArray.all (·.oneCell') = true := by simp [lastC, Value.oneCell']
theorem lArr_one (l : Led) (a : Option Addr) (i j : Nat) (b : Option Addr) (k m : Nat) : (lArr l (.slice a i j) (.slice b k m)).all (·.oneCell') = true := by simp [Value.oneCell']
theorem heldsNs_take {l : List Held} {k : Nat} {n : Int} (h : n ∈ heldsNs (l.take k)) : n ∈ heldsNs l := by
  obtain ⟨x, hx, hm⟩ := List.mem_flatMap.1 h
  exact List.mem_flatMap.2 ⟨x, List.mem_of_mem_take hx, hm⟩
theorem lastsNs_take {l : List LastR} {k : Nat} {n : Int} (h : n ∈ lastsNs (l.take k)) : n ∈ lastsNs l := by
  obtain ⟨x, hx, hm⟩ := List.mem_flatMap.1 h
  exact List.mem_flatMap.2 ⟨x, List.mem_of_mem_take hx, hm⟩
theorem led_range {w : World} {g : Nat} {s : Sho} {vn vh vl : Value} (h : w.heap[g]? = some (.cells (sArr s vn vh vl) 30 (0, 0))) : w.rangeAt g 3 (lArr s.led vh vl).toList := fun j v hv => by
  rw [cell_of_row w g (3 + j) _ _ _ h, ← hv]
  match j with
  | 0 => rfl
  | 1 => rfl
  | 2 => rfl
  | 3 => rfl
  | j + 4 => simp; omega
/-- what Encode answers: bytes of the call's own, or none -/
def GivesB (s : Sho) (w : World) (e : Ending) (w' : World) : Prop := ∃ v z bs, e = .returned (.tuple #[v, .int .i64 z]) ∧ ((z = 0 ∧ shotOk s ∧ bs = shotB s) ∨ (z = 60 ∧ ¬ shotOk s ∧ bs = [])) ∧ Own w' w.heap.size v bs ∧ Below w.heap.size w w'
end Sc
end Go.Proofs.Ytpdhndldfmhaeaa
