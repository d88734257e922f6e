/- Where a node's last request stands: slices.BinarySearchFunc over the rows of Last. No condition. -/
import Derived.Test.YtgbblegcjladaaaLaB
import Derived.Test.YtgbblegcjladaaaLdB
namespace Go.Proofs.Ytgbblegcjladaaa
open Go.ChangeShapes Go.WideShapes Go.ChangeAt Go.RowKit
set_option linter.unusedVariables false
set_option maxRecDepth 100000
namespace La
open Ld Cm

abbrev lastA (r : LastR) : Array Value := #[.int .i64 r.node, .int .u64 r.boot, .int .u64 r.seq, .int .i64 r.code, .int .i64 r.token, .int .u64 r.serial]
def Above (n : Int) (xs : List LastR) (j : Nat) : Prop := ∀ k x, xs[k]? = some x → j ≤ k → n ≤ x.node
def Under (n : Int) (xs : List LastR) (i : Nat) : Prop := ∀ k x, xs[k]? = some x → k < i → x.node < n
theorem pos_eq {n : Int} {xs : List LastR} {i : Nat} (hi : i ≤ xs.length) (h1 : Under n xs i) (h2 : Above n xs i) : posL n xs = i := by
  rcases Nat.lt_trichotomy (posL n xs) i with h | h | h
  · have h3 := pos_at (rgetD (by omega : posL n xs < xs.length))
    have h4 := h1 _ _ (rgetD (by omega : posL n xs < xs.length)) h
    omega
  · exact h
  · have hl := pos_le n xs
    have h3 := pos_ahead (n := n) (l := xs) xs[i] (List.mem_take_iff_getElem.2 ⟨i, by omega, rfl⟩)
    have h4 := h2 i _ (rgetD (by omega)) (Nat.le_refl _)
    omega
theorem under_step {n : Int} {xs : List LastR} {h : Nat} {x : LastR} (hp : xs.Pairwise fun x y => x.node < y.node) (hx : xs[h]? = some x) (hn : x.node < n) : Under n xs (h + 1) := by
  intro k y hy hk
  obtain ⟨h1, rfl⟩ := List.getElem?_eq_some_iff.1 hx
  obtain ⟨h2, rfl⟩ := List.getElem?_eq_some_iff.1 hy
  rcases Nat.lt_or_ge k h with h3 | h3
  · have := List.pairwise_iff_getElem.1 hp k h h2 h1 h3; omega
  · obtain rfl : k = h := by omega
    exact hn
theorem above_step {n : Int} {xs : List LastR} {h : Nat} {x : LastR} (hp : xs.Pairwise fun x y => x.node < y.node) (hx : xs[h]? = some x) (hn : n ≤ x.node) : Above n xs h := by
  intro k y hy hk
  obtain ⟨h1, rfl⟩ := List.getElem?_eq_some_iff.1 hx
  obtain ⟨h2, rfl⟩ := List.getElem?_eq_some_iff.1 hy
  rcases Nat.lt_or_ge h k with h3 | h3
  · have := List.pairwise_iff_getElem.1 hp h k h1 h2 h3; omega
  · obtain rfl : h = k := by omega
    exact hn
def hasN (n : Int) (xs : List LastR) : Bool := decide ((xs[posL n xs]?.map LastR.node) = some n)
def Found (n : Int) (xs : List LastR) (w : World) (e : Ending) (w' : World) : Prop := e = .returned (.tuple #[.int .i64 (posL n xs), .bool (hasN n xs)]) ∧ Below w.heap.size w w'

end La
end Go.Proofs.Ytgbblegcjladaaa
