/- Ls.KR: slices.Insert of one element, slices.Clone, slices.Delete of one element (those that the program has). No condition but sizes. (Printed by wip/tools/ins.py.) -/
import Derived.Test.YtgbblegcjladaaaIns
import Derived.Test.YtgbblegcjladaaaLsA
import Derived.WalkKit
import Derived.Deep.LoopGhost
import Derived.Lib.SlicesDelete
import Derived.Deep.AppendLies
import Derived.Shelf.RegionOpenPlain
namespace Go.Proofs.Ytgbblegcjladaaa
open Go.ChangeShapes Go.WideShapes Go.ChangeAt Go.RowKit Go.Deep
set_option linter.unusedVariables false
set_option maxRecDepth 100000
set_option linter.unusedSimpArgs false
namespace Ik
abbrev eT : TypeId := 106
abbrev sT : TypeId := 95
abbrev iT : TypeId := 3
theorem size_eT : (Try.prog.info? eT).map (·.size) = some 3 := by kernel_rfl
theorem flat_one (xs : List Ls.KR) : ∀ u ∈ xs.flatMap Ls.krC, u.oneCell' = true := fun u hu => by
  obtain ⟨y, _, hy⟩ := List.mem_flatMap.1 hu
  exact Ls.krC_one y u hy
theorem flat_drop (xs : List Ls.KR) : ∀ i, (xs.flatMap Ls.krC).drop (i * 3) = (xs.drop i).flatMap Ls.krC := by
  induction xs with
  | nil => intro i; simp
  | cons x xs ih =>
    intro i
    cases i with
    | zero => simp
    | succ i =>
      rw [List.drop_succ_cons, ← ih i, List.flatMap_cons, Nat.add_mul, Nat.one_mul, Nat.add_comm, List.drop_append, Ls.krC_len, List.drop_of_length_le (by rw [Ls.krC_len]; omega), List.nil_append]
      congr 1
      omega
theorem flat_take (xs : List Ls.KR) : ∀ i, (xs.flatMap Ls.krC).take (i * 3) = (xs.take i).flatMap Ls.krC := by
  induction xs with
  | nil => intro i; simp
  | cons x xs ih =>
    intro i
    cases i with
    | zero => simp
    | succ i =>
      rw [List.take_succ_cons, List.flatMap_cons, List.flatMap_cons, ← ih i, Nat.add_mul, Nat.one_mul, List.take_append, Ls.krC_len, List.take_of_length_le (by rw [Ls.krC_len]; omega)]
      congr 2
/-- a row that is known whole, and what stands in it -/
def Row (w : World) (g cap : Nat) (cur : List Value) (xs : List Ls.KR) : Prop := w.heap[g]? = some (.cells cur.toArray eT (0, 0)) ∧ cur.length = cap * 3 ∧ xs.length ≤ cap ∧ cap ≤ 9223372036854775807 ∧ cur.take (xs.length * 3) = xs.flatMap Ls.krC
theorem Row.own {w : World} {g cap B : Nat} {cur : List Value} {xs : List Ls.KR} (h : Row w g cap cur xs) (hB : B ≤ g) : OwnR 3 Ls.krC eT w B (.slice (some ⟨g, 0, none⟩) xs.length cap) xs :=
  ⟨flat_len Ls.krC_len xs, .inr ⟨g, cap, cur.toArray, rfl, hB, h.1, h.2.2.1, by unfold maxLen; exact h.2.2.2.1, by simpa using h.2.1, by simpa using h.2.2.2.2⟩⟩
theorem Row.of {w : World} {B : Nat} {v : Value} {xs : List Ls.KR} (h : OwnR 3 Ls.krC eT w B v xs) : (v = .slice none 0 0 ∧ xs = []) ∨ ∃ g cap cur, v = .slice (some ⟨g, 0, none⟩) xs.length cap ∧ B ≤ g ∧ Row w g cap cur xs := by
  rcases h.2 with ⟨rfl, h0⟩ | ⟨g, cap, cur, rfl, hg, hh, hle, hcm, hsz, htk⟩
  · exact .inl ⟨rfl, List.eq_nil_of_length_eq_zero h0⟩
  · exact .inr ⟨g, cap, cur.toList, rfl, hg, by simpa using hh, by simpa using hsz, hle, by unfold maxLen at hcm; exact hcm, htk⟩
theorem Row.cells {w : World} {g cap : Nat} {cur : List Value} {xs : List Ls.KR} (h : Row w g cap cur xs) (k : Nat) : ∀ j u, ((xs.drop k).flatMap Ls.krC)[j]? = some u → w.cell? ((⟨g, k * 3, none⟩ : Addr).add j) = some u := by
  intro j u hu
  obtain ⟨h1, h2, h3, h4, h5⟩ := h
  rw [add_plain, cell_of_row w g _ _ _ _ h1]
  rw [← flat_drop, ← h5, List.getElem?_drop, List.getElem?_take] at hu
  split at hu
  · simpa using hu
  · cases hu

def Cloned (xs : List Ls.KR) (w : World) (e : Ending) (w' : World) : Prop := ∃ u, e = .returned u ∧ OwnR 3 Ls.krC eT w' w.heap.size u xs ∧ Below w.heap.size w w'
theorem own_new (w : World) (g : Nat) (hg : w.heap.size = g) {B : Nat} (hB : B ≤ g) : OwnR 3 Ls.krC eT (w.alloc (.cells #[] eT)) B (.slice (some ⟨g, 0, none⟩) 0 0) ([] : List Ls.KR) := by
  subst hg
  exact ⟨rfl, .inr ⟨w.heap.size, 0, #[], rfl, hB, heap_alloc_new _ _, Nat.le_refl _, Nat.zero_le _, rfl, rfl⟩⟩
set_option maxHeartbeats 1000000 in
theorem clone_any (xs : List Ls.KR) (v : Value) (w : World) (h : SlR 3 Ls.krC w v xs) (hb8 : xs.length * 24 ≤ 140737488351232) :
    Calls Try.prog 47 #[v] w (Cloned xs w) := by
  have hml := h.len
  have HS := Lib.hid (fun A => h.below ((Below.refl w.heap.size w).alloc (Nat.le_refl _) (.cells A eT)) (Nat.le_refl _))
  obtain ⟨a, cap, rfl, h1, h2, h4⟩ := h
  rcases h4 with ⟨rfl, rfl, hnil⟩ | ⟨b, off, sp, rfl, h5⟩
  · subst hnil
    clear HS
    have hq : ∀ w' : World, (binOp BinOp.eql sT (.slice none 0 0) (.slice none 0 0)).run Try.prog w' = .ok (.bool true) w' := fun _ => by first | kernel_rfl | rfl
    go_enter Try.func47, Try.ntmps47
    go_wp2
    go_ret
    exact ⟨_, rfl, OwnR.nil _ _ _, Below.refl _ _⟩
  · clear h5
    have hq : ∀ w' : World, (binOp BinOp.eql sT (.slice (some ⟨b, off, sp⟩) xs.length cap) (.slice none 0 0)).run Try.prog w' = .ok (.bool false) w' := fun _ => by first | kernel_rfl | rfl
    go_enter Try.func47, Try.ntmps47
    go_wp2_with (at_builtin; (refine appR Ls.krC_len Ls.krC_one Try.underlying95 rfl (by decide) Ls.info_kr rfl _ _ rfl w.heap.size _ [] rfl (own_new w w.heap.size rfl (Nat.le_refl _)) _ xs rfl (HS.out _) (by simpa using hml) (by simp; omega) (by simp) ?_; intro v1 w1 hown1 hb1; rw [List.nil_append] at hown1))
    go_ret
    exact ⟨_, rfl, hown1, ((Below.refl _ _).alloc (Nat.le_refl _) _).trans hb1⟩
end Ik
end Go.Proofs.Ytgbblegcjladaaa
