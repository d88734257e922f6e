/- Frm: slices.Insert of one element, slices.Clone, slices.Delete of one element (those that the program has). No condition but sizes. (Printed by wip/tools/ins.py.) -/
import Derived.Test.YtdakkjpejhlciaaSlG
import Derived.Test.YtdakkjpejhlciaaMuB
import Derived.WalkKit
import Derived.Deep.LoopGhost
import Derived.Lib.SlicesDelete
import Derived.Deep.AppendLies
import Derived.Shelf.RegionOpenPlain
namespace Go.Proofs.Ytdakkjpejhlciaa
open Go.ChangeShapes Go.WideShapes Go.ChangeAt Go.RowKit Go.Deep
set_option linter.unusedVariables false
set_option maxRecDepth 100000
set_option linter.unusedSimpArgs false
namespace If
abbrev eT : TypeId := 57
abbrev sT : TypeId := 29
abbrev iT : TypeId := 3
theorem size_eT : (Try.prog.info? eT).map (·.size) = some 2 := by kernel_rfl
theorem flat_one (xs : List Frm) : ∀ u ∈ xs.flatMap frmC, u.oneCell' = true := fun u hu => by
  obtain ⟨y, _, hy⟩ := List.mem_flatMap.1 hu
  exact frmC_one y u hy
theorem flat_drop (xs : List Frm) : ∀ i, (xs.flatMap frmC).drop (i * 2) = (xs.drop i).flatMap frmC := by
  induction xs with
  | nil => intro i; simp
  | cons x xs ih =>
    intro i
    cases i with
    | zero => simp
    | succ i =>
      rw [List.drop_succ_cons, ← ih i, List.flatMap_cons, Nat.add_mul, Nat.one_mul, Nat.add_comm, List.drop_append, frmC_len, List.drop_of_length_le (by rw [frmC_len]; omega), List.nil_append]
      congr 1
      omega
theorem flat_take (xs : List Frm) : ∀ i, (xs.flatMap frmC).take (i * 2) = (xs.take i).flatMap frmC := by
  induction xs with
  | nil => intro i; simp
  | cons x xs ih =>
    intro i
    cases i with
    | zero => simp
    | succ i =>
      rw [List.take_succ_cons, List.flatMap_cons, List.flatMap_cons, ← ih i, Nat.add_mul, Nat.one_mul, List.take_append, frmC_len, List.take_of_length_le (by rw [frmC_len]; omega)]
      congr 2
/-- a row that is known whole, and what stands in it -/
def Row (w : World) (g cap : Nat) (cur : List Value) (xs : List Frm) : Prop := w.heap[g]? = some (.cells cur.toArray eT (0, 0)) ∧ cur.length = cap * 2 ∧ xs.length ≤ cap ∧ cap ≤ 9223372036854775807 ∧ cur.take (xs.length * 2) = xs.flatMap frmC
theorem Row.own {w : World} {g cap B : Nat} {cur : List Value} {xs : List Frm} (h : Row w g cap cur xs) (hB : B ≤ g) : OwnR 2 frmC eT w B (.slice (some ⟨g, 0, none⟩) xs.length cap) xs :=
  ⟨flat_len frmC_len xs, .inr ⟨g, cap, cur.toArray, rfl, hB, h.1, h.2.2.1, by unfold maxLen; exact h.2.2.2.1, by simpa using h.2.1, by simpa using h.2.2.2.2⟩⟩
theorem Row.of {w : World} {B : Nat} {v : Value} {xs : List Frm} (h : OwnR 2 frmC eT w B v xs) : (v = .slice none 0 0 ∧ xs = []) ∨ ∃ g cap cur, v = .slice (some ⟨g, 0, none⟩) xs.length cap ∧ B ≤ g ∧ Row w g cap cur xs := by
  rcases h.2 with ⟨rfl, h0⟩ | ⟨g, cap, cur, rfl, hg, hh, hle, hcm, hsz, htk⟩
  · exact .inl ⟨rfl, List.eq_nil_of_length_eq_zero h0⟩
  · exact .inr ⟨g, cap, cur.toList, rfl, hg, by simpa using hh, by simpa using hsz, hle, by unfold maxLen at hcm; exact hcm, htk⟩
theorem Row.cells {w : World} {g cap : Nat} {cur : List Value} {xs : List Frm} (h : Row w g cap cur xs) (k : Nat) : ∀ j u, ((xs.drop k).flatMap frmC)[j]? = some u → w.cell? ((⟨g, k * 2, none⟩ : Addr).add j) = some u := by
  intro j u hu
  obtain ⟨h1, h2, h3, h4, h5⟩ := h
  rw [add_plain, cell_of_row w g _ _ _ _ h1]
  rw [← flat_drop, ← h5, List.getElem?_drop, List.getElem?_take] at hu
  split at hu
  · simpa using hu
  · cases hu

def Cloned (xs : List Frm) (w : World) (e : Ending) (w' : World) : Prop := ∃ u, e = .returned u ∧ OwnR 2 frmC eT w' w.heap.size u xs ∧ Below w.heap.size w w'
theorem own_new (w : World) (g : Nat) (hg : w.heap.size = g) {B : Nat} (hB : B ≤ g) : OwnR 2 frmC eT (w.alloc (.cells #[] eT)) B (.slice (some ⟨g, 0, none⟩) 0 0) ([] : List Frm) := by
  subst hg
  exact ⟨rfl, .inr ⟨w.heap.size, 0, #[], rfl, hB, heap_alloc_new _ _, Nat.le_refl _, Nat.zero_le _, rfl, rfl⟩⟩
set_option maxHeartbeats 1000000 in
theorem clone_any (xs : List Frm) (v : Value) (w : World) (h : SlR 2 frmC w v xs) (hb8 : xs.length * 24 ≤ 140737488351232) :
    Calls Try.prog 46 #[v] w (Cloned xs w) := by
  have hml := h.len
  have HS := Lib.hid (fun A => h.below ((Below.refl w.heap.size w).alloc (Nat.le_refl _) (.cells A eT)) (Nat.le_refl _))
  obtain ⟨a, cap, rfl, h1, h2, h4⟩ := h
  rcases h4 with ⟨rfl, rfl, hnil⟩ | ⟨b, off, sp, rfl, h5⟩
  · subst hnil
    clear HS
    have hq : ∀ w' : World, (binOp BinOp.eql sT (.slice none 0 0) (.slice none 0 0)).run Try.prog w' = .ok (.bool true) w' := fun _ => by first | kernel_rfl | rfl
    go_enter Try.func46, Try.ntmps46
    go_wp2
    go_ret
    exact ⟨_, rfl, OwnR.nil _ _ _, Below.refl _ _⟩
  · clear h5
    have hq : ∀ w' : World, (binOp BinOp.eql sT (.slice (some ⟨b, off, sp⟩) xs.length cap) (.slice none 0 0)).run Try.prog w' = .ok (.bool false) w' := fun _ => by first | kernel_rfl | rfl
    go_enter Try.func46, Try.ntmps46
    go_wp2_with (at_builtin; (refine appR frmC_len frmC_one Try.underlying29 rfl (by decide) St.info_frm rfl _ _ rfl w.heap.size _ [] rfl (own_new w w.heap.size rfl (Nat.le_refl _)) _ xs rfl (HS.out _) (by simpa using hml) (by simp; omega) (by simp) ?_; intro v1 w1 hown1 hb1; rw [List.nil_append] at hown1))
    go_ret
    exact ⟨_, rfl, hown1, ((Below.refl _ _).alloc (Nat.le_refl _) _).trans hb1⟩
end If
end Go.Proofs.Ytdakkjpejhlciaa
