/- Letr: slices.Insert of one element, slices.Clone, slices.Delete of one element (those that the program has). No condition but sizes. (Printed by wip/tools/ins.py.) -/
import Derived.Test.YtgmndcfeifgapaaSlG
import Derived.Test.YtgmndcfeifgapaaNtA
import Derived.WalkKit
import Derived.Deep.LoopGhost
import Derived.Lib.SlicesDelete
import Derived.Deep.AppendLies
import Derived.Shelf.RegionOpenPlain
namespace Go.Proofs.Ytgmndcfeifgapaa
open Go.ChangeShapes Go.WideShapes Go.ChangeAt Go.RowKit Go.Deep
set_option linter.unusedVariables false
set_option maxRecDepth 100000
set_option linter.unusedSimpArgs false
namespace Iq
abbrev eT : TypeId := 31
abbrev sT : TypeId := 46
abbrev iT : TypeId := 3
theorem size_eT : (Try.prog.info? eT).map (·.size) = some 3 := by kernel_rfl
theorem flat_one (xs : List Letr) : ∀ u ∈ xs.flatMap letC, u.oneCell' = true := fun u hu => by
  obtain ⟨y, _, hy⟩ := List.mem_flatMap.1 hu
  exact letC_one y u hy
theorem flat_drop (xs : List Letr) : ∀ i, (xs.flatMap letC).drop (i * 3) = (xs.drop i).flatMap letC := by
  induction xs with
  | nil => intro i; simp
  | cons x xs ih =>
    intro i
    cases i with
    | zero => simp
    | succ i =>
      rw [List.drop_succ_cons, ← ih i, List.flatMap_cons, Nat.add_mul, Nat.one_mul, Nat.add_comm, List.drop_append, letC_len, List.drop_of_length_le (by rw [letC_len]; omega), List.nil_append]
      congr 1
      omega
theorem flat_take (xs : List Letr) : ∀ i, (xs.flatMap letC).take (i * 3) = (xs.take i).flatMap letC := by
  induction xs with
  | nil => intro i; simp
  | cons x xs ih =>
    intro i
    cases i with
    | zero => simp
    | succ i =>
      rw [List.take_succ_cons, List.flatMap_cons, List.flatMap_cons, ← ih i, Nat.add_mul, Nat.one_mul, List.take_append, letC_len, List.take_of_length_le (by rw [letC_len]; omega)]
      congr 2
/-- a row that is known whole, and what stands in it -/
def Row (w : World) (g cap : Nat) (cur : List Value) (xs : List Letr) : Prop := w.heap[g]? = some (.cells cur.toArray eT (0, 0)) ∧ cur.length = cap * 3 ∧ xs.length ≤ cap ∧ cap ≤ 9223372036854775807 ∧ cur.take (xs.length * 3) = xs.flatMap letC
theorem Row.own {w : World} {g cap B : Nat} {cur : List Value} {xs : List Letr} (h : Row w g cap cur xs) (hB : B ≤ g) : OwnR 3 letC eT w B (.slice (some ⟨g, 0, none⟩) xs.length cap) xs :=
  ⟨flat_len letC_len xs, .inr ⟨g, cap, cur.toArray, rfl, hB, h.1, h.2.2.1, by unfold maxLen; exact h.2.2.2.1, by simpa using h.2.1, by simpa using h.2.2.2.2⟩⟩
theorem Row.of {w : World} {B : Nat} {v : Value} {xs : List Letr} (h : OwnR 3 letC eT w B v xs) : (v = .slice none 0 0 ∧ xs = []) ∨ ∃ g cap cur, v = .slice (some ⟨g, 0, none⟩) xs.length cap ∧ B ≤ g ∧ Row w g cap cur xs := by
  rcases h.2 with ⟨rfl, h0⟩ | ⟨g, cap, cur, rfl, hg, hh, hle, hcm, hsz, htk⟩
  · exact .inl ⟨rfl, List.eq_nil_of_length_eq_zero h0⟩
  · exact .inr ⟨g, cap, cur.toList, rfl, hg, by simpa using hh, by simpa using hsz, hle, by unfold maxLen at hcm; exact hcm, htk⟩
theorem Row.cells {w : World} {g cap : Nat} {cur : List Value} {xs : List Letr} (h : Row w g cap cur xs) (k : Nat) : ∀ j u, ((xs.drop k).flatMap letC)[j]? = some u → w.cell? ((⟨g, k * 3, none⟩ : Addr).add j) = some u := by
  intro j u hu
  obtain ⟨h1, h2, h3, h4, h5⟩ := h
  rw [add_plain, cell_of_row w g _ _ _ _ h1]
  rw [← flat_drop, ← h5, List.getElem?_drop, List.getElem?_take] at hu
  split at hu
  · simpa using hu
  · cases hu

def Cloned (xs : List Letr) (w : World) (e : Ending) (w' : World) : Prop := ∃ u, e = .returned u ∧ OwnR 3 letC eT w' w.heap.size u xs ∧ Below w.heap.size w w'
theorem own_new (w : World) (g : Nat) (hg : w.heap.size = g) {B : Nat} (hB : B ≤ g) : OwnR 3 letC eT (w.alloc (.cells #[] eT)) B (.slice (some ⟨g, 0, none⟩) 0 0) ([] : List Letr) := by
  subst hg
  exact ⟨rfl, .inr ⟨w.heap.size, 0, #[], rfl, hB, heap_alloc_new _ _, Nat.le_refl _, Nat.zero_le _, rfl, rfl⟩⟩
set_option maxHeartbeats 1000000 in
theorem clone_any (xs : List Letr) (v : Value) (w : World) (h : SlR 3 letC w v xs) (hb8 : xs.length * 32 ≤ 140737488351232) :
    Calls Try.prog 21 #[v] w (Cloned xs w) := by
  have hml := h.len
  have HS := Lib.hid (fun A => h.below ((Below.refl w.heap.size w).alloc (Nat.le_refl _) (.cells A eT)) (Nat.le_refl _))
  obtain ⟨a, cap, rfl, h1, h2, h4⟩ := h
  rcases h4 with ⟨rfl, rfl, hnil⟩ | ⟨b, off, sp, rfl, h5⟩
  · subst hnil
    clear HS
    have hq : ∀ w' : World, (binOp BinOp.eql sT (.slice none 0 0) (.slice none 0 0)).run Try.prog w' = .ok (.bool true) w' := fun _ => by first | kernel_rfl | rfl
    go_enter Try.func21, Try.ntmps21
    go_wp2
    go_ret
    exact ⟨_, rfl, OwnR.nil _ _ _, Below.refl _ _⟩
  · clear h5
    have hq : ∀ w' : World, (binOp BinOp.eql sT (.slice (some ⟨b, off, sp⟩) xs.length cap) (.slice none 0 0)).run Try.prog w' = .ok (.bool false) w' := fun _ => by first | kernel_rfl | rfl
    go_enter Try.func21, Try.ntmps21
    go_wp2_with (at_builtin; (refine appR letC_len letC_one Try.underlying46 rfl (by decide) info_let rfl _ _ rfl w.heap.size _ [] rfl (own_new w w.heap.size rfl (Nat.le_refl _)) _ xs rfl (HS.out _) (by simpa using hml) (by simp; omega) (by simp) ?_; intro v1 w1 hown1 hb1; rw [List.nil_append] at hown1))
    go_ret
    exact ⟨_, rfl, hown1, ((Below.refl _ _).alloc (Nat.le_refl _) _).trans hb1⟩

/-- what slices.Delete of one element hands back -/
def Del (B g cap : Nat) (xs : List Letr) (i : Nat) (w : World) (e : Ending) (w' : World) : Prop :=
  e = .returned (.slice (some ⟨g, 0, none⟩) (xs.length - 1) cap) ∧ OwnR 3 letC eT w' B (.slice (some ⟨g, 0, none⟩) (xs.length - 1) cap) (xs.take i ++ xs.drop (i + 1)) ∧ w.grownBy w' (some g)
theorem len_del {xs : List Letr} {i : Nat} (hi : i < xs.length) : (xs.take i ++ xs.drop (i + 1)).length = xs.length - 1 := by
  simp only [List.length_append, List.length_take, List.length_drop]; omega
theorem del_row {cur : List Value} {xs : List Letr} {i cap : Nat} {zs : List Value} (hi : i < xs.length) (hcap : xs.length ≤ cap) (hl : cur.length = cap * 3) (ht : cur.take (i * 3) = (xs.take i).flatMap letC) (hz : zs.length = 3) :
    (splice (splice cur (i * 3) ((xs.drop (i + 1)).flatMap letC)) ((xs.length - 1) * 3) zs).take ((xs.length - 1) * 3) = (xs.take i ++ xs.drop (i + 1)).flatMap letC ∧
    (splice (splice cur (i * 3) ((xs.drop (i + 1)).flatMap letC)) ((xs.length - 1) * 3) zs).length = cap * 3 := by
  have hd : ((xs.drop (i + 1)).flatMap letC).length = (xs.length - (i + 1)) * 3 := by rw [flat_len letC_len, List.length_drop]
  have f1 : i * 3 + ((xs.drop (i + 1)).flatMap letC).length ≤ cur.length := by rw [hd, hl]; omega
  have l1 := length_splice cur (i * 3) _ f1
  have f2 : (xs.length - 1) * 3 + zs.length ≤ (splice cur (i * 3) ((xs.drop (i + 1)).flatMap letC)).length := by rw [l1, hz, hl]; omega
  have l2 := length_splice _ ((xs.length - 1) * 3) _ f2
  refine ⟨?_, by rw [l2, l1, hl]⟩
  have e1 : (splice (splice cur (i * 3) ((xs.drop (i + 1)).flatMap letC)) ((xs.length - 1) * 3) zs).take ((xs.length - 1) * 3) = (splice cur (i * 3) ((xs.drop (i + 1)).flatMap letC)).take ((xs.length - 1) * 3) := by
    rw [show splice (splice cur (i * 3) ((xs.drop (i + 1)).flatMap letC)) ((xs.length - 1) * 3) zs = (splice cur (i * 3) ((xs.drop (i + 1)).flatMap letC)).take ((xs.length - 1) * 3) ++ _ from rfl, List.take_append_of_le_length (by rw [List.length_take, l1, hl]; omega), List.take_take, Nat.min_self]
  rw [e1, Sg.take_splice _ _ _ _ f1 (by rw [hd]; omega), hd, ht, show (xs.length - 1) * 3 - (i * 3 + (xs.length - (i + 1)) * 3) = 0 by omega, List.take_zero, List.append_nil, List.flatMap_append]
theorem zero_run (w : World) : (zeroValue eT).run Try.prog w = .ok (.agg #[.int .i64 0, .int .i64 0, .string ByteArray.empty]) w := by first | rfl | kernel_rfl
theorem zero_len : (Builtin.zeroCells (Value.cells (.agg #[.int .i64 0, .int .i64 0, .string ByteArray.empty])) 1).toList.length = 3 := by rw [Array.length_toList, size_zeroCells]; rfl
theorem zero_ones : ∀ u ∈ (Builtin.zeroCells (Value.cells (.agg #[.int .i64 0, .int .i64 0, .string ByteArray.empty])) 1).toList, u.oneCell' = true := Sg.zero_one (by decide) (by decide)

set_option maxHeartbeats 4000000 in
theorem delete_any (xs : List Letr) (i g cap : Nat) (cur : List Value) (w : World) (hi : i < xs.length) (h : Row w g cap cur xs) (B : Nat) (hB : B ≤ g) :
    Calls Try.prog 20 #[.slice (some ⟨g, 0, none⟩) xs.length cap, .int .i64 i, .int .i64 ((i : Int) + 1)] w (Del B g cap xs i w) := by
  obtain ⟨h1, h2, h3, h4, h5⟩ := id h
  have mixed : Try.prog.follows Departure.mixedOrders = true := by kernel_rfl
  obtain ⟨i0, hi0, hz0, hzs, hzb⟩ := info_parts info_let
  obtain ⟨A, hA, HA⟩ : ∃ A : Addr, (if cap = i + 1 then some (⟨g, 0, none⟩ : Addr) else some ⟨g, (i + 1) * 3, none⟩) = some A ∧ Hid (∀ j u, ((xs.drop (i + 1)).flatMap letC)[j]? = some u → w.cell? (A.add j) = some u) := by
    by_cases hc : cap = i + 1
    · refine ⟨⟨g, 0, none⟩, if_pos hc, fun j u hu => ?_⟩
      rw [List.drop_of_length_le (by omega)] at hu
      simp at hu
    · exact ⟨⟨g, (i + 1) * 3, none⟩, if_neg hc, h.cells (i + 1)⟩
  have hne : ¬ ((i : Int) = (i : Int) + 1) := by omega
  have hw1 : IntKind.i64.wrap ((i : Int) + 1) = (i : Int) + 1 := by rw [IntKind.wrap_i64]; omega
  have hb1 : (0 : Int) ≤ (i : Int) + 1 := by omega
  have hb2 : (i : Int) + 1 ≤ (xs.length : Int) := by omega
  have hb3 : (i : Int) ≤ (i : Int) + 1 := by omega
  have htn : ((i : Int) + 1).toNat = i + 1 := by omega
  have hic : i ≤ cap := by omega
  have hjc : i + 1 ≤ cap := by omega
  have hnc : ¬ (cap = xs.length - 1) := by omega
  have HIK : Hid (i + (xs.length - (i + 1)) = xs.length - 1) := Lib.hid (by omega)
  have HONE : Hid (xs.length - (xs.length - 1) = 1) := Lib.hid (by omega)
  have hd : ((xs.drop (i + 1)).flatMap letC).length = (xs.length - (i + 1)) * 3 := by rw [flat_len letC_len, List.length_drop]
  have HD := Lib.hid hd
  have HX := Lib.hid (flat_one (xs.drop (i + 1)))
  have HF1 : Hid (i * 3 + ((xs.drop (i + 1)).flatMap letC).length ≤ cur.length) := by rw [hd, h2]; show _ ≤ _; omega
  have HG1 := Lib.hid h1
  have H2 := Lib.hid h2
  have HROW := Lib.hid (del_row (cur := cur) (i := i) (cap := cap) (zs := (Builtin.zeroCells (Value.cells (.agg #[.int .i64 0, .int .i64 0, .string ByteArray.empty])) 1).toList) hi h3 h2 (by have e := congrArg (List.take (i * 3)) h5; rw [List.take_take, Nat.min_eq_left (by omega), flat_take] at e; exact e) zero_len)
  obtain ⟨W1, hW1⟩ : ∃ W1, W1 = w.drew.setRow g (splice cur (i * 3) ((xs.drop (i + 1)).flatMap letC)).toArray := ⟨_, rfl⟩
  have HG2 : Hid (W1.heap[g]? = some (.cells (splice cur (i * 3) ((xs.drop (i + 1)).flatMap letC)).toArray eT (0, 0))) := by rw [hW1]; exact setRow_heap w.drew g _ _ _ _ h1
  have HGR : Hid (w.grownBy W1 (some g)) := by
    rw [hW1]
    exact ⟨rfl, rfl, rfl, by simp [World.setRow], fun k hk hne => setRow_other w.drew g k _ (fun e => hne (by rw [e]))⟩
  have HW1 := Lib.hid hW1
  have HF2 : Hid ((xs.length - 1) * 3 + 1 * 3 ≤ (splice cur (i * 3) ((xs.drop (i + 1)).flatMap letC)).length) := by rw [length_splice _ _ _ HF1.out, h2]; show _ ≤ _; omega
  clear h h1 h2 h5 hd hW1
  go_enter Try.func20, Try.ntmps20
  go_wp2_with fail
  go_region_law_o (refine Sg.step_append_rows rfl (.tmp 22) (.tmp 25) sT rfl eT i0 3 Try.underlying46 hi0 hzs g i cap (by simp [Act.eval, Act.put]) A (xs.length - (i + 1)) (cap - (i + 1)) _ (by simp [Act.eval, Act.put, hA]) HD.out HA.out HX.out (by omega) cur HG1.out HF1.out ?_; rw [← HW1.out, HIK.out])
  go_wp2_with (refine Sg.wpList_clear_rows rfl _ sT rfl eT (.agg #[.int .i64 0, .int .i64 0, .string ByteArray.empty]) 3 1 Try.underlying46 zero_run rfl zero_ones g ((xs.length - 1) * 3) (cap - (xs.length - 1)) (congrArg (fun q => Value.slice (some ⟨g, (xs.length - 1) * 3, none⟩) q (cap - (xs.length - 1))) HONE.out) (by decide) _ eT HG2.out HF2.out ?_)
  go_ret
  have hr : Row (W1.setRow g (splice (splice cur (i * 3) ((xs.drop (i + 1)).flatMap letC)) ((xs.length - 1) * 3) (Builtin.zeroCells (Value.cells (.agg #[.int .i64 0, .int .i64 0, .string ByteArray.empty])) 1).toList).toArray) g cap _ (xs.take i ++ xs.drop (i + 1)) := ⟨setRow_heap _ _ _ _ _ _ HG2.out, HROW.out.2, by rw [len_del hi]; omega, h4, by rw [len_del hi]; exact HROW.out.1⟩
  have ho := hr.own hB
  rw [len_del hi] at ho
  have q := HGR.out
  exact ⟨rfl, ho, ⟨q.os, q.tape, q.output, by simpa [World.setRow] using q.size, fun k hk hne => (setRow_other _ _ _ _ (fun e => hne (by rw [e]))).trans (q.block k hk hne)⟩⟩
end Iq
end Go.Proofs.Ytgmndcfeifgapaa
