/- copy, clear, append of zeros: slices of structs in a row that is known whole. No condition. Held: slices.Insert of one element, slices.Clone, slices.Delete of one element (those that the program has). No condition but sizes. (Printed by wip/tools/ins.py.) LastR: slices.Insert of one element, slices.Clone, slices.Delete of one element (those that the program has). No condition but sizes. (Printed by wip/tools/ins.py.) slices.Clone of a []int. No condition but the list's size. -/
import Derived.Test.YtgbblegcjladaaaLdB
import Derived.Laws.CopyRow
import Derived.Laws.CopyOwn
import Derived.Lib.AppendZerosOnto
import Derived.Lib.Overlaps
import Derived.Laws.Externs
import Derived.Laws.Rows
import Derived.Deep.RegionLaw
import Derived.Laws.NewBlocks
import Derived.WalkKit
import Derived.Deep.LoopGhost
import Derived.Lib.SlicesDelete
import Derived.Deep.AppendLies
import Derived.Shelf.RegionOpenPlain
import Derived.Test.YtgbblegcjladaaaBse
namespace Go.Proofs.Ytgbblegcjladaaa
open Go.ChangeShapes Go.WideShapes Go.ChangeAt Go.RowKit Go.Deep
set_option linter.unusedVariables false
set_option maxRecDepth 100000
set_option linter.unusedSimpArgs false
namespace Sg
variable {P : Program}

theorem run_copy_rows (w : World) (dT sT ty elem : TypeId) (size g o dLen dCap : Nat) (a : Addr) (sLen sCap : Nat) (cur : List Value) (t : TypeId) (cs : List Value)
    (hu : P.underlying dT = some (.slice elem)) (hs : (P.info? elem).map (·.size) = some size)
    (hg : w.heap[g]? = some (.cells cur.toArray t (0, 0))) (hn : cs.length = Nat.min sLen dLen * size)
    (hsrc : ∀ j v, cs[j]? = some v → w.cell? (a.add j) = some v) (hfit : o + cs.length ≤ cur.length) (h1 : ∀ v ∈ cs, v.oneCell' = true) :
    (Builtin.copy_ #[dT, sT] ty #[.slice (some ⟨g, o, none⟩) dLen dCap, .slice (some a) sLen sCap]).run P w =
      .ok (goInt (Nat.min sLen dLen)) (w.setRow g (splice cur o cs).toArray) := by
  have hl := run_loadCells_list (P := P) w a cs hsrc
  have hst := run_storeCells_at P g o t cs 0 cur.toArray w hg (by simpa using hfit) h1
  cases hq : P.info? elem with
  | none => simp [hq] at hs
  | some i =>
    have hi : i.size = size := by simpa [hq] using hs
    rw [hn] at hl
    simp [Builtin.copy_, run_underlying hu, Builtin.lenOf, Builtin.firstCells, sizeOf, typeInfo, hq, hi, hl, hst, splice]

theorem wpList_copy_rows {w : World} {ops : Array Oper} {rest : List Oper} {o : Oper} {a : Act} {Q : Exit → Act → World → Prop} (hgd : o.guard = none) (d s : Operand) (dT sT : TypeId)
    (ho : o.op = .call { callee := .builtin .copy, args := #[d, s], argTypes := #[dT, sT] }) (elem : TypeId) (size : Nat) (hu : P.underlying dT = some (.slice elem)) (hsz : (P.info? elem).map (·.size) = some size)
    (g off dLen dCap : Nat) (ad : Addr) (sLen sCap : Nat) (hd : a.eval d = .slice (some ⟨g, off, none⟩) dLen dCap) (hs : a.eval s = .slice (some ad) sLen sCap)
    (cur : List Value) (t : TypeId) (hg : w.heap[g]? = some (.cells cur.toArray t (0, 0))) (cs : List Value) (hn : cs.length = Nat.min sLen dLen * size)
    (hsrc : ∀ j v, cs[j]? = some v → w.cell? (ad.add j) = some v) (hfit : off + cs.length ≤ cur.length) (h1 : ∀ v ∈ cs, v.oneCell' = true)
    (h : wpList P ops Q rest (a.put o.dst (goInt (Nat.min sLen dLen))) (w.setRow g (splice cur off cs).toArray)) : wpList P ops Q (o :: rest) a w := by
  refine wpList_plain hgd fun K hK => ?_
  have hrun := run_copy_rows (P := P) w dT sT o.type elem size g off dLen dCap ad sLen sCap cur t cs hu hsz hg hn hsrc hfit h1
  unfold Oper.wp
  simp [execOp, ho, resolve, invoke, builtin, hd, hs, hrun, Result.andThen]
  exact hK _ _ h

theorem step_copy_rows {w : World} {ops : Array Oper} {o : Oper} {a : Act} {K : Act → World → Prop} {Q : Exit → Act → World → Prop} {E : Prop} (hgd : o.guard = none) (d s : Operand) (dT sT : TypeId)
    (ho : o.op = .call { callee := .builtin .copy, args := #[d, s], argTypes := #[dT, sT] }) (elem : TypeId) (size : Nat) (hu : P.underlying dT = some (.slice elem)) (hsz : (P.info? elem).map (·.size) = some size)
    (g off dLen dCap : Nat) (ad : Addr) (sLen sCap : Nat) (hd : a.eval d = .slice (some ⟨g, off, none⟩) dLen dCap) (hs : a.eval s = .slice (some ad) sLen sCap)
    (cur : List Value) (t : TypeId) (hg : w.heap[g]? = some (.cells cur.toArray t (0, 0))) (cs : List Value) (hn : cs.length = Nat.min sLen dLen * size)
    (hsrc : ∀ j v, cs[j]? = some v → w.cell? (ad.add j) = some v) (hfit : off + cs.length ≤ cur.length) (h1 : ∀ v ∈ cs, v.oneCell' = true)
    (h : K (a.put o.dst (goInt (Nat.min sLen dLen))) (w.setRow g (splice cur off cs).toArray)) :
    if Region.wanted o (yielded ops a.tmps) = true then Oper.wp P o a w K Q else E := by
  have hw : Region.wanted o (yielded ops a.tmps) = true := by simp [Region.wanted, hgd]
  rw [if_pos hw]
  have hrun := run_copy_rows (P := P) w dT sT o.type elem size g off dLen dCap ad sLen sCap cur t cs hu hsz hg hn hsrc hfit h1
  unfold Oper.wp
  simp [execOp, ho, resolve, invoke, builtin, hd, hs, hrun, Result.andThen]
  exact h

theorem run_clear_rows (w : World) (t e ty : TypeId) (z : Value) (size n : Nat) (ht : P.underlying t = some (.slice e)) (hv : ∀ w, (zeroValue e).run P w = .ok z w) (hz : z.cells.size = size) (h1 : ∀ u ∈ (Builtin.zeroCells z.cells n).toList, u.oneCell' = true) (g o c : Nat) (hn : 0 < n)
    (cur : List Value) (T : TypeId) (hg : w.heap[g]? = some (.cells cur.toArray T (0, 0))) (hfit : o + n * size ≤ cur.length) :
    (Builtin.clear_ #[t] ty #[.slice (some ⟨g, o, none⟩) n c]).run P w = .ok (.tuple #[]) (w.setRow g (splice cur o (Builtin.zeroCells z.cells n).toList).toArray) := by
  have hl : (Builtin.zeroCells z.cells n).toList.length = n * size := by simp [Builtin.zeroCells, hz]
  have hst := run_storeCells_at P g o T (Builtin.zeroCells z.cells n).toList 0 cur.toArray w hg (by rw [hl]; simpa using hfit) h1
  simp only [Nat.add_zero] at hst
  obtain ⟨m, rfl⟩ : ∃ m, n = m + 1 := ⟨n - 1, by omega⟩
  simp [Builtin.clear_, run_underlying ht, hv, hst, splice]

theorem wpList_clear_rows {w : World} {ops : Array Oper} {rest : List Oper} {o : Oper} {a : Act} {Q : Exit → Act → World → Prop} (hgd : o.guard = none) (s : Operand) (t : TypeId)
    (ho : o.op = .call { callee := .builtin .clear, args := #[s], argTypes := #[t] }) (e : TypeId) (z : Value) (size n : Nat) (ht : P.underlying t = some (.slice e)) (hv : ∀ w, (zeroValue e).run P w = .ok z w) (hz : z.cells.size = size)
    (h1 : ∀ u ∈ (Builtin.zeroCells z.cells n).toList, u.oneCell' = true) (g off c : Nat) (hs : a.eval s = .slice (some ⟨g, off, none⟩) n c) (hn : 0 < n)
    (cur : List Value) (T : TypeId) (hg : w.heap[g]? = some (.cells cur.toArray T (0, 0))) (hfit : off + n * size ≤ cur.length)
    (h : wpList P ops Q rest (a.put o.dst (.tuple #[])) (w.setRow g (splice cur off (Builtin.zeroCells z.cells n).toList).toArray)) : wpList P ops Q (o :: rest) a w := by
  refine wpList_plain hgd fun K hK => ?_
  have hrun := run_clear_rows (P := P) w t e o.type z size n ht hv hz h1 g off c hn cur T hg hfit
  unfold Oper.wp
  simp [execOp, ho, resolve, invoke, builtin, hs, hrun, Result.andThen]
  exact hK _ _ h

/-- append(s[:i], make(S, k)...), s having no room -/
theorem wpList_append_zeros {w : World} {ops : Array Oper} {rest : List Oper} {o : Oper} {a : Act} {Q : Exit → Act → World → Prop} (hgd : o.guard = none) (s x : Operand) (t tn : TypeId)
    (ho : o.op = .call { callee := .builtin .append, args := #[s, x], argTypes := #[t, tn] }) (e : TypeId) (z : Value) (size bytes : Nat) (ht : P.underlying t = some (.slice e)) (htn : P.underlying tn = some (.int .i64)) (hinfo : (P.info? e).map (fun i => (i.zero, i.size, i.bytes)) = some (some z, size, bytes))
    (hzs : z.cells.size = size) (hsz : 0 < size) (g sLen sCap : Nat) (hs : a.eval s = .slice (some ⟨g, 0, none⟩) sLen sCap) (k : Nat) (hx : a.eval x = .int .i64 k)
    (olds : List Value) (hl : olds.length = sLen * size) (hold : ∀ j u, olds[j]? = some u → w.cell? ((⟨g, 0, none⟩ : Addr).add j) = some u)
    (h0 : 0 < k) (hgw : sCap < sLen + k) (h63 : sLen + k ≤ maxLen) (hb : (sLen + k) * bytes ≤ 140737488355328)
    (h : ∀ cap (cur : List Value) (w' : World), sLen + k ≤ cap → cap ≤ maxLen → cur.length = cap * size → cur.take (sLen * size) = olds → w' = w.drew.alloc (.cells cur.toArray e) → wpList P ops Q rest (a.put o.dst (.slice (some ⟨w.heap.size, 0, none⟩) (sLen + k) cap)) w') :
    wpList P ops Q (o :: rest) a w := by
  obtain ⟨i0, hi, hz0, hz1, hz2⟩ := info_parts hinfo
  refine wpList_plain hgd fun K hK => ?_
  have hm : maxLen = 9223372036854775807 := rfl
  have hfc : (Builtin.firstCells i0.size sLen (.slice (some ⟨g, 0, none⟩) sLen sCap)).run P w.drew = .ok olds.toArray w.drew :=
    run_firstCells_some w.drew i0.size sLen ⟨g, 0, none⟩ sLen sCap olds (by rw [hz1]; exact hl) hold
  have hkb : k * i0.bytes ≤ 281474976710656 := by
    rw [hz2]
    exact Nat.le_trans (Nat.mul_le_mul_right _ (Nat.le_add_left k sLen)) (by omega)
  have hrun := Lib.run_append_grow_zeros (P := P) w t tn o.type e i0 z .i64 .i64 ht htn hi hz0 (some ⟨g, 0, none⟩) sLen sCap olds hfc k h0 (by omega) hgw (by omega) hkb (by rw [hz2]; exact growslice_fits hgw hb)
  have hge := grownCap_ge w (sLen + k) sCap e
  have hcm := grownCap_le_maxLen w (sLen + k) sCap e h63
  generalize grownCap w (sLen + k) sCap e = cap at hrun hge hcm
  unfold Oper.wp
  simp [execOp, ho, resolve, invoke, builtin, hs, hx, hrun, Result.andThen]
  have hrow : (olds ++ ((Builtin.zeroCells z.cells k).toList ++ (Builtin.zeroCells z.cells (cap - (sLen + k))).toList)).toArray = olds.toArray ++ Builtin.zeroCells z.cells k ++ Builtin.zeroCells z.cells (cap - (sLen + k)) := by
    apply Array.ext'; simp
  refine hK _ _ (h cap (olds ++ ((Builtin.zeroCells z.cells k).toList ++ (Builtin.zeroCells z.cells (cap - (sLen + k))).toList)) _ hge hcm ?_ ?_ ?_)
  · simp only [List.length_append, Array.length_toList, size_zeroCells, hzs, hl, ← Nat.add_mul]
    congr 1
    omega
  · rw [← hl]; exact List.take_left
  · rw [hrow]; first | rfl | simp

/-- append where there is room, the row known whole: a step of a region that draws -/
theorem step_append_rows {w : World} {ops : Array Oper} {o : Oper} {a : Act} {K : Act → World → Prop} {Q : Exit → Act → World → Prop} {E : Prop} (hgd : o.guard = none) (s x : Operand) (t : TypeId)
    (ho : o.op = .call { callee := .builtin .append, args := #[s, x], argTypes := #[t, t] }) (e : TypeId) (i : TypeInfo) (size : Nat) (ht : P.underlying t = some (.slice e)) (hi : P.info? e = some i) (hsize : i.size = size)
    (g n cap : Nat) (hs : a.eval s = .slice (some ⟨g, 0, none⟩) n cap) (ad : Addr) (m c : Nat) (news : List Value) (hx : a.eval x = .slice (some ad) m c) (hl : news.length = m * size)
    (hnews : ∀ j u, news[j]? = some u → w.cell? (ad.add j) = some u) (h1 : ∀ u ∈ news, u.oneCell' = true) (hroom : n + m ≤ cap)
    (cur : List Value) (hg : w.heap[g]? = some (.cells cur.toArray e (0, 0))) (hfit : n * size + news.length ≤ cur.length)
    (h : K (a.put o.dst (.slice (some ⟨g, 0, none⟩) (n + m) cap)) (w.setRow g (splice cur (n * size) news).toArray)) :
    if Region.wanted o (yielded ops a.tmps) = true then Oper.wp P o a w K Q else E := by
  have hw : Region.wanted o (yielded ops a.tmps) = true := by simp [Region.wanted, hgd]
  rw [if_pos hw]
  subst hsize
  have hrun := run_append_room (P := P) (ty := o.type) w t e i ht hi g n cap cur.toArray hg ad m c news hl hnews h1 hroom (by simpa using hfit)
  have hsp : (cur.toArray.toList.take (n * i.size) ++ news ++ cur.toArray.toList.drop (n * i.size + news.length)).toArray = (splice cur (n * i.size) news).toArray := by simp [splice]
  rw [hsp] at hrun
  unfold Oper.wp
  simp [execOp, ho, resolve, invoke, builtin, hs, hx, hrun, Result.andThen]
  exact h
theorem zero_one {z : Value} {n : Nat} (h : ∀ u ∈ z.cells.toList, u.oneCell' = true) (hz : 0 < z.cells.size) : ∀ u ∈ (Builtin.zeroCells z.cells n).toList, u.oneCell' = true := by
  intro u hu
  simp only [Builtin.zeroCells, Array.toList_map, List.mem_map] at hu
  obtain ⟨i, _, rfl⟩ := hu
  have hlt : i % z.cells.size < z.cells.size := Nat.mod_lt _ hz
  apply h
  rw [getElem!_pos z.cells _ hlt]
  exact Array.getElem_mem_toList hlt

/-- a row's cells, once more: what a splice reads as -/
theorem take_splice {α : Type} (L : List α) (o : Nat) (cs : List α) (n : Nat) (h : o + cs.length ≤ L.length) (hn : o + cs.length ≤ n) : (splice L o cs).take n = L.take o ++ (cs ++ (L.drop (o + cs.length)).take (n - (o + cs.length))) := by
  unfold splice
  have e1 : (L.take o).length = o := by rw [List.length_take]; omega
  rw [List.take_append, e1, List.take_append, List.take_of_length_le (by omega : (L.take o).length ≤ n), List.take_of_length_le (by omega : cs.length ≤ n - o), Nat.sub_sub]
end Sg
end Go.Proofs.Ytgbblegcjladaaa
namespace Go.Proofs.Ytgbblegcjladaaa
open Go.ChangeShapes Go.WideShapes Go.ChangeAt Go.RowKit Go.Deep
set_option linter.unusedVariables false
set_option maxRecDepth 100000
set_option linter.unusedSimpArgs false
namespace Ih
abbrev eT : TypeId := 47
abbrev sT : TypeId := 32
abbrev iT : TypeId := 3
theorem size_eT : (Try.prog.info? eT).map (·.size) = some 5 := by kernel_rfl
theorem flat_one (xs : List Held) : ∀ u ∈ xs.flatMap heldC, u.oneCell' = true := fun u hu => by
  obtain ⟨y, _, hy⟩ := List.mem_flatMap.1 hu
  exact heldC_one y u hy
theorem flat_drop (xs : List Held) : ∀ i, (xs.flatMap heldC).drop (i * 5) = (xs.drop i).flatMap heldC := by
  induction xs with
  | nil => intro i; simp
  | cons x xs ih =>
    intro i
    cases i with
    | zero => simp
    | succ i =>
      rw [List.drop_succ_cons, ← ih i, List.flatMap_cons, Nat.add_mul, Nat.one_mul, Nat.add_comm, List.drop_append, heldC_len, List.drop_of_length_le (by rw [heldC_len]; omega), List.nil_append]
      congr 1
      omega
theorem flat_take (xs : List Held) : ∀ i, (xs.flatMap heldC).take (i * 5) = (xs.take i).flatMap heldC := by
  induction xs with
  | nil => intro i; simp
  | cons x xs ih =>
    intro i
    cases i with
    | zero => simp
    | succ i =>
      rw [List.take_succ_cons, List.flatMap_cons, List.flatMap_cons, ← ih i, Nat.add_mul, Nat.one_mul, List.take_append, heldC_len, List.take_of_length_le (by rw [heldC_len]; omega)]
      congr 2
/-- a row that is known whole, and what stands in it -/
def Row (w : World) (g cap : Nat) (cur : List Value) (xs : List Held) : Prop := w.heap[g]? = some (.cells cur.toArray eT (0, 0)) ∧ cur.length = cap * 5 ∧ xs.length ≤ cap ∧ cap ≤ 9223372036854775807 ∧ cur.take (xs.length * 5) = xs.flatMap heldC
theorem Row.own {w : World} {g cap B : Nat} {cur : List Value} {xs : List Held} (h : Row w g cap cur xs) (hB : B ≤ g) : OwnR 5 heldC eT w B (.slice (some ⟨g, 0, none⟩) xs.length cap) xs :=
  ⟨flat_len heldC_len xs, .inr ⟨g, cap, cur.toArray, rfl, hB, h.1, h.2.2.1, by unfold maxLen; exact h.2.2.2.1, by simpa using h.2.1, by simpa using h.2.2.2.2⟩⟩
theorem Row.of {w : World} {B : Nat} {v : Value} {xs : List Held} (h : OwnR 5 heldC eT w B v xs) : (v = .slice none 0 0 ∧ xs = []) ∨ ∃ g cap cur, v = .slice (some ⟨g, 0, none⟩) xs.length cap ∧ B ≤ g ∧ Row w g cap cur xs := by
  rcases h.2 with ⟨rfl, h0⟩ | ⟨g, cap, cur, rfl, hg, hh, hle, hcm, hsz, htk⟩
  · exact .inl ⟨rfl, List.eq_nil_of_length_eq_zero h0⟩
  · exact .inr ⟨g, cap, cur.toList, rfl, hg, by simpa using hh, by simpa using hsz, hle, by unfold maxLen at hcm; exact hcm, htk⟩
theorem Row.cells {w : World} {g cap : Nat} {cur : List Value} {xs : List Held} (h : Row w g cap cur xs) (k : Nat) : ∀ j u, ((xs.drop k).flatMap heldC)[j]? = some u → w.cell? ((⟨g, k * 5, none⟩ : Addr).add j) = some u := by
  intro j u hu
  obtain ⟨h1, h2, h3, h4, h5⟩ := h
  rw [add_plain, cell_of_row w g _ _ _ _ h1]
  rw [← flat_drop, ← h5, List.getElem?_drop, List.getElem?_take] at hu
  split at hu
  · simpa using hu
  · cases hu

/-- what slices.Insert of one element hands back -/
def Ins (B : Nat) (v : Value) (xs : List Held) (i : Nat) (x : Held) (w : World) (e : Ending) (w' : World) : Prop :=
  ∃ q cap, e = .returned (.slice (some ⟨q, 0, none⟩) (xs.length + 1) cap) ∧ OwnR 5 heldC eT w' B (.slice (some ⟨q, 0, none⟩) (xs.length + 1) cap) (xs.take i ++ x :: xs.drop i) ∧ w.grownBy w' v.ownBlock ∧ (v.ownBlock = some q ∨ w.heap.size ≤ q)
theorem grown_set {w w' : World} {g : Nat} {row : Option Nat} (hr : row = some g) (h : w.grownBy w' row) (cs : Array Value) : w.grownBy (w'.setRow g cs) row := by
  subst hr
  exact ⟨h.os, h.tape, h.output, by simpa [World.setRow] using h.size, fun k hk hne => (setRow_other w' g k cs (fun e => hne (by rw [e]))).trans (h.block k hk hne)⟩
theorem shape_row {w : World} {g : Nat} {cs : Array Value} {t : TypeId} {fr : Nat × Nat} (h : w.heap[g]? = some (.cells cs t fr)) : w.shape? g = some (t, cs.size) := by unfold World.shape?; rw [h]
theorem frozen_row {w : World} {g o : Nat} {sp : Option Nat} {cs : Array Value} {t : TypeId} (h : w.heap[g]? = some (.cells cs t (0, 0))) : w.frozen? ⟨g, o, sp⟩ = false := by unfold World.frozen?; rw [h]; simp
theorem len_ins (xs : List Held) (i : Nat) (x : Held) : (xs.take i ++ x :: xs.drop i).length = xs.length + 1 := by
  simp only [List.length_append, List.length_cons, List.length_take, List.length_drop]; omega
/-- the row behind both copies -/
theorem ins_row {cur olds : List Value} {xs : List Held} {x : Held} {i cap : Nat} (hi : i ≤ xs.length) (hcap : xs.length + 1 ≤ cap) (hl : cur.length = cap * 5) (ht : cur.take (i * 5) = (xs.take i).flatMap heldC) :
    (splice (splice cur ((i + 1) * 5) ((xs.drop i).flatMap heldC)) (i * 5) (heldC x)).take ((xs.length + 1) * 5) = (xs.take i ++ x :: xs.drop i).flatMap heldC ∧
    (splice (splice cur ((i + 1) * 5) ((xs.drop i).flatMap heldC)) (i * 5) (heldC x)).length = cap * 5 := by
  have hd : ((xs.drop i).flatMap heldC).length = (xs.length - i) * 5 := by rw [flat_len heldC_len, List.length_drop]
  have hx : (heldC x).length = 5 := heldC_len x
  have f1 : (i + 1) * 5 + ((xs.drop i).flatMap heldC).length ≤ cur.length := by rw [hd, hl]; omega
  have l1 := length_splice cur ((i + 1) * 5) _ f1
  have f2 : i * 5 + (heldC x).length ≤ (splice cur ((i + 1) * 5) ((xs.drop i).flatMap heldC)).length := by rw [l1, hx, hl]; omega
  have l2 := length_splice _ (i * 5) _ f2
  refine ⟨?_, by rw [l2, l1, hl]⟩
  rw [Sg.take_splice _ _ _ _ f2 (by rw [hx]; omega), hx]
  have e1 : (splice cur ((i + 1) * 5) ((xs.drop i).flatMap heldC)).take (i * 5) = (xs.take i).flatMap heldC := by
    unfold splice
    rw [List.take_append_of_le_length (by rw [List.length_take]; omega), List.take_take, Nat.min_eq_left (by omega), ht]
  have e2 : ((splice cur ((i + 1) * 5) ((xs.drop i).flatMap heldC)).drop (i * 5 + 5)).take ((xs.length + 1) * 5 - (i * 5 + 5)) = (xs.drop i).flatMap heldC := by
    have e3 : i * 5 + 5 = (i + 1) * 5 := by omega
    unfold splice
    rw [e3, List.drop_append_of_le_length (by rw [List.length_take]; omega), List.drop_take, Nat.sub_self, List.take_zero, List.nil_append, List.take_append_of_le_length (by rw [hd]; omega), List.take_of_length_le (by rw [hd]; omega)]
  rw [e1, e2, List.flatMap_append, List.flatMap_cons]

theorem ins_row2 {cur : List Value} {xs : List Held} {x : Held} {i cap : Nat} (hi : i ≤ xs.length) (hcap : xs.length + 1 ≤ cap) (hl : cur.length = cap * 5) (ht : cur.take (i * 5) = (xs.take i).flatMap heldC) :
    (splice (splice cur (i * 5) (heldC x)) ((i + 1) * 5) ((xs.drop i).flatMap heldC)).take ((xs.length + 1) * 5) = (xs.take i ++ x :: xs.drop i).flatMap heldC ∧
    (splice (splice cur (i * 5) (heldC x)) ((i + 1) * 5) ((xs.drop i).flatMap heldC)).length = cap * 5 := by
  have hd : ((xs.drop i).flatMap heldC).length = (xs.length - i) * 5 := by rw [flat_len heldC_len, List.length_drop]
  have hx : (heldC x).length = 5 := heldC_len x
  have f1 : i * 5 + (heldC x).length ≤ cur.length := by rw [hx, hl]; omega
  have l1 := length_splice cur (i * 5) _ f1
  have f2 : (i + 1) * 5 + ((xs.drop i).flatMap heldC).length ≤ (splice cur (i * 5) (heldC x)).length := by rw [l1, hd, hl]; omega
  have l2 := length_splice _ ((i + 1) * 5) _ f2
  refine ⟨?_, by rw [l2, l1, hl]⟩
  rw [Sg.take_splice _ _ _ _ f2 (by rw [hd]; omega), hd]
  have e1 : (splice cur (i * 5) (heldC x)).take ((i + 1) * 5) = (xs.take i).flatMap heldC ++ heldC x := by
    rw [Sg.take_splice _ _ _ _ f1 (by rw [hx]; omega), hx, ht, show (i + 1) * 5 - (i * 5 + 5) = 0 by omega, List.take_zero, List.append_nil]
  rw [e1, show (xs.length + 1) * 5 - ((i + 1) * 5 + (xs.length - i) * 5) = 0 by omega, List.take_zero, List.append_nil, List.flatMap_append, List.flatMap_cons, List.append_assoc]

def Cloned (xs : List Held) (w : World) (e : Ending) (w' : World) : Prop := ∃ u, e = .returned u ∧ OwnR 5 heldC eT w' w.heap.size u xs ∧ Below w.heap.size w w'
theorem own_new (w : World) (g : Nat) (hg : w.heap.size = g) {B : Nat} (hB : B ≤ g) : OwnR 5 heldC eT (w.alloc (.cells #[] eT)) B (.slice (some ⟨g, 0, none⟩) 0 0) ([] : List Held) := by
  subst hg
  exact ⟨rfl, .inr ⟨w.heap.size, 0, #[], rfl, hB, heap_alloc_new _ _, Nat.le_refl _, Nat.zero_le _, rfl, rfl⟩⟩
/-- what slices.Delete of one element hands back -/
def Del (B g cap : Nat) (xs : List Held) (i : Nat) (w : World) (e : Ending) (w' : World) : Prop :=
  e = .returned (.slice (some ⟨g, 0, none⟩) (xs.length - 1) cap) ∧ OwnR 5 heldC eT w' B (.slice (some ⟨g, 0, none⟩) (xs.length - 1) cap) (xs.take i ++ xs.drop (i + 1)) ∧ w.grownBy w' (some g)
theorem len_del {xs : List Held} {i : Nat} (hi : i < xs.length) : (xs.take i ++ xs.drop (i + 1)).length = xs.length - 1 := by
  simp only [List.length_append, List.length_take, List.length_drop]; omega
theorem del_row {cur : List Value} {xs : List Held} {i cap : Nat} {zs : List Value} (hi : i < xs.length) (hcap : xs.length ≤ cap) (hl : cur.length = cap * 5) (ht : cur.take (i * 5) = (xs.take i).flatMap heldC) (hz : zs.length = 5) :
    (splice (splice cur (i * 5) ((xs.drop (i + 1)).flatMap heldC)) ((xs.length - 1) * 5) zs).take ((xs.length - 1) * 5) = (xs.take i ++ xs.drop (i + 1)).flatMap heldC ∧
    (splice (splice cur (i * 5) ((xs.drop (i + 1)).flatMap heldC)) ((xs.length - 1) * 5) zs).length = cap * 5 := by
  have hd : ((xs.drop (i + 1)).flatMap heldC).length = (xs.length - (i + 1)) * 5 := by rw [flat_len heldC_len, List.length_drop]
  have f1 : i * 5 + ((xs.drop (i + 1)).flatMap heldC).length ≤ cur.length := by rw [hd, hl]; omega
  have l1 := length_splice cur (i * 5) _ f1
  have f2 : (xs.length - 1) * 5 + zs.length ≤ (splice cur (i * 5) ((xs.drop (i + 1)).flatMap heldC)).length := by rw [l1, hz, hl]; omega
  have l2 := length_splice _ ((xs.length - 1) * 5) _ f2
  refine ⟨?_, by rw [l2, l1, hl]⟩
  have e1 : (splice (splice cur (i * 5) ((xs.drop (i + 1)).flatMap heldC)) ((xs.length - 1) * 5) zs).take ((xs.length - 1) * 5) = (splice cur (i * 5) ((xs.drop (i + 1)).flatMap heldC)).take ((xs.length - 1) * 5) := by
    rw [show splice (splice cur (i * 5) ((xs.drop (i + 1)).flatMap heldC)) ((xs.length - 1) * 5) zs = (splice cur (i * 5) ((xs.drop (i + 1)).flatMap heldC)).take ((xs.length - 1) * 5) ++ _ from rfl, List.take_append_of_le_length (by rw [List.length_take, l1, hl]; omega), List.take_take, Nat.min_self]
  rw [e1, Sg.take_splice _ _ _ _ f1 (by rw [hd]; omega), hd, ht, show (xs.length - 1) * 5 - (i * 5 + (xs.length - (i + 1)) * 5) = 0 by omega, List.take_zero, List.append_nil, List.flatMap_append]
theorem zero_run (w : World) : (zeroValue eT).run Try.prog w = .ok (.agg #[.int .i64 0, .int .i64 0, .int .u64 0, .int .u64 0, .int .u64 0]) w := by first | rfl | kernel_rfl
theorem zero_len : (Builtin.zeroCells (Value.cells (.agg #[.int .i64 0, .int .i64 0, .int .u64 0, .int .u64 0, .int .u64 0])) 1).toList.length = 5 := by rw [Array.length_toList, size_zeroCells]; rfl
theorem zero_ones : ∀ u ∈ (Builtin.zeroCells (Value.cells (.agg #[.int .i64 0, .int .i64 0, .int .u64 0, .int .u64 0, .int .u64 0])) 1).toList, u.oneCell' = true := Sg.zero_one (by decide) (by decide)

end Ih
end Go.Proofs.Ytgbblegcjladaaa
namespace Go.Proofs.Ytgbblegcjladaaa
open Go.ChangeShapes Go.WideShapes Go.ChangeAt Go.RowKit Go.Deep
set_option linter.unusedVariables false
set_option maxRecDepth 100000
set_option linter.unusedSimpArgs false
namespace Il
abbrev eT : TypeId := 103
abbrev sT : TypeId := 33
abbrev iT : TypeId := 3
theorem size_eT : (Try.prog.info? eT).map (·.size) = some 6 := by kernel_rfl
theorem flat_one (xs : List LastR) : ∀ u ∈ xs.flatMap lastC, u.oneCell' = true := fun u hu => by
  obtain ⟨y, _, hy⟩ := List.mem_flatMap.1 hu
  exact lastC_one y u hy
theorem flat_drop (xs : List LastR) : ∀ i, (xs.flatMap lastC).drop (i * 6) = (xs.drop i).flatMap lastC := by
  induction xs with
  | nil => intro i; simp
  | cons x xs ih =>
    intro i
    cases i with
    | zero => simp
    | succ i =>
      rw [List.drop_succ_cons, ← ih i, List.flatMap_cons, Nat.add_mul, Nat.one_mul, Nat.add_comm, List.drop_append, lastC_len, List.drop_of_length_le (by rw [lastC_len]; omega), List.nil_append]
      congr 1
      omega
theorem flat_take (xs : List LastR) : ∀ i, (xs.flatMap lastC).take (i * 6) = (xs.take i).flatMap lastC := by
  induction xs with
  | nil => intro i; simp
  | cons x xs ih =>
    intro i
    cases i with
    | zero => simp
    | succ i =>
      rw [List.take_succ_cons, List.flatMap_cons, List.flatMap_cons, ← ih i, Nat.add_mul, Nat.one_mul, List.take_append, lastC_len, List.take_of_length_le (by rw [lastC_len]; omega)]
      congr 2
/-- a row that is known whole, and what stands in it -/
def Row (w : World) (g cap : Nat) (cur : List Value) (xs : List LastR) : Prop := w.heap[g]? = some (.cells cur.toArray eT (0, 0)) ∧ cur.length = cap * 6 ∧ xs.length ≤ cap ∧ cap ≤ 9223372036854775807 ∧ cur.take (xs.length * 6) = xs.flatMap lastC
theorem Row.own {w : World} {g cap B : Nat} {cur : List Value} {xs : List LastR} (h : Row w g cap cur xs) (hB : B ≤ g) : OwnR 6 lastC eT w B (.slice (some ⟨g, 0, none⟩) xs.length cap) xs :=
  ⟨flat_len lastC_len xs, .inr ⟨g, cap, cur.toArray, rfl, hB, h.1, h.2.2.1, by unfold maxLen; exact h.2.2.2.1, by simpa using h.2.1, by simpa using h.2.2.2.2⟩⟩
theorem Row.of {w : World} {B : Nat} {v : Value} {xs : List LastR} (h : OwnR 6 lastC eT w B v xs) : (v = .slice none 0 0 ∧ xs = []) ∨ ∃ g cap cur, v = .slice (some ⟨g, 0, none⟩) xs.length cap ∧ B ≤ g ∧ Row w g cap cur xs := by
  rcases h.2 with ⟨rfl, h0⟩ | ⟨g, cap, cur, rfl, hg, hh, hle, hcm, hsz, htk⟩
  · exact .inl ⟨rfl, List.eq_nil_of_length_eq_zero h0⟩
  · exact .inr ⟨g, cap, cur.toList, rfl, hg, by simpa using hh, by simpa using hsz, hle, by unfold maxLen at hcm; exact hcm, htk⟩
theorem Row.cells {w : World} {g cap : Nat} {cur : List Value} {xs : List LastR} (h : Row w g cap cur xs) (k : Nat) : ∀ j u, ((xs.drop k).flatMap lastC)[j]? = some u → w.cell? ((⟨g, k * 6, none⟩ : Addr).add j) = some u := by
  intro j u hu
  obtain ⟨h1, h2, h3, h4, h5⟩ := h
  rw [add_plain, cell_of_row w g _ _ _ _ h1]
  rw [← flat_drop, ← h5, List.getElem?_drop, List.getElem?_take] at hu
  split at hu
  · simpa using hu
  · cases hu

/-- what slices.Insert of one element hands back -/
def Ins (B : Nat) (v : Value) (xs : List LastR) (i : Nat) (x : LastR) (w : World) (e : Ending) (w' : World) : Prop :=
  ∃ q cap, e = .returned (.slice (some ⟨q, 0, none⟩) (xs.length + 1) cap) ∧ OwnR 6 lastC eT w' B (.slice (some ⟨q, 0, none⟩) (xs.length + 1) cap) (xs.take i ++ x :: xs.drop i) ∧ w.grownBy w' v.ownBlock ∧ (v.ownBlock = some q ∨ w.heap.size ≤ q)
theorem grown_set {w w' : World} {g : Nat} {row : Option Nat} (hr : row = some g) (h : w.grownBy w' row) (cs : Array Value) : w.grownBy (w'.setRow g cs) row := by
  subst hr
  exact ⟨h.os, h.tape, h.output, by simpa [World.setRow] using h.size, fun k hk hne => (setRow_other w' g k cs (fun e => hne (by rw [e]))).trans (h.block k hk hne)⟩
theorem shape_row {w : World} {g : Nat} {cs : Array Value} {t : TypeId} {fr : Nat × Nat} (h : w.heap[g]? = some (.cells cs t fr)) : w.shape? g = some (t, cs.size) := by unfold World.shape?; rw [h]
theorem frozen_row {w : World} {g o : Nat} {sp : Option Nat} {cs : Array Value} {t : TypeId} (h : w.heap[g]? = some (.cells cs t (0, 0))) : w.frozen? ⟨g, o, sp⟩ = false := by unfold World.frozen?; rw [h]; simp
theorem len_ins (xs : List LastR) (i : Nat) (x : LastR) : (xs.take i ++ x :: xs.drop i).length = xs.length + 1 := by
  simp only [List.length_append, List.length_cons, List.length_take, List.length_drop]; omega
/-- the row behind both copies -/
theorem ins_row {cur olds : List Value} {xs : List LastR} {x : LastR} {i cap : Nat} (hi : i ≤ xs.length) (hcap : xs.length + 1 ≤ cap) (hl : cur.length = cap * 6) (ht : cur.take (i * 6) = (xs.take i).flatMap lastC) :
    (splice (splice cur ((i + 1) * 6) ((xs.drop i).flatMap lastC)) (i * 6) (lastC x)).take ((xs.length + 1) * 6) = (xs.take i ++ x :: xs.drop i).flatMap lastC ∧
    (splice (splice cur ((i + 1) * 6) ((xs.drop i).flatMap lastC)) (i * 6) (lastC x)).length = cap * 6 := by
  have hd : ((xs.drop i).flatMap lastC).length = (xs.length - i) * 6 := by rw [flat_len lastC_len, List.length_drop]
  have hx : (lastC x).length = 6 := lastC_len x
  have f1 : (i + 1) * 6 + ((xs.drop i).flatMap lastC).length ≤ cur.length := by rw [hd, hl]; omega
  have l1 := length_splice cur ((i + 1) * 6) _ f1
  have f2 : i * 6 + (lastC x).length ≤ (splice cur ((i + 1) * 6) ((xs.drop i).flatMap lastC)).length := by rw [l1, hx, hl]; omega
  have l2 := length_splice _ (i * 6) _ f2
  refine ⟨?_, by rw [l2, l1, hl]⟩
  rw [Sg.take_splice _ _ _ _ f2 (by rw [hx]; omega), hx]
  have e1 : (splice cur ((i + 1) * 6) ((xs.drop i).flatMap lastC)).take (i * 6) = (xs.take i).flatMap lastC := by
    unfold splice
    rw [List.take_append_of_le_length (by rw [List.length_take]; omega), List.take_take, Nat.min_eq_left (by omega), ht]
  have e2 : ((splice cur ((i + 1) * 6) ((xs.drop i).flatMap lastC)).drop (i * 6 + 6)).take ((xs.length + 1) * 6 - (i * 6 + 6)) = (xs.drop i).flatMap lastC := by
    have e3 : i * 6 + 6 = (i + 1) * 6 := by omega
    unfold splice
    rw [e3, List.drop_append_of_le_length (by rw [List.length_take]; omega), List.drop_take, Nat.sub_self, List.take_zero, List.nil_append, List.take_append_of_le_length (by rw [hd]; omega), List.take_of_length_le (by rw [hd]; omega)]
  rw [e1, e2, List.flatMap_append, List.flatMap_cons]

theorem ins_row2 {cur : List Value} {xs : List LastR} {x : LastR} {i cap : Nat} (hi : i ≤ xs.length) (hcap : xs.length + 1 ≤ cap) (hl : cur.length = cap * 6) (ht : cur.take (i * 6) = (xs.take i).flatMap lastC) :
    (splice (splice cur (i * 6) (lastC x)) ((i + 1) * 6) ((xs.drop i).flatMap lastC)).take ((xs.length + 1) * 6) = (xs.take i ++ x :: xs.drop i).flatMap lastC ∧
    (splice (splice cur (i * 6) (lastC x)) ((i + 1) * 6) ((xs.drop i).flatMap lastC)).length = cap * 6 := by
  have hd : ((xs.drop i).flatMap lastC).length = (xs.length - i) * 6 := by rw [flat_len lastC_len, List.length_drop]
  have hx : (lastC x).length = 6 := lastC_len x
  have f1 : i * 6 + (lastC x).length ≤ cur.length := by rw [hx, hl]; omega
  have l1 := length_splice cur (i * 6) _ f1
  have f2 : (i + 1) * 6 + ((xs.drop i).flatMap lastC).length ≤ (splice cur (i * 6) (lastC x)).length := by rw [l1, hd, hl]; omega
  have l2 := length_splice _ ((i + 1) * 6) _ f2
  refine ⟨?_, by rw [l2, l1, hl]⟩
  rw [Sg.take_splice _ _ _ _ f2 (by rw [hd]; omega), hd]
  have e1 : (splice cur (i * 6) (lastC x)).take ((i + 1) * 6) = (xs.take i).flatMap lastC ++ lastC x := by
    rw [Sg.take_splice _ _ _ _ f1 (by rw [hx]; omega), hx, ht, show (i + 1) * 6 - (i * 6 + 6) = 0 by omega, List.take_zero, List.append_nil]
  rw [e1, show (xs.length + 1) * 6 - ((i + 1) * 6 + (xs.length - i) * 6) = 0 by omega, List.take_zero, List.append_nil, List.flatMap_append, List.flatMap_cons, List.append_assoc]

def Cloned (xs : List LastR) (w : World) (e : Ending) (w' : World) : Prop := ∃ u, e = .returned u ∧ OwnR 6 lastC eT w' w.heap.size u xs ∧ Below w.heap.size w w'
theorem own_new (w : World) (g : Nat) (hg : w.heap.size = g) {B : Nat} (hB : B ≤ g) : OwnR 6 lastC eT (w.alloc (.cells #[] eT)) B (.slice (some ⟨g, 0, none⟩) 0 0) ([] : List LastR) := by
  subst hg
  exact ⟨rfl, .inr ⟨w.heap.size, 0, #[], rfl, hB, heap_alloc_new _ _, Nat.le_refl _, Nat.zero_le _, rfl, rfl⟩⟩
end Il
end Go.Proofs.Ytgbblegcjladaaa
namespace Go.Proofs.Ytgbblegcjladaaa
open Go.ChangeShapes Go.WideShapes Go.ChangeAt Go.RowKit
set_option linter.unusedVariables false
set_option maxRecDepth 100000
namespace Cl
def Cloned (zs : List Int) (w : World) (e : Ending) (w' : World) : Prop := ∃ u, e = .returned u ∧ OwnI w' w.heap.size u zs ∧ Sl .i64 w' u zs ∧ Below w.heap.size w w'
end Cl
end Go.Proofs.Ytgbblegcjladaaa
