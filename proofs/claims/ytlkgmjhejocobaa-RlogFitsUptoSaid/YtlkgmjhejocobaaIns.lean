/- copy, clear, append of zeros: slices of structs in a row that is known whole. No condition. Held: slices.Insert of one element, slices.Clone, slices.Delete of one element (those that the program has). No condition but sizes. (Printed by wip/tools/ins.py.) LastR: slices.Insert of one element, slices.Clone, slices.Delete of one element (those that the program has). No condition but sizes. (Printed by wip/tools/ins.py.) slices.Clone of a []int. No condition but the list's size. -/
import Derived.Test.YtlkgmjhejocobaaLdB
import Derived.Laws.CopyRow
import Derived.Laws.CopyOwn
import Derived.Lib.AppendZerosOnto
import Derived.Lib.Overlaps
import Derived.Laws.Externs
import Derived.Laws.Rows
import Derived.Deep.RegionLaw
import Derived.Laws.NewBlocks
import Derived.WalkKit
import Derived.Deep.LoopGhost
import Derived.Lib.SlicesDelete
import Derived.Deep.AppendLies
import Derived.Shelf.RegionOpenPlain
import Derived.Test.YtlkgmjhejocobaaBse
namespace Go.Proofs.Ytlkgmjhejocobaa
open Go.ChangeShapes Go.WideShapes Go.ChangeAt Go.RowKit Go.Deep
set_option linter.unusedVariables false
set_option maxRecDepth 100000
set_option linter.unusedSimpArgs false
namespace Sg
variable {P : Program}

theorem run_copy_rows (w : World) (dT sT ty elem : TypeId) (size g o dLen dCap : Nat) (a : Addr) (sLen sCap : Nat) (cur : List Value) (t : TypeId) (cs : List Value)
    (hu : P.underlying dT = some (.slice elem)) (hs : (P.info? elem).map (·.size) = some size)
    (hg : w.heap[g]? = some (.cells cur.toArray t (0, 0))) (hn : cs.length = Nat.min sLen dLen * size)
    (hsrc : ∀ j v, cs[j]? = some v → w.cell? (a.add j) = some v) (hfit : o + cs.length ≤ cur.length) (h1 : ∀ v ∈ cs, v.oneCell' = true) :
    (Builtin.copy_ #[dT, sT] ty #[.slice (some ⟨g, o, none⟩) dLen dCap, .slice (some a) sLen sCap]).run P w =
      .ok (goInt (Nat.min sLen dLen)) (w.setRow g (splice cur o cs).toArray) := by
  have hl := run_loadCells_list (P := P) w a cs hsrc
  have hst := run_storeCells_at P g o t cs 0 cur.toArray w hg (by simpa using hfit) h1
  cases hq : P.info? elem with
  | none => simp [hq] at hs
  | some i =>
    have hi : i.size = size := by simpa [hq] using hs
    rw [hn] at hl
    simp [Builtin.copy_, run_underlying hu, Builtin.lenOf, Builtin.firstCells, sizeOf, typeInfo, hq, hi, hl, hst, splice]

theorem wpList_copy_rows {w : World} {ops : Array Oper} {rest : List Oper} {o : Oper} {a : Act} {Q : Exit → Act → World → Prop} (hgd : o.guard = none) (d s : Operand) (dT sT : TypeId)
    (ho : o.op = .call { callee := .builtin .copy, args := #[d, s], argTypes := #[dT, sT] }) (elem : TypeId) (size : Nat) (hu : P.underlying dT = some (.slice elem)) (hsz : (P.info? elem).map (·.size) = some size)
    (g off dLen dCap : Nat) (ad : Addr) (sLen sCap : Nat) (hd : a.eval d = .slice (some ⟨g, off, none⟩) dLen dCap) (hs : a.eval s = .slice (some ad) sLen sCap)
    (cur : List Value) (t : TypeId) (hg : w.heap[g]? = some (.cells cur.toArray t (0, 0))) (cs : List Value) (hn : cs.length = Nat.min sLen dLen * size)
    (hsrc : ∀ j v, cs[j]? = some v → w.cell? (ad.add j) = some v) (hfit : off + cs.length ≤ cur.length) (h1 : ∀ v ∈ cs, v.oneCell' = true)
    (h : wpList P ops Q rest (a.put o.dst (goInt (Nat.min sLen dLen))) (w.setRow g (splice cur off cs).toArray)) : wpList P ops Q (o :: rest) a w := by
  refine wpList_plain hgd fun K hK => ?_
  have hrun := run_copy_rows (P := P) w dT sT o.type elem size g off dLen dCap ad sLen sCap cur t cs hu hsz hg hn hsrc hfit h1
  unfold Oper.wp
  simp [execOp, ho, resolve, invoke, builtin, hd, hs, hrun, Result.andThen]
  exact hK _ _ h

theorem step_copy_rows {w : World} {ops : Array Oper} {o : Oper} {a : Act} {K : Act → World → Prop} {Q : Exit → Act → World → Prop} {E : Prop} (hgd : o.guard = none) (d s : Operand) (dT sT : TypeId)
    (ho : o.op = .call { callee := .builtin .copy, args := #[d, s], argTypes := #[dT, sT] }) (elem : TypeId) (size : Nat) (hu : P.underlying dT = some (.slice elem)) (hsz : (P.info? elem).map (·.size) = some size)
    (g off dLen dCap : Nat) (ad : Addr) (sLen sCap : Nat) (hd : a.eval d = .slice (some ⟨g, off, none⟩) dLen dCap) (hs : a.eval s = .slice (some ad) sLen sCap)
    (cur : List Value) (t : TypeId) (hg : w.heap[g]? = some (.cells cur.toArray t (0, 0))) (cs : List Value) (hn : cs.length = Nat.min sLen dLen * size)
    (hsrc : ∀ j v, cs[j]? = some v → w.cell? (ad.add j) = some v) (hfit : off + cs.length ≤ cur.length) (h1 : ∀ v ∈ cs, v.oneCell' = true)
    (h : K (a.put o.dst (goInt (Nat.min sLen dLen))) (w.setRow g (splice cur off cs).toArray)) :
    if Region.wanted o (yielded ops a.tmps) = true then Oper.wp P o a w K Q else E := by
  have hw : Region.wanted o (yielded ops a.tmps) = true := by simp [Region.wanted, hgd]
  rw [if_pos hw]
  have hrun := run_copy_rows (P := P) w dT sT o.type elem size g off dLen dCap ad sLen sCap cur t cs hu hsz hg hn hsrc hfit h1
  unfold Oper.wp
  simp [execOp, ho, resolve, invoke, builtin, hd, hs, hrun, Result.andThen]
  exact h

theorem run_clear_rows (w : World) (t e ty : TypeId) (z : Value) (size n : Nat) (ht : P.underlying t = some (.slice e)) (hv : ∀ w, (zeroValue e).run P w = .ok z w) (hz : z.cells.size = size) (h1 : ∀ u ∈ (Builtin.zeroCells z.cells n).toList, u.oneCell' = true) (g o c : Nat) (hn : 0 < n)
    (cur : List Value) (T : TypeId) (hg : w.heap[g]? = some (.cells cur.toArray T (0, 0))) (hfit : o + n * size ≤ cur.length) :
    (Builtin.clear_ #[t] ty #[.slice (some ⟨g, o, none⟩) n c]).run P w = .ok (.tuple #[]) (w.setRow g (splice cur o (Builtin.zeroCells z.cells n).toList).toArray) := by
  have hl : (Builtin.zeroCells z.cells n).toList.length = n * size := by simp [Builtin.zeroCells, hz]
  have hst := run_storeCells_at P g o T (Builtin.zeroCells z.cells n).toList 0 cur.toArray w hg (by rw [hl]; simpa using hfit) h1
  simp only [Nat.add_zero] at hst
  obtain ⟨m, rfl⟩ : ∃ m, n = m + 1 := ⟨n - 1, by omega⟩
  simp [Builtin.clear_, run_underlying ht, hv, hst, splice]

theorem wpList_clear_rows {w : World} {ops : Array Oper} {rest : List Oper} {o : Oper} {a : Act} {Q : Exit → Act → World → Prop} (hgd : o.guard = none) (s : Operand) (t : TypeId)
    (ho : o.op = .call { callee := .builtin .clear, args := #[s], argTypes := #[t] }) (e : TypeId) (z : Value) (size n : Nat) (ht : P.underlying t = some (.slice e)) (hv : ∀ w, (zeroValue e).run P w = .ok z w) (hz : z.cells.size = size)
    (h1 : ∀ u ∈ (Builtin.zeroCells z.cells n).toList, u.oneCell' = true) (g off c : Nat) (hs : a.eval s = .slice (some ⟨g, off, none⟩) n c) (hn : 0 < n)
    (cur : List Value) (T : TypeId) (hg : w.heap[g]? = some (.cells cur.toArray T (0, 0))) (hfit : off + n * size ≤ cur.length)
    (h : wpList P ops Q rest (a.put o.dst (.tuple #[])) (w.setRow g (splice cur off (Builtin.zeroCells z.cells n).toList).toArray)) : wpList P ops Q (o :: rest) a w := by
  refine wpList_plain hgd fun K hK => ?_
  have hrun := run_clear_rows (P := P) w t e o.type z size n ht hv hz h1 g off c hn cur T hg hfit
  unfold Oper.wp
  simp [execOp, ho, resolve, invoke, builtin, hs, hrun, Result.andThen]
  exact hK _ _ h

/-- append(s[:i], make(S, k)...), s having no room -/
theorem wpList_append_zeros {w : World} {ops : Array Oper} {rest : List Oper} {o : Oper} {a : Act} {Q : Exit → Act → World → Prop} (hgd : o.guard = none) (s x : Operand) (t tn : TypeId)
    (ho : o.op = .call { callee := .builtin .append, args := #[s, x], argTypes := #[t, tn] }) (e : TypeId) (z : Value) (size bytes : Nat) (ht : P.underlying t = some (.slice e)) (htn : P.underlying tn = some (.int .i64)) (hinfo : (P.info? e).map (fun i => (i.zero, i.size, i.bytes)) = some (some z, size, bytes))
    (hzs : z.cells.size = size) (hsz : 0 < size) (g sLen sCap : Nat) (hs : a.eval s = .slice (some ⟨g, 0, none⟩) sLen sCap) (k : Nat) (hx : a.eval x = .int .i64 k)
    (olds : List Value) (hl : olds.length = sLen * size) (hold : ∀ j u, olds[j]? = some u → w.cell? ((⟨g, 0, none⟩ : Addr).add j) = some u)
    (h0 : 0 < k) (hgw : sCap < sLen + k) (h63 : sLen + k ≤ maxLen) (hb : (sLen + k) * bytes ≤ 140737488355328)
    (h : ∀ cap (cur : List Value) (w' : World), sLen + k ≤ cap → cap ≤ maxLen → cur.length = cap * size → cur.take (sLen * size) = olds → w' = w.drew.alloc (.cells cur.toArray e) → wpList P ops Q rest (a.put o.dst (.slice (some ⟨w.heap.size, 0, none⟩) (sLen + k) cap)) w') :
    wpList P ops Q (o :: rest) a w := by
  obtain ⟨i0, hi, hz0, hz1, hz2⟩ := info_parts hinfo
  refine wpList_plain hgd fun K hK => ?_
  have hm : maxLen = 9223372036854775807 := rfl
  have hfc : (Builtin.firstCells i0.size sLen (.slice (some ⟨g, 0, none⟩) sLen sCap)).run P w.drew = .ok olds.toArray w.drew :=
    run_firstCells_some w.drew i0.size sLen ⟨g, 0, none⟩ sLen sCap olds (by rw [hz1]; exact hl) hold
  have hkb : k * i0.bytes ≤ 281474976710656 := by
    rw [hz2]
    exact Nat.le_trans (Nat.mul_le_mul_right _ (Nat.le_add_left k sLen)) (by omega)
  have hrun := Lib.run_append_grow_zeros (P := P) w t tn o.type e i0 z .i64 .i64 ht htn hi hz0 (some ⟨g, 0, none⟩) sLen sCap olds hfc k h0 (by omega) hgw (by omega) hkb (by rw [hz2]; exact growslice_fits hgw hb)
  have hge := grownCap_ge w (sLen + k) sCap e
  have hcm := grownCap_le_maxLen w (sLen + k) sCap e h63
  generalize grownCap w (sLen + k) sCap e = cap at hrun hge hcm
  unfold Oper.wp
  simp [execOp, ho, resolve, invoke, builtin, hs, hx, hrun, Result.andThen]
  have hrow : (olds ++ ((Builtin.zeroCells z.cells k).toList ++ (Builtin.zeroCells z.cells (cap - (sLen + k))).toList)).toArray = olds.toArray ++ Builtin.zeroCells z.cells k ++ Builtin.zeroCells z.cells (cap - (sLen + k)) := by
    apply Array.ext'; simp
  refine hK _ _ (h cap (olds ++ ((Builtin.zeroCells z.cells k).toList ++ (Builtin.zeroCells z.cells (cap - (sLen + k))).toList)) _ hge hcm ?_ ?_ ?_)
  · simp only [List.length_append, Array.length_toList, size_zeroCells, hzs, hl, ← Nat.add_mul]
    congr 1
    omega
  · rw [← hl]; exact List.take_left
  · rw [hrow]; first | rfl | simp

/-- append where there is room, the row known whole: a step of a region that draws -/
theorem step_append_rows {w : World} {ops : Array Oper} {o : Oper} {a : Act} {K : Act → World → Prop} {Q : Exit → Act → World → Prop} {E : Prop} (hgd : o.guard = none) (s x : Operand) (t : TypeId)
    (ho : o.op = .call { callee := .builtin .append, args := #[s, x], argTypes := #[t, t] }) (e : TypeId) (i : TypeInfo) (size : Nat) (ht : P.underlying t = some (.slice e)) (hi : P.info? e = some i) (hsize : i.size = size)
    (g n cap : Nat) (hs : a.eval s = .slice (some ⟨g, 0, none⟩) n cap) (ad : Addr) (m c : Nat) (news : List Value) (hx : a.eval x = .slice (some ad) m c) (hl : news.length = m * size)
    (hnews : ∀ j u, news[j]? = some u → w.cell? (ad.add j) = some u) (h1 : ∀ u ∈ news, u.oneCell' = true) (hroom : n + m ≤ cap)
    (cur : List Value) (hg : w.heap[g]? = some (.cells cur.toArray e (0, 0))) (hfit : n * size + news.length ≤ cur.length)
    (h : K (a.put o.dst (.slice (some ⟨g, 0, none⟩) (n + m) cap)) (w.setRow g (splice cur (n * size) news).toArray)) :
    if Region.wanted o (yielded ops a.tmps) = true then Oper.wp P o a w K Q else E := by
  have hw : Region.wanted o (yielded ops a.tmps) = true := by simp [Region.wanted, hgd]
  rw [if_pos hw]
  subst hsize
  have hrun := run_append_room (P := P) (ty := o.type) w t e i ht hi g n cap cur.toArray hg ad m c news hl hnews h1 hroom (by simpa using hfit)
  have hsp : (cur.toArray.toList.take (n * i.size) ++ news ++ cur.toArray.toList.drop (n * i.size + news.length)).toArray = (splice cur (n * i.size) news).toArray := by simp [splice]
  rw [hsp] at hrun
  unfold Oper.wp
  simp [execOp, ho, resolve, invoke, builtin, hs, hx, hrun, Result.andThen]
  exact h
theorem zero_one {z : Value} {n : Nat} (h : ∀ u ∈ z.cells.toList, u.oneCell' = true) (hz : 0 < z.cells.size) : ∀ u ∈ (Builtin.zeroCells z.cells n).toList, u.oneCell' = true := by
  intro u hu
  simp only [Builtin.zeroCells, Array.toList_map, List.mem_map] at hu
  obtain ⟨i, _, rfl⟩ := hu
  have hlt : i % z.cells.size < z.cells.size := Nat.mod_lt _ hz
  apply h
  rw [getElem!_pos z.cells _ hlt]
  exact Array.getElem_mem_toList hlt

/-- a row's cells, once more: what a splice reads as -/
theorem take_splice {α : Type} (L : List α) (o : Nat) (cs : List α) (n : Nat) (h : o + cs.length ≤ L.length) (hn : o + cs.length ≤ n) : (splice L o cs).take n = L.take o ++ (cs ++ (L.drop (o + cs.length)).take (n - (o + cs.length))) := by
  unfold splice
  have e1 : (L.take o).length = o := by rw [List.length_take]; omega
  rw [List.take_append, e1, List.take_append, List.take_of_length_le (by omega : (L.take o).length ≤ n), List.take_of_length_le (by omega : cs.length ≤ n - o), Nat.sub_sub]
end Sg
end Go.Proofs.Ytlkgmjhejocobaa
namespace Go.Proofs.Ytlkgmjhejocobaa
open Go.ChangeShapes Go.WideShapes Go.ChangeAt Go.RowKit Go.Deep
set_option linter.unusedVariables false
set_option maxRecDepth 100000
set_option linter.unusedSimpArgs false
namespace Ih
abbrev eT : TypeId := 74
abbrev sT : TypeId := 24
abbrev iT : TypeId := 3
theorem size_eT : (Try.prog.info? eT).map (·.size) = some 5 := by kernel_rfl
theorem flat_one (xs : List Held) : ∀ u ∈ xs.flatMap heldC, u.oneCell' = true := fun u hu => by
  obtain ⟨y, _, hy⟩ := List.mem_flatMap.1 hu
  exact heldC_one y u hy
theorem flat_drop (xs : List Held) : ∀ i, (xs.flatMap heldC).drop (i * 5) = (xs.drop i).flatMap heldC := by
  induction xs with
  | nil => intro i; simp
  | cons x xs ih =>
    intro i
    cases i with
    | zero => simp
    | succ i =>
      rw [List.drop_succ_cons, ← ih i, List.flatMap_cons, Nat.add_mul, Nat.one_mul, Nat.add_comm, List.drop_append, heldC_len, List.drop_of_length_le (by rw [heldC_len]; omega), List.nil_append]
      congr 1
      omega
theorem flat_take (xs : List Held) : ∀ i, (xs.flatMap heldC).take (i * 5) = (xs.take i).flatMap heldC := by
  induction xs with
  | nil => intro i; simp
  | cons x xs ih =>
    intro i
    cases i with
    | zero => simp
    | succ i =>
      rw [List.take_succ_cons, List.flatMap_cons, List.flatMap_cons, ← ih i, Nat.add_mul, Nat.one_mul, List.take_append, heldC_len, List.take_of_length_le (by rw [heldC_len]; omega)]
      congr 2
/-- a row that is known whole, and what stands in it -/
def Row (w : World) (g cap : Nat) (cur : List Value) (xs : List Held) : Prop := w.heap[g]? = some (.cells cur.toArray eT (0, 0)) ∧ cur.length = cap * 5 ∧ xs.length ≤ cap ∧ cap ≤ 9223372036854775807 ∧ cur.take (xs.length * 5) = xs.flatMap heldC
theorem Row.own {w : World} {g cap B : Nat} {cur : List Value} {xs : List Held} (h : Row w g cap cur xs) (hB : B ≤ g) : OwnR 5 heldC eT w B (.slice (some ⟨g, 0, none⟩) xs.length cap) xs :=
  ⟨flat_len heldC_len xs, .inr ⟨g, cap, cur.toArray, rfl, hB, h.1, h.2.2.1, by unfold maxLen; exact h.2.2.2.1, by simpa using h.2.1, by simpa using h.2.2.2.2⟩⟩
theorem Row.of {w : World} {B : Nat} {v : Value} {xs : List Held} (h : OwnR 5 heldC eT w B v xs) : (v = .slice none 0 0 ∧ xs = []) ∨ ∃ g cap cur, v = .slice (some ⟨g, 0, none⟩) xs.length cap ∧ B ≤ g ∧ Row w g cap cur xs := by
  rcases h.2 with ⟨rfl, h0⟩ | ⟨g, cap, cur, rfl, hg, hh, hle, hcm, hsz, htk⟩
  · exact .inl ⟨rfl, List.eq_nil_of_length_eq_zero h0⟩
  · exact .inr ⟨g, cap, cur.toList, rfl, hg, by simpa using hh, by simpa using hsz, hle, by unfold maxLen at hcm; exact hcm, htk⟩
theorem Row.cells {w : World} {g cap : Nat} {cur : List Value} {xs : List Held} (h : Row w g cap cur xs) (k : Nat) : ∀ j u, ((xs.drop k).flatMap heldC)[j]? = some u → w.cell? ((⟨g, k * 5, none⟩ : Addr).add j) = some u := by
  intro j u hu
  obtain ⟨h1, h2, h3, h4, h5⟩ := h
  rw [add_plain, cell_of_row w g _ _ _ _ h1]
  rw [← flat_drop, ← h5, List.getElem?_drop, List.getElem?_take] at hu
  split at hu
  · simpa using hu
  · cases hu

/-- what slices.Insert of one element hands back -/
def Ins (B : Nat) (v : Value) (xs : List Held) (i : Nat) (x : Held) (w : World) (e : Ending) (w' : World) : Prop :=
  ∃ q cap, e = .returned (.slice (some ⟨q, 0, none⟩) (xs.length + 1) cap) ∧ OwnR 5 heldC eT w' B (.slice (some ⟨q, 0, none⟩) (xs.length + 1) cap) (xs.take i ++ x :: xs.drop i) ∧ w.grownBy w' v.ownBlock ∧ (v.ownBlock = some q ∨ w.heap.size ≤ q)
theorem grown_set {w w' : World} {g : Nat} {row : Option Nat} (hr : row = some g) (h : w.grownBy w' row) (cs : Array Value) : w.grownBy (w'.setRow g cs) row := by
  subst hr
  exact ⟨h.os, h.tape, h.output, by simpa [World.setRow] using h.size, fun k hk hne => (setRow_other w' g k cs (fun e => hne (by rw [e]))).trans (h.block k hk hne)⟩
theorem shape_row {w : World} {g : Nat} {cs : Array Value} {t : TypeId} {fr : Nat × Nat} (h : w.heap[g]? = some (.cells cs t fr)) : w.shape? g = some (t, cs.size) := by unfold World.shape?; rw [h]
theorem frozen_row {w : World} {g o : Nat} {sp : Option Nat} {cs : Array Value} {t : TypeId} (h : w.heap[g]? = some (.cells cs t (0, 0))) : w.frozen? ⟨g, o, sp⟩ = false := by unfold World.frozen?; rw [h]; simp
theorem len_ins (xs : List Held) (i : Nat) (x : Held) : (xs.take i ++ x :: xs.drop i).length = xs.length + 1 := by
  simp only [List.length_append, List.length_cons, List.length_take, List.length_drop]; omega
/-- the row behind both copies -/
theorem ins_row {cur olds : List Value} {xs : List Held} {x : Held} {i cap : Nat} (hi : i ≤ xs.length) (hcap : xs.length + 1 ≤ cap) (hl : cur.length = cap * 5) (ht : cur.take (i * 5) = (xs.take i).flatMap heldC) :
    (splice (splice cur ((i + 1) * 5) ((xs.drop i).flatMap heldC)) (i * 5) (heldC x)).take ((xs.length + 1) * 5) = (xs.take i ++ x :: xs.drop i).flatMap heldC ∧
    (splice (splice cur ((i + 1) * 5) ((xs.drop i).flatMap heldC)) (i * 5) (heldC x)).length = cap * 5 := by
  have hd : ((xs.drop i).flatMap heldC).length = (xs.length - i) * 5 := by rw [flat_len heldC_len, List.length_drop]
  have hx : (heldC x).length = 5 := heldC_len x
  have f1 : (i + 1) * 5 + ((xs.drop i).flatMap heldC).length ≤ cur.length := by rw [hd, hl]; omega
  have l1 := length_splice cur ((i + 1) * 5) _ f1
  have f2 : i * 5 + (heldC x).length ≤ (splice cur ((i + 1) * 5) ((xs.drop i).flatMap heldC)).length := by rw [l1, hx, hl]; omega
  have l2 := length_splice _ (i * 5) _ f2
  refine ⟨?_, by rw [l2, l1, hl]⟩
  rw [Sg.take_splice _ _ _ _ f2 (by rw [hx]; omega), hx]
  have e1 : (splice cur ((i + 1) * 5) ((xs.drop i).flatMap heldC)).take (i * 5) = (xs.take i).flatMap heldC := by
    unfold splice
    rw [List.take_append_of_le_length (by rw [List.length_take]; omega), List.take_take, Nat.min_eq_left (by omega), ht]
  have e2 : ((splice cur ((i + 1) * 5) ((xs.drop i).flatMap heldC)).drop (i * 5 + 5)).take ((xs.length + 1) * 5 - (i * 5 + 5)) = (xs.drop i).flatMap heldC := by
    have e3 : i * 5 + 5 = (i + 1) * 5 := by omega
    unfold splice
    rw [e3, List.drop_append_of_le_length (by rw [List.length_take]; omega), List.drop_take, Nat.sub_self, List.take_zero, List.nil_append, List.take_append_of_le_length (by rw [hd]; omega), List.take_of_length_le (by rw [hd]; omega)]
  rw [e1, e2, List.flatMap_append, List.flatMap_cons]

set_option maxHeartbeats 4000000 in
/-- there is room, i < len(s): in place -/
theorem ins_room (xs : List Held) (x : Held) (i g cap vb : Nat) (cur : List Value) (w : World) (hi : i < xs.length) (hroom : xs.length + 1 ≤ cap) (h : Row w g cap cur xs) (hv : w.heap[vb]? = some (.cells (heldC x).toArray eT (0, 0))) (hne : vb ≠ g) (B : Nat) (hB : B ≤ g) :
    Calls Try.prog 150 #[.slice (some ⟨g, 0, none⟩) xs.length cap, .int .i64 i, .slice (some ⟨vb, 0, none⟩) 1 1] w (Ins B (.slice (some ⟨g, 0, none⟩) xs.length cap) xs i x w) := by
  obtain ⟨h1, h2, h3, h4, h5⟩ := id h
  have mixed : Try.prog.follows Departure.mixedOrders = true := by kernel_rfl
  have hz1 : ¬ ((1 : Int) = 0) := by omega
  have hz2 : ¬ ((i : Int) = (xs.length : Int)) := by omega
  have hov : ∀ lb cb, (callFunc 153 #[.slice (some ⟨vb, 0, none⟩) 1 1, .slice (some ⟨g, (i + 1) * 5, none⟩) lb cb]).run Try.prog w = .ok (.value (.bool false)) w := fun lb cb => by
    rw [run_callFunc_extern Try.func153 (by kernel_rfl) (by kernel_rfl) (by kernel_rfl) (e := Extern.SlicesOverlaps.overlaps #[sT, sT] #[4]) (by kernel_rfl),
      Lib.run_overlaps_apart w sT 4 eT Try.underlying24 5 (fun w => by first | rfl | kernel_rfl) ⟨vb, 0, none⟩ ⟨g, (i + 1) * 5, none⟩ 1 1 lb cb hne eT eT _ _ (shape_row hv) (shape_row h1) (by rw [List.size_toArray, h2]; omega) (frozen_row hv) (frozen_row hv)]
    rfl
  have hb1 : (0 : Int) ≤ (i : Int) + 1 := by omega
  have htn : ((i : Int) + 1).toNat = i + 1 := by omega
  have hb2 : ¬ (cap = i + 1) := by omega
  have hb3 : (i : Int) ≤ (xs.length : Int) + 1 := by omega
  have hb4 : ¬ (cap = i) := by omega
  have hb5 : (i : Int) + 1 ≤ (xs.length : Int) + 1 := by omega
  have hw1 : IntKind.i64.wrap ((i : Int) + 1) = (i : Int) + 1 := by rw [IntKind.wrap_i64]; omega
  have hw2 : IntKind.i64.wrap ((xs.length : Int) + 1) = (xs.length : Int) + 1 := by rw [IntKind.wrap_i64]; omega
  have htn2 : ((xs.length : Int) + 1).toNat = xs.length + 1 := by omega
  have hd : ((xs.drop i).flatMap heldC).length = (xs.length - i) * 5 := by rw [flat_len heldC_len, List.length_drop]
  have hm1 : Nat.min (xs.length + 1 - i) (xs.length + 1 - (i + 1)) = xs.length - i := by simp only [Nat.min_def]; split <;> omega
  have hm2 : Nat.min 1 (xs.length + 1 - i) = 1 := by simp only [Nat.min_def]; split <;> omega
  have HN1 : Hid (((xs.drop i).flatMap heldC).length = Nat.min (xs.length + 1 - i) (xs.length + 1 - (i + 1)) * 5) := Lib.hid (by rw [hm1]; exact hd)
  have HN2 : Hid ((heldC x).length = Nat.min 1 (xs.length + 1 - i) * 5) := Lib.hid (by rw [hm2, heldC_len x])
  have HF1 : Hid ((i + 1) * 5 + ((xs.drop i).flatMap heldC).length ≤ cur.length) := by rw [hd, h2]; show _ ≤ _; omega
  have HF2 : Hid (i * 5 + (heldC x).length ≤ (splice cur ((i + 1) * 5) ((xs.drop i).flatMap heldC)).length) := by rw [length_splice _ _ _ HF1.out, heldC_len x, h2]; show _ ≤ _; omega
  have HC1 := Lib.hid (h.cells i)
  have HG1 := Lib.hid h1
  have HROW := Lib.hid (ins_row (cur := cur) (olds := []) (x := x) (i := i) (cap := cap) (Nat.le_of_lt hi) hroom h2 (by have e := congrArg (List.take (i * 5)) h5; rw [List.take_take, Nat.min_eq_left (by omega), flat_take] at e; exact e))
  obtain ⟨W1, hW1⟩ : ∃ W1, W1 = w.drew.setRow g (splice cur ((i + 1) * 5) ((xs.drop i).flatMap heldC)).toArray := ⟨_, rfl⟩
  have HG2 : Hid (W1.heap[g]? = some (.cells (splice cur ((i + 1) * 5) ((xs.drop i).flatMap heldC)).toArray eT (0, 0))) := by rw [hW1]; exact setRow_heap w.drew g _ _ _ _ h1
  have HV2 : Hid (W1.heap[vb]? = some (.cells (heldC x).toArray eT (0, 0))) := by rw [hW1]; exact (setRow_other w.drew g vb _ hne).trans hv
  have HGR : Hid (w.grownBy W1 (some g)) := by rw [hW1]; exact grown_set (w := w) (w' := w.drew) rfl ⟨rfl, rfl, rfl, Nat.le_refl _, fun _ _ _ => rfl⟩ _
  have HW1 := Lib.hid hW1
  have HCV : Hid (∀ j u, (heldC x)[j]? = some u → W1.cell? ((⟨vb, 0, none⟩ : Addr).add j) = some u) := fun j u hu => by rw [add_plain, cell_of_row W1 vb _ _ _ _ HV2.out]; simpa using hu
  have HX1 := Lib.hid (flat_one (xs.drop i))
  have HX2 := Lib.hid (heldC_one x)
  clear h h1 h2 h5 hv hW1 hd hm1 hm2
  go_enter Try.func150, Try.ntmps150
  go_wp2_with (simp only [hov])
  go_region_law_o (refine Sg.step_copy_rows rfl _ _ sT sT rfl eT 5 Try.underlying24 size_eT g ((i + 1) * 5) (xs.length + 1 - (i + 1)) (cap - (i + 1)) ⟨g, i * 5, none⟩ (xs.length + 1 - i) (cap - i) (by simp [Act.eval, Act.put]) (by simp [Act.eval, Act.put]) cur eT HG1.out _ HN1.out HC1.out HF1.out HX1.out ?_; rw [← HW1.out])
  go_wp2_with (refine Sg.wpList_copy_rows rfl _ _ sT sT rfl eT 5 Try.underlying24 size_eT g (i * 5) (xs.length + 1 - i) (cap - i) ⟨vb, 0, none⟩ 1 1 rfl rfl _ eT HG2.out (heldC x) HN2.out HCV.out HF2.out HX2.out ?_)
  go_ret
  have hr : Row (W1.setRow g (splice (splice cur ((i + 1) * 5) ((xs.drop i).flatMap heldC)) (i * 5) (heldC x)).toArray) g cap _ (xs.take i ++ x :: xs.drop i) := ⟨setRow_heap _ _ _ _ _ _ HG2.out, HROW.out.2, by rw [len_ins]; exact hroom, h4, by rw [len_ins]; exact HROW.out.1⟩
  have ho := hr.own hB
  rw [len_ins] at ho
  exact ⟨g, cap, rfl, ho, grown_set rfl HGR.out _, .inl rfl⟩

theorem ins_end (xs : List Held) (x : Held) (v : Value) (vb : Nat) (w : World) (B : Nat) (hown : OwnR 5 heldC eT w B v xs) (hv : w.heap[vb]? = some (.cells (heldC x).toArray eT (0, 0))) (hbase : B ≤ w.heap.size) (hsz : (xs.length + 1) * 40 ≤ 140737488355328) :
    Calls Try.prog 150 #[v, .int .i64 xs.length, .slice (some ⟨vb, 0, none⟩) 1 1] w (Ins B v xs xs.length x w) := by
  obtain ⟨i0, hi0, hz0, hzs, hzb⟩ := info_parts info_held
  have hz1 : ¬ ((1 : Int) = 0) := by omega
  have hm : maxLen = 9223372036854775807 := rfl
  have H63 : Hid (xs.length + 1 ≤ maxLen) := Lib.hid (by rw [hm]; omega)
  have HSZ := Lib.hid hsz
  have HCV : Hid (∀ j u, (heldC x)[j]? = some u → w.cell? ((⟨vb, 0, none⟩ : Addr).add j) = some u) := fun j u hu => by rw [add_plain, cell_of_row w vb _ _ _ _ hv]; simpa using hu
  have HX2 := Lib.hid (heldC_one x)
  have HL2 : Hid ((heldC x).length = 1 * 5) := Lib.hid (by rw [heldC_len x])
  have HEND : Hid (∀ q cap w1, w1.ownsRow B eT 5 (.slice (some ⟨q, 0, none⟩) (xs.length + 1) cap) (xs.length + 1) (xs.flatMap heldC ++ heldC x) → OwnR 5 heldC eT w1 B (.slice (some ⟨q, 0, none⟩) (xs.length + 1) cap) (xs.take xs.length ++ x :: xs.drop xs.length)) := Lib.hid (by
    intro q cap w1 h
    unfold OwnR
    rw [len_ins, List.take_length, List.drop_length, List.flatMap_append, List.flatMap_cons, List.flatMap_nil, List.append_nil]
    exact h)
  have HOWN : Hid (w.ownsRow B eT 5 v xs.length (xs.flatMap heldC)) := hown
  have HB := Lib.hid hbase
  rcases Row.of hown with ⟨rfl, rfl⟩ | ⟨g, cap, cur, rfl, hg, hr⟩
  · clear hown hv hbase hsz hm
    go_enter Try.func150, Try.ntmps150
    go_wp2_with (at_builtin; (refine wpList_append_lies _ rfl _ _ sT rfl B eT i0 (.agg #[.int .i64 0, .int .i64 0, .int .u64 0, .int .u64 0, .int .u64 0]) 5 40 Try.underlying24 hi0 hz0 hzs hzb rfl (by decide) (.slice none 0 0) 0 [] rfl (World.ownsRow_nil _ _ _ _) ⟨vb, 0, none⟩ 1 1 (heldC x) rfl HL2.out HCV.out HX2.out (by decide) H63.out HSZ.out HB.out _ rfl ?_; intro q cap w1 h1 h2 h3 h4))
    go_ret
    exact ⟨q, cap, rfl, HEND.out _ _ _ h1, h2, h3.imp id (fun h => by omega)⟩
  · obtain ⟨h1, h2, h3, h4, h5⟩ := id hr
    clear hown hv hbase hsz hm hr h1 h2 h5
    go_enter Try.func150, Try.ntmps150
    go_wp2_with (at_builtin; (refine wpList_append_lies _ rfl _ _ sT rfl B eT i0 (.agg #[.int .i64 0, .int .i64 0, .int .u64 0, .int .u64 0, .int .u64 0]) 5 40 Try.underlying24 hi0 hz0 hzs hzb rfl (by decide) (.slice (some ⟨g, 0, none⟩) xs.length cap) xs.length (xs.flatMap heldC) rfl HOWN.out ⟨vb, 0, none⟩ 1 1 (heldC x) rfl HL2.out HCV.out HX2.out (by decide) H63.out HSZ.out HB.out _ rfl ?_; intro q cap2 w1 h1 h2 h3 h4))
    all_goals
      go_ret
      exact ⟨q, cap2, rfl, HEND.out _ _ _ h1, h2, h3.imp id (fun h => by omega)⟩

theorem ins_row2 {cur : List Value} {xs : List Held} {x : Held} {i cap : Nat} (hi : i ≤ xs.length) (hcap : xs.length + 1 ≤ cap) (hl : cur.length = cap * 5) (ht : cur.take (i * 5) = (xs.take i).flatMap heldC) :
    (splice (splice cur (i * 5) (heldC x)) ((i + 1) * 5) ((xs.drop i).flatMap heldC)).take ((xs.length + 1) * 5) = (xs.take i ++ x :: xs.drop i).flatMap heldC ∧
    (splice (splice cur (i * 5) (heldC x)) ((i + 1) * 5) ((xs.drop i).flatMap heldC)).length = cap * 5 := by
  have hd : ((xs.drop i).flatMap heldC).length = (xs.length - i) * 5 := by rw [flat_len heldC_len, List.length_drop]
  have hx : (heldC x).length = 5 := heldC_len x
  have f1 : i * 5 + (heldC x).length ≤ cur.length := by rw [hx, hl]; omega
  have l1 := length_splice cur (i * 5) _ f1
  have f2 : (i + 1) * 5 + ((xs.drop i).flatMap heldC).length ≤ (splice cur (i * 5) (heldC x)).length := by rw [l1, hd, hl]; omega
  have l2 := length_splice _ ((i + 1) * 5) _ f2
  refine ⟨?_, by rw [l2, l1, hl]⟩
  rw [Sg.take_splice _ _ _ _ f2 (by rw [hd]; omega), hd]
  have e1 : (splice cur (i * 5) (heldC x)).take ((i + 1) * 5) = (xs.take i).flatMap heldC ++ heldC x := by
    rw [Sg.take_splice _ _ _ _ f1 (by rw [hx]; omega), hx, ht, show (i + 1) * 5 - (i * 5 + 5) = 0 by omega, List.take_zero, List.append_nil]
  rw [e1, show (xs.length + 1) * 5 - ((i + 1) * 5 + (xs.length - i) * 5) = 0 by omega, List.take_zero, List.append_nil, List.flatMap_append, List.flatMap_cons, List.append_assoc]

set_option maxHeartbeats 4000000 in
/-- no room, i < len(s): a new row -/
theorem ins_grow (xs : List Held) (x : Held) (i g cap vb : Nat) (cur : List Value) (w : World) (hi : i < xs.length) (hroom : cap < xs.length + 1) (h : Row w g cap cur xs) (hv : w.heap[vb]? = some (.cells (heldC x).toArray eT (0, 0))) (hne : vb ≠ g) (B : Nat) (hbase : B ≤ w.heap.size) (hsz : (xs.length + 1) * 40 ≤ 140737488355328) :
    Calls Try.prog 150 #[.slice (some ⟨g, 0, none⟩) xs.length cap, .int .i64 i, .slice (some ⟨vb, 0, none⟩) 1 1] w (Ins B (.slice (some ⟨g, 0, none⟩) xs.length cap) xs i x w) := by
  obtain ⟨h1, h2, h3, h4, h5⟩ := id h
  have hgl : g < w.heap.size := (Array.getElem?_eq_some_iff.1 h1).1
  have hvl : vb < w.heap.size := (Array.getElem?_eq_some_iff.1 hv).1
  have mixed : Try.prog.follows Departure.mixedOrders = true := by kernel_rfl
  have hm : maxLen = 9223372036854775807 := rfl
  have hz1 : ¬ ((1 : Int) = 0) := by omega
  have hz2 : ¬ ((i : Int) = (xs.length : Int)) := by omega
  have hz3 : (cap : Int) < (xs.length : Int) + 1 := by omega
  have hbig : xs.length ≤ 140737488355327 := by omega
  have hkk : (xs.length : Int) + 1 - (i : Int) = ((xs.length + 1 - i : Nat) : Int) := by omega
  have hik : i + (xs.length + 1 - i) = xs.length + 1 := by omega
  have hd : ((xs.drop i).flatMap heldC).length = (xs.length - i) * 5 := by rw [flat_len heldC_len, List.length_drop]
  have hm2 : Nat.min 1 (xs.length + 1 - i) = 1 := by simp only [Nat.min_def]; split <;> omega
  have hm1 : Nat.min (xs.length - i) (xs.length + 1 - (i + 1)) = xs.length - i := by simp only [Nat.min_def]; split <;> omega
  have HN1 : Hid (((xs.drop i).flatMap heldC).length = Nat.min (xs.length - i) (xs.length + 1 - (i + 1)) * 5) := Lib.hid (by rw [hm1]; exact hd)
  have HN2 : Hid ((heldC x).length = Nat.min 1 (xs.length + 1 - i) * 5) := Lib.hid (by rw [hm2, heldC_len x])
  have HD := Lib.hid hd
  have HKK := Lib.hid hkk
  have HIK := Lib.hid hik
  obtain ⟨N, hN⟩ : ∃ N, N = w.heap.size := ⟨_, rfl⟩
  have HNN := Lib.hid hN
  have HTL : Hid (((xs.take i).flatMap heldC).length = i * 5) := Lib.hid (by rw [flat_len heldC_len, List.length_take, Nat.min_eq_left (by omega)])
  have HTC : Hid (∀ j u, ((xs.take i).flatMap heldC)[j]? = some u → w.cell? ((⟨g, 0, none⟩ : Addr).add j) = some u) := Lib.hid (by
    intro j u hu
    have hl := HTL.out
    have hc := h.cells 0 j u
    rw [List.drop_zero, Nat.zero_mul] at hc
    apply hc
    have e := flat_take xs i
    rw [← e, List.getElem?_take] at hu
    split at hu
    · exact hu
    · cases hu)
  have HGET : Hid (∀ (c2 : List Value) (w1 : World), w1 = w.drew.alloc (.cells c2.toArray eT) → w1.heap[N]? = some (.cells c2.toArray eT (0, 0)) ∧ w1.heap[g]? = some (.cells cur.toArray eT (0, 0)) ∧ w1.heap[vb]? = some (.cells (heldC x).toArray eT (0, 0)) ∧ w.grownBy w1 (some g)) := Lib.hid (by
    intro c2 w1 e
    subst e
    exact ⟨by rw [hN]; exact heap_alloc_new w.drew _, (heap_alloc_old w.drew _ hgl).trans h1, (heap_alloc_old w.drew _ hvl).trans hv, ⟨rfl, rfl, rfl, by simp, fun k hk _ => heap_alloc_old w.drew _ hk⟩⟩)
  have HCELL := Lib.hid (h.cells i)
  have HG1 := Lib.hid h1
  have HX1 := Lib.hid (flat_one (xs.drop i))
  have HX2 := Lib.hid (heldC_one x)
  have HXL := Lib.hid (heldC_len x)
  have HINFO := Lib.hid info_held
  have H63 : Hid (i + (xs.length + 1 - i) ≤ maxLen) := Lib.hid (by rw [hm]; omega)
  have HSB : Hid ((i + (xs.length + 1 - i)) * 40 ≤ 140737488355328) := Lib.hid (by rw [hik]; exact hsz)
  have HB := Lib.hid hbase
  have HGL := Lib.hid hgl
  have HVL := Lib.hid hvl
  have hb1 : (0 : Int) ≤ (i : Int) + 1 := by omega
  have htn : ((i : Int) + 1).toNat = i + 1 := by omega
  have hb3 : (i : Int) ≤ (xs.length : Int) := by omega
  have hb5 : (i : Int) + 1 ≤ (xs.length : Int) + 1 := by omega
  have hb4 : ¬ (cap = i) := by omega
  have hw1 : IntKind.i64.wrap ((i : Int) + 1) = (i : Int) + 1 := by rw [IntKind.wrap_i64]; omega
  clear h h1 h2 h5 hv hd hm1 hm2 hkk hik hgl hvl hbase hsz hm hN
  go_enter Try.func150, Try.ntmps150
  go_wp2_with (first
    | (at_builtin; refine Sg.wpList_append_zeros rfl (.tmp 34) (.tmp 39) sT iT rfl eT (.agg #[.int .i64 0, .int .i64 0, .int .u64 0, .int .u64 0, .int .u64 0]) 5 40 Try.underlying24 Try.underlying3 HINFO.out rfl (by decide) g i cap rfl (xs.length + 1 - i) (congrArg (Value.int .i64) HKK.out) _ HTL.out HTC.out (by omega) (by omega) H63.out HSB.out ?_; intro cap2 c2 w1 q1 q2 q3 q4 q5; have Q1 := Lib.hid q1; have Q2 := Lib.hid q2; have Q3 := Lib.hid q3; have Q4 := Lib.hid q4; have Q5 := Lib.hid (HGET.out c2 w1 q5); have hc1 : ¬ (cap2 = i) := (by omega); have hc2 : ¬ (cap2 = i + 1) := (by omega); have hc3 : cap2 ≤ 9223372036854775807 := (by unfold maxLen at q2; exact q2); clear q1 q2 q3 q4 q5; rw [HIK.out, ← HNN.out])
    | (refine Sg.wpList_copy_rows rfl (.tmp 43) (.tmp 44) sT sT rfl eT 5 Try.underlying24 size_eT N (i * 5) (xs.length + 1 - i) (cap2 - i) ⟨vb, 0, none⟩ 1 1 rfl rfl c2 eT Q5.out.1 (heldC x) HN2.out (fun j u hu => by rw [add_plain, cell_of_row w1 vb _ _ _ _ Q5.out.2.2.1]; simpa using hu) (by have := Q1.out; rw [HXL.out, Q3.out]; omega) HX2.out ?_; generalize hW2 : World.setRow w1 N _ = W2; have HW2 := Lib.hid hW2; clear hW2))
  have HG3 : Hid (W2.heap[N]? = some (.cells (splice c2 (i * 5) (heldC x)).toArray eT (0, 0))) := by rw [← HW2.out]; exact setRow_heap _ _ _ _ _ _ Q5.out.1
  have HGN : Hid (g ≠ N) := Lib.hid (by have := HNN.out; have := HGL.out; omega)
  have HC3 : Hid (∀ j u, ((xs.drop i).flatMap heldC)[j]? = some u → W2.cell? ((⟨g, i * 5, none⟩ : Addr).add j) = some u) := by
    intro j u hu
    have hb : W2.heap[g]? = w.heap[g]? := by rw [← HW2.out]; exact (setRow_other _ _ _ _ HGN.out).trans (Q5.out.2.1.trans HG1.out.symm)
    have := HCELL.out j u hu
    rw [add_plain] at this ⊢
    exact (World.cell?_of_block hb).trans this
  have HF3 : Hid ((i + 1) * 5 + ((xs.drop i).flatMap heldC).length ≤ (splice c2 (i * 5) (heldC x)).length) := Lib.hid (by
    have := Q1.out
    rw [length_splice _ _ _ (by rw [HXL.out, Q3.out]; omega), HD.out, Q3.out]
    omega)
  have HGR : Hid (w.grownBy W2 (some g)) := by
    rw [← HW2.out]
    have q := Q5.out.2.2.2
    have hn := HNN.out
    exact ⟨q.os, q.tape, q.output, by simpa [World.setRow] using q.size, fun k hk hne => (setRow_other _ _ _ _ (by omega)).trans (q.block k hk hne)⟩
  have HROW := Lib.hid (ins_row2 (cur := c2) (x := x) (i := i) (cap := cap2) (Nat.le_of_lt hi) (by have := Q1.out; omega) Q3.out Q4.out)
  go_region_law_o (refine Sg.step_copy_rows rfl _ _ sT sT rfl eT 5 Try.underlying24 size_eT N ((i + 1) * 5) (xs.length + 1 - (i + 1)) (cap2 - (i + 1)) ⟨g, i * 5, none⟩ (xs.length - i) (cap - i) (by simp [Act.eval, Act.put]) (by simp [Act.eval, Act.put]) (splice c2 (i * 5) (heldC x)) eT HG3.out _ HN1.out HC3.out HF3.out HX1.out ?_)
  go_wp2
  go_ret
  have hr : Row (W2.drew.setRow N (splice (splice c2 (i * 5) (heldC x)) ((i + 1) * 5) ((xs.drop i).flatMap heldC)).toArray) N cap2 _ (xs.take i ++ x :: xs.drop i) := ⟨setRow_heap _ _ _ _ _ _ HG3.out, HROW.out.2, by rw [len_ins]; have := Q1.out; omega, hc3, by rw [len_ins]; exact HROW.out.1⟩
  have ho := hr.own (B := B) (by have := HNN.out; have := HB.out; omega)
  rw [len_ins] at ho
  refine ⟨N, cap2, rfl, ho, ?_, .inr (by have := HNN.out; omega)⟩
  have q := HGR.out
  have hn := HNN.out
  exact ⟨q.os, q.tape, q.output, by simpa [World.setRow] using q.size, fun k hk hne => (setRow_other _ _ _ _ (by omega)).trans (q.block k hk hne)⟩

/-- slices.Insert of one element -/
theorem insert_any (xs : List Held) (x : Held) (i : Nat) (v : Value) (vb : Nat) (w : World) (B : Nat) (hown : OwnR 5 heldC eT w B v xs) (hi : i ≤ xs.length) (hv : w.heap[vb]? = some (.cells (heldC x).toArray eT (0, 0))) (hne : v.ownBlock ≠ some vb) (hbase : B ≤ w.heap.size) (hsz : (xs.length + 1) * 40 ≤ 140737488355328) :
    Calls Try.prog 150 #[v, .int .i64 i, .slice (some ⟨vb, 0, none⟩) 1 1] w (Ins B v xs i x w) := by
  rcases Nat.lt_or_ge i xs.length with h | h
  · rcases Row.of hown with ⟨rfl, rfl⟩ | ⟨g, cap, cur, rfl, hg, hr⟩
    · simp at h
    · have hne' : vb ≠ g := fun e => hne (by simp [Value.ownBlock, e])
      rcases Nat.lt_or_ge cap (xs.length + 1) with hc | hc
      · exact ins_grow xs x i g cap vb cur w h hc hr hv hne' B hbase hsz
      · exact ins_room xs x i g cap vb cur w h hc hr hv hne' B hg
  · obtain rfl : i = xs.length := by omega
    exact ins_end xs x v vb w B hown hv hbase hsz

def Cloned (xs : List Held) (w : World) (e : Ending) (w' : World) : Prop := ∃ u, e = .returned u ∧ OwnR 5 heldC eT w' w.heap.size u xs ∧ Below w.heap.size w w'
theorem own_new (w : World) (g : Nat) (hg : w.heap.size = g) {B : Nat} (hB : B ≤ g) : OwnR 5 heldC eT (w.alloc (.cells #[] eT)) B (.slice (some ⟨g, 0, none⟩) 0 0) ([] : List Held) := by
  subst hg
  exact ⟨rfl, .inr ⟨w.heap.size, 0, #[], rfl, hB, heap_alloc_new _ _, Nat.le_refl _, Nat.zero_le _, rfl, rfl⟩⟩
set_option maxHeartbeats 1000000 in
theorem clone_any (xs : List Held) (v : Value) (w : World) (h : SlR 5 heldC w v xs) (hb8 : xs.length * 40 ≤ 140737488351232) :
    Calls Try.prog 111 #[v] w (Cloned xs w) := by
  have hml := h.len
  have HS := Lib.hid (fun A => h.below ((Below.refl w.heap.size w).alloc (Nat.le_refl _) (.cells A eT)) (Nat.le_refl _))
  obtain ⟨a, cap, rfl, h1, h2, h4⟩ := h
  rcases h4 with ⟨rfl, rfl, hnil⟩ | ⟨b, off, sp, rfl, h5⟩
  · subst hnil
    clear HS
    have hq : ∀ w' : World, (binOp BinOp.eql sT (.slice none 0 0) (.slice none 0 0)).run Try.prog w' = .ok (.bool true) w' := fun _ => by first | kernel_rfl | rfl
    go_enter Try.func111, Try.ntmps111
    go_wp2
    go_ret
    exact ⟨_, rfl, OwnR.nil _ _ _, Below.refl _ _⟩
  · clear h5
    have hq : ∀ w' : World, (binOp BinOp.eql sT (.slice (some ⟨b, off, sp⟩) xs.length cap) (.slice none 0 0)).run Try.prog w' = .ok (.bool false) w' := fun _ => by first | kernel_rfl | rfl
    go_enter Try.func111, Try.ntmps111
    go_wp2_with (at_builtin; (refine appR heldC_len heldC_one Try.underlying24 rfl (by decide) info_held rfl _ _ rfl w.heap.size _ [] rfl (own_new w w.heap.size rfl (Nat.le_refl _)) _ xs rfl (HS.out _) (by simpa using hml) (by simp; omega) (by simp) ?_; intro v1 w1 hown1 hb1; rw [List.nil_append] at hown1))
    go_ret
    exact ⟨_, rfl, hown1, ((Below.refl _ _).alloc (Nat.le_refl _) _).trans hb1⟩

/-- what slices.Delete of one element hands back -/
def Del (B g cap : Nat) (xs : List Held) (i : Nat) (w : World) (e : Ending) (w' : World) : Prop :=
  e = .returned (.slice (some ⟨g, 0, none⟩) (xs.length - 1) cap) ∧ OwnR 5 heldC eT w' B (.slice (some ⟨g, 0, none⟩) (xs.length - 1) cap) (xs.take i ++ xs.drop (i + 1)) ∧ w.grownBy w' (some g)
theorem len_del {xs : List Held} {i : Nat} (hi : i < xs.length) : (xs.take i ++ xs.drop (i + 1)).length = xs.length - 1 := by
  simp only [List.length_append, List.length_take, List.length_drop]; omega
theorem del_row {cur : List Value} {xs : List Held} {i cap : Nat} {zs : List Value} (hi : i < xs.length) (hcap : xs.length ≤ cap) (hl : cur.length = cap * 5) (ht : cur.take (i * 5) = (xs.take i).flatMap heldC) (hz : zs.length = 5) :
    (splice (splice cur (i * 5) ((xs.drop (i + 1)).flatMap heldC)) ((xs.length - 1) * 5) zs).take ((xs.length - 1) * 5) = (xs.take i ++ xs.drop (i + 1)).flatMap heldC ∧
    (splice (splice cur (i * 5) ((xs.drop (i + 1)).flatMap heldC)) ((xs.length - 1) * 5) zs).length = cap * 5 := by
  have hd : ((xs.drop (i + 1)).flatMap heldC).length = (xs.length - (i + 1)) * 5 := by rw [flat_len heldC_len, List.length_drop]
  have f1 : i * 5 + ((xs.drop (i + 1)).flatMap heldC).length ≤ cur.length := by rw [hd, hl]; omega
  have l1 := length_splice cur (i * 5) _ f1
  have f2 : (xs.length - 1) * 5 + zs.length ≤ (splice cur (i * 5) ((xs.drop (i + 1)).flatMap heldC)).length := by rw [l1, hz, hl]; omega
  have l2 := length_splice _ ((xs.length - 1) * 5) _ f2
  refine ⟨?_, by rw [l2, l1, hl]⟩
  have e1 : (splice (splice cur (i * 5) ((xs.drop (i + 1)).flatMap heldC)) ((xs.length - 1) * 5) zs).take ((xs.length - 1) * 5) = (splice cur (i * 5) ((xs.drop (i + 1)).flatMap heldC)).take ((xs.length - 1) * 5) := by
    rw [show splice (splice cur (i * 5) ((xs.drop (i + 1)).flatMap heldC)) ((xs.length - 1) * 5) zs = (splice cur (i * 5) ((xs.drop (i + 1)).flatMap heldC)).take ((xs.length - 1) * 5) ++ _ from rfl, List.take_append_of_le_length (by rw [List.length_take, l1, hl]; omega), List.take_take, Nat.min_self]
  rw [e1, Sg.take_splice _ _ _ _ f1 (by rw [hd]; omega), hd, ht, show (xs.length - 1) * 5 - (i * 5 + (xs.length - (i + 1)) * 5) = 0 by omega, List.take_zero, List.append_nil, List.flatMap_append]
theorem zero_run (w : World) : (zeroValue eT).run Try.prog w = .ok (.agg #[.int .i64 0, .int .i64 0, .int .u64 0, .int .u64 0, .int .u64 0]) w := by first | rfl | kernel_rfl
theorem zero_len : (Builtin.zeroCells (Value.cells (.agg #[.int .i64 0, .int .i64 0, .int .u64 0, .int .u64 0, .int .u64 0])) 1).toList.length = 5 := by rw [Array.length_toList, size_zeroCells]; rfl
theorem zero_ones : ∀ u ∈ (Builtin.zeroCells (Value.cells (.agg #[.int .i64 0, .int .i64 0, .int .u64 0, .int .u64 0, .int .u64 0])) 1).toList, u.oneCell' = true := Sg.zero_one (by decide) (by decide)

set_option maxHeartbeats 4000000 in
theorem delete_any (xs : List Held) (i g cap : Nat) (cur : List Value) (w : World) (hi : i < xs.length) (h : Row w g cap cur xs) (B : Nat) (hB : B ≤ g) :
    Calls Try.prog 145 #[.slice (some ⟨g, 0, none⟩) xs.length cap, .int .i64 i, .int .i64 ((i : Int) + 1)] w (Del B g cap xs i w) := by
  obtain ⟨h1, h2, h3, h4, h5⟩ := id h
  have mixed : Try.prog.follows Departure.mixedOrders = true := by kernel_rfl
  obtain ⟨i0, hi0, hz0, hzs, hzb⟩ := info_parts info_held
  obtain ⟨A, hA, HA⟩ : ∃ A : Addr, (if cap = i + 1 then some (⟨g, 0, none⟩ : Addr) else some ⟨g, (i + 1) * 5, none⟩) = some A ∧ Hid (∀ j u, ((xs.drop (i + 1)).flatMap heldC)[j]? = some u → w.cell? (A.add j) = some u) := by
    by_cases hc : cap = i + 1
    · refine ⟨⟨g, 0, none⟩, if_pos hc, fun j u hu => ?_⟩
      rw [List.drop_of_length_le (by omega)] at hu
      simp at hu
    · exact ⟨⟨g, (i + 1) * 5, none⟩, if_neg hc, h.cells (i + 1)⟩
  have hne : ¬ ((i : Int) = (i : Int) + 1) := by omega
  have hw1 : IntKind.i64.wrap ((i : Int) + 1) = (i : Int) + 1 := by rw [IntKind.wrap_i64]; omega
  have hb1 : (0 : Int) ≤ (i : Int) + 1 := by omega
  have hb2 : (i : Int) + 1 ≤ (xs.length : Int) := by omega
  have hb3 : (i : Int) ≤ (i : Int) + 1 := by omega
  have htn : ((i : Int) + 1).toNat = i + 1 := by omega
  have hic : i ≤ cap := by omega
  have hjc : i + 1 ≤ cap := by omega
  have hnc : ¬ (cap = xs.length - 1) := by omega
  have HIK : Hid (i + (xs.length - (i + 1)) = xs.length - 1) := Lib.hid (by omega)
  have HONE : Hid (xs.length - (xs.length - 1) = 1) := Lib.hid (by omega)
  have hd : ((xs.drop (i + 1)).flatMap heldC).length = (xs.length - (i + 1)) * 5 := by rw [flat_len heldC_len, List.length_drop]
  have HD := Lib.hid hd
  have HX := Lib.hid (flat_one (xs.drop (i + 1)))
  have HF1 : Hid (i * 5 + ((xs.drop (i + 1)).flatMap heldC).length ≤ cur.length) := by rw [hd, h2]; show _ ≤ _; omega
  have HG1 := Lib.hid h1
  have H2 := Lib.hid h2
  have HROW := Lib.hid (del_row (cur := cur) (i := i) (cap := cap) (zs := (Builtin.zeroCells (Value.cells (.agg #[.int .i64 0, .int .i64 0, .int .u64 0, .int .u64 0, .int .u64 0])) 1).toList) hi h3 h2 (by have e := congrArg (List.take (i * 5)) h5; rw [List.take_take, Nat.min_eq_left (by omega), flat_take] at e; exact e) zero_len)
  obtain ⟨W1, hW1⟩ : ∃ W1, W1 = w.drew.setRow g (splice cur (i * 5) ((xs.drop (i + 1)).flatMap heldC)).toArray := ⟨_, rfl⟩
  have HG2 : Hid (W1.heap[g]? = some (.cells (splice cur (i * 5) ((xs.drop (i + 1)).flatMap heldC)).toArray eT (0, 0))) := by rw [hW1]; exact setRow_heap w.drew g _ _ _ _ h1
  have HGR : Hid (w.grownBy W1 (some g)) := by
    rw [hW1]
    exact ⟨rfl, rfl, rfl, by simp [World.setRow], fun k hk hne => setRow_other w.drew g k _ (fun e => hne (by rw [e]))⟩
  have HW1 := Lib.hid hW1
  have HF2 : Hid ((xs.length - 1) * 5 + 1 * 5 ≤ (splice cur (i * 5) ((xs.drop (i + 1)).flatMap heldC)).length) := by rw [length_splice _ _ _ HF1.out, h2]; show _ ≤ _; omega
  clear h h1 h2 h5 hd hW1
  go_enter Try.func145, Try.ntmps145
  go_wp2_with fail
  go_region_law_o (refine Sg.step_append_rows rfl (.tmp 22) (.tmp 25) sT rfl eT i0 5 Try.underlying24 hi0 hzs g i cap (by simp [Act.eval, Act.put]) A (xs.length - (i + 1)) (cap - (i + 1)) _ (by simp [Act.eval, Act.put, hA]) HD.out HA.out HX.out (by omega) cur HG1.out HF1.out ?_; rw [← HW1.out, HIK.out])
  go_wp2_with (refine Sg.wpList_clear_rows rfl _ sT rfl eT (.agg #[.int .i64 0, .int .i64 0, .int .u64 0, .int .u64 0, .int .u64 0]) 5 1 Try.underlying24 zero_run rfl zero_ones g ((xs.length - 1) * 5) (cap - (xs.length - 1)) (congrArg (fun q => Value.slice (some ⟨g, (xs.length - 1) * 5, none⟩) q (cap - (xs.length - 1))) HONE.out) (by decide) _ eT HG2.out HF2.out ?_)
  go_ret
  have hr : Row (W1.setRow g (splice (splice cur (i * 5) ((xs.drop (i + 1)).flatMap heldC)) ((xs.length - 1) * 5) (Builtin.zeroCells (Value.cells (.agg #[.int .i64 0, .int .i64 0, .int .u64 0, .int .u64 0, .int .u64 0])) 1).toList).toArray) g cap _ (xs.take i ++ xs.drop (i + 1)) := ⟨setRow_heap _ _ _ _ _ _ HG2.out, HROW.out.2, by rw [len_del hi]; omega, h4, by rw [len_del hi]; exact HROW.out.1⟩
  have ho := hr.own hB
  rw [len_del hi] at ho
  have q := HGR.out
  exact ⟨rfl, ho, ⟨q.os, q.tape, q.output, by simpa [World.setRow] using q.size, fun k hk hne => (setRow_other _ _ _ _ (fun e => hne (by rw [e]))).trans (q.block k hk hne)⟩⟩
end Ih
end Go.Proofs.Ytlkgmjhejocobaa
namespace Go.Proofs.Ytlkgmjhejocobaa
open Go.ChangeShapes Go.WideShapes Go.ChangeAt Go.RowKit Go.Deep
set_option linter.unusedVariables false
set_option maxRecDepth 100000
set_option linter.unusedSimpArgs false
namespace Il
abbrev eT : TypeId := 78
abbrev sT : TypeId := 25
abbrev iT : TypeId := 3
theorem size_eT : (Try.prog.info? eT).map (·.size) = some 6 := by kernel_rfl
theorem flat_one (xs : List LastR) : ∀ u ∈ xs.flatMap lastC, u.oneCell' = true := fun u hu => by
  obtain ⟨y, _, hy⟩ := List.mem_flatMap.1 hu
  exact lastC_one y u hy
theorem flat_drop (xs : List LastR) : ∀ i, (xs.flatMap lastC).drop (i * 6) = (xs.drop i).flatMap lastC := by
  induction xs with
  | nil => intro i; simp
  | cons x xs ih =>
    intro i
    cases i with
    | zero => simp
    | succ i =>
      rw [List.drop_succ_cons, ← ih i, List.flatMap_cons, Nat.add_mul, Nat.one_mul, Nat.add_comm, List.drop_append, lastC_len, List.drop_of_length_le (by rw [lastC_len]; omega), List.nil_append]
      congr 1
      omega
theorem flat_take (xs : List LastR) : ∀ i, (xs.flatMap lastC).take (i * 6) = (xs.take i).flatMap lastC := by
  induction xs with
  | nil => intro i; simp
  | cons x xs ih =>
    intro i
    cases i with
    | zero => simp
    | succ i =>
      rw [List.take_succ_cons, List.flatMap_cons, List.flatMap_cons, ← ih i, Nat.add_mul, Nat.one_mul, List.take_append, lastC_len, List.take_of_length_le (by rw [lastC_len]; omega)]
      congr 2
/-- a row that is known whole, and what stands in it -/
def Row (w : World) (g cap : Nat) (cur : List Value) (xs : List LastR) : Prop := w.heap[g]? = some (.cells cur.toArray eT (0, 0)) ∧ cur.length = cap * 6 ∧ xs.length ≤ cap ∧ cap ≤ 9223372036854775807 ∧ cur.take (xs.length * 6) = xs.flatMap lastC
theorem Row.own {w : World} {g cap B : Nat} {cur : List Value} {xs : List LastR} (h : Row w g cap cur xs) (hB : B ≤ g) : OwnR 6 lastC eT w B (.slice (some ⟨g, 0, none⟩) xs.length cap) xs :=
  ⟨flat_len lastC_len xs, .inr ⟨g, cap, cur.toArray, rfl, hB, h.1, h.2.2.1, by unfold maxLen; exact h.2.2.2.1, by simpa using h.2.1, by simpa using h.2.2.2.2⟩⟩
theorem Row.of {w : World} {B : Nat} {v : Value} {xs : List LastR} (h : OwnR 6 lastC eT w B v xs) : (v = .slice none 0 0 ∧ xs = []) ∨ ∃ g cap cur, v = .slice (some ⟨g, 0, none⟩) xs.length cap ∧ B ≤ g ∧ Row w g cap cur xs := by
  rcases h.2 with ⟨rfl, h0⟩ | ⟨g, cap, cur, rfl, hg, hh, hle, hcm, hsz, htk⟩
  · exact .inl ⟨rfl, List.eq_nil_of_length_eq_zero h0⟩
  · exact .inr ⟨g, cap, cur.toList, rfl, hg, by simpa using hh, by simpa using hsz, hle, by unfold maxLen at hcm; exact hcm, htk⟩
theorem Row.cells {w : World} {g cap : Nat} {cur : List Value} {xs : List LastR} (h : Row w g cap cur xs) (k : Nat) : ∀ j u, ((xs.drop k).flatMap lastC)[j]? = some u → w.cell? ((⟨g, k * 6, none⟩ : Addr).add j) = some u := by
  intro j u hu
  obtain ⟨h1, h2, h3, h4, h5⟩ := h
  rw [add_plain, cell_of_row w g _ _ _ _ h1]
  rw [← flat_drop, ← h5, List.getElem?_drop, List.getElem?_take] at hu
  split at hu
  · simpa using hu
  · cases hu

/-- what slices.Insert of one element hands back -/
def Ins (B : Nat) (v : Value) (xs : List LastR) (i : Nat) (x : LastR) (w : World) (e : Ending) (w' : World) : Prop :=
  ∃ q cap, e = .returned (.slice (some ⟨q, 0, none⟩) (xs.length + 1) cap) ∧ OwnR 6 lastC eT w' B (.slice (some ⟨q, 0, none⟩) (xs.length + 1) cap) (xs.take i ++ x :: xs.drop i) ∧ w.grownBy w' v.ownBlock ∧ (v.ownBlock = some q ∨ w.heap.size ≤ q)
theorem grown_set {w w' : World} {g : Nat} {row : Option Nat} (hr : row = some g) (h : w.grownBy w' row) (cs : Array Value) : w.grownBy (w'.setRow g cs) row := by
  subst hr
  exact ⟨h.os, h.tape, h.output, by simpa [World.setRow] using h.size, fun k hk hne => (setRow_other w' g k cs (fun e => hne (by rw [e]))).trans (h.block k hk hne)⟩
theorem shape_row {w : World} {g : Nat} {cs : Array Value} {t : TypeId} {fr : Nat × Nat} (h : w.heap[g]? = some (.cells cs t fr)) : w.shape? g = some (t, cs.size) := by unfold World.shape?; rw [h]
theorem frozen_row {w : World} {g o : Nat} {sp : Option Nat} {cs : Array Value} {t : TypeId} (h : w.heap[g]? = some (.cells cs t (0, 0))) : w.frozen? ⟨g, o, sp⟩ = false := by unfold World.frozen?; rw [h]; simp
theorem len_ins (xs : List LastR) (i : Nat) (x : LastR) : (xs.take i ++ x :: xs.drop i).length = xs.length + 1 := by
  simp only [List.length_append, List.length_cons, List.length_take, List.length_drop]; omega
/-- the row behind both copies -/
theorem ins_row {cur olds : List Value} {xs : List LastR} {x : LastR} {i cap : Nat} (hi : i ≤ xs.length) (hcap : xs.length + 1 ≤ cap) (hl : cur.length = cap * 6) (ht : cur.take (i * 6) = (xs.take i).flatMap lastC) :
    (splice (splice cur ((i + 1) * 6) ((xs.drop i).flatMap lastC)) (i * 6) (lastC x)).take ((xs.length + 1) * 6) = (xs.take i ++ x :: xs.drop i).flatMap lastC ∧
    (splice (splice cur ((i + 1) * 6) ((xs.drop i).flatMap lastC)) (i * 6) (lastC x)).length = cap * 6 := by
  have hd : ((xs.drop i).flatMap lastC).length = (xs.length - i) * 6 := by rw [flat_len lastC_len, List.length_drop]
  have hx : (lastC x).length = 6 := lastC_len x
  have f1 : (i + 1) * 6 + ((xs.drop i).flatMap lastC).length ≤ cur.length := by rw [hd, hl]; omega
  have l1 := length_splice cur ((i + 1) * 6) _ f1
  have f2 : i * 6 + (lastC x).length ≤ (splice cur ((i + 1) * 6) ((xs.drop i).flatMap lastC)).length := by rw [l1, hx, hl]; omega
  have l2 := length_splice _ (i * 6) _ f2
  refine ⟨?_, by rw [l2, l1, hl]⟩
  rw [Sg.take_splice _ _ _ _ f2 (by rw [hx]; omega), hx]
  have e1 : (splice cur ((i + 1) * 6) ((xs.drop i).flatMap lastC)).take (i * 6) = (xs.take i).flatMap lastC := by
    unfold splice
    rw [List.take_append_of_le_length (by rw [List.length_take]; omega), List.take_take, Nat.min_eq_left (by omega), ht]
  have e2 : ((splice cur ((i + 1) * 6) ((xs.drop i).flatMap lastC)).drop (i * 6 + 6)).take ((xs.length + 1) * 6 - (i * 6 + 6)) = (xs.drop i).flatMap lastC := by
    have e3 : i * 6 + 6 = (i + 1) * 6 := by omega
    unfold splice
    rw [e3, List.drop_append_of_le_length (by rw [List.length_take]; omega), List.drop_take, Nat.sub_self, List.take_zero, List.nil_append, List.take_append_of_le_length (by rw [hd]; omega), List.take_of_length_le (by rw [hd]; omega)]
  rw [e1, e2, List.flatMap_append, List.flatMap_cons]

set_option maxHeartbeats 4000000 in
/-- there is room, i < len(s): in place -/
theorem ins_room (xs : List LastR) (x : LastR) (i g cap vb : Nat) (cur : List Value) (w : World) (hi : i < xs.length) (hroom : xs.length + 1 ≤ cap) (h : Row w g cap cur xs) (hv : w.heap[vb]? = some (.cells (lastC x).toArray eT (0, 0))) (hne : vb ≠ g) (B : Nat) (hB : B ≤ g) :
    Calls Try.prog 148 #[.slice (some ⟨g, 0, none⟩) xs.length cap, .int .i64 i, .slice (some ⟨vb, 0, none⟩) 1 1] w (Ins B (.slice (some ⟨g, 0, none⟩) xs.length cap) xs i x w) := by
  obtain ⟨h1, h2, h3, h4, h5⟩ := id h
  have mixed : Try.prog.follows Departure.mixedOrders = true := by kernel_rfl
  have hz1 : ¬ ((1 : Int) = 0) := by omega
  have hz2 : ¬ ((i : Int) = (xs.length : Int)) := by omega
  have hov : ∀ lb cb, (callFunc 151 #[.slice (some ⟨vb, 0, none⟩) 1 1, .slice (some ⟨g, (i + 1) * 6, none⟩) lb cb]).run Try.prog w = .ok (.value (.bool false)) w := fun lb cb => by
    rw [run_callFunc_extern Try.func151 (by kernel_rfl) (by kernel_rfl) (by kernel_rfl) (e := Extern.SlicesOverlaps.overlaps #[sT, sT] #[4]) (by kernel_rfl),
      Lib.run_overlaps_apart w sT 4 eT Try.underlying25 6 (fun w => by first | rfl | kernel_rfl) ⟨vb, 0, none⟩ ⟨g, (i + 1) * 6, none⟩ 1 1 lb cb hne eT eT _ _ (shape_row hv) (shape_row h1) (by rw [List.size_toArray, h2]; omega) (frozen_row hv) (frozen_row hv)]
    rfl
  have hb1 : (0 : Int) ≤ (i : Int) + 1 := by omega
  have htn : ((i : Int) + 1).toNat = i + 1 := by omega
  have hb2 : ¬ (cap = i + 1) := by omega
  have hb3 : (i : Int) ≤ (xs.length : Int) + 1 := by omega
  have hb4 : ¬ (cap = i) := by omega
  have hb5 : (i : Int) + 1 ≤ (xs.length : Int) + 1 := by omega
  have hw1 : IntKind.i64.wrap ((i : Int) + 1) = (i : Int) + 1 := by rw [IntKind.wrap_i64]; omega
  have hw2 : IntKind.i64.wrap ((xs.length : Int) + 1) = (xs.length : Int) + 1 := by rw [IntKind.wrap_i64]; omega
  have htn2 : ((xs.length : Int) + 1).toNat = xs.length + 1 := by omega
  have hd : ((xs.drop i).flatMap lastC).length = (xs.length - i) * 6 := by rw [flat_len lastC_len, List.length_drop]
  have hm1 : Nat.min (xs.length + 1 - i) (xs.length + 1 - (i + 1)) = xs.length - i := by simp only [Nat.min_def]; split <;> omega
  have hm2 : Nat.min 1 (xs.length + 1 - i) = 1 := by simp only [Nat.min_def]; split <;> omega
  have HN1 : Hid (((xs.drop i).flatMap lastC).length = Nat.min (xs.length + 1 - i) (xs.length + 1 - (i + 1)) * 6) := Lib.hid (by rw [hm1]; exact hd)
  have HN2 : Hid ((lastC x).length = Nat.min 1 (xs.length + 1 - i) * 6) := Lib.hid (by rw [hm2, lastC_len x])
  have HF1 : Hid ((i + 1) * 6 + ((xs.drop i).flatMap lastC).length ≤ cur.length) := by rw [hd, h2]; show _ ≤ _; omega
  have HF2 : Hid (i * 6 + (lastC x).length ≤ (splice cur ((i + 1) * 6) ((xs.drop i).flatMap lastC)).length) := by rw [length_splice _ _ _ HF1.out, lastC_len x, h2]; show _ ≤ _; omega
  have HC1 := Lib.hid (h.cells i)
  have HG1 := Lib.hid h1
  have HROW := Lib.hid (ins_row (cur := cur) (olds := []) (x := x) (i := i) (cap := cap) (Nat.le_of_lt hi) hroom h2 (by have e := congrArg (List.take (i * 6)) h5; rw [List.take_take, Nat.min_eq_left (by omega), flat_take] at e; exact e))
  obtain ⟨W1, hW1⟩ : ∃ W1, W1 = w.drew.setRow g (splice cur ((i + 1) * 6) ((xs.drop i).flatMap lastC)).toArray := ⟨_, rfl⟩
  have HG2 : Hid (W1.heap[g]? = some (.cells (splice cur ((i + 1) * 6) ((xs.drop i).flatMap lastC)).toArray eT (0, 0))) := by rw [hW1]; exact setRow_heap w.drew g _ _ _ _ h1
  have HV2 : Hid (W1.heap[vb]? = some (.cells (lastC x).toArray eT (0, 0))) := by rw [hW1]; exact (setRow_other w.drew g vb _ hne).trans hv
  have HGR : Hid (w.grownBy W1 (some g)) := by rw [hW1]; exact grown_set (w := w) (w' := w.drew) rfl ⟨rfl, rfl, rfl, Nat.le_refl _, fun _ _ _ => rfl⟩ _
  have HW1 := Lib.hid hW1
  have HCV : Hid (∀ j u, (lastC x)[j]? = some u → W1.cell? ((⟨vb, 0, none⟩ : Addr).add j) = some u) := fun j u hu => by rw [add_plain, cell_of_row W1 vb _ _ _ _ HV2.out]; simpa using hu
  have HX1 := Lib.hid (flat_one (xs.drop i))
  have HX2 := Lib.hid (lastC_one x)
  clear h h1 h2 h5 hv hW1 hd hm1 hm2
  go_enter Try.func148, Try.ntmps148
  go_wp2_with (simp only [hov])
  go_region_law_o (refine Sg.step_copy_rows rfl _ _ sT sT rfl eT 6 Try.underlying25 size_eT g ((i + 1) * 6) (xs.length + 1 - (i + 1)) (cap - (i + 1)) ⟨g, i * 6, none⟩ (xs.length + 1 - i) (cap - i) (by simp [Act.eval, Act.put]) (by simp [Act.eval, Act.put]) cur eT HG1.out _ HN1.out HC1.out HF1.out HX1.out ?_; rw [← HW1.out])
  go_wp2_with (refine Sg.wpList_copy_rows rfl _ _ sT sT rfl eT 6 Try.underlying25 size_eT g (i * 6) (xs.length + 1 - i) (cap - i) ⟨vb, 0, none⟩ 1 1 rfl rfl _ eT HG2.out (lastC x) HN2.out HCV.out HF2.out HX2.out ?_)
  go_ret
  have hr : Row (W1.setRow g (splice (splice cur ((i + 1) * 6) ((xs.drop i).flatMap lastC)) (i * 6) (lastC x)).toArray) g cap _ (xs.take i ++ x :: xs.drop i) := ⟨setRow_heap _ _ _ _ _ _ HG2.out, HROW.out.2, by rw [len_ins]; exact hroom, h4, by rw [len_ins]; exact HROW.out.1⟩
  have ho := hr.own hB
  rw [len_ins] at ho
  exact ⟨g, cap, rfl, ho, grown_set rfl HGR.out _, .inl rfl⟩

theorem ins_end (xs : List LastR) (x : LastR) (v : Value) (vb : Nat) (w : World) (B : Nat) (hown : OwnR 6 lastC eT w B v xs) (hv : w.heap[vb]? = some (.cells (lastC x).toArray eT (0, 0))) (hbase : B ≤ w.heap.size) (hsz : (xs.length + 1) * 48 ≤ 140737488355328) :
    Calls Try.prog 148 #[v, .int .i64 xs.length, .slice (some ⟨vb, 0, none⟩) 1 1] w (Ins B v xs xs.length x w) := by
  obtain ⟨i0, hi0, hz0, hzs, hzb⟩ := info_parts info_last
  have hz1 : ¬ ((1 : Int) = 0) := by omega
  have hm : maxLen = 9223372036854775807 := rfl
  have H63 : Hid (xs.length + 1 ≤ maxLen) := Lib.hid (by rw [hm]; omega)
  have HSZ := Lib.hid hsz
  have HCV : Hid (∀ j u, (lastC x)[j]? = some u → w.cell? ((⟨vb, 0, none⟩ : Addr).add j) = some u) := fun j u hu => by rw [add_plain, cell_of_row w vb _ _ _ _ hv]; simpa using hu
  have HX2 := Lib.hid (lastC_one x)
  have HL2 : Hid ((lastC x).length = 1 * 6) := Lib.hid (by rw [lastC_len x])
  have HEND : Hid (∀ q cap w1, w1.ownsRow B eT 6 (.slice (some ⟨q, 0, none⟩) (xs.length + 1) cap) (xs.length + 1) (xs.flatMap lastC ++ lastC x) → OwnR 6 lastC eT w1 B (.slice (some ⟨q, 0, none⟩) (xs.length + 1) cap) (xs.take xs.length ++ x :: xs.drop xs.length)) := Lib.hid (by
    intro q cap w1 h
    unfold OwnR
    rw [len_ins, List.take_length, List.drop_length, List.flatMap_append, List.flatMap_cons, List.flatMap_nil, List.append_nil]
    exact h)
  have HOWN : Hid (w.ownsRow B eT 6 v xs.length (xs.flatMap lastC)) := hown
  have HB := Lib.hid hbase
  rcases Row.of hown with ⟨rfl, rfl⟩ | ⟨g, cap, cur, rfl, hg, hr⟩
  · clear hown hv hbase hsz hm
    go_enter Try.func148, Try.ntmps148
    go_wp2_with (at_builtin; (refine wpList_append_lies _ rfl _ _ sT rfl B eT i0 (.agg #[.int .i64 0, .int .u64 0, .int .u64 0, .int .i64 0, .int .i64 0, .int .u64 0]) 6 48 Try.underlying25 hi0 hz0 hzs hzb rfl (by decide) (.slice none 0 0) 0 [] rfl (World.ownsRow_nil _ _ _ _) ⟨vb, 0, none⟩ 1 1 (lastC x) rfl HL2.out HCV.out HX2.out (by decide) H63.out HSZ.out HB.out _ rfl ?_; intro q cap w1 h1 h2 h3 h4))
    go_ret
    exact ⟨q, cap, rfl, HEND.out _ _ _ h1, h2, h3.imp id (fun h => by omega)⟩
  · obtain ⟨h1, h2, h3, h4, h5⟩ := id hr
    clear hown hv hbase hsz hm hr h1 h2 h5
    go_enter Try.func148, Try.ntmps148
    go_wp2_with (at_builtin; (refine wpList_append_lies _ rfl _ _ sT rfl B eT i0 (.agg #[.int .i64 0, .int .u64 0, .int .u64 0, .int .i64 0, .int .i64 0, .int .u64 0]) 6 48 Try.underlying25 hi0 hz0 hzs hzb rfl (by decide) (.slice (some ⟨g, 0, none⟩) xs.length cap) xs.length (xs.flatMap lastC) rfl HOWN.out ⟨vb, 0, none⟩ 1 1 (lastC x) rfl HL2.out HCV.out HX2.out (by decide) H63.out HSZ.out HB.out _ rfl ?_; intro q cap2 w1 h1 h2 h3 h4))
    all_goals
      go_ret
      exact ⟨q, cap2, rfl, HEND.out _ _ _ h1, h2, h3.imp id (fun h => by omega)⟩

theorem ins_row2 {cur : List Value} {xs : List LastR} {x : LastR} {i cap : Nat} (hi : i ≤ xs.length) (hcap : xs.length + 1 ≤ cap) (hl : cur.length = cap * 6) (ht : cur.take (i * 6) = (xs.take i).flatMap lastC) :
    (splice (splice cur (i * 6) (lastC x)) ((i + 1) * 6) ((xs.drop i).flatMap lastC)).take ((xs.length + 1) * 6) = (xs.take i ++ x :: xs.drop i).flatMap lastC ∧
    (splice (splice cur (i * 6) (lastC x)) ((i + 1) * 6) ((xs.drop i).flatMap lastC)).length = cap * 6 := by
  have hd : ((xs.drop i).flatMap lastC).length = (xs.length - i) * 6 := by rw [flat_len lastC_len, List.length_drop]
  have hx : (lastC x).length = 6 := lastC_len x
  have f1 : i * 6 + (lastC x).length ≤ cur.length := by rw [hx, hl]; omega
  have l1 := length_splice cur (i * 6) _ f1
  have f2 : (i + 1) * 6 + ((xs.drop i).flatMap lastC).length ≤ (splice cur (i * 6) (lastC x)).length := by rw [l1, hd, hl]; omega
  have l2 := length_splice _ ((i + 1) * 6) _ f2
  refine ⟨?_, by rw [l2, l1, hl]⟩
  rw [Sg.take_splice _ _ _ _ f2 (by rw [hd]; omega), hd]
  have e1 : (splice cur (i * 6) (lastC x)).take ((i + 1) * 6) = (xs.take i).flatMap lastC ++ lastC x := by
    rw [Sg.take_splice _ _ _ _ f1 (by rw [hx]; omega), hx, ht, show (i + 1) * 6 - (i * 6 + 6) = 0 by omega, List.take_zero, List.append_nil]
  rw [e1, show (xs.length + 1) * 6 - ((i + 1) * 6 + (xs.length - i) * 6) = 0 by omega, List.take_zero, List.append_nil, List.flatMap_append, List.flatMap_cons, List.append_assoc]

set_option maxHeartbeats 4000000 in
/-- no room, i < len(s): a new row -/
theorem ins_grow (xs : List LastR) (x : LastR) (i g cap vb : Nat) (cur : List Value) (w : World) (hi : i < xs.length) (hroom : cap < xs.length + 1) (h : Row w g cap cur xs) (hv : w.heap[vb]? = some (.cells (lastC x).toArray eT (0, 0))) (hne : vb ≠ g) (B : Nat) (hbase : B ≤ w.heap.size) (hsz : (xs.length + 1) * 48 ≤ 140737488355328) :
    Calls Try.prog 148 #[.slice (some ⟨g, 0, none⟩) xs.length cap, .int .i64 i, .slice (some ⟨vb, 0, none⟩) 1 1] w (Ins B (.slice (some ⟨g, 0, none⟩) xs.length cap) xs i x w) := by
  obtain ⟨h1, h2, h3, h4, h5⟩ := id h
  have hgl : g < w.heap.size := (Array.getElem?_eq_some_iff.1 h1).1
  have hvl : vb < w.heap.size := (Array.getElem?_eq_some_iff.1 hv).1
  have mixed : Try.prog.follows Departure.mixedOrders = true := by kernel_rfl
  have hm : maxLen = 9223372036854775807 := rfl
  have hz1 : ¬ ((1 : Int) = 0) := by omega
  have hz2 : ¬ ((i : Int) = (xs.length : Int)) := by omega
  have hz3 : (cap : Int) < (xs.length : Int) + 1 := by omega
  have hbig : xs.length ≤ 140737488355327 := by omega
  have hkk : (xs.length : Int) + 1 - (i : Int) = ((xs.length + 1 - i : Nat) : Int) := by omega
  have hik : i + (xs.length + 1 - i) = xs.length + 1 := by omega
  have hd : ((xs.drop i).flatMap lastC).length = (xs.length - i) * 6 := by rw [flat_len lastC_len, List.length_drop]
  have hm2 : Nat.min 1 (xs.length + 1 - i) = 1 := by simp only [Nat.min_def]; split <;> omega
  have hm1 : Nat.min (xs.length - i) (xs.length + 1 - (i + 1)) = xs.length - i := by simp only [Nat.min_def]; split <;> omega
  have HN1 : Hid (((xs.drop i).flatMap lastC).length = Nat.min (xs.length - i) (xs.length + 1 - (i + 1)) * 6) := Lib.hid (by rw [hm1]; exact hd)
  have HN2 : Hid ((lastC x).length = Nat.min 1 (xs.length + 1 - i) * 6) := Lib.hid (by rw [hm2, lastC_len x])
  have HD := Lib.hid hd
  have HKK := Lib.hid hkk
  have HIK := Lib.hid hik
  obtain ⟨N, hN⟩ : ∃ N, N = w.heap.size := ⟨_, rfl⟩
  have HNN := Lib.hid hN
  have HTL : Hid (((xs.take i).flatMap lastC).length = i * 6) := Lib.hid (by rw [flat_len lastC_len, List.length_take, Nat.min_eq_left (by omega)])
  have HTC : Hid (∀ j u, ((xs.take i).flatMap lastC)[j]? = some u → w.cell? ((⟨g, 0, none⟩ : Addr).add j) = some u) := Lib.hid (by
    intro j u hu
    have hl := HTL.out
    have hc := h.cells 0 j u
    rw [List.drop_zero, Nat.zero_mul] at hc
    apply hc
    have e := flat_take xs i
    rw [← e, List.getElem?_take] at hu
    split at hu
    · exact hu
    · cases hu)
  have HGET : Hid (∀ (c2 : List Value) (w1 : World), w1 = w.drew.alloc (.cells c2.toArray eT) → w1.heap[N]? = some (.cells c2.toArray eT (0, 0)) ∧ w1.heap[g]? = some (.cells cur.toArray eT (0, 0)) ∧ w1.heap[vb]? = some (.cells (lastC x).toArray eT (0, 0)) ∧ w.grownBy w1 (some g)) := Lib.hid (by
    intro c2 w1 e
    subst e
    exact ⟨by rw [hN]; exact heap_alloc_new w.drew _, (heap_alloc_old w.drew _ hgl).trans h1, (heap_alloc_old w.drew _ hvl).trans hv, ⟨rfl, rfl, rfl, by simp, fun k hk _ => heap_alloc_old w.drew _ hk⟩⟩)
  have HCELL := Lib.hid (h.cells i)
  have HG1 := Lib.hid h1
  have HX1 := Lib.hid (flat_one (xs.drop i))
  have HX2 := Lib.hid (lastC_one x)
  have HXL := Lib.hid (lastC_len x)
  have HINFO := Lib.hid info_last
  have H63 : Hid (i + (xs.length + 1 - i) ≤ maxLen) := Lib.hid (by rw [hm]; omega)
  have HSB : Hid ((i + (xs.length + 1 - i)) * 48 ≤ 140737488355328) := Lib.hid (by rw [hik]; exact hsz)
  have HB := Lib.hid hbase
  have HGL := Lib.hid hgl
  have HVL := Lib.hid hvl
  have hb1 : (0 : Int) ≤ (i : Int) + 1 := by omega
  have htn : ((i : Int) + 1).toNat = i + 1 := by omega
  have hb3 : (i : Int) ≤ (xs.length : Int) := by omega
  have hb5 : (i : Int) + 1 ≤ (xs.length : Int) + 1 := by omega
  have hb4 : ¬ (cap = i) := by omega
  have hw1 : IntKind.i64.wrap ((i : Int) + 1) = (i : Int) + 1 := by rw [IntKind.wrap_i64]; omega
  clear h h1 h2 h5 hv hd hm1 hm2 hkk hik hgl hvl hbase hsz hm hN
  go_enter Try.func148, Try.ntmps148
  go_wp2_with (first
    | (at_builtin; refine Sg.wpList_append_zeros rfl (.tmp 34) (.tmp 39) sT iT rfl eT (.agg #[.int .i64 0, .int .u64 0, .int .u64 0, .int .i64 0, .int .i64 0, .int .u64 0]) 6 48 Try.underlying25 Try.underlying3 HINFO.out rfl (by decide) g i cap rfl (xs.length + 1 - i) (congrArg (Value.int .i64) HKK.out) _ HTL.out HTC.out (by omega) (by omega) H63.out HSB.out ?_; intro cap2 c2 w1 q1 q2 q3 q4 q5; have Q1 := Lib.hid q1; have Q2 := Lib.hid q2; have Q3 := Lib.hid q3; have Q4 := Lib.hid q4; have Q5 := Lib.hid (HGET.out c2 w1 q5); have hc1 : ¬ (cap2 = i) := (by omega); have hc2 : ¬ (cap2 = i + 1) := (by omega); have hc3 : cap2 ≤ 9223372036854775807 := (by unfold maxLen at q2; exact q2); clear q1 q2 q3 q4 q5; rw [HIK.out, ← HNN.out])
    | (refine Sg.wpList_copy_rows rfl (.tmp 43) (.tmp 44) sT sT rfl eT 6 Try.underlying25 size_eT N (i * 6) (xs.length + 1 - i) (cap2 - i) ⟨vb, 0, none⟩ 1 1 rfl rfl c2 eT Q5.out.1 (lastC x) HN2.out (fun j u hu => by rw [add_plain, cell_of_row w1 vb _ _ _ _ Q5.out.2.2.1]; simpa using hu) (by have := Q1.out; rw [HXL.out, Q3.out]; omega) HX2.out ?_; generalize hW2 : World.setRow w1 N _ = W2; have HW2 := Lib.hid hW2; clear hW2))
  have HG3 : Hid (W2.heap[N]? = some (.cells (splice c2 (i * 6) (lastC x)).toArray eT (0, 0))) := by rw [← HW2.out]; exact setRow_heap _ _ _ _ _ _ Q5.out.1
  have HGN : Hid (g ≠ N) := Lib.hid (by have := HNN.out; have := HGL.out; omega)
  have HC3 : Hid (∀ j u, ((xs.drop i).flatMap lastC)[j]? = some u → W2.cell? ((⟨g, i * 6, none⟩ : Addr).add j) = some u) := by
    intro j u hu
    have hb : W2.heap[g]? = w.heap[g]? := by rw [← HW2.out]; exact (setRow_other _ _ _ _ HGN.out).trans (Q5.out.2.1.trans HG1.out.symm)
    have := HCELL.out j u hu
    rw [add_plain] at this ⊢
    exact (World.cell?_of_block hb).trans this
  have HF3 : Hid ((i + 1) * 6 + ((xs.drop i).flatMap lastC).length ≤ (splice c2 (i * 6) (lastC x)).length) := Lib.hid (by
    have := Q1.out
    rw [length_splice _ _ _ (by rw [HXL.out, Q3.out]; omega), HD.out, Q3.out]
    omega)
  have HGR : Hid (w.grownBy W2 (some g)) := by
    rw [← HW2.out]
    have q := Q5.out.2.2.2
    have hn := HNN.out
    exact ⟨q.os, q.tape, q.output, by simpa [World.setRow] using q.size, fun k hk hne => (setRow_other _ _ _ _ (by omega)).trans (q.block k hk hne)⟩
  have HROW := Lib.hid (ins_row2 (cur := c2) (x := x) (i := i) (cap := cap2) (Nat.le_of_lt hi) (by have := Q1.out; omega) Q3.out Q4.out)
  go_region_law_o (refine Sg.step_copy_rows rfl _ _ sT sT rfl eT 6 Try.underlying25 size_eT N ((i + 1) * 6) (xs.length + 1 - (i + 1)) (cap2 - (i + 1)) ⟨g, i * 6, none⟩ (xs.length - i) (cap - i) (by simp [Act.eval, Act.put]) (by simp [Act.eval, Act.put]) (splice c2 (i * 6) (lastC x)) eT HG3.out _ HN1.out HC3.out HF3.out HX1.out ?_)
  go_wp2
  go_ret
  have hr : Row (W2.drew.setRow N (splice (splice c2 (i * 6) (lastC x)) ((i + 1) * 6) ((xs.drop i).flatMap lastC)).toArray) N cap2 _ (xs.take i ++ x :: xs.drop i) := ⟨setRow_heap _ _ _ _ _ _ HG3.out, HROW.out.2, by rw [len_ins]; have := Q1.out; omega, hc3, by rw [len_ins]; exact HROW.out.1⟩
  have ho := hr.own (B := B) (by have := HNN.out; have := HB.out; omega)
  rw [len_ins] at ho
  refine ⟨N, cap2, rfl, ho, ?_, .inr (by have := HNN.out; omega)⟩
  have q := HGR.out
  have hn := HNN.out
  exact ⟨q.os, q.tape, q.output, by simpa [World.setRow] using q.size, fun k hk hne => (setRow_other _ _ _ _ (by omega)).trans (q.block k hk hne)⟩

/-- slices.Insert of one element -/
theorem insert_any (xs : List LastR) (x : LastR) (i : Nat) (v : Value) (vb : Nat) (w : World) (B : Nat) (hown : OwnR 6 lastC eT w B v xs) (hi : i ≤ xs.length) (hv : w.heap[vb]? = some (.cells (lastC x).toArray eT (0, 0))) (hne : v.ownBlock ≠ some vb) (hbase : B ≤ w.heap.size) (hsz : (xs.length + 1) * 48 ≤ 140737488355328) :
    Calls Try.prog 148 #[v, .int .i64 i, .slice (some ⟨vb, 0, none⟩) 1 1] w (Ins B v xs i x w) := by
  rcases Nat.lt_or_ge i xs.length with h | h
  · rcases Row.of hown with ⟨rfl, rfl⟩ | ⟨g, cap, cur, rfl, hg, hr⟩
    · simp at h
    · have hne' : vb ≠ g := fun e => hne (by simp [Value.ownBlock, e])
      rcases Nat.lt_or_ge cap (xs.length + 1) with hc | hc
      · exact ins_grow xs x i g cap vb cur w h hc hr hv hne' B hbase hsz
      · exact ins_room xs x i g cap vb cur w h hc hr hv hne' B hg
  · obtain rfl : i = xs.length := by omega
    exact ins_end xs x v vb w B hown hv hbase hsz

def Cloned (xs : List LastR) (w : World) (e : Ending) (w' : World) : Prop := ∃ u, e = .returned u ∧ OwnR 6 lastC eT w' w.heap.size u xs ∧ Below w.heap.size w w'
theorem own_new (w : World) (g : Nat) (hg : w.heap.size = g) {B : Nat} (hB : B ≤ g) : OwnR 6 lastC eT (w.alloc (.cells #[] eT)) B (.slice (some ⟨g, 0, none⟩) 0 0) ([] : List LastR) := by
  subst hg
  exact ⟨rfl, .inr ⟨w.heap.size, 0, #[], rfl, hB, heap_alloc_new _ _, Nat.le_refl _, Nat.zero_le _, rfl, rfl⟩⟩
set_option maxHeartbeats 1000000 in
theorem clone_any (xs : List LastR) (v : Value) (w : World) (h : SlR 6 lastC w v xs) (hb8 : xs.length * 48 ≤ 140737488351232) :
    Calls Try.prog 112 #[v] w (Cloned xs w) := by
  have hml := h.len
  have HS := Lib.hid (fun A => h.below ((Below.refl w.heap.size w).alloc (Nat.le_refl _) (.cells A eT)) (Nat.le_refl _))
  obtain ⟨a, cap, rfl, h1, h2, h4⟩ := h
  rcases h4 with ⟨rfl, rfl, hnil⟩ | ⟨b, off, sp, rfl, h5⟩
  · subst hnil
    clear HS
    have hq : ∀ w' : World, (binOp BinOp.eql sT (.slice none 0 0) (.slice none 0 0)).run Try.prog w' = .ok (.bool true) w' := fun _ => by first | kernel_rfl | rfl
    go_enter Try.func112, Try.ntmps112
    go_wp2
    go_ret
    exact ⟨_, rfl, OwnR.nil _ _ _, Below.refl _ _⟩
  · clear h5
    have hq : ∀ w' : World, (binOp BinOp.eql sT (.slice (some ⟨b, off, sp⟩) xs.length cap) (.slice none 0 0)).run Try.prog w' = .ok (.bool false) w' := fun _ => by first | kernel_rfl | rfl
    go_enter Try.func112, Try.ntmps112
    go_wp2_with (at_builtin; (refine appR lastC_len lastC_one Try.underlying25 rfl (by decide) info_last rfl _ _ rfl w.heap.size _ [] rfl (own_new w w.heap.size rfl (Nat.le_refl _)) _ xs rfl (HS.out _) (by simpa using hml) (by simp; omega) (by simp) ?_; intro v1 w1 hown1 hb1; rw [List.nil_append] at hown1))
    go_ret
    exact ⟨_, rfl, hown1, ((Below.refl _ _).alloc (Nat.le_refl _) _).trans hb1⟩
end Il
end Go.Proofs.Ytlkgmjhejocobaa
namespace Go.Proofs.Ytlkgmjhejocobaa
open Go.ChangeShapes Go.WideShapes Go.ChangeAt Go.RowKit
set_option linter.unusedVariables false
set_option maxRecDepth 100000
namespace Cl
def Cloned (zs : List Int) (w : World) (e : Ending) (w' : World) : Prop := ∃ u, e = .returned u ∧ OwnI w' w.heap.size u zs ∧ Sl .i64 w' u zs ∧ Below w.heap.size w w'
set_option maxHeartbeats 1000000 in
theorem clone_any (zs : List Int) (v : Value) (w : World) (h : Sl .i64 w v zs) (hb8 : zs.length * 8 ≤ 140737488351232) :
    Calls Try.prog 106 #[v] w (Cloned zs w) := by
  have HWF := Lib.hid h.wf
  have hml := h.len
  have HS := Lib.hid (fun A => h.below ((Below.refl w.heap.size w).alloc (Nat.le_refl _) (.cells A 3)) (Nat.le_refl _))
  obtain ⟨a, cap, rfl, h1, h2, hwf, h4⟩ := h
  rcases h4 with ⟨rfl, rfl, hnil⟩ | ⟨b, off, sp, rfl, h5⟩
  · subst hnil
    clear HS
    have hq : ∀ w' : World, (binOp BinOp.eql 23 (.slice none 0 0) (.slice none 0 0)).run Try.prog w' = .ok (.bool true) w' := fun _ => by first | kernel_rfl | rfl
    go_enter Try.func106, Try.ntmps106
    go_wp2
    go_ret
    exact ⟨_, rfl, OwnK.nil _ _ _ _, (OwnK.nil .i64 3 w 0).sl (by simp), Below.refl _ _⟩
  · clear h5
    have hq : ∀ w' : World, (binOp BinOp.eql 23 (.slice (some ⟨b, off, sp⟩) zs.length cap) (.slice none 0 0)).run Try.prog w' = .ok (.bool false) w' := fun _ => by first | kernel_rfl | rfl
    go_enter Try.func106, Try.ntmps106
    go_wp2_with (at_builtin; (refine appI rfl _ _ rfl w.heap.size _ [] rfl (OwnK.newAt w w.heap.size rfl #[] [] rfl rfl (by decide) (Nat.le_refl _)) _ zs rfl (HS.out _) (by simp; omega) (by simp) ?_; intro v1 w1 hown1 hb1; rw [List.nil_append] at hown1))
    go_ret
    exact ⟨_, rfl, hown1, hown1.sl HWF.out, ((Below.refl _ _).alloc (Nat.le_refl _) _).trans hb1⟩
end Cl
end Go.Proofs.Ytlkgmjhejocobaa
