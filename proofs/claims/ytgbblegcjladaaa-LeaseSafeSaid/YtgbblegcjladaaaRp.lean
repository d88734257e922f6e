/- The document's answer for a ledger's rows: Find, without, with, last, Free. No condition but sizes. The document's answer for a ledger's rows: with, last. No condition but sizes. The document's answer for the rows of Last. No condition but sizes. What the document's answer makes of a ledger is what the program's makes: on lists. No condition. The document's answer: Free, and a token granted. No condition but sizes. The document's answer: a request executed. No condition but sizes. -/
import Derived.Test.YtgbblegcjladaaaLaJ
import Derived.Test.YtgbblegcjladaaaLedO
import Derived.Test.YtgbblegcjladaaaLaI
import Derived.Test.YtgbblegcjladaaaLwZ
namespace Go.Proofs.Ytgbblegcjladaaa
open Go.ChangeShapes Go.WideShapes Go.ChangeAt Go.RowKit Go.Lib
set_option linter.unusedVariables false
set_option maxRecDepth 100000
namespace Lr
open Ld Cm La
def zH : Held := ⟨0, 0, 0, 0, 0⟩
def findT (t : Int) (xs : List Held) : Option Held := xs.find? fun x => x.token == t
/-- what the document's Find hands back: just that row -/
def Found (t : Int) (xs : List Held) (w : World) (e : Ending) (w' : World) : Prop := e = .returned (.tuple #[.agg (hA ((findT t xs).getD zH)), .bool (findT t xs).isSome]) ∧ Below w.heap.size w w'
theorem findT_none {t : Int} {xs : List Held} (h : ∀ y ∈ xs, (y.token == t) = false) : findT t xs = none := List.find?_eq_none.2 (fun y hy => by rw [h y hy]; simp)
theorem findT_at {t : Int} {xs : List Held} {k : Nat} {x : Held} (hx : xs[k]? = some x) (h : ∀ y ∈ xs.take k, (y.token == t) = false) (hn : (x.token == t) = true) : findT t xs = some x := by
  obtain ⟨hk, rfl⟩ := List.getElem?_eq_some_iff.1 hx
  unfold findT
  rw [List.find?_eq_some_iff_getElem]
  refine ⟨hn, k, hk, rfl, fun j hj => ?_⟩
  rw [h _ (List.mem_take_iff_getElem.2 ⟨j, by omega, rfl⟩)]
  rfl
set_option maxHeartbeats 1000000 in
theorem find_any (l : Led) (v : Value) (t : Int) (w : World) (h : IsLed w v l) : Calls Try.prog 58 #[v, .int .i64 t] w (Found t l.held w) := by
  obtain ⟨vh, vl, rfl, hh, -, -⟩ := h
  obtain ⟨a, cap, rfl, h1, h2, h4⟩ := hh
  unfold maxLen at h2
  have HO4 := Lib.hid h4
  clear h4
  go_enter Try.func58, Try.ntmps58
  go_wp2
  go_loopw [11] (fun i wr => ∃ k : Nat, k ≤ l.held.length ∧ i = .int .i64 k ∧ Hid (∀ y ∈ l.held.take k, (y.token == t) = false) ∧ Below (w.heap.size + 2) ((w.alloc (.cells (lArr l (.slice a l.held.length cap) vl) 35)).alloc (.cells #[.int .i64 0, .int .i64 0, .int .u64 0, .int .u64 0, .int .u64 0] 47)) wr) (fun i _ => l.held.length - (intOf i).toNat)
  case atStart => exact ⟨0, Nat.zero_le _, rfl, Lib.hid (by simp), Below.refl _ _⟩
  case round =>
    obtain ⟨k, hk, rfl, HU, hb⟩ := hrel
    have hr1 : wr.heap[w.heap.size + 1]? = some (.cells #[.int .i64 0, .int .i64 0, .int .u64 0, .int .u64 0, .int .u64 0] 47 (0, 0)) := (hb.block (w.heap.size + 1) (by omega)).trans (new2' _ _ _)
    have hbw : Below w.heap.size w wr := (((Below.refl _ _).alloc (Nat.le_refl _) _).alloc (by simp) _).trans (hb.mono (by omega))
    have hzw : w.heap.size + 2 ≤ wr.heap.size := by have := hb.size; simpa using this
    have HR1 := Lib.hid hr1
    have HBW := Lib.hid hbw
    have HBB := Lib.hid hb
    by_cases hlt : k < l.held.length
    · obtain ⟨b, off, rfl, hlb, hc⟩ := rows_open hlt HO4.out
      have hce := fun j u hu => (hbw.cell (p := ⟨b, off + (k * 5 + j), none⟩) hlb).trans (hc k _ (rgetD hlt) j u hu)
      have HT := Lib.hid (rtake hlt)
      have HM := Lib.hid (rgetD hlt)
      clear hc hbw hb hr1
      generalize l.held[k] = x at *
      obtain ⟨x0, x1, x2, x3, x4⟩ := held_cells hce
      clear hce
      cases hx : (x.token == t)
      · have HX := Lib.hid hx
        go_wp2
        go_roundw
        case rel => exact ⟨k + 1, by omega, by go_num, Lib.hid (by rw [HT.out]; intro y hy; rcases List.mem_append.1 hy with h | h; exact HU.out y h; simp at h; subst h; exact HX.out), HBB.out.alloc (by omega) _⟩
        case measure => simp [intOf]; omega
      · have HH : Hid (findT t l.held = some x) := Lib.hid (findT_at HM.out HU.out hx)
        have HR2 : Hid ((wr.alloc (.cells (hA x) 47)).heap[w.heap.size + 1]? = some (.cells #[.int .i64 0, .int .i64 0, .int .u64 0, .int .u64 0, .int .u64 0] 47 (0, 0))) := Lib.hid ((heap_alloc_old _ _ (by omega)).trans HR1.out)
        have HFIN : Hid (Found t l.held w (.returned (.tuple #[.agg (hA x), .bool true])) ((wr.alloc (.cells (hA x) 47)).setRow (w.heap.size + 1) (hA x))) := Lib.hid ⟨by rw [HH.out]; rfl, Ld.below_row (HBW.out.alloc (by omega) _) (by omega) _⟩
        go_wp2_with ((with_reducible refine wpList_store_row rfl 47 (.tmp 4) (.tmp 19) rfl (w.heap.size + 1) (hA x) rfl rfl 47 _ HR2.out (by kernel_rfl) rfl (hA_one x) ?_))
        exact bodyPost_ret (v := .tuple #[.agg (hA x), .bool true]) (results_cell2 rfl _ _ (w.heap.size + 1) 47 _ (0, 0) _ rfl (setRow_heap _ _ _ _ _ _ HR2.out) Try.underlying47 rfl (by kernel_rfl) rfl) rfl HFIN.out
    · obtain rfl : k = l.held.length := by omega
      have HH : Hid (findT t l.held = none) := Lib.hid (findT_none (by
        have h := HU.out
        rwa [List.take_length] at h))
      have HFIN : Hid (Found t l.held w (.returned (.tuple #[.agg (hA zH), .bool false])) (wr.setRow (w.heap.size + 1) (hA zH))) := Lib.hid ⟨by rw [HH.out]; rfl, Ld.below_row HBW.out (by omega) _⟩
      clear hbw hb hr1
      go_wp2_with ((with_reducible refine wpList_store_row rfl 47 (.tmp 4) (.tmp 21) rfl (w.heap.size + 1) (hA zH) rfl rfl 47 _ HR1.out (by kernel_rfl) rfl (hA_one _) ?_))
      exact bodyPost_ret (v := .tuple #[.agg (hA zH), .bool false]) (results_cell2 rfl _ _ (w.heap.size + 1) 47 _ (0, 0) _ rfl (setRow_heap _ _ _ _ _ _ HR1.out) Try.underlying47 rfl (by kernel_rfl) rfl) rfl HFIN.out

def woT (t : Int) (l : List Held) : List Held := l.filter fun x => x.token != t
theorem woT_le (t : Int) (l : List Held) : (woT t l).length ≤ l.length := List.length_filter_le _ _
theorem woT_snoc (t : Int) (l : List Held) (x : Held) : woT t (l ++ [x]) = if x.token = t then woT t l else woT t l ++ [x] := by
  unfold woT
  by_cases h : x.token = t <;> simp [List.filter_append, h]
set_option maxHeartbeats 1000000 in
theorem without_any (xs : List Held) (v : Value) (t : Int) (w : World) (hh : SlR 5 heldC w v xs) (hb8 : xs.length * 40 ≤ 140737488351232) :
    Calls Try.prog 60 #[v, .int .i64 t] w (MadeH (woT t xs) w) := by
  rcases hh.cases with ⟨a, cap, rfl, hnil⟩ | ⟨b, off, cap, rfl, h0, hlc, hcm, hlt, hc⟩
  · clear hh
    rw [hnil]
    go_enter Try.func60, Try.ntmps60
    go_wp2
    refine wp_loop_rounds 1 ?_
    rw [rounds_succ]
    go_wp2
    go_ret
    exact ⟨_, rfl, OwnR.nil _ _ _, SlR.nil _, Below.refl _ _⟩
  · have HC := Lib.hid hc
    clear hh hc
    go_enter Try.func60, Try.ntmps60
    go_wp2
    go_loopw [5, 10] (fun u i wr => ∃ k : Nat, k ≤ xs.length ∧ i = .int .i64 k ∧ OwnR 5 heldC 47 wr w.heap.size u (woT t (xs.take k)) ∧ Below w.heap.size w wr) (fun _ i _ => xs.length - (intOf i).toNat)
    case atStart => exact ⟨0, Nat.zero_le _, rfl, OwnR.nil _ _ _, Below.refl _ _⟩
    case round =>
      obtain ⟨k, hk, rfl, hown, hb⟩ := hrel
      by_cases hlt2 : k < xs.length
      · have hce := fun j u hu => (hb.cell (p := ⟨b, off + (k * 5 + j), none⟩) (by simp; omega)).trans (HC.out k _ (rgetD hlt2) j u hu)
        have HT := Lib.hid (rtake hlt2)
        generalize xs[k] = x at *
        obtain ⟨x0, x1, x2, x3, x4⟩ := held_cells hce
        clear hce
        have hle := woT_le t (xs.take k)
        rw [List.length_take, Nat.min_eq_left hk] at hle
        have hzw := hb.size
        by_cases hn : x.token = t
        · have HO : Hid (woT t (xs.take (k + 1)) = woT t (xs.take k)) := Lib.hid (by rw [HT.out, woT_snoc, if_pos hn])
          have hn2 : (x.token != t) = false := by rw [bne, beq_iff_eq.2 hn]; rfl
          clear hn
          go_wp2
          go_roundw
          case rel => exact ⟨k + 1, by omega, by go_num, by rw [HO.out]; exact hown.alloc _, hb.alloc hzw _⟩
          case measure => simp [intOf]; omega
        · have HO : Hid (woT t (xs.take (k + 1)) = woT t (xs.take k) ++ [x]) := Lib.hid (by rw [HT.out, woT_snoc, if_neg hn])
          have hn2 : (x.token != t) = true := by rw [bne, beq_eq_false_iff_ne.2 hn]; rfl
          clear hn
          go_wp2_with (at_builtin; (refine appR heldC_len heldC_one Try.underlying32 rfl (by decide) info_held rfl _ _ rfl w.heap.size _ _ rfl ((hown.alloc _).alloc _) _ [x] rfl (SlR.one heldC_len _ (wr.heap.size + 1) (by simp) _ x rfl) (by unfold maxLen; simp; omega) (by simp; omega) (by simp; omega) ?_; intro u1 w1 hown1 hb1))
          go_roundw
          case rel => exact ⟨k + 1, by omega, by go_num, by rw [HO.out]; exact hown1, ((hb.alloc hzw _).alloc (by simp; omega) _).trans hb1⟩
          case measure => simp [intOf]; omega
      · obtain rfl : k = xs.length := by omega
        rw [List.take_length] at hown
        go_wp2
        go_ret
        exact ⟨_, rfl, hown, hown.sl heldC_len, hb⟩
/-- the smaller of the limit and 64, less what is held; none below 0 -/
def freeV (l : Led) : Int := if (if l.limit < 64 then l.limit else 64) ≤ l.held.length then 0 else (if l.limit < 64 then l.limit else 64) - l.held.length
end Lr
end Go.Proofs.Ytgbblegcjladaaa
namespace Go.Proofs.Ytgbblegcjladaaa
open Go.ChangeShapes Go.WideShapes Go.ChangeAt Go.RowKit Go.Lib
set_option linter.unusedVariables false
set_option maxRecDepth 100000
/-- append, told what else stands -/
theorem appRG {P : Program} {α : Type} {sz : Nat} {C : α → List Value} (hC : ∀ x, (C x).length = sz) (h1c : ∀ x, ∀ u ∈ C x, u.oneCell' = true) {t e : TypeId} (ht : P.underlying t = some (.slice e)) {z : Value} {bytes : Nat} (hzs : z.cells.size = sz) (hsz : 0 < sz) (hinfo : (P.info? e).map (fun i => (i.zero, i.size, i.bytes)) = some (some z, sz, bytes))
    {w : World} {ops : Array Oper} {rest : List Oper} {o : Oper} {a : Act} {Q : Exit → Act → World → Prop} (hgd : o.guard = none) (s x : Operand)
    (ho : o.op = .call { callee := .builtin .append, args := #[s, x], argTypes := #[t, t] }) (base : Nat)
    (v : Value) (xs : List α) (hs : a.eval s = v) (hown : OwnR sz C e w base v xs) (u : Value) (zs : List α) (hx : a.eval x = u) (hsl : SlR sz C w u zs)
    (h63 : xs.length + zs.length ≤ maxLen) (hb : (xs.length + zs.length) * bytes ≤ 140737488355328) (hbase : base ≤ w.heap.size)
    (h : ∀ v' w', OwnR sz C e w' base v' (xs ++ zs) → w.grownBy w' v.ownBlock → wpList P ops Q rest (a.put o.dst v') w') : wpList P ops Q (o :: rest) a w := by
  obtain ⟨i0, hi, hz0, hz1, hz2⟩ := info_parts hinfo
  refine wp_app hgd s x t ho base e i0 z sz bytes ht hi hz0 hz1 hz2 hzs hsz v xs.length _ hs hown u zs.length (zs.flatMap C) hx (hsl.src hC) (flat_len hC zs) (fun u hu => ?_) h63 hb hbase ?_
  · obtain ⟨y, _, hy⟩ := List.mem_flatMap.1 hu
    exact h1c y u hy
  · intro v' w' hown' hgrow
    refine h v' w' ?_ hgrow
    unfold OwnR
    rw [List.flatMap_append, List.length_append]
    exact hown'
namespace Lr
open Ld Cm La
theorem row5 {w : World} {g : Nat} {x : Held} (h : w.heap[g]? = some (.cells (hA x) 47 (0, 0))) :
    w.cell? ⟨g, 0, none⟩ = some (.int .i64 x.token) ∧ w.cell? ⟨g, 1, none⟩ = some (.int .i64 x.node) ∧ w.cell? ⟨g, 2, none⟩ = some (.int .u64 x.boot) ∧ w.cell? ⟨g, 3, none⟩ = some (.int .u64 x.serial) ∧ w.cell? ⟨g, 4, none⟩ = some (.int .u64 x.stamp) :=
  ⟨(cell_of_row w _ 0 _ _ _ h).trans rfl, (cell_of_row w _ 1 _ _ _ h).trans rfl, (cell_of_row w _ 2 _ _ _ h).trans rfl, (cell_of_row w _ 3 _ _ _ h).trans rfl, (cell_of_row w _ 4 _ _ _ h).trans rfl⟩
theorem row6 {w : World} {g : Nat} {x : LastR} (h : w.heap[g]? = some (.cells (lastA x) 103 (0, 0))) :
    w.cell? ⟨g, 0, none⟩ = some (.int .i64 x.node) ∧ w.cell? ⟨g, 1, none⟩ = some (.int .u64 x.boot) ∧ w.cell? ⟨g, 2, none⟩ = some (.int .u64 x.seq) ∧ w.cell? ⟨g, 3, none⟩ = some (.int .i64 x.code) ∧ w.cell? ⟨g, 4, none⟩ = some (.int .i64 x.token) ∧ w.cell? ⟨g, 5, none⟩ = some (.int .u64 x.serial) :=
  ⟨(cell_of_row w _ 0 _ _ _ h).trans rfl, (cell_of_row w _ 1 _ _ _ h).trans rfl, (cell_of_row w _ 2 _ _ _ h).trans rfl, (cell_of_row w _ 3 _ _ _ h).trans rfl, (cell_of_row w _ 4 _ _ _ h).trans rfl, (cell_of_row w _ 5 _ _ _ h).trans rfl⟩
def posW (x : Held) (xs : List Held) : Nat := xs.findIdx fun y => decide (x.token < y.token)
def outW (x : Held) (xs : List Held) (k : Nat) : List Held := if k ≤ posW x xs then xs.take k else putAt (posW x xs) x (xs.take k)
theorem posW_le (x : Held) (xs : List Held) : posW x xs ≤ xs.length := List.findIdx_le_length
theorem posW_before {x y : Held} {xs : List Held} {k : Nat} (hy : xs[k]? = some y) (h : k < posW x xs) : y.token ≤ x.token := by
  obtain ⟨hk, rfl⟩ := List.getElem?_eq_some_iff.1 hy
  have := List.not_of_lt_findIdx h
  simpa using this
theorem posW_at {x y : Held} {xs : List Held} {k : Nat} (hy : xs[k]? = some y) (h : k = posW x xs) : x.token < y.token := by
  subst h
  obtain ⟨hk, rfl⟩ := List.getElem?_eq_some_iff.1 hy
  have hk' : xs.findIdx (fun y => decide (x.token < y.token)) < xs.length := hk
  have := List.findIdx_getElem (p := fun y => decide (x.token < y.token)) (xs := xs) (w := hk')
  exact of_decide_eq_true this
theorem put_take {α : Type} {p k : Nat} {x y : α} {xs : List α} (h : p ≤ k) (hk : k < xs.length) (hT : xs.take (k + 1) = xs.take k ++ [y]) : putAt p x (xs.take (k + 1)) = putAt p x (xs.take k) ++ [y] := by
  unfold putAt
  rw [hT, List.take_append_of_le_length (by rw [List.length_take]; omega), List.drop_append_of_le_length (by rw [List.length_take]; omega)]
  simp
theorem put_end {α : Type} {p : Nat} {x : α} {xs : List α} (h : xs.length = p) : putAt p x xs = xs ++ [x] := by
  unfold putAt
  rw [List.take_of_length_le (by omega), List.drop_of_length_le (by omega)]
theorem out_len (x : Held) (xs : List Held) (k : Nat) : (outW x xs k).length ≤ xs.length + 1 := by
  unfold outW
  split
  · rw [List.length_take]; omega
  · rw [len_put, List.length_take]; omega
set_option maxHeartbeats 4000000 in
theorem with_any (xs : List Held) (v : Value) (x : Held) (w : World) (hh : SlR 5 heldC w v xs) (hb8 : xs.length ≤ 70) :
    Calls Try.prog 76 #[v, .agg (hA x)] w (MadeH (putAt (posW x xs) x xs) w) := by
  obtain ⟨a, cap, rfl, h1, h2, h4⟩ := hh
  unfold maxLen at h2
  have HO4 := Lib.hid h4
  have hX : (w.alloc (.cells (hA x) 47)).heap[w.heap.size]? = some (.cells (hA x) 47 (0, 0)) := heap_alloc_new _ _
  have HX := Lib.hid hX
  clear h4 hX
  go_enter Try.func76, Try.ntmps76
  go_wp2
  go_loopw [5, 6, 11] (fun u d i wr => ∃ k : Nat, k ≤ xs.length ∧ i = .int .i64 k ∧ d = .bool (decide (posW x xs < k)) ∧ Hid (OwnR 5 heldC 47 wr (w.heap.size + 1) u (outW x xs k)) ∧ Hid (Below (w.heap.size + 1) (w.alloc (.cells (hA x) 47)) wr)) (fun _ _ i _ => xs.length - (intOf i).toNat)
  case atStart => exact ⟨0, Nat.zero_le _, rfl, rfl, Lib.hid (OwnR.nil _ _ _), Lib.hid (Below.refl _ _)⟩
  case round =>
    obtain ⟨k, hk, rfl, rfl, HO, HB⟩ := hrel
    have hzw : w.heap.size < wr.heap.size := by have := HB.out.size; simp at this; omega
    obtain ⟨s0, s1, s2, s3, s4⟩ := row5 ((HB.out.block w.heap.size (by omega)).trans HX.out)
    have hle := out_len x xs k
    by_cases hlt : k < xs.length
    · obtain ⟨b, off, rfl, hlb, hc⟩ := rows_open hlt HO4.out
      have hbw : Below w.heap.size w wr := ((Below.refl _ _).alloc (Nat.le_refl _) _).trans (HB.out.mono (by omega))
      have hce := fun j u hu => (hbw.cell (p := ⟨b, off + (k * 5 + j), none⟩) hlb).trans (hc k _ (rgetD hlt) j u hu)
      have HT := Lib.hid (rtake hlt)
      have HG := Lib.hid (rgetD hlt)
      clear hc hbw
      generalize xs[k] = y at *
      obtain ⟨x0, x1, x2, x3, x4⟩ := held_cells hce
      clear hce
      rcases Nat.lt_trichotomy k (posW x xs) with hkp | hkp | hkp
      · have q0 : decide (posW x xs < k) = false := decide_eq_false (by omega)
        have q1 : y.token ≤ x.token := posW_before HG.out hkp
        have HEQ : Hid (outW x xs k = xs.take k ∧ outW x xs (k + 1) = xs.take k ++ [y] ∧ decide (posW x xs < k + 1) = false) := Lib.hid ⟨if_pos (by omega), by unfold outW; rw [if_pos (by omega), HT.out], decide_eq_false (by omega)⟩
        have hn : (xs.take k).length ≤ xs.length := by rw [List.length_take]; omega
        have hown := HO.out
        rw [HEQ.out.1] at hown
        have HON := Lib.hid hown
        clear hown hkp
        go_wp2_with (at_builtin; (refine appRG heldC_len heldC_one Try.underlying32 rfl (by decide) info_held rfl _ _ rfl (w.heap.size + 1) _ _ rfl ((HON.out.alloc _).alloc _) _ [y] rfl (SlR.one heldC_len _ (wr.heap.size + 1) (by simp) _ y rfl) (by unfold maxLen; simp; omega) (by simp; omega) (by simp; omega) ?_; intro u1 w1 hown1 hg1; have HO1 := Lib.hid hown1; have HGR := Lib.hid hg1; clear hown1 hg1))
        go_roundw
        case rel => exact ⟨k + 1, by omega, by go_num, by rw [HEQ.out.2.2], Lib.hid (by rw [HEQ.out.2.1]; exact HO1.out), Lib.hid ((Below.own (((HB.out.alloc (by omega) _).alloc (by simp; omega) _)) (by simp; omega) ((HON.out.alloc _).alloc _) HGR.out))⟩
        case measure => simp [intOf]; omega
      · have q0 : decide (posW x xs < k) = false := decide_eq_false (by omega)
        have q1 : x.token < y.token := posW_at HG.out hkp
        have HEQ : Hid (outW x xs k = xs.take k ∧ outW x xs (k + 1) = xs.take k ++ [x] ++ [y] ∧ decide (posW x xs < k + 1) = true) := Lib.hid ⟨if_pos (by omega), by unfold outW; rw [if_neg (by omega), put_take (y := y) (by omega) hlt HT.out, put_end (by rw [List.length_take]; omega)], decide_eq_true (by omega)⟩
        have hn : (xs.take k).length ≤ xs.length := by rw [List.length_take]; omega
        have hown := HO.out
        rw [HEQ.out.1] at hown
        have HON := Lib.hid hown
        have HY : Hid ((wr.alloc (.cells (hA y) 47)).heap[wr.heap.size]? = some (.cells (hA y) 47 (0, 0))) := Lib.hid (heap_alloc_new _ _)
        have HNB : Hid (∀ g, u5.ownBlock = some g → g ≠ wr.heap.size) := Lib.hid (fun g hg => by have := (own_block hown g hg).2; omega)
        clear hown hkp
        go_wp2_with (first
          | (at_builtin; (refine appRG heldC_len heldC_one Try.underlying32 rfl (by decide) info_held rfl _ _ rfl (w.heap.size + 1) _ _ rfl ((HON.out.alloc _).alloc _) _ [x] rfl (SlR.one heldC_len _ (wr.heap.size + 1) (by simp) _ x rfl) (by unfold maxLen; simp; omega) (by simp; omega) (by simp; omega) ?_; intro u1 w1 hown1 hg1; have HO1 := Lib.hid hown1; have HGR := Lib.hid hg1; have hy1 := (hg1.block wr.heap.size (by simp; omega) (fun e => HNB.out _ e.symm rfl)).trans ((heap_alloc_old _ _ (by simp)).trans HY.out); obtain ⟨z0, z1, z2, z3, z4⟩ := row5 hy1; have HZ1 : Hid (wr.heap.size + 2 ≤ w1.heap.size) := Lib.hid (by have := hg1.size; simpa using this); clear hown1 hg1 hy1))
          | (at_builtin; (refine appRG heldC_len heldC_one Try.underlying32 rfl (by decide) info_held rfl _ _ rfl (w.heap.size + 1) _ _ rfl (HO1.out.alloc _) _ [y] rfl (SlR.one heldC_len _ (w1.heap.size) (by simp) _ y rfl) (by unfold maxLen; simp; omega) (by simp; omega) (by have := HZ1.out; simp; omega) ?_; intro u2 w2 hown2 hg2; have HO2 := Lib.hid hown2; have HGR2 := Lib.hid hg2; clear hown2 hg2)))
        go_roundw
        case rel => exact ⟨k + 1, by omega, by go_num, by rw [HEQ.out.2.2], Lib.hid (by rw [HEQ.out.2.1]; exact HO2.out), Lib.hid (by have hb1 := Below.own (((HB.out.alloc (by omega) _).alloc (by simp; omega) _)) (by simp; omega) ((HON.out.alloc _).alloc _) HGR.out; have := HZ1.out; exact Below.own (hb1.alloc (by omega) _) (by simp; omega) (HO1.out.alloc _) HGR2.out)⟩
        case measure => simp [intOf]; omega
      · have q0 : decide (posW x xs < k) = true := decide_eq_true (by omega)
        have HEQ : Hid (outW x xs (k + 1) = outW x xs k ++ [y] ∧ decide (posW x xs < k + 1) = true) := Lib.hid ⟨by unfold outW; rw [if_neg (by omega), if_neg (by omega)]; exact put_take (by omega) hlt HT.out, decide_eq_true (by omega)⟩
        clear hkp
        go_wp2_with (at_builtin; (refine appRG heldC_len heldC_one Try.underlying32 rfl (by decide) info_held rfl _ _ rfl (w.heap.size + 1) _ _ rfl ((HO.out.alloc _).alloc _) _ [y] rfl (SlR.one heldC_len _ (wr.heap.size + 1) (by simp) _ y rfl) (by unfold maxLen; simp; omega) (by simp; omega) (by simp; omega) ?_; intro u1 w1 hown1 hg1; have HO1 := Lib.hid hown1; have HGR := Lib.hid hg1; clear hown1 hg1))
        go_roundw
        case rel => exact ⟨k + 1, by omega, by go_num, by rw [HEQ.out.2], Lib.hid (by rw [HEQ.out.1]; exact HO1.out), Lib.hid ((Below.own (((HB.out.alloc (by omega) _).alloc (by simp; omega) _)) (by simp; omega) ((HO.out.alloc _).alloc _) HGR.out))⟩
        case measure => simp [intOf]; omega
    · obtain rfl : k = xs.length := by omega
      have HBW : Hid (Below w.heap.size w wr) := Lib.hid (((Below.refl _ _).alloc (Nat.le_refl _) _).trans (HB.out.mono (by omega)))
      by_cases hkp : xs.length ≤ posW x xs
      · have q0 : decide (posW x xs < xs.length) = false := decide_eq_false (by omega)
        have HEQ : Hid (outW x xs xs.length = xs ∧ putAt (posW x xs) x xs = xs ++ [x]) := Lib.hid ⟨by unfold outW; rw [if_pos hkp, List.take_length], put_end (by have := posW_le x xs; omega)⟩
        have hown := HO.out
        rw [HEQ.out.1] at hown
        have HON := Lib.hid hown
        clear hown hkp
        go_wp2_with (at_builtin; (refine appRG heldC_len heldC_one Try.underlying32 rfl (by decide) info_held rfl _ _ rfl (w.heap.size + 1) _ _ rfl (HON.out.alloc _) _ [x] rfl (SlR.one heldC_len _ (wr.heap.size) (by simp) _ x rfl) (by unfold maxLen; simp; omega) (by simp; omega) (by simp; omega) ?_; intro u1 w1 hown1 hg1; have HO1 := Lib.hid hown1; have HGR := Lib.hid hg1; clear hown1 hg1))
        go_ret
        exact ⟨u1, rfl, by rw [HEQ.out.2]; exact HO1.out.lower (by omega), by rw [HEQ.out.2]; exact HO1.out.sl heldC_len, Below.own (HBW.out.alloc (by omega) _) (by simp; omega) ((HON.out.alloc _).lower (by omega)) HGR.out⟩
      · have q0 : decide (posW x xs < xs.length) = true := decide_eq_true (by omega)
        have HEQ : Hid (outW x xs xs.length = putAt (posW x xs) x xs) := Lib.hid (by unfold outW; rw [if_neg hkp, List.take_length])
        have hown := HO.out
        rw [HEQ.out] at hown
        have HON := Lib.hid hown
        clear hown hkp
        go_wp2
        go_ret
        exact ⟨u5, rfl, HON.out.lower (by omega), HON.out.sl heldC_len, HBW.out⟩
end Lr
end Go.Proofs.Ytgbblegcjladaaa
namespace Go.Proofs.Ytgbblegcjladaaa
open Go.ChangeShapes Go.WideShapes Go.ChangeAt Go.RowKit Go.Lib
set_option linter.unusedVariables false
set_option maxRecDepth 100000
namespace Lr
open Ld Cm La
def neN (n : Int) (l : List LastR) : List LastR := l.filter fun y => y.node != n
def outL (x : LastR) (xs : List LastR) (k : Nat) : List LastR := if k ≤ posL x.node xs then xs.take k else xs.take (posL x.node xs) ++ x :: neN x.node ((xs.take k).drop (posL x.node xs))
def lastPut (x : LastR) (xs : List LastR) : List LastR := xs.take (posL x.node xs) ++ x :: neN x.node (xs.drop (posL x.node xs))
theorem posL_before {x y : LastR} {xs : List LastR} {k : Nat} (hy : xs[k]? = some y) (h : k < posL x.node xs) : y.node < x.node := by
  obtain ⟨hk, rfl⟩ := List.getElem?_eq_some_iff.1 hy
  have := List.not_of_lt_findIdx h
  simpa using this
theorem posL_at {x y : LastR} {xs : List LastR} {k : Nat} (hy : xs[k]? = some y) (h : k = posL x.node xs) : x.node ≤ y.node := by
  subst h
  obtain ⟨hk, rfl⟩ := List.getElem?_eq_some_iff.1 hy
  have hk' : xs.findIdx (fun y => decide (x.node ≤ y.node)) < xs.length := hk
  have := List.findIdx_getElem (p := fun y => decide (x.node ≤ y.node)) (xs := xs) (w := hk')
  exact of_decide_eq_true this
theorem neN_le (n : Int) (l : List LastR) : (neN n l).length ≤ l.length := List.length_filter_le _ _
theorem neN_snoc (n : Int) (l : List LastR) (x : LastR) : neN n (l ++ [x]) = if x.node = n then neN n l else neN n l ++ [x] := by
  unfold neN
  by_cases h : x.node = n <;> simp [List.filter_append, h]
theorem drop_take1 {p k : Nat} {y : LastR} {xs : List LastR} (h : p ≤ k) (hk : k < xs.length) (hT : xs.take (k + 1) = xs.take k ++ [y]) : (xs.take (k + 1)).drop p = (xs.take k).drop p ++ [y] := by
  rw [hT, List.drop_append_of_le_length (by rw [List.length_take]; omega)]
theorem outL_len (x : LastR) (xs : List LastR) (k : Nat) : (outL x xs k).length ≤ xs.length + 1 := by
  unfold outL
  split
  · rw [List.length_take]; omega
  · have := neN_le x.node ((xs.take k).drop (posL x.node xs))
    rw [List.length_drop, List.length_take] at this
    rw [List.length_append, List.length_cons, List.length_take]; omega
theorem outL_more {x y : LastR} {xs : List LastR} {k : Nat} (h : posL x.node xs ≤ k) (hk : k < xs.length) (hT : xs.take (k + 1) = xs.take k ++ [y]) :
    outL x xs (k + 1) = (if k ≤ posL x.node xs then xs.take k ++ [x] else outL x xs k) ++ if y.node = x.node then [] else [y] := by
  have e1 : outL x xs (k + 1) = xs.take (posL x.node xs) ++ x :: neN x.node ((xs.take k).drop (posL x.node xs) ++ [y]) := by
    unfold outL
    rw [if_neg (by omega), drop_take1 h hk hT]
  rw [e1, neN_snoc]
  by_cases hkp : k ≤ posL x.node xs
  · obtain rfl : k = posL x.node xs := by omega
    rw [if_pos (Nat.le_refl _), List.drop_of_length_le (by rw [List.length_take]; omega)]
    split <;> simp [neN]
  · rw [if_neg hkp]
    unfold outL
    rw [if_neg hkp]
    split <;> simp
set_option maxHeartbeats 8000000 in
theorem last_any (xs : List LastR) (v : Value) (x : LastR) (w : World) (hh : SlR 6 lastC w v xs) (hb8 : xs.length ≤ 70) :
    Calls Try.prog 62 #[v, .agg (lastA x)] w fun e w' => ∃ u, e = .returned u ∧ OwnR 6 lastC 103 w' w.heap.size u (lastPut x xs) ∧ Below w.heap.size w w' := by
  obtain ⟨a, cap, rfl, h1, h2, h4⟩ := hh
  unfold maxLen at h2
  have HO4 := Lib.hid h4
  have hX : (w.alloc (.cells (lastA x) 103)).heap[w.heap.size]? = some (.cells (lastA x) 103 (0, 0)) := heap_alloc_new _ _
  have HX := Lib.hid hX
  clear h4 hX
  go_enter Try.func62, Try.ntmps62
  go_wp2
  go_loopw [5, 6, 11] (fun u d i wr => ∃ k : Nat, k ≤ xs.length ∧ i = .int .i64 k ∧ d = .bool (decide (posL x.node xs < k)) ∧ Hid (OwnR 6 lastC 103 wr (w.heap.size + 1) u (outL x xs k)) ∧ Hid (Below (w.heap.size + 1) (w.alloc (.cells (lastA x) 103)) wr)) (fun _ _ i _ => xs.length - (intOf i).toNat)
  case atStart => exact ⟨0, Nat.zero_le _, rfl, rfl, Lib.hid (OwnR.nil _ _ _), Lib.hid (Below.refl _ _)⟩
  case round =>
    obtain ⟨k, hk, rfl, rfl, HO, HB⟩ := hrel
    have hzw : w.heap.size < wr.heap.size := by have := HB.out.size; simp at this; omega
    have hxr := (HB.out.block w.heap.size (by omega)).trans HX.out
    have HXR := Lib.hid hxr
    obtain ⟨s0, s1, s2, s3, s4, s5⟩ := row6 hxr
    have hle := outL_len x xs k
    clear hxr
    by_cases hlt : k < xs.length
    · obtain ⟨b, off, rfl, hlb, hc⟩ := rows_open hlt HO4.out
      have hbw : Below w.heap.size w wr := ((Below.refl _ _).alloc (Nat.le_refl _) _).trans (HB.out.mono (by omega))
      have hce := fun j u hu => (hbw.cell (p := ⟨b, off + (k * 6 + j), none⟩) hlb).trans (hc k _ (rgetD hlt) j u hu)
      have HT := Lib.hid (rtake hlt)
      have HG := Lib.hid (rgetD hlt)
      have hn : (xs.take k).length ≤ xs.length := by rw [List.length_take]; omega
      clear hc hbw
      generalize xs[k] = y at *
      obtain ⟨x0, x1, x2, x3, x4, x5⟩ := last_cells hce
      clear hce
      rcases Nat.lt_trichotomy k (posL x.node xs) with hkp | hkp | hkp
      · have q0 : decide (posL x.node xs < k) = false := decide_eq_false (by omega)
        have q1 : y.node < x.node := posL_before HG.out hkp
        have q2 : (y.node != x.node) = true := by rw [bne, beq_eq_false_iff_ne.2 (by omega)]; rfl
        have HEQ : Hid (outL x xs k = xs.take k ∧ outL x xs (k + 1) = xs.take k ++ [y] ∧ decide (posL x.node xs < k + 1) = false) := Lib.hid ⟨if_pos (by omega), by unfold outL; rw [if_pos (by omega), HT.out], decide_eq_false (by omega)⟩
        have hown := HO.out
        rw [HEQ.out.1] at hown
        have HON := Lib.hid hown
        clear hown hkp
        go_wp2_with (at_builtin; (refine appRG lastC_len lastC_one Try.underlying33 rfl (by decide) info_last rfl _ _ rfl (w.heap.size + 1) _ _ rfl ((HON.out.alloc _).alloc _) _ [y] rfl (SlR.one lastC_len _ (wr.heap.size + 1) (by simp) _ y rfl) (by unfold maxLen; simp; omega) (by simp; omega) (by simp; omega) ?_; intro u1 w1 hown1 hg1; have HO1 := Lib.hid hown1; have HGR := Lib.hid hg1; clear hown1 hg1))
        go_roundw
        case rel => exact ⟨k + 1, by omega, by go_num, by rw [HEQ.out.2.2], Lib.hid (by rw [HEQ.out.2.1]; exact HO1.out), Lib.hid (Below.own (((HB.out.alloc (by omega) _).alloc (by simp; omega) _)) (by simp; omega) ((HON.out.alloc _).alloc _) HGR.out)⟩
        case measure => simp [intOf]; omega
      · have q0 : decide (posL x.node xs < k) = false := decide_eq_false (by omega)
        have q1 : x.node ≤ y.node := posL_at HG.out hkp
        have hown := HO.out
        rw [show outL x xs k = xs.take k from if_pos (by omega)] at hown
        have HON := Lib.hid hown
        have HY : Hid ((wr.alloc (.cells (lastA y) 103)).heap[wr.heap.size]? = some (.cells (lastA y) 103 (0, 0))) := Lib.hid (heap_alloc_new _ _)
        have HNB : Hid (∀ g, u5.ownBlock = some g → g ≠ wr.heap.size) := Lib.hid (fun g hg => by have := (own_block hown g hg).2; omega)
        have HNC : Hid (∀ g, u5.ownBlock = some g → g ≠ w.heap.size) := Lib.hid (fun g hg => by have := (own_block hown g hg).1; omega)
        clear hown
        by_cases hyx : y.node = x.node
        · have q2 : (y.node != x.node) = false := by rw [bne, beq_iff_eq.2 hyx]; rfl
          have HEQ : Hid (outL x xs (k + 1) = xs.take k ++ [x] ∧ decide (posL x.node xs < k + 1) = true) := Lib.hid ⟨by rw [outL_more (by omega) hlt HT.out, if_pos (by omega), if_pos hyx, List.append_nil], decide_eq_true (by omega)⟩
          clear hkp hyx
          go_wp2_with (at_builtin; (refine appRG lastC_len lastC_one Try.underlying33 rfl (by decide) info_last rfl _ _ rfl (w.heap.size + 1) _ _ rfl ((HON.out.alloc _).alloc _) _ [x] rfl (SlR.one lastC_len _ (wr.heap.size + 1) (by simp) _ x rfl) (by unfold maxLen; simp; omega) (by simp; omega) (by simp; omega) ?_; intro u1 w1 hown1 hg1; have HO1 := Lib.hid hown1; have HGR := Lib.hid hg1; have hy1 := (hg1.block wr.heap.size (by simp; omega) (fun e => HNB.out _ e.symm rfl)).trans ((heap_alloc_old _ _ (by simp)).trans HY.out); obtain ⟨z0, z1, z2, z3, z4, z5⟩ := row6 hy1; have hx1 := (hg1.block w.heap.size (by simp; omega) (fun e => HNC.out _ e.symm rfl)).trans ((heap_alloc_old _ _ (by simp; omega)).trans ((heap_alloc_old _ _ (by omega)).trans HXR.out)); obtain ⟨t0, t1, t2, t3, t4, t5⟩ := row6 hx1; have HZ1 : Hid (wr.heap.size + 2 ≤ w1.heap.size) := Lib.hid (by have := hg1.size; simpa using this); clear hown1 hg1 hy1 hx1))
          go_roundw
          case rel => exact ⟨k + 1, by omega, by go_num, by rw [HEQ.out.2], Lib.hid (by rw [HEQ.out.1]; exact HO1.out), Lib.hid (Below.own (((HB.out.alloc (by omega) _).alloc (by simp; omega) _)) (by simp; omega) ((HON.out.alloc _).alloc _) HGR.out)⟩
          case measure => simp [intOf]; omega
        · have q2 : (y.node != x.node) = true := by rw [bne, beq_eq_false_iff_ne.2 hyx]; rfl
          have HEQ : Hid (outL x xs (k + 1) = xs.take k ++ [x] ++ [y] ∧ decide (posL x.node xs < k + 1) = true) := Lib.hid ⟨by rw [outL_more (by omega) hlt HT.out, if_pos (by omega), if_neg hyx], decide_eq_true (by omega)⟩
          clear hkp hyx
          go_wp2_with (first
            | (at_builtin; (refine appRG lastC_len lastC_one Try.underlying33 rfl (by decide) info_last rfl _ _ rfl (w.heap.size + 1) _ _ rfl ((HON.out.alloc _).alloc _) _ [x] rfl (SlR.one lastC_len _ (wr.heap.size + 1) (by simp) _ x rfl) (by unfold maxLen; simp; omega) (by simp; omega) (by simp; omega) ?_; intro u1 w1 hown1 hg1; have HO1 := Lib.hid hown1; have HGR := Lib.hid hg1; have hy1 := (hg1.block wr.heap.size (by simp; omega) (fun e => HNB.out _ e.symm rfl)).trans ((heap_alloc_old _ _ (by simp)).trans HY.out); obtain ⟨z0, z1, z2, z3, z4, z5⟩ := row6 hy1; have hx1 := (hg1.block w.heap.size (by simp; omega) (fun e => HNC.out _ e.symm rfl)).trans ((heap_alloc_old _ _ (by simp; omega)).trans ((heap_alloc_old _ _ (by omega)).trans HXR.out)); obtain ⟨t0, t1, t2, t3, t4, t5⟩ := row6 hx1; have HZ1 : Hid (wr.heap.size + 2 ≤ w1.heap.size) := Lib.hid (by have := hg1.size; simpa using this); clear hown1 hg1 hy1 hx1))
            | (at_builtin; (refine appRG lastC_len lastC_one Try.underlying33 rfl (by decide) info_last rfl _ _ rfl (w.heap.size + 1) _ _ rfl (HO1.out.alloc _) _ [y] rfl (SlR.one lastC_len _ (w1.heap.size) (by simp) _ y rfl) (by unfold maxLen; simp; omega) (by simp; omega) (by have := HZ1.out; simp; omega) ?_; intro u2 w2 hown2 hg2; have HO2 := Lib.hid hown2; have HGR2 := Lib.hid hg2; clear hown2 hg2)))
          go_roundw
          case rel => exact ⟨k + 1, by omega, by go_num, by rw [HEQ.out.2], Lib.hid (by rw [HEQ.out.1]; exact HO2.out), Lib.hid (by have hb1 := Below.own (((HB.out.alloc (by omega) _).alloc (by simp; omega) _)) (by simp; omega) ((HON.out.alloc _).alloc _) HGR.out; have := HZ1.out; exact Below.own (hb1.alloc (by omega) _) (by simp; omega) (HO1.out.alloc _) HGR2.out)⟩
          case measure => simp [intOf]; omega
      · have q0 : decide (posL x.node xs < k) = true := decide_eq_true (by omega)
        have HON := HO
        by_cases hyx : y.node = x.node
        · have q2 : (y.node != x.node) = false := by rw [bne, beq_iff_eq.2 hyx]; rfl
          have HEQ : Hid (outL x xs (k + 1) = outL x xs k ∧ decide (posL x.node xs < k + 1) = true) := Lib.hid ⟨by rw [outL_more (by omega) hlt HT.out, if_neg (by omega), if_pos hyx, List.append_nil], decide_eq_true (by omega)⟩
          clear hkp hyx
          go_wp2
          go_roundw
          case rel => exact ⟨k + 1, by omega, by go_num, by rw [HEQ.out.2, q0], Lib.hid (by rw [HEQ.out.1]; exact HO.out.alloc _), Lib.hid (HB.out.alloc (by omega) _)⟩
          case measure => simp [intOf]; omega
        · have q2 : (y.node != x.node) = true := by rw [bne, beq_eq_false_iff_ne.2 hyx]; rfl
          have HEQ : Hid (outL x xs (k + 1) = outL x xs k ++ [y] ∧ decide (posL x.node xs < k + 1) = true) := Lib.hid ⟨by rw [outL_more (by omega) hlt HT.out, if_neg (by omega), if_neg hyx], decide_eq_true (by omega)⟩
          clear hkp hyx
          go_wp2_with (at_builtin; (refine appRG lastC_len lastC_one Try.underlying33 rfl (by decide) info_last rfl _ _ rfl (w.heap.size + 1) _ _ rfl ((HON.out.alloc _).alloc _) _ [y] rfl (SlR.one lastC_len _ (wr.heap.size + 1) (by simp) _ y rfl) (by unfold maxLen; simp; omega) (by simp; omega) (by simp; omega) ?_; intro u1 w1 hown1 hg1; have HO1 := Lib.hid hown1; have HGR := Lib.hid hg1; clear hown1 hg1))
          go_roundw
          case rel => exact ⟨k + 1, by omega, by go_num, by rw [HEQ.out.2], Lib.hid (by rw [HEQ.out.1]; exact HO1.out), Lib.hid (Below.own (((HB.out.alloc (by omega) _).alloc (by simp; omega) _)) (by simp; omega) ((HON.out.alloc _).alloc _) HGR.out)⟩
          case measure => simp [intOf]; omega
    · obtain rfl : k = xs.length := by omega
      have HBW : Hid (Below w.heap.size w wr) := Lib.hid (((Below.refl _ _).alloc (Nat.le_refl _) _).trans (HB.out.mono (by omega)))
      by_cases hkp : xs.length ≤ posL x.node xs
      · have q0 : decide (posL x.node xs < xs.length) = false := decide_eq_false (by omega)
        have HEQ : Hid (outL x xs xs.length = xs ∧ lastPut x xs = xs ++ [x]) := Lib.hid ⟨by unfold outL; rw [if_pos hkp, List.take_length], by unfold lastPut; rw [List.take_of_length_le hkp, List.drop_of_length_le hkp]; simp [neN]⟩
        have hown := HO.out
        rw [HEQ.out.1] at hown
        have HON := Lib.hid hown
        clear hown hkp
        go_wp2_with (at_builtin; (refine appRG lastC_len lastC_one Try.underlying33 rfl (by decide) info_last rfl _ _ rfl (w.heap.size + 1) _ _ rfl (HON.out.alloc _) _ [x] rfl (SlR.one lastC_len _ (wr.heap.size) (by simp) _ x rfl) (by unfold maxLen; simp; omega) (by simp; omega) (by simp; omega) ?_; intro u1 w1 hown1 hg1; have HO1 := Lib.hid hown1; have HGR := Lib.hid hg1; clear hown1 hg1))
        go_ret
        exact ⟨u1, rfl, by rw [HEQ.out.2]; exact HO1.out.lower (by omega), Below.own (HBW.out.alloc (by omega) _) (by simp; omega) ((HON.out.alloc _).lower (by omega)) HGR.out⟩
      · have q0 : decide (posL x.node xs < xs.length) = true := decide_eq_true (by omega)
        have HEQ : Hid (outL x xs xs.length = lastPut x xs) := Lib.hid (by unfold outL lastPut; rw [if_neg hkp, List.take_length])
        have hown := HO.out
        rw [HEQ.out] at hown
        have HON := Lib.hid hown
        clear hown hkp
        go_wp2
        go_ret
        exact ⟨u5, rfl, HON.out.lower (by omega), HBW.out⟩
end Lr
end Go.Proofs.Ytgbblegcjladaaa
namespace Go.Proofs.Ytgbblegcjladaaa
set_option linter.unusedVariables false
set_option maxRecDepth 100000
namespace Lr
open Ld Cm La

theorem posW_eq {x : Held} {xs : List Held} {p : Nat} (hp : p ≤ xs.length) (h1 : ∀ y ∈ xs.take p, ¬ x.token < y.token) (h2 : ∀ y, xs[p]? = some y → x.token < y.token) : posW x xs = p := by
  unfold posW
  rcases Nat.lt_or_ge p xs.length with h | h
  · rw [List.findIdx_eq h]
    refine ⟨decide_eq_true (h2 _ (rgetD h)), fun j hj => decide_eq_false (h1 _ (List.mem_take_iff_getElem.2 ⟨j, by omega, rfl⟩))⟩
  · obtain rfl : p = xs.length := by omega
    rw [List.findIdx_eq_length]
    intro y hy
    exact decide_eq_false (h1 y (by rw [List.take_length]; exact hy))
/-! ### whether a token is free -/
theorem token_up {L N : Int} {h : List Held} (hp : heldP L N h) : ∀ i j (hi : i < h.length) (hj : j < h.length), i ≤ j → h[i].token + ((j : Int) - i) ≤ h[j].token := by
  intro i j hi hj hij
  induction j with
  | zero => obtain rfl : i = 0 := by omega
            omega
  | succ j ih =>
    rcases Nat.lt_or_ge i (j + 1) with h1 | h1
    · have h2 := ih (by omega) (by omega)
      have h3 := (List.pairwise_iff_getElem.1 hp.1 j (j + 1) (by omega) hj (by omega)).1
      omega
    · obtain rfl : i = j + 1 := by omega
      omega
theorem gap_whole {L N : Int} {h : List Held} (hp : heldP L N h) (hL : L ≤ h.length) : gap 0 h = h.length := by
  refine gap_none (Nat.le_refl _) (fun j x hj hx => ?_) (fun x hx => by rw [List.getElem?_eq_none (Nat.le_refl _)] at hx; cases hx)
  obtain ⟨hk, rfl⟩ := List.getElem?_eq_some_iff.1 hx
  have h1 := token_ge hp j hk
  have h2 := token_up hp j (h.length - 1) hk (by omega) (by omega)
  have h3 := (hp.2 _ (List.getElem_mem (by omega : h.length - 1 < h.length))).2.1
  omega
def noFree (l : Led) : Bool := decide (l.limit ≤ l.held.length ∨ 64 ≤ l.held.length)
theorem full_eq {l : Led} (h : LedP l) : full l = (noFree l || decide (l.next = 18446744073709551615)) := by
  have hg := gap_le l.held 0
  have h1 := gap_whole h.2.2.2.2.1
  unfold full noFree
  rw [← Bool.decide_or]
  congr 1
  apply propext
  constructor
  · rintro (h2 | h2 | h2)
    · exact .inl (.inl (by omega))
    · exact .inl (.inr h2)
    · exact .inr h2
  · rintro ((h2 | h2) | h2)
    · exact .inl (by have := h1 h2; omega)
    · exact .inr (.inl h2)
    · exact .inr (.inr h2)
theorem posW_new {l : Led} (h : LedP l) (i : Int) (c : Cmd) : posW (La.newRow l i c) l.held = gap 0 l.held := by
  refine posW_eq (gap_le _ _) (fun y hy => ?_) (fun y hy => ?_)
  · have := gap_ahead y hy
    show ¬ ((gap 0 l.held : Int) + 1 < y.token)
    omega
  · obtain ⟨hk, rfl⟩ := List.getElem?_eq_some_iff.1 hy
    exact gap_behind h.2.2.2.2.1 _ (List.mem_iff_getElem.2 ⟨0, by rw [List.length_drop]; omega, by simp⟩)
/-- the loop's question: the token k + 1 -/
theorem gap_asks {l : Led} (h : LedP l) {k : Nat} (hk : k ≤ gap 0 l.held) : (findT ((k : Int) + 1) l.held).isSome = decide (k < gap 0 l.held) := by
  rcases Nat.lt_or_ge k (gap 0 l.held) with h1 | h1
  · rw [decide_eq_true h1]
    have hl := gap_le l.held 0
    have h2 := gap_before l.held 0 k _ h1 (rgetD (by omega : k < l.held.length))
    cases h3 : findT ((k : Int) + 1) l.held with
    | some x => rfl
    | none =>
      have := List.find?_eq_none.1 h3 _ (List.getElem_mem (by omega : k < l.held.length))
      simp at this
      omega
  · obtain rfl : k = gap 0 l.held := by omega
    rw [decide_eq_false (by omega)]
    cases h3 : findT ((gap 0 l.held : Int) + 1) l.held with
    | none => rfl
    | some x =>
      have h4 := List.mem_of_find?_eq_some h3
      have h5 := List.find?_some h3
      simp at h5
      exact absurd h5 (gap_free h.2.2.2.2.1 x h4)

/-! ### the row that a command names -/
theorem find_row {L N t : Int} {xs : List Held} (hp : heldP L N xs) {h : Held} (hf : findT t xs = some h) : h.token = t ∧ ∃ j, xs[j]? = some h ∧ ∀ (i : Nat) (y : Held), xs[i]? = some y → y.token = t → i = j := by
  have h1 := List.find?_some hf
  simp at h1
  obtain ⟨j, hj, rfl⟩ := List.mem_iff_getElem.1 (List.mem_of_find?_eq_some hf)
  refine ⟨h1, j, rgetD hj, fun i y hy hyt => ?_⟩
  obtain ⟨hi, rfl⟩ := List.getElem?_eq_some_iff.1 hy
  rcases Nat.lt_trichotomy i j with h2 | h2 | h2
  · have := (List.pairwise_iff_getElem.1 hp.1 i j hi hj h2).1; omega
  · exact h2
  · have := (List.pairwise_iff_getElem.1 hp.1 j i hj hi h2).1; omega
theorem named_token {c : Cmd} {x : Held} (h : named c x = true) : x.token = c.token := by
  unfold named at h
  split at h
  · exact (of_decide_eq_true h).1
  · exact (of_decide_eq_true h).1
theorem fit_missing {c : Cmd} {xs : List Held} (hf : findT c.token xs = none) : fitAt c xs = xs.length := by
  refine fitAt_none (fun y hy => ?_)
  have := List.find?_eq_none.1 hf y hy
  cases hn : named c y with
  | false => rfl
  | true => have := named_token hn; simp_all
theorem fit_other {L N : Int} {c : Cmd} {xs : List Held} (hp : heldP L N xs) {h : Held} (hf : findT c.token xs = some h) (hn : named c h = false) : fitAt c xs = xs.length := by
  obtain ⟨-, j, hj, hu⟩ := find_row hp hf
  refine fitAt_none (fun y hy => ?_)
  cases hny : named c y with
  | false => rfl
  | true =>
    obtain ⟨i, hi, rfl⟩ := List.mem_iff_getElem.1 hy
    have := hu i _ (rgetD hi) (named_token hny)
    subst this
    rw [rgetD hi] at hj
    cases hj
    rw [hn] at hny
    cases hny
theorem fit_this {L N : Int} {c : Cmd} {xs : List Held} (hp : heldP L N xs) {h : Held} (hf : findT c.token xs = some h) (hn : named c h = true) : xs[fitAt c xs]? = some h ∧ woT c.token xs = cutAt (fitAt c xs) xs := by
  obtain ⟨ht, j, hj, hu⟩ := find_row hp hf
  obtain ⟨hlt, hg⟩ := List.getElem?_eq_some_iff.1 hj
  have e : fitAt c xs = j := by
    refine fitAt_of hj (fun y hy => ?_) hn
    obtain ⟨i, hi, rfl⟩ := List.mem_take_iff_getElem.1 hy
    cases hny : named c xs[i] with
    | false => rfl
    | true =>
      have := hu i _ (rgetD (by omega)) (named_token hny)
      omega
  rw [e]
  refine ⟨hj, ?_⟩
  have hs : xs = xs.take j ++ h :: xs.drop (j + 1) := by rw [← hg, ← List.drop_eq_getElem_cons hlt, List.take_append_drop]
  unfold cutAt
  have h1 : ∀ y ∈ xs.take j, (y.token != c.token) = true := fun y hy => by
    obtain ⟨i, hi, rfl⟩ := List.mem_take_iff_getElem.1 hy
    rw [bne, beq_eq_false_iff_ne.2]
    · rfl
    · intro he
      have := hu i _ (rgetD (by omega)) he
      omega
  have h2 : ∀ y ∈ xs.drop (j + 1), (y.token != c.token) = true := fun y hy => by
    obtain ⟨i, hi, rfl⟩ := List.mem_iff_getElem.1 hy
    rw [List.length_drop] at hi
    rw [List.getElem_drop, bne, beq_eq_false_iff_ne.2]
    · rfl
    · intro he
      have := hu (j + 1 + i) _ (rgetD (by omega)) he
      omega
  unfold woT
  conv => lhs; rw [hs]
  rw [List.filter_append, List.filter_eq_self.2 h1, List.filter_cons_of_neg (by rw [ht]; simp), List.filter_eq_self.2 h2]
/-- the row put back, its Stamp changed -/
theorem put_back {L N : Int} {xs : List Held} (hp : heldP L N xs) {j : Nat} {h : Held} (hj : xs[j]? = some h) (i : Int) : putAt (posW (restamp i h) (cutAt j xs)) (restamp i h) (cutAt j xs) = xs.set j (restamp i h) := by
  obtain ⟨hlt, hg⟩ := List.getElem?_eq_some_iff.1 hj
  have hT : (xs.take j).length = j := by rw [List.length_take]; omega
  have e : posW (restamp i h) (cutAt j xs) = j := by
    refine posW_eq (by unfold cutAt; rw [List.length_append, hT]; omega) (fun y hy => ?_) (fun y hy => ?_)
    · unfold cutAt at hy
      rw [List.take_append_of_le_length (by omega), List.take_of_length_le (by omega)] at hy
      obtain ⟨k, hk, rfl⟩ := List.mem_take_iff_getElem.1 hy
      have := (List.pairwise_iff_getElem.1 hp.1 k j (by omega) hlt (by omega)).1
      show ¬ (h.token < _)
      rw [← hg]
      omega
    · unfold cutAt at hy
      rw [List.getElem?_append_right (by omega), hT, Nat.sub_self, List.getElem?_drop] at hy
      obtain ⟨hk, rfl⟩ := List.getElem?_eq_some_iff.1 hy
      have := (List.pairwise_iff_getElem.1 hp.1 j (j + 1 + 0) hlt hk (by omega)).1
      show h.token < _
      rw [← hg]
      exact this
  rw [e, set_split _ hj]
  unfold putAt cutAt
  rw [List.take_append_of_le_length (by omega), List.take_of_length_le (by omega), List.drop_append_of_le_length (by omega), List.drop_of_length_le (by omega), List.nil_append]

/-! ### the last requests -/
theorem last_put {L N : Int} {xs : List LastR} (hp : lastP L N xs) (x : LastR) (h : ∀ r, xs[posL x.node xs]? = some r → r.node ≠ x.node) : lastPut x xs = putAt (posL x.node xs) x xs := by
  unfold lastPut putAt neN
  rw [List.filter_eq_self.2]
  intro y hy
  have := pos_behind hp h y hy
  rw [bne, beq_eq_false_iff_ne.2 (by omega)]
  rfl
theorem last_set {L N : Int} {xs : List LastR} (hp : lastP L N xs) (x : LastR) {r : LastR} (hr : xs[posL x.node xs]? = some r) (hn : r.node = x.node) : lastPut x xs = xs.set (posL x.node xs) x := by
  obtain ⟨hlt, hg⟩ := List.getElem?_eq_some_iff.1 hr
  rw [set_split _ hr]
  unfold lastPut neN
  rw [List.drop_eq_getElem_cons hlt, hg, List.filter_cons_of_neg (by rw [hn]; simp), List.filter_eq_self.2]
  intro y hy
  obtain ⟨k, hk, rfl⟩ := List.mem_iff_getElem.1 hy
  rw [List.length_drop] at hk
  rw [List.getElem_drop, bne, beq_eq_false_iff_ne.2]
  · rfl
  · have := List.pairwise_iff_getElem.1 hp.1 (posL x.node xs) (posL x.node xs + 1 + k) hlt (by omega) (by omega)
    rw [hg] at this
    omega
/-- no row of the node is older or the same: the request is executed -/
theorem once_new {l : Led} {i : Int} {c : Cmd} (h : LedP l) (hno : ∀ y ∈ l.last, y.node = c.node → older c y = false ∧ again c y = false) :
    onceL l i c = ({ (execL l i c).1 with last := lastPut (lastOf c (execL l i c).2) (execL l i c).1.last }, (execL l i c).2) := by
  have hnode : ∀ a : Ans, (lastOf c a).node = c.node := fun _ => rfl
  rw [exec_last]
  unfold onceL
  cases hr : l.last[posL c.node l.last]? with
  | none =>
    show insL l i c = _
    unfold insL
    rw [last_put h.2.2.2.2.2 (lastOf c (execL l i c).2) (fun r hr' => by rw [hnode, hr] at hr'; cases hr'), hnode]
  | some r =>
    show (if r.node = c.node then foundL l i c r else insL l i c) = _
    by_cases hn : r.node = c.node
    · rw [if_pos hn]
      obtain ⟨h1, h2⟩ := hno r (List.mem_of_getElem? hr) hn
      unfold foundL repL
      rw [if_neg (by rw [h1]; simp), if_neg (by rw [h2]; simp), last_set h.2.2.2.2.2 (lastOf c (execL l i c).2) (r := r) hr hn, hnode]
    · rw [if_neg hn]
      unfold insL
      rw [last_put h.2.2.2.2.2 (lastOf c (execL l i c).2) (fun r' hr' => by rw [hnode, hr] at hr'; cases hr'; exact hn), hnode]
/-- a row of the node that is older, or the same -/
theorem once_old {l : Led} {i : Int} {c : Cmd} (h : LedP l) {y : LastR} (hy : y ∈ l.last) (hn : y.node = c.node) (ho : older c y = true) : onceL l i c = (l, ⟨6, 0, 0⟩) := by
  have := pos_found h.2.2.2.2.2 hy
  rw [hn] at this
  unfold onceL
  rw [this]
  show (if y.node = c.node then foundL l i c y else insL l i c) = _
  rw [if_pos hn]
  unfold foundL
  rw [if_pos ho]
theorem once_again {l : Led} {i : Int} {c : Cmd} (h : LedP l) {y : LastR} (hy : y ∈ l.last) (hn : y.node = c.node) (ho : older c y = false) (ha : again c y = true) : onceL l i c = (l, ansOf y) := by
  have := pos_found h.2.2.2.2.2 hy
  rw [hn] at this
  unfold onceL
  rw [this]
  show (if y.node = c.node then foundL l i c y else insL l i c) = _
  rw [if_pos hn]
  unfold foundL
  rw [if_neg (by rw [ho]; simp), if_pos ha]
end Lr
end Go.Proofs.Ytgbblegcjladaaa
namespace Go.Proofs.Ytgbblegcjladaaa
open Go.ChangeShapes Go.WideShapes Go.ChangeAt Go.RowKit Go.Lib
set_option linter.unusedVariables false
set_option maxRecDepth 100000
theorem results_cc {P : Program} {fn : Func} {p q : Tmp} {ty ty2 : TypeId} (h : fn.results = #[.cell p ty, .cell q ty2]) (tmps : Array Value) (w : World) (g g2 : Nat) (t t2 : TypeId) (cs cs2 : Array Value) (fr fr2 : Nat × Nat) (d d2 : TypeDesc)
    (hp : tmps.getD p undef = .pointer (some ⟨g, 0, none⟩)) (hg : w.heap[g]? = some (.cells cs t fr))
    (hu : P.underlying ty = some d) (hd : (match d with | .struct _ | .array _ _ => true | _ => false) = true) (hi : (P.info? ty).map (·.size) = some cs.size)
    (hp2 : tmps.getD q undef = .pointer (some ⟨g2, 0, none⟩)) (hg2 : w.heap[g2]? = some (.cells cs2 t2 fr2))
    (hu2 : P.underlying ty2 = some d2) (hd2 : (match d2 with | .struct _ | .array _ _ => true | _ => false) = true) (hi2 : (P.info? ty2).map (·.size) = some cs2.size) :
    (results fn tmps).run P w = .ok (.tuple #[.agg cs, .agg cs2]) w := by
  have hp' : tmps[p]?.getD undef = .pointer (some ⟨g, 0, none⟩) := by simpa using hp
  have hp2' : tmps[q]?.getD undef = .pointer (some ⟨g2, 0, none⟩) := by simpa using hp2
  simp [results, h, hp', hp2', asAddr, run_loadVar_row w g t ty cs fr d hg hu hd hi, run_loadVar_row w g2 t2 ty2 cs2 fr2 d2 hg2 hu2 hd2 hi2]
namespace Lr
open Ld Cm La
set_option maxHeartbeats 1000000 in
theorem free_any (l : Led) (v : Value) (w : World) (h : IsLed w v l) (hL : LedP l) :
    Calls Try.prog 81 #[v] w fun e w' => ∃ z : Int, e = .returned (.int .i64 z) ∧ (z == 0) = noFree l ∧ Below w.heap.size w w' := by
  obtain ⟨vh, vl, rfl, hh, -, -⟩ := h
  obtain ⟨a, cap, rfl, h1, h2, -⟩ := hh
  unfold maxLen at h2
  obtain ⟨l1, l2, -, l3, -, -⟩ := hL
  have HB : Hid (Below w.heap.size w (w.alloc (.cells (lArr l (.slice a l.held.length cap) vl) 35))) := Lib.hid ((Below.refl _ _).alloc (Nat.le_refl _) _)
  have hq : ∀ z : Int, (z = 0 ↔ (l.limit ≤ l.held.length ∨ 64 ≤ l.held.length)) → (z == 0) = noFree l := fun z hz => by
    unfold noFree
    by_cases h : z = 0
    · rw [beq_iff_eq.2 h, decide_eq_true (hz.1 h)]
    · rw [beq_eq_false_iff_ne.2 h, decide_eq_false (fun g => h (hz.2 g))]
  have HQ := Lib.hid hq
  clear hq
  by_cases h6 : l.limit < 64
  · by_cases h7 : 0 < l.limit - l.held.length
    · go_enter Try.func81, Try.ntmps81
      go_wp2
      all_goals go_ret
      all_goals exact ⟨_, rfl, HQ.out _ (by omega), HB.out⟩
    · go_enter Try.func81, Try.ntmps81
      go_wp2
      all_goals go_ret
      all_goals exact ⟨_, rfl, HQ.out _ (by omega), HB.out⟩
  · by_cases h7 : (0 : Int) < 64 - l.held.length
    · go_enter Try.func81, Try.ntmps81
      go_wp2
      all_goals go_ret
      all_goals exact ⟨_, rfl, HQ.out _ (by omega), HB.out⟩
    · go_enter Try.func81, Try.ntmps81
      go_wp2
      all_goals go_ret
      all_goals exact ⟨_, rfl, HQ.out _ (by omega), HB.out⟩
/-- a ledger and an answer, told: the rows of Held as they came, or the call's own; those of Last as they came -/
def Gives2 (l : Led) (vh0 vl0 : Value) (r : Led × Ans) (w : World) (e : Ending) (w' : World) : Prop :=
  ∃ vh, e = .returned (.tuple #[.agg (lArr r.1 vh vl0), .agg (aA r.2)]) ∧ ((vh = vh0 ∧ r.1.held = l.held) ∨ OwnR 5 heldC 47 w' w.heap.size vh r.1.held) ∧ r.1.last = l.last ∧ r.1.wf ∧ Below w.heap.size w w'
/-- the four boxes at the beginning -/
theorem boxes4 (w : World) (l : Led) (vh vl : Value) (c : Cmd) (vn : Value) : ∃ W, (((w.alloc (.cells (lArr l vh vl) 35)).alloc (.cells (cA c vn) 58)).alloc (.cells zArr 35)).alloc (.cells zA 60) = W ∧ Below w.heap.size w W ∧ W.heap.size = w.heap.size + 4 ∧ W.heap[w.heap.size]? = some (.cells (lArr l vh vl) 35 (0, 0)) ∧ W.heap[w.heap.size + 1]? = some (.cells (cA c vn) 58 (0, 0)) ∧ W.heap[w.heap.size + 2]? = some (.cells zArr 35 (0, 0)) ∧ W.heap[w.heap.size + 3]? = some (.cells zA 60 (0, 0)) := by
  refine ⟨_, rfl, (((((Below.refl _ _).alloc (Nat.le_refl _) _).alloc (by simp) _).alloc (by simp <;> omega) _).alloc (by simp <;> omega) _), by simp, ?_, ?_, ?_, ?_⟩
  · exact (heap_alloc_old _ _ (by simp <;> omega)).trans ((heap_alloc_old _ _ (by simp <;> omega)).trans ((heap_alloc_old _ _ (by simp)).trans (heap_alloc_new _ _)))
  · exact (heap_alloc_old _ _ (by simp <;> omega)).trans ((heap_alloc_old _ _ (by simp)).trans (new2 _ _ _))
  · refine (heap_alloc_old _ _ (by simp)).trans ?_
    have := heap_alloc_new ((w.alloc (.cells (lArr l vh vl) 35)).alloc (.cells (cA c vn) 58)) (.cells zArr 35)
    simpa using this
  · have := heap_alloc_new (((w.alloc (.cells (lArr l vh vl) 35)).alloc (.cells (cA c vn) 58)).alloc (.cells zArr 35)) (.cells zA 60)
    simpa using this
theorem gives2_of {w W : World} {s : Nat} {r : Led × Ans} {l : Led} {vh vh0 vl : Value} (hs : s = w.heap.size + 2) (hb : Below w.heap.size w W) (h1 : (vh = vh0 ∧ r.1.held = l.held) ∨ ∃ B, w.heap.size + 4 ≤ B ∧ OwnR 5 heldC 47 W B vh r.1.held) (h2 : r.1.last = l.last) (hw : r.1.wf) :
    Gives2 l vh0 vl r w (.returned (.tuple #[.agg (lArr r.1 vh vl), .agg (aA r.2)])) ((W.setRow s (lArr r.1 vh vl)).setRow (s + 1) (aA r.2)) :=
  ⟨vh, rfl, h1.imp id (fun ⟨B, hB, h⟩ => ((h.row (by omega)).row (by omega)).lower (by omega)), h2, hw, Ld.below_row (Ld.below_row hb (by omega) _) (by omega) _⟩
set_option maxHeartbeats 8000000 in
theorem grant_any (l : Led) (vh vl u : Value) (i : Int) (c : Cmd) (w : World) (h : IsLed w (.agg (lArr l vh vl)) l) (hc : IsCmd w u c) (hL : LedP l) (hi : (Lit.int .u64 i).wf = true) :
    Calls Try.prog 75 #[.agg (lArr l vh vl), .int .u64 i, u] w (Gives2 l vh vl (grantL l i c) w) := by
  obtain ⟨c1, k1, c2, k2, rfl, rfl⟩ := led_forms h
  have hh : SlR 5 heldC w (.slice c1 l.held.length k1) l.held := by
    obtain ⟨vh', vl', e', s1, s2, -⟩ := id h
    obtain ⟨rfl, rfl⟩ : Value.slice c1 l.held.length k1 = vh' ∧ Value.slice c2 l.last.length k2 = vl' := by simpa using e'
    exact s1
  have hwf : l.wf := by obtain ⟨_, _, -, -, -, hwf⟩ := id h; exact hwf
  obtain ⟨vn, rfl, hsn, hcw⟩ := id hc
  obtain ⟨W4, hW4, hb4, hz4, hL4, hC4, hR4, hA4⟩ := boxes4 w l (.slice c1 l.held.length k1) (.slice c2 l.last.length k2) c vn
  have HI4 := Lib.hid (h.below hb4 (Nat.le_refl _))
  have HH := Lib.hid hh
  have HWF := Lib.hid hwf
  have HCW := Lib.hid hcw
  have HLP := Lib.hid hL
  have HB4 := Lib.hid hb4
  have HZ4 := Lib.hid hz4
  have HL4 := Lib.hid hL4
  have HC4 := Lib.hid hC4
  have HR4 := Lib.hid hR4
  have HA4 := Lib.hid hA4
  have HG := Lib.hid (gap_le l.held 0)
  have HI := Lib.hid hi
  have hnb := bounds_u64 hwf.2.1
  clear h hc hh hwf hsn hcw hL hb4 hz4 hL4 hC4 hR4 hA4 hi
  go_enter Try.func75, Try.ntmps75
  go_wp2_with ((with_reducible refine wpList_load_row rfl 35 (.tmp 3) rfl w.heap.size rfl 35 (lArr l (.slice c1 l.held.length k1) (.slice c2 l.last.length k2)) (0, 0) _ HL4.out Try.underlying35 rfl (by kernel_rfl) ?_))
  refine (free_any l _ _ HI4.out HLP.out).mono ?_
  rintro e w1 ⟨z, rfl, hz, hb1⟩
  have HB14 := Lib.hid hb1
  have HL1 := Lib.hid ((hb1.block w.heap.size (by have := HZ4.out; omega)).trans HL4.out)
  have HC1 := Lib.hid ((hb1.block (w.heap.size + 1) (by have := HZ4.out; omega)).trans HC4.out)
  have HR1 := Lib.hid ((hb1.block (w.heap.size + 2) (by have := HZ4.out; omega)).trans HR4.out)
  have HA1 := Lib.hid ((hb1.block (w.heap.size + 3) (by have := HZ4.out; omega)).trans HA4.out)
  have HB1 := Lib.hid (HB4.out.trans (hb1.mono (by have := HZ4.out; omega)))
  obtain ⟨y0, y1, y2, y3⟩ := led_cells HL1.out
  clear hb1
  have HREF : Hid (full l = true → Gives2 l (.slice c1 l.held.length k1) (.slice c2 l.last.length k2) (grantL l i c) w (.returned (.tuple #[.agg (lArr l (.slice c1 l.held.length k1) (.slice c2 l.last.length k2)), .agg #[.int .i64 2, .int .i64 0, .int .u64 0]])) ((w1.setRow (w.heap.size + 2) (lArr l (.slice c1 l.held.length k1) (.slice c2 l.last.length k2))).setRow (w.heap.size + 3) #[.int .i64 2, .int .i64 0, .int .u64 0])) := Lib.hid (fun hf => by
    rw [grant_full hf]
    exact gives2_of (r := (l, ⟨2, 0, 0⟩)) rfl HB1.out (.inl ⟨rfl, rfl⟩) rfl HWF.out)
  have HA2 := Lib.hid ((setRow_other w1 (w.heap.size + 2) (w.heap.size + 3) (lArr l (.slice c1 l.held.length k1) (.slice c2 l.last.length k2)) (by omega)).trans HA1.out)
  cases hf : noFree l
  · rw [hf] at hz
    by_cases hn : l.next = 18446744073709551615
    · have hfu : full l = true := by rw [full_eq HLP.out, hf, decide_eq_true hn]; rfl
      have HFU := Lib.hid hfu
      have en : (l.next == 18446744073709551615) = true := beq_iff_eq.2 hn
      clear hn hf hfu
      go_wp2_with (first
        | (with_reducible refine wpList_load_row rfl 35 (.tmp 3) rfl w.heap.size rfl 35 (lArr l (.slice c1 l.held.length k1) (.slice c2 l.last.length k2)) (0, 0) _ HL1.out Try.underlying35 rfl (by kernel_rfl) ?_)
        | (with_reducible refine wpList_store_row rfl 35 (.tmp 6) (.tmp 19) rfl (w.heap.size + 2) (lArr l (.slice c1 l.held.length k1) (.slice c2 l.last.length k2)) rfl rfl 35 _ HR1.out (by kernel_rfl) rfl (Ld.lArr_one _ _ _ _ _ _ _) ?_)
        | (with_reducible refine wpList_store_row rfl 60 (.tmp 7) (.tmp 20) rfl (w.heap.size + 3) #[.int .i64 2, .int .i64 0, .int .u64 0] rfl rfl 60 _ HA2.out (by kernel_rfl) rfl (ans_one _ _ _) ?_))
      exact bodyPost_ret (v := .tuple #[.agg (lArr l (.slice c1 l.held.length k1) (.slice c2 l.last.length k2)), .agg #[.int .i64 2, .int .i64 0, .int .u64 0]]) (results_cc rfl _ _ (w.heap.size + 2) (w.heap.size + 3) 35 60 _ _ (0, 0) (0, 0) _ _ rfl ((setRow_other _ _ _ _ (by omega)).trans (setRow_heap _ _ _ _ _ _ HR1.out)) Try.underlying35 rfl (by kernel_rfl) rfl (setRow_heap _ _ _ _ _ _ HA2.out) Try.underlying60 rfl (by kernel_rfl)) rfl (HREF.out HFU.out)
    · have hfu : full l = false := by rw [full_eq HLP.out, hf, decide_eq_false hn]; rfl
      have HGR := Lib.hid (grant_new (i := i) (c := c) hfu)
      have HFN := Lib.hid (full_not hfu)
      have en : (l.next == 18446744073709551615) = false := beq_eq_false_iff_ne.2 hn
      have hn1 : l.next + 1 ≤ 18446744073709551615 := by omega
      have hg65 : gap 0 l.held ≤ 64 := by have := HG.out; have := HFN.out.2.1; omega
      clear hn hf hfu HREF
      go_wp2
      go_loopw [8] (fun t wr => ∃ k : Nat, k ≤ gap 0 l.held ∧ t = .int .i64 ((k : Int) + 1) ∧ Hid (Below w1.heap.size w1 wr)) (fun t _ => 70 - (intOf t).toNat)
      case atStart => exact ⟨0, Nat.zero_le _, rfl, Lib.hid (Below.refl _ _)⟩
      case round =>
        obtain ⟨k, hk, rfl, HB⟩ := hrel
        have HS1 : Hid (w.heap.size + 4 ≤ w1.heap.size) := Lib.hid (by have := HB14.out.size; have := HZ4.out; omega)
        have HLr := Lib.hid ((HB.out.block w.heap.size (by have := HS1.out; omega)).trans HL1.out)
        have HBr : Hid (Below w.heap.size w wr) := Lib.hid (HB1.out.trans (HB.out.mono (by have := HS1.out; omega)))
        have HIr := Lib.hid (HI4.out.below (HB14.out.trans (HB.out.mono HB14.out.size)) (Nat.le_refl _))
        have HSr : Hid (w.heap.size + 4 ≤ wr.heap.size) := Lib.hid (Nat.le_trans HS1.out HB.out.size)
        clear y0 y1 y2 y3
        go_wp2_with ((with_reducible refine wpList_load_row rfl 35 (.tmp 3) rfl w.heap.size rfl 35 (lArr l (.slice c1 l.held.length k1) (.slice c2 l.last.length k2)) (0, 0) _ HLr.out Try.underlying35 rfl (by kernel_rfl) ?_))
        refine (find_any l _ ((k : Int) + 1) _ HIr.out).mono ?_
        rintro e w5 ⟨rfl, hb5⟩
        generalize (findT ((k : Int) + 1) l.held).getD zH = y
        rw [gap_asks HLP.out hk]
        have hs5 : (w5.alloc (.cells #[.int .i64 0, .int .i64 0, .int .u64 0, .int .u64 0, .int .u64 0] 47)).heap[w5.heap.size]? = some (.cells #[.int .i64 0, .int .i64 0, .int .u64 0, .int .u64 0, .int .u64 0] 47 (0, 0)) := heap_alloc_new _ _
        have hb6 : Below wr.heap.size wr ((w5.alloc (.cells #[.int .i64 0, .int .i64 0, .int .u64 0, .int .u64 0, .int .u64 0] 47)).setRow w5.heap.size (hA y)) := hb5.trans ((Ld.below_row ((Below.refl _ _).alloc (Nat.le_refl _) _) (Nat.le_refl _) _ : Below w5.heap.size w5 _).mono hb5.size)
        obtain ⟨W6, hW6⟩ : ∃ q, (w5.alloc (.cells #[.int .i64 0, .int .i64 0, .int .u64 0, .int .u64 0, .int .u64 0] 47)).setRow w5.heap.size (hA y) = q := ⟨_, rfl⟩
        rw [hW6] at hb6
        have HS5 := Lib.hid hs5
        have HB6 := Lib.hid hb6
        clear hs5 hb6 hb5
        by_cases hkg : k < gap 0 l.held
        · rw [decide_eq_true hkg]
          have HX6 := Lib.hid (HB.out.trans (HB6.out.mono HB.out.size))
          go_wp2_with ((with_reducible refine wpList_store_row rfl 47 (.tmp 9) (.tmp 25) rfl w5.heap.size (hA y) rfl rfl 47 _ HS5.out (by kernel_rfl) rfl (hA_one y) ?_))
          go_roundw
          case rel => exact ⟨k + 1, by omega, by go_num, HX6⟩
          case measure => simp [intOf]; omega
        · rw [decide_eq_false hkg]
          obtain rfl : k = gap 0 l.held := by omega
          have HL6 := Lib.hid ((HB6.out.block w.heap.size (by have := HSr.out; omega)).trans HLr.out)
          have hC6 := (HB6.out.block (w.heap.size + 1) (by have := HSr.out; omega)).trans ((HB.out.block (w.heap.size + 1) (by have := HS1.out; omega)).trans HC1.out)
          have HR6 := Lib.hid ((HB6.out.block (w.heap.size + 2) (by have := HSr.out; omega)).trans ((HB.out.block (w.heap.size + 2) (by have := HS1.out; omega)).trans HR1.out))
          have HA6 := Lib.hid ((HB6.out.block (w.heap.size + 3) (by have := HSr.out; omega)).trans ((HB.out.block (w.heap.size + 3) (by have := HS1.out; omega)).trans HA1.out))
          have HBw6 : Hid (Below w.heap.size w W6) := Lib.hid (HBr.out.trans (HB6.out.mono HBr.out.size))
          have HS6 : Hid (w.heap.size + 4 ≤ W6.heap.size) := Lib.hid (Nat.le_trans HSr.out HB6.out.size)
          obtain ⟨y0, y1, y2, y3⟩ := led_cells HL6.out
          obtain ⟨q0, q1, q2, q4, q5, q6, q7⟩ := cmd_cells hC6
          have HPN : Hid (posW ⟨(gap 0 l.held : Int) + 1, c.node, c.boot, l.next, i⟩ l.held = gap 0 l.held) := Lib.hid (posW_new HLP.out i c)
          have HH6 := Lib.hid (HH.out.below HBw6.out (Nat.le_refl _))
          clear hkg hC6
          go_wp2_with ((with_reducible refine wpList_store_row rfl 47 (.tmp 9) (.tmp 25) rfl w5.heap.size (hA y) rfl rfl 47 _ HS5.out (by kernel_rfl) rfl (hA_one y) ?_))
          refine (with_any l.held _ ⟨(gap 0 l.held : Int) + 1, c.node, c.boot, l.next, i⟩ _ HH6.out (by have := HFN.out.2.1; omega)).mono ?_
          rintro e w7 ⟨v7, rfl, hown7, -, hb7⟩
          rw [HPN.out] at hown7
          have hown7 : OwnR 5 heldC 47 w7 W6.heap.size v7 (putAt (gap 0 l.held) (La.newRow l i c) l.held) := hown7
          obtain ⟨a7, cap7, hv7, -⟩ := id (hown7.sl heldC_len)
          subst hv7
          obtain ⟨n7, hn7⟩ : ∃ n, n = (putAt (gap 0 l.held) (La.newRow l i c) l.held).length := ⟨_, rfl⟩
          rw [← hn7] at hown7 ⊢
          have hL7 := (hb7.block w.heap.size (by have := HS6.out; omega)).trans HL6.out
          have t2 := row2 hL7
          have u2 := frozen_of (o := 2) hL7
          obtain ⟨W8, hW8⟩ : ∃ q, w7.setCell ⟨w.heap.size, 2, none⟩ (.slice a7 n7 cap7) = q := ⟨_, rfl⟩
          have hL8 : W8.heap[w.heap.size]? = some (.cells (lArr l (.slice a7 n7 cap7) (.slice c2 l.last.length k2)) 35 (0, 0)) := by rw [← hW8]; exact store2 hL7 _
          have m1 := (led_cells hL8).2.1
          have o1 := frozen_of (o := 1) hL8
          obtain ⟨W9, hW9⟩ : ∃ q, W8.setCell ⟨w.heap.size, 1, none⟩ (.int .u64 (l.next + 1)) = q := ⟨_, rfl⟩
          have hL9 : W9.heap[w.heap.size]? = some (.cells (lArr { l with held := putAt (gap 0 l.held) (La.newRow l i c) l.held, next := l.next + 1 } (.slice a7 n7 cap7) (.slice c2 l.last.length k2)) 35 (0, 0)) := by
            rw [← hW9, heap_setCell_same W8 w.heap.size 1 _ _ _ hL8]; rfl
          have hE9 : ∀ k, k ≠ w.heap.size → W9.heap[k]? = w7.heap[k]? := fun k hk => by
            rw [← hW9]
            refine (heap_setCell_other _ _ _ _ (by show k ≠ w.heap.size; exact hk)).trans ?_
            rw [← hW8]
            exact heap_setCell_other _ _ _ _ (by show k ≠ w.heap.size; exact hk)
          have hR9 := (hE9 (w.heap.size + 2) (by omega)).trans ((hb7.block (w.heap.size + 2) (by have := HS6.out; omega)).trans HR6.out)
          have hA9 := (hE9 (w.heap.size + 3) (by omega)).trans ((hb7.block (w.heap.size + 3) (by have := HS6.out; omega)).trans HA6.out)
          have HB9 : Hid (Below w.heap.size w W9) := Lib.hid (by
            rw [← hW9, ← hW8]
            exact ((HBw6.out.trans (hb7.mono (by have := HS6.out; omega))).setCell (Nat.le_refl _) _).setCell (Nat.le_refl _) _)
          have HOW9 : Hid (OwnR 5 heldC 47 W9 W6.heap.size (.slice a7 n7 cap7) (putAt (gap 0 l.held) (La.newRow l i c) l.held)) := Lib.hid (own_keep hown7 fun k hk => hE9 k (by have := (own_block hown7 k hk).1; have := HS6.out; omega))
          obtain ⟨x0, x1, x2, x3⟩ := led_cells hL9
          have r0 := (cell_of_row W9 _ 0 _ _ _ hR9).trans rfl
          have r1 := (cell_of_row W9 _ 1 _ _ _ hR9).trans rfl
          have r2 := (cell_of_row W9 _ 2 _ _ _ hR9).trans rfl
          have r3 := (cell_of_row W9 _ 3 _ _ _ hR9).trans rfl
          have s0 := (cell_of_row W9 _ 0 _ _ _ hA9).trans rfl
          have s1 := (cell_of_row W9 _ 1 _ _ _ hA9).trans rfl
          have s2 := (cell_of_row W9 _ 2 _ _ _ hA9).trans rfl
          have f0 := frozen_of (o := 0) hR9
          have f1 := frozen_of (o := 1) hR9
          have f2 := frozen_of (o := 2) hR9
          have f3 := frozen_of (o := 3) hR9
          have g0 := frozen_of (o := 0) hA9
          have g1 := frozen_of (o := 1) hA9
          have g2 := frozen_of (o := 2) hA9
          have HR9 := Lib.hid hR9
          have HA9 := Lib.hid hA9
          have HN7 := Lib.hid hn7
          clear hown7 hb7 hL7 hL8 hL9 hE9 hR9 hA9 y0 y1 y2 y3 q0 q1 q2 q4 q5 q6 q7 hn7
          go_wp2_with fail
          go_region
          all_goals
            generalize hW10 : World.drew _ = W10
            obtain ⟨U1, hU1⟩ : ∃ U, W9.setCells (w.heap.size + 2) 0 [.int .i64 l.limit, .int .u64 (l.next + 1), .slice a7 n7 cap7, .slice c2 l.last.length k2] = U := ⟨_, rfl⟩
            obtain ⟨U2, hU2⟩ : ∃ U, U1.setCells (w.heap.size + 3) 0 [.int .i64 1, .int .i64 ((gap 0 l.held : Int) + 1), .int .u64 l.next] = U := ⟨_, rfl⟩
            have hW10e : W10 = U2.drew := by rw [← hU2, ← hU1]; exact hW10.symm
            have hd : W10.heap = U2.heap := by rw [hW10e]; rfl
            have hE1 : ∀ k, k ≠ w.heap.size + 2 → U1.heap[k]? = W9.heap[k]? := fun k h => by rw [← hU1]; exact other_cells _ _ _ _ h
            have hE2 : ∀ k, k ≠ w.heap.size + 3 → U2.heap[k]? = U1.heap[k]? := fun k h => by rw [← hU2]; exact other_cells _ _ _ _ h
            have hB1 : Below w.heap.size W9 U1 := by rw [← hU1]; exact below_cells w.heap.size (by omega) _ _ _
            have hB2 : Below w.heap.size U1 U2 := by rw [← hU2]; exact below_cells w.heap.size (by omega) _ _ _
            have hR1 : U1.heap[w.heap.size + 2]? = some (.cells #[.int .i64 l.limit, .int .u64 (l.next + 1), .slice a7 n7 cap7, .slice c2 l.last.length k2] 35 (0, 0)) := by rw [← hU1]; exact row_cells4 HR9.out _ _ _ _
            have hA2' : U2.heap[w.heap.size + 3]? = some (.cells #[.int .i64 1, .int .i64 ((gap 0 l.held : Int) + 1), .int .u64 l.next] 60 (0, 0)) := by rw [← hU2]; exact row_cells3 ((hE1 _ (by omega)).trans HA9.out) _ _ _
            have HR10 : Hid (W10.heap[w.heap.size + 2]? = some (.cells #[.int .i64 l.limit, .int .u64 (l.next + 1), .slice a7 n7 cap7, .slice c2 l.last.length k2] 35 (0, 0))) := Lib.hid (by rw [hd]; exact (hE2 _ (by omega)).trans hR1)
            have HA10 : Hid (W10.heap[w.heap.size + 3]? = some (.cells #[.int .i64 1, .int .i64 ((gap 0 l.held : Int) + 1), .int .u64 l.next] 60 (0, 0))) := Lib.hid (by rw [hd]; exact hA2')
            have hE10 : ∀ k, k ≠ w.heap.size + 2 → k ≠ w.heap.size + 3 → W10.heap[k]? = W9.heap[k]? := fun k h1 h2 => by rw [hd]; exact (hE2 _ h2).trans (hE1 _ h1)
            have hB10 : Below w.heap.size w W10 := by rw [hW10e]; exact (HB9.out.trans (hB1.trans hB2)).drew
            have hw' : ({ l with held := putAt (gap 0 l.held) (La.newRow l i c) l.held, next := l.next + 1 } : Led).wf := by
              refine ⟨HWF.out.1, wf_u64 (by show 0 ≤ l.next + 1; omega) (by show l.next + 1 ≤ _; omega), fun x hx => ?_, HWF.out.2.2.2⟩
              rcases mem_put.1 hx with rfl | hx
              · exact ⟨wf_i64 (by show _ ≤ (gap 0 l.held : Int) + 1; omega) (by show (gap 0 l.held : Int) + 1 ≤ _; omega), HCW.out.2.1, HCW.out.2.2.2.1, HWF.out.2.1, HI.out⟩
              · exact HWF.out.2.2.1 x hx
            have HFIN : Hid (Gives2 l (.slice c1 l.held.length k1) (.slice c2 l.last.length k2) (grantL l i c) w (.returned (.tuple #[.agg #[.int .i64 l.limit, .int .u64 (l.next + 1), .slice a7 n7 cap7, .slice c2 l.last.length k2], .agg #[.int .i64 1, .int .i64 ((gap 0 l.held : Int) + 1), .int .u64 l.next]])) W10) := Lib.hid (by
              rw [HGR.out]
              exact ⟨_, rfl, .inr ((own_keep HOW9.out fun k hk => hE10 k (by have := (own_block HOW9.out k hk).1; have := HS6.out; omega) (by have := (own_block HOW9.out k hk).1; have := HS6.out; omega)).lower (by have := HS6.out; omega)), rfl, hw', hB10⟩)
            clear hW10 hW10e hU1 hU2 hd hE1 hE2 hB1 hB2 hR1 hA2' hE10 hB10 hw' x0 x1 x2 x3 r0 r1 r2 r3 s0 s1 s2 f0 f1 f2 f3 g0 g1 g2
            go_wp2
            exact bodyPost_ret (v := .tuple #[.agg #[.int .i64 l.limit, .int .u64 (l.next + 1), .slice a7 n7 cap7, .slice c2 l.last.length k2], .agg #[.int .i64 1, .int .i64 ((gap 0 l.held : Int) + 1), .int .u64 l.next]]) (results_cc rfl _ _ (w.heap.size + 2) (w.heap.size + 3) 35 60 _ _ (0, 0) (0, 0) _ _ rfl HR10.out Try.underlying35 rfl (by kernel_rfl) rfl HA10.out Try.underlying60 rfl (by kernel_rfl)) rfl HFIN.out
  · rw [hf] at hz
    have hfu : full l = true := by rw [full_eq HLP.out, hf]; rfl
    have HFU := Lib.hid hfu
    clear hf hfu
    go_wp2_with (first
      | (with_reducible refine wpList_load_row rfl 35 (.tmp 3) rfl w.heap.size rfl 35 (lArr l (.slice c1 l.held.length k1) (.slice c2 l.last.length k2)) (0, 0) _ HL1.out Try.underlying35 rfl (by kernel_rfl) ?_)
      | (with_reducible refine wpList_store_row rfl 35 (.tmp 6) (.tmp 19) rfl (w.heap.size + 2) (lArr l (.slice c1 l.held.length k1) (.slice c2 l.last.length k2)) rfl rfl 35 _ HR1.out (by kernel_rfl) rfl (Ld.lArr_one _ _ _ _ _ _ _) ?_)
      | (with_reducible refine wpList_store_row rfl 60 (.tmp 7) (.tmp 20) rfl (w.heap.size + 3) #[.int .i64 2, .int .i64 0, .int .u64 0] rfl rfl 60 _ HA2.out (by kernel_rfl) rfl (ans_one _ _ _) ?_))
    exact bodyPost_ret (v := .tuple #[.agg (lArr l (.slice c1 l.held.length k1) (.slice c2 l.last.length k2)), .agg #[.int .i64 2, .int .i64 0, .int .u64 0]]) (results_cc rfl _ _ (w.heap.size + 2) (w.heap.size + 3) 35 60 _ _ (0, 0) (0, 0) _ _ rfl ((setRow_other _ _ _ _ (by omega)).trans (setRow_heap _ _ _ _ _ _ HR1.out)) Try.underlying35 rfl (by kernel_rfl) rfl (setRow_heap _ _ _ _ _ _ HA2.out) Try.underlying60 rfl (by kernel_rfl)) rfl (HREF.out HFU.out)
end Lr
end Go.Proofs.Ytgbblegcjladaaa
namespace Go.Proofs.Ytgbblegcjladaaa
open Go.ChangeShapes Go.WideShapes Go.ChangeAt Go.RowKit Go.Lib
set_option linter.unusedVariables false
set_option maxRecDepth 100000
namespace Lr
open Ld Cm La
theorem find_cases (t : Int) (xs : List Held) : findT t xs = none ∨ ∃ y, findT t xs = some y := by
  cases findT t xs with
  | none => exact .inl rfl
  | some y => exact .inr ⟨y, rfl⟩
theorem named_of {c : Cmd} {y : Held} (hk : c.kind ≠ 6) (ht : y.token = c.token) : named c y = decide (y.serial = c.serial ∧ y.node = c.node ∧ y.boot = c.boot) := by
  unfold named
  rw [if_neg hk]
  congr 1
  apply propext
  constructor
  · rintro ⟨-, h1, h2, h3⟩; exact ⟨h3, h1, h2⟩
  · rintro ⟨h3, h1, h2⟩; exact ⟨ht, h1, h2, h3⟩
theorem exec_none {l : Led} {i : Int} {c : Cmd} (h3 : c.kind ≠ 3) (h : fitAt c l.held = l.held.length) : execL l i c = (l, ⟨4, 0, 0⟩) := by
  unfold execL
  rw [if_neg h3, h, List.getElem?_eq_none (Nat.le_refl _)]
set_option maxHeartbeats 16000000 in
theorem request_any (l : Led) (vh vl u : Value) (i : Int) (c : Cmd) (w : World) (h : IsLed w (.agg (lArr l vh vl)) l) (hc : IsCmd w u c) (hL : LedP l) (hi : (Lit.int .u64 i).wf = true) (hkind : c.kind = 3 ∨ c.kind = 4 ∨ c.kind = 5) :
    Calls Try.prog 61 #[.agg (lArr l vh vl), .int .u64 i, u] w (Gives2 l vh vl (execL l i c) w) := by
  obtain ⟨c1, k1, c2, k2, rfl, rfl⟩ := led_forms h
  have hh : SlR 5 heldC w (.slice c1 l.held.length k1) l.held := by
    obtain ⟨vh', vl', e', s1, s2, -⟩ := id h
    obtain ⟨rfl, rfl⟩ : Value.slice c1 l.held.length k1 = vh' ∧ Value.slice c2 l.last.length k2 = vl' := by simpa using e'
    exact s1
  have hwf : l.wf := by obtain ⟨_, _, -, -, -, hwf⟩ := id h; exact hwf
  obtain ⟨vn, rfl, hsn, hcw⟩ := id hc
  obtain ⟨W4, hW4, hb4, hz4, hL4, hC4, hR4, hA4⟩ := boxes4 w l (.slice c1 l.held.length k1) (.slice c2 l.last.length k2) c vn
  have HI4 := Lib.hid (h.below hb4 (Nat.le_refl _))
  have HCM4 := Lib.hid (hc.below hb4 (Nat.le_refl _))
  have HH := Lib.hid hh
  have HWF := Lib.hid hwf
  have HLP := Lib.hid hL
  have HB4 := Lib.hid hb4
  have HZ4 := Lib.hid hz4
  have HL4 := Lib.hid hL4
  have HC4 := Lib.hid hC4
  have HR4 := Lib.hid hR4
  have HA4 := Lib.hid hA4
  have HI := Lib.hid hi
  have HKD := Lib.hid hkind
  obtain ⟨q0, q1, q2, q4, q5, q6, q7⟩ := cmd_cells hC4
  clear h hc hh hwf hsn hcw hL hb4 hz4 hL4 hC4 hR4 hA4 hi hkind
  by_cases h3 : c.kind = 3
  · have e3 : (c.kind == 3) = true := beq_iff_eq.2 h3
    have HEX : Hid (execL l i c = grantL l i c) := Lib.hid (exec_grant h3)
    rw [HEX.out]
    clear h3
    go_enter Try.func61, Try.ntmps61
    go_wp2_with (first
      | (with_reducible refine wpList_load_row rfl 35 (.tmp 3) rfl w.heap.size rfl 35 (lArr l (.slice c1 l.held.length k1) (.slice c2 l.last.length k2)) (0, 0) _ HL4.out Try.underlying35 rfl (by kernel_rfl) ?_)
      | (with_reducible refine wpList_load_row rfl 58 (.tmp 5) rfl (w.heap.size + 1) rfl 58 (cA c vn) (0, 0) _ HC4.out Try.underlying58 rfl (by kernel_rfl) ?_))
    refine (grant_any l _ _ _ i c _ HI4.out HCM4.out HLP.out HI.out).mono ?_
    rintro e w5 ⟨vh5, rfl, hk5, hl5, hw5, hb5⟩
    generalize grantL l i c = r at *
    obtain ⟨d1, m1, hv5⟩ : ∃ d1 m1, vh5 = .slice d1 r.1.held.length m1 := by
      rcases hk5 with ⟨h1, h2⟩ | h1
      · exact ⟨c1, k1, by rw [h1, h2]⟩
      · obtain ⟨d1, m1, h2, -⟩ := id (h1.sl heldC_len)
        exact ⟨d1, m1, h2⟩
    subst hv5
    have HR5 := Lib.hid ((hb5.block (w.heap.size + 2) (by have := HZ4.out; omega)).trans HR4.out)
    have HA5 := Lib.hid ((hb5.block (w.heap.size + 3) (by have := HZ4.out; omega)).trans HA4.out)
    have HA6 := Lib.hid ((setRow_other w5 (w.heap.size + 2) (w.heap.size + 3) (lArr r.1 (.slice d1 r.1.held.length m1) (.slice c2 l.last.length k2)) (by omega)).trans HA5.out)
    have HFIN : Hid (Gives2 l (.slice c1 l.held.length k1) (.slice c2 l.last.length k2) r w (.returned (.tuple #[.agg (lArr r.1 (.slice d1 r.1.held.length m1) (.slice c2 l.last.length k2)), .agg (aA r.2)])) ((w5.setRow (w.heap.size + 2) (lArr r.1 (.slice d1 r.1.held.length m1) (.slice c2 l.last.length k2))).setRow (w.heap.size + 3) (aA r.2))) := Lib.hid
      (gives2_of rfl (HB4.out.trans (hb5.mono (by have := HZ4.out; omega))) (hk5.imp id (fun h => ⟨_, by have := HZ4.out; omega, h⟩)) hl5 hw5)
    clear hk5 hl5 hw5 hb5 q0 q1 q2 q4 q5 q6 q7
    go_wp2_with (first
      | (with_reducible refine wpList_store_row rfl 35 (.tmp 6) (.tmp 17) rfl (w.heap.size + 2) (lArr r.1 (.slice d1 r.1.held.length m1) (.slice c2 l.last.length k2)) rfl rfl 35 _ HR5.out (by kernel_rfl) rfl (Ld.lArr_one _ _ _ _ _ _ _) ?_)
      | (with_reducible refine wpList_store_row rfl 60 (.tmp 7) (.tmp 18) rfl (w.heap.size + 3) (aA r.2) rfl rfl 60 _ HA6.out (by kernel_rfl) rfl (ans_one _ _ _) ?_))
    exact bodyPost_ret (v := .tuple #[.agg (lArr r.1 (.slice d1 r.1.held.length m1) (.slice c2 l.last.length k2)), .agg (aA r.2)]) (results_cc rfl _ _ (w.heap.size + 2) (w.heap.size + 3) 35 60 _ _ (0, 0) (0, 0) _ _ rfl ((setRow_other _ _ _ _ (by omega)).trans (setRow_heap _ _ _ _ _ _ HR5.out)) Try.underlying35 rfl (by kernel_rfl) rfl (setRow_heap _ _ _ _ _ _ HA6.out) Try.underlying60 rfl (by kernel_rfl)) rfl HFIN.out
  · have e3 : (c.kind == 3) = false := beq_eq_false_iff_ne.2 h3
    have H3 := Lib.hid h3
    clear h3
    go_enter Try.func61, Try.ntmps61
    go_wp2_with ((with_reducible refine wpList_load_row rfl 35 (.tmp 3) rfl w.heap.size rfl 35 (lArr l (.slice c1 l.held.length k1) (.slice c2 l.last.length k2)) (0, 0) _ HL4.out Try.underlying35 rfl (by kernel_rfl) ?_))
    refine (find_any l _ c.token _ HI4.out).mono ?_
    rintro e w5 ⟨rfl, hb5⟩
    clear q0 q1 q2 q4 q5 q6 q7
    obtain ⟨y, hy⟩ : ∃ y, y = (findT c.token l.held).getD zH := ⟨_, rfl⟩
    rw [← hy]
    have hs5 : (w5.alloc (.cells #[.int .i64 0, .int .i64 0, .int .u64 0, .int .u64 0, .int .u64 0] 47)).heap[w5.heap.size]? = some (.cells #[.int .i64 0, .int .i64 0, .int .u64 0, .int .u64 0, .int .u64 0] 47 (0, 0)) := heap_alloc_new _ _
    have hb6 : Below W4.heap.size W4 ((w5.alloc (.cells #[.int .i64 0, .int .i64 0, .int .u64 0, .int .u64 0, .int .u64 0] 47)).setRow w5.heap.size (hA y)) := hb5.trans ((Ld.below_row ((Below.refl _ _).alloc (Nat.le_refl _) _) (Nat.le_refl _) _ : Below w5.heap.size w5 _).mono hb5.size)
    have hy6 := setRow_heap _ _ _ (hA y) _ _ hs5
    have hz6 : ((w5.alloc (.cells #[.int .i64 0, .int .i64 0, .int .u64 0, .int .u64 0, .int .u64 0] 47)).setRow w5.heap.size (hA y)).heap.size = w5.heap.size + 1 := by simp
    obtain ⟨W6, hW6⟩ : ∃ q, (w5.alloc (.cells #[.int .i64 0, .int .i64 0, .int .u64 0, .int .u64 0, .int .u64 0] 47)).setRow w5.heap.size (hA y) = q := ⟨_, rfl⟩
    rw [hW6] at hb6 hy6 hz6
    have HS5 := Lib.hid hs5
    have HZ5 : Hid (w.heap.size + 4 ≤ w5.heap.size) := Lib.hid (by have := hb5.size; have := HZ4.out; omega)
    have HZ6 := Lib.hid hz6
    have HY6 := Lib.hid hy6
    have HL6 := Lib.hid ((hb6.block w.heap.size (by have := HZ4.out; omega)).trans HL4.out)
    have hC6 := (hb6.block (w.heap.size + 1) (by have := HZ4.out; omega)).trans HC4.out
    have HC6 := Lib.hid hC6
    have HR6 := Lib.hid ((hb6.block (w.heap.size + 2) (by have := HZ4.out; omega)).trans HR4.out)
    have HA6 := Lib.hid ((hb6.block (w.heap.size + 3) (by have := HZ4.out; omega)).trans HA4.out)
    have HB6 := Lib.hid (HB4.out.trans (hb6.mono (by have := HZ4.out; omega)))
    have HA7 := Lib.hid ((setRow_other W6 (w.heap.size + 2) (w.heap.size + 3) (lArr l (.slice c1 l.held.length k1) (.slice c2 l.last.length k2)) (by omega)).trans HA6.out)
    have HGONE : Hid (execL l i c = (l, ⟨4, 0, 0⟩) → Gives2 l (.slice c1 l.held.length k1) (.slice c2 l.last.length k2) (execL l i c) w (.returned (.tuple #[.agg (lArr l (.slice c1 l.held.length k1) (.slice c2 l.last.length k2)), .agg #[.int .i64 4, .int .i64 0, .int .u64 0]])) ((W6.setRow (w.heap.size + 2) (lArr l (.slice c1 l.held.length k1) (.slice c2 l.last.length k2))).setRow (w.heap.size + 3) #[.int .i64 4, .int .i64 0, .int .u64 0])) := Lib.hid (fun he => by
      rw [he]
      exact gives2_of (r := (l, ⟨4, 0, 0⟩)) rfl HB6.out (.inl ⟨rfl, rfl⟩) rfl HWF.out)
    obtain ⟨q0, q1, q2, q4, q5, q6, q7⟩ := cmd_cells hC6
    obtain ⟨z0, z1, z2, z3, z4⟩ := row5 hy6
    obtain ⟨b0, b1, b2, b3⟩ := led_cells HL6.out
    clear hs5 hb5 hb6 hy6 hz6 hC6
    rcases find_cases c.token l.held with hf | ⟨y', hf⟩
    · have HEX := Lib.hid (exec_none (i := i) H3.out (fit_missing hf))
      rw [hf]
      clear hf hy
      go_wp2_with (first
        | (with_reducible refine wpList_store_row rfl 47 (.tmp 8) (.tmp 24) rfl w5.heap.size (hA y) rfl rfl 47 _ HS5.out (by kernel_rfl) rfl (hA_one y) ?_)
        | (with_reducible refine wpList_load_row rfl 35 (.tmp 3) rfl w.heap.size rfl 35 (lArr l (.slice c1 l.held.length k1) (.slice c2 l.last.length k2)) (0, 0) _ HL6.out Try.underlying35 rfl (by kernel_rfl) ?_)
        | (with_reducible refine wpList_store_row rfl 35 (.tmp 6) (.tmp 49) rfl (w.heap.size + 2) (lArr l (.slice c1 l.held.length k1) (.slice c2 l.last.length k2)) rfl rfl 35 _ HR6.out (by kernel_rfl) rfl (Ld.lArr_one _ _ _ _ _ _ _) ?_)
        | (with_reducible refine wpList_store_row rfl 60 (.tmp 7) (.tmp 50) rfl (w.heap.size + 3) #[.int .i64 4, .int .i64 0, .int .u64 0] rfl rfl 60 _ HA7.out (by kernel_rfl) rfl (ans_one _ _ _) ?_))
      exact bodyPost_ret (v := .tuple #[.agg (lArr l (.slice c1 l.held.length k1) (.slice c2 l.last.length k2)), .agg #[.int .i64 4, .int .i64 0, .int .u64 0]]) (results_cc rfl _ _ (w.heap.size + 2) (w.heap.size + 3) 35 60 _ _ (0, 0) (0, 0) _ _ rfl ((setRow_other _ _ _ _ (by omega)).trans (setRow_heap _ _ _ _ _ _ HR6.out)) Try.underlying35 rfl (by kernel_rfl) rfl (setRow_heap _ _ _ _ _ _ HA7.out) Try.underlying60 rfl (by kernel_rfl)) rfl (HGONE.out HEX.out)
    · rw [hf] at hy
      obtain rfl : y = y' := hy
      have hy : True := trivial
      have ht := (find_row HLP.out.2.2.2.2.1 hf).1
      have hn := named_of (by have := HKD.out; omega) ht
      have HF := Lib.hid hf
      rw [hf]
      clear hf
      by_cases hse : y.serial = c.serial
      · have es : (y.serial != c.serial) = false := by rw [bne, beq_iff_eq.2 hse]; rfl
        by_cases hno : y.node = c.node
        · have eno : (y.node != c.node) = false := by rw [bne, beq_iff_eq.2 hno]; rfl
          by_cases hbo : y.boot = c.boot
          · have ebo : (y.boot != c.boot) = false := by rw [bne, beq_iff_eq.2 hbo]; rfl
            have hnt : named c y = true := by rw [hn, decide_eq_true ⟨hse, hno, hbo⟩]
            obtain ⟨hfx, hwo⟩ := fit_this HLP.out.2.2.2.2.1 HF.out hnt
            obtain ⟨at', hat⟩ : ∃ at', at' = fitAt c l.held := ⟨_, rfl⟩
            rw [← hat] at hfx hwo
            have HFX := Lib.hid hfx
            have HWO := Lib.hid hwo
            have HAT := Lib.hid hat
            have HH6 := Lib.hid (HH.out.below HB6.out (Nat.le_refl _))
            clear hse hno hbo hnt hn hfx hwo ht hy hat
            go_wp2_with ((with_reducible refine wpList_store_row rfl 47 (.tmp 8) (.tmp 24) rfl w5.heap.size (hA y) rfl rfl 47 _ HS5.out (by kernel_rfl) rfl (hA_one y) ?_))
            refine (without_any l.held _ c.token _ HH6.out (led_fits HLP.out).1).mono ?_
            rintro e w7 ⟨v7, rfl, hown7, -, hb7⟩
            rw [HWO.out] at hown7
            obtain ⟨a7, cap7, hv7, -⟩ := id (hown7.sl heldC_len)
            subst hv7
            obtain ⟨n7, hn7⟩ : ∃ n, n = (cutAt at' l.held).length := ⟨_, rfl⟩
            rw [← hn7] at hown7 ⊢
            have HN7 := Lib.hid hn7
            have hL7 := (hb7.block w.heap.size (by have := HZ5.out; have := HZ6.out; omega)).trans HL6.out
            have t2 := row2 hL7
            have u2 := frozen_of (o := 2) hL7
            obtain ⟨W8, hW8⟩ : ∃ q, w7.setCell ⟨w.heap.size, 2, none⟩ (.slice a7 n7 cap7) = q := ⟨_, rfl⟩
            have HL8 : Hid (W8.heap[w.heap.size]? = some (.cells (lArr l (.slice a7 n7 cap7) (.slice c2 l.last.length k2)) 35 (0, 0))) := Lib.hid (by rw [← hW8]; exact store2 hL7 _)
            have hE8 : ∀ k, k ≠ w.heap.size → W8.heap[k]? = w7.heap[k]? := fun k hk => by rw [← hW8]; exact heap_setCell_other _ _ _ _ (by show k ≠ w.heap.size; exact hk)
            have hC8 := (hE8 (w.heap.size + 1) (by omega)).trans ((hb7.block (w.heap.size + 1) (by have := HZ5.out; have := HZ6.out; omega)).trans HC6.out)
            have HR8 := Lib.hid ((hE8 (w.heap.size + 2) (by omega)).trans ((hb7.block (w.heap.size + 2) (by have := HZ5.out; have := HZ6.out; omega)).trans HR6.out))
            have HA8 := Lib.hid ((hE8 (w.heap.size + 3) (by omega)).trans ((hb7.block (w.heap.size + 3) (by have := HZ5.out; have := HZ6.out; omega)).trans HA6.out))
            have HY8 := Lib.hid ((hE8 w5.heap.size (by have := HZ5.out; omega)).trans ((hb7.block w5.heap.size (by have := HZ6.out; omega)).trans HY6.out))
            have HB8 : Hid (Below w.heap.size w W8) := Lib.hid (by rw [← hW8]; exact (HB6.out.trans (hb7.mono (by have := HZ5.out; have := HZ6.out; omega))).setCell (Nat.le_refl _) _)
            have HS8 : Hid (w5.heap.size + 1 ≤ W8.heap.size) := Lib.hid (by rw [← hW8]; have := hb7.size; have := HZ6.out; simp; omega)
            have HOW8 : Hid (OwnR 5 heldC 47 W8 W6.heap.size (.slice a7 n7 cap7) (cutAt at' l.held)) := Lib.hid (own_keep hown7 fun k hk => hE8 k (by have := (own_block hown7 k hk).1; have := HZ5.out; have := HZ6.out; omega))
            clear q0 q1 q2 q4 q5 q6 q7
            obtain ⟨q0, q1, q2, q4, q5, q6, q7⟩ := cmd_cells hC8
            clear hown7 hb7 hL7 hE8 hC8 z0 z1 z2 z3 z4 b0 b1 b2 b3 hn7
            by_cases h5 : c.kind = 5
            · have e5 : (c.kind == 5) = true := beq_iff_eq.2 h5
              have HEX := Lib.hid (exec_free (l := l) (i := i) (c := c) H3.out (by omega) (by rw [← HAT.out]; exact HFX.out))
              have HA9 := Lib.hid ((setRow_other W8 (w.heap.size + 2) (w.heap.size + 3) (lArr l (.slice a7 n7 cap7) (.slice c2 l.last.length k2)) (by omega)).trans HA8.out)
              have HFIN : Hid (Gives2 l (.slice c1 l.held.length k1) (.slice c2 l.last.length k2) ({ l with held := cutAt at' l.held }, ⟨5, 0, 0⟩) w (.returned (.tuple #[.agg (lArr l (.slice a7 n7 cap7) (.slice c2 l.last.length k2)), .agg #[.int .i64 5, .int .i64 0, .int .u64 0]])) ((W8.setRow (w.heap.size + 2) (lArr l (.slice a7 n7 cap7) (.slice c2 l.last.length k2))).setRow (w.heap.size + 3) #[.int .i64 5, .int .i64 0, .int .u64 0])) := Lib.hid
                (gives2_of (r := ({ l with held := cutAt at' l.held }, ⟨5, 0, 0⟩)) rfl HB8.out (.inr ⟨_, by have := HZ5.out; have := HZ6.out; omega, HOW8.out⟩) rfl ⟨HWF.out.1, HWF.out.2.1, fun x hx => HWF.out.2.2.1 x ((cut_sub _ _).subset hx), HWF.out.2.2.2⟩)
              clear h5
              go_wp2_with (first
                | (with_reducible refine wpList_load_row rfl 35 (.tmp 3) rfl w.heap.size rfl 35 (lArr l (.slice a7 n7 cap7) (.slice c2 l.last.length k2)) (0, 0) _ HL8.out Try.underlying35 rfl (by kernel_rfl) ?_)
                | (with_reducible refine wpList_store_row rfl 35 (.tmp 6) (.tmp 60) rfl (w.heap.size + 2) (lArr l (.slice a7 n7 cap7) (.slice c2 l.last.length k2)) rfl rfl 35 _ HR8.out (by kernel_rfl) rfl (Ld.lArr_one _ _ _ _ _ _ _) ?_)
                | (with_reducible refine wpList_store_row rfl 60 (.tmp 7) (.tmp 61) rfl (w.heap.size + 3) #[.int .i64 5, .int .i64 0, .int .u64 0] rfl rfl 60 _ HA9.out (by kernel_rfl) rfl (ans_one _ _ _) ?_))
              exact bodyPost_ret (v := .tuple #[.agg (lArr l (.slice a7 n7 cap7) (.slice c2 l.last.length k2)), .agg #[.int .i64 5, .int .i64 0, .int .u64 0]]) (results_cc rfl _ _ (w.heap.size + 2) (w.heap.size + 3) 35 60 _ _ (0, 0) (0, 0) _ _ rfl ((setRow_other _ _ _ _ (by omega)).trans (setRow_heap _ _ _ _ _ _ HR8.out)) Try.underlying35 rfl (by kernel_rfl) rfl (setRow_heap _ _ _ _ _ _ HA9.out) Try.underlying60 rfl (by kernel_rfl)) rfl (by rw [HEX.out, ← HAT.out]; exact HFIN.out)
            · have e5 : (c.kind == 5) = false := beq_eq_false_iff_ne.2 h5
              have HEX := Lib.hid (exec_renew (l := l) (i := i) (c := c) (by have := HKD.out; have := H3.out; omega) (by rw [← HAT.out]; exact HFX.out))
              have w4 := (row5 HY8.out).2.2.2.2
              have o4 : W8.frozen? ⟨w5.heap.size, 4, none⟩ = false := frozen_of HY8.out
              obtain ⟨W9, hW9⟩ : ∃ q, W8.setCell ⟨w5.heap.size, 4, none⟩ (.int .u64 i) = q := ⟨_, rfl⟩
              have HY9 : Hid (W9.heap[w5.heap.size]? = some (.cells (hA (restamp i y)) 47 (0, 0))) := Lib.hid (by rw [← hW9, heap_setCell_same W8 w5.heap.size 4 _ _ _ HY8.out]; rfl)
              have hE9 : ∀ k, k ≠ w5.heap.size → W9.heap[k]? = W8.heap[k]? := fun k hk => by rw [← hW9]; exact heap_setCell_other _ _ _ _ (by show k ≠ w5.heap.size; exact hk)
              have HL9 := Lib.hid ((hE9 w.heap.size (by have := HZ5.out; omega)).trans HL8.out)
              have HR9 := Lib.hid ((hE9 (w.heap.size + 2) (by have := HZ5.out; omega)).trans HR8.out)
              have HA9 := Lib.hid ((hE9 (w.heap.size + 3) (by have := HZ5.out; omega)).trans HA8.out)
              have HB9 : Hid (Below w.heap.size w W9) := Lib.hid (by rw [← hW9]; exact HB8.out.setCell (by show w.heap.size ≤ w5.heap.size; have := HZ5.out; omega) _)
              have HS9 : Hid (w5.heap.size + 1 ≤ W9.heap.size) := Lib.hid (by rw [← hW9]; have := HS8.out; simpa using this)
              have HOW9 : Hid (OwnR 5 heldC 47 W9 W6.heap.size (.slice a7 n7 cap7) (cutAt at' l.held)) := Lib.hid (own_keep HOW8.out fun k hk => hE9 k (by have := (own_block HOW8.out k hk).1; have := HZ6.out; omega))
              obtain ⟨b0, b1, b2, b3⟩ := led_cells HL9.out
              obtain ⟨p0, p1, p2, p3, p4⟩ := row5 HY9.out
              have hll : (cutAt at' l.held).length ≤ 70 := by have := len_cut l.held at'; have := HLP.out.2.2.2.1; omega
              clear h5 hE9
              go_wp2_with ((with_reducible refine wpList_load_row rfl 47 (.tmp 8) rfl w5.heap.size rfl 47 (hA (restamp i y)) (0, 0) _ HY9.out Try.underlying47 rfl (by kernel_rfl) ?_))
              refine (with_any (cutAt at' l.held) _ (restamp i y) _ (HOW9.out.sl heldC_len) hll).mono ?_
              rintro e w10 ⟨v9, rfl, hown9, -, hb10⟩
              rw [put_back HLP.out.2.2.2.2.1 HFX.out] at hown9
              obtain ⟨a9, cap9, hv9, -⟩ := id (hown9.sl heldC_len)
              subst hv9
              obtain ⟨n9, hn9⟩ : ∃ n, n = (l.held.set at' (restamp i y)).length := ⟨_, rfl⟩
              rw [← hn9] at hown9 ⊢
              have hL10 := (hb10.block w.heap.size (by have := HZ5.out; have := HS9.out; omega)).trans HL9.out
              have t2' := row2 hL10
              have u2' := frozen_of (o := 2) hL10
              obtain ⟨W11, hW11⟩ : ∃ q, w10.setCell ⟨w.heap.size, 2, none⟩ (.slice a9 n9 cap9) = q := ⟨_, rfl⟩
              have HL11 : Hid (W11.heap[w.heap.size]? = some (.cells (lArr l (.slice a9 n9 cap9) (.slice c2 l.last.length k2)) 35 (0, 0))) := Lib.hid (by rw [← hW11]; exact store2 hL10 _)
              have hE11 : ∀ k, k ≠ w.heap.size → W11.heap[k]? = w10.heap[k]? := fun k hk => by rw [← hW11]; exact heap_setCell_other _ _ _ _ (by show k ≠ w.heap.size; exact hk)
              have HR11 := Lib.hid ((hE11 (w.heap.size + 2) (by omega)).trans ((hb10.block (w.heap.size + 2) (by have := HZ5.out; have := HS9.out; omega)).trans HR9.out))
              have HA11 := Lib.hid ((hE11 (w.heap.size + 3) (by omega)).trans ((hb10.block (w.heap.size + 3) (by have := HZ5.out; have := HS9.out; omega)).trans HA9.out))
              have HB11 : Hid (Below w.heap.size w W11) := Lib.hid (by rw [← hW11]; exact (HB9.out.trans (hb10.mono (by have := HZ5.out; have := HS9.out; omega))).setCell (Nat.le_refl _) _)
              have HOW11 : Hid (OwnR 5 heldC 47 W11 W9.heap.size (.slice a9 n9 cap9) (l.held.set at' (restamp i y))) := Lib.hid (own_keep hown9 fun k hk => hE11 k (by have := (own_block hown9 k hk).1; have := HZ5.out; have := HS9.out; omega))
              have HA12 := Lib.hid ((setRow_other W11 (w.heap.size + 2) (w.heap.size + 3) (lArr l (.slice a9 n9 cap9) (.slice c2 l.last.length k2)) (by omega)).trans HA11.out)
              have HFIN : Hid (Gives2 l (.slice c1 l.held.length k1) (.slice c2 l.last.length k2) ({ l with held := l.held.set at' (restamp i y) }, ⟨3, 0, 0⟩) w (.returned (.tuple #[.agg (lArr l (.slice a9 n9 cap9) (.slice c2 l.last.length k2)), .agg #[.int .i64 3, .int .i64 0, .int .u64 0]])) ((W11.setRow (w.heap.size + 2) (lArr l (.slice a9 n9 cap9) (.slice c2 l.last.length k2))).setRow (w.heap.size + 3) #[.int .i64 3, .int .i64 0, .int .u64 0])) := Lib.hid
                (gives2_of (r := ({ l with held := l.held.set at' (restamp i y) }, ⟨3, 0, 0⟩)) rfl HB11.out (.inr ⟨_, by have := HZ5.out; have := HS9.out; omega, HOW11.out⟩) rfl ⟨HWF.out.1, HWF.out.2.1, fun x hx => by
                  rcases List.mem_or_eq_of_mem_set hx with hx | rfl
                  · exact HWF.out.2.2.1 x hx
                  · have := HWF.out.2.2.1 y (List.mem_of_getElem? HFX.out)
                    exact ⟨this.1, this.2.1, this.2.2.1, this.2.2.2.1, HI.out⟩, HWF.out.2.2.2⟩)
              clear hown9 hb10 hL10 hE11 b0 b1 b2 b3 p0 p1 p2 p3 p4 w4 o4 hn9
              go_wp2_with (first
                | (with_reducible refine wpList_load_row rfl 35 (.tmp 3) rfl w.heap.size rfl 35 (lArr l (.slice a9 n9 cap9) (.slice c2 l.last.length k2)) (0, 0) _ HL11.out Try.underlying35 rfl (by kernel_rfl) ?_)
                | (with_reducible refine wpList_store_row rfl 35 (.tmp 6) (.tmp 69) rfl (w.heap.size + 2) (lArr l (.slice a9 n9 cap9) (.slice c2 l.last.length k2)) rfl rfl 35 _ HR11.out (by kernel_rfl) rfl (Ld.lArr_one _ _ _ _ _ _ _) ?_)
                | (with_reducible refine wpList_store_row rfl 60 (.tmp 7) (.tmp 70) rfl (w.heap.size + 3) #[.int .i64 3, .int .i64 0, .int .u64 0] rfl rfl 60 _ HA12.out (by kernel_rfl) rfl (ans_one _ _ _) ?_))
              exact bodyPost_ret (v := .tuple #[.agg (lArr l (.slice a9 n9 cap9) (.slice c2 l.last.length k2)), .agg #[.int .i64 3, .int .i64 0, .int .u64 0]]) (results_cc rfl _ _ (w.heap.size + 2) (w.heap.size + 3) 35 60 _ _ (0, 0) (0, 0) _ _ rfl ((setRow_other _ _ _ _ (by omega)).trans (setRow_heap _ _ _ _ _ _ HR11.out)) Try.underlying35 rfl (by kernel_rfl) rfl (setRow_heap _ _ _ _ _ _ HA12.out) Try.underlying60 rfl (by kernel_rfl)) rfl (by rw [HEX.out, ← HAT.out]; exact HFIN.out)
          · have ebo : (y.boot != c.boot) = true := by rw [bne, beq_eq_false_iff_ne.2 hbo]; rfl
            have HEX := Lib.hid (exec_none (i := i) H3.out (fit_other HLP.out.2.2.2.2.1 HF.out (by rw [hn]; exact decide_eq_false (fun g => hbo g.2.2))))
            clear hse hno hbo hn ht hy
            go_wp2_with (first
              | (with_reducible refine wpList_store_row rfl 47 (.tmp 8) (.tmp 24) rfl w5.heap.size (hA y) rfl rfl 47 _ HS5.out (by kernel_rfl) rfl (hA_one y) ?_)
              | (with_reducible refine wpList_load_row rfl 35 (.tmp 3) rfl w.heap.size rfl 35 (lArr l (.slice c1 l.held.length k1) (.slice c2 l.last.length k2)) (0, 0) _ HL6.out Try.underlying35 rfl (by kernel_rfl) ?_)
              | (with_reducible refine wpList_store_row rfl 35 (.tmp 6) (.tmp 49) rfl (w.heap.size + 2) (lArr l (.slice c1 l.held.length k1) (.slice c2 l.last.length k2)) rfl rfl 35 _ HR6.out (by kernel_rfl) rfl (Ld.lArr_one _ _ _ _ _ _ _) ?_)
              | (with_reducible refine wpList_store_row rfl 60 (.tmp 7) (.tmp 50) rfl (w.heap.size + 3) #[.int .i64 4, .int .i64 0, .int .u64 0] rfl rfl 60 _ HA7.out (by kernel_rfl) rfl (ans_one _ _ _) ?_))
            exact bodyPost_ret (v := .tuple #[.agg (lArr l (.slice c1 l.held.length k1) (.slice c2 l.last.length k2)), .agg #[.int .i64 4, .int .i64 0, .int .u64 0]]) (results_cc rfl _ _ (w.heap.size + 2) (w.heap.size + 3) 35 60 _ _ (0, 0) (0, 0) _ _ rfl ((setRow_other _ _ _ _ (by omega)).trans (setRow_heap _ _ _ _ _ _ HR6.out)) Try.underlying35 rfl (by kernel_rfl) rfl (setRow_heap _ _ _ _ _ _ HA7.out) Try.underlying60 rfl (by kernel_rfl)) rfl (HGONE.out HEX.out)
        · have eno : (y.node != c.node) = true := by rw [bne, beq_eq_false_iff_ne.2 hno]; rfl
          have HEX := Lib.hid (exec_none (i := i) H3.out (fit_other HLP.out.2.2.2.2.1 HF.out (by rw [hn]; exact decide_eq_false (fun g => hno g.2.1))))
          clear hse hno hn ht hy
          go_wp2_with (first
            | (with_reducible refine wpList_store_row rfl 47 (.tmp 8) (.tmp 24) rfl w5.heap.size (hA y) rfl rfl 47 _ HS5.out (by kernel_rfl) rfl (hA_one y) ?_)
            | (with_reducible refine wpList_load_row rfl 35 (.tmp 3) rfl w.heap.size rfl 35 (lArr l (.slice c1 l.held.length k1) (.slice c2 l.last.length k2)) (0, 0) _ HL6.out Try.underlying35 rfl (by kernel_rfl) ?_)
            | (with_reducible refine wpList_store_row rfl 35 (.tmp 6) (.tmp 49) rfl (w.heap.size + 2) (lArr l (.slice c1 l.held.length k1) (.slice c2 l.last.length k2)) rfl rfl 35 _ HR6.out (by kernel_rfl) rfl (Ld.lArr_one _ _ _ _ _ _ _) ?_)
            | (with_reducible refine wpList_store_row rfl 60 (.tmp 7) (.tmp 50) rfl (w.heap.size + 3) #[.int .i64 4, .int .i64 0, .int .u64 0] rfl rfl 60 _ HA7.out (by kernel_rfl) rfl (ans_one _ _ _) ?_))
          exact bodyPost_ret (v := .tuple #[.agg (lArr l (.slice c1 l.held.length k1) (.slice c2 l.last.length k2)), .agg #[.int .i64 4, .int .i64 0, .int .u64 0]]) (results_cc rfl _ _ (w.heap.size + 2) (w.heap.size + 3) 35 60 _ _ (0, 0) (0, 0) _ _ rfl ((setRow_other _ _ _ _ (by omega)).trans (setRow_heap _ _ _ _ _ _ HR6.out)) Try.underlying35 rfl (by kernel_rfl) rfl (setRow_heap _ _ _ _ _ _ HA7.out) Try.underlying60 rfl (by kernel_rfl)) rfl (HGONE.out HEX.out)
      · have es : (y.serial != c.serial) = true := by rw [bne, beq_eq_false_iff_ne.2 hse]; rfl
        have HEX := Lib.hid (exec_none (i := i) H3.out (fit_other HLP.out.2.2.2.2.1 HF.out (by rw [hn]; exact decide_eq_false (fun g => hse g.1))))
        clear hse hn ht hy
        go_wp2_with (first
          | (with_reducible refine wpList_store_row rfl 47 (.tmp 8) (.tmp 24) rfl w5.heap.size (hA y) rfl rfl 47 _ HS5.out (by kernel_rfl) rfl (hA_one y) ?_)
          | (with_reducible refine wpList_load_row rfl 35 (.tmp 3) rfl w.heap.size rfl 35 (lArr l (.slice c1 l.held.length k1) (.slice c2 l.last.length k2)) (0, 0) _ HL6.out Try.underlying35 rfl (by kernel_rfl) ?_)
          | (with_reducible refine wpList_store_row rfl 35 (.tmp 6) (.tmp 49) rfl (w.heap.size + 2) (lArr l (.slice c1 l.held.length k1) (.slice c2 l.last.length k2)) rfl rfl 35 _ HR6.out (by kernel_rfl) rfl (Ld.lArr_one _ _ _ _ _ _ _) ?_)
          | (with_reducible refine wpList_store_row rfl 60 (.tmp 7) (.tmp 50) rfl (w.heap.size + 3) #[.int .i64 4, .int .i64 0, .int .u64 0] rfl rfl 60 _ HA7.out (by kernel_rfl) rfl (ans_one _ _ _) ?_))
        exact bodyPost_ret (v := .tuple #[.agg (lArr l (.slice c1 l.held.length k1) (.slice c2 l.last.length k2)), .agg #[.int .i64 4, .int .i64 0, .int .u64 0]]) (results_cc rfl _ _ (w.heap.size + 2) (w.heap.size + 3) 35 60 _ _ (0, 0) (0, 0) _ _ rfl ((setRow_other _ _ _ _ (by omega)).trans (setRow_heap _ _ _ _ _ _ HR6.out)) Try.underlying35 rfl (by kernel_rfl) rfl (setRow_heap _ _ _ _ _ _ HA7.out) Try.underlying60 rfl (by kernel_rfl)) rfl (HGONE.out HEX.out)
end Lr
end Go.Proofs.Ytgbblegcjladaaa
