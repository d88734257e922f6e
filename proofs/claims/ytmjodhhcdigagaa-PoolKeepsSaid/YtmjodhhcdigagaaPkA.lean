/- Package pool: a set of sessions, in a map of the law's own. No condition. -/
import Derived.Test.YtmjodhhcdigagaaPlG
import Derived.Maps.OwnSet
import Derived.Maps.OwnOps
import Derived.Maps.Own
import Derived.Carry
namespace Go.Proofs.Ytmjodhhcdigagaa
open Go.ChangeShapes Go.WideShapes Go.ChangeAt Go.RowKit Go.Maps
set_option linter.unusedVariables false
set_option maxRecDepth 100000
set_option linter.unusedSimpArgs false
namespace Pk
open Pl
abbrev mT : TypeId := 40
theorem lawI : Keyed Try.prog 3 := int_keyed Try.underlying3
theorem zeroB (w : World) : (zeroValue 4).run Try.prog w = .ok (.bool false) w := by kernel_rfl
noncomputable abbrev EB : Value → Option (DataW Unit × List MemPlace) := plainElem Try.prog 4
noncomputable abbrev OM (w : World) (b n : Nat) (D : DataW Unit) : Prop := w.ownsMap Try.prog 3 EB b n D
abbrev lb (c : Bool) : DataW Unit := .lit (.bool c)
/-- the map says f -/
def Says (D : DataW Unit) (f : Int → Bool) : Prop := IsMap D ∧ ∀ z : Int, (Lit.int .i64 z).wf = true → D.atKey (.int .i64 z) (lb false) = lb (f z)
theorem plain_bool_inv {v : Value} {z : DataW Unit × List MemPlace} (h : EB v = some z) : ∃ c, v = .bool c ∧ z = (lb c, []) := by
  unfold EB plainElem at h
  rw [Try.underlying4] at h
  cases v <;> simp at h
  exact ⟨_, rfl, h.symm⟩
theorem look {w : World} {b n : Nat} {D : DataW Unit} {f : Int → Bool} {z : Int} (h : OM w b n D) (hs : Says D f) (hz : (Lit.int .i64 z).wf = true) : (Instr.lookup mT (.map (some b)) (.int .i64 z) false).run Try.prog w = .ok (.bool (f z)) w := by
  obtain ⟨v, ps, hrun, hv⟩ := h.lookup lawI Try.underlying40 (zeroB w) (plainElem_bool Try.underlying4 false) (keyOf_int_mk Try.underlying3 hz)
  obtain ⟨c, rfl, hc⟩ := plain_bool_inv hv
  have e := hs.2 z hz
  simp only [Prod.mk.injEq] at hc
  rw [hc.1] at e
  simp only [lb, DataW.lit.injEq, Lit.bool.injEq] at e
  rw [← e]
  exact hrun
theorem Says.put {D : DataW Unit} {f : Int → Bool} {z : Int} (h : Says D f) (hz : (Lit.int .i64 z).wf = true) (c : Bool) : Says (D.put (.int .i64 z) (lb c)) (fun y => if y = z then c else f y) := by
  refine ⟨?_, fun y hy => ?_⟩
  · obtain ⟨l, rfl⟩ := h.1
    exact ⟨_, rfl⟩
  · by_cases e : y = z
    · subst e
      rw [atKey_put_same h.1 (lawI.key (keyOf_int_mk Try.underlying3 hz))]
      show lb c = lb (if y = y then c else f y)
      rw [if_pos rfl]
    · rw [atKey_put_other (fun q => e (by simpa using q)), h.2 y hy]
      show lb (f y) = lb (if y = z then c else f y)
      rw [if_neg e]
theorem Says.nil : Says (.map []) (fun _ => false) := ⟨⟨_, rfl⟩, fun z hz => rfl⟩
theorem om_blk {w w' : World} {b n : Nat} {D : DataW Unit} (h : OM w b n D) (hb : w'.heap[b]? = w.heap[b]?) : OM w' b n D := by
  obtain ⟨es, clock, h1, h2⟩ := h
  exact ⟨es, clock, hb.trans h1, h2⟩
theorem om_below {w w' : World} {b n : Nat} {D : DataW Unit} (h : OM w b n D) (hb : Below w.heap.size w w') : OM w' b n D := om_blk h (hb.block _ h.lt)
theorem map_cells {w : World} {b n g : Nat} {D : DataW Unit} {cs : Array Value} {t : TypeId} {fr : Nat × Nat} (h : OM w b n D) (hg : w.heap[g]? = some (.cells cs t fr)) : b ≠ g := fun e => by
  obtain ⟨es, clock, h1, -⟩ := h
  subst e
  rw [hg] at h1
  cases h1
theorem row_map {w w' : World} {b n g : Nat} {D : DataW Unit} {cs : Array Value} {t : TypeId} {fr : Nat × Nat} (h : OM w b n D) (hg : w.heap[g]? = some (.cells cs t fr)) (hgr : w.grownBy w' (some b)) : w'.heap[g]? = some (.cells cs t fr) :=
  (hgr.block _ (row_lt hg) (fun e => map_cells h hg (Option.some.inj e).symm)).trans hg
theorem pool_map {w w' : World} {b n p : Nat} {D : DataW Unit} {cs : List Cn} {ws : List Int} (h : OM w b n D) (hp : PoolAt w p cs ws) (hgr : w.grownBy w' (some b)) : PoolAt w' p cs ws := by
  refine hp.block (hgr.block _ hp.1.lt (fun e => ?_))
  obtain ⟨c, hg, -⟩ := hp.1
  exact map_cells h hg (Option.some.inj e).symm
theorem own_map {w w' : World} {b n B e sz m : Nat} {D : DataW Unit} {v : Value} {xs : List Value} (h : OM w b n D) (hv : w.ownsRow B e sz v m xs) (hgr : w.grownBy w' (some b)) : w'.ownsRow B e sz v m xs :=
  own_keep hv (fun q hq hl => hgr.block _ hl (fun e => by
    rcases own_form hv with ⟨rfl, -⟩ | ⟨g, c, cur, rfl, hh, -⟩
    · cases hq
    · simp only [Value.ownBlock, Option.some.injEq] at hq
      subst hq
      exact map_cells h hh (Option.some.inj e).symm))
theorem own_mapR {w w' : World} {b n B e sz : Nat} {α : Type} {C : α → List Value} {D : DataW Unit} {v : Value} {xs : List α} (h : OM w b n D) (hv : OwnR sz C e w B v xs) (hgr : w.grownBy w' (some b)) : OwnR sz C e w' B v xs := own_map h hv hgr
theorem below_map {B : Nat} {a w w' : World} {b : Nat} (h : Below B a w) (hg : w.grownBy w' (some b)) (hb : B ≤ b) (hB : B ≤ w.heap.size) : Below B a w' :=
  ⟨hg.os.trans h.os, hg.tape.trans h.tape, hg.output.trans h.output, Nat.le_trans h.size hg.size, fun k hk => (hg.block k (Nat.lt_of_lt_of_le hk hB) (fun e => by have := Option.some.inj e; omega)).trans (h.block k hk)⟩
theorem wf_sess {z : Int} (h : 0 ≤ z ∧ z ≤ 6) : (Lit.int .i64 z).wf = true := by
  simp [Lit.wf, IntKind.min, IntKind.max, IntKind.signed, IntKind.bits]; omega
/-- the sessions of the first j connections -/
def seenC (cs : List Cn) (j : Nat) (z : Int) : Bool := (cs.take j).any fun x => decide (x.sess = z)
theorem seenC_succ {cs : List Cn} {j : Nat} {x : Cn} (hx : cs[j]? = some x) : (fun y => if y = x.sess then true else seenC cs j y) = seenC cs (j + 1) := by
  funext y
  unfold seenC
  have ht : cs.take (j + 1) = cs.take j ++ [x] := by rw [List.take_add_one, hx]; rfl
  rw [ht, List.any_append, List.any_cons, List.any_nil, Bool.or_false]
  by_cases e : y = x.sess
  · rw [if_pos e, e]; simp
  · rw [if_neg e, decide_eq_false (fun q => e q.symm), Bool.or_false]
theorem seenC_no {cs : List Cn} {ws : List Int} (h : OkP cs ws) {j : Nat} {x : Cn} (hx : cs[j]? = some x) (h0 : x.sess ≠ 0) : seenC cs j x.sess = false := by
  unfold seenC
  rw [List.any_eq_false]
  intro y hy e
  obtain ⟨i, hi, rfl⟩ := List.mem_take_iff_getElem.1 hy
  have e2 : cs[i].sess = x.sess := by simpa using e
  have := h.uniq i j _ x (rgetD (by omega)) hx e2 (by rw [e2]; exact h0)
  omega
/-- the sessions that have one, then the first j that wait -/
def seenW (cs : List Cn) (ws : List Int) (j : Nat) (z : Int) : Bool := if z ∈ ws.take j then true else if z = 0 then false else seenC cs cs.length z
theorem seenW_zero (cs : List Cn) (ws : List Int) : (fun y => if y = 0 then false else seenC cs cs.length y) = seenW cs ws 0 := by
  funext y
  unfold seenW
  rw [List.take_zero, if_neg (show ¬ y ∈ ([] : List Int) by simp)]
theorem seenW_succ {cs : List Cn} {ws : List Int} {j : Nat} {s : Int} (hx : ws[j]? = some s) : (fun y => if y = s then true else seenW cs ws j y) = seenW cs ws (j + 1) := by
  funext y
  unfold seenW
  have ht : ws.take (j + 1) = ws.take j ++ [s] := by rw [List.take_add_one, hx]; rfl
  rw [ht]
  by_cases e : y = s
  · rw [if_pos e, if_pos (by rw [e]; simp)]
  · rw [if_neg e]
    by_cases hm : y ∈ ws.take j
    · rw [if_pos hm, if_pos (List.mem_append_left _ hm)]
    · rw [if_neg hm, if_neg (show ¬ y ∈ ws.take j ++ [s] by rw [List.mem_append, List.mem_singleton]; rintro (q | q); exact hm q; exact e q)]
theorem seenW_no {cs : List Cn} {ws : List Int} (h : OkP cs ws) {j : Nat} {s : Int} (hx : ws[j]? = some s) : seenW cs ws j s = false := by
  have hs := h.wr s (List.mem_of_getElem? hx)
  unfold seenW
  rw [if_neg, if_neg (by omega)]
  · unfold seenC
    rw [List.any_eq_false]
    intro y hy e
    obtain ⟨i, hi, rfl⟩ := List.mem_take_iff_getElem.1 hy
    have e2 : cs[i].sess = s := by simpa using e
    exact h.apart i _ (rgetD (by omega)) (by rw [e2]; exact List.mem_of_getElem? hx)
  · intro hm
    obtain ⟨i, hi, e⟩ := List.mem_take_iff_getElem.1 hm
    obtain ⟨hj, rfl⟩ := List.getElem?_eq_some_iff.1 hx
    have := List.pairwise_iff_getElem.1 h.wnd i j (by omega) hj (by omega)
    exact this e
/-- the last token before number j -/
def lastT (cs : List Cn) (j : Nat) : Int := if j = 0 then 0 else ((cs[j - 1]?).map Cn.tok).getD 0
theorem lastT_lt {cs : List Cn} {ws : List Int} (h : OkP cs ws) {j : Nat} {x : Cn} (hx : cs[j]? = some x) : lastT cs j < x.tok := by
  unfold lastT
  by_cases h0 : j = 0
  · rw [if_pos h0]; have := h.tok _ _ hx; omega
  · rw [if_neg h0]
    have hl := (List.getElem?_eq_some_iff.1 hx).1
    rw [rgetD (by omega : j - 1 < cs.length)]
    exact sorted_iff.1 h.sorted _ _ _ _ (by omega : j - 1 < j) (rgetD (by omega)) hx
theorem lastT_succ {cs : List Cn} {j : Nat} {x : Cn} (hx : cs[j]? = some x) : lastT cs (j + 1) = x.tok := by
  unfold lastT
  rw [if_neg (by omega), show j + 1 - 1 = j by omega, hx]
  rfl
end Pk
end Go.Proofs.Ytmjodhhcdigagaa
