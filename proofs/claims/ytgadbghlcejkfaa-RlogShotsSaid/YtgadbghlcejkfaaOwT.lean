/- Rows of the call's own beside blocks of another type. No condition. -/
import Derived.Test.YtgadbghlcejkfaaRcU
import Derived.Test.YtgadbghlcejkfaaHdS
import Derived.Test.YtgadbghlcejkfaaHdV
import Derived.Deep.MidRow
import Derived.Deep.RegionHeld3
namespace Go.Proofs.Ytgadbghlcejkfaa
open Go.ChangeShapes Go.WideShapes Go.ChangeAt Go.RowKit Go.Deep
set_option linter.unusedVariables false
set_option maxRecDepth 100000
namespace At
open Hd Rc
theorem own_ty_ne {w : World} {B e sz n g : Nat} {v : Value} {xs : List Value} {cs : Array Value} {t : TypeId} {fr : Nat × Nat} (h : w.ownsRow B e sz v n xs) (hg : w.heap[g]? = some (.cells cs t fr)) (hne : e ≠ t) : ∀ q, v.ownBlock = some q → q ≠ g := by
  intro q hq hn
  subst hn
  rcases h.2 with ⟨rfl, -⟩ | ⟨q2, cap, cur, rfl, -, hh, -⟩
  · cases hq
  · obtain rfl : q2 = q := by simpa [Value.ownBlock] using hq
    rw [hg] at hh
    simp only [Option.some.injEq, Obj.cells.injEq] at hh
    exact hne hh.2.1.symm
theorem own_blocks {w w' : World} {B e sz n g : Nat} {v : Value} {xs : List Value} (h : w.ownsRow B e sz v n xs) (hne : ∀ q, v.ownBlock = some q → q ≠ g) (hb : ∀ q, q ≠ g → w'.heap[q]? = w.heap[q]?) : w'.ownsRow B e sz v n xs := by
  refine ⟨h.1, ?_⟩
  rcases h.2 with h2 | ⟨q, cap, cur, rfl, h3, h4, h5⟩
  · exact .inl h2
  · exact .inr ⟨q, cap, cur, rfl, h3, (hb q (hne q rfl)).trans h4, h5⟩
theorem own_cellT {w : World} {B e sz n g j : Nat} {v u : Value} {xs : List Value} {cs : Array Value} {t : TypeId} {fr : Nat × Nat} (h : w.ownsRow B e sz v n xs) (hg : w.heap[g]? = some (.cells cs t fr)) (hne : e ≠ t) : (w.setCell ⟨g, j, none⟩ u).ownsRow B e sz v n xs :=
  own_blocks (g := g) h (own_ty_ne h hg hne) fun q hq => heap_setCell_other w ⟨g, j, none⟩ q u (by simpa using hq)
theorem own_rowT {w : World} {B e sz n g : Nat} {v : Value} {xs : List Value} {cs cs2 : Array Value} {t : TypeId} {fr : Nat × Nat} (h : w.ownsRow B e sz v n xs) (hg : w.heap[g]? = some (.cells cs t fr)) (hne : e ≠ t) : (w.setRow g cs2).ownsRow B e sz v n xs :=
  own_blocks (g := g) h (own_ty_ne h hg hne) fun q hq => setRow_other w _ _ _ hq
theorem own_cellsT {w : World} {B e sz n g o : Nat} {v : Value} {xs vs : List Value} {cs : Array Value} {t : TypeId} {fr : Nat × Nat} (h : w.ownsRow B e sz v n xs) (hg : w.heap[g]? = some (.cells cs t fr)) (hne : e ≠ t) : (w.setCells g o vs).ownsRow B e sz v n xs :=
  own_blocks (g := g) h (own_ty_ne h hg hne) fun q hq => setCells_other _ _ _ _ hq
theorem row_range {w : World} {g : Nat} {cs : Array Value} {t : TypeId} (h : w.heap[g]? = some (.cells cs t (0, 0))) : w.rangeAt g 0 cs.toList := fun j v hv => by
  rw [cell_of_row w g (0 + j) _ _ _ h, ← hv, Nat.zero_add]
  simp
theorem entA_one (x : Ent) (a : Option Addr) (i j : Nat) : (entC (x, .slice a i j)).toArray.all (·.oneCell') = true := by simp [Value.oneCell']
theorem sled_range {w : World} {g : Nat} {s : Sho} {vn vh vl : Value} (h : w.heap[g]? = some (.cells (sArr s vn vh vl) 29 (0, 0))) : w.rangeAt g 3 (lArr s.led vh vl).toList := fun j v hv => by
  have hj : j < 4 := by have := (List.getElem?_eq_some_iff.1 hv).1; simpa using this
  rw [cell_of_row w g (3 + j) _ _ _ h, ← hv]
  match j, hj with
  | 0, _ => rfl
  | 1, _ => rfl
  | 2, _ => rfl
  | 3, _ => rfl
theorem results_ct {P : Program} {fn : Func} {p a : Tmp} {ty : TypeId} (h : fn.results = #[.cell p ty, .tmp a]) (tmps : Array Value) (w : World) (g : Nat) (t : TypeId) (cs : Array Value) (fr : Nat × Nat) (d : TypeDesc)
    (hp : tmps.getD p undef = .pointer (some ⟨g, 0, none⟩)) (hg : w.heap[g]? = some (.cells cs t fr))
    (hu : P.underlying ty = some d) (hd : (match d with | .struct _ | .array _ _ => true | _ => false) = true) (hi : (P.info? ty).map (·.size) = some cs.size) {x : Value} (hx : tmps.getD a undef = x) :
    (results fn tmps).run P w = .ok (.tuple #[.agg cs, x]) w := by
  subst hx
  have hp' : tmps[p]?.getD undef = .pointer (some ⟨g, 0, none⟩) := by simpa using hp
  simp [results, h, hp', asAddr, run_loadVar_row w g t ty cs fr d hg hu hd hi]
abbrev zHA : Array Value := #[.int .u64 0, .int .u64 0, .int .i64 0, .int .u64 0, .int .u64 0, .slice none 0 0, .int .i64 0, .int .u64 0, .slice none 0 0, .slice none 0 0, .slice none 0 0]
end At
end Go.Proofs.Ytgadbghlcejkfaa
