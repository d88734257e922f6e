/- The document's pool and the program's, side by side: what one call leaves of the other. No condition. -/
import Derived.Test.YtlhojkopfpnhpaaPrF
namespace Go.Proofs.Ytlhojkopfpnhpaa
open Go.ChangeShapes Go.WideShapes Go.ChangeAt Go.RowKit Go.Deep
set_option linter.unusedVariables false
set_option maxRecDepth 100000
set_option linter.unusedSimpArgs false
namespace Pr
open Pl
variable {w w' : World} {B p q : Nat} {vC vW : Value} {cs cs0 cs' : List Cn} {ws ws0 ws' : List Int}
theorem pool_row (h : PoolAt w p cs ws) : ∃ c, w.heap[p]? = some (.cells c 44 (0, 0)) := by
  obtain ⟨⟨c, h1, -⟩, -⟩ := h
  exact ⟨c, h1⟩
theorem pq_ne (h : PoolAt w p cs ws) (hx : RpAt w B q vC vW cs0 ws0) : q ≠ p := by
  obtain ⟨c, h1⟩ := pool_row h
  intro e
  subst e
  have := hx.1
  rw [h1] at this
  simp only [Option.some.injEq, Obj.cells.injEq] at this
  exact absurd this.2.1 (by decide)
theorem RpAt.far (h : RpAt w B q vC vW cs ws) (hp : PoolAt w p cs0 ws0) (ho : Only (fun k => k = p) w w') : RpAt w' B q vC vW cs ws := by
  obtain ⟨c, h1⟩ := pool_row hp
  exact ⟨(ho.2.2.2.2 _ (row_lt h.1) (pq_ne hp h)).trans h.1, own_keep h.2.1 (fun k hk hl => ho.2.2.2.2 _ hl (own_ty h.2.1 h1 (by decide) k hk)), own_keep h.2.2.1 (fun k hk hl => ho.2.2.2.2 _ hl (own_ty h.2.2.1 h1 (by decide) k hk)), h.2.2.2⟩
theorem pool_far (hp : PoolAt w p cs0 ws0) (hx : RpAt w B q vC vW cs ws) (h : RpC B q vC cs' ws' w w') : PoolAt w' p cs0 ws0 := by
  obtain ⟨c, h1⟩ := pool_row hp
  obtain ⟨a, b, -, ho, -⟩ := h
  refine hp.block (ho.2.2.2.2 _ (row_lt h1) ?_)
  rintro (e | e)
  · exact pq_ne hp hx e.symm
  · exact own_ty hx.2.1 h1 (by decide) _ e rfl
theorem rpc_below {a : World} (h : RpC B q vC cs' ws' w w') (hx : RpAt w B q vC vW cs ws) (hb : Below B a w) (hB : B ≤ w.heap.size) : Below B a w' := by
  obtain ⟨_, _, -, ho, -⟩ := h
  refine ho.below hb hB (fun k hk => ?_)
  rcases hk with rfl | e
  · exact hx.2.2.2
  · exact (World.ownsRow.lt hx.2.1 k e).1
end Pr
end Go.Proofs.Ytlhojkopfpnhpaa
