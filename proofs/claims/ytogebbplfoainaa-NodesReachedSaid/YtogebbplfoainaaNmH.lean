/- The laws over Mid: a map that a literal makes. -/
import Derived.Test.YtogebbplfoainaaNmG
import Derived.Test.YtogebbplfoainaaNodV
import Derived.Carry
namespace Go.Proofs.Ytogebbplfoainaa
open Go.ChangeShapes Go.WideShapes Go.ChangeAt Go.RowKit Go.Maps
set_option linter.unusedVariables false
set_option maxRecDepth 100000
namespace Nm
open Nd (Sl.cases take_get)
/-- a literal's entry, at the operation -/
theorem insert_own {H : Type} {P : Program} (w : World) {ops : Array Oper} {rest : List Oper} {o : Oper} {a : Act} {Q : Exit → Act → World → Prop}
    (hg : o.guard = none) (m x v : Operand) (t : TypeId) (hop : o.op = Op.insert t m x v)
    (k e : TypeId) (K : Keyed P k) (ht : P.underlying t = some (.map k e)) (R : Value → Option (DataW H × List MemPlace)) (b n : Nat) (D : DataW H)
    (hm : a.eval m = .map (some b)) (hown : w.ownsMap P k R b n D) (hn : n < maxLen) (key val : Value) (kl : Lit) (hx : a.eval x = key) (hv : a.eval v = val) (hkey : keyOf P k key = some kl)
    (d : DataW H) (ps : List MemPlace) (hval : R val = some (d, ps))
    (hK : ∀ w', w'.ownsMap P k R b (n + 1) (D.put kl d) → w.grownBy w' (some b) → wpList P ops Q rest (a.put o.dst undef) w') :
    wpList P ops Q (o :: rest) a w := by
  refine wpList_plain hg fun K' hK' => ?_
  obtain ⟨w', hrun, r1, r2⟩ := hown.update K ht hn hkey hval
  unfold Oper.wp
  simp [execOp, hop, hm, hx, hv, hrun, Result.andThen]
  exact hK' _ _ (hK w' r1 r2)
theorem made_at (w : World) (g : Nat) (hg : w.heap.size = g) : OwnM (w.alloc (.map #[] 0)) g 0 (.map []) := by subst hg; exact World.ownsMap_made _ _ _ _
theorem mid_is {w : World} {b k : Nat} {D : DataW Unit} {zs : List Int} {x : Int} (hm : OwnM w b k D) (hw : ∀ n ∈ zs, (Lit.int .i64 n).wf = true) (h : MidP (farOf D) zs x) : x = midV (farOf D) zs := by
  unfold midV
  cases hck : Nd.chk zs with
  | false => rw [h.1 hck]; rfl
  | true =>
    obtain ⟨l, hp, hs, hl, rfl⟩ := h.2 hck
    rw [← hl]
    rw [← hl] at hs
    refine (mid_best hp hs (by rw [hl]; exact (chk_len hck).1) fun y hy => ?_).trans (by rfl)
    obtain ⟨z, hz, rfl⟩ := List.mem_map.1 hy
    have h3 := hm.far_wf (hw z hz)
    simp only [Lit.wf, Bool.and_eq_true, decide_eq_true_eq] at h3
    exact h3.1
def D9 : DataW Unit := ((DataW.map []).put (.int .i64 1) (.lit (.int .u64 9))).put (.int .i64 3) (.lit (.int .u64 4))
theorem mid9 : midV (farOf D9) [1, 2, 3] = 4 := by decide +kernel
end Nm
end Go.Proofs.Ytogebbplfoainaa
