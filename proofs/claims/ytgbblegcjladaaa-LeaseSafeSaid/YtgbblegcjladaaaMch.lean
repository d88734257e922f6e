/- Things in memory that own their blocks: what a call on one leaves; two of them apart in one world. No condition. -/
import Derived.Test.YtgbblegcjladaaaOnl
namespace Go.Proofs.Ytgbblegcjladaaa
open Go.ChangeShapes Go.WideShapes Go.ChangeAt Go.RowKit Go.Deep
set_option linter.unusedVariables false
set_option maxRecDepth 100000
set_option linter.unusedSimpArgs false
namespace Mc
/-- the blocks S and those that are new -/
def Grow (S : Nat → Prop) (w w' : World) (k : Nat) : Prop := S k ∨ (w.heap.size ≤ k ∧ k < w'.heap.size)
/-- V w S: something stands in the world w, and its blocks are S -/
structure Good (V : World → (Nat → Prop) → Prop) : Prop where
  low : ∀ {w : World} {S : Nat → Prop}, V w S → ∀ k, S k → k < w.heap.size
  keep : ∀ {w w' : World} {S : Nat → Prop}, V w S → (∀ k, S k → w'.heap[k]? = w.heap[k]?) → w.heap.size ≤ w'.heap.size → V w' S
/-- what a call leaves: it stands in blocks that were its own, or are new; and all else is as it was -/
def Left (V : World → (Nat → Prop) → Prop) (S : Nat → Prop) (w w' : World) : Prop := (∃ S', V w' S' ∧ ∀ k, S' k → Grow S w w' k) ∧ Only S w w'
section
variable {V V1 V2 V1' V2' : World → (Nat → Prop) → Prop} {S S1 S2 T U : Nat → Prop} {w w' w1 w2 w3 : World} {B : Nat}
theorem Good.below (g : Good V) (h : V w S) (hb : Below w.heap.size w w') : V w' S := g.keep h (fun k hk => hb.block k (g.low h k hk)) hb.size
theorem Good.only (g : Good V) (h : V w S) (ho : Only T w w') (hT : ∀ k, S k → ¬ T k) : V w' S := g.keep h (fun k hk => ho.2.2.2.2 k (g.low h k hk) (hT k hk)) ho.2.2.2.1
theorem Grow.old {k : Nat} (h : S k) : Grow S w w' k := .inl h
theorem Grow.sub (hz1 : w.heap.size ≤ w1.heap.size) (hz2 : w1.heap.size ≤ w2.heap.size) (hs : ∀ k, S1 k → Grow S w w1 k) {k : Nat} (h : Grow S1 w1 w2 k) : Grow S w w2 k := by
  rcases h with h | h
  · rcases hs k h with h | h
    · exact .inl h
    · exact .inr ⟨h.1, by omega⟩
  · exact .inr ⟨by omega, h.2⟩
theorem Only.sub (ho : Only S w w1) (hs : ∀ k, S1 k → Grow S w w1 k) (h : Only S1 w1 w2) : Only S w w2 :=
  ho.after h fun i hi h1 => by
    rcases hs i h1 with h2 | h2
    · exact h2
    · omega
theorem Left.mk (g : Good V) (h : V w' S) (ho : Only S w w') : Left V S w w' := ⟨⟨S, h, fun k hk => .inl hk⟩, ho⟩
/-- one call behind another -/
theorem Left.step (ho : Only S w w1) (hs : ∀ k, S1 k → Grow S w w1 k) (h : Left V S1 w1 w2) : Left V S w w2 := by
  obtain ⟨⟨S', h1, h2⟩, h3⟩ := h
  exact ⟨⟨S', h1, fun k hk => Grow.sub ho.2.2.2.1 h3.2.2.2.1 hs (h2 k hk)⟩, Only.sub ho hs h3⟩
theorem Left.same (g : Good V) (h : V w S) (hb : Below w.heap.size w w') : Left V S w w' := ⟨⟨S, g.below h hb, fun k hk => .inl hk⟩, Below.only hb S⟩
/-- behind it, what is nobody's changes -/
theorem Left.past (g : Good V) (h : Left V S w w1) (hb : Below w1.heap.size w1 w2) : Left V S w w2 := by
  obtain ⟨⟨S', h1, h2⟩, h3⟩ := h
  have z := hb.size
  refine ⟨⟨S', g.below h1 hb, fun k hk => ?_⟩, h3.trans (Below.only hb S)⟩
  rcases h2 k hk with h | h
  · exact .inl h
  · exact .inr ⟨h.1, by omega⟩
theorem Left.ahead (hb : Below w.heap.size w w1) (h : Left V S w1 w2) : Left V S w w2 := h.step (Below.only hb S) (fun k hk => .inl hk)
theorem Left.low (hB : ∀ k, S k → B ≤ k) (hw : B ≤ w.heap.size) (h : Left V S w w') {a : World} (hb : Below B a w) : Below B a w' := h.2.below hb hw hB
/-- two, apart, in blocks from B on -/
def Two (V1 V2 : World → (Nat → Prop) → Prop) (B : Nat) (w : World) : Prop := ∃ S1 S2, V1 w S1 ∧ V2 w S2 ∧ (∀ k, S1 k → ¬ S2 k) ∧ (∀ k, S1 k → B ≤ k) ∧ ∀ k, S2 k → B ≤ k
theorem Two.swap (h : Two V1 V2 B w) : Two V2 V1 B w := by
  obtain ⟨S1, S2, h1, h2, h3, h4, h5⟩ := h
  exact ⟨S2, S1, h2, h1, fun k a b => h3 k b a, h5, h4⟩
theorem Two.below (g1 : Good V1) (g2 : Good V2) (h : Two V1 V2 B w) (hb : Below w.heap.size w w') : Two V1 V2 B w' := by
  obtain ⟨S1, S2, h1, h2, h3, h4, h5⟩ := h
  exact ⟨S1, S2, g1.below h1 hb, g2.below h2 hb, h3, h4, h5⟩
/-- the first is turned -/
theorem apart_turn (g1 : Good V1) (g2 : Good V2) (h1 : V1 w S1) (h2 : V2 w S2) (hd : ∀ k, S1 k → ¬ S2 k) (hB1 : ∀ k, S1 k → B ≤ k) (hB : B ≤ w.heap.size) (h : Left V1' S1 w w') :
    ∃ S', V1' w' S' ∧ V2 w' S2 ∧ (∀ k, S' k → ¬ S2 k) ∧ (∀ k, S' k → B ≤ k) ∧ (∀ k, S' k → Grow S1 w w' k) := by
  obtain ⟨⟨S', q1, q2⟩, q3⟩ := h
  refine ⟨S', q1, g2.only h2 q3 (fun k a b => hd k b a), fun k a b => ?_, fun k a => ?_, q2⟩
  · rcases q2 k a with c | c
    · exact hd k c b
    · have := g2.low h2 k b; omega
  · rcases q2 k a with c | c
    · exact hB1 k c
    · omega
theorem Two.fst (g1 : Good V1) (g2 : Good V2) (hB : B ≤ w.heap.size) (h1 : V1 w S1) (h2 : V2 w S2) (hd : ∀ k, S1 k → ¬ S2 k) (hB1 : ∀ k, S1 k → B ≤ k) (hB2 : ∀ k, S2 k → B ≤ k) (h : Left V1' S1 w w') : Two V1' V2 B w' := by
  obtain ⟨S', q1, q2, q3, q4, -⟩ := apart_turn g1 g2 h1 h2 hd hB1 hB h
  exact ⟨S', S2, q1, q2, q3, q4, hB2⟩
end
end Mc
end Go.Proofs.Ytgbblegcjladaaa
