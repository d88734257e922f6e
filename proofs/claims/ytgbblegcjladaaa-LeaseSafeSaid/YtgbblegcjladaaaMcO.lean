/- One thing in memory that owns its blocks, or two of them apart, and blocks that are nobody's: what calls leave. No condition. -/
import Derived.Test.YtgbblegcjladaaaMch
namespace Go.Proofs.Ytgbblegcjladaaa
open Go.ChangeShapes Go.WideShapes Go.ChangeAt Go.RowKit Go.Deep
set_option linter.unusedVariables false
set_option maxRecDepth 100000
set_option linter.unusedSimpArgs false
namespace Mc
section
variable {P : Program} {V V' V1 V2 V1' V2' : World → (Nat → Prop) → Prop} {O O' : Nat → Prop} {B : Nat} {a w w' : World} {f : Nat} {args : Array Value} {Q : Ending → World → Prop}
theorem only_at {S : Nat → Prop} {k : Nat} (h : Only S w w') (hk : k < w.heap.size) (hs : ¬ S k) : w'.heap[k]? = w.heap[k]? := h.2.2.2.2 k hk hs
/-- two, and blocks O that are neither's -/
def TwoO (V1 V2 : World → (Nat → Prop) → Prop) (O : Nat → Prop) (B : Nat) (a w : World) : Prop := ∃ S1 S2, V1 w S1 ∧ V2 w S2 ∧ (∀ k, S1 k → ¬ S2 k) ∧ (∀ k, S1 k → B ≤ k) ∧ (∀ k, S2 k → B ≤ k) ∧ (∀ k, O k → k < w.heap.size ∧ ¬ S1 k ∧ ¬ S2 k ∧ B ≤ k) ∧ Below B a w ∧ B ≤ w.heap.size
theorem TwoO.bel (h : TwoO V1 V2 O B a w) : Below B a w ∧ B ≤ w.heap.size := by obtain ⟨S1, S2, -, -, -, -, -, -, h7, h8⟩ := h; exact ⟨h7, h8⟩
theorem TwoO.swap (h : TwoO V1 V2 O B a w) : TwoO V2 V1 O B a w := by
  obtain ⟨S1, S2, h1, h2, h3, h4, h5, h6, h7, h8⟩ := h
  exact ⟨S2, S1, h2, h1, fun k c d => h3 k d c, h5, h4, fun k hk => ⟨(h6 k hk).1, (h6 k hk).2.2.1, (h6 k hk).2.1, (h6 k hk).2.2.2⟩, h7, h8⟩
theorem TwoO.mono (h : TwoO V1 V2 O B a w) (hO : ∀ k, O' k → O k) : TwoO V1 V2 O' B a w := by
  obtain ⟨S1, S2, h1, h2, h3, h4, h5, h6, h7, h8⟩ := h
  exact ⟨S1, S2, h1, h2, h3, h4, h5, fun k hk => h6 k (hO k hk), h7, h8⟩
theorem TwoO.below (g1 : Good V1) (g2 : Good V2) (h : TwoO V1 V2 O B a w) (hb : Below w.heap.size w w') : TwoO V1 V2 O B a w' := by
  obtain ⟨S1, S2, h1, h2, h3, h4, h5, h6, h7, h8⟩ := h
  exact ⟨S1, S2, g1.below h1 hb, g2.below h2 hb, h3, h4, h5, fun k hk => ⟨Nat.lt_of_lt_of_le (h6 k hk).1 hb.size, (h6 k hk).2⟩, h7.trans (hb.mono h8), Nat.le_trans h8 hb.size⟩
theorem TwoO.drew (g1 : Good V1) (g2 : Good V2) (h : TwoO V1 V2 O B a w) : TwoO V1 V2 O B a w.drew := h.below g1 g2 ⟨rfl, rfl, rfl, Nat.le_refl _, fun _ _ => rfl⟩
/-- what is made since is nobody's -/
theorem TwoO.more (g1 : Good V1) (g2 : Good V2) (h : TwoO V1 V2 O B a w) (hb : Below w.heap.size w w') : TwoO V1 V2 (fun k => O k ∨ (w.heap.size ≤ k ∧ k < w'.heap.size)) B a w' := by
  obtain ⟨S1, S2, h1, h2, h3, h4, h5, h6, h7, h8⟩ := h
  refine ⟨S1, S2, g1.below h1 hb, g2.below h2 hb, h3, h4, h5, fun k hk => ?_, h7.trans (hb.mono h8), Nat.le_trans h8 hb.size⟩
  rcases hk with hk | hk
  · exact ⟨Nat.lt_of_lt_of_le (h6 k hk).1 hb.size, (h6 k hk).2⟩
  · exact ⟨hk.2, fun q => by have := g1.low h1 k q; have := hk.1; omega, fun q => by have := g2.low h2 k q; have := hk.1; omega, by have := hk.1; omega⟩
/-- nobody's blocks are written -/
theorem TwoO.only (g1 : Good V1) (g2 : Good V2) (h : TwoO V1 V2 O B a w) (ho : Only O w w') : TwoO V1 V2 O B a w' := by
  obtain ⟨S1, S2, h1, h2, h3, h4, h5, h6, h7, h8⟩ := h
  have z := ho.2.2.2.1
  exact ⟨S1, S2, g1.only h1 ho (fun k hk hq => (h6 k hq).2.1 hk), g2.only h2 ho (fun k hk hq => (h6 k hq).2.2.1 hk), h3, h4, h5, fun k hk => ⟨Nat.lt_of_lt_of_le (h6 k hk).1 z, (h6 k hk).2⟩, ho.below h7 h8 (fun k hk => (h6 k hk).2.2.2), Nat.le_trans h8 z⟩
/-- a call on the first -/
theorem TwoO.fst (g1 : Good V1) (g2 : Good V2) (h : TwoO V1 V2 O B a w) (hc : ∀ S, V1 w S → (∀ k, O k → ¬ S k) → (∀ k, S k → B ≤ k) → Calls P f args w (fun e w' => Q e w' ∧ Left V1' S w w')) :
    Calls P f args w (fun e w' => Q e w' ∧ TwoO V1' V2 O B a w' ∧ ∀ k, O k → w'.heap[k]? = w.heap[k]?) := by
  obtain ⟨S1, S2, h1, h2, h3, h4, h5, h6, h7, h8⟩ := h
  refine (hc S1 h1 (fun k hk => (h6 k hk).2.1) h4).mono ?_
  rintro e w' ⟨he, hl⟩
  obtain ⟨S', q1, q2, q3, q4, q5⟩ := apart_turn g1 g2 h1 h2 h3 h4 h8 hl
  have z := hl.2.2.2.2.1
  refine ⟨he, ⟨S', S2, q1, q2, q3, q4, h5, fun k hk => ⟨Nat.lt_of_lt_of_le (h6 k hk).1 z, fun q => ?_, (h6 k hk).2.2⟩, hl.2.below h7 h8 h4, Nat.le_trans h8 z⟩, fun k hk => only_at hl.2 (h6 k hk).1 (h6 k hk).2.1⟩
  rcases q5 k q with c | c
  · exact (h6 k hk).2.1 c
  · have := (h6 k hk).1; omega
theorem TwoO.snd (g1 : Good V1) (g2 : Good V2) (h : TwoO V1 V2 O B a w) (hc : ∀ S, V2 w S → (∀ k, O k → ¬ S k) → (∀ k, S k → B ≤ k) → Calls P f args w (fun e w' => Q e w' ∧ Left V2' S w w')) :
    Calls P f args w (fun e w' => Q e w' ∧ TwoO V1 V2' O B a w' ∧ ∀ k, O k → w'.heap[k]? = w.heap[k]?) := by
  refine (h.swap.fst g2 g1 hc).mono ?_
  rintro e w' ⟨h1, h2, h3⟩
  exact ⟨h1, h2.swap, h3⟩
/-- a call on the first that makes nothing of its own: what is new is nobody's -/
theorem TwoO.fstS (g1 : Good V1) (g2 : Good V2) (g1' : Good V1') (h : TwoO V1 V2 O B a w) (hc : ∀ S, V1 w S → (∀ k, O k → ¬ S k) → (∀ k, S k → B ≤ k) → Calls P f args w (fun e w' => Q e w' ∧ V1' w' S ∧ Only S w w')) :
    Calls P f args w (fun e w' => Q e w' ∧ TwoO V1' V2 (fun k => O k ∨ (w.heap.size ≤ k ∧ k < w'.heap.size)) B a w' ∧ ∀ k, O k → w'.heap[k]? = w.heap[k]?) := by
  obtain ⟨S1, S2, h1, h2, h3, h4, h5, h6, h7, h8⟩ := h
  refine (hc S1 h1 (fun k hk => (h6 k hk).2.1) h4).mono ?_
  rintro e w' ⟨he, hv, ho⟩
  have z := ho.2.2.2.1
  refine ⟨he, ⟨S1, S2, hv, g2.only h2 ho (fun k a b => h3 k b a), h3, h4, h5, fun k hk => ?_, ho.below h7 h8 h4, Nat.le_trans h8 z⟩, fun k hk => only_at ho (h6 k hk).1 (h6 k hk).2.1⟩
  rcases hk with hk | hk
  · exact ⟨Nat.lt_of_lt_of_le (h6 k hk).1 z, (h6 k hk).2⟩
  · exact ⟨hk.2, fun q => by have := g1.low h1 k q; have := hk.1; omega, fun q => by have := g2.low h2 k q; have := hk.1; omega, by have := hk.1; omega⟩
theorem TwoO.sndS (g1 : Good V1) (g2 : Good V2) (g2' : Good V2') (h : TwoO V1 V2 O B a w) (hc : ∀ S, V2 w S → (∀ k, O k → ¬ S k) → (∀ k, S k → B ≤ k) → Calls P f args w (fun e w' => Q e w' ∧ V2' w' S ∧ Only S w w')) :
    Calls P f args w (fun e w' => Q e w' ∧ TwoO V1 V2' (fun k => O k ∨ (w.heap.size ≤ k ∧ k < w'.heap.size)) B a w' ∧ ∀ k, O k → w'.heap[k]? = w.heap[k]?) := by
  refine (h.swap.fstS g2 g1 g2' hc).mono ?_
  rintro e w' ⟨h1, h2, h3⟩
  exact ⟨h1, h2.swap, h3⟩
/-- another in the first's place, made of what is new -/
theorem TwoO.turn (g1' : Good V1') (h : TwoO V1 V2 O B a w) (g2 : Good V2) (hb : Below w.heap.size w w') (hv : V1' w' (fun k => w.heap.size ≤ k ∧ k < w'.heap.size)) : TwoO V1' V2 O B a w' := by
  obtain ⟨S1, S2, h1, h2, h3, h4, h5, h6, h7, h8⟩ := h
  refine ⟨_, S2, hv, g2.below h2 hb, fun k c d => ?_, fun k c => Nat.le_trans h8 c.1, h5, fun k hk => ⟨Nat.lt_of_lt_of_le (h6 k hk).1 hb.size, fun c => ?_, (h6 k hk).2.2⟩, h7.trans (hb.mono h8), Nat.le_trans h8 hb.size⟩
  · have := g2.low h2 k d; have := c.1; omega
  · have := (h6 k hk).1; have := c.1; omega
/-! ### one -/
def OneO (V : World → (Nat → Prop) → Prop) (O : Nat → Prop) (B : Nat) (a w : World) : Prop := ∃ S, V w S ∧ (∀ k, S k → B ≤ k) ∧ (∀ k, O k → k < w.heap.size ∧ ¬ S k ∧ B ≤ k) ∧ Below B a w ∧ B ≤ w.heap.size
theorem OneO.bel (h : OneO V O B a w) : Below B a w ∧ B ≤ w.heap.size := by obtain ⟨S, -, -, -, h7, h8⟩ := h; exact ⟨h7, h8⟩
theorem OneO.mono (h : OneO V O B a w) (hO : ∀ k, O' k → O k) : OneO V O' B a w := by
  obtain ⟨S, h1, h2, h3, h4⟩ := h
  exact ⟨S, h1, h2, fun k hk => h3 k (hO k hk), h4⟩
theorem OneO.below (g : Good V) (h : OneO V O B a w) (hb : Below w.heap.size w w') : OneO V O B a w' := by
  obtain ⟨S, h1, h2, h3, h4, h5⟩ := h
  exact ⟨S, g.below h1 hb, h2, fun k hk => ⟨Nat.lt_of_lt_of_le (h3 k hk).1 hb.size, (h3 k hk).2⟩, h4.trans (hb.mono h5), Nat.le_trans h5 hb.size⟩
theorem OneO.drew (g : Good V) (h : OneO V O B a w) : OneO V O B a w.drew := h.below g ⟨rfl, rfl, rfl, Nat.le_refl _, fun _ _ => rfl⟩
theorem OneO.more (g : Good V) (h : OneO V O B a w) (hb : Below w.heap.size w w') : OneO V (fun k => O k ∨ (w.heap.size ≤ k ∧ k < w'.heap.size)) B a w' := by
  obtain ⟨S, h1, h2, h3, h4, h5⟩ := h
  refine ⟨S, g.below h1 hb, h2, fun k hk => ?_, h4.trans (hb.mono h5), Nat.le_trans h5 hb.size⟩
  rcases hk with hk | hk
  · exact ⟨Nat.lt_of_lt_of_le (h3 k hk).1 hb.size, (h3 k hk).2⟩
  · exact ⟨hk.2, fun q => by have := g.low h1 k q; have := hk.1; omega, by have := hk.1; omega⟩
theorem OneO.only (g : Good V) (h : OneO V O B a w) (ho : Only O w w') : OneO V O B a w' := by
  obtain ⟨S, h1, h2, h3, h4, h5⟩ := h
  have z := ho.2.2.2.1
  exact ⟨S, g.only h1 ho (fun k hk hq => (h3 k hq).2.1 hk), h2, fun k hk => ⟨Nat.lt_of_lt_of_le (h3 k hk).1 z, (h3 k hk).2⟩, ho.below h4 h5 (fun k hk => (h3 k hk).2.2), Nat.le_trans h5 z⟩
theorem OneO.call (g : Good V) (h : OneO V O B a w) (hc : ∀ S, V w S → (∀ k, O k → ¬ S k) → (∀ k, S k → B ≤ k) → Calls P f args w (fun e w' => Q e w' ∧ Left V' S w w')) :
    Calls P f args w (fun e w' => Q e w' ∧ OneO V' O B a w' ∧ ∀ k, O k → w'.heap[k]? = w.heap[k]?) := by
  obtain ⟨S, h1, h2, h3, h4, h5⟩ := h
  refine (hc S h1 (fun k hk => (h3 k hk).2.1) h2).mono ?_
  rintro e w' ⟨he, ⟨S', q1, q5⟩, q6⟩
  have z := q6.2.2.2.1
  refine ⟨he, ⟨S', q1, fun k hk => ?_, fun k hk => ⟨Nat.lt_of_lt_of_le (h3 k hk).1 z, fun q => ?_, (h3 k hk).2.2⟩, q6.below h4 h5 h2, Nat.le_trans h5 z⟩, fun k hk => only_at q6 (h3 k hk).1 (h3 k hk).2.1⟩
  · rcases q5 k hk with c | c
    · exact h2 k c
    · have := c.1; omega
  · rcases q5 k q with c | c
    · exact (h3 k hk).2.1 c
    · have := (h3 k hk).1; have := c.1; omega
theorem OneO.callS (g : Good V) (h : OneO V O B a w) (hc : ∀ S, V w S → (∀ k, O k → ¬ S k) → (∀ k, S k → B ≤ k) → Calls P f args w (fun e w' => Q e w' ∧ V' w' S ∧ Only S w w')) :
    Calls P f args w (fun e w' => Q e w' ∧ OneO V' (fun k => O k ∨ (w.heap.size ≤ k ∧ k < w'.heap.size)) B a w' ∧ ∀ k, O k → w'.heap[k]? = w.heap[k]?) := by
  obtain ⟨S, h1, h2, h3, h4, h5⟩ := h
  refine (hc S h1 (fun k hk => (h3 k hk).2.1) h2).mono ?_
  rintro e w' ⟨he, hv, ho⟩
  have z := ho.2.2.2.1
  refine ⟨he, ⟨S, hv, h2, fun k hk => ?_, ho.below h4 h5 h2, Nat.le_trans h5 z⟩, fun k hk => only_at ho (h3 k hk).1 (h3 k hk).2.1⟩
  rcases hk with hk | hk
  · exact ⟨Nat.lt_of_lt_of_le (h3 k hk).1 z, (h3 k hk).2⟩
  · exact ⟨hk.2, fun q => by have := g.low h1 k q; have := hk.1; omega, by have := hk.1; omega⟩
end
end Mc
end Go.Proofs.Ytgbblegcjladaaa
