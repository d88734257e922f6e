/- A session, and two lists of texts that are the law's own, all apart. No condition. -/
import Derived.Test.YtdakkjpejhlciaaMuQ
namespace Go.Proofs.Ytdakkjpejhlciaa
open Go.ChangeShapes Go.WideShapes Go.ChangeAt Go.RowKit Go.Deep
set_option linter.unusedVariables false
set_option maxRecDepth 100000
set_option linter.unusedSimpArgs false
namespace Mu
open St
abbrev TN : TypeId := 9
abbrev txC (x : ByteArray) : List Value := [.string x]
theorem txC_len (x : ByteArray) : (txC x).length = 1 := rfl
theorem txC_one (x : ByteArray) : ∀ u ∈ txC x, u.oneCell' = true := by intro u hu; simp at hu; subst hu; rfl
theorem info_tx : (Try.prog.info? TN).map (fun i => (i.zero, i.size, i.bytes)) = some (some (.string ⟨#[]⟩), 1, 16) := by kernel_rfl
abbrev OwnT (w : World) (B : Nat) (v : Value) (xs : List ByteArray) : Prop := OwnQ 1 txC TN w B v xs
/-- the session and the two lists -/
structure AskW (p : Nat) (s : Ses) (xs ys : List ByteArray) (vA vB : Value) (S : Nat → Prop) (B : Nat) (w0 w : World) : Prop where
  m : SesX p s w S
  lo : ∀ k, S k → B ≤ k
  x : OwnT w B vA xs
  y : OwnT w B vB ys
  xs : ∀ q, vA.ownBlock = some q → ¬ S q
  ys : ∀ q, vB.ownBlock = some q → ¬ S q
  xy : ∀ q, vA.ownBlock = some q → vB.ownBlock ≠ some q
  bel : Below B w0 w
  sz : B ≤ w.heap.size
variable {p B : Nat} {s s' : Ses} {xs ys zs : List ByteArray} {vA vB vC : Value} {S : Nat → Prop} {w0 w w1 w' : World}
theorem AskW.swap (h : AskW p s xs ys vA vB S B w0 w) : AskW p s ys xs vB vA S B w0 w := ⟨h.m, h.lo, h.y, h.x, h.ys, h.xs, fun q h1 h2 => h.xy q h2 h1, h.bel, h.sz⟩
theorem AskW.start (h : SesX p s w S) (hS : ∀ k, S k → B ≤ k) (hb : Below B w0 w) (hz : B ≤ w.heap.size) : AskW p s [] [] (.slice none 0 0) (.slice none 0 0) S B w0 w :=
  ⟨h, hS, OwnQ.nil _ _ _, OwnQ.nil _ _ _, (fun q e => by cases e), (fun q e => by cases e), (fun q e => by cases e), hb, hz⟩
/-- nothing but what is new -/
theorem AskW.below (h : AskW p s xs ys vA vB S B w0 w) (hb : Below w.heap.size w w') : AskW p s xs ys vA vB S B w0 w' :=
  ⟨(goodS p s).below h.m hb, h.lo, h.x.keep (fun q hq => hb.block q (h.x.lt q hq).2), h.y.keep (fun q hq => hb.block q (h.y.lt q hq).2), h.xs, h.ys, h.xy, h.bel.trans (hb.mono h.sz), Nat.le_trans h.sz hb.size⟩
/-- a text put at the end of the first list -/
theorem AskW.grow (h : AskW p s xs ys vA vB S B w0 w) (hx : OwnT w' B vC zs) (hg : w.grownBy w' vA.ownBlock) (hv : vC.ownBlock = vA.ownBlock ∨ ∀ q, vC.ownBlock = some q → w.heap.size ≤ q) : AskW p s zs ys vC vB S B w0 w' := by
  have ho : Only (fun k => vA.ownBlock = some k) w w' := Only.grown hg (fun q e => e)
  refine ⟨(goodS p s).only h.m ho (fun k hk e => h.xs k e hk), h.lo, hx, h.y.keep (fun q hq => hg.block q (h.y.lt q hq).2 (fun e => h.xy q e.symm hq)), fun q hq hs => ?_, h.ys, fun q hq hq2 => ?_, ho.below h.bel h.sz (fun k e => (h.x.lt k e).1), Nat.le_trans h.sz hg.size⟩
  · rcases hv with e | e
    · exact h.xs q (e ▸ hq) hs
    · have := e q hq
      have := (goodS p s).low h.m q hs
      omega
  · rcases hv with e | e
    · exact h.xy q (e ▸ hq) hq2
    · have := e q hq
      have := (h.y.lt q hq2).2
      omega
/-- a call on the session -/
theorem AskW.left (h : AskW p s xs ys vA vB S B w0 w) (hl : Mc.Left (SesX p s') S w w') : ∃ S', AskW p s' xs ys vA vB S' B w0 w' := by
  obtain ⟨⟨S', h1, h2⟩, ho⟩ := hl
  have hz := ho.2.2.2.1
  refine ⟨S', h1, fun k hk => ?_, h.x.keep (fun q hq => ho.2.2.2.2 q (h.x.lt q hq).2 (h.xs q hq)), h.y.keep (fun q hq => ho.2.2.2.2 q (h.y.lt q hq).2 (h.ys q hq)), fun q hq hs => ?_, fun q hq hs => ?_, h.xy, ho.below h.bel h.sz h.lo, Nat.le_trans h.sz hz⟩
  · rcases h2 k hk with c | c
    · exact h.lo k c
    · have := h.sz; omega
  · rcases h2 q hs with c | c
    · exact h.xs q hq c
    · have := (h.x.lt q hq).2; omega
  · rcases h2 q hs with c | c
    · exact h.ys q hq c
    · have := (h.y.lt q hq).2; omega
/-- the same, whatever the session's own blocks are -/
def AskX (p : Nat) (s : Ses) (xs ys : List ByteArray) (vA vB : Value) (B : Nat) (w0 w : World) : Prop := ∃ S, AskW p s xs ys vA vB S B w0 w
theorem AskX.swap (h : AskX p s xs ys vA vB B w0 w) : AskX p s ys xs vB vA B w0 w := by obtain ⟨S, h⟩ := h; exact ⟨S, h.swap⟩
theorem AskX.below (h : AskX p s xs ys vA vB B w0 w) (hb : Below w.heap.size w w') : AskX p s xs ys vA vB B w0 w' := by obtain ⟨S, h⟩ := h; exact ⟨S, h.below hb⟩
theorem AskX.bel (h : AskX p s xs ys vA vB B w0 w) : Below B w0 w ∧ B ≤ w.heap.size := by obtain ⟨S, h⟩ := h; exact ⟨h.bel, h.sz⟩
theorem AskX.own (h : AskX p s xs ys vA vB B w0 w) : OwnT w B vA xs ∧ OwnT w B vB ys := by obtain ⟨S, h⟩ := h; exact ⟨h.x, h.y⟩
theorem AskX.grow (h : AskX p s xs ys vA vB B w0 w) (hx : OwnT w' B vC zs) (hg : w.grownBy w' vA.ownBlock) (hv : vC.ownBlock = vA.ownBlock ∨ ∀ q, vC.ownBlock = some q → w.heap.size ≤ q) : AskX p s zs ys vC vB B w0 w' := by obtain ⟨S, h⟩ := h; exact ⟨S, h.grow hx hg hv⟩
theorem AskX.prog {f : Nat} {args : Array Value} {r : Value} (h : AskX p s xs ys vA vB B w0 w) (hc : ∀ S vr vq vo, SesV w S p vr vq vo s → Calls Try.prog f args w (MuR r p s' S w)) : Calls Try.prog f args w (fun e w' => e = .returned r ∧ AskX p s' xs ys vA vB B w0 w') := by
  obtain ⟨S, h⟩ := h
  obtain ⟨vr, vq, vo, hm⟩ := id h.m
  refine (hc S vr vq vo hm).mono ?_
  rintro e w' ⟨rfl, hl⟩
  exact ⟨rfl, h.left hl⟩
/-- what was told is handed over -/
theorem AskX.replies (h : AskX p s xs ys vA vB B w0 w) : Calls Try.prog 23 #[.pointer (some ⟨p, 0, none⟩)] w (fun e w' => ∃ v, e = .returned v ∧ SlR 3 repC w' v s.out ∧ OwnT w' B vA xs ∧ OwnT w' B vB ys ∧ Below B w0 w' ∧ B ≤ w'.heap.size) := by
  obtain ⟨S, h⟩ := h
  obtain ⟨vr, vq, vo, h1⟩ := id h.m
  refine (replies_any w h1).mono ?_
  rintro e w' ⟨rfl, rfl⟩
  obtain ⟨g1, g2⟩ := h1.given
  have ho := only_cell (w := w) h1.sp 5 (.slice none 0 0)
  exact ⟨vo, rfl, g2.sl repC_len, h.x.keep (fun q hq => ho.2.2.2.2 q (h.x.lt q hq).2 (h.xs q hq)), h.y.keep (fun q hq => ho.2.2.2.2 q (h.y.lt q hq).2 (h.ys q hq)), ho.below h.bel h.sz h.lo, by simpa using h.sz⟩
end Mu
end Go.Proofs.Ytdakkjpejhlciaa
