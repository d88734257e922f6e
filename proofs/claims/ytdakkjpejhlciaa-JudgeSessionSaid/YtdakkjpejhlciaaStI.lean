/- Bytes fed in pieces, and what was told put behind one another. No condition. -/
import Derived.Test.YtdakkjpejhlciaaRnb
namespace Go.Proofs.Ytdakkjpejhlciaa
open Go.ChangeShapes Go.WideShapes Go.ChangeAt Go.RowKit
set_option linter.unusedVariables false
set_option maxRecDepth 100000
namespace St
theorem FeedK.below {B g k : Nat} {s : Rst} {S : Option Nat} {bs : List Int} {w wr w' : World} {v : Value} (h : FeedK B g s S bs w k v wr) (hB : B ≤ w.heap.size) (hb : Below wr.heap.size wr w') : FeedK B g s S bs w k v w' := by
  obtain ⟨S1, h1, h2, h3, h4, h5⟩ := h
  exact ⟨S1, h1.below hb, h2, ⟨h3.1.trans (hb.mono (Nat.le_trans hB h3.1.size)), fun q hq hn hS => (hb.block q (Nat.lt_of_lt_of_le hq h3.1.size)).trans (h3.2 q hq hn hS)⟩, ownR_same h4 fun q hq => hb.block q (World.ownsRow.lt h4 q hq).2, h5⟩
theorem FarR.past {B g : Nat} {S : Option Nat} {w wr w' : World} (h3 : FarR B g S w wr) (hB : B ≤ w.heap.size) (hb : Below wr.heap.size wr w') : FarR B g S w w' :=
  ⟨h3.1.trans (hb.mono (Nat.le_trans hB h3.1.size)), fun q hq hn hS => (hb.block q (Nat.lt_of_lt_of_le hq h3.1.size)).trans (h3.2 q hq hn hS)⟩
theorem ownR_past {B : Nat} {w w' : World} {v : Value} {xs : List Frm} (h4 : OwnR 2 frmC 57 w B v xs) (hb : Below w.heap.size w w') : OwnR 2 frmC 57 w' B v xs :=
  ownR_same h4 fun q hq => hb.block q (World.ownsRow.lt h4 q hq).2
/-- one piece more: fed, and what it told put behind -/
theorem FeedK.step {B g k m : Nat} {s : Rst} {S S1 S2 : Option Nat} {bs : List Int} {w wr w2 w3 : World} {v v3 : Value} (hB : B ≤ w.heap.size)
    (h1 : Rdr B wr g (runV s (bs.take k)).2 S1) (h2 : NewS w S S1) (h3 : FarR B g S w wr) (h4 : OwnR 2 frmC 57 wr w.heap.size v (runV s (bs.take k)).1) (h5 : ∀ q, v.ownBlock = some q → q ≠ g ∧ S1 ≠ some q)
    (r1 : Rdr B w2 g (runV (runV s (bs.take k)).2 ((bs.drop k).take m)).2 S2) (r2 : NewS wr S1 S2) (r3 : FarR B g S1 wr w2)
    (hown : OwnR 2 frmC 57 w3 w.heap.size v3 ((runV s (bs.take k)).1 ++ (runV (runV s (bs.take k)).2 ((bs.drop k).take m)).1)) (hg : w2.grownBy w3 v.ownBlock) (hl : Lies w2 v v3) :
    FeedK B g s S bs w (k + m) v3 w3 := by
  have e : bs.take (k + m) = bs.take k ++ (bs.drop k).take m := List.take_add
  have hw2 : OwnR 2 frmC 57 w2 w.heap.size v (runV s (bs.take k)).1 := ownR_same h4 fun q hq => r3.2 q (World.ownsRow.lt h4 q hq).2 (h5 q hq).1 (fun e => (h5 q hq).2 e.symm)
  have d2 : ∀ q, v.ownBlock = some q → q ≠ g ∧ S2 ≠ some q := fun q hq => ⟨(h5 q hq).1, fun e => by
    rcases r2 with rfl | r2
    · exact (h5 q hq).2 e
    · have := r2 q e; have := (World.ownsRow.lt h4 q hq).2; omega⟩
  have hf2 : FarR B g S w w2 := h3.trans h2 r3
  refine ⟨S2, ?_, NewS.trans (B := B) (g := g) h3.1.size h2 r2, ⟨hf2.1.grown hg (Nat.le_trans hB hf2.1.size) (fun q hq => Nat.le_trans hB (World.ownsRow.lt hw2 q hq).1), fun q hq hn hS => (hg.block q (Nat.lt_of_lt_of_le hq hf2.1.size) (fun e => by have := (World.ownsRow.lt hw2 q e.symm).1; omega)).trans (hf2.2 q hq hn hS)⟩, ?_, fun q hq => ?_⟩
  · rw [e, run_app]
    exact r1.same (hg.block g r1.lt (fun e => (d2 g e.symm).1 rfl)) fun q hq => hg.block q (r1.ltS q hq).2 (fun e => (d2 q e.symm).2 hq)
  · rw [e, run_app]
    exact hown
  · rcases hl with hl | hl
    · exact d2 q (hl ▸ hq)
    · have := hl q hq
      refine ⟨fun e2 => ?_, fun e2 => ?_⟩
      · have := r1.lt; omega
      · have := (r1.ltS q e2).2; omega
theorem sb_extract (s : ByteArray) (k m : Nat) : sb (s.extract k (k + m)) = ((sb s).drop k).take m := by
  unfold sb
  rw [ByteArray.data_extract, Array.toList_extract, List.map_take, List.map_drop]
  simp
theorem sb_one (s : ByteArray) (i : Nat) (h : i < s.size) : ((sb s).drop i).take 1 = [(s[i].toNat : Int)] := by
  have hl : i < (sb s).length := by rw [sb_length]; exact h
  rw [List.drop_eq_getElem_cons hl]
  simp [sb]
  rfl
theorem own_old {B D : Nat} {w w' : World} {v : Value} {xs : List Frm} {g : Nat} (h : OwnR 2 frmC 57 w D v xs) (hf : FarR B g none w w') (hg : g < D) : OwnR 2 frmC 57 w' D v xs :=
  ownR_same h fun q hq => hf.2 q (World.ownsRow.lt h q hq).2 (by have := (World.ownsRow.lt h q hq).1; omega) (by simp)
theorem rdr_old {B D g g2 : Nat} {w w0 w' : World} {s : Rst} {S : Option Nat} (h : Rdr B w g s S) (hn : NewS w0 none S) (hD : w0.heap.size = D) (hf : FarR B g2 none w w') (hne : g ≠ g2) (hg : g2 < D) : Rdr B w' g s S :=
  h.far hf hne (by simp) (fun e => by
    rcases hn with q | q
    · rw [q] at e; cases e
    · have := q g2 e; omega) (fun _ _ => by simp)
theorem sb_empty : sb ByteArray.empty = [] := rfl
theorem int_eq {k : IntKind} {a b : Int} (h : a = b) : Value.int k a = Value.int k b := by rw [h]
end St
end Go.Proofs.Ytdakkjpejhlciaa
