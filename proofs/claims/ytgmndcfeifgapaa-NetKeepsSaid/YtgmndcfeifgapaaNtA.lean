/- Package net: letters, nets, what each call does to a list; the law's own type Op as an argument. No condition. -/
import Derived.Test.YtgmndcfeifgapaaStr
import Derived.Test.YtgmndcfeifgapaaRd
import Derived.Deep.RegionLaw
import Derived.Deep.RegionHeld
import Derived.Deep.AppendLies
import Derived.BigQuiet
import Derived.Lib.Hide
import Derived.Deep.MidRow
import Derived.Deep.QuietTactic
import Derived.Deep.DeepCutAuto
import Derived.Deep.CutRange
import Derived.Deep.CutBlock
import Derived.Deep.RegionWith
import Derived.Deep.RegionHeld3
import Derived.Deep.RegionHeldLaw
import Derived.Lib.QuietBelow
import Derived.BigRegion
namespace Go.Proofs.Ytgmndcfeifgapaa
open Go.ChangeShapes Go.WideShapes Go.ChangeAt Go.RowKit Go.Deep
set_option linter.unusedVariables false
set_option maxRecDepth 100000
structure Letr where
  src : Int
  dst : Int
  bytes : ByteArray
abbrev letC (x : Letr) : List Value := [.int .i64 x.src, .int .i64 x.dst, .string x.bytes]
theorem letC_len (x : Letr) : (letC x).length = 3 := rfl
theorem letC_one (x : Letr) : ∀ u ∈ letC x, u.oneCell' = true := by intro u hu; simp at hu; rcases hu with rfl | rfl | rfl <;> rfl
def Letr.wf (x : Letr) : Prop := (Lit.int .i64 x.src).wf = true ∧ (Lit.int .i64 x.dst).wf = true ∧ x.bytes.size ≤ maxLen
def zLet : Letr := ⟨0, 0, ByteArray.empty⟩
structure NOp where
  kind : Int
  i : Int
  l : Letr
abbrev opC (x : NOp) : List Value := [.int .i64 x.kind, .int .i64 x.i, .int .i64 x.l.src, .int .i64 x.l.dst, .string x.l.bytes]
theorem opC_len (x : NOp) : (opC x).length = 5 := rfl
def NOp.wf (x : NOp) : Prop := (Lit.int .i64 x.kind).wf = true ∧ (Lit.int .i64 x.i).wf = true ∧ x.l.wf
def IsNOps (w : World) (v : Value) (xs : List NOp) : Prop := SlR 5 opC w v xs ∧ ∀ x ∈ xs, x.wf
def IsNOps.size (xs : List NOp) : Nat := xs.length
def IsNOps.fits (xs : List NOp) : Prop := xs.length * 48 ≤ 140737488351232
theorem IsNOps.below {w w' : World} {v : Value} {xs : List NOp} {B : Nat} (h : IsNOps w v xs) (hb : Below B w w') (hB : w.heap.size ≤ B) : IsNOps w' v xs := ⟨h.1.below hb hB, h.2⟩
section
variable {H : Type} {enc : TypeId × Value → H} {P : Program} {W : World}
theorem str_cell {t : TypeId} {n : Nat} {v : Value} {y : DataW H × List MemPlace} (ht : P.underlying t = some .string) (h : DataW.trod enc P W 0 (fun _ => true) true n t [v] = some y) : ∃ s : ByteArray, v = .string s ∧ s.size ≤ maxLen := by
  obtain ⟨s, h1, _, hs⟩ := DataW.trod_string ht h
  simp only [List.cons.injEq, and_true] at h1
  exact ⟨s, h1, hs⟩
theorem slice_cells {r : Reach} {t e : TypeId} {v : Value} {b0 : Nat} (ht : P.underlying t = some (.slice e)) (hok : Value.okWide P W r b0 t v) : v.cells.toList = [v] := by
  obtain ⟨a, l, c, rfl⟩ := okWide_slice ht hok
  rfl
theorem trod_let {n : Nat} {cs : List Value} {y : DataW H × List MemPlace} (h : DataW.trod enc Try.prog W 0 (fun _ => true) true n 31 cs = some y) : ∃ x, cs = letC x ∧ x.wf := by
  obtain ⟨xs, m, _, rfl, hlen, hxl, hf⟩ := DataW.trod_struct Try.underlying31 h
  have hl : cs.length = 3 := hlen.trans (by kernel_rfl)
  match cs, hl, xs, hxl with
  | [c0, c1, c2], _, [y0, y1, y2], _ =>
    have k1 : Try.prog.cellsOf 3 = 1 := by kernel_rfl
    have k3 : Try.prog.cellsOf 9 = 1 := by kernel_rfl
    obtain ⟨z0, rfl, w0⟩ := int_cell (P := Try.prog) Try.underlying3 (by simpa [k1] using hf 0 _ rfl)
    obtain ⟨z1, rfl, w1⟩ := int_cell (P := Try.prog) Try.underlying3 (by simpa [k1] using hf 1 _ rfl)
    obtain ⟨z2, rfl, w2⟩ := str_cell (P := Try.prog) Try.underlying9 (by simpa [k1, k3] using hf 2 _ rfl)
    exact ⟨⟨z0, z1, z2⟩, rfl, w0, w1, w2⟩
theorem trod_nop {n : Nat} {cs : List Value} {y : DataW H × List MemPlace} (h : DataW.trod enc Try.prog W 0 (fun _ => true) true n 33 cs = some y) : ∃ x, cs = opC x ∧ x.wf := by
  obtain ⟨xs, m, _, rfl, hlen, hxl, hf⟩ := DataW.trod_struct Try.underlying33 h
  have hl : cs.length = 5 := hlen.trans (by kernel_rfl)
  match cs, hl, xs, hxl with
  | [c0, c1, c2, c3, c4], _, [y0, y1, y2], _ =>
    have k1 : Try.prog.cellsOf 3 = 1 := by kernel_rfl
    have k3 : Try.prog.cellsOf 31 = 3 := by kernel_rfl
    obtain ⟨z0, rfl, w0⟩ := int_cell (P := Try.prog) Try.underlying3 (by simpa [k1] using hf 0 _ rfl)
    obtain ⟨z1, rfl, w1⟩ := int_cell (P := Try.prog) Try.underlying3 (by simpa [k1] using hf 1 _ rfl)
    obtain ⟨z2, h2, w2⟩ := trod_let (by simpa [k1, k3] using hf 2 _ rfl)
    simp only [List.cons.injEq, and_true] at h2
    obtain ⟨rfl, rfl, rfl⟩ := h2
    exact ⟨⟨z0, z1, z2⟩, rfl, w0, w1, w2⟩
theorem open_nops {base : Nat} {v : Value} {d : DataW H} {ps : List MemPlace}
    (hok : Value.okWide Try.prog W .any base 22 v) (h : DataW.Trod enc Try.prog W 0 (fun _ => true) true 22 v d ps) : ∃ l, IsNOps W v l ∧ IsNOps.size l ≤ Rows.uptoBulk d ∧ (Wt Try.prog 22 d → IsNOps.fits l) := by
  obtain ⟨fuel, hf⟩ := h
  rw [slice_cells Try.underlying22 hok] at hf
  obtain ⟨xs, h1, h2, h3, h4⟩ := rows_cell (P := Try.prog) (C := opC) (Q := NOp.wf) Try.underlying22 (sz := 5) (by kernel_rfl) (by omega) (fun m cs y h => trod_nop h) hf
  refine ⟨xs, ⟨h1, h2⟩, h3, fun hw => ?_⟩
  have := h4 hw
  rw [show Try.prog.bytesOf 33 = 48 from by kernel_rfl] at this
  simpa [reachBytes, IsNOps.fits] using this
end
theorem info_let : (Try.prog.info? 31).map (fun i => (i.zero, i.size, i.bytes)) = some (some (.agg #[.int .i64 0, .int .i64 0, .string ByteArray.empty]), 3, 32) := by kernel_rfl
theorem info_rlet : (Try.prog.info? 37).map (fun i => (i.zero, i.size, i.bytes)) = some (some (.agg #[.int .i64 0, .int .i64 0, .string ByteArray.empty]), 3, 32) := by kernel_rfl
/-- but for some blocks, and what is new, all is as it was -/
def Only (S : Nat → Prop) (w w' : World) : Prop := w'.os = w.os ∧ w'.tape = w.tape ∧ w'.output = w.output ∧ w.heap.size ≤ w'.heap.size ∧ ∀ k, k < w.heap.size → ¬ S k → w'.heap[k]? = w.heap[k]?
theorem Only.refl (S : Nat → Prop) (w : World) : Only S w w := ⟨rfl, rfl, rfl, Nat.le_refl _, fun _ _ _ => rfl⟩
theorem Only.trans {S : Nat → Prop} {a b c : World} (h : Only S a b) (k : Only S b c) : Only S a c :=
  ⟨k.1.trans h.1, k.2.1.trans h.2.1, k.2.2.1.trans h.2.2.1, Nat.le_trans h.2.2.2.1 k.2.2.2.1, fun i hi hs => (k.2.2.2.2 i (Nat.lt_of_lt_of_le hi h.2.2.2.1) hs).trans (h.2.2.2.2 i hi hs)⟩
/-- a second step may also change what is new -/
theorem Only.after {S T : Nat → Prop} {a b c : World} (h : Only S a b) (k : Only T b c) (hT : ∀ i, i < a.heap.size → T i → S i) : Only S a c :=
  ⟨k.1.trans h.1, k.2.1.trans h.2.1, k.2.2.1.trans h.2.2.1, Nat.le_trans h.2.2.2.1 k.2.2.2.1, fun i hi hs => (k.2.2.2.2 i (Nat.lt_of_lt_of_le hi h.2.2.2.1) (fun q => hs (hT i hi q))).trans (h.2.2.2.2 i hi hs)⟩
theorem Only.mono {S T : Nat → Prop} {a b : World} (h : Only S a b) (hs : ∀ k, S k → T k) : Only T a b :=
  ⟨h.1, h.2.1, h.2.2.1, h.2.2.2.1, fun i hi ht => h.2.2.2.2 i hi fun hk => ht (hs i hk)⟩
theorem Below.only {w w' : World} (h : Below w.heap.size w w') (S : Nat → Prop) : Only S w w' := ⟨h.os, h.tape, h.output, h.size, fun k hk _ => h.block k hk⟩
theorem Only.below {S : Nat → Prop} {B : Nat} {a w w' : World} (h : Only S w w') (hb : Below B a w) (hB : B ≤ w.heap.size) (hs : ∀ k, S k → B ≤ k) : Below B a w' :=
  ⟨h.1.trans hb.os, h.2.1.trans hb.tape, h.2.2.1.trans hb.output, Nat.le_trans hb.size h.2.2.2.1, fun k hk => (h.2.2.2.2 k (Nat.lt_of_lt_of_le hk hB) fun hS => Nat.lt_irrefl _ (Nat.lt_of_lt_of_le hk (hs k hS))).trans (hb.block k hk)⟩
theorem Only.setCell {S : Nat → Prop} (w : World) (p : Addr) (u : Value) (hs : S p.block) : Only S w (w.setCell p u) :=
  ⟨rfl, rfl, rfl, by simp, fun k hk hn => Below.heap_setCell w p u k fun e => hn (e ▸ hs)⟩
theorem Only.alloc (S : Nat → Prop) (w : World) (o : Obj) : Only S w (w.alloc o) := Below.only ((Below.refl _ _).alloc (Nat.le_refl _) _) S
theorem Only.grown {w w' : World} {row : Option Nat} {S : Nat → Prop} (h : w.grownBy w' row) (hS : ∀ q, row = some q → S q) : Only S w w' :=
  ⟨h.os, h.tape, h.output, h.size, fun k hk hn => h.block k hk (fun e => hn (hS k e.symm))⟩
theorem row_lt {w : World} {q : Nat} {o : Obj} (h : w.heap[q]? = some o) : q < w.heap.size := (Array.getElem?_eq_some_iff.1 h).1
theorem own_form {w : World} {B e sz n : Nat} {v : Value} {xs : List Value} (h : w.ownsRow B e sz v n xs) : (v = .slice none 0 0 ∧ n = 0) ∨ ∃ g c cur, v = .slice (some ⟨g, 0, none⟩) n c ∧ w.heap[g]? = some (.cells cur e (0, 0)) ∧ B ≤ g := by
  rcases h.2 with ⟨h, h0⟩ | ⟨k, cap, cur, e, hg, hh, -⟩
  · exact .inl ⟨h, h0⟩
  · exact .inr ⟨_, _, _, e, hh, hg⟩
theorem own_slice {w : World} {B e sz n : Nat} {v : Value} {xs : List Value} (h : w.ownsRow B e sz v n xs) : ∃ a c, v = .slice a n c := by
  rcases own_form h with ⟨rfl, rfl⟩ | ⟨g, c, cur, rfl, -⟩
  · exact ⟨_, _, rfl⟩
  · exact ⟨_, _, rfl⟩
/-- what one owns stays where its own block does -/
theorem own_keep {w w' : World} {B e sz n : Nat} {v : Value} {xs : List Value} (h : w.ownsRow B e sz v n xs) (hb : ∀ q, v.ownBlock = some q → q < w.heap.size → w'.heap[q]? = w.heap[q]?) : w'.ownsRow B e sz v n xs := by
  refine ⟨h.1, ?_⟩
  rcases h.2 with h2 | ⟨q, cap, cur, rfl, h3, h4, h5⟩
  · exact .inl h2
  · exact .inr ⟨_, cap, cur, rfl, h3, (hb q rfl (row_lt h4)).trans h4, h5⟩
theorem own_ty {w : World} {B e sz n g : Nat} {v : Value} {xs : List Value} {cs : Array Value} {t : TypeId} {fr : Nat × Nat} (h : w.ownsRow B e sz v n xs) (hg : w.heap[g]? = some (.cells cs t fr)) (hne : e ≠ t) : ∀ q, v.ownBlock = some q → q ≠ g := by
  intro q hq hn
  subst hn
  rcases h.2 with ⟨rfl, -⟩ | ⟨q2, cap, cur, rfl, -, hh, -⟩
  · cases hq
  · simp only [Value.ownBlock, Option.some.injEq] at hq
    subst hq
    rw [hg] at hh
    simp only [Option.some.injEq, Obj.cells.injEq] at hh
    exact hne hh.2.1.symm
theorem own_up {w : World} {B D e sz n : Nat} {v : Value} {xs : List Value} (h : w.ownsRow B e sz v n xs) (hD : ∀ q, v.ownBlock = some q → D ≤ q) : w.ownsRow D e sz v n xs := by
  refine ⟨h.1, ?_⟩
  rcases h.2 with h2 | ⟨q, cap, cur, rfl, h3, h4⟩
  · exact .inl h2
  · exact .inr ⟨q, cap, cur, rfl, hD q rfl, h4⟩
namespace Nt
/-- a net: a box, and the letters, a row of its own -/
def NetAt (TN TL : TypeId) (w : World) (B p : Nat) (v : Value) (ls : List Letr) : Prop := w.heap[p]? = some (.cells #[v] TN (0, 0)) ∧ OwnR 3 letC TL w B v ls ∧ B ≤ p
def nodeP (n : Int) : Prop := 1 ≤ n ∧ n ≤ 7
instance (n : Int) : Decidable (nodeP n) := by unfold nodeP; infer_instance
def addE (ls : List Letr) : Int := if 200 ≤ ls.length then 5 else 0
def sendE (ls : List Letr) (x : Letr) : Int := if ¬ nodeP x.src ∨ ¬ nodeP x.dst then 1 else if 8200 < x.bytes.size then 2 else addE ls
def addL (ls : List Letr) (x : Letr) : List Letr := if 200 ≤ ls.length then ls else ls ++ [x]
def sendL (ls : List Letr) (x : Letr) : List Letr := if ¬ nodeP x.src ∨ ¬ nodeP x.dst then ls else if 8200 < x.bytes.size then ls else addL ls x
def inP (ls : List Letr) (i : Int) : Prop := 0 ≤ i ∧ i < ls.length
instance (ls : List Letr) (i : Int) : Decidable (inP ls i) := by unfold inP; infer_instance
def takeX (ls : List Letr) (i : Int) : Letr := if inP ls i then ls.getD i.toNat zLet else zLet
def takeE (ls : List Letr) (i : Int) : Int := if inP ls i then 0 else 4
def takeL (ls : List Letr) (i : Int) : List Letr := if inP ls i then ls.take i.toNat ++ ls.drop (i.toNat + 1) else ls
def dblE (ls : List Letr) (i : Int) : Int := if inP ls i then addE ls else 4
def dblL (ls : List Letr) (i : Int) : List Letr := if inP ls i then addL ls (ls.getD i.toNat zLet) else ls
/-- letters that were sent -/
def okL (ls : List Letr) : Prop := ls.length ≤ 200 ∧ ∀ x ∈ ls, nodeP x.src ∧ nodeP x.dst ∧ x.bytes.size ≤ 8200
/-- a net behind a call: its box, its letters, where they lie -/
def NetC (TN TL : TypeId) (B p : Nat) (v : Value) (ls' : List Letr) (w w' : World) : Prop := ∃ v', NetAt TN TL w' B p v' ls' ∧ Only (fun k => k = p ∨ v.ownBlock = some k) w w' ∧ (v'.ownBlock = v.ownBlock ∨ ∀ q, v'.ownBlock = some q → w.heap.size ≤ q)
theorem NetC.same {TN TL : TypeId} {B p : Nat} {v : Value} {ls : List Letr} {w w' : World} (h : NetAt TN TL w B p v ls) (hb : Below w.heap.size w w') : NetC TN TL B p v ls w w' :=
  ⟨v, ⟨(hb.block _ (row_lt h.1)).trans h.1, h.2.1.below hb (Nat.le_refl _), h.2.2⟩, Below.only hb _, .inl rfl⟩
/-- a net of other types stays -/
theorem NetAt.far {TN TL TN2 TL2 : TypeId} {w w' : World} {B B2 p q : Nat} {v u : Value} {ls ms : List Letr} (h : NetAt TN TL w B p v ls) (g : NetAt TN2 TL2 w B2 q u ms) (ho : Only (fun k => k = q ∨ u.ownBlock = some k) w w') (h1 : TN ≠ TN2) (h2 : TL ≠ TL2) (h3 : TN ≠ TL2) (h4 : TL ≠ TN2) : NetAt TN TL w' B p v ls := by
  obtain ⟨a1, a2, a3⟩ := h
  obtain ⟨b1, b2, b3⟩ := g
  refine ⟨(ho.2.2.2.2 _ (row_lt a1) ?_).trans a1, own_keep a2 (fun k hk hl => ho.2.2.2.2 _ hl ?_), a3⟩
  · rintro (e | e)
    · subst e; rw [b1] at a1; simp only [Option.some.injEq, Obj.cells.injEq] at a1; exact h1 a1.2.1.symm
    · exact own_ty b2 a1 (fun q => h3 q.symm) _ e rfl
  · rintro (e | e)
    · exact own_ty a2 b1 h4 _ hk e
    · rcases own_form a2 with ⟨rfl, -⟩ | ⟨g, c, cur, rfl, hh, -⟩
      · cases hk
      · simp only [Value.ownBlock, Option.some.injEq] at hk
        subst hk
        exact own_ty b2 hh (fun q => h2 q.symm) _ e rfl
theorem NetAt.below {TN TL : TypeId} {w w' : World} {B p : Nat} {v : Value} {ls : List Letr} (h : NetAt TN TL w B p v ls) (hb : Below w.heap.size w w') : NetAt TN TL w' B p v ls :=
  ⟨(hb.block _ (row_lt h.1)).trans h.1, h.2.1.below hb (Nat.le_refl _), h.2.2⟩
theorem okL.add {ls : List Letr} {x : Letr} (h : okL ls) (h1 : nodeP x.src) (h2 : nodeP x.dst) (h3 : x.bytes.size ≤ 8200) : okL (addL ls x) := by
  unfold addL
  split
  · exact h
  · refine ⟨by rw [List.length_append]; simp only [List.length_cons, List.length_nil]; omega, fun y hy => ?_⟩
    rcases List.mem_append.1 hy with hy | hy
    · exact h.2 y hy
    · simp only [List.mem_cons, List.not_mem_nil, or_false] at hy
      subst hy
      exact ⟨h1, h2, h3⟩
theorem okL.send {ls : List Letr} {x : Letr} (h : okL ls) : okL (sendL ls x) := by
  unfold sendL
  split
  · exact h
  · rename_i h1
    split
    · exact h
    · exact h.add (Decidable.not_not.1 (fun q => h1 (.inl q))) (Decidable.not_not.1 (fun q => h1 (.inr q))) (by omega)
theorem okL.take {ls : List Letr} {i : Int} (h : okL ls) : okL (takeL ls i) := by
  unfold takeL
  split
  · refine ⟨by rw [List.length_append, List.length_take, List.length_drop]; have := h.1; omega, fun y hy => ?_⟩
    rcases List.mem_append.1 hy with hy | hy
    · exact h.2 y (List.mem_of_mem_take hy)
    · exact h.2 y (List.mem_of_mem_drop hy)
  · exact h
theorem mem_getD {ls : List Letr} {i : Int} (hi : inP ls i) : ls.getD i.toNat zLet ∈ ls := by
  obtain ⟨h1, h2⟩ := hi
  have h3 : i.toNat < ls.length := by omega
  rw [List.getD_eq_getElem?_getD, List.getElem?_eq_getElem h3]
  exact List.getElem_mem h3
theorem okL.dbl {ls : List Letr} {i : Int} (h : okL ls) : okL (dblL ls i) := by
  unfold dblL
  split
  · rename_i hi
    have := h.2 _ (mem_getD hi)
    exact h.add this.1 this.2.1 this.2.2
  · exact h
theorem sendE_dbl {ls : List Letr} {i : Int} (h : okL ls) (hi : inP ls i) : sendE ls (ls.getD i.toNat zLet) = dblE ls i ∧ sendL ls (ls.getD i.toNat zLet) = dblL ls i := by
  obtain ⟨h1, h2, h3⟩ := h.2 _ (mem_getD hi)
  unfold sendE sendL dblE dblL
  rw [if_neg (by rintro (q | q); exact q h1; exact q h2), if_neg (by omega), if_pos hi, if_neg (by rintro (q | q); exact q h1; exact q h2), if_neg (by omega), if_pos hi]
  exact ⟨rfl, rfl⟩
theorem okL.nil : okL [] := ⟨by decide, by simp⟩
end Nt
end Go.Proofs.Ytgmndcfeifgapaa
