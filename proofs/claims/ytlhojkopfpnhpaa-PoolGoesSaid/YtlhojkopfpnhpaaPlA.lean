/- Package pool: connections, who waits, the pool's row of twenty-two cells; the law's own type Op as an argument. No condition. -/
import Derived.Test.YtlhojkopfpnhpaaStr
import Derived.Test.YtlhojkopfpnhpaaRd
import Derived.Deep.RegionLaw
import Derived.Deep.RegionHeld
import Derived.Deep.AppendLies
import Derived.BigQuiet
import Derived.Lib.Hide
import Derived.Deep.MidRow
import Derived.Deep.QuietTactic
import Derived.Deep.DeepCutAuto
import Derived.Deep.CutRange
import Derived.Deep.CutBlock
import Derived.Deep.RegionWith
import Derived.Deep.RegionHeld3
import Derived.Deep.RegionHeldLaw
import Derived.Lib.QuietBelow
import Derived.BigRegion
import Derived.Deep.OwnRows
import Derived.Test.YtlhojkopfpnhpaaSlG
namespace Go.Proofs.Ytlhojkopfpnhpaa
open Go.ChangeShapes Go.WideShapes Go.ChangeAt Go.RowKit Go.Deep
set_option linter.unusedVariables false
set_option maxRecDepth 100000
structure Cn where
  tok : Int
  sess : Int
abbrev cnC (x : Cn) : List Value := [.int .i64 x.tok, .int .i64 x.sess]
theorem cnC_len (x : Cn) : (cnC x).length = 2 := rfl
theorem cnC_one (x : Cn) : ∀ u ∈ cnC x, u.oneCell' = true := by intro u hu; simp at hu; rcases hu with rfl | rfl <;> rfl
abbrev intC (x : Int) : List Value := [.int .i64 x]
theorem intC_len (x : Int) : (intC x).length = 1 := rfl
theorem intC_one (x : Int) : ∀ u ∈ intC x, u.oneCell' = true := by intro u hu; simp at hu; subst hu; rfl
structure POp where
  kind : Int
  n : Int
abbrev popC (x : POp) : List Value := [.int .i64 x.kind, .int .i64 x.n]
theorem popC_len (x : POp) : (popC x).length = 2 := rfl
def POp.wf (x : POp) : Prop := (Lit.int .i64 x.kind).wf = true ∧ (Lit.int .i64 x.n).wf = true
def IsPOps (w : World) (v : Value) (xs : List POp) : Prop := SlR 2 popC w v xs ∧ ∀ x ∈ xs, x.wf
def IsPOps.size (xs : List POp) : Nat := xs.length
def IsPOps.fits (xs : List POp) : Prop := xs.length * 16 ≤ 140737488351232
theorem IsPOps.below {w w' : World} {v : Value} {xs : List POp} {B : Nat} (h : IsPOps w v xs) (hb : Below B w w') (hB : w.heap.size ≤ B) : IsPOps w' v xs := ⟨h.1.below hb hB, h.2⟩
section
variable {H : Type} {enc : TypeId × Value → H} {P : Program} {W : World}
theorem slice_cells {r : Reach} {t e : TypeId} {v : Value} {b0 : Nat} (ht : P.underlying t = some (.slice e)) (hok : Value.okWide P W r b0 t v) : v.cells.toList = [v] := by
  obtain ⟨a, l, c, rfl⟩ := okWide_slice ht hok
  rfl
theorem trod_pop {n : Nat} {cs : List Value} {y : DataW H × List MemPlace} (h : DataW.trod enc Try.prog W 0 (fun _ => true) true n 32 cs = some y) : ∃ x, cs = popC x ∧ x.wf := by
  obtain ⟨xs, m, _, rfl, hlen, hxl, hf⟩ := DataW.trod_struct Try.underlying32 h
  have hl : cs.length = 2 := hlen.trans (by kernel_rfl)
  match cs, hl, xs, hxl with
  | [c0, c1], _, [y0, y1], _ =>
    have k1 : Try.prog.cellsOf 3 = 1 := by kernel_rfl
    obtain ⟨z0, rfl, w0⟩ := int_cell (P := Try.prog) Try.underlying3 (by simpa [k1] using hf 0 _ rfl)
    obtain ⟨z1, rfl, w1⟩ := int_cell (P := Try.prog) Try.underlying3 (by simpa [k1] using hf 1 _ rfl)
    exact ⟨⟨z0, z1⟩, rfl, w0, w1⟩
theorem open_pops {base : Nat} {v : Value} {d : DataW H} {ps : List MemPlace}
    (hok : Value.okWide Try.prog W .any base 22 v) (h : DataW.Trod enc Try.prog W 0 (fun _ => true) true 22 v d ps) : ∃ l, IsPOps W v l ∧ IsPOps.size l ≤ Rows.uptoBulk d ∧ (Wt Try.prog 22 d → IsPOps.fits l) := by
  obtain ⟨fuel, hf⟩ := h
  rw [slice_cells Try.underlying22 hok] at hf
  obtain ⟨xs, h1, h2, h3, h4⟩ := rows_cell (P := Try.prog) (C := popC) (Q := POp.wf) Try.underlying22 (sz := 2) (by kernel_rfl) (by omega) (fun m cs y h => trod_pop h) hf
  refine ⟨xs, ⟨h1, h2⟩, h3, fun hw => ?_⟩
  have := h4 hw
  rw [show Try.prog.bytesOf 32 = 16 from by kernel_rfl] at this
  simpa [reachBytes, IsPOps.fits] using this
end
theorem info_cn : (Try.prog.info? 40).map (fun i => (i.zero, i.size, i.bytes)) = some (some (.agg #[.int .i64 0, .int .i64 0]), 2, 16) := by kernel_rfl
theorem info_in1 : (Try.prog.info? 3).map (fun i => (i.zero, i.size, i.bytes)) = some (some (.int .i64 0), 1, 8) := by kernel_rfl
theorem info_rcn : (Try.prog.info? 49).map (fun i => (i.zero, i.size, i.bytes)) = some (some (.agg #[.int .i64 0, .int .i64 0]), 2, 16) := by kernel_rfl
/-- but for some blocks, and what is new, all is as it was -/
def Only (S : Nat → Prop) (w w' : World) : Prop := w'.os = w.os ∧ w'.tape = w.tape ∧ w'.output = w.output ∧ w.heap.size ≤ w'.heap.size ∧ ∀ k, k < w.heap.size → ¬ S k → w'.heap[k]? = w.heap[k]?
theorem Only.refl (S : Nat → Prop) (w : World) : Only S w w := ⟨rfl, rfl, rfl, Nat.le_refl _, fun _ _ _ => rfl⟩
theorem Only.trans {S : Nat → Prop} {a b c : World} (h : Only S a b) (k : Only S b c) : Only S a c :=
  ⟨k.1.trans h.1, k.2.1.trans h.2.1, k.2.2.1.trans h.2.2.1, Nat.le_trans h.2.2.2.1 k.2.2.2.1, fun i hi hs => (k.2.2.2.2 i (Nat.lt_of_lt_of_le hi h.2.2.2.1) hs).trans (h.2.2.2.2 i hi hs)⟩
/-- a second step may also change what is new -/
theorem Only.after {S T : Nat → Prop} {a b c : World} (h : Only S a b) (k : Only T b c) (hT : ∀ i, i < a.heap.size → T i → S i) : Only S a c :=
  ⟨k.1.trans h.1, k.2.1.trans h.2.1, k.2.2.1.trans h.2.2.1, Nat.le_trans h.2.2.2.1 k.2.2.2.1, fun i hi hs => (k.2.2.2.2 i (Nat.lt_of_lt_of_le hi h.2.2.2.1) (fun q => hs (hT i hi q))).trans (h.2.2.2.2 i hi hs)⟩
theorem Only.mono {S T : Nat → Prop} {a b : World} (h : Only S a b) (hs : ∀ k, S k → T k) : Only T a b :=
  ⟨h.1, h.2.1, h.2.2.1, h.2.2.2.1, fun i hi ht => h.2.2.2.2 i hi fun hk => ht (hs i hk)⟩
theorem Below.only {w w' : World} (h : Below w.heap.size w w') (S : Nat → Prop) : Only S w w' := ⟨h.os, h.tape, h.output, h.size, fun k hk _ => h.block k hk⟩
theorem Only.below {S : Nat → Prop} {B : Nat} {a w w' : World} (h : Only S w w') (hb : Below B a w) (hB : B ≤ w.heap.size) (hs : ∀ k, S k → B ≤ k) : Below B a w' :=
  ⟨h.1.trans hb.os, h.2.1.trans hb.tape, h.2.2.1.trans hb.output, Nat.le_trans hb.size h.2.2.2.1, fun k hk => (h.2.2.2.2 k (Nat.lt_of_lt_of_le hk hB) fun hS => Nat.lt_irrefl _ (Nat.lt_of_lt_of_le hk (hs k hS))).trans (hb.block k hk)⟩
theorem Only.setCell {S : Nat → Prop} (w : World) (p : Addr) (u : Value) (hs : S p.block) : Only S w (w.setCell p u) :=
  ⟨rfl, rfl, rfl, by simp, fun k hk hn => Below.heap_setCell w p u k fun e => hn (e ▸ hs)⟩
theorem Only.alloc (S : Nat → Prop) (w : World) (o : Obj) : Only S w (w.alloc o) := Below.only ((Below.refl _ _).alloc (Nat.le_refl _) _) S
theorem Only.grown {w w' : World} {row : Option Nat} {S : Nat → Prop} (h : w.grownBy w' row) (hS : ∀ q, row = some q → S q) : Only S w w' :=
  ⟨h.os, h.tape, h.output, h.size, fun k hk hn => h.block k hk (fun e => hn (hS k e.symm))⟩
theorem row_lt {w : World} {q : Nat} {o : Obj} (h : w.heap[q]? = some o) : q < w.heap.size := (Array.getElem?_eq_some_iff.1 h).1
theorem own_form {w : World} {B e sz n : Nat} {v : Value} {xs : List Value} (h : w.ownsRow B e sz v n xs) : (v = .slice none 0 0 ∧ n = 0) ∨ ∃ g c cur, v = .slice (some ⟨g, 0, none⟩) n c ∧ w.heap[g]? = some (.cells cur e (0, 0)) ∧ B ≤ g := by
  rcases h.2 with ⟨h, h0⟩ | ⟨k, cap, cur, e, hg, hh, -⟩
  · exact .inl ⟨h, h0⟩
  · exact .inr ⟨_, _, _, e, hh, hg⟩
theorem own_slice {w : World} {B e sz n : Nat} {v : Value} {xs : List Value} (h : w.ownsRow B e sz v n xs) : ∃ a c, v = .slice a n c := by
  rcases own_form h with ⟨rfl, rfl⟩ | ⟨g, c, cur, rfl, -⟩
  · exact ⟨_, _, rfl⟩
  · exact ⟨_, _, rfl⟩
/-- what one owns stays where its own block does -/
theorem own_keep {w w' : World} {B e sz n : Nat} {v : Value} {xs : List Value} (h : w.ownsRow B e sz v n xs) (hb : ∀ q, v.ownBlock = some q → q < w.heap.size → w'.heap[q]? = w.heap[q]?) : w'.ownsRow B e sz v n xs := by
  refine ⟨h.1, ?_⟩
  rcases h.2 with h2 | ⟨q, cap, cur, rfl, h3, h4, h5⟩
  · exact .inl h2
  · exact .inr ⟨_, cap, cur, rfl, h3, (hb q rfl (row_lt h4)).trans h4, h5⟩
theorem own_ty {w : World} {B e sz n g : Nat} {v : Value} {xs : List Value} {cs : Array Value} {t : TypeId} {fr : Nat × Nat} (h : w.ownsRow B e sz v n xs) (hg : w.heap[g]? = some (.cells cs t fr)) (hne : e ≠ t) : ∀ q, v.ownBlock = some q → q ≠ g := by
  intro q hq hn
  subst hn
  rcases h.2 with ⟨rfl, -⟩ | ⟨q2, cap, cur, rfl, -, hh, -⟩
  · cases hq
  · simp only [Value.ownBlock, Option.some.injEq] at hq
    subst hq
    rw [hg] at hh
    simp only [Option.some.injEq, Obj.cells.injEq] at hh
    exact hne hh.2.1.symm
theorem own_up {w : World} {B D e sz n : Nat} {v : Value} {xs : List Value} (h : w.ownsRow B e sz v n xs) (hD : ∀ q, v.ownBlock = some q → D ≤ q) : w.ownsRow D e sz v n xs := by
  refine ⟨h.1, ?_⟩
  rcases h.2 with h2 | ⟨q, cap, cur, rfl, h3, h4⟩
  · exact .inl h2
  · exact .inr ⟨q, cap, cur, rfl, hD q rfl, h4⟩
namespace Pl
/-- the pool's row: its cells by their places -/
def RawP (w : World) (p : Nat) (f : Nat → Int) : Prop := w.rowIs p 44 22 (fun i => .int .i64 (f i))
theorem RawP.c {w : World} {p : Nat} {f : Nat → Int} (h : RawP w p f) (i : Nat) (hi : i < 22) : w.cell? ⟨p, i, none⟩ = some (.int .i64 (f i)) := World.rowIs.cell h hi
theorem RawP.z {w : World} {p : Nat} {f : Nat → Int} (h : RawP w p f) (i : Nat) : w.frozen? ⟨p, i, none⟩ = false := World.rowIs.frozen h i
theorem RawP.lt {w : World} {p : Nat} {f : Nat → Int} (h : RawP w p f) : p < w.heap.size := World.rowIs.lt h
theorem RawP.congr {w : World} {p : Nat} {f g : Nat → Int} (h : RawP w p f) (e : ∀ i, i < 22 → f i = g i) : RawP w p g := World.rowIs.congr h (fun i hi => by rw [e i hi])
theorem RawP.block {w w' : World} {p : Nat} {f : Nat → Int} (h : RawP w p f) (e : w'.heap[p]? = w.heap[p]?) : RawP w' p f := World.rowIs.of_block h e
theorem RawP.below {w w' : World} {p : Nat} {f : Nat → Int} (h : RawP w p f) (hb : Below w.heap.size w w') : RawP w' p f := h.block (hb.block _ h.lt)
theorem RawP.set {w : World} {p : Nat} {f : Nat → Int} (h : RawP w p f) (i : Nat) (z : Int) : RawP (w.setCell ⟨p, i, none⟩ (.int .i64 z)) p (fun j => if j = i then z else f j) :=
  World.rowIs.congr (World.rowIs.set h i (.int .i64 z)) (fun j _ => by by_cases e : j = i; simp [e]; simp [e])
/-- copy inside the row -/
def cpy (d s n : Nat) (f : Nat → Int) (j : Nat) : Int := if d ≤ j ∧ j < d + n then f (j - d + s) else f j
theorem RawP.cpy {w : World} {p : Nat} {f : Nat → Int} (h : RawP w p f) (d s n : Nat) (hs : s + n ≤ 22) (hd : d + n ≤ 22) :
    ∃ cur : List Value, w.heap[p]? = some (.cells cur.toArray 44 (0, 0)) ∧ cur.length = 22 ∧ ((List.range n).map fun j => Value.int .i64 (f (s + j))).length = n ∧ (∀ j v, ((List.range n).map fun j => Value.int .i64 (f (s + j)))[j]? = some v → w.cell? ((⟨p, s, none⟩ : Addr).add j) = some v) ∧ (∀ v ∈ ((List.range n).map fun j => Value.int .i64 (f (s + j))), v.oneCell' = true) ∧ RawP (w.setRow p (splice cur d ((List.range n).map fun j => Value.int .i64 (f (s + j)))).toArray) p (cpy d s n f) := by
  obtain ⟨c, hb, hn, hc⟩ := h
  have hln : ((List.range n).map fun j => Value.int .i64 (f (s + j))).length = n := by simp
  have hcl : c.toList.length = 22 := by simpa using hn
  refine ⟨c.toList, by simpa using hb, hcl, hln, ?_, ?_, ?_⟩
  · intro j v hv
    rw [List.getElem?_map] at hv
    obtain ⟨k, hk, rfl⟩ := Option.map_eq_some_iff.1 hv
    obtain ⟨hk1, hk2⟩ := List.getElem?_eq_some_iff.1 hk
    simp only [List.length_range] at hk1
    simp only [List.getElem_range] at hk2
    subst hk2
    rw [add_plain]
    exact World.rowIs.cell (w := w) (b := p) (t := 44) (n := 22) (f := fun i => .int .i64 (f i)) ⟨c, hb, hn, hc⟩ (by omega)
  · intro v hv
    obtain ⟨k, _, rfl⟩ := List.mem_map.1 hv
    rfl
  · refine ⟨(splice c.toList d ((List.range n).map fun j => Value.int .i64 (f (s + j)))).toArray, setRow_heap w p _ _ _ _ hb, ?_, ?_⟩
    · simp only [List.size_toArray]
      rw [length_splice _ _ _ (by rw [hln, hcl]; exact hd)]
      exact hcl
    · intro i hi
      rw [List.getElem?_toArray]
      unfold splice Pl.cpy
      rw [hln]
      by_cases h1 : i < d
      · rw [List.getElem?_append_left (by rw [List.length_take]; omega), List.getElem?_take_of_lt h1]
        simp only []
        rw [if_neg (by omega)]
        simpa using hc i hi
      · have hd' : (c.toList.take d).length = d := by rw [List.length_take]; omega
        rw [List.getElem?_append_right (by omega), hd']
        by_cases h2 : i < d + n
        · rw [List.getElem?_append_left (by rw [hln]; omega), List.getElem?_map, List.getElem?_range (by omega)]
          simp only [Option.map_some]
          rw [if_pos ⟨by omega, h2⟩]
          rw [show s + (i - d) = i - d + s by omega]
        · rw [List.getElem?_append_right (by rw [hln]; omega), hln, List.getElem?_drop, show d + n + (i - d - n) = i by omega]
          simp only []
          rw [if_neg (by omega)]
          simpa using hc i hi
/-- what a cell holds -/
def cellOf (cs : List Cn) (ws : List Int) (i : Nat) : Int :=
  if i < 16 then (if i % 2 = 0 then (cs[i / 2]?.map Cn.tok).getD 0 else (cs[i / 2]?.map Cn.sess).getD 0) else if i = 16 then cs.length else if i < 21 then (ws[i - 17]?).getD 0 else ws.length
def PoolAt (w : World) (p : Nat) (cs : List Cn) (ws : List Int) : Prop := RawP w p (cellOf cs ws) ∧ cs.length ≤ 8 ∧ ws.length ≤ 4
theorem PoolAt.below {w w' : World} {p : Nat} {cs : List Cn} {ws : List Int} (h : PoolAt w p cs ws) (hb : Below w.heap.size w w') : PoolAt w' p cs ws := ⟨h.1.below hb, h.2⟩
theorem PoolAt.block {w w' : World} {p : Nat} {cs : List Cn} {ws : List Int} (h : PoolAt w p cs ws) (e : w'.heap[p]? = w.heap[p]?) : PoolAt w' p cs ws := ⟨h.1.block e, h.2⟩
theorem cell_tok {cs : List Cn} {ws : List Int} {i : Nat} {x : Cn} (h : cs[i]? = some x) (h8 : cs.length ≤ 8) : cellOf cs ws (2 * i) = x.tok ∧ cellOf cs ws (2 * i + 1) = x.sess := by
  have hl := (List.getElem?_eq_some_iff.1 h).1
  unfold cellOf
  rw [if_pos (by omega), if_pos (by omega), if_pos (by omega), if_neg (by omega), show 2 * i / 2 = i by omega, show (2 * i + 1) / 2 = i by omega, h]
  exact ⟨rfl, rfl⟩
theorem PoolAt.tok {w : World} {p : Nat} {cs : List Cn} {ws : List Int} (h : PoolAt w p cs ws) {i : Nat} {x : Cn} (hx : cs[i]? = some x) : w.cell? ⟨p, 2 * i, none⟩ = some (.int .i64 x.tok) ∧ w.cell? ⟨p, 2 * i + 1, none⟩ = some (.int .i64 x.sess) := by
  have hl := (List.getElem?_eq_some_iff.1 hx).1
  have h8 := h.2.1
  have := cell_tok (ws := ws) hx h8
  rw [← this.1, ← this.2]
  exact ⟨h.1.c _ (by omega), h.1.c _ (by omega)⟩
theorem PoolAt.many {w : World} {p : Nat} {cs : List Cn} {ws : List Int} (h : PoolAt w p cs ws) : w.cell? ⟨p, 16, none⟩ = some (.int .i64 cs.length) := h.1.c 16 (by omega)
theorem PoolAt.waiting {w : World} {p : Nat} {cs : List Cn} {ws : List Int} (h : PoolAt w p cs ws) : w.cell? ⟨p, 21, none⟩ = some (.int .i64 ws.length) := h.1.c 21 (by omega)
theorem PoolAt.wait {w : World} {p : Nat} {cs : List Cn} {ws : List Int} (h : PoolAt w p cs ws) {i : Nat} {x : Int} (hx : ws[i]? = some x) : w.cell? ⟨p, 17 + i, none⟩ = some (.int .i64 x) := by
  have hl := (List.getElem?_eq_some_iff.1 hx).1
  have h4 := h.2.2
  have e : cellOf cs ws (17 + i) = x := by
    unfold cellOf
    rw [if_neg (by omega), if_neg (by omega), if_pos (by omega), show 17 + i - 17 = i by omega, hx]
    rfl
  rw [← e]
  exact h.1.c _ (by omega)
theorem PoolAt.first {w : World} {p : Nat} {cs : List Cn} {ws : List Int} (h : PoolAt w p cs ws) : w.cell? ⟨p, 17, none⟩ = some (.int .i64 (ws.headD 0)) := by
  have e : cellOf cs ws 17 = ws.headD 0 := by
    unfold cellOf
    cases ws <;> rfl
  rw [← e]
  exact h.1.c _ (by omega)
/-- its connections and who waits, as slices -/
theorem PoolAt.conns {w : World} {p : Nat} {cs : List Cn} {ws : List Int} (h : PoolAt w p cs ws) : SlR 2 cnC w (.slice (some ⟨p, 0, none⟩) cs.length 8) cs := by
  refine ⟨_, _, rfl, h.2.1, by decide, .inr ⟨p, 0, none, rfl, .inr ⟨rfl, h.1.lt, ?_⟩⟩⟩
  intro i x hx j u hu
  have := h.tok hx
  match j, hu with
  | 0, hu => simp only [cnC, List.getElem?_cons_zero, Option.some.injEq] at hu; subst hu; rw [← this.1]; congr 2; omega
  | 1, hu => simp only [cnC, List.getElem?_cons_succ, List.getElem?_cons_zero, Option.some.injEq] at hu; subst hu; rw [← this.2]; congr 2; omega
  | j + 2, hu => simp at hu
end Pl
end Go.Proofs.Ytlhojkopfpnhpaa
