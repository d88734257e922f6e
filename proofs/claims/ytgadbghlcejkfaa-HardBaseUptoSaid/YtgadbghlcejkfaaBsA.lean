/- The records that make what lasts, on lists; rows of records of the call's own. No condition. -/
import Derived.Test.YtgadbghlcejkfaaHdW
import Derived.Test.YtgadbghlcejkfaaHdU
import Derived.Test.YtgadbghlcejkfaaEnS
namespace Go.Proofs.Ytgadbghlcejkfaa
open Go.ChangeShapes Go.WideShapes Go.ChangeAt Go.RowKit Go.Deep
set_option linter.unusedVariables false
set_option maxRecDepth 100000
/-- an append to what the call owns: what grew, and elements one cell each -/
theorem appRL {α : Type} {sz : Nat} {C : α → List Value} {P : Program} (hC : ∀ x, (C x).length = sz) {t e : TypeId} (ht : P.underlying t = some (.slice e)) {z : Value} {bytes : Nat} (hzs : z.cells.size = sz) (hsz : 0 < sz) (hinfo : (P.info? e).map (fun i => (i.zero, i.size, i.bytes)) = some (some z, sz, bytes))
    {w : World} {ops : Array Oper} {rest : List Oper} {o : Oper} {a : Act} {Q : Exit → Act → World → Prop} (hgd : o.guard = none) (s x : Operand)
    (ho : o.op = .call { callee := .builtin .append, args := #[s, x], argTypes := #[t, t] }) (base : Nat)
    (v : Value) (xs : List α) (hs : a.eval s = v) (hown : OwnR sz C e w base v xs) (u : Value) (zs : List α) (hx : a.eval x = u) (hsl : SlR sz C w u zs) (h1c : ∀ x ∈ zs, ∀ u ∈ C x, u.oneCell' = true)
    (h63 : xs.length + zs.length ≤ maxLen) (hb : (xs.length + zs.length) * bytes ≤ 140737488355328) (hbase : base ≤ w.heap.size)
    (h : ∀ v' w', OwnR sz C e w' base v' (xs ++ zs) → w.grownBy w' v.ownBlock → wpList P ops Q rest (a.put o.dst v') w') : wpList P ops Q (o :: rest) a w := by
  obtain ⟨i0, hi, hz0, hz1, hz2⟩ := info_parts hinfo
  refine wp_app hgd s x t ho base e i0 z sz bytes ht hi hz0 hz1 hz2 hzs hsz v xs.length _ hs hown u zs.length (zs.flatMap C) hx (hsl.src hC) (flat_len hC zs) (fun u hu => ?_) h63 hb hbase ?_
  · obtain ⟨y, hy1, hy⟩ := List.mem_flatMap.1 hu
    exact h1c y hy1 u hy
  · intro v' w' hown' hgrow
    refine h v' w' ?_ hgrow
    unfold OwnR
    rw [List.flatMap_append, List.length_append]
    exact hown'
namespace Rc
open Hd Nv
def begR (b : Int) : RecR := ⟨1, 0, b, 0, 0, zEntV, zShoV⟩
def votR (t v : Int) : RecR := ⟨2, v, 0, t, 0, zEntV, zShoV⟩
def addR (i : Int) (x : Ent) : RecR := ⟨3, 0, 0, 0, i, x, zShoV⟩
def addsL (i0 : Int) : Nat → List Ent → List RecR
  | _, [] => []
  | k, x :: l => addR (i0 + k + 1) x :: addsL i0 (k + 1) l
theorem addsL_snoc (i0 : Int) : ∀ (l : List Ent) (k : Nat) (x : Ent), addsL i0 k (l ++ [x]) = addsL i0 k l ++ [addR (i0 + ((k + l.length : Nat) : Int) + 1) x]
  | [], k, x => by simp [addsL]
  | y :: l, k, x => by
    simp only [List.cons_append, addsL, addsL_snoc i0 l (k + 1) x, List.length_cons]
    rw [show k + 1 + l.length = k + (l.length + 1) by omega]
theorem addsL_len (i0 : Int) : ∀ (l : List Ent) (k : Nat), (addsL i0 k l).length = l.length
  | [], _ => rfl
  | _ :: l, k => by simp [addsL, addsL_len i0 l (k + 1)]
theorem addsL_fits (i0 : Int) : ∀ (l : List Ent) (k : Nat), (∀ x ∈ l, IsCmd.fits x.cmd) → ∀ r ∈ addsL i0 k l, IsRec.fits r
  | [], _, _, r, hr => by simp [addsL] at hr
  | x :: l, k, h, r, hr => by
    simp only [addsL, List.mem_cons] at hr
    rcases hr with rfl | hr
    · exact ⟨h x (by simp), ⟨by simp [addR, zShoV], by simp [addR, zShoV], by simp [addR, zShoV]⟩⟩
    · exact addsL_fits i0 l (k + 1) (fun y hy => h y (by simp [hy])) r hr
/-- what goes ahead of the entries -/
def headL (h : Har) : List RecR := (if h.boot = 0 then [] else [begR h.boot]) ++ (if h.term = 0 then [] else [votR h.term h.vote])
def baseL (h : Har) : List RecR := headL h ++ addsL h.shot.index 0 h.log
theorem headL_len (h : Har) : (headL h).length ≤ 2 := by
  unfold headL
  split <;> split <;> simp
theorem baseL_fits {h : Har} (f : ∀ x ∈ h.log, IsCmd.fits x.cmd) : ∀ r ∈ baseL h, IsRec.fits r := by
  intro r hr
  rcases List.mem_append.1 hr with hr | hr
  · unfold headL at hr
    rcases List.mem_append.1 hr with hr | hr
    · split at hr
      · simp at hr
      · simp only [List.mem_cons, List.not_mem_nil, or_false] at hr
        subst hr
        exact ⟨(by decide : (0 : Nat) * 8 ≤ 140737488351232), ⟨by simp [begR, zShoV], by simp [begR, zShoV], by simp [begR, zShoV]⟩⟩
    · split at hr
      · simp at hr
      · simp only [List.mem_cons, List.not_mem_nil, or_false] at hr
        subst hr
        exact ⟨(by decide : (0 : Nat) * 8 ≤ 140737488351232), ⟨by simp [votR, zShoV], by simp [votR, zShoV], by simp [votR, zShoV]⟩⟩
  · exact addsL_fits _ _ _ f r hr
/-- a record whose lists are the call's own -/
def RecO (w : World) (B : Nat) (r : RRow) : Prop := (OwnK .i64 3 w B r.2.1 r.1.ent.cmd.nodes ∧ OwnK .i64 3 w B r.2.2.1 r.1.shot.nodes ∧ OwnR 5 heldC 67 w B r.2.2.2.1 r.1.shot.led.held ∧ OwnR 6 lastC 71 w B r.2.2.2.2 r.1.shot.led.last) ∧ (∀ n ∈ r.1.ent.cmd.nodes, (Lit.int .i64 n).wf = true) ∧ (∀ n ∈ r.1.shot.nodes, (Lit.int .i64 n).wf = true) ∧ r.1.wf
theorem RecO.map {w w' : World} {B D : Nat} {r : RRow} (h : RecO w B r) (f : ∀ e sz v n xs, e ≠ 38 → w.ownsRow B e sz v n xs → w'.ownsRow D e sz v n xs) : RecO w' D r := ⟨⟨f _ _ _ _ _ (by decide) h.1.1, f _ _ _ _ _ (by decide) h.1.2.1, f _ _ _ _ _ (by decide) h.1.2.2.1, f _ _ _ _ _ (by decide) h.1.2.2.2⟩, h.2⟩
theorem RecO.recL {w : World} {B : Nat} {r : RRow} (h : RecO w B r) : RecL w r.1 r.2.1 r.2.2.1 r.2.2.2.1 r.2.2.2.2 := ⟨h.1.1.sl h.2.1, h.1.2.1.sl h.2.2.1, h.1.2.2.1.sl heldC_len, h.1.2.2.2.sl lastC_len⟩
theorem RecO.recs {w : World} {B : Nat} {rows : List RRow} (h : ∀ r ∈ rows, RecO w B r) : RecsW w rows := fun r hr => ⟨(h r hr).recL, (h r hr).2.2.2⟩
theorem info_rec : (Try.prog.info? 38).map (fun i => (i.zero, i.size, i.bytes)) = some (some (.agg zR), 21, 232) := by kernel_rfl
theorem rec_one (x : RecR) (a : Option Addr) (i j : Nat) (b c d : Option Addr) (k m p q y z : Nat) : ∀ r ∈ [((x, .slice a i j, .slice b k m, .slice c p q, .slice d y z) : RRow)], ∀ u ∈ recC r, u.oneCell' = true := by
  intro r hr u hu
  simp only [List.mem_cons, List.not_mem_nil, or_false] at hr
  subst hr
  have := Array.all_eq_true_iff_forall_mem.1 (rArr_one x a b c d i j k m p q y z) u (by simpa [recC] using hu)
  exact this
/-- what Base answers: the records, and an error -/
def GivesBase (h : Har) (w : World) (e : Ending) (w' : World) : Prop := ∃ v z l, e = .returned (.tuple #[v, .int .i64 z]) ∧ ((z = 0 ∧ hardOk h ∧ l = baseL h) ∨ (z = 130 ∧ ¬ hardOk h ∧ l = [])) ∧ IsRecs w' v l ∧ Below w.heap.size w w'
theorem IsRecs.nil (w : World) : IsRecs w (.slice none 0 0) [] := ⟨[], SlR.nil _, fun r hr => by simp at hr, rfl⟩
/-- rows so far: the records l -/
def Rows21 (w : World) (B : Nat) (v : Value) (l : List RecR) : Prop := ∃ rows : List RRow, OwnR 21 recC 38 w B v rows ∧ (∀ r ∈ rows, RecO w B r) ∧ rows.map Prod.fst = l
theorem Rows21.recs {w : World} {B : Nat} {v : Value} {l : List RecR} (h : Rows21 w B v l) : IsRecs w v l := by
  obtain ⟨rows, h1, h2, h3⟩ := h
  exact ⟨rows, h1.sl recC_len, RecO.recs h2, h3⟩
theorem Rows21.nil (w : World) (B : Nat) : Rows21 w B (.slice none 0 0) [] := ⟨[], OwnR.nil _ _ _, fun r hr => by simp at hr, rfl⟩
theorem Rows21.below {w w' : World} {B : Nat} {v : Value} {l : List RecR} (h : Rows21 w B v l) (hb : Below w.heap.size w w') : Rows21 w' B v l := by
  obtain ⟨rows, h1, h2, h3⟩ := h
  exact ⟨rows, owns_below hb h1, fun r hr => (h2 r hr).map fun e sz v n xs _ q => owns_below hb q, h3⟩
theorem own_apart2 {w : World} {B B2 sz sz2 n n2 : Nat} {e e2 : TypeId} {v v2 : Value} {xs ys : List Value} (h : w.ownsRow B e sz v n xs) (h2 : w.ownsRow B2 e2 sz2 v2 n2 ys) (hne : e ≠ e2) : ∀ g, v.ownBlock = some g → some g ≠ v2.ownBlock := by
  intro g hg
  rcases h.2 with ⟨rfl, -⟩ | ⟨q, cap, cur, rfl, -, hh, -⟩
  · cases hg
  · obtain rfl : q = g := by simpa [Value.ownBlock] using hg
    rcases h2.2 with ⟨rfl, -⟩ | ⟨q2, cap2, cur2, rfl, -, hh2, -⟩
    · simp [Value.ownBlock]
    · intro q3
      obtain rfl : q = q2 := by simpa [Value.ownBlock] using q3
      rw [hh] at hh2
      simp only [Option.some.injEq, Obj.cells.injEq] at hh2
      exact hne hh2.2.1
theorem own_far2 {w w2 : World} {B sz n : Nat} {e : TypeId} {v : Value} {xs : List Value} {row : Option Nat} (h : w.ownsRow B e sz v n xs) (hg : w.grownBy w2 row) (hne : ∀ g, v.ownBlock = some g → some g ≠ row) : w2.ownsRow B e sz v n xs := by
  refine ⟨h.1, ?_⟩
  rcases h.2 with q | ⟨q, cap, cur, rfl, h3, h4, h5⟩
  · exact .inl q
  · exact .inr ⟨q, cap, cur, rfl, h3, by rw [hg.block q (Array.getElem?_eq_some_iff.1 h4).1 (hne q rfl)]; exact h4, h5⟩
/-- with one record more -/
theorem rows_step {w w2 : World} {B : Nat} {v v2 : Value} {rows : List RRow} {x : RRow} (own : OwnR 21 recC 38 w B v rows) (h2 : ∀ r ∈ rows, RecO w B r) (hx : RecO w B x) (hg : w.grownBy w2 v.ownBlock) (own2 : OwnR 21 recC 38 w2 B v2 (rows ++ [x])) : Rows21 w2 B v2 (rows.map Prod.fst ++ [x.1]) := by
  have f : ∀ r, RecO w B r → RecO w2 B r := fun r q => q.map fun e sz u n xs he h => own_far2 h hg (own_apart2 h own he)
  refine ⟨rows ++ [x], own2, fun r hr => ?_, by simp⟩
  rcases List.mem_append.1 hr with hr | hr
  · exact f r (h2 r hr)
  · simp only [List.mem_cons, List.not_mem_nil, or_false] at hr
    subst hr
    exact f _ hx
theorem rows_lt {w : World} {B : Nat} {v : Value} {rows : List RRow} (own : OwnR 21 recC 38 w B v rows) : ∀ q, v.ownBlock = some q → B ≤ q ∧ q < w.heap.size := World.ownsRow.lt own
end Rc
end Go.Proofs.Ytgadbghlcejkfaa
