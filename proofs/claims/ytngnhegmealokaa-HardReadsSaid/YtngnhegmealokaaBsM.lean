/- What is of small bulk is of small weight. No condition. What lasts, and lists of records, as arguments, with how long they are. No condition. The records that make what lasts, on lists; rows of records of the call's own. No condition. A record in new memory: the document's CopyRec. No condition but sizes. -/
import Derived.Test.YtngnhegmealokaaBse
import Derived.Test.YtngnhegmealokaaRcZ
import Derived.Test.YtngnhegmealokaaHdV
import Derived.Test.YtngnhegmealokaaEnM
import Derived.Test.YtngnhegmealokaaShS
import Derived.Deep.MidRow
namespace Go.Proofs.Ytngnhegmealokaa
open Go.ChangeShapes Go.WideShapes Go.ChangeAt Go.RowKit
set_option linter.unusedVariables false
set_option maxRecDepth 100000
section
variable {H : Type} {P : Program} {K N : Nat}
def comp (N : Nat) : TypeDesc → Bool
  | .pointer e => decide (e < N)
  | .slice e => decide (e < N)
  | .struct fs => fs.toList.all fun f => decide (f.type < N)
  | .array _ e => decide (e < N)
  | .map k e => decide (k < N) && decide (e < N)
  | _ => true
def Tight (P : Program) (K N : Nat) : Prop := ∀ t, t < N → P.bytesOf t ≤ K ∧ ∀ d, P.underlying t = some d → comp N d = true
theorem bulk_pos (d : DataW H) : 1 ≤ Rows.uptoBulk d := by
  cases d with
  | lit l => cases l <;> simp [Rows.uptoBulk]
  | _ => simp [Rows.uptoBulk]
theorem len_all : ∀ l : List (DataW H), l.length ≤ Rows.uptoBulkAll l
  | [] => Nat.zero_le _
  | d :: l => by
    have := len_all l
    have := bulk_pos d
    simp only [Rows.uptoBulkAll, List.length_cons]
    omega
theorem entry_pos (x : Lit × DataW H) : 1 ≤ Rows.uptoBulkEntry x := by
  obtain ⟨l, d⟩ := x
  cases l <;> simp [Rows.uptoBulkEntry]
theorem len_entries : ∀ l : List (Lit × DataW H), l.length ≤ Rows.uptoBulkEntries l
  | [] => Nat.zero_le _
  | d :: l => by
    have := len_entries l
    have := entry_pos d
    simp only [Rows.uptoBulkEntries, List.length_cons]
    omega
theorem up_le {a b n c : Nat} (h : n ≤ a * c) (hab : a ≤ b) : n ≤ b * c := Nat.le_trans h (Nat.mul_le_mul_right _ hab)
mutual
theorem w_one (hK : Tight P K N) (h1 : 1 ≤ K) : ∀ (d : DataW H) (t : TypeId) (n : Nat), t < N → n ∈ d.weights P t → n ≤ Rows.uptoBulk d * (2 * K)
  | .lit l, t, n, ht, hn => by
    cases l with
    | string bs =>
      simp only [DataW.weights, List.mem_singleton] at hn
      subst hn
      simp only [Rows.uptoBulk]
      exact Nat.le_trans (Nat.le_succ _) (Nat.le_mul_of_pos_right _ (by omega))
    | _ => simp [DataW.weights] at hn
  | .nil, t, n, ht, hn => by simp [DataW.weights] at hn
  | .ptr d, t, n, ht, hn => by
    simp only [DataW.weights] at hn
    split at hn
    · rename_i e hu
      exact up_le (w_one hK h1 d _ n (of_decide_eq_true ((hK t ht).2 _ hu)) hn) (by simp only [Rows.uptoBulk]; omega)
    · simp at hn
  | .slice es sp, t, n, ht, hn => by
    simp only [DataW.weights] at hn
    split at hn
    · rename_i e hu
      have he : e < N := of_decide_eq_true ((hK t ht).2 _ hu)
      rcases List.mem_cons.1 hn with rfl | hn
      · have a1 := len_all es
        have a2 := len_all sp
        exact Nat.mul_le_mul (by simp only [Rows.uptoBulk]; omega) (Nat.le_trans (hK e he).1 (by omega))
      · rcases List.mem_append.1 hn with hn | hn
        · exact up_le (w_all hK h1 es _ n he hn) (by simp only [Rows.uptoBulk]; omega)
        · exact up_le (w_all hK h1 sp _ n he hn) (by simp only [Rows.uptoBulk]; omega)
    · simp at hn
  | .agg ps, t, n, ht, hn => by
    simp only [DataW.weights] at hn
    split at hn
    · rename_i fs hu
      have hf := (hK t ht).2 _ hu
      refine up_le (w_each hK h1 ps _ n (fun x hx => ?_) hn) (by simp only [Rows.uptoBulk]; omega)
      obtain ⟨f, hf1, rfl⟩ := List.mem_map.1 hx
      exact of_decide_eq_true (List.all_eq_true.1 hf f hf1)
    · rename_i m e hu
      exact up_le (w_all hK h1 ps _ n (of_decide_eq_true ((hK t ht).2 _ hu)) hn) (by simp only [Rows.uptoBulk]; omega)
    · simp at hn
  | .iface _ _, t, n, ht, hn => by simp [DataW.weights] at hn
  | .map es, t, n, ht, hn => by
    simp only [DataW.weights] at hn
    split at hn
    · rename_i k e hu
      have hke := (hK t ht).2 _ hu
      simp only [comp, Bool.and_eq_true, decide_eq_true_eq] at hke
      rcases List.mem_cons.1 hn with rfl | hn
      · have a1 := len_entries es
        have b1 := (hK k hke.1).1
        have b2 := (hK e hke.2).1
        exact Nat.mul_le_mul (by simp only [Rows.uptoBulk]; omega) (by omega)
      · exact up_le (w_entries hK h1 es _ n hke.2 hn) (by simp only [Rows.uptoBulk]; omega)
    · simp at hn
  | .held _, t, n, ht, hn => by simp [DataW.weights] at hn
theorem w_all (hK : Tight P K N) (h1 : 1 ≤ K) : ∀ (l : List (DataW H)) (t : TypeId) (n : Nat), t < N → n ∈ DataW.weightsAll P t l → n ≤ Rows.uptoBulkAll l * (2 * K)
  | [], t, n, ht, hn => by simp [DataW.weightsAll] at hn
  | d :: l, t, n, ht, hn => by
    simp only [DataW.weightsAll] at hn
    rcases List.mem_append.1 hn with hn | hn
    · exact up_le (w_one hK h1 d _ n ht hn) (by simp only [Rows.uptoBulkAll]; omega)
    · exact up_le (w_all hK h1 l _ n ht hn) (by simp only [Rows.uptoBulkAll]; omega)
theorem w_each (hK : Tight P K N) (h1 : 1 ≤ K) : ∀ (l : List (DataW H)) (ts : List TypeId) (n : Nat), (∀ t ∈ ts, t < N) → n ∈ DataW.weightsEach P ts l → n ≤ Rows.uptoBulkAll l * (2 * K)
  | [], ts, n, ht, hn => by cases ts <;> simp [DataW.weightsEach] at hn
  | d :: l, [], n, ht, hn => by simp [DataW.weightsEach] at hn
  | d :: l, t :: ts, n, ht, hn => by
    simp only [DataW.weightsEach] at hn
    rcases List.mem_append.1 hn with hn | hn
    · exact up_le (w_one hK h1 d _ n (ht t (by simp)) hn) (by simp only [Rows.uptoBulkAll]; omega)
    · exact up_le (w_each hK h1 l _ n (fun x hx => ht x (by simp [hx])) hn) (by simp only [Rows.uptoBulkAll]; omega)
theorem w_entries (hK : Tight P K N) (h1 : 1 ≤ K) : ∀ (l : List (Lit × DataW H)) (t : TypeId) (n : Nat), t < N → n ∈ DataW.weightsEntries P t l → n ≤ Rows.uptoBulkEntries l * (2 * K)
  | [], t, n, ht, hn => by simp [DataW.weightsEntries] at hn
  | d :: l, t, n, ht, hn => by
    simp only [DataW.weightsEntries] at hn
    rcases List.mem_append.1 hn with hn | hn
    · exact up_le (w_entry hK h1 d _ n ht hn) (by simp only [Rows.uptoBulkEntries]; omega)
    · exact up_le (w_entries hK h1 l _ n ht hn) (by simp only [Rows.uptoBulkEntries]; omega)
theorem w_entry (hK : Tight P K N) (h1 : 1 ≤ K) : ∀ (x : Lit × DataW H) (t : TypeId) (n : Nat), t < N → n ∈ DataW.weightsEntry P t x → n ≤ Rows.uptoBulkEntry x * (2 * K)
  | (l, d), t, n, ht, hn => by
    cases l with
    | string bs =>
      simp only [DataW.weightsEntry] at hn
      rcases List.mem_cons.1 hn with rfl | hn
      · simp only [Rows.uptoBulkEntry]
        exact Nat.le_trans (by omega) (Nat.le_mul_of_pos_right _ (by omega))
      · exact up_le (w_one hK h1 d _ n ht hn) (by simp only [Rows.uptoBulkEntry]; omega)
    | _ =>
      simp only [DataW.weightsEntry] at hn
      exact up_le (w_one hK h1 d _ n ht hn) (by simp only [Rows.uptoBulkEntry]; omega)
end
end
theorem tight : Tight Try.prog 65536 Try.prog.types.size := by
  have h : ((List.range Try.prog.types.size).all fun t => decide (Try.prog.bytesOf t ≤ 65536) && (match Try.prog.underlying t with | some d => comp Try.prog.types.size d | none => true)) = true := by kernel_rfl
  intro t ht
  have q := List.all_eq_true.1 h t (List.mem_range.2 ht)
  simp only [Bool.and_eq_true, decide_eq_true_eq] at q
  refine ⟨q.1, fun d hd => ?_⟩
  have q2 := q.2
  rw [hd] at q2
  exact q2
/-- of small bulk: of small weight -/
theorem wt_small {H : Type} {t : TypeId} {d : DataW H} (h : Rows.uptoBulk d ≤ 1048576) (ht : t < Try.prog.types.size) : Wt Try.prog t d := by
  intro n hn
  have h1 := w_one tight (by omega) d t n ht hn
  have h2 : Rows.uptoBulk d * (2 * 65536) ≤ 1048576 * (2 * 65536) := Nat.mul_le_mul_right _ h
  have h3 : (1048576 * (2 * 65536) : Nat) ≤ reachBytes := by decide
  exact Nat.le_trans (Nat.le_trans h1 h2) h3
end Go.Proofs.Ytngnhegmealokaa
namespace Go.Proofs.Ytngnhegmealokaa
open Go.ChangeShapes Go.WideShapes Go.ChangeAt Go.RowKit Go.Deep
set_option linter.unusedVariables false
set_option maxRecDepth 100000
abbrev IsHardU := IsHard
def IsHardU.size (h : Har) : Nat := h.log.length
def IsHardU.fits (h : Har) : Prop := IsHard.fits h
abbrev RRow := RecR × Value × Value × Value × Value
def recC (r : RRow) : List Value := (rArr r.1 r.2.1 r.2.2.1 r.2.2.2.1 r.2.2.2.2).toList
theorem recC_len (r : RRow) : (recC r).length = 21 := rfl
def RecsW (w : World) (rows : List RRow) : Prop := ∀ r ∈ rows, RecL w r.1 r.2.1 r.2.2.1 r.2.2.2.1 r.2.2.2.2 ∧ r.1.wf
theorem RecsW.below {w w' : World} {rows : List RRow} {B : Nat} (h : RecsW w rows) (hb : Below B w w') (hB : w.heap.size ≤ B) : RecsW w' rows := fun r hr => ⟨(h r hr).1.below hb hB, (h r hr).2⟩
/-- v reads as the records l -/
def IsRecs (w : World) (v : Value) (l : List RecR) : Prop := ∃ rows : List RRow, SlR 21 recC w v rows ∧ RecsW w rows ∧ rows.map Prod.fst = l
def IsRecs.size (l : List RecR) : Nat := l.length
def IsRecs.fits (l : List RecR) : Prop := ∀ r ∈ l, IsRec.fits r
theorem IsRecs.below {w w' : World} {v : Value} {l : List RecR} {B : Nat} (h : IsRecs w v l) (hb : Below B w w') (hB : w.heap.size ≤ B) : IsRecs w' v l := by
  obtain ⟨rows, h1, h2, h3⟩ := h
  exact ⟨rows, h1.below hb hB, h2.below hb hB, h3⟩
section
variable {H : Type} {enc : TypeId × Value → H} {P : Program} {W : World}
/-- a slice of structs in a cell, whose elements have sizes of their own -/
theorem rows_cell3 {α : Type} {sz : Nat} {C : α → List Value} {Q F : α → Prop} {t e : TypeId} {n : Nat} {v : Value} {y : DataW H × List MemPlace} (ht : P.underlying t = some (.slice e)) (hc : P.cellsOf e = sz) (h0 : 0 < sz)
    (he : ∀ m cs y, DataW.trod enc P W 0 (fun _ => true) true m e cs = some y → ∃ x, cs = C x ∧ Q x ∧ (Wt P e y.1 → F x))
    (h : DataW.trod enc P W 0 (fun _ => true) true n t [v] = some y) :
    ∃ xs, SlR sz C W v xs ∧ (∀ x ∈ xs, Q x) ∧ xs.length ≤ Rows.uptoBulk y.1 ∧ (Wt P t y.1 → xs.length * P.bytesOf e ≤ reachBytes ∧ ∀ x ∈ xs, F x) := by
  rcases open_slice ht h with ⟨hcs, rfl⟩ | ⟨a, len, cap, m, n', D, Pl, hcs, _, hl, hm, hmm, rfl, hi⟩
  · simp only [List.cons.injEq, and_true] at hcs
    subst hcs
    exact ⟨[], SlR.nil _, by simp, Nat.zero_le _, fun _ => ⟨by simp, by simp⟩⟩
  · simp only [List.cons.injEq, and_true] at hcs
    subst hcs
    have hml : len ≤ m := by rw [hmm]; simp only [if_true]; exact hl
    obtain ⟨xs, hxl, hxs⟩ := choose_list (p := fun i x => (Q x ∧ (Wt P e (D i) → F x)) ∧ ∀ j u, (C x)[j]? = some u → W.cell? ((a.add (i * sz)).add j) = some u) len fun i hil => by
      obtain ⟨cs', h1, h2⟩ := hi i (by omega)
      rw [hc] at h1
      obtain ⟨x, rfl, hq, hf⟩ := he _ _ _ h2
      obtain ⟨_, hlen, hat⟩ := World.cells?_some h1
      refine ⟨x, ⟨hq, hf⟩, fun j u hu => ?_⟩
      have hj : j < sz := by
        rcases Nat.lt_or_ge j (C x).length with h | h
        · omega
        · rw [List.getElem?_eq_none h] at hu; cases hu
      rw [hat j hj, hu]
    refine ⟨xs, ?_, fun x hx => ?_, ?_, fun hw => ⟨?_, fun x hx => ?_⟩⟩
    · obtain ⟨b, off, sp⟩ := a
      refine ⟨_, cap, by rw [hxl], by omega, hm, .inr ⟨b, off, sp, rfl, ?_⟩⟩
      rcases Nat.eq_zero_or_pos len with hl0 | hl0
      · exact .inl (List.eq_nil_of_length_eq_zero (by omega))
      · refine .inr ?_
        obtain ⟨cs', h1, _⟩ := hi 0 (by omega)
        rw [hc] at h1
        obtain ⟨_, hlen, hat⟩ := World.cells?_some h1
        have h2 := hat 0 h0
        rw [List.getElem?_eq_getElem (by omega)] at h2
        have hsp : sp = none := by
          have := World.cell?_spot h2
          simpa [Addr.add] using this
        subst hsp
        rw [add_plain, add_plain] at h2
        refine ⟨rfl, World.block_lt_of_cell? _ _ h2, fun i x hx j u hu => ?_⟩
        have h3 := (hxs i x hx).2 j u hu
        rw [add_plain, add_plain, Nat.add_assoc] at h3
        exact h3
    · obtain ⟨i, hi', rfl⟩ := List.mem_iff_getElem.1 hx
      exact (hxs i _ (List.getElem?_eq_getElem hi')).1.1
    · have h1 := (bulk_slice (H := H) (es := (List.range len).map D) (sp := (List.range (m - len)).map fun j => D (len + j))).1
      simp only [List.length_map, List.length_range] at h1
      rw [hxl]; exact h1
    · have h1 := (wt_slice ht hw).1
      simp only [List.length_map, List.length_range] at h1
      rw [hxl]
      exact Nat.le_trans (Nat.mul_le_mul_right _ (by omega)) h1
    · obtain ⟨i, hi', rfl⟩ := List.mem_iff_getElem.1 hx
      exact (hxs i _ (List.getElem?_eq_getElem hi')).1.2 ((wt_slice ht hw).2 _ (List.mem_map.2 ⟨i, by simp; omega, rfl⟩))
theorem slice_cellsU {P : Program} {r : Reach} {t e : TypeId} {v : Value} {b0 : Nat} (ht : P.underlying t = some (.slice e)) (hok : Value.okWide P W r b0 t v) : v.cells.toList = [v] := by
  obtain ⟨a, l, c, rfl⟩ := okWide_slice ht hok
  rfl
end
end Go.Proofs.Ytngnhegmealokaa
namespace Go.Proofs.Ytngnhegmealokaa
open Go.ChangeShapes Go.WideShapes Go.ChangeAt Go.RowKit Go.Deep
set_option linter.unusedVariables false
set_option maxRecDepth 100000
/-- an append to what the call owns: what grew, and elements one cell each -/
theorem appRL {α : Type} {sz : Nat} {C : α → List Value} {P : Program} (hC : ∀ x, (C x).length = sz) {t e : TypeId} (ht : P.underlying t = some (.slice e)) {z : Value} {bytes : Nat} (hzs : z.cells.size = sz) (hsz : 0 < sz) (hinfo : (P.info? e).map (fun i => (i.zero, i.size, i.bytes)) = some (some z, sz, bytes))
    {w : World} {ops : Array Oper} {rest : List Oper} {o : Oper} {a : Act} {Q : Exit → Act → World → Prop} (hgd : o.guard = none) (s x : Operand)
    (ho : o.op = .call { callee := .builtin .append, args := #[s, x], argTypes := #[t, t] }) (base : Nat)
    (v : Value) (xs : List α) (hs : a.eval s = v) (hown : OwnR sz C e w base v xs) (u : Value) (zs : List α) (hx : a.eval x = u) (hsl : SlR sz C w u zs) (h1c : ∀ x ∈ zs, ∀ u ∈ C x, u.oneCell' = true)
    (h63 : xs.length + zs.length ≤ maxLen) (hb : (xs.length + zs.length) * bytes ≤ 140737488355328) (hbase : base ≤ w.heap.size)
    (h : ∀ v' w', OwnR sz C e w' base v' (xs ++ zs) → w.grownBy w' v.ownBlock → wpList P ops Q rest (a.put o.dst v') w') : wpList P ops Q (o :: rest) a w := by
  obtain ⟨i0, hi, hz0, hz1, hz2⟩ := info_parts hinfo
  refine wp_app hgd s x t ho base e i0 z sz bytes ht hi hz0 hz1 hz2 hzs hsz v xs.length _ hs hown u zs.length (zs.flatMap C) hx (hsl.src hC) (flat_len hC zs) (fun u hu => ?_) h63 hb hbase ?_
  · obtain ⟨y, hy1, hy⟩ := List.mem_flatMap.1 hu
    exact h1c y hy1 u hy
  · intro v' w' hown' hgrow
    refine h v' w' ?_ hgrow
    unfold OwnR
    rw [List.flatMap_append, List.length_append]
    exact hown'
namespace Rc
open Hd Nv
def begR (b : Int) : RecR := ⟨1, 0, b, 0, 0, zEntV, zShoV⟩
def votR (t v : Int) : RecR := ⟨2, v, 0, t, 0, zEntV, zShoV⟩
def addR (i : Int) (x : Ent) : RecR := ⟨3, 0, 0, 0, i, x, zShoV⟩
def addsL (i0 : Int) : Nat → List Ent → List RecR
  | _, [] => []
  | k, x :: l => addR (i0 + k + 1) x :: addsL i0 (k + 1) l
theorem addsL_snoc (i0 : Int) : ∀ (l : List Ent) (k : Nat) (x : Ent), addsL i0 k (l ++ [x]) = addsL i0 k l ++ [addR (i0 + ((k + l.length : Nat) : Int) + 1) x]
  | [], k, x => by simp [addsL]
  | y :: l, k, x => by
    simp only [List.cons_append, addsL, addsL_snoc i0 l (k + 1) x, List.length_cons]
    rw [show k + 1 + l.length = k + (l.length + 1) by omega]
theorem addsL_len (i0 : Int) : ∀ (l : List Ent) (k : Nat), (addsL i0 k l).length = l.length
  | [], _ => rfl
  | _ :: l, k => by simp [addsL, addsL_len i0 l (k + 1)]
theorem addsL_fits (i0 : Int) : ∀ (l : List Ent) (k : Nat), (∀ x ∈ l, IsCmd.fits x.cmd) → ∀ r ∈ addsL i0 k l, IsRec.fits r
  | [], _, _, r, hr => by simp [addsL] at hr
  | x :: l, k, h, r, hr => by
    simp only [addsL, List.mem_cons] at hr
    rcases hr with rfl | hr
    · exact ⟨h x (by simp), ⟨by simp [addR, zShoV], by simp [addR, zShoV], by simp [addR, zShoV]⟩⟩
    · exact addsL_fits i0 l (k + 1) (fun y hy => h y (by simp [hy])) r hr
/-- what goes ahead of the entries -/
def headL (h : Har) : List RecR := (if h.boot = 0 then [] else [begR h.boot]) ++ (if h.term = 0 then [] else [votR h.term h.vote])
def baseL (h : Har) : List RecR := headL h ++ addsL h.shot.index 0 h.log
theorem headL_len (h : Har) : (headL h).length ≤ 2 := by
  unfold headL
  split <;> split <;> simp
theorem baseL_fits {h : Har} (f : ∀ x ∈ h.log, IsCmd.fits x.cmd) : ∀ r ∈ baseL h, IsRec.fits r := by
  intro r hr
  rcases List.mem_append.1 hr with hr | hr
  · unfold headL at hr
    rcases List.mem_append.1 hr with hr | hr
    · split at hr
      · simp at hr
      · simp only [List.mem_cons, List.not_mem_nil, or_false] at hr
        subst hr
        exact ⟨(by decide : (0 : Nat) * 8 ≤ 140737488351232), ⟨by simp [begR, zShoV], by simp [begR, zShoV], by simp [begR, zShoV]⟩⟩
    · split at hr
      · simp at hr
      · simp only [List.mem_cons, List.not_mem_nil, or_false] at hr
        subst hr
        exact ⟨(by decide : (0 : Nat) * 8 ≤ 140737488351232), ⟨by simp [votR, zShoV], by simp [votR, zShoV], by simp [votR, zShoV]⟩⟩
  · exact addsL_fits _ _ _ f r hr
/-- a record whose lists are the call's own -/
def RecO (w : World) (B : Nat) (r : RRow) : Prop := (OwnK .i64 3 w B r.2.1 r.1.ent.cmd.nodes ∧ OwnK .i64 3 w B r.2.2.1 r.1.shot.nodes ∧ OwnR 5 heldC 72 w B r.2.2.2.1 r.1.shot.led.held ∧ OwnR 6 lastC 76 w B r.2.2.2.2 r.1.shot.led.last) ∧ (∀ n ∈ r.1.ent.cmd.nodes, (Lit.int .i64 n).wf = true) ∧ (∀ n ∈ r.1.shot.nodes, (Lit.int .i64 n).wf = true) ∧ r.1.wf
theorem RecO.map {w w' : World} {B D : Nat} {r : RRow} (h : RecO w B r) (f : ∀ e sz v n xs, e ≠ 35 → w.ownsRow B e sz v n xs → w'.ownsRow D e sz v n xs) : RecO w' D r := ⟨⟨f _ _ _ _ _ (by decide) h.1.1, f _ _ _ _ _ (by decide) h.1.2.1, f _ _ _ _ _ (by decide) h.1.2.2.1, f _ _ _ _ _ (by decide) h.1.2.2.2⟩, h.2⟩
theorem RecO.recL {w : World} {B : Nat} {r : RRow} (h : RecO w B r) : RecL w r.1 r.2.1 r.2.2.1 r.2.2.2.1 r.2.2.2.2 := ⟨h.1.1.sl h.2.1, h.1.2.1.sl h.2.2.1, h.1.2.2.1.sl heldC_len, h.1.2.2.2.sl lastC_len⟩
theorem RecO.recs {w : World} {B : Nat} {rows : List RRow} (h : ∀ r ∈ rows, RecO w B r) : RecsW w rows := fun r hr => ⟨(h r hr).recL, (h r hr).2.2.2⟩
theorem info_rec : (Try.prog.info? 35).map (fun i => (i.zero, i.size, i.bytes)) = some (some (.agg zR), 21, 232) := by kernel_rfl
theorem rec_one (x : RecR) (a : Option Addr) (i j : Nat) (b c d : Option Addr) (k m p q y z : Nat) : ∀ r ∈ [((x, .slice a i j, .slice b k m, .slice c p q, .slice d y z) : RRow)], ∀ u ∈ recC r, u.oneCell' = true := by
  intro r hr u hu
  simp only [List.mem_cons, List.not_mem_nil, or_false] at hr
  subst hr
  have := Array.all_eq_true_iff_forall_mem.1 (rArr_one x a b c d i j k m p q y z) u (by simpa [recC] using hu)
  exact this
/-- what Base answers: the records, and an error -/
def GivesBase (h : Har) (w : World) (e : Ending) (w' : World) : Prop := ∃ v z l, e = .returned (.tuple #[v, .int .i64 z]) ∧ ((z = 0 ∧ hardOk h ∧ l = baseL h) ∨ (z = 130 ∧ ¬ hardOk h ∧ l = [])) ∧ IsRecs w' v l ∧ Below w.heap.size w w'
theorem IsRecs.nil (w : World) : IsRecs w (.slice none 0 0) [] := ⟨[], SlR.nil _, fun r hr => by simp at hr, rfl⟩
/-- rows so far: the records l -/
def Rows21 (w : World) (B : Nat) (v : Value) (l : List RecR) : Prop := ∃ rows : List RRow, OwnR 21 recC 35 w B v rows ∧ (∀ r ∈ rows, RecO w B r) ∧ rows.map Prod.fst = l
theorem Rows21.recs {w : World} {B : Nat} {v : Value} {l : List RecR} (h : Rows21 w B v l) : IsRecs w v l := by
  obtain ⟨rows, h1, h2, h3⟩ := h
  exact ⟨rows, h1.sl recC_len, RecO.recs h2, h3⟩
theorem Rows21.nil (w : World) (B : Nat) : Rows21 w B (.slice none 0 0) [] := ⟨[], OwnR.nil _ _ _, fun r hr => by simp at hr, rfl⟩
theorem Rows21.below {w w' : World} {B : Nat} {v : Value} {l : List RecR} (h : Rows21 w B v l) (hb : Below w.heap.size w w') : Rows21 w' B v l := by
  obtain ⟨rows, h1, h2, h3⟩ := h
  exact ⟨rows, owns_below hb h1, fun r hr => (h2 r hr).map fun e sz v n xs _ q => owns_below hb q, h3⟩
theorem own_apart2 {w : World} {B B2 sz sz2 n n2 : Nat} {e e2 : TypeId} {v v2 : Value} {xs ys : List Value} (h : w.ownsRow B e sz v n xs) (h2 : w.ownsRow B2 e2 sz2 v2 n2 ys) (hne : e ≠ e2) : ∀ g, v.ownBlock = some g → some g ≠ v2.ownBlock := by
  intro g hg
  rcases h.2 with ⟨rfl, -⟩ | ⟨q, cap, cur, rfl, -, hh, -⟩
  · cases hg
  · obtain rfl : q = g := by simpa [Value.ownBlock] using hg
    rcases h2.2 with ⟨rfl, -⟩ | ⟨q2, cap2, cur2, rfl, -, hh2, -⟩
    · simp [Value.ownBlock]
    · intro q3
      obtain rfl : q = q2 := by simpa [Value.ownBlock] using q3
      rw [hh] at hh2
      simp only [Option.some.injEq, Obj.cells.injEq] at hh2
      exact hne hh2.2.1
theorem own_far2 {w w2 : World} {B sz n : Nat} {e : TypeId} {v : Value} {xs : List Value} {row : Option Nat} (h : w.ownsRow B e sz v n xs) (hg : w.grownBy w2 row) (hne : ∀ g, v.ownBlock = some g → some g ≠ row) : w2.ownsRow B e sz v n xs := by
  refine ⟨h.1, ?_⟩
  rcases h.2 with q | ⟨q, cap, cur, rfl, h3, h4, h5⟩
  · exact .inl q
  · exact .inr ⟨q, cap, cur, rfl, h3, by rw [hg.block q (Array.getElem?_eq_some_iff.1 h4).1 (hne q rfl)]; exact h4, h5⟩
/-- with one record more -/
theorem rows_step {w w2 : World} {B : Nat} {v v2 : Value} {rows : List RRow} {x : RRow} (own : OwnR 21 recC 35 w B v rows) (h2 : ∀ r ∈ rows, RecO w B r) (hx : RecO w B x) (hg : w.grownBy w2 v.ownBlock) (own2 : OwnR 21 recC 35 w2 B v2 (rows ++ [x])) : Rows21 w2 B v2 (rows.map Prod.fst ++ [x.1]) := by
  have f : ∀ r, RecO w B r → RecO w2 B r := fun r q => q.map fun e sz u n xs he h => own_far2 h hg (own_apart2 h own he)
  refine ⟨rows ++ [x], own2, fun r hr => ?_, by simp⟩
  rcases List.mem_append.1 hr with hr | hr
  · exact f r (h2 r hr)
  · simp only [List.mem_cons, List.not_mem_nil, or_false] at hr
    subst hr
    exact f _ hx
theorem rows_lt {w : World} {B : Nat} {v : Value} {rows : List RRow} (own : OwnR 21 recC 35 w B v rows) : ∀ q, v.ownBlock = some q → B ≤ q ∧ q < w.heap.size := World.ownsRow.lt own
end Rc
end Go.Proofs.Ytngnhegmealokaa
namespace Go.Proofs.Ytngnhegmealokaa
open Go.ChangeShapes Go.WideShapes Go.ChangeAt Go.RowKit Go.Deep
set_option linter.unusedVariables false
set_option maxRecDepth 100000
namespace Rc
open Hd Nv
theorem cmd_range {w : World} {g : Nat} {r : RecR} {vc vn vh vl : Value} (h : w.heap[g]? = some (.cells (rArr r vc vn vh vl) 35 (0, 0))) : w.rangeAt g 6 (Cm.cArr r.ent.cmd vc).toList := fun j v hv => by
  have hj : j < 8 := by have := (List.getElem?_eq_some_iff.1 hv).1; simpa using this
  rw [cell_of_row w g (6 + j) _ _ _ h, ← hv]
  match j, hj with
  | 0, _ => rfl
  | 1, _ => rfl
  | 2, _ => rfl
  | 3, _ => rfl
  | 4, _ => rfl
  | 5, _ => rfl
  | 6, _ => rfl
  | 7, _ => rfl
theorem sho_range {w : World} {g : Nat} {r : RecR} {vc vn vh vl : Value} (h : w.heap[g]? = some (.cells (rArr r vc vn vh vl) 35 (0, 0))) : w.rangeAt g 14 (sArr r.shot vn vh vl).toList := fun j v hv => by
  have hj : j < 7 := by have := (List.getElem?_eq_some_iff.1 hv).1; simpa using this
  rw [cell_of_row w g (14 + j) _ _ _ h, ← hv]
  match j, hj with
  | 0, _ => rfl
  | 1, _ => rfl
  | 2, _ => rfl
  | 3, _ => rfl
  | 4, _ => rfl
  | 5, _ => rfl
  | 6, _ => rfl
theorem cmd_put {w : World} {g : Nat} {r : RecR} {vc vn vh vl : Value} (h : w.heap[g]? = some (.cells (rArr r vc vn vh vl) 35 (0, 0))) (u : Value) : (w.setCells g 6 (Cm.cArr r.ent.cmd u).toList).heap[g]? = some (.cells (rArr r u vn vh vl) 35 (0, 0)) := by
  rw [heap_setCells g _ _ h]
  simp [setsA]
theorem sho_put {w : World} {g : Nat} {r : RecR} {vc vn vh vl : Value} (h : w.heap[g]? = some (.cells (rArr r vc vn vh vl) 35 (0, 0))) (un uh ul : Value) : (w.setCells g 14 (sArr r.shot un uh ul).toList).heap[g]? = some (.cells (rArr r vc un uh ul) 35 (0, 0)) := by
  rw [heap_setCells g _ _ h]
  simp [setsA]
theorem cArr_one (c : Cmd) (a : Option Addr) (i j : Nat) : (Cm.cArr c (.slice a i j)).all (·.oneCell') = true := by simp [Value.oneCell']
def GivesRecO (r : RecR) (w : World) (e : Ending) (w' : World) : Prop := ∃ a1 c1 a2 c2 a3 c3 a4 c4, e = .returned (.agg (rArr r (.slice a1 r.ent.cmd.nodes.length c1) (.slice a2 r.shot.nodes.length c2) (.slice a3 r.shot.led.held.length c3) (.slice a4 r.shot.led.last.length c4))) ∧ RecO w' w.heap.size (r, .slice a1 r.ent.cmd.nodes.length c1, .slice a2 r.shot.nodes.length c2, .slice a3 r.shot.led.held.length c3, .slice a4 r.shot.led.last.length c4) ∧ Below w.heap.size w w'
end Rc
end Go.Proofs.Ytngnhegmealokaa
