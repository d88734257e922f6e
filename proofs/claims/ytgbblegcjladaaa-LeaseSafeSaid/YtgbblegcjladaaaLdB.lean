/- Slices of structs: what they say, and how they stand while worlds grow. No condition. A ledger read as an argument. No condition. Small helpers about rows of a ledger. No condition. Cells of a command, of a ledger in their boxes. No condition. -/
import Derived.Test.YtgbblegcjladaaaBse
import Derived.Laws.Rows
import Derived.Laws.NewBlocks
import Derived.Deep.QuietTactic
import Derived.BigQuiet
namespace Go.Proofs.Ytgbblegcjladaaa
open Go.ChangeShapes Go.WideShapes Go.ChangeAt Go.RowKit Go.Deep
set_option linter.unusedVariables false
set_option maxRecDepth 100000

section
variable {α : Type} {sz : Nat} {C : α → List Value}

theorem flat_get (hC : ∀ x, (C x).length = sz) : ∀ (xs : List α) (k : Nat) (u : Value), (xs.flatMap C)[k]? = some u → ∃ i j x, k = i * sz + j ∧ xs[i]? = some x ∧ (C x)[j]? = some u
  | [], k, u, h => by simp at h
  | x :: xs, k, u, h => by
    rw [List.flatMap_cons] at h
    rcases Nat.lt_or_ge k (C x).length with hk | hk
    · rw [List.getElem?_append_left hk] at h
      exact ⟨0, k, x, by omega, rfl, h⟩
    · rw [List.getElem?_append_right hk, hC] at h
      obtain ⟨i, j, y, h1, h2, h3⟩ := flat_get hC xs _ u h
      refine ⟨i + 1, j, y, ?_, h2, h3⟩
      rw [hC] at hk
      rw [Nat.add_mul, Nat.one_mul]; omega
theorem flat_at (hC : ∀ x, (C x).length = sz) : ∀ (xs : List α) (i j : Nat) (x : α) (u : Value), xs[i]? = some x → (C x)[j]? = some u → (xs.flatMap C)[i * sz + j]? = some u
  | [], i, j, x, u, h, _ => by simp at h
  | y :: xs, 0, j, x, u, h, h2 => by
    simp only [List.getElem?_cons_zero, Option.some.injEq] at h
    subst h
    rw [List.flatMap_cons, Nat.zero_mul, Nat.zero_add, List.getElem?_append_left]
    · exact h2
    · rcases Nat.lt_or_ge j (C y).length with h | h
      · exact h
      · rw [List.getElem?_eq_none h] at h2; cases h2
  | y :: xs, i + 1, j, x, u, h, h2 => by
    simp only [List.getElem?_cons_succ] at h
    rw [List.flatMap_cons, List.getElem?_append_right (by rw [hC, Nat.add_mul, Nat.one_mul]; omega), hC, show (i + 1) * sz + j - sz = i * sz + j by rw [Nat.add_mul, Nat.one_mul]; omega]
    exact flat_at hC xs i j x u h h2
theorem flat_len (hC : ∀ x, (C x).length = sz) (xs : List α) : (xs.flatMap C).length = xs.length * sz := by
  induction xs with
  | nil => simp
  | cons x xs ih => rw [List.flatMap_cons, List.length_append, hC, ih, List.length_cons, Nat.add_mul, Nat.one_mul]; omega

/-- v is a slice of the elements xs, each a row of sz cells -/
def SlR (sz : Nat) (C : α → List Value) (w : World) (v : Value) (xs : List α) : Prop :=
  ∃ a cap, v = .slice a xs.length cap ∧ xs.length ≤ cap ∧ cap ≤ maxLen ∧
    ((a = none ∧ cap = 0 ∧ xs = []) ∨ ∃ b off sp, a = some ⟨b, off, sp⟩ ∧ (xs = [] ∨ (sp = none ∧ b < w.heap.size ∧ ∀ i x, xs[i]? = some x → ∀ j u, (C x)[j]? = some u → w.cell? ⟨b, off + (i * sz + j), none⟩ = some u)))
theorem SlR.below {w w' : World} {v : Value} {xs : List α} {B : Nat} (h : SlR sz C w v xs) (hb : Below B w w') (hB : w.heap.size ≤ B) : SlR sz C w' v xs := by
  obtain ⟨a, cap, e, h1, h2, h4⟩ := h
  refine ⟨a, cap, e, h1, h2, ?_⟩
  rcases h4 with h4 | ⟨b, off, sp, ha, h5⟩
  · exact .inl h4
  · refine .inr ⟨b, off, sp, ha, ?_⟩
    rcases h5 with h5 | ⟨hs, hlt, hc⟩
    · exact .inl h5
    · exact .inr ⟨hs, Nat.lt_of_lt_of_le hlt hb.size, fun i x hx j u hu => (hb.cell (p := ⟨b, off + (i * sz + j), none⟩) (by simp; omega)).trans (hc i x hx j u hu)⟩
theorem SlR.nil (w : World) : SlR sz C w (.slice none 0 0) [] := ⟨none, 0, rfl, Nat.le_refl _, Nat.zero_le _, .inl ⟨rfl, rfl, rfl⟩⟩
theorem SlR.len {w : World} {v : Value} {xs : List α} (h : SlR sz C w v xs) : xs.length ≤ maxLen := by
  obtain ⟨a, cap, e, h1, h2, _⟩ := h
  exact Nat.le_trans h1 h2
/-- opened for a loop over it: empty, or its cells -/
theorem SlR.cases {w : World} {v : Value} {xs : List α} (h : SlR sz C w v xs) :
    (∃ a cap, v = .slice a 0 cap ∧ xs = []) ∨ ∃ b off cap, v = .slice (some ⟨b, off, none⟩) xs.length cap ∧ 0 < xs.length ∧ xs.length ≤ cap ∧ cap ≤ 9223372036854775807 ∧ b < w.heap.size ∧
      ∀ i x, xs[i]? = some x → ∀ j u, (C x)[j]? = some u → w.cell? ⟨b, off + (i * sz + j), none⟩ = some u := by
  obtain ⟨a, cap, rfl, h1, h2, h4⟩ := h
  unfold maxLen at h2
  rcases h4 with ⟨rfl, rfl, rfl⟩ | ⟨b, off, sp, rfl, rfl | ⟨rfl, hlt, hc⟩⟩
  · exact .inl ⟨_, _, rfl, rfl⟩
  · exact .inl ⟨_, _, rfl, rfl⟩
  · rcases Nat.eq_zero_or_pos xs.length with h0 | h0
    · have : xs = [] := List.eq_nil_of_length_eq_zero h0
      subst this
      exact .inl ⟨_, _, rfl, rfl⟩
    · exact .inr ⟨b, off, cap, rfl, h0, h1, h2, hlt, hc⟩
theorem SlR.src (hC : ∀ x, (C x).length = sz) {w : World} {v : Value} {xs : List α} (h : SlR sz C w v xs) : Src w v xs.length (xs.flatMap C) := by
  obtain ⟨a, cap, rfl, h1, h2, h4⟩ := h
  rcases h4 with ⟨rfl, rfl, rfl⟩ | ⟨b, off, sp, rfl, h5⟩
  · exact .inl ⟨rfl, rfl, rfl⟩
  · refine .inr ⟨_, _, rfl, ?_⟩
    intro k u hk
    rcases h5 with rfl | ⟨rfl, hlt, hc⟩
    · simp at hk
    · obtain ⟨i, j, x, rfl, hx, hu⟩ := flat_get hC xs k u hk
      rw [add_plain]
      exact hc i x hx j u hu

/-- the call's own -/
def OwnR (sz : Nat) (C : α → List Value) (e : TypeId) (w : World) (B : Nat) (v : Value) (xs : List α) : Prop := w.ownsRow B e sz v xs.length (xs.flatMap C)
theorem OwnR.nil (e : TypeId) (w : World) (B : Nat) : OwnR sz C e w B (.slice none 0 0) ([] : List α) := World.ownsRow_nil _ _ _ _
theorem OwnR.sl (hC : ∀ x, (C x).length = sz) {e : TypeId} {w : World} {B : Nat} {v : Value} {xs : List α} (h : OwnR sz C e w B v xs) : SlR sz C w v xs := by
  rcases h.2 with ⟨rfl, h0⟩ | ⟨g, cap, cur, rfl, hg, hh, hle, hcm, hsz, htk⟩
  · have : xs = [] := List.eq_nil_of_length_eq_zero h0
    subst this
    exact SlR.nil _
  · refine ⟨_, cap, rfl, hle, hcm, .inr ⟨g, 0, none, rfl, .inr ⟨rfl, (Array.getElem?_eq_some_iff.1 hh).1, ?_⟩⟩⟩
    intro i x hx j u hu
    have hc := World.ownsRow.cells h (g := g) rfl (i * sz + j) u (flat_at hC xs i j x u hx hu)
    rw [add_plain] at hc
    exact hc
theorem OwnR.below {e : TypeId} {w w' : World} {B D : Nat} {v : Value} {xs : List α} (h : OwnR sz C e w B v xs) (hb : Below D w w') (hD : w.heap.size ≤ D) : OwnR sz C e w' B v xs := by
  refine ⟨h.1, ?_⟩
  rcases h.2 with h2 | ⟨g, cap, cur, h2, h3, h4, h5⟩
  · exact .inl h2
  · have hlt := (Array.getElem?_eq_some_iff.1 h4).1
    exact .inr ⟨g, cap, cur, h2, h3, by rw [hb.block g (by omega)]; exact h4, h5⟩
theorem OwnR.alloc {e : TypeId} {w : World} {B : Nat} {v : Value} {xs : List α} (h : OwnR sz C e w B v xs) (o : Obj) : OwnR sz C e (w.alloc o) B v xs := World.ownsRow.alloc h o
theorem appR {P : Program} (hC : ∀ x, (C x).length = sz) (h1c : ∀ x, ∀ u ∈ C x, u.oneCell' = true) {t e : TypeId} (ht : P.underlying t = some (.slice e)) {z : Value} {bytes : Nat} (hzs : z.cells.size = sz) (hsz : 0 < sz) (hinfo : (P.info? e).map (fun i => (i.zero, i.size, i.bytes)) = some (some z, sz, bytes))
    {w : World} {ops : Array Oper} {rest : List Oper} {o : Oper} {a : Act} {Q : Exit → Act → World → Prop} (hgd : o.guard = none) (s x : Operand)
    (ho : o.op = .call { callee := .builtin .append, args := #[s, x], argTypes := #[t, t] }) (base : Nat)
    (v : Value) (xs : List α) (hs : a.eval s = v) (hown : OwnR sz C e w base v xs) (u : Value) (zs : List α) (hx : a.eval x = u) (hsl : SlR sz C w u zs)
    (h63 : xs.length + zs.length ≤ maxLen) (hb : (xs.length + zs.length) * bytes ≤ 140737488355328) (hbase : base ≤ w.heap.size)
    (h : ∀ v' w', OwnR sz C e w' base v' (xs ++ zs) → Below base w w' → wpList P ops Q rest (a.put o.dst v') w') : wpList P ops Q (o :: rest) a w := by
  obtain ⟨i0, hi, hz0, hz1, hz2⟩ := info_parts hinfo
  refine wp_app hgd s x t ho base e i0 z sz bytes ht hi hz0 hz1 hz2 hzs hsz v xs.length _ hs hown u zs.length (zs.flatMap C) hx (hsl.src hC) (flat_len hC zs) (fun u hu => ?_) h63 hb hbase ?_
  · obtain ⟨y, _, hy⟩ := List.mem_flatMap.1 hu
    exact h1c y u hy
  · intro v' w' hown' hgrow
    refine h v' w' ?_ (Below.own (Below.refl _ _) hbase hown hgrow)
    unfold OwnR
    rw [List.flatMap_append, List.length_append]
    exact hown'
/-- a literal of one element -/
theorem SlR.one (hC : ∀ x, (C x).length = sz) {e : TypeId} {fr : Nat × Nat} (w : World) (g : Nat) (hg : w.heap.size = g) (cs : Array Value) (x : α) (h : cs = (C x).toArray) : SlR sz C (w.alloc (.cells cs e fr)) (.slice (some ⟨g, 0, none⟩) 1 1) [x] := by
  subst h; subst hg
  refine ⟨_, 1, rfl, Nat.le_refl _, by decide, .inr ⟨w.heap.size, 0, none, rfl, .inr ⟨rfl, by simp, fun i y hy j u hu => ?_⟩⟩⟩
  match i, hy with
  | 0, hy =>
    simp only [List.getElem?_cons_zero, Option.some.injEq] at hy
    subst hy
    simp only [World.cell?, heap_alloc_new]
    simpa using hu
  | i + 1, hy => simp at hy
end

section
variable {H : Type} {enc : TypeId × Value → H} {P : Program} {W : World}
theorem choose_list {α : Type} {p : Nat → α → Prop} : ∀ n, (∀ i, i < n → ∃ x, p i x) → ∃ xs : List α, xs.length = n ∧ ∀ i x, xs[i]? = some x → p i x
  | 0, _ => ⟨[], rfl, by simp⟩
  | n + 1, h => by
    obtain ⟨xs, hl, hx⟩ := choose_list n fun i hi => h i (by omega)
    obtain ⟨x, hp⟩ := h n (by omega)
    refine ⟨xs ++ [x], by simp [hl], fun i y hy => ?_⟩
    rcases Nat.lt_or_ge i xs.length with hi | hi
    · rw [List.getElem?_append_left hi] at hy; exact hx i y hy
    · rw [List.getElem?_append_right hi] at hy
      have : i = n := by
        rcases Nat.lt_or_ge (i - xs.length) 1 with h1 | h1
        · omega
        · rw [List.getElem?_eq_none (by simpa using h1)] at hy; cases hy
      subst this
      rw [hl, Nat.sub_self] at hy
      simp at hy
      subst hy
      exact hp
/-- a slice of structs in a cell -/
theorem rows_cell {α : Type} {sz : Nat} {C : α → List Value} {Q : α → Prop} {t e : TypeId} {n : Nat} {v : Value} {y : DataW H × List MemPlace} (ht : P.underlying t = some (.slice e)) (hc : P.cellsOf e = sz) (h0 : 0 < sz)
    (he : ∀ m cs y, DataW.trod enc P W 0 (fun _ => true) true m e cs = some y → ∃ x, cs = C x ∧ Q x)
    (h : DataW.trod enc P W 0 (fun _ => true) true n t [v] = some y) :
    ∃ xs, SlR sz C W v xs ∧ (∀ x ∈ xs, Q x) ∧ xs.length ≤ Rows.uptoBulk y.1 ∧ (Wt P t y.1 → xs.length * P.bytesOf e ≤ reachBytes) := by
  rcases open_slice ht h with ⟨hcs, rfl⟩ | ⟨a, len, cap, m, n', D, Pl, hcs, _, hl, hm, hmm, rfl, hi⟩
  · simp only [List.cons.injEq, and_true] at hcs
    subst hcs
    exact ⟨[], SlR.nil _, by simp, Nat.zero_le _, fun _ => by simp⟩
  · simp only [List.cons.injEq, and_true] at hcs
    subst hcs
    have hml : len ≤ m := by rw [hmm]; simp only [if_true]; exact hl
    obtain ⟨xs, hxl, hxs⟩ := choose_list (p := fun i x => Q x ∧ ∀ j u, (C x)[j]? = some u → W.cell? ((a.add (i * sz)).add j) = some u) len fun i hil => by
      obtain ⟨cs', h1, h2⟩ := hi i (by omega)
      rw [hc] at h1
      obtain ⟨x, rfl, hq⟩ := he _ _ _ h2
      obtain ⟨_, hlen, hat⟩ := World.cells?_some h1
      refine ⟨x, hq, fun j u hu => ?_⟩
      have hj : j < sz := by
        rcases Nat.lt_or_ge j (C x).length with h | h
        · omega
        · rw [List.getElem?_eq_none h] at hu; cases hu
      rw [hat j hj, hu]
    refine ⟨xs, ?_, fun x hx => ?_, ?_, fun hw => ?_⟩
    · obtain ⟨b, off, sp⟩ := a
      refine ⟨_, cap, by rw [hxl], by omega, hm, .inr ⟨b, off, sp, rfl, ?_⟩⟩
      rcases Nat.eq_zero_or_pos len with hl0 | hl0
      · exact .inl (List.eq_nil_of_length_eq_zero (by omega))
      · refine .inr ?_
        obtain ⟨cs', h1, _⟩ := hi 0 (by omega)
        rw [hc] at h1
        obtain ⟨_, hlen, hat⟩ := World.cells?_some h1
        have h2 := hat 0 h0
        rw [List.getElem?_eq_getElem (by omega)] at h2
        have hsp : sp = none := by
          have := World.cell?_spot h2
          simpa [Addr.add] using this
        subst hsp
        rw [add_plain, add_plain] at h2
        refine ⟨rfl, World.block_lt_of_cell? _ _ h2, fun i x hx j u hu => ?_⟩
        have h3 := (hxs i x hx).2 j u hu
        rw [add_plain, add_plain, Nat.add_assoc] at h3
        exact h3
    · obtain ⟨i, hi', rfl⟩ := List.mem_iff_getElem.1 hx
      exact (hxs i _ (List.getElem?_eq_getElem hi')).1
    · have h1 := (bulk_slice (H := H) (es := (List.range len).map D) (sp := (List.range (m - len)).map fun j => D (len + j))).1
      simp only [List.length_map, List.length_range] at h1
      rw [hxl]; exact h1
    · have h1 := (wt_slice ht hw).1
      simp only [List.length_map, List.length_range] at h1
      rw [hxl]
      exact Nat.le_trans (Nat.mul_le_mul_right _ (by omega)) h1
end
end Go.Proofs.Ytgbblegcjladaaa
namespace Go.Proofs.Ytgbblegcjladaaa
open Go.ChangeShapes Go.WideShapes Go.ChangeAt Go.RowKit Go.Deep
set_option linter.unusedVariables false
set_option maxRecDepth 100000

structure Held where
  token : Int
  node : Int
  boot : Int
  serial : Int
  stamp : Int
deriving DecidableEq
structure LastR where
  node : Int
  boot : Int
  seq : Int
  code : Int
  token : Int
  serial : Int
deriving DecidableEq
structure Led where
  limit : Int
  next : Int
  held : List Held
  last : List LastR
deriving DecidableEq
def heldC (x : Held) : List Value := [.int .i64 x.token, .int .i64 x.node, .int .u64 x.boot, .int .u64 x.serial, .int .u64 x.stamp]
def lastC (x : LastR) : List Value := [.int .i64 x.node, .int .u64 x.boot, .int .u64 x.seq, .int .i64 x.code, .int .i64 x.token, .int .u64 x.serial]
def Held.wf (x : Held) : Prop := (Lit.int .i64 x.token).wf = true ∧ (Lit.int .i64 x.node).wf = true ∧ (Lit.int .u64 x.boot).wf = true ∧ (Lit.int .u64 x.serial).wf = true ∧ (Lit.int .u64 x.stamp).wf = true
def LastR.wf (x : LastR) : Prop := (Lit.int .i64 x.node).wf = true ∧ (Lit.int .u64 x.boot).wf = true ∧ (Lit.int .u64 x.seq).wf = true ∧ (Lit.int .i64 x.code).wf = true ∧ (Lit.int .i64 x.token).wf = true ∧ (Lit.int .u64 x.serial).wf = true
theorem heldC_len (x : Held) : (heldC x).length = 5 := rfl
theorem lastC_len (x : LastR) : (lastC x).length = 6 := rfl
theorem heldC_one (x : Held) : ∀ u ∈ heldC x, u.oneCell' = true := by intro u hu; simp [heldC] at hu; rcases hu with rfl | rfl | rfl | rfl | rfl <;> rfl
theorem lastC_one (x : LastR) : ∀ u ∈ lastC x, u.oneCell' = true := by intro u hu; simp [lastC] at hu; rcases hu with rfl | rfl | rfl | rfl | rfl | rfl <;> rfl

def Led.wf (l : Led) : Prop := (Lit.int .i64 l.limit).wf = true ∧ (Lit.int .u64 l.next).wf = true ∧ (∀ x ∈ l.held, x.wf) ∧ ∀ x ∈ l.last, x.wf
/-- a ledger in cells, and its value -/
def LedCells (w : World) (cs : List Value) (l : Led) : Prop := ∃ vh vl, cs = [.int .i64 l.limit, .int .u64 l.next, vh, vl] ∧ SlR 5 heldC w vh l.held ∧ SlR 6 lastC w vl l.last ∧ l.wf
abbrev lArr (l : Led) (vh vl : Value) : Array Value := #[.int .i64 l.limit, .int .u64 l.next, vh, vl]
def IsLed (w : World) (v : Value) (l : Led) : Prop := ∃ vh vl, v = .agg (lArr l vh vl) ∧ SlR 5 heldC w vh l.held ∧ SlR 6 lastC w vl l.last ∧ l.wf
def IsLed.size (l : Led) : Nat := l.held.length + l.last.length
def IsLed.fits (l : Led) : Prop := l.held.length * 40 ≤ 140737488351232 ∧ l.last.length * 48 ≤ 140737488351232
theorem IsLed.below {w w' : World} {v : Value} {l : Led} {B : Nat} (h : IsLed w v l) (hb : Below B w w') (hB : w.heap.size ≤ B) : IsLed w' v l := by
  obtain ⟨vh, vl, e, h1, h2, h3⟩ := h
  exact ⟨vh, vl, e, h1.below hb hB, h2.below hb hB, h3⟩

section
variable {H : Type} {enc : TypeId × Value → H} {W : World}
theorem trod_held {n : Nat} {cs : List Value} {y : DataW H × List MemPlace} (h : DataW.trod enc Try.prog W 0 (fun _ => true) true n 47 cs = some y) : ∃ x, cs = heldC x ∧ x.wf := by
  obtain ⟨xs, m, _, rfl, hlen, hxl, hf⟩ := DataW.trod_struct Try.underlying47 h
  have hl : cs.length = 5 := hlen.trans (by kernel_rfl)
  match cs, hl, xs, hxl with
  | [c0, c1, c2, c3, c4], _, [y0, y1, y2, y3, y4], _ =>
    have k1 : Try.prog.cellsOf 3 = 1 := by kernel_rfl
    have k3 : Try.prog.cellsOf 31 = 1 := by kernel_rfl
    obtain ⟨z0, rfl, w0⟩ := int_cell (P := Try.prog) Try.underlying3 (by simpa [k1] using hf 0 _ rfl)
    obtain ⟨z1, rfl, w1⟩ := int_cell (P := Try.prog) Try.underlying3 (by simpa [k1] using hf 1 _ rfl)
    obtain ⟨z2, rfl, w2⟩ := int_cell (P := Try.prog) Try.underlying31 (by simpa [k3] using hf 2 _ rfl)
    obtain ⟨z3, rfl, w3⟩ := int_cell (P := Try.prog) Try.underlying31 (by simpa [k3] using hf 3 _ rfl)
    obtain ⟨z4, rfl, w4⟩ := int_cell (P := Try.prog) Try.underlying31 (by simpa [k3] using hf 4 _ rfl)
    exact ⟨⟨z0, z1, z2, z3, z4⟩, rfl, w0, w1, w2, w3, w4⟩
theorem trod_answer {n : Nat} {cs : List Value} {y : DataW H × List MemPlace} (h : DataW.trod enc Try.prog W 0 (fun _ => true) true n 60 cs = some y) : ∃ a b c, cs = [.int .i64 a, .int .i64 b, .int .u64 c] ∧ (Lit.int .i64 a).wf = true ∧ (Lit.int .i64 b).wf = true ∧ (Lit.int .u64 c).wf = true := by
  obtain ⟨xs, m, _, rfl, hlen, hxl, hf⟩ := DataW.trod_struct Try.underlying60 h
  have hl : cs.length = 3 := hlen.trans (by kernel_rfl)
  match cs, hl, xs, hxl with
  | [c0, c1, c2], _, [y0, y1, y2], _ =>
    have k1 : Try.prog.cellsOf 3 = 1 := by kernel_rfl
    have k3 : Try.prog.cellsOf 31 = 1 := by kernel_rfl
    obtain ⟨z0, rfl, w0⟩ := int_cell (P := Try.prog) Try.underlying3 (by simpa [k1] using hf 0 _ rfl)
    obtain ⟨z1, rfl, w1⟩ := int_cell (P := Try.prog) Try.underlying3 (by simpa [k1] using hf 1 _ rfl)
    obtain ⟨z2, rfl, w2⟩ := int_cell (P := Try.prog) Try.underlying31 (by simpa [k3] using hf 2 _ rfl)
    exact ⟨z0, z1, z2, rfl, w0, w1, w2⟩
theorem trod_last {n : Nat} {cs : List Value} {y : DataW H × List MemPlace} (h : DataW.trod enc Try.prog W 0 (fun _ => true) true n 103 cs = some y) : ∃ x, cs = lastC x ∧ x.wf := by
  obtain ⟨xs, m, _, rfl, hlen, hxl, hf⟩ := DataW.trod_struct Try.underlying103 h
  have hl : cs.length = 6 := hlen.trans (by kernel_rfl)
  match cs, hl, xs, hxl with
  | [c0, c1, c2, c3, c4, c5], _, [y0, y1, y2, y3], _ =>
    have k1 : Try.prog.cellsOf 3 = 1 := by kernel_rfl
    have k3 : Try.prog.cellsOf 31 = 1 := by kernel_rfl
    have k4 : Try.prog.cellsOf 60 = 3 := by kernel_rfl
    obtain ⟨z0, rfl, w0⟩ := int_cell (P := Try.prog) Try.underlying3 (by simpa [k1] using hf 0 _ rfl)
    obtain ⟨z1, rfl, w1⟩ := int_cell (P := Try.prog) Try.underlying31 (by simpa [k3] using hf 1 _ rfl)
    obtain ⟨z2, rfl, w2⟩ := int_cell (P := Try.prog) Try.underlying31 (by simpa [k3] using hf 2 _ rfl)
    obtain ⟨z3, z4, z5, he, w3, w4, w5⟩ := trod_answer (by simpa [k4] using hf 3 _ rfl)
    simp only [List.cons.injEq, and_true] at he
    obtain ⟨rfl, rfl, rfl⟩ := he
    exact ⟨⟨z0, z1, z2, z3, z4, z5⟩, rfl, w0, w1, w2, w3, w4, w5⟩
theorem trod_led {n : Nat} {cs : List Value} {y : DataW H × List MemPlace} (h : DataW.trod enc Try.prog W 0 (fun _ => true) true n 35 cs = some y) :
    ∃ l, LedCells W cs l ∧ IsLed.size l ≤ Rows.uptoBulk y.1 ∧ (Wt Try.prog 35 y.1 → IsLed.fits l) := by
  obtain ⟨xs, m, _, rfl, hlen, hxl, hf⟩ := DataW.trod_struct Try.underlying35 h
  have hl : cs.length = 4 := hlen.trans (by kernel_rfl)
  match cs, hl, xs, hxl with
  | [c0, c1, c2, c3], _, [y0, y1, y2, y3], _ =>
    have k1 : Try.prog.cellsOf 3 = 1 := by kernel_rfl
    have k3 : Try.prog.cellsOf 31 = 1 := by kernel_rfl
    have kh : Try.prog.cellsOf 32 = 1 := by kernel_rfl
    have kl : Try.prog.cellsOf 33 = 1 := by kernel_rfl
    obtain ⟨z0, rfl, w0⟩ := int_cell (P := Try.prog) Try.underlying3 (by simpa [k1] using hf 0 _ rfl)
    obtain ⟨z1, rfl, w1⟩ := int_cell (P := Try.prog) Try.underlying31 (by simpa [k3] using hf 1 _ rfl)
    obtain ⟨hs, h1, h2, h3, h4⟩ := rows_cell (P := Try.prog) (C := heldC) (Q := Held.wf) Try.underlying32 (sz := 5) (by kernel_rfl) (by omega) (fun m cs y h => trod_held h) (by simpa [kh] using hf 2 _ rfl)
    obtain ⟨ls, g1, g2, g3, g4⟩ := rows_cell (P := Try.prog) (C := lastC) (Q := LastR.wf) Try.underlying33 (sz := 6) (by kernel_rfl) (by omega) (fun m cs y h => trod_last h) (by simpa [kl] using hf 3 _ rfl)
    refine ⟨⟨z0, z1, hs, ls⟩, ⟨c2, c3, rfl, h1, g1, w0, w1, h2, g2⟩, ?_, fun hw => ⟨?_, ?_⟩⟩
    · simp only [IsLed.size, Rows.uptoBulk, Rows.uptoBulkAll, List.map_cons, List.map_nil]; omega
    · have := h4 (wt_field Try.underlying35 hw (j := 2) rfl rfl)
      rw [show Try.prog.bytesOf 47 = 40 from by kernel_rfl] at this
      simpa [reachBytes] using this
    · have := g4 (wt_field Try.underlying35 hw (j := 3) rfl rfl)
      rw [show Try.prog.bytesOf 103 = 48 from by kernel_rfl] at this
      simpa [reachBytes] using this
theorem open_led {base : Nat} {v : Value} {d : DataW H} {ps : List MemPlace}
    (hok : Value.okWide Try.prog W .any base 35 v) (h : DataW.Trod enc Try.prog W 0 (fun _ => true) true 35 v d ps) : ∃ l, IsLed W v l ∧ IsLed.size l ≤ Rows.uptoBulk d ∧ (Wt Try.prog 35 d → IsLed.fits l) := by
  obtain ⟨cs, rfl, hsz⟩ := okWide_struct Try.underlying35 hok
  obtain ⟨fuel, hf⟩ := h
  obtain ⟨l, ⟨vh, vl, hcs, h1, h2, h5⟩, h3, h4⟩ := trod_led hf
  refine ⟨l, ⟨vh, vl, ?_, h1, h2, h5⟩, h3, h4⟩
  obtain ⟨q⟩ := cs
  simp only [Value.cells] at hcs
  subst hcs
  rfl
end
theorem info_held : (Try.prog.info? 47).map (fun i => (i.zero, i.size, i.bytes)) = some (some (.agg #[.int .i64 0, .int .i64 0, .int .u64 0, .int .u64 0, .int .u64 0]), 5, 40) := by kernel_rfl
theorem info_last : (Try.prog.info? 103).map (fun i => (i.zero, i.size, i.bytes)) = some (some (.agg #[.int .i64 0, .int .u64 0, .int .u64 0, .int .i64 0, .int .i64 0, .int .u64 0]), 6, 48) := by kernel_rfl
end Go.Proofs.Ytgbblegcjladaaa
namespace Go.Proofs.Ytgbblegcjladaaa
open Go.ChangeShapes Go.WideShapes Go.ChangeAt Go.RowKit
set_option linter.unusedVariables false
set_option maxRecDepth 100000
namespace Ld
theorem below_drewN {B : Nat} (w : World) (n : Nat) : Below B w (w.drewN n) := ⟨rfl, rfl, rfl, Nat.le_refl _, fun _ _ => rfl⟩
theorem rgetD {α : Type} {l : List α} {k : Nat} (h : k < l.length) : l[k]? = some l[k] := List.getElem?_eq_getElem h
theorem rtake {α : Type} {l : List α} {k : Nat} (h : k < l.length) : l.take (k + 1) = l.take k ++ [l[k]] := List.take_succ_eq_append_getElem h
/-- the five cells of a row -/
theorem held_cells {w : World} {b off k : Nat} {x : Held} (h : ∀ j u, (heldC x)[j]? = some u → w.cell? ⟨b, off + (k * 5 + j), none⟩ = some u) :
    w.cell? ⟨b, off + k * 5, none⟩ = some (.int .i64 x.token) ∧ w.cell? ⟨b, off + k * 5 + 1, none⟩ = some (.int .i64 x.node) ∧ w.cell? ⟨b, off + k * 5 + 2, none⟩ = some (.int .u64 x.boot) ∧ w.cell? ⟨b, off + k * 5 + 3, none⟩ = some (.int .u64 x.serial) ∧ w.cell? ⟨b, off + k * 5 + 4, none⟩ = some (.int .u64 x.stamp) := by
  have h0 := h 0 _ rfl; have h1 := h 1 _ rfl; have h2 := h 2 _ rfl; have h3 := h 3 _ rfl; have h4 := h 4 _ rfl
  simp only [← Nat.add_assoc, Nat.add_zero] at h0 h1 h2 h3 h4
  exact ⟨h0, h1, h2, h3, h4⟩

end Ld
end Go.Proofs.Ytgbblegcjladaaa
namespace Go.Proofs.Ytgbblegcjladaaa
open Go.ChangeShapes Go.WideShapes Go.ChangeAt Go.RowKit
set_option linter.unusedVariables false
set_option maxRecDepth 100000
namespace La
open Ld
abbrev cA (c : Cmd) (vn : Value) : Array Value := #[.int .i64 c.kind, .int .i64 c.node, .int .i64 c.token, vn, .int .u64 c.boot, .int .u64 c.seq, .int .u64 c.serial, .int .u64 c.stamp]
abbrev hA (x : Held) : Array Value := #[.int .i64 x.token, .int .i64 x.node, .int .u64 x.boot, .int .u64 x.serial, .int .u64 x.stamp]
theorem cmd_cells {w : World} {g : Nat} {c : Cmd} {vn : Value} (h : w.heap[g]? = some (.cells (cA c vn) 58 (0, 0))) :
    w.cell? ⟨g, 0, none⟩ = some (.int .i64 c.kind) ∧ w.cell? ⟨g, 1, none⟩ = some (.int .i64 c.node) ∧ w.cell? ⟨g, 2, none⟩ = some (.int .i64 c.token) ∧ w.cell? ⟨g, 4, none⟩ = some (.int .u64 c.boot) ∧ w.cell? ⟨g, 5, none⟩ = some (.int .u64 c.seq) ∧ w.cell? ⟨g, 6, none⟩ = some (.int .u64 c.serial) ∧ w.cell? ⟨g, 7, none⟩ = some (.int .u64 c.stamp) :=
  ⟨(cell_of_row w _ 0 _ _ _ h).trans rfl, (cell_of_row w _ 1 _ _ _ h).trans rfl, (cell_of_row w _ 2 _ _ _ h).trans rfl, (cell_of_row w _ 4 _ _ _ h).trans rfl, (cell_of_row w _ 5 _ _ _ h).trans rfl, (cell_of_row w _ 6 _ _ _ h).trans rfl, (cell_of_row w _ 7 _ _ _ h).trans rfl⟩
theorem new2 (w : World) (A B : Obj) : ((w.alloc A).alloc B).heap[w.heap.size + 1]? = some B := by have := heap_alloc_new (w.alloc A) B; simpa using this
theorem frozen_of {w : World} {g o : Nat} {cs : Array Value} {t : TypeId} (h : w.heap[g]? = some (.cells cs t (0, 0))) : w.frozen? ⟨g, o, none⟩ = false := by unfold World.frozen?; rw [h]; simp
theorem led_cells {w : World} {g : Nat} {l : Led} {vh vl : Value} (h : w.heap[g]? = some (.cells (lArr l vh vl) 35 (0, 0))) :
    w.cell? ⟨g, 0, none⟩ = some (.int .i64 l.limit) ∧ w.cell? ⟨g, 1, none⟩ = some (.int .u64 l.next) ∧ w.cell? ⟨g, 2, none⟩ = some vh ∧ w.cell? ⟨g, 3, none⟩ = some vl :=
  ⟨(cell_of_row w _ 0 _ _ _ h).trans rfl, (cell_of_row w _ 1 _ _ _ h).trans rfl, (cell_of_row w _ 2 _ _ _ h).trans rfl, (cell_of_row w _ 3 _ _ _ h).trans rfl⟩
end La
end Go.Proofs.Ytgbblegcjladaaa
