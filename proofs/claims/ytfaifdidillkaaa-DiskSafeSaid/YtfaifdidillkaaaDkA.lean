/- Package disk: files, on lists; a disk in memory. No condition. -/
import Derived.Test.YtfaifdidillkaaaApp
import Derived.Test.YtfaifdidillkaaaSbs
import Derived.Test.YtfaifdidillkaaaOnl
import Derived.Test.YtfaifdidillkaaaMp
namespace Go.Proofs.Ytfaifdidillkaaa
open Go.ChangeShapes Go.WideShapes Go.ChangeAt Go.RowKit Go.Deep
set_option linter.unusedVariables false
set_option maxRecDepth 100000
set_option linter.unusedSimpArgs false
/-- append to a row of one's own, told: it lies where it lay, or in new memory -/
theorem appX {α : Type} {sz : Nat} {C : α → List Value} {P : Program} (hC : ∀ x, (C x).length = sz) {t e : TypeId} (ht : P.underlying t = some (.slice e)) {z : Value} {bytes : Nat} (hzs : z.cells.size = sz) (hsz : 0 < sz) (hinfo : (P.info? e).map (fun i => (i.zero, i.size, i.bytes)) = some (some z, sz, bytes))
    {w : World} {ops : Array Oper} {rest : List Oper} {o : Oper} {a : Act} {Q : Exit → Act → World → Prop} (hgd : o.guard = none) (s x : Operand)
    (ho : o.op = .call { callee := .builtin .append, args := #[s, x], argTypes := #[t, t] }) (base : Nat)
    (v : Value) (xs : List α) (hs : a.eval s = v) (hown : OwnR sz C e w base v xs) (u : Value) (zs : List α) (hx : a.eval x = u) (hsl : SlR sz C w u zs) (h1c : ∀ x ∈ zs, ∀ u ∈ C x, u.oneCell' = true)
    (h63 : xs.length + zs.length ≤ maxLen) (hb : (xs.length + zs.length) * bytes ≤ 140737488355328) (hbase : base ≤ w.heap.size)
    (h : ∀ v' w', OwnR sz C e w' base v' (xs ++ zs) → w.grownBy w' v.ownBlock → (v'.ownBlock = v.ownBlock ∨ v'.ownBlock = some w.heap.size) → wpList P ops Q rest (a.put o.dst v') w') : wpList P ops Q (o :: rest) a w := by
  refine wpList_plain hgd fun K' hK' => ?_
  have := stepRq (E := True) (ops := ops) (K := K') (Q := Q) hC ht hzs hsz hinfo hgd s x ho base v xs hs hown u zs hx hsl h1c h63 hb hbase (fun v' w' h1 h2 h3 => hK' _ _ (h v' w' h1 h2 h3))
  rwa [if_pos (by simp [Region.wanted, hgd])] at this
namespace Dk
abbrev TD : TypeId := 52
abbrev TF : TypeId := 63
abbrev TB : TypeId := 5
abbrev mF : TypeId := 50
abbrev byC (x : Int) : List Value := [.int .u8 x]
theorem byC_len (x : Int) : (byC x).length = 1 := rfl
theorem byC_one (x : Int) : ∀ u ∈ byC x, u.oneCell' = true := by intro u hu; simp at hu; subst hu; rfl
theorem info_by : (Try.prog.info? TB).map (fun i => (i.zero, i.size, i.bytes)) = some (some (.int .u8 0), 1, 1) := by kernel_rfl
theorem flat_by (zs : List Int) : zs.flatMap byC = zs.map (Value.int .u8) := by
  induction zs with
  | nil => rfl
  | cons z zs ih => rw [List.flatMap_cons, ih]; rfl
/-! ### files -/
structure Fl where
  name : ByteArray
  zs : List Int
  safe : Nat
def okc (b : UInt8) : Bool := (decide (97 ≤ b.toNat) && decide (b.toNat ≤ 122)) || (decide (48 ≤ b.toNat) && decide (b.toNat ≤ 57))
def nameB (s : ByteArray) : Bool := decide (1 ≤ s.size) && decide (s.size ≤ 12) && s.data.toList.all okc
def nmLt (a b : ByteArray) : Prop := a.data.toList < b.data.toList
instance (a b : ByteArray) : Decidable (nmLt a b) := by unfold nmLt; infer_instance
theorem nm_irrefl (a : ByteArray) : ¬ nmLt a a := List.lt_irrefl _
theorem nm_trans {a b c : ByteArray} (h : nmLt a b) (g : nmLt b c) : nmLt a c := List.lt_trans h g
theorem nm_eq {a b : ByteArray} (h : a.data.toList = b.data.toList) : a = b := ByteArray.ext (Array.toList_inj.1 h)
theorem nm_tot {a b : ByteArray} (h : ¬ nmLt a b) (hne : a ≠ b) : nmLt b a := Classical.byContradiction fun g => hne (nm_eq (List.le_antisymm (List.not_lt.1 g) (List.not_lt.1 h)))
def fndL (F : List Fl) (x : ByteArray) : Option Fl := F.find? fun f => decide (f.name = x)
def setF (F : List Fl) (f : Fl) : List Fl := F.map fun g => if g.name = f.name then f else g
def insF : List Fl → Fl → List Fl
  | [], f => [f]
  | g :: F, f => if nmLt g.name f.name then g :: insF F f else f :: g :: F
def updF (F : List Fl) (f : Fl) : List Fl := if (fndL F f.name).isSome then setF F f else insF F f
theorem fnd_mem {F : List Fl} {x : ByteArray} {f : Fl} (h : fndL F x = some f) : f ∈ F ∧ f.name = x := ⟨List.mem_of_find?_eq_some h, by simpa using List.find?_some h⟩
theorem fnd_none {F : List Fl} {x : ByteArray} (h : fndL F x = none) : ∀ f ∈ F, f.name ≠ x := fun f hf => by simpa using List.find?_eq_none.1 h f hf
def SrtF (F : List Fl) : Prop := F.Pairwise fun a b => nmLt a.name b.name
theorem SrtF.uniq {F : List Fl} (h : SrtF F) {f g : Fl} (hf : f ∈ F) (hg : g ∈ F) (e : f.name = g.name) : f = g := by
  obtain ⟨i, hi, rfl⟩ := List.mem_iff_getElem.1 hf
  obtain ⟨j, hj, rfl⟩ := List.mem_iff_getElem.1 hg
  rcases Nat.lt_trichotomy i j with q | q | q
  · have := List.pairwise_iff_getElem.1 h i j hi hj q
    rw [e] at this
    exact absurd this (nm_irrefl _)
  · subst q; rfl
  · have := List.pairwise_iff_getElem.1 h j i hj hi q
    rw [e] at this
    exact absurd this (nm_irrefl _)
theorem SrtF.fnd {F : List Fl} (h : SrtF F) {f : Fl} (hf : f ∈ F) : fndL F f.name = some f := by
  unfold fndL
  cases hq : F.find? (fun g => decide (g.name = f.name)) with
  | none => exact absurd (List.find?_eq_none.1 hq f hf) (by simp)
  | some g => rw [h.uniq (List.mem_of_find?_eq_some hq) hf (by simpa using List.find?_some hq)]
theorem fnd_cases {F : List Fl} (x : ByteArray) : (fndL F x = none ∧ ∀ f ∈ F, f.name ≠ x) ∨ ∃ f ∈ F, f.name = x ∧ fndL F x = some f := by
  cases h : fndL F x with
  | none => exact .inl ⟨rfl, fnd_none h⟩
  | some f => exact .inr ⟨f, (fnd_mem h).1, (fnd_mem h).2, rfl⟩
theorem mem_ins {f g : Fl} : ∀ {F : List Fl}, g ∈ insF F f ↔ g = f ∨ g ∈ F
  | [] => by simp [insF]
  | a :: F => by
    unfold insF
    split
    · rw [List.mem_cons, mem_ins (F := F), List.mem_cons]
      constructor
      · rintro (h | h | h)
        · exact .inr (.inl h)
        · exact .inl h
        · exact .inr (.inr h)
      · rintro (h | h | h)
        · exact .inr (.inl h)
        · exact .inl h
        · exact .inr (.inr h)
    · rw [List.mem_cons]
theorem mem_set {F : List Fl} {f g : Fl} (hs : (fndL F f.name).isSome = true) : g ∈ setF F f ↔ g = f ∨ (g ∈ F ∧ g.name ≠ f.name) := by
  obtain ⟨f0, h0⟩ := Option.isSome_iff_exists.1 hs
  obtain ⟨hm, hn⟩ := fnd_mem h0
  unfold setF
  rw [List.mem_map]
  constructor
  · rintro ⟨a, ha, rfl⟩
    by_cases e : a.name = f.name
    · rw [if_pos e]; exact .inl rfl
    · rw [if_neg e]; exact .inr ⟨ha, e⟩
  · rintro (rfl | ⟨h1, h2⟩)
    · exact ⟨f0, hm, if_pos hn⟩
    · exact ⟨g, h1, if_neg h2⟩
theorem mem_upd {F : List Fl} {f g : Fl} : g ∈ updF F f ↔ g = f ∨ (g ∈ F ∧ g.name ≠ f.name) := by
  unfold updF
  by_cases h : (fndL F f.name).isSome = true
  · rw [if_pos h]; exact mem_set h
  · rw [if_neg h, mem_ins]
    have hn := fnd_none (by simpa using h)
    constructor
    · rintro (q | q)
      · exact .inl q
      · exact .inr ⟨q, hn g q⟩
    · rintro (q | q)
      · exact .inl q
      · exact .inr q.1
theorem srt_ins {f : Fl} : ∀ {F : List Fl}, SrtF F → (∀ g ∈ F, g.name ≠ f.name) → SrtF (insF F f)
  | [], _, _ => List.pairwise_singleton _ _
  | a :: F, h, hn => by
    obtain ⟨h1, h2⟩ := List.pairwise_cons.1 h
    unfold insF
    by_cases q : nmLt a.name f.name
    · rw [if_pos q]
      refine List.pairwise_cons.2 ⟨fun g hg => ?_, srt_ins h2 (fun g hg => hn g (List.mem_cons_of_mem _ hg))⟩
      rcases mem_ins.1 hg with rfl | hg
      · exact q
      · exact h1 g hg
    · rw [if_neg q]
      have q2 := nm_tot q (hn a List.mem_cons_self)
      refine List.pairwise_cons.2 ⟨fun g hg => ?_, h⟩
      rcases List.mem_cons.1 hg with rfl | hg
      · exact q2
      · exact nm_trans q2 (h1 g hg)
theorem srt_upd {F : List Fl} {f : Fl} (h : SrtF F) : SrtF (updF F f) := by
  unfold updF
  by_cases q : (fndL F f.name).isSome = true
  · rw [if_pos q]
    unfold setF SrtF
    rw [List.pairwise_map]
    refine List.Pairwise.imp ?_ h
    intro a b hab
    have e : ∀ c : Fl, (if c.name = f.name then f else c).name = c.name := fun c => by
      by_cases g : c.name = f.name
      · rw [if_pos g, g]
      · rw [if_neg g]
    rw [e, e]; exact hab
  · rw [if_neg q]
    exact srt_ins h (fnd_none (by simpa using q))
theorem fnd_upd {F : List Fl} {f : Fl} (h : SrtF F) (x : ByteArray) : fndL (updF F f) x = if x = f.name then some f else fndL F x := by
  have hs := srt_upd (f := f) h
  by_cases e : x = f.name
  · subst e
    rw [if_pos rfl]
    exact hs.fnd (mem_upd.2 (.inl rfl))
  · rw [if_neg e]
    rcases fnd_cases (F := F) x with ⟨h1, h2⟩ | ⟨g, hg, hn, h1⟩
    · rw [h1]
      rcases fnd_cases (F := updF F f) x with ⟨h3, -⟩ | ⟨g, hg, hn, h3⟩
      · exact h3
      · rcases mem_upd.1 hg with rfl | ⟨hg, -⟩
        · exact absurd hn.symm e
        · exact absurd hn (h2 g hg)
    · rw [h1, ← hn]
      exact hs.fnd (mem_upd.2 (.inr ⟨hg, by rw [hn]; exact e⟩))
theorem len_ins {f : Fl} : ∀ {F : List Fl}, (insF F f).length = F.length + 1
  | [] => rfl
  | a :: F => by
    unfold insF
    split
    · rw [List.length_cons, len_ins]; rfl
    · rfl
theorem len_upd {F : List Fl} {f : Fl} : (updF F f).length = if (fndL F f.name).isSome then F.length else F.length + 1 := by
  unfold updF
  split
  · unfold setF; simp
  · exact len_ins
def delF (F : List Fl) (x : ByteArray) : List Fl := F.filter fun f => !decide (f.name = x)
theorem fnd_del {F : List Fl} (h : SrtF F) (x y : ByteArray) : fndL (delF F x) y = if y = x then none else fndL F y := by
  have hs : SrtF (delF F x) := List.Pairwise.filter _ h
  rcases fnd_cases (F := delF F x) y with ⟨h1, h2⟩ | ⟨g, hg, hn, h1⟩
  · rw [h1]
    by_cases e : y = x
    · rw [if_pos e]
    · rw [if_neg e]
      rcases fnd_cases (F := F) y with ⟨h3, -⟩ | ⟨g, hg, hn, h3⟩
      · rw [h3]
      · exact absurd hn (h2 g (List.mem_filter.2 ⟨hg, by rw [hn]; simpa using e⟩))
  · rw [h1]
    obtain ⟨hg1, hg2⟩ := List.mem_filter.1 hg
    have : g.name ≠ x := by simpa using hg2
    rw [if_neg (by rw [← hn]; exact this), ← hn, h.fnd hg1]
/-- what always holds of files, of at most S bytes each -/
structure OkF (S : Nat) (F : List Fl) : Prop where
  srt : SrtF F
  nm : ∀ f ∈ F, nameB f.name = true
  safe : ∀ f ∈ F, f.safe ≤ f.zs.length
  len : ∀ f ∈ F, 0 < f.zs.length ∧ f.zs.length ≤ S
  wf : ∀ f ∈ F, ∀ z ∈ f.zs, (Lit.int .u8 z).wf = true
  cnt : F.length ≤ 64
theorem OkF.nil (S : Nat) : OkF S [] := ⟨List.Pairwise.nil, by simp, by simp, by simp, by simp, by simp⟩
theorem OkF.mono {S T : Nat} {F : List Fl} (h : OkF S F) (hT : S ≤ T) : OkF T F := ⟨h.srt, h.nm, h.safe, fun f hf => ⟨(h.len f hf).1, Nat.le_trans (h.len f hf).2 hT⟩, h.wf, h.cnt⟩
theorem OkF.upd {S : Nat} {F : List Fl} {f : Fl} (h : OkF S F) (h1 : nameB f.name = true) (h2 : f.safe ≤ f.zs.length) (h3 : 0 < f.zs.length ∧ f.zs.length ≤ S) (h4 : ∀ z ∈ f.zs, (Lit.int .u8 z).wf = true) (h5 : (fndL F f.name).isSome = true ∨ F.length < 64) : OkF S (updF F f) := by
  have hm : ∀ {P : Fl → Prop}, (∀ g ∈ F, P g) → P f → ∀ g ∈ updF F f, P g := fun a b g hg => by
    rcases mem_upd.1 hg with rfl | hg
    · exact b
    · exact a g hg.1
  refine ⟨srt_upd h.srt, hm h.nm h1, hm h.safe h2, hm h.len h3, hm h.wf h4, ?_⟩
  rw [len_upd]
  have := h.cnt
  split
  · exact this
  · rcases h5 with q | q
    · rename_i g; exact absurd q g
    · exact q
theorem OkF.sub {S : Nat} {F : List Fl} (h : OkF S F) (p : Fl → Bool) : OkF S (F.filter p) :=
  ⟨List.Pairwise.filter _ h.srt, fun f hf => h.nm f (List.mem_filter.1 hf).1, fun f hf => h.safe f (List.mem_filter.1 hf).1, fun f hf => h.len f (List.mem_filter.1 hf).1, fun f hf => h.wf f (List.mem_filter.1 hf).1, Nat.le_trans (List.length_filter_le _ _) h.cnt⟩
theorem name_size {s : ByteArray} (h : nameB s = true) : 1 ≤ s.size ∧ s.size ≤ 12 := by
  unfold nameB at h
  simp only [Bool.and_eq_true, decide_eq_true_eq] at h
  exact h.1
/-! ### in memory -/
abbrev litS (s : ByteArray) : Lit := Lit.string s.data.toList
abbrev MS (w : World) (m n : Nat) (f : ByteArray → Option Value) : Prop := Mp.MapF Try.prog 9 litS Mp.okS w m n f
theorem KS : Mp.KeyT Try.prog 9 Value.string litS Mp.okS := Mp.strK Try.underlying9
theorem zF (w : World) : (zeroValue TF).run Try.prog w = .ok (.agg #[.slice none 0 0, .int .i64 0]) w := by kernel_rfl
def flV (v : Value) (f : Fl) : Value := .agg #[v, .int .i64 f.safe]
def fV (V : ByteArray → Value) (F : List Fl) (x : ByteArray) : Option Value := (fndL F x).map fun f => flV (V x) f
def dkV (m : Nat) (on : Bool) (left : Int) (i : Nat) : Value := if i = 0 then .map (some m) else if i = 1 then .bool on else .int .i64 left
structure RowsAt (w : World) (S : Nat → Prop) (V : ByteArray → Value) (F : List Fl) : Prop where
  own : ∀ f ∈ F, OwnR 1 byC TB w 0 (V f.name) f.zs
  mine : ∀ f ∈ F, ∀ q, (V f.name).ownBlock = some q → S q
  apart : ∀ f ∈ F, ∀ g ∈ F, f.name ≠ g.name → ∀ q, (V f.name).ownBlock = some q → (V g.name).ownBlock ≠ some q
structure DkV (w : World) (S : Nat → Prop) (p m : Nat) (V : ByteArray → Value) (on : Bool) (left : Int) (F : List Fl) : Prop where
  row : w.rowIs p TD 3 (dkV m on left)
  map : MS w m F.length (fV V F)
  rows : RowsAt w S V F
  sp : S p
  sm : S m
  low : ∀ k, S k → k < w.heap.size
variable {w w' : World} {S : Nat → Prop} {p m : Nat} {V : ByteArray → Value} {on : Bool} {left : Int} {F : List Fl}
theorem RowsAt.keep (h : RowsAt w S V F) (hb : ∀ k, S k → k < w.heap.size → w'.heap[k]? = w.heap[k]?) : RowsAt w' S V F :=
  ⟨fun f hf => own_keep (h.own f hf) (fun q hq hl => hb q (h.mine f hf q hq) hl), h.mine, h.apart⟩
theorem RowsAt.mono {T : Nat → Prop} (h : RowsAt w S V F) (hT : ∀ k, S k → T k) : RowsAt w T V F := ⟨h.own, fun f hf q hq => hT q (h.mine f hf q hq), h.apart⟩
theorem DkV.c0 (h : DkV w S p m V on left F) : w.cell? ⟨p, 0, none⟩ = some (.map (some m)) := World.rowIs.cell h.row (by omega)
theorem DkV.c1 (h : DkV w S p m V on left F) : w.cell? ⟨p, 1, none⟩ = some (.bool on) := World.rowIs.cell h.row (by omega)
theorem DkV.c2 (h : DkV w S p m V on left F) : w.cell? ⟨p, 2, none⟩ = some (.int .i64 left) := World.rowIs.cell h.row (by omega)
theorem DkV.z (h : DkV w S p m V on left F) (i : Nat) : w.frozen? ⟨p, i, none⟩ = false := World.rowIs.frozen h.row i
theorem DkV.keep (h : DkV w S p m V on left F) (hb : ∀ k, S k → w'.heap[k]? = w.heap[k]?) (hz : w.heap.size ≤ w'.heap.size) : DkV w' S p m V on left F :=
  ⟨World.rowIs.of_block h.row (hb p h.sp), h.map.block (hb m h.sm), h.rows.keep (fun k hk _ => hb k hk), h.sp, h.sm, fun k hk => Nat.lt_of_lt_of_le (h.low k hk) hz⟩
theorem DkV.below (h : DkV w S p m V on left F) (hb : Below w.heap.size w w') : DkV w' S p m V on left F := h.keep (fun k hk => hb.block k (h.low k hk)) hb.size
theorem DkV.only {T : Nat → Prop} (h : DkV w S p m V on left F) (ho : Only T w w') (hT : ∀ k, S k → ¬ T k) : DkV w' S p m V on left F := h.keep (fun k hk => ho.2.2.2.2 k (h.low k hk) (hT k hk)) ho.2.2.2.1
/-- what is one's own, and what is new -/
def Grow (S : Nat → Prop) (w w' : World) (k : Nat) : Prop := S k ∨ (w.heap.size ≤ k ∧ k < w'.heap.size)
theorem DkV.mono {T : Nat → Prop} (h : DkV w S p m V on left F) (hT : ∀ k, S k → T k) (hl : ∀ k, T k → k < w.heap.size) : DkV w T p m V on left F := ⟨h.row, h.map, h.rows.mono hT, hT p h.sp, hT m h.sm, hl⟩
theorem DkV.grow (h : DkV w' S p m V on left F) : DkV w' (Grow S w w') p m V on left F := h.mono (fun k hk => .inl hk) (fun k hk => by
  rcases hk with hk | hk
  · exact h.low k hk
  · exact hk.2)
theorem DkV.row3 (h : DkV w S p m V on left F) : ∃ c, w.heap[p]? = some (.cells c TD (0, 0)) := by obtain ⟨c, h1, -⟩ := h.row; exact ⟨c, h1⟩
theorem DkV.ne (h : DkV w S p m V on left F) : m ≠ p := by obtain ⟨c, h1⟩ := h.row3; exact h.map.row_ne h1
theorem DkV.pne (h : DkV w S p m V on left F) {f : Fl} (hf : f ∈ F) : (V f.name).ownBlock ≠ some p := fun q => by
  obtain ⟨c, h1⟩ := h.row3
  exact own_ty (h.rows.own f hf) h1 (by decide) _ q rfl
theorem DkV.mne (h : DkV w S p m V on left F) {f : Fl} (hf : f ∈ F) : (V f.name).ownBlock ≠ some m := fun q => by
  rcases own_form (h.rows.own f hf) with ⟨e, -⟩ | ⟨g, c, cur, e, hg, -⟩
  · rw [e] at q; cases q
  · rw [e] at q
    have : g = m := Option.some.inj q
    subst this
    exact h.map.row_ne hg rfl
/-- a file as it is found -/
theorem DkV.look (h : DkV w S p m V on left F) (x : ByteArray) (hx : x.size ≤ maxLen) (c : Bool) :
    (Instr.lookup mF (.map (some m)) (.string x) c).run Try.prog w = .ok (if c then .tuple #[(fV V F x).getD (.agg #[.slice none 0 0, .int .i64 0]), .bool (fndL F x).isSome] else (fV V F x).getD (.agg #[.slice none 0 0, .int .i64 0])) w := by
  have := h.map.look KS Try.underlying50 (zF w) hx c
  rw [this]
  have e : (fV V F x).isSome = (fndL F x).isSome := by unfold fV; cases fndL F x <;> rfl
  rw [e]
/-- how many entries -/
theorem names_dom {n : Nat} (hs : OkF n F) : Mp.Dom Mp.okS (fV V F) (F.map Fl.name) := by
  refine ⟨?_, fun x => ?_⟩
  · rw [List.Nodup, List.pairwise_map]
    exact hs.srt.imp (fun {a b} h e => by rw [e] at h; exact nm_irrefl _ h)
  · rw [List.mem_map]
    constructor
    · rintro ⟨f, hf, rfl⟩
      refine ⟨?_, ?_⟩
      · unfold Mp.okS maxLen
        have := name_size (hs.nm f hf)
        omega
      · unfold fV; rw [hs.srt.fnd hf]; rfl
    · rintro ⟨-, h2⟩
      unfold fV at h2
      cases hq : fndL F x with
      | none => rw [hq] at h2; cases h2
      | some f => exact ⟨f, (fnd_mem hq).1, (fnd_mem hq).2⟩
theorem fV_upd {V : ByteArray → Value} (hs : SrtF F) (f : Fl) (v : Value) (x : ByteArray) : Mp.upd (fV V F) f.name (some (flV v f)) x = fV (fun y => if y = f.name then v else V y) (updF F f) x := by
  unfold fV
  rw [fnd_upd hs]
  by_cases e : x = f.name
  · subst e
    rw [Mp.upd_same, if_pos rfl]
    simp
  · rw [Mp.upd_ne _ _ e, if_neg e]
    simp only [if_neg e]
theorem fV_del (hs : SrtF F) (x y : ByteArray) : Mp.upd (fV V F) x none y = fV V (delF F x) y := by
  unfold fV
  rw [fnd_del hs]
  by_cases e : y = x
  · subst e
    rw [Mp.upd_same, if_pos rfl]; rfl
  · rw [Mp.upd_ne _ _ e, if_neg e]
/-- a file put in its place: its bytes are a row of one's own, apart from the others -/
theorem DkV.put {n : Nat} {f : Fl} {v : Value} (h : DkV w S p m V on left F) (hs : OkF n F) (hf : OkF n (updF F f)) (hw : Mp.MapF Try.prog 9 litS Mp.okS w' m (F.length + 1) (Mp.upd (fV V F) f.name (some (flV v f)))) (hg : w.grownBy w' (some m))
    (hv : OwnR 1 byC TB w' 0 v f.zs) (hS : ∀ q, v.ownBlock = some q → S q) (hap : ∀ g ∈ F, g.name ≠ f.name → ∀ q, v.ownBlock = some q → (V g.name).ownBlock ≠ some q) :
    DkV w' S p m (fun y => if y = f.name then v else V y) on left (updF F f) := by
  have hb : ∀ k, k < w.heap.size → k ≠ m → w'.heap[k]? = w.heap[k]? := fun k hk hne => hg.block k hk (fun e => hne (Option.some.inj e))
  obtain ⟨-, -, -, -, hm⟩ := Mp.MapF.card (hw.congr (fun x _ => fV_upd hs.srt f v x)) KS (names_dom (V := fun y => if y = f.name then v else V y) hf)
  have hold : ∀ g ∈ F, g.name ≠ f.name → OwnR 1 byC TB w' 0 (V g.name) g.zs := fun g hgm _ => own_keep (h.rows.own g hgm) (fun q hq hl => hb q hl (fun e => h.mne hgm (e ▸ hq)))
  refine ⟨World.rowIs.of_block h.row (hb p (h.low p h.sp) (fun e => h.ne e.symm)), by simpa using hm, ⟨fun g hg => ?_, fun g hg => ?_, fun g hg g' hg' hne => ?_⟩, h.sp, h.sm, fun k hk => Nat.lt_of_lt_of_le (h.low k hk) hg.size⟩
  · rcases mem_upd.1 hg with rfl | ⟨hg1, hg2⟩
    · simp only [if_pos]; exact hv
    · simp only [if_neg hg2]; exact hold g hg1 hg2
  · rcases mem_upd.1 hg with rfl | ⟨hg1, hg2⟩
    · simp only [if_pos]; exact hS
    · simp only [if_neg hg2]; exact h.rows.mine g hg1
  · rcases mem_upd.1 hg with rfl | ⟨hg1, hg2⟩
    · rcases mem_upd.1 hg' with rfl | ⟨hg3, hg4⟩
      · exact absurd rfl hne
      · simp only [if_pos, if_neg hg4]; exact hap g' hg3 hg4
    · rcases mem_upd.1 hg' with rfl | ⟨hg3, hg4⟩
      · simp only [if_pos, if_neg hg2]
        intro q hq e
        exact hap g hg1 hg2 q e hq
      · simp only [if_neg hg2, if_neg hg4]; exact h.rows.apart g hg1 g' hg3 hne
/-- a file struck -/
theorem DkV.del {n : Nat} {x : ByteArray} (h : DkV w S p m V on left F) (hs : OkF n F) (hw : Mp.MapF Try.prog 9 litS Mp.okS w' m F.length (Mp.upd (fV V F) x none)) (hg : w.grownBy w' (some m)) : DkV w' S p m V on left (delF F x) := by
  have hb : ∀ k, k < w.heap.size → k ≠ m → w'.heap[k]? = w.heap[k]? := fun k hk hne => hg.block k hk (fun e => hne (Option.some.inj e))
  have hf : OkF n (delF F x) := hs.sub _
  obtain ⟨-, -, -, -, hm⟩ := Mp.MapF.card (hw.congr (fun y _ => fV_del hs.srt x y)) KS (names_dom (V := V) hf)
  have hsub : ∀ g ∈ delF F x, g ∈ F := fun g hg => (List.mem_filter.1 hg).1
  exact ⟨World.rowIs.of_block h.row (hb p (h.low p h.sp) (fun e => h.ne e.symm)), by simpa using hm, ⟨fun g hg => own_keep (h.rows.own g (hsub g hg)) (fun q hq hl => hb q hl (fun e => h.mne (hsub g hg) (e ▸ hq))), fun g hg => h.rows.mine g (hsub g hg), fun g hg g' hg' => h.rows.apart g (hsub g hg) g' (hsub g' hg')⟩, h.sp, h.sm, fun k hk => Nat.lt_of_lt_of_le (h.low k hk) hg.size⟩
/-- a cell of its own turned -/
theorem DkV.turn {i : Nat} {u : Value} {on' : Bool} {left' : Int} (h : DkV w S p m V on left F) (hi : ∀ j, j < 3 → (if j = i then u else dkV m on left j) = dkV m on' left' j) : DkV (w.setCell ⟨p, i, none⟩ u) S p m V on' left' F := by
  have hb : ∀ k, k ≠ p → (w.setCell ⟨p, i, none⟩ u).heap[k]? = w.heap[k]? := fun k hk => heap_setCell_other w ⟨p, i, none⟩ k u hk
  refine ⟨World.rowIs.congr (World.rowIs.set h.row i u) hi, h.map.block (hb m h.ne), ⟨fun f hf => own_keep (h.rows.own f hf) (fun q hq hl => hb q (fun e => h.pne hf (e ▸ hq))), h.rows.mine, h.rows.apart⟩, h.sp, h.sm, fun k hk => by simpa [World.setCell] using h.low k hk⟩
end Dk
end Go.Proofs.Ytfaifdidillkaaa
