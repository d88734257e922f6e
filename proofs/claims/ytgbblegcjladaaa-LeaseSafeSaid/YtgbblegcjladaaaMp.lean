/- Maps of the call's own, as partial functions: whatever the elements, whatever the keys; read, written, struck, counted, ranged over. No condition. -/
import Derived.Test.YtgbblegcjladaaaBse
import Derived.Maps.RangeWalk
import Derived.Maps.OwnSet
import Derived.Maps.OwnOps
namespace Go.Proofs.Ytgbblegcjladaaa
open Go.ChangeShapes Go.WideShapes Go.ChangeAt Go.RowKit Go.Maps Go.ChangeMaps Go.MapKept
set_option linter.unusedVariables false
set_option maxRecDepth 100000
set_option linter.unusedSimpArgs false
namespace Mp
/-- the keys of a type: what they are as values, and as read -/
structure KeyT (P : Program) (k : TypeId) {α : Type} (κ : α → Value) (lit : α → Lit) (ok : α → Prop) : Prop where
  law : Keyed P k
  rd : ∀ {x : α}, ok x → keyOf P k (κ x) = some (lit x)
  inv : ∀ {v : Value} {l : Lit}, keyOf P k v = some l → ∃ x, ok x ∧ v = κ x ∧ l = lit x
  inj : ∀ {x y : α}, ok x → ok y → lit x = lit y → x = y
def Rv (v : Value) : Option (DataW Value × List MemPlace) := some (.held v, [])
section
variable {P : Program} {k : TypeId} {α : Type} {κ : α → Value} {lit : α → Lit} {ok : α → Prop}
/-- D says f -/
def Says (lit : α → Lit) (ok : α → Prop) (D : DataW Value) (f : α → Option Value) : Prop := ∀ x, ok x → ∀ z, D.atKey (lit x) z = ((f x).map DataW.held).getD z
/-- block b is a map of at most n entries; f says what stands at which key -/
def MapF (P : Program) (k : TypeId) (lit : α → Lit) (ok : α → Prop) (w : World) (b n : Nat) (f : α → Option Value) : Prop := ∃ D, w.ownsMap P k Rv b n D ∧ Says lit ok D f
variable {w w' : World} {b n : Nat} {f : α → Option Value}
theorem MapF.lt (h : MapF P k lit ok w b n f) : b < w.heap.size := by obtain ⟨D, h, -⟩ := h; exact h.lt
theorem MapF.mono {m : Nat} (h : MapF P k lit ok w b n f) (hm : n ≤ m) : MapF P k lit ok w b m f := by obtain ⟨D, h, g⟩ := h; exact ⟨D, h.mono hm, g⟩
theorem MapF.block (h : MapF P k lit ok w b n f) (hb : w'.heap[b]? = w.heap[b]?) : MapF P k lit ok w' b n f := by
  obtain ⟨D, ⟨es, clock, h1, h2⟩, g⟩ := h
  exact ⟨D, ⟨es, clock, hb.trans h1, h2⟩, g⟩
theorem MapF.below (h : MapF P k lit ok w b n f) (hb : Below w.heap.size w w') : MapF P k lit ok w' b n f := h.block (hb.block _ h.lt)
theorem MapF.alloc (h : MapF P k lit ok w b n f) (o : Obj) : MapF P k lit ok (w.alloc o) b n f := h.below ((Below.refl _ _).alloc (Nat.le_refl _) _)
theorem MapF.congr {g : α → Option Value} (h : MapF P k lit ok w b n f) (e : ∀ x, ok x → f x = g x) : MapF P k lit ok w b n g := by
  obtain ⟨D, h1, h2⟩ := h
  exact ⟨D, h1, fun x hx z => by rw [h2 x hx z, e x hx]⟩
theorem MapF.row_ne {g : Nat} {cs : Array Value} {t : TypeId} {fr : Nat × Nat} (h : MapF P k lit ok w b n f) (hg : w.heap[g]? = some (.cells cs t fr)) : b ≠ g := by
  obtain ⟨D, ⟨es, clock, h1, -⟩, -⟩ := h
  intro e
  subst e
  rw [hg] at h1
  cases h1
/-- 'map[K]V{}' -/
theorem made (P : Program) (k : TypeId) (lit : α → Lit) (ok : α → Prop) (w : World) : MapF P k lit ok (w.alloc (.map #[] 0)) w.heap.size 0 (fun _ => none) :=
  ⟨.map [], World.ownsMap_made _ _ _ _, fun x _ z => rfl⟩
/-- 'm[k]', 'v, ok := m[k]' -/
theorem MapF.look (h : MapF P k lit ok w b n f) (K : KeyT P k κ lit ok) {t e : TypeId} (ht : P.underlying t = some (.map k e)) {z : Value} (hz : (zeroValue e).run P w = .ok z w) {x : α} (hx : ok x) (c : Bool) :
    (Instr.lookup t (.map (some b)) (κ x) c).run P w = .ok (if c then .tuple #[(f x).getD z, .bool (f x).isSome] else (f x).getD z) w := by
  obtain ⟨D, ⟨es, clock, hb, F, -, rfl⟩, hs⟩ := h
  rcases fit_look c K.law ht hz hb F (K.rd hx) with ⟨hrun, -, hat⟩ | ⟨e0, y, -, -, hrun, hr, hat, -⟩
  · have hn : f x = none := by
      cases hf : f x with
      | none => rfl
      | some v =>
        have := (hat .nil).symm.trans (hs x hx .nil)
        rw [hf] at this
        simp at this
    rw [hrun, hn]; rfl
  · have hv : f x = some e0.val := by
      unfold Rv at hr
      simp only [Option.some.injEq] at hr
      have := (hat .nil).symm.trans (hs x hx .nil)
      rw [← hr] at this
      cases hf : f x with
      | none => rw [hf] at this; simp at this
      | some v => rw [hf] at this; simp at this; rw [this]
    rw [hrun, hv]; rfl
def upd [DecidableEq α] (f : α → Option Value) (x : α) (o : Option Value) : α → Option Value := fun y => if y = x then o else f y
theorem upd_same [DecidableEq α] (f : α → Option Value) (x : α) (o : Option Value) : upd f x o x = o := if_pos rfl
theorem upd_ne [DecidableEq α] (f : α → Option Value) {x y : α} (o : Option Value) (h : y ≠ x) : upd f x o y = f y := if_neg h
variable [DecidableEq α]
/-- 'm[k] = v' -/
theorem MapF.put (h : MapF P k lit ok w b n f) (K : KeyT P k κ lit ok) {t e : TypeId} (ht : P.underlying t = some (.map k e)) (hn : n < maxLen) {x : α} (hx : ok x) (v : Value) :
    ∃ w', (Instr.mapUpdate t (.map (some b)) (κ x) v).run P w = .ok () w' ∧ MapF P k lit ok w' b (n + 1) (upd f x (some v)) ∧ w.grownBy w' (some b) := by
  obtain ⟨D, ho, hs⟩ := h
  obtain ⟨w', hrun, ho', hg⟩ := ho.update K.law ht hn (K.rd hx) (d := .held v) (ps := []) rfl
  refine ⟨w', hrun, ⟨_, ho', fun y hy z => ?_⟩, hg⟩
  by_cases e : y = x
  · subst e
    rw [atKey_put_same ho.isMap (K.law.key (K.rd hy)), upd_same]; rfl
  · rw [atKey_put_other (fun q => e (K.inj hy hx q)), upd_ne _ _ e]
    exact hs y hy z
/-- 'delete(m, k)' -/
theorem MapF.del (h : MapF P k lit ok w b n f) (K : KeyT P k κ lit ok) {t e : TypeId} (ht : P.underlying t = some (.map k e)) {x : α} (hx : ok x) (ty : TypeId) :
    ∃ w', (Builtin.delete_ #[t, k] ty #[.map (some b), κ x]).run P w = .ok (.tuple #[]) w' ∧ MapF P k lit ok w' b n (upd f x none) ∧ w.grownBy w' (some b) := by
  obtain ⟨D, ⟨es, clock, hb, F, hn, rfl⟩, hs⟩ := h
  obtain ⟨es', hrun, F', hle, hd, -, -⟩ := fit_drop_who (ty := ty) K.law ht hb F (K.rd hx)
  refine ⟨_, hrun, ⟨_, ⟨es', clock, heap_setBlock_same hb _, F', by omega, rfl⟩, fun y hy z => ?_⟩, ⟨rfl, rfl, rfl, by simp [setBlock], fun i _ hi => heap_setBlock_other hb _ (fun e => hi (by rw [e]))⟩⟩
  have e : (DataW.map ((es'.toList.map (WideElems.rg P k Rv)).foldr DataW.insert [])) = (DataW.map ((es.toList.map (WideElems.rg P k Rv)).foldr DataW.insert [])).del (lit x) := by rw [hd]; rfl
  rw [e]
  by_cases e : y = x
  · subst e
    rw [atKey_del_same, upd_same]; rfl
  · rw [atKey_del_other (fun q => e (K.inj hy hx q)), upd_ne _ _ e]
    exact hs y hy z
omit [DecidableEq α] in
/-- what stands there, as a list of its keys -/
theorem has_of {D : DataW Value} (hs : Says lit ok D f) (hm : IsMap D) {x : α} (hx : ok x) : has D (lit x) = (f x).isSome := by
  obtain ⟨es, rfl⟩ := hm
  have h1 := hs x hx .nil
  have h2 := hs x hx (.lit (.bool true))
  cases hf : f x with
  | none =>
    rw [hf] at h1 h2
    cases hh : has (DataW.map es) (lit x)
    · rfl
    · obtain ⟨p, hp, hk⟩ := List.any_eq_true.1 hh
      simp only [DataW.atKey] at h1 h2
      cases hq : es.find? (fun p => p.1.sameKey (lit x)) with
      | none => exact absurd hk (by simpa using List.find?_eq_none.1 hq p hp)
      | some q =>
        rw [hq] at h1 h2
        simp at h1 h2
        rw [h1] at h2
        cases h2
  | some v =>
    rw [hf] at h1
    cases hh : has (DataW.map es) (lit x)
    · simp only [DataW.atKey] at h1
      have hq : es.find? (fun p => p.1.sameKey (lit x)) = none := List.find?_eq_none.2 (fun p hp => by simpa using List.any_eq_false.1 hh p hp)
      rw [hq] at h1
      simp at h1
    · rfl
omit [DecidableEq α] in
theorem length_sub {β : Type} : ∀ {a c : List β}, a.Nodup → (∀ x ∈ a, x ∈ c) → a.length ≤ c.length
  | [], c, _, _ => Nat.zero_le _
  | x :: a, c, h, hs => by
    obtain ⟨s, t, rfl⟩ := List.append_of_mem (hs x (by simp))
    have hn := List.nodup_cons.1 h
    have : a.length ≤ (s ++ t).length := length_sub hn.2 (fun y hy => by
      have := hs y (by simp [hy])
      simp only [List.mem_append, List.mem_cons] at this ⊢
      rcases this with g | rfl | g
      · exact .inl g
      · exact absurd hy hn.1
      · exact .inr g)
    simp only [List.length_append, List.length_cons] at this ⊢
    omega
omit [DecidableEq α] in
/-- the keys of f -/
def Dom (ok : α → Prop) (f : α → Option Value) (L : List α) : Prop := L.Nodup ∧ ∀ x, (x ∈ L ↔ ok x ∧ (f x).isSome = true)
omit [DecidableEq α] in
theorem MapF.card (h : MapF P k lit ok w b n f) (K : KeyT P k κ lit ok) {L : List α} (hd : Dom ok f L) : ∃ es clock, w.heap[b]? = some (.map es clock) ∧ es.size = L.length ∧ MapF P k lit ok w b L.length f := by
  obtain ⟨D, ho, hs⟩ := h
  obtain ⟨es, clock, hb, F, hn, hD⟩ := id ho
  have hm := ho.isMap
  obtain ⟨ents, he, hpw, hkey⟩ := ho.entries K.law
  have hlen : ents.length = es.size := by
    rw [hD] at he
    simp only [DataW.map.injEq] at he
    rw [← he, length_sorted]
    simp
  have hnd : (ents.map Prod.fst).Nodup := by
    rw [List.Nodup, List.pairwise_map]
    exact hpw
  have hnl : (L.map lit).Nodup := by
    rw [List.Nodup, List.pairwise_map]
    refine List.Pairwise.imp_of_mem ?_ hd.1
    intro x y hx hy hne e
    exact hne (K.inj ((hd.2 x).1 hx).1 ((hd.2 y).1 hy).1 e)
  have e1 : L.length ≤ ents.length := by
    have := length_sub hnl (c := ents.map Prod.fst) (fun l hl => by
      obtain ⟨x, hx, rfl⟩ := List.mem_map.1 hl
      obtain ⟨hok, hsome⟩ := (hd.2 x).1 hx
      have hh := has_of hs hm hok
      rw [hsome, he] at hh
      obtain ⟨p, hp, hk⟩ := List.any_eq_true.1 hh
      exact List.mem_map.2 ⟨p, hp, WideAt.sameKey_eq hk⟩)
    simpa using this
  have e2 : ents.length ≤ L.length := by
    have := length_sub hnd (c := L.map lit) (fun l hl => by
      obtain ⟨p, hp, rfl⟩ := List.mem_map.1 hl
      have hp2 := hp
      have hmem : p ∈ (es.toList.map (WideElems.rg P k Rv)).foldr DataW.insert [] := by
        rw [hD] at he
        simp only [DataW.map.injEq] at he
        rw [he]; exact hp
      obtain ⟨x0, hx0, hx1⟩ := List.mem_map.1 (mem_sorted.1 hmem)
      obtain ⟨y, hy⟩ := F.reads x0 hx0
      have hky := WideElems.rd_key hy
      obtain ⟨x, hok, -, hl2⟩ := K.inv hky
      have hp1 : p.1 = lit x := by rw [← hx1, WideElems.rg_of hy]; exact hl2
      refine List.mem_map.2 ⟨x, (hd.2 x).2 ⟨hok, ?_⟩, hp1.symm⟩
      rw [← has_of hs hm hok, he]
      exact List.any_eq_true.2 ⟨p, hp, by rw [hp1]; exact WideAt.sameKey_self (K.law.key (K.rd hok))⟩)
    simpa using this
  exact ⟨es, clock, hb, by omega, D, ⟨es, clock, hb, F, by omega, hD⟩, hs⟩
/-- under way: 'for k, v := range m' -/
def RangeF (P : Program) (k : TypeId) (lit : α → Lit) (ok : α → Prop) (w : World) (b r n : Nat) (f : α → Option Value) (left : α → Bool) (cnt : Nat) : Prop :=
  ∃ D L, w.ranges P k Rv b r n D L cnt ∧ Says lit ok D f ∧ ∀ x, ok x → L (lit x) = left x
variable {r cnt : Nat} {left : α → Bool}
omit [DecidableEq α] in
theorem RangeF.map (h : RangeF P k lit ok w b r n f left cnt) : MapF P k lit ok w b n f := by
  obtain ⟨D, L, h1, h2, -⟩ := h
  exact ⟨D, h1.owns, h2⟩
omit [DecidableEq α] in
theorem RangeF.lt (h : RangeF P k lit ok w b r n f left cnt) : r < w.heap.size := by obtain ⟨D, L, h1, -⟩ := h; exact h1.lt
omit [DecidableEq α] in
theorem RangeF.ne (h : RangeF P k lit ok w b r n f left cnt) : r ≠ b := by obtain ⟨D, L, h1, -⟩ := h; exact h1.ne
omit [DecidableEq α] in
theorem RangeF.left_eq (h : RangeF P k lit ok w b r n f left cnt) : w.rangeLeft b r = cnt := by obtain ⟨D, L, h1, -⟩ := h; exact h1.left_eq
omit [DecidableEq α] in
theorem RangeF.block (h : RangeF P k lit ok w b r n f left cnt) (hb : w'.heap[b]? = w.heap[b]?) (hr : w'.heap[r]? = w.heap[r]?) : RangeF P k lit ok w' b r n f left cnt := by
  obtain ⟨D, L, ⟨es, clock, since, seen, c0, h1, h2, h3, h4, h5, h6⟩, g⟩ := h
  exact ⟨D, L, ⟨es, clock, since, seen, c0, hb.trans h1, h2, h3, h4, hr.trans h5, h6⟩, g⟩
omit [DecidableEq α] in
theorem RangeF.below (h : RangeF P k lit ok w b r n f left cnt) (hb : Below w.heap.size w w') : RangeF P k lit ok w' b r n f left cnt := h.block (hb.block _ h.map.lt) (hb.block _ h.lt)
omit [DecidableEq α] in
theorem RangeF.row_ne {g : Nat} {cs : Array Value} {t : TypeId} {fr : Nat × Nat} (h : RangeF P k lit ok w b r n f left cnt) (hg : w.heap[g]? = some (.cells cs t fr)) : b ≠ g ∧ r ≠ g := by
  refine ⟨h.map.row_ne hg, ?_⟩
  obtain ⟨D, L, ⟨es, clock, since, seen, c0, h1, h2, h3, h4, h5, h6⟩, g⟩ := h
  intro e
  subst e
  rw [hg] at h5
  cases h5
omit [DecidableEq α] in
theorem RangeF.congr {g : α → Option Value} {left' : α → Bool} (h : RangeF P k lit ok w b r n f left cnt) (e : ∀ x, ok x → f x = g x) (el : ∀ x, ok x → left x = left' x) : RangeF P k lit ok w b r n g left' cnt := by
  obtain ⟨D, L, h1, h2, h3⟩ := h
  exact ⟨D, L, h1, fun x hx z => by rw [h2 x hx z, e x hx], fun x hx => (h3 x hx).trans (el x hx)⟩
omit [DecidableEq α] in
/-- 'range m' -/
theorem MapF.range (h : MapF P k lit ok w b n f) (K : KeyT P k κ lit ok) {t e : TypeId} (ht : P.underlying t = some (.map k e)) :
    ∃ w' cnt, (Instr.range t (.map (some b))).run P w = .ok (.pointer (some ⟨w.heap.size, 0, none⟩)) w' ∧ RangeF P k lit ok w' b w.heap.size n f (fun x => (f x).isSome) cnt ∧ w.grownBy w' none ∧ w'.heap.size = w.heap.size + 1 := by
  obtain ⟨D, ho, hs⟩ := h
  obtain ⟨w', hrun, hr, hg, hz⟩ := ho.range K.law ht
  exact ⟨w', _, hrun, ⟨D, _, hr, hs, fun x hx => has_of hs ho.isMap hx⟩, hg, hz⟩
/-- the step -/
theorem RangeF.next (h : RangeF P k lit ok w b r n f left cnt) (K : KeyT P k κ lit ok) (ty : TypeId) :
    (cnt = 0 ∧ (∀ x, ok x → left x = false) ∧ (Instr.next (.pointer (some ⟨r, 0, none⟩)) false ty).run P w = .ok (.tuple #[.bool false]) w) ∨
    ∃ x v w' cnt', ok x ∧ left x = true ∧ f x = some v ∧ (Instr.next (.pointer (some ⟨r, 0, none⟩)) false ty).run P w = .ok (.tuple #[.bool true, κ x, v]) w' ∧
      RangeF P k lit ok w' b r n f (fun y => left y && !decide (y = x)) cnt' ∧ cnt' < cnt ∧ w.grownBy w' (some r) ∧ w'.heap.size = w.heap.size ∧ (Instr.entry (.pointer (some ⟨r, 0, none⟩))).run P w' = .ok (.tuple #[κ x, v]) w' := by
  obtain ⟨D, L, hr, hs, hl⟩ := h
  rcases hr.next K.law ty with ⟨h0, hn, hrun⟩ | ⟨key, v, kl, y, w', cnt', hkey, hlk, hv, hat, hrun, hr', hlt, hg, hz, hen⟩
  · exact .inl ⟨h0, fun x hx => by rw [← hl x hx]; exact hn _, hrun⟩
  · obtain ⟨x, hok, rfl, rfl⟩ := K.inv hkey
    have hf : f x = some v := by
      unfold Rv at hv
      simp only [Option.some.injEq] at hv
      have := (hat .nil).symm.trans (hs x hok .nil)
      rw [← hv] at this
      cases hf : f x with
      | none => rw [hf] at this; simp at this
      | some u => rw [hf] at this; simp at this; rw [this]
    refine .inr ⟨x, v, w', cnt', hok, by rw [← hl x hok]; exact hlk, hf, hrun, ⟨D, _, hr', hs, fun y hy => ?_⟩, hlt, hg, hz, hen⟩
    show (L (lit y) && !(lit y).sameKey (lit x)) = _
    rw [hl y hy]
    by_cases e : y = x
    · subst e
      rw [WideAt.sameKey_self (K.law.key (K.rd hy))]
      simp
    · rw [sameKey_ne (fun q => e (K.inj hy hok q))]
      simp [e]
/-- 'delete(m, k)' in the round -/
theorem RangeF.del (h : RangeF P k lit ok w b r n f left cnt) (K : KeyT P k κ lit ok) {t e : TypeId} (ht : P.underlying t = some (.map k e)) {x : α} (hx : ok x) (ty : TypeId) :
    ∃ w' cnt', (Builtin.delete_ #[t, k] ty #[.map (some b), κ x]).run P w = .ok (.tuple #[]) w' ∧ RangeF P k lit ok w' b r n (upd f x none) (fun y => left y && !decide (y = x)) cnt' ∧ cnt' ≤ cnt ∧ w.grownBy w' (some b) := by
  obtain ⟨D, L, hr, hs, hl⟩ := h
  obtain ⟨w', cnt', hrun, hr', hle, ht'⟩ := hr.drop K.law ht (K.rd hx) ty
  refine ⟨w', cnt', hrun, ⟨_, _, hr', fun y hy z => ?_, fun y hy => ?_⟩, hle, ?_⟩
  · by_cases e : y = x
    · subst e
      rw [atKey_del_same, upd_same]; rfl
    · rw [atKey_del_other (fun q => e (K.inj hy hx q)), upd_ne _ _ e]
      exact hs y hy z
  · show (L (lit y) && !(lit y).sameKey (lit x)) = _
    rw [hl y hy]
    by_cases e : y = x
    · subst e
      rw [WideAt.sameKey_self (K.law.key (K.rd hy))]
      simp
    · rw [sameKey_ne (fun q => e (K.inj hy hx q))]
      simp [e]
  · obtain ⟨es, clock, es', clock', hb, rfl⟩ := ht'
    exact ⟨rfl, rfl, rfl, by simp [setBlock], fun i _ hi => heap_setBlock_other hb _ (fun e => hi (by rw [e]))⟩
/-! ### at the operations -/
section
variable {ops : Array Oper} {rest : List Oper} {o : Oper} {a : Act} {Q : Exit → Act → World → Prop}
theorem wp_put (hg : o.guard = none) (m kx vx : Operand) (t : TypeId) (hop : o.op = Op.mapUpdate t m kx vx) (K : KeyT P k κ lit ok) {e : TypeId} (ht : P.underlying t = some (.map k e)) (b n : Nat) (f : α → Option Value)
    (hm : a.eval m = .map (some b)) (h : MapF P k lit ok w b n f) (hn : n < maxLen) (x : α) (hx : ok x) (v : Value) (hk : a.eval kx = κ x) (hv : a.eval vx = v)
    (hK : ∀ w', MapF P k lit ok w' b (n + 1) (upd f x (some v)) → w.grownBy w' (some b) → wpList P ops Q rest (a.put o.dst undef) w') : wpList P ops Q (o :: rest) a w := by
  refine wpList_plain hg fun K' hK' => ?_
  obtain ⟨w', hrun, r1, r2⟩ := h.put K ht hn hx v
  unfold Oper.wp
  simp [execOp, hop, hm, hk, hv, hrun, Result.andThen]
  exact hK' _ _ (hK w' r1 r2)
theorem wp_del (hg : o.guard = none) (m kx : Operand) (t : TypeId) (hop : o.op = Op.call { callee := Callee.builtin Builtin.delete, args := #[m, kx], argTypes := #[t, k] }) (K : KeyT P k κ lit ok) {e : TypeId} (ht : P.underlying t = some (.map k e)) (b n : Nat) (f : α → Option Value)
    (hm : a.eval m = .map (some b)) (h : MapF P k lit ok w b n f) (x : α) (hx : ok x) (hk : a.eval kx = κ x)
    (hK : ∀ w', MapF P k lit ok w' b n (upd f x none) → w.grownBy w' (some b) → wpList P ops Q rest (a.put o.dst (.tuple #[])) w') : wpList P ops Q (o :: rest) a w := by
  refine wpList_plain hg fun K' hK' => ?_
  obtain ⟨w', hrun, r1, r2⟩ := h.del K ht hx o.type
  unfold Oper.wp
  simp [execOp, hop, resolve, invoke, builtin, hm, hk, hrun, Result.andThen]
  exact hK' _ _ (hK w' r1 r2)
theorem wp_delR (hg : o.guard = none) (m kx : Operand) (t : TypeId) (hop : o.op = Op.call { callee := Callee.builtin Builtin.delete, args := #[m, kx], argTypes := #[t, k] }) (K : KeyT P k κ lit ok) {e : TypeId} (ht : P.underlying t = some (.map k e)) (b r n : Nat) (f : α → Option Value) (left : α → Bool) (cnt : Nat)
    (hm : a.eval m = .map (some b)) (h : RangeF P k lit ok w b r n f left cnt) (x : α) (hx : ok x) (hk : a.eval kx = κ x)
    (hK : ∀ w' cnt', RangeF P k lit ok w' b r n (upd f x none) (fun y => left y && !decide (y = x)) cnt' → cnt' ≤ cnt → w.grownBy w' (some b) → wpList P ops Q rest (a.put o.dst (.tuple #[])) w') : wpList P ops Q (o :: rest) a w := by
  refine wpList_plain hg fun K' hK' => ?_
  obtain ⟨w', cnt', hrun, r1, r2, r3⟩ := h.del K ht hx o.type
  unfold Oper.wp
  simp [execOp, hop, resolve, invoke, builtin, hm, hk, hrun, Result.andThen]
  exact hK' _ _ (hK w' cnt' r1 r2 r3)
omit [DecidableEq α] in
theorem wp_range (hg : o.guard = none) (m : Operand) (t : TypeId) (hop : o.op = Op.range t m) (K : KeyT P k κ lit ok) {e : TypeId} (ht : P.underlying t = some (.map k e)) (b n : Nat) (f : α → Option Value)
    (hm : a.eval m = .map (some b)) (h : MapF P k lit ok w b n f)
    (hK : ∀ w' cnt, RangeF P k lit ok w' b w.heap.size n f (fun x => (f x).isSome) cnt → w.grownBy w' none → w'.heap.size = w.heap.size + 1 → wpList P ops Q rest (a.put o.dst (.pointer (some ⟨w.heap.size, 0, none⟩))) w') : wpList P ops Q (o :: rest) a w := by
  refine wpList_plain hg fun K' hK' => ?_
  obtain ⟨w', cnt, hrun, r1, r2, r3⟩ := h.range K ht
  unfold Oper.wp
  simp [execOp, hop, hm, hrun, Result.andThen]
  exact hK' _ _ (hK w' cnt r1 r2 r3)
theorem wp_next (hg : o.guard = none) (it : Operand) (hop : o.op = Op.next it false) (K : KeyT P k κ lit ok) (b r n : Nat) (f : α → Option Value) (left : α → Bool) (cnt : Nat)
    (hit : a.eval it = .pointer (some ⟨r, 0, none⟩)) (h : RangeF P k lit ok w b r n f left cnt)
    (hDone : cnt = 0 → (∀ x, ok x → left x = false) → wpList P ops Q rest (a.put o.dst (.tuple #[.bool false])) w)
    (hMore : ∀ (x : α) (v : Value) (w' : World) (cnt' : Nat), ok x → left x = true → f x = some v → RangeF P k lit ok w' b r n f (fun y => left y && !decide (y = x)) cnt' → cnt' < cnt → w.grownBy w' (some r) → w'.heap.size = w.heap.size →
      (Instr.entry (.pointer (some ⟨r, 0, none⟩))).run P w' = .ok (.tuple #[κ x, v]) w' → wpList P ops Q rest (a.put o.dst (.tuple #[.bool true, κ x, v])) w') : wpList P ops Q (o :: rest) a w := by
  refine wpList_plain hg fun K' hK' => ?_
  unfold Oper.wp
  rcases h.next K o.type with ⟨h0, hl, hrun⟩ | ⟨x, v, w', cnt', hok, hlx, hf, hrun, r1, r2, r3, r4, r5⟩
  · simp [execOp, hop, hit, hrun, Result.andThen]
    exact hK' _ _ (hDone h0 hl)
  · simp [execOp, hop, hit, hrun, Result.andThen]
    exact hK' _ _ (hMore x v w' cnt' hok hlx hf r1 r2 r3 r4 r5)
end
end
/-! ### keys -/
def okI (x : Int) : Prop := (Lit.int .i64 x).wf = true
theorem intK {P : Program} {k : TypeId} (hk : P.underlying k = some (.int .i64)) : KeyT P k (Value.int .i64) (Lit.int .i64) okI :=
  ⟨int_keyed hk, fun hx => keyOf_int_mk hk hx, fun h => by obtain ⟨x, rfl, rfl, hw⟩ := keyOf_int_inv hk h; exact ⟨x, hw, rfl, rfl⟩, fun _ _ h => by simpa using h⟩
def okS (s : ByteArray) : Prop := s.size ≤ maxLen
theorem strK {P : Program} {k : TypeId} (hk : P.underlying k = some .string) : KeyT P k Value.string (fun s : ByteArray => Lit.string s.data.toList) okS :=
  ⟨string_keyed hk, fun hx => by unfold okS at hx; simp [keyOf, hk, mapKey, hx], fun {v l} h => by
    cases v <;> simp [keyOf, hk, mapKey] at h
    exact ⟨_, h.1, rfl, h.2.symm⟩, fun _ _ h => by
    simp only [Lit.string.injEq] at h
    exact ByteArray.ext (Array.toList_inj.1 h)⟩
end Mp
end Go.Proofs.Ytgbblegcjladaaa
