/- Regions that draw their order: what is known of the world until one operation has come up (a store that ends it), and what is known throughout. An operation for which that one waits may be taken first, if it yields its value wherever the former is known. No condition. -/
import Derived.OrdersHeld
import Derived.Deep.RegionHeld
import Derived.Deep.MidRow
namespace Go.Proofs.Ytgbblegcjladaaa
set_option linter.unusedVariables false
set_option maxRecDepth 100000
namespace Wl
section
variable {P : Program} {ops : Array Oper} {Q : Exit → Act → World → Prop} {k : Nat} {p q : World → Prop}
/-- known of the world: p until number k has come up, q always -/
def Kn (k : Nat) (p q : World → Prop) (L : Array Bool) (w : World) : Prop := (L.getD k true = false → p w) ∧ q w
/-- in any order; behind each operation it is shown what is known -/
def Any (P : Program) (ops : Array Oper) (Q : Exit → Act → World → Prop) (k : Nat) (p q : World → Prop) : Nat → Array Bool → Act → World → Prop
  | 0, L, a, w => Region.ready .any ops L = [] ∧ Q .normal a w
  | n + 1, L, a, w => (Region.ready .any ops L = [] → Q .normal a w) ∧
      ∀ i, i ∈ Region.ready .any ops L → wpOp P ops Q i (fun b u => Kn k p q (L.setIfInBounds i true) u ∧ Any P ops Q k p q n (L.setIfInBounds i true) b u) a w
theorem Any.plain : ∀ (n : Nat) {L : Array Bool} {a : Act} {w : World}, Any P ops Q k p q n L a w → wpAny P .any ops Q n L a w
  | 0, _, _, _, h => h
  | n + 1, _, _, _, h => ⟨h.1, fun i hi => wpOp_mono (fun _ _ g => Any.plain n g.2) (h.2 i hi)⟩
/-- numbers that all wait for number i, k among them -/
def chain (ops : Array Oper) (i k : Nat) (D : List Nat) : Bool :=
  D.contains k && !D.contains i && D.all fun d => ((ops[d]?).map fun o => o.after.any fun e => Region.binds .any e && (e.on == i || D.contains e.on)).getD false
theorem chain_not {i k : Nat} {D : List Nat} (h : chain ops i k D = true) {L : Array Bool} {j : Nat} (hi : L.getD i false = false) (hD : ∀ d ∈ D, L.getD d false = false) (hj : j ∈ Region.ready .any ops L) : j ∉ D := by
  intro hd
  obtain ⟨-, o, ho, hall⟩ := mem_ready.1 hj
  unfold chain at h
  simp only [Bool.and_eq_true, List.all_eq_true] at h
  have g := h.2 j hd
  rw [ho, Option.map_some, Option.getD_some] at g
  obtain ⟨e, he, hb⟩ := Array.any_eq_true'.1 g
  simp only [Bool.and_eq_true, Bool.or_eq_true, beq_iff_eq, List.contains_iff_mem] at hb
  have on := hall e he hb.1
  rcases hb.2 with q | q
  · rw [q, hi] at on; cases on
  · rw [hD _ q] at on; cases on
theorem ready_un {L : Array Bool} {i : Nat} (h : i ∈ Region.ready .any ops L) : L.getD i false = false := by
  have h0 := (mem_ready.1 h).1
  rcases Nat.lt_or_ge i L.size with g | g
  · rw [Array.getD_eq_getD_getElem?, Array.getElem?_eq_getElem g] at h0 ⊢
    exact h0
  · rw [Array.getD_eq_getD_getElem?, Array.getElem?_eq_none g] at h0; cases h0
/-- taken first: the general form: S says what is used of the world, G what keeps the numbers that lead to k behind -/
theorem first {i : Nat} {o : Oper} {v : Value} {S : World → Prop} {G : Array Bool → Prop} (ho : ops[i]? = some o) (hns : ∀ (j : Nat) (x : Oper) cs b, ops[j]? = some x → x.op ≠ .select cs b)
    (hQ : ∀ c a w, Q (.panic c) (a.put o.dst v) w → Q (.panic c) a w) (hik : i ≠ k)
    (hG : ∀ (L : Array Bool) (j : Nat), G L → i ∈ Region.ready .any ops L → j ∈ Region.ready .any ops L → j ≠ i → G (L.setIfInBounds j true))
    (hS : ∀ (L : Array Bool) (w : World), G L → Kn k p q L w → S w) :
    ∀ (n : Nat) (L : Array Bool) (a : Act) (w : World), G L →
      (∀ j x, ops[j]? = some x → j ≠ i → L.getD j true = false → (∀ e ∈ x.after, Region.binds .any e = true → e.on ≠ i) → o.apart ops x = true) →
      i ∈ Region.ready .any ops L → YieldsIf P ops S o v a → Kn k p q L w →
      Any P ops Q k p q n (L.setIfInBounds i true) (a.put o.dst v) w → Any P ops Q k p q (n + 1) L a w := by
  have flag : ∀ (L : Array Bool) (w : World), Kn k p q (L.setIfInBounds i true) w ↔ Kn k p q L w := fun L w => by
    unfold Kn
    rw [getD_set_ne true hik]
  have own : ∀ (n : Nat) (L : Array Bool) (a : Act) (w : World), G L → YieldsIf P ops S o v a → Kn k p q L w → Any P ops Q k p q n (L.setIfInBounds i true) (a.put o.dst v) w →
      wpOp P ops Q i (fun b u => Kn k p q (L.setIfInBounds i true) u ∧ Any P ops Q k p q n (L.setIfInBounds i true) b u) a w := fun n L a w g hy hk h =>
    hy.wpOp ho (hS L w g hk) ⟨(flag L w).2 hk, h⟩
  intro n
  induction n with
  | zero =>
    intro L a w g hfr hr hy hk h
    refine ⟨fun e => absurd hr (by rw [e]; exact List.not_mem_nil), fun j hj => ?_⟩
    rcases Decidable.em (j = i) with rfl | hji
    · exact own 0 L a w g hy hk h
    · exact absurd (ready_mono hj hji) (by rw [h.1]; exact List.not_mem_nil)
  | succ n ih =>
    intro L a w g hfr hr hy hk h
    refine ⟨fun e => absurd hr (by rw [e]; exact List.not_mem_nil), fun j hj => ?_⟩
    rcases Decidable.em (j = i) with rfl | hji
    · exact own (n + 1) L a w g hy hk h
    · obtain ⟨hun, x, hx, hall⟩ := mem_ready.1 hj
      have hno : ∀ e ∈ x.after, Region.binds .any e = true → e.on ≠ i := fun e he hb q => by
        have on := hall e he hb
        rw [q, ready_un hr] at on
        cases on
      have step := wpOp_putIf hx (hfr j x hx hji hun hno) (fun cs b => hns i o cs b ho) (fun cs b => hns j x cs b hx) hQ hy (h.2 j (ready_mono hj hji))
      have hr2 : i ∈ Region.ready .any ops (L.setIfInBounds j true) := ready_mono hr (fun e => hji e.symm)
      refine wpOp_mono (fun b u ⟨hyb, hkb, hb⟩ => ?_) step
      rw [Array.setIfInBounds_comm _ _ (fun e => hji e.symm)] at hkb hb
      have hkj := (flag _ u).1 hkb
      refine ⟨hkj, ih (L.setIfInBounds j true) b u (hG L j g hr hj hji) (fun j2 x2 hx2 hne hun2 hno2 => hfr j2 x2 hx2 hne ?_ hno2) hr2 hyb hkj hb⟩
      rcases Decidable.em (j = j2) with rfl | hjj
      · exact hun
      · rw [getD_set_ne true hjj] at hun2; exact hun2
/-- taken first: a load, number k waiting for it -/
theorem take {i : Nat} {o : Oper} {v : Value} {n : Nat} {L : Array Bool} {a : Act} {w : World} (D : List Nat) (ho : ops[i]? = some o)
    (hs : Region.noSelect ops = true) (hf : Region.free .any ops L i = true) (hr : (Region.ready .any ops L).contains i = true) (hc : chain ops i k D = true) (hD : (D.all fun d => !L.getD d true) = true)
    (hQ : ∀ c a w, Q (.panic c) (a.put o.dst v) w → Q (.panic c) a w) (hy : YieldsIf P ops (fun w => p w ∧ q w) o v a) (hk : Kn k p q L w)
    (h : Any P ops Q k p q n (L.setIfInBounds i true) (a.put o.dst v) w) : Any P ops Q k p q (n + 1) L a w := by
  have hc2 := hc
  unfold chain at hc2
  simp only [Bool.and_eq_true, Bool.not_eq_true', List.contains_iff_mem] at hc2
  have hkD : k ∈ D := hc2.1.1
  have hiD : i ∉ D := fun q => by
    have := hc2.1.2
    rw [List.contains_iff_mem.2 q] at this
    cases this
  have conv : ∀ (M : Array Bool) (d : Nat), M.getD d true = false → M.getD d false = false := fun M d h => by
    rcases Nat.lt_or_ge d M.size with g | g
    · rw [Array.getD_eq_getD_getElem?, Array.getElem?_eq_getElem g] at h ⊢
      exact h
    · rw [Array.getD_eq_getD_getElem?, Array.getElem?_eq_none g] at h; cases h
  refine first (S := fun w => p w ∧ q w) (G := fun M => ∀ d ∈ D, M.getD d true = false) ho (fun j x cs b hx => Region.noSelect_spec hs j x cs b hx) hQ (fun e => hiD (e ▸ hkD)) ?_ ?_ n L a w ?_ (fun j x hx => Region.free_spec ho hf j x hx) (by simpa using hr) hy hk h
  · intro M j hM hi hj hji d hd
    have : j ∉ D := chain_not hc (ready_un hi) (fun d hd => conv M d (hM d hd)) hj
    rw [getD_set_ne true (fun e => this (by rw [e]; exact hd))]
    exact hM d hd
  · intro M u hM hK
    exact ⟨hK.1 (hM k hkD), hK.2⟩
  · intro d hd
    have := List.all_eq_true.1 hD d hd
    simpa using this
/-- taken first: whatever yields its value wherever q holds -/
theorem take0 {i : Nat} {o : Oper} {v : Value} {n : Nat} {L : Array Bool} {a : Act} {w : World} (ho : ops[i]? = some o)
    (hs : Region.noSelect ops = true) (hf : Region.free .any ops L i = true) (hr : (Region.ready .any ops L).contains i = true) (hik : (i == k) = false)
    (hQ : ∀ c a w, Q (.panic c) (a.put o.dst v) w → Q (.panic c) a w) (hy : YieldsIf P ops q o v a) (hk : Kn k p q L w)
    (h : Any P ops Q k p q n (L.setIfInBounds i true) (a.put o.dst v) w) : Any P ops Q k p q (n + 1) L a w :=
  first (S := q) (G := fun _ => True) ho (fun j x cs b hx => Region.noSelect_spec hs j x cs b hx) hQ (fun e => by rw [e] at hik; simp at hik) (fun _ _ _ _ _ _ => trivial) (fun _ _ _ hK => hK.2) n L a w trivial (fun j x hx => Region.free_spec ho hf j x hx) (by simpa using hr) hy hk h
/-- the one that comes up -/
theorem one {i : Nat} {o : Oper} {n : Nat} {L : Array Bool} {a : Act} {w : World} (hr : Region.ready .any ops L = [i]) (ho : ops[i]? = some o)
    (h : ∀ K : Act → World → Prop, Shut (∀ a w, Kn k p q (L.setIfInBounds i true) w → (Kn k p q (L.setIfInBounds i true) w → Any P ops Q k p q n (L.setIfInBounds i true) a w) → K a w) → if Region.wanted o (yielded ops a.tmps) = true then Oper.wp P o a w K Q else K (a.put o.dst undef) w) :
    Any P ops Q k p q (n + 1) L a w := by
  refine ⟨fun e => (by rw [hr] at e; cases e), fun j hj => ?_⟩
  rw [hr, List.mem_singleton] at hj
  subst hj
  exact wpOp_step ho (fun K hK => h K (fun a w h1 h2 => hK a w ⟨h1, h2 h1⟩))
/-- one of two -/
theorem two {i j : Nat} {o x : Oper} {n : Nat} {L : Array Bool} {a : Act} {w : World} (hr : Region.ready .any ops L = [i, j]) (ho : ops[i]? = some o) (hx : ops[j]? = some x)
    (h : ∀ K : Act → World → Prop, Shut (∀ a w, Kn k p q (L.setIfInBounds i true) w → (Kn k p q (L.setIfInBounds i true) w → Any P ops Q k p q n (L.setIfInBounds i true) a w) → K a w) → if Region.wanted o (yielded ops a.tmps) = true then Oper.wp P o a w K Q else K (a.put o.dst undef) w)
    (g : ∀ K : Act → World → Prop, Shut (∀ a w, Kn k p q (L.setIfInBounds j true) w → (Kn k p q (L.setIfInBounds j true) w → Any P ops Q k p q n (L.setIfInBounds j true) a w) → K a w) → if Region.wanted x (yielded ops a.tmps) = true then Oper.wp P x a w K Q else K (a.put x.dst undef) w) :
    Any P ops Q k p q (n + 1) L a w := by
  refine ⟨fun e => (by rw [hr] at e; cases e), fun l hl => ?_⟩
  rw [hr, List.mem_cons, List.mem_singleton] at hl
  rcases hl with rfl | rfl
  · exact wpOp_step ho (fun K hK => h K (fun a w h1 h2 => hK a w ⟨h1, h2 h1⟩))
  · exact wpOp_step hx (fun K hK => g K (fun a w h1 h2 => hK a w ⟨h1, h2 h1⟩))
theorem done {L : Array Bool} {a : Act} {w : World} (hr : Region.ready .any ops L = []) (h : Q .normal a w) : ∀ n, Any P ops Q k p q n L a w
  | 0 => ⟨hr, h⟩
  | _ + 1 => ⟨fun _ => h, fun i hi => by rw [hr] at hi; cases hi⟩
theorem Kn.on {L : Array Bool} {w : World} (h1 : p w) (h2 : q w) : Kn k p q L w := ⟨fun _ => h1, h2⟩
theorem Kn.off {L : Array Bool} {w : World} (h : L.getD k true = true) (h2 : q w) : Kn k p q L w := ⟨fun e => (by rw [h] at e; cases e), h2⟩
/-- the beginning -/
theorem start {id : Nat} {a : Act} {w : World} (k : Nat) (p q : World → Prop) (hm : P.follows .mixedOrders = true) (h1 : p w.drew) (h2 : q w.drew)
    (h : Kn k p q (Array.replicate ops.size false) w.drew → Any P ops Q k p q ops.size (Array.replicate ops.size false) a w.drew) : (Code.region id ops true).wp P Q a w :=
  wp_region_any hm (Any.plain _ (h (Kn.on h1 h2)))
end
theorem rng_of_row {w : World} {g : Nat} {cs : Array Value} {t : TypeId} {fr : Nat × Nat} (h : w.heap[g]? = some (.cells cs t fr)) : w.rangeAt g 0 cs.toList := fun j v hv => by
  rw [Nat.zero_add, World.cell?, h, ← hv]
  simp
end Wl
end Go.Proofs.Ytgbblegcjladaaa
