/- What a command does to a ledger: what comes out may be; what comes twice does nothing the second time; on lists. No condition. -/
import Derived.Test.YtgbblegcjladaaaLaA
import Derived.Test.YtgbblegcjladaaaLedO
namespace Go.Proofs.Ytgbblegcjladaaa
set_option linter.unusedVariables false
set_option maxRecDepth 100000
namespace La
open Ld Cm

theorem u64_zero {n : Int} (h : (Lit.int .i64 n).wf = true) : u64 n = 0 ↔ n = 0 := by
  have := bounds_i64 h
  unfold u64
  split <;> omega
theorem u64_small {n k : Int} (h : (Lit.int .i64 n).wf = true) (hk : k ≤ 65535) (h1 : 1 ≤ u64 n) (h2 : u64 n ≤ k) : 1 ≤ n ∧ n ≤ k := by
  have := bounds_i64 h
  unfold u64 at h1 h2
  split at h1 <;> split at h2 <;> omega
theorem chk_of {c : Cmd} (h : chkC c = true) : kindB c.kind = true ∧ ∀ f, f < 7 → okF c f = true := by
  unfold chkC at h
  rw [Bool.and_eq_true, List.all_eq_true] at h
  exact ⟨h.1, fun f hf => h.2 f (List.mem_range.2 hf)⟩
theorem chk_kind {c : Cmd} (h : chkC c = true) : 1 ≤ c.kind ∧ c.kind ≤ 6 := of_decide_eq_true (chk_of h).1
theorem chk_req {c : Cmd} (hw : c.wf) (h : chkC c = true) (hk : c.kind = 3 ∨ c.kind = 4 ∨ c.kind = 5) : 1 ≤ c.node ∧ c.node ≤ 7 ∧ 1 ≤ c.boot ∧ 1 ≤ c.seq := by
  obtain ⟨h1, h2⟩ := chk_of h
  have f0 := h2 0 (by omega)
  have f1 := h2 1 (by omega)
  have f2 := h2 2 (by omega)
  have e0 : ((0 : Nat) : Int) ∈ fieldsL c.kind := by rcases hk with h | h | h <;> rw [h] <;> decide
  have e1 : ((1 : Nat) : Int) ∈ fieldsL c.kind := by rcases hk with h | h | h <;> rw [h] <;> decide
  have e2 : ((2 : Nat) : Int) ∈ fieldsL c.kind := by rcases hk with h | h | h <;> rw [h] <;> decide
  unfold okF at f0 f1 f2
  rw [if_pos e0] at f0
  rw [if_pos e1] at f1
  rw [if_pos e2] at f2
  have g0 : 1 ≤ numF c 0 ∧ numF c 0 ≤ 7 := of_decide_eq_true f0
  have g1 : 1 ≤ numF c 1 := of_decide_eq_true f1
  have g2 : 1 ≤ numF c 2 := of_decide_eq_true f2
  have := u64_small hw.2.1 (by omega) g0.1 g0.2
  exact ⟨this.1, this.2, g1, g2⟩

theorem hOk_mono {L N M : Int} (hN : N ≤ M) {x : Held} (h : hOk L N x) : hOk L M x := by
  obtain ⟨h1, h2, h3, h4, h5, h6, h7, h8⟩ := h
  exact ⟨h1, h2, h3, h4, h5, h6, h7, by omega⟩
theorem ansOk_mono {L N M a b c : Int} (hN : N ≤ M) (h : ansOk L N a b c) : ansOk L M a b c := by
  rcases h with ⟨h1, h2, h3, h4, h5⟩ | h
  · exact .inl ⟨h1, h2, h3, h4, by omega⟩
  · exact .inr h
theorem lOk_mono {L N M : Int} (hN : N ≤ M) {x : LastR} (h : lOk L N x) : lOk L M x := ⟨h.1, h.2.1, h.2.2.1, h.2.2.2.1, ansOk_mono hN h.2.2.2.2⟩
theorem lastP_mono {L N M : Int} (hN : N ≤ M) {l : List LastR} (h : lastP L N l) : lastP L M l := ⟨h.1, fun x hx => lOk_mono hN (h.2 x hx)⟩
theorem heldP_mono {L N M : Int} (hN : N ≤ M) {l : List Held} (h : heldP L N l) : heldP L M l := ⟨h.1, fun x hx => hOk_mono hN (h.2 x hx)⟩

theorem cut_sub {α : Type} (k : Nat) (l : List α) : (cutAt k l).Sublist l := by
  unfold cutAt
  rw [← List.eraseIdx_eq_take_drop_succ]
  exact List.eraseIdx_sublist l k
theorem pair_put {α : Type} {R : α → α → Prop} {l : List α} {k : Nat} {x : α} (h : l.Pairwise R) (h1 : ∀ y ∈ l.take k, R y x) (h2 : ∀ y ∈ l.drop k, R x y) : (putAt k x l).Pairwise R := by
  unfold putAt
  rw [← List.take_append_drop k l, List.pairwise_append] at h
  obtain ⟨a, b, c⟩ := h
  rw [List.pairwise_append, List.pairwise_cons]
  refine ⟨a, ⟨h2, b⟩, fun y hy z hz => ?_⟩
  rcases List.mem_cons.1 hz with rfl | hz
  · exact h1 y hy
  · exact c y hy z hz
theorem mem_put {α : Type} {l : List α} {k : Nat} {x y : α} : y ∈ putAt k x l ↔ y = x ∨ y ∈ l := by
  unfold putAt
  have h : y ∈ l ↔ y ∈ l.take k ∨ y ∈ l.drop k := by rw [← List.mem_append, List.take_append_drop]
  rw [List.mem_append, List.mem_cons, h]
  constructor
  · rintro (h | h | h)
    · exact .inr (.inl h)
    · exact .inl h
    · exact .inr (.inr h)
  · rintro (h | h | h)
    · exact .inr (.inl h)
    · exact .inl h
    · exact .inr (.inr h)
theorem len_put {α : Type} (l : List α) (k : Nat) (x : α) : (putAt k x l).length = l.length + 1 := by
  unfold putAt
  simp only [List.length_append, List.length_cons, List.length_take, List.length_drop]
  omega
theorem len_cut {α : Type} (l : List α) (k : Nat) : (cutAt k l).length ≤ l.length := (cut_sub k l).length_le

/-- what a command leaves as it was or brings about, beside its rows -/
structure Goes (l : Led) (a : Ans) (m : Led) : Prop where
  limit : m.limit = l.limit
  next : l.next ≤ m.next
  top : m.next ≤ 18446744073709551615
  ok : heldP m.limit m.next m.held
  short : m.held.length ≤ 64
  ans : ansOk m.limit m.next a.code a.token a.serial

theorem full_not {l : Led} (h : full l = false) : (gap 0 l.held : Int) + 1 ≤ l.limit ∧ l.held.length < 64 ∧ l.next ≠ 18446744073709551615 := by
  unfold full at h
  have := of_decide_eq_false h
  omega
theorem grant_held {l : Led} {i : Int} {c : Cmd} (hp : heldP l.limit l.next l.held) (hc : 1 ≤ c.node ∧ c.node ≤ 7 ∧ 1 ≤ c.boot) (hi : i ≠ 0) (hn : 1 ≤ l.next) (hf : full l = false) :
    heldP l.limit (l.next + 1) (putAt (gap 0 l.held) (newRow l i c) l.held) := by
  obtain ⟨f1, f2, f3⟩ := full_not hf
  have hs : ∀ y ∈ l.held, y.serial < l.next := fun y hy => (hp.2 y hy).2.2.2.2.2.2.2
  refine ⟨pair_put hp.1 (fun y hy => ⟨gap_ahead y hy, ?_⟩) (fun y hy => ⟨gap_behind hp y hy, ?_⟩), fun x hx => ?_⟩
  · have := hs y (List.mem_of_mem_take hy)
    show y.serial ≠ l.next
    omega
  · have := hs y (List.mem_of_mem_drop hy)
    show l.next ≠ y.serial
    omega
  · rcases mem_put.1 hx with rfl | hx
    · refine ⟨?_, f1, hc.1, hc.2.1, ?_, hi, ?_, ?_⟩
      · show (1 : Int) ≤ (gap 0 l.held : Int) + 1; omega
      · show c.boot ≠ 0; omega
      · show l.next ≠ 0; omega
      · show l.next < l.next + 1; omega
    · exact hOk_mono (by omega) (hp.2 x hx)
theorem set_keys {l : List Held} {k : Nat} {x y : Held} (hx : l[k]? = some x) (ht : y.token = x.token) (hs : y.serial = x.serial) (h : l.Pairwise hLt) : (l.set k y).Pairwise hLt := by
  rw [List.pairwise_iff_getElem] at h ⊢
  obtain ⟨hk, rfl⟩ := List.getElem?_eq_some_iff.1 hx
  intro i j hi hj hij
  rw [List.length_set] at hi hj
  have h0 := h i j hi hj hij
  rw [List.getElem_set, List.getElem_set]
  unfold hLt at h0 ⊢
  split <;> split
  · omega
  · subst_vars; rw [ht, hs]; exact h0
  · subst_vars; rw [ht, hs]; exact h0
  · exact h0
theorem exec_goes {l : Led} {i : Int} {c : Cmd} (h : LedP l) (hw : l.wf) (hc : c.kind = 3 → 1 ≤ c.node ∧ c.node ≤ 7 ∧ 1 ≤ c.boot) (hi : i ≠ 0) : Goes l (execL l i c).2 (execL l i c).1 := by
  obtain ⟨h1, h2, h3, h4, h5, h6⟩ := h
  have hn := bounds_u64 hw.2.1
  have hn1 : 1 ≤ l.next := by omega
  unfold execL
  by_cases hk : c.kind = 3
  · rw [if_pos hk]
    unfold grantL
    by_cases hf : full l = true
    · rw [if_pos hf]
      exact ⟨rfl, Int.le_refl _, hn.2, h5, h4, .inr (by dsimp only; decide)⟩
    · rw [if_neg hf]
      have hf' : full l = false := by simpa using hf
      obtain ⟨f1, f2, f3⟩ := full_not hf'
      refine ⟨rfl, by show l.next ≤ l.next + 1; omega, by show l.next + 1 ≤ _; omega, grant_held h5 (hc hk) hi hn1 hf', by show (putAt _ _ _).length ≤ 64; rw [len_put]; omega, .inl ⟨rfl, ?_, f1, hn1, ?_⟩⟩
      · show (1 : Int) ≤ (gap 0 l.held : Int) + 1; omega
      · show l.next < l.next + 1; omega
  · rw [if_neg hk]
    split
    · exact ⟨rfl, Int.le_refl _, hn.2, h5, h4, .inr (by dsimp only; decide)⟩
    · rename_i x hx
      by_cases h4k : c.kind = 4
      · rw [if_pos h4k]
        refine ⟨rfl, Int.le_refl _, hn.2, ⟨set_keys hx rfl rfl h5.1, fun y hy => ?_⟩, by show (List.set _ _ _).length ≤ 64; rw [List.length_set]; exact h4, .inr (by dsimp only; decide)⟩
        rcases List.mem_or_eq_of_mem_set hy with hy | rfl
        · exact h5.2 y hy
        · obtain ⟨q1, q2, q3, q4, q5, q6, q7, q8⟩ := h5.2 x (List.mem_of_getElem? hx)
          exact ⟨q1, q2, q3, q4, q5, hi, q7, q8⟩
      · rw [if_neg h4k]
        refine ⟨rfl, Int.le_refl _, hn.2, ⟨h5.1.sublist (cut_sub _ _), fun y hy => h5.2 y ((cut_sub _ _).subset hy)⟩, Nat.le_trans (len_cut _ _) h4, .inr (by dsimp only; decide)⟩

/-! ### the last requests -/
theorem pos_le (n : Int) (l : List LastR) : posL n l ≤ l.length := List.findIdx_le_length
theorem pos_ahead {n : Int} {l : List LastR} : ∀ x ∈ l.take (posL n l), x.node < n := by
  intro x hx
  obtain ⟨j, hj, rfl⟩ := List.mem_take_iff_getElem.1 hx
  have h := List.not_of_lt_findIdx (p := fun r : LastR => decide (n ≤ r.node)) (xs := l) (i := j) (by unfold posL at hj; omega)
  simp at h
  exact h
theorem pos_at {n : Int} {l : List LastR} {r : LastR} (h : l[posL n l]? = some r) : n ≤ r.node := by
  obtain ⟨hj, rfl⟩ := List.getElem?_eq_some_iff.1 h
  have := List.findIdx_getElem (p := fun r : LastR => decide (n ≤ r.node)) (xs := l) (w := hj)
  exact of_decide_eq_true this
theorem pos_behind {L N n : Int} {l : List LastR} (hp : lastP L N l) (h : ∀ r, l[posL n l]? = some r → r.node ≠ n) : ∀ x ∈ l.drop (posL n l), n < x.node := by
  intro x hx
  obtain ⟨j, hj, rfl⟩ := List.mem_iff_getElem.1 hx
  rw [List.length_drop] at hj
  rw [List.getElem_drop]
  have h1 := h _ (rgetD (by omega : posL n l < l.length))
  have h2 := pos_at (rgetD (by omega : posL n l < l.length))
  cases j with
  | zero => simp only [Nat.add_zero]; omega
  | succ j =>
    have h3 := List.pairwise_iff_getElem.1 hp.1 (posL n l) (posL n l + (j + 1)) (by omega) (by omega) (by omega)
    omega
theorem pos_found {L N : Int} {l : List LastR} (hp : lastP L N l) {r : LastR} (hr : r ∈ l) : l[posL r.node l]? = some r := by
  obtain ⟨j, hj, rfl⟩ := List.mem_iff_getElem.1 hr
  have hlt : posL l[j].node l ≤ j := by
    rcases Nat.lt_or_ge j (posL l[j].node l) with h | h
    · have := pos_ahead (n := l[j].node) (l := l) l[j] (List.mem_take_iff_getElem.2 ⟨j, by omega, rfl⟩)
      omega
    · exact h
  have h2 := pos_at (rgetD (by omega : posL l[j].node l < l.length))
  rcases Nat.lt_or_ge (posL l[j].node l) j with h | h
  · have := List.pairwise_iff_getElem.1 hp.1 _ j (by omega) hj h
    omega
  · have e : posL l[j].node l = j := by omega
    rw [e]
    exact rgetD hj
theorem last_ok {L N : Int} {c : Cmd} {a : Ans} (hc : 1 ≤ c.node ∧ c.node ≤ 7 ∧ 1 ≤ c.boot ∧ 1 ≤ c.seq) (ha : ansOk L N a.code a.token a.serial) : lOk L N (lastOf c a) := by
  refine ⟨hc.1, hc.2.1, ?_, ?_, ha⟩
  · show c.boot ≠ 0; omega
  · show c.seq ≠ 0; omega
theorem put_last {L N : Int} {l : List LastR} {c : Cmd} {a : Ans} (hp : lastP L N l) (hc : 1 ≤ c.node ∧ c.node ≤ 7 ∧ 1 ≤ c.boot ∧ 1 ≤ c.seq) (ha : ansOk L N a.code a.token a.serial) (h : ∀ r, l[posL c.node l]? = some r → r.node ≠ c.node) :
    lastP L N (putAt (posL c.node l) (lastOf c a) l) := by
  refine ⟨pair_put hp.1 (fun y hy => pos_ahead y hy) (fun y hy => pos_behind hp h y hy), fun x hx => ?_⟩
  rcases mem_put.1 hx with rfl | hx
  · exact last_ok hc ha
  · exact hp.2 x hx
theorem set_last {L N : Int} {l : List LastR} {c : Cmd} {a : Ans} {r : LastR} {k : Nat} (hp : lastP L N l) (hc : 1 ≤ c.node ∧ c.node ≤ 7 ∧ 1 ≤ c.boot ∧ 1 ≤ c.seq) (ha : ansOk L N a.code a.token a.serial) (hr : l[k]? = some r) (hn : r.node = c.node) :
    lastP L N (l.set k (lastOf c a)) := by
  obtain ⟨hk, rfl⟩ := List.getElem?_eq_some_iff.1 hr
  refine ⟨List.pairwise_iff_getElem.2 fun i j hi hj hij => ?_, fun x hx => ?_⟩
  · rw [List.length_set] at hi hj
    have h0 := List.pairwise_iff_getElem.1 hp.1 i j hi hj hij
    rw [List.getElem_set, List.getElem_set]
    split <;> split
    · omega
    · subst_vars; show c.node < _; omega
    · subst_vars; show _ < c.node; omega
    · exact h0
  · rcases List.mem_or_eq_of_mem_set hx with hx | rfl
    · exact hp.2 x hx
    · exact last_ok hc ha

/-! ### what comes out may be -/
theorem once_ok {l : Led} {i : Int} {c : Cmd} (h : LedP l) (hw : l.wf) (hc : 1 ≤ c.node ∧ c.node ≤ 7 ∧ 1 ≤ c.boot ∧ 1 ≤ c.seq) (hi : i ≠ 0) : LedP (onceL l i c).1 ∧ l.next ≤ (onceL l i c).1.next ∧ (onceL l i c).1.limit = l.limit := by
  have g := exec_goes (c := c) h hw (fun _ => ⟨hc.1, hc.2.1, hc.2.2.1⟩) hi
  obtain ⟨h1, h2, h3, h4, h5, h6⟩ := h
  have hl : lastP (execL l i c).1.limit (execL l i c).1.next l.last := by rw [g.limit]; exact lastP_mono g.next h6
  have hn := bounds_u64 hw.2.1
  have hn0 : (execL l i c).1.next ≠ 0 := by have := g.next; omega
  have hins : (∀ r, l.last[posL c.node l.last]? = some r → r.node ≠ c.node) → LedP (insL l i c).1 ∧ l.next ≤ (insL l i c).1.next ∧ (insL l i c).1.limit = l.limit := fun hno => by
    refine ⟨⟨?_, ?_, hn0, g.short, g.ok, put_last hl hc g.ans hno⟩, g.next, g.limit⟩
    · show 1 ≤ (execL l i c).1.limit; rw [g.limit]; exact h1
    · show (execL l i c).1.limit ≤ _; rw [g.limit]; exact h2
  unfold onceL
  split
  · rename_i hn
    exact hins fun r hr => by rw [hn] at hr; cases hr
  · rename_i r hr
    by_cases hrn : r.node = c.node
    · rw [if_pos hrn]
      unfold foundL
      split
      · exact ⟨⟨h1, h2, h3, h4, h5, h6⟩, Int.le_refl _, rfl⟩
      · split
        · exact ⟨⟨h1, h2, h3, h4, h5, h6⟩, Int.le_refl _, rfl⟩
        · refine ⟨⟨?_, ?_, hn0, g.short, g.ok, set_last hl hc g.ans hr hrn⟩, g.next, g.limit⟩
          · show 1 ≤ (execL l i c).1.limit; rw [g.limit]; exact h1
          · show (execL l i c).1.limit ≤ _; rw [g.limit]; exact h2
    · rw [if_neg hrn]
      exact hins fun r' hr' => by rw [hr] at hr'; cases hr'; exact hrn
theorem do_ok {l : Led} {i : Int} {c : Cmd} (h : LedP l) (hw : l.wf) (hcw : c.wf) (hc : chkC c = true) (hi : i ≠ 0) : LedP (doL l i c).1 ∧ l.next ≤ (doL l i c).1.next ∧ (doL l i c).1.limit = l.limit := by
  unfold doL
  have hk := chk_kind hc
  split
  · exact ⟨h, Int.le_refl _, rfl⟩
  · split
    · rename_i h6
      have g := exec_goes (c := c) h hw (fun h3 => by omega) hi
      have hlast : (execL l i c).1.last = l.last := by
        unfold execL
        rw [if_neg (by omega)]
        split
        · rfl
        · rw [if_neg (by omega)]
      obtain ⟨h1, h2, h3, h4, h5, h6'⟩ := h
      have hn := bounds_u64 hw.2.1
      refine ⟨⟨by rw [g.limit]; exact h1, by rw [g.limit]; exact h2, by have := g.next; omega, g.short, g.ok, ?_⟩, g.next, g.limit⟩
      rw [hlast, g.limit]
      exact lastP_mono g.next h6'
    · exact once_ok h hw (chk_req hcw hc (by omega)) hi
end La
end Go.Proofs.Ytgbblegcjladaaa
