/- What a command does to a ledger: what comes twice, other nodes' rows, serials, sizes of numbers; on lists. No condition. -/
import Derived.Test.YtgbblegcjladaaaLaB
namespace Go.Proofs.Ytgbblegcjladaaa
set_option linter.unusedVariables false
set_option maxRecDepth 100000
namespace La
open Ld Cm

/-! ### what comes twice -/
def Knows (l : Led) (c : Cmd) (a : Ans) : Prop := ∃ r ∈ l.last, r.node = c.node ∧ ((older c r = true ∧ a = ⟨6, 0, 0⟩) ∨ (older c r = false ∧ again c r = true ∧ a = ansOf r))
theorem exec_last (l : Led) (i : Int) (c : Cmd) : (execL l i c).1.last = l.last := by
  unfold execL grantL
  split
  · split <;> rfl
  · split
    · rfl
    · split <;> rfl
theorem knows_new {c : Cmd} {a : Ans} {l : Led} (h : lastOf c a ∈ l.last) : Knows l c a :=
  ⟨_, h, rfl, .inr ⟨decide_eq_false (fun h => by
    have h' : c.boot < c.boot ∨ c.boot = c.boot ∧ c.seq < c.seq := h
    omega), decide_eq_true ⟨rfl, rfl⟩, rfl⟩⟩
theorem knows_once {l : Led} {i : Int} {c : Cmd} : Knows (onceL l i c).1 c (onceL l i c).2 := by
  unfold onceL
  split
  · exact knows_new (mem_put.2 (.inl rfl))
  · rename_i r hr
    split
    · rename_i hn
      have hm := List.mem_of_getElem? hr
      unfold foundL
      cases ho : older c r
      · rw [if_neg (by simp)]
        cases hag : again c r
        · rw [if_neg (by simp)]
          refine knows_new ?_
          show _ ∈ List.set _ _ _
          obtain ⟨hk, -⟩ := List.getElem?_eq_some_iff.1 hr
          exact List.mem_set hk _
        · rw [if_pos rfl]
          exact ⟨r, hm, hn, .inr ⟨ho, hag, rfl⟩⟩
      · rw [if_pos rfl]
        exact ⟨r, hm, hn, .inl ⟨ho, rfl⟩⟩
    · exact knows_new (mem_put.2 (.inl rfl))
theorem knows_does {l : Led} {c : Cmd} {a : Ans} (hp : lastP l.limit l.next l.last) (h : Knows l c a) (j : Int) : onceL l j c = (l, a) := by
  obtain ⟨r, hr, hn, h⟩ := h
  have hf := pos_found hp hr
  rw [hn] at hf
  unfold onceL
  rw [hf]
  show (if r.node = c.node then foundL l j c r else insL l j c) = _
  rw [if_pos hn]
  unfold foundL
  rcases h with ⟨h1, h2⟩ | ⟨h1, h2, h3⟩
  · rw [if_pos h1, h2]
  · rw [if_neg (by rw [h1]; simp), if_pos h2, h3]
theorem knows_kept {l : Led} {i : Int} {c d : Cmd} {a : Ans} (h : Knows l c a) (hne : d.node ≠ c.node) : Knows (doL l i d).1 c a := by
  obtain ⟨r, hr, hn, h⟩ := h
  have hkeep : ∀ m : Led, r ∈ m.last → Knows m c a := fun m hm => ⟨r, hm, hn, h⟩
  have hins : r ∈ (insL l i d).1.last := mem_put.2 (.inr hr)
  unfold doL
  split
  · exact hkeep _ hr
  · split
    · refine hkeep _ ?_
      rw [exec_last]; exact hr
    · unfold onceL
      split
      · exact hkeep _ hins
      · rename_i q hq
        split
        · rename_i hqn
          unfold foundL
          split
          · exact hkeep _ hr
          · split
            · exact hkeep _ hr
            · refine hkeep _ ?_
              show r ∈ List.set _ _ _
              obtain ⟨k, hk, rfl⟩ := List.mem_iff_getElem.1 hr
              have hne2 : posL d.node l.last ≠ k := by
                intro e
                rw [e] at hq
                rw [List.getElem?_eq_getElem hk] at hq
                cases hq
                exact hne (hqn.symm.trans hn)
              refine List.mem_iff_getElem.2 ⟨k, by rw [List.length_set]; exact hk, ?_⟩
              rw [List.getElem_set, if_neg hne2]
        · exact hkeep _ hins

/-! ### other nodes' rows -/
theorem of_app (n : Int) (a b : List Held) : ofL n (a ++ b) = ofL n a ++ ofL n b := List.filter_append _ _
theorem of_cons_ne {n : Int} {x : Held} (h : x.node ≠ n) (l : List Held) : ofL n (x :: l) = ofL n l := by
  unfold ofL
  rw [List.filter_cons_of_neg (by simpa using h)]
theorem of_split (n : Int) (k : Nat) (l : List Held) : ofL n (l.take k) ++ ofL n (l.drop k) = ofL n l := by rw [← of_app, List.take_append_drop]
theorem of_put {n : Int} {x : Held} (h : x.node ≠ n) (k : Nat) (l : List Held) : ofL n (putAt k x l) = ofL n l := by
  unfold putAt
  rw [of_app, of_cons_ne h, of_split]
theorem drop_at {α : Type} {l : List α} {k : Nat} {x : α} (h : l[k]? = some x) : l.drop k = x :: l.drop (k + 1) := by
  obtain ⟨hk, rfl⟩ := List.getElem?_eq_some_iff.1 h
  exact List.drop_eq_getElem_cons hk
theorem of_cut {n : Int} {x : Held} {k : Nat} {l : List Held} (hx : l[k]? = some x) (h : x.node ≠ n) : ofL n (cutAt k l) = ofL n l := by
  unfold cutAt
  rw [of_app, ← of_split n k l, drop_at hx, of_cons_ne h]
theorem set_split {α : Type} {l : List α} {k : Nat} {x : α} (y : α) (hx : l[k]? = some x) : l.set k y = l.take k ++ y :: l.drop (k + 1) := by
  obtain ⟨hk, -⟩ := List.getElem?_eq_some_iff.1 hx
  rw [List.set_eq_take_append_cons_drop, if_pos hk]
theorem of_set {n : Int} {x y : Held} {k : Nat} {l : List Held} (hx : l[k]? = some x) (h : x.node ≠ n) (h2 : y.node ≠ n) : ofL n (l.set k y) = ofL n l := by
  rw [set_split y hx, of_app, of_cons_ne h2, ← of_split n k l, drop_at hx, of_cons_ne h]
theorem fit_named {c : Cmd} {h : List Held} {x : Held} (hx : h[fitAt c h]? = some x) : named c x = true := by
  obtain ⟨hj, rfl⟩ := List.getElem?_eq_some_iff.1 hx
  exact List.findIdx_getElem (p := named c) (xs := h) (w := hj)
theorem exec_others {l : Led} {i n : Int} {c : Cmd} (hk : c.kind ≠ 6) (hn : c.node ≠ n) : ofL n (execL l i c).1.held = ofL n l.held := by
  unfold execL
  split
  · unfold grantL
    split
    · rfl
    · exact of_put (x := newRow l i c) hn _ _
  · split
    · rfl
    · rename_i x hx
      have hnm := fit_named hx
      unfold named at hnm
      rw [if_neg hk] at hnm
      have h2 := (of_decide_eq_true hnm).2.1
      have hxn : x.node ≠ n := by rw [h2]; exact hn
      split
      · exact of_set hx hxn hxn
      · exact of_cut hx hxn
theorem do_others {l : Led} {i n : Int} {c : Cmd} (hk : c.kind ≠ 6) (hn : c.node ≠ n) : ofL n (doL l i c).1.held = ofL n l.held := by
  unfold doL
  split
  · rfl
  · unfold onceL
    split
    · exact exec_others hk hn
    · split
      · unfold foundL
        split
        · rfl
        · split
          · rfl
          · exact exec_others hk hn
      · exact exec_others hk hn

/-! ### serials -/
def Fresh (l : Led) (m : Led) (a : Ans) : Prop := a.serial = l.next ∧ m.next = l.next + 1 ∧ 1 ≤ a.token ∧ a.token ≤ l.limit ∧ (∀ x ∈ l.held, x.token ≠ a.token) ∧ m.held.length = l.held.length + 1
theorem gap_free {L N : Int} {h : List Held} (hp : heldP L N h) : ∀ x ∈ h, x.token ≠ (gap 0 h : Int) + 1 := by
  intro x hx
  rw [← List.take_append_drop (gap 0 h) h] at hx
  rcases List.mem_append.1 hx with hx | hx
  · have := gap_ahead x hx; omega
  · have := gap_behind hp x hx; omega
theorem exec_len {l : Led} {i : Int} {c : Cmd} (h : LedP l) : (execL l i c).1.held.length ≤ l.held.length ∨ Fresh l (execL l i c).1 (execL l i c).2 := by
  unfold execL
  split
  · unfold grantL
    split
    · exact .inl (Nat.le_refl _)
    · rename_i hf
      obtain ⟨f1, f2, f3⟩ := full_not (l := l) (by simpa using hf)
      exact .inr ⟨rfl, rfl, by show (1 : Int) ≤ (gap 0 l.held : Int) + 1; omega, f1, gap_free h.2.2.2.2.1, len_put _ _ _⟩
  · split
    · exact .inl (Nat.le_refl _)
    · split
      · exact .inl (by show (List.set _ _ _).length ≤ _; rw [List.length_set]; exact Nat.le_refl _)
      · exact .inl (len_cut _ _)
theorem do_len {l : Led} {i : Int} {c : Cmd} (h : LedP l) : (doL l i c).1.held.length ≤ l.held.length ∨ Fresh l (doL l i c).1 (doL l i c).2 := by
  unfold doL
  split
  · exact .inl (Nat.le_refl _)
  · split
    · exact exec_len h
    · unfold onceL
      split
      · exact exec_len h
      · split
        · unfold foundL
          split
          · exact .inl (Nat.le_refl _)
          · split
            · exact .inl (Nat.le_refl _)
            · exact exec_len h
        · exact exec_len h

/-! ### sizes of numbers -/
def Ans.wf (a : Ans) : Prop := (Lit.int .i64 a.code).wf = true ∧ (Lit.int .i64 a.token).wf = true ∧ (Lit.int .u64 a.serial).wf = true
theorem wf_i64 {n : Int} (h1 : -9223372036854775808 ≤ n) (h2 : n ≤ 9223372036854775807) : (Lit.int .i64 n).wf = true := by
  simp [Lit.wf, IntKind.min, IntKind.max, IntKind.signed, IntKind.bits]; omega
theorem wf_u64 {n : Int} (h1 : 0 ≤ n) (h2 : n ≤ 18446744073709551615) : (Lit.int .u64 n).wf = true := by
  simp [Lit.wf, IntKind.min, IntKind.max, IntKind.signed, IntKind.bits]; omega
theorem ans_wf3 {k : Int} (h : -1 ≤ k ∧ k ≤ 9) : (⟨k, 0, 0⟩ : Ans).wf := ⟨wf_i64 (by dsimp only; omega) (by dsimp only; omega), by dsimp only; decide, by dsimp only; decide⟩
theorem ansOf_wf {r : LastR} (h : r.wf) : (ansOf r).wf := h.2.2.2
theorem lastOf_wf {c : Cmd} {a : Ans} (hc : c.wf) (ha : a.wf) : (lastOf c a).wf := ⟨hc.2.1, hc.2.2.2.1, hc.2.2.2.2.1, ha.1, ha.2.1, ha.2.2⟩
theorem exec_wf {l : Led} {i : Int} {c : Cmd} (h : LedP l) (hw : l.wf) (hcw : c.wf) (hi : (Lit.int .u64 i).wf = true) : (execL l i c).1.wf ∧ (execL l i c).2.wf := by
  obtain ⟨w1, w2, w3, w4⟩ := hw
  have hn := bounds_u64 w2
  unfold execL
  split
  · unfold grantL
    split
    · exact ⟨⟨w1, w2, w3, w4⟩, ans_wf3 (by decide)⟩
    · rename_i hf
      obtain ⟨f1, f2, f3⟩ := full_not (l := l) (by simpa using hf)
      have hL := h.2.1
      have ht : (Lit.int .i64 ((gap 0 l.held : Int) + 1)).wf = true := wf_i64 (by omega) (by omega)
      refine ⟨⟨w1, wf_u64 (by show 0 ≤ l.next + 1; omega) (by show l.next + 1 ≤ _; omega), fun x hx => ?_, w4⟩, wf_i64 (by dsimp only; decide) (by dsimp only; decide), ht, w2⟩
      rcases mem_put.1 hx with rfl | hx
      · exact ⟨ht, hcw.2.1, hcw.2.2.2.1, w2, hi⟩
      · exact w3 x hx
  · split
    · exact ⟨⟨w1, w2, w3, w4⟩, ans_wf3 (by decide)⟩
    · rename_i x hx
      split
      · refine ⟨⟨w1, w2, fun y hy => ?_, w4⟩, ans_wf3 (by decide)⟩
        rcases List.mem_or_eq_of_mem_set hy with hy | rfl
        · exact w3 y hy
        · have := w3 x (List.mem_of_getElem? hx)
          exact ⟨this.1, this.2.1, this.2.2.1, this.2.2.2.1, hi⟩
      · exact ⟨⟨w1, w2, fun y hy => w3 y ((cut_sub _ _).subset hy), w4⟩, ans_wf3 (by decide)⟩
theorem do_wf {l : Led} {i : Int} {c : Cmd} (h : LedP l) (hw : l.wf) (hcw : c.wf) (hi : (Lit.int .u64 i).wf = true) : (doL l i c).1.wf ∧ (doL l i c).2.wf := by
  have he := exec_wf h hw hcw hi
  have hins : (insL l i c).1.wf ∧ (insL l i c).2.wf := by
    refine ⟨⟨he.1.1, he.1.2.1, he.1.2.2.1, fun x hx => ?_⟩, he.2⟩
    rcases mem_put.1 hx with rfl | hx
    · exact lastOf_wf hcw he.2
    · exact hw.2.2.2 x hx
  unfold doL
  split
  · exact ⟨hw, ans_wf3 (k := _) (by decide)⟩
  · split
    · exact he
    · unfold onceL
      split
      · exact hins
      · rename_i r hr
        split
        · unfold foundL
          split
          · exact ⟨hw, ans_wf3 (k := _) (by decide)⟩
          · split
            · exact ⟨hw, ansOf_wf (hw.2.2.2 r (List.mem_of_getElem? hr))⟩
            · refine ⟨⟨he.1.1, he.1.2.1, he.1.2.2.1, fun x hx => ?_⟩, he.2⟩
              rcases List.mem_or_eq_of_mem_set hx with hx | rfl
              · exact hw.2.2.2 x hx
              · exact lastOf_wf hcw he.2
        · exact hins
theorem zLed_wf : zLed.wf := ⟨by decide, by decide, by simp [zLed], by simp [zLed]⟩
end La
end Go.Proofs.Ytgbblegcjladaaa
