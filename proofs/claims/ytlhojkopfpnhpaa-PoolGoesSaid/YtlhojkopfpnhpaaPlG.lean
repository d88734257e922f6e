/- Package pool: lists alone: what holds of a pool whatever is done; who gets a connection. No condition. -/
import Derived.Test.YtlhojkopfpnhpaaPlF
namespace Go.Proofs.Ytlhojkopfpnhpaa
open Go.ChangeShapes Go.WideShapes Go.ChangeAt Go.RowKit Go.Deep
set_option linter.unusedVariables false
set_option maxRecDepth 100000
set_option linter.unusedSimpArgs false
namespace Pl
structure OkP (cs : List Cn) (ws : List Int) : Prop where
  sorted : Sorted cs
  tok : ∀ (i : Nat) (x : Cn), cs[i]? = some x → 1 ≤ x.tok
  sess : ∀ (i : Nat) (x : Cn), cs[i]? = some x → 0 ≤ x.sess ∧ x.sess ≤ 6
  uniq : ∀ (i j : Nat) (x y : Cn), cs[i]? = some x → cs[j]? = some y → x.sess = y.sess → x.sess ≠ 0 → i = j
  wnd : ws.Nodup
  wr : ∀ s ∈ ws, 1 ≤ s ∧ s ≤ 6
  apart : ∀ (i : Nat) (x : Cn), cs[i]? = some x → x.sess ∉ ws
  busy : ws ≠ [] → ∀ (i : Nat) (x : Cn), cs[i]? = some x → x.sess ≠ 0
theorem OkP.nil : OkP [] [] := ⟨List.Pairwise.nil, by simp, by simp, by simp, List.nodup_nil, by simp, by simp, by simp⟩
theorem sorted_iff {cs : List Cn} : Sorted cs ↔ ∀ (i j : Nat) (x y : Cn), i < j → cs[i]? = some x → cs[j]? = some y → x.tok < y.tok := by
  unfold Sorted
  rw [List.pairwise_iff_getElem]
  constructor
  · intro h i j x y hij hx hy
    obtain ⟨h1, rfl⟩ := List.getElem?_eq_some_iff.1 hx
    obtain ⟨h2, rfl⟩ := List.getElem?_eq_some_iff.1 hy
    exact h i j h1 h2 hij
  · intro h i j hi hj hij
    exact h i j _ _ hij (rgetD hi) (rgetD hj)
theorem OkP.emb {cs cs' : List Cn} {ws ws' : List Int} (h : OkP cs ws) (n0 : Nat) (s : Int) (f : Nat → Nat) (hso : Sorted cs') (htok : ∀ (i : Nat) (x : Cn), cs'[i]? = some x → 1 ≤ x.tok)
    (he : ∀ (i : Nat) (x : Cn), cs'[i]? = some x → (i = n0 ∧ x.sess = s) ∨ (i ≠ n0 ∧ ∃ y, cs[f i]? = some y ∧ y.sess = x.sess))
    (hf : ∀ i j : Nat, i ≠ n0 → j ≠ n0 → f i = f j → i = j) (hs : s = 0 ∨ (1 ≤ s ∧ s ≤ 6 ∧ ∀ (i : Nat) (x : Cn), cs[i]? = some x → x.sess ≠ s))
    (hsub : ws'.Sublist ws) (hsw : s ∉ ws') (hb : ws' ≠ [] → s ≠ 0 ∨ ∀ (i : Nat) (x : Cn), cs'[i]? = some x → i ≠ n0) : OkP cs' ws' where
  sorted := hso
  tok := htok
  sess := fun i x hx => by
    rcases he i x hx with ⟨-, e⟩ | ⟨-, y, hy, e⟩
    · rw [e]; rcases hs with rfl | ⟨h1, h2, -⟩ <;> omega
    · rw [← e]; exact h.sess _ _ hy
  uniq := fun i j x y hx hy e h0 => by
    rcases he i x hx with ⟨rfl, ex⟩ | ⟨hi, a, ha, ex⟩
    · rcases he j y hy with ⟨rfl, -⟩ | ⟨hj, b, hb, ey⟩
      · rfl
      · rcases hs with rfl | ⟨-, -, hn⟩
        · exact absurd ex h0
        · exact absurd (by rw [ey, ← e, ex]) (hn _ _ hb)
    · rcases he j y hy with ⟨rfl, ey⟩ | ⟨hj, b, hb, ey⟩
      · rcases hs with rfl | ⟨-, -, hn⟩
        · exact absurd (e.trans ey) h0
        · exact absurd (by rw [ex, e, ey]) (hn _ _ ha)
      · exact hf i j hi hj (h.uniq _ _ _ _ ha hb (by rw [ex, ey, e]) (by rw [ex]; exact h0))
  wnd := h.wnd.sublist hsub
  wr := fun z hz => h.wr z (hsub.subset hz)
  apart := fun i x hx hm => by
    rcases he i x hx with ⟨-, e⟩ | ⟨-, y, hy, e⟩
    · rw [e] at hm; exact hsw hm
    · rw [← e] at hm; exact h.apart _ _ hy (hsub.subset hm)
  busy := fun hne i x hx => by
    rcases he i x hx with ⟨hi, e⟩ | ⟨-, y, hy, e⟩
    · rcases hb hne with h1 | h1
      · rw [e]; exact h1
      · exact absurd hi (h1 i x hx)
    · rw [← e]
      refine h.busy ?_ _ _ hy
      rintro rfl
      exact hne (List.sublist_nil.1 hsub)
theorem head_ok {cs : List Cn} {ws : List Int} (h : OkP cs ws) : (ws.headD 0 = 0 ∨ (1 ≤ ws.headD 0 ∧ ws.headD 0 ≤ 6 ∧ ∀ (i : Nat) (x : Cn), cs[i]? = some x → x.sess ≠ ws.headD 0)) ∧ ws.headD 0 ∉ ws.tail ∧ (ws.tail ≠ [] → ws.headD 0 ≠ 0) := by
  cases ws with
  | nil => exact ⟨.inl rfl, by simp, by simp⟩
  | cons a r =>
    have ha := h.wr a List.mem_cons_self
    refine ⟨.inr ⟨ha.1, ha.2, fun i x hx e => h.apart i x hx (by rw [e]; exact List.mem_cons_self)⟩, (List.nodup_cons.1 h.wnd).1, fun _ => ?_⟩
    simp only [List.headD_cons]
    omega
theorem pos_lt {t : Int} {cs : List Cn} {i : Nat} {x : Cn} (hi : i < posC t cs) (hx : cs[i]? = some x) : x.tok < t := by
  obtain ⟨h1, rfl⟩ := List.getElem?_eq_some_iff.1 hx
  exact pos_ahead _ (List.mem_take_iff_getElem.2 ⟨i, by omega, rfl⟩)
theorem pos_gt {t : Int} {cs : List Cn} (hs : Sorted cs) (hh : hasC t cs = false) {i : Nat} {x : Cn} (hi : posC t cs ≤ i) (hx : cs[i]? = some x) : t < x.tok := by
  have hl := (List.getElem?_eq_some_iff.1 hx).1
  have h1 := pos_at (rgetD (by omega : posC t cs < cs.length))
  have h2 : cs[posC t cs].tok ≠ t := by
    intro e
    unfold hasC at hh
    rw [rgetD (by omega : posC t cs < cs.length)] at hh
    simp [e] at hh
  rcases Nat.lt_or_ge (posC t cs) i with h3 | h3
  · have := sorted_iff.1 hs _ _ _ _ h3 (rgetD (by omega)) hx
    omega
  · obtain rfl : i = posC t cs := by omega
    rw [rgetD hl] at hx
    cases hx
    omega
theorem ins_cases {t s : Int} {cs : List Cn} {i : Nat} {x : Cn} (h : (insC t s cs)[i]? = some x) : (i < posC t cs ∧ cs[i]? = some x) ∨ (i = posC t cs ∧ x = ⟨t, s⟩) ∨ (posC t cs < i ∧ cs[i - 1]? = some x) := by
  rw [ins_get] at h
  by_cases h1 : i < posC t cs
  · rw [if_pos h1] at h; exact .inl ⟨h1, h⟩
  · rw [if_neg h1] at h
    by_cases h2 : i = posC t cs
    · rw [if_pos h2] at h; cases h; exact .inr (.inl ⟨h2, rfl⟩)
    · rw [if_neg h2] at h; exact .inr (.inr ⟨by omega, h⟩)
theorem ins_sorted {t s : Int} {cs : List Cn} (hs : Sorted cs) (hh : hasC t cs = false) : Sorted (insC t s cs) := by
  rw [sorted_iff]
  intro i j x y hij hx hy
  rcases ins_cases hx with ⟨h1, h2⟩ | ⟨h1, rfl⟩ | ⟨h1, h2⟩ <;> rcases ins_cases hy with ⟨g1, g2⟩ | ⟨g1, rfl⟩ | ⟨g1, g2⟩
  · exact sorted_iff.1 hs _ _ _ _ hij h2 g2
  · exact pos_lt h1 h2
  · have a := pos_lt h1 h2
    have b := pos_gt hs hh (by omega : posC t cs ≤ j - 1) g2
    omega
  · omega
  · omega
  · exact pos_gt hs hh (by omega : posC t cs ≤ j - 1) g2
  · omega
  · omega
  · exact sorted_iff.1 hs _ _ _ _ (by omega : i - 1 < j - 1) h2 g2
theorem ok_open {cs : List Cn} {ws : List Int} (h : OkP cs ws) (t : Int) : OkP (openC t cs ws) (openW t cs ws) := by
  unfold openC openW
  by_cases he : openE t cs = 0
  · rw [if_pos he, if_pos he]
    have hh : hasC t cs = false := by
      unfold openE at he
      split at he
      · cases he
      · split at he
        · cases he
        · rename_i h1 h2; simpa using h2
    have ht : 1 ≤ t := by
      unfold openE at he
      split at he
      · cases he
      · omega
    obtain ⟨h1, h2, h3⟩ := head_ok h
    refine h.emb (posC t cs) (ws.headD 0) (fun i => if i < posC t cs then i else i - 1) (ins_sorted h.sorted hh) ?_ ?_ ?_ h1 (List.tail_sublist ws) h2 (fun q => .inl (h3 q))
    · intro i x hx
      rcases ins_cases hx with ⟨-, g⟩ | ⟨-, rfl⟩ | ⟨-, g⟩
      · exact h.tok _ _ g
      · exact ht
      · exact h.tok _ _ g
    · intro i x hx
      rcases ins_cases hx with ⟨h1, g⟩ | ⟨h1, rfl⟩ | ⟨h1, g⟩
      · exact .inr ⟨by omega, x, by simp only [h1, if_true]; exact g, rfl⟩
      · exact .inl ⟨h1, rfl⟩
      · exact .inr ⟨by omega, x, by rw [if_neg (by omega)]; exact g, rfl⟩
    · intro i j hi hj e
      split at e <;> split at e <;> omega
  · rw [if_neg he, if_neg he]; exact h
theorem ok_less {cs : List Cn} {ws ws' : List Int} (h : OkP cs ws) (a : Nat) (hsub : ws'.Sublist ws) : OkP (cs.eraseIdx a) ws' := by
  have hget : ∀ (i : Nat) (x : Cn), (cs.eraseIdx a)[i]? = some x → cs[if i < a then i else i + 1]? = some x := by
    intro i x hx
    rw [del_get] at hx
    split at hx
    · rename_i q; rw [if_pos q]; exact hx
    · rename_i q; rw [if_neg q]; exact hx
  have hl : ∀ (i : Nat) (x : Cn), (cs.eraseIdx a)[i]? = some x → i ≠ cs.length := by
    intro i x hx e
    have h1 := (List.getElem?_eq_some_iff.1 (hget i x hx)).1
    split at h1 <;> omega
  refine h.emb cs.length 0 (fun i => if i < a then i else i + 1) ?_ (fun i x hx => h.tok _ _ (hget i x hx)) (fun i x hx => .inr ⟨hl i x hx, x, hget i x hx, rfl⟩) ?_ (.inl rfl) hsub (fun q => by have := h.wr 0 (hsub.subset q); omega) (fun _ => .inr hl)
  · exact List.Pairwise.sublist (List.eraseIdx_sublist _ _) h.sorted
  · intro i j _ _ e
    split at e <;> split at e <;> omega
theorem ok_same {cs : List Cn} {ws ws' : List Int} (h : OkP cs ws) (hsub : ws'.Sublist ws) : OkP cs ws' := by
  have := ok_less h cs.length hsub
  rwa [List.eraseIdx_of_length_le (Nat.le_refl _)] at this
theorem ok_close {cs : List Cn} {ws : List Int} (h : OkP cs ws) (t : Int) : OkP (closeC t cs) ws := by
  unfold closeC
  split
  · exact ok_less h _ (List.Sublist.refl _)
  · exact h
theorem ok_set {cs : List Cn} {ws ws' : List Int} (h : OkP cs ws) (k : Nat) (s : Int) (hs : s = 0 ∨ (1 ≤ s ∧ s ≤ 6 ∧ ∀ (i : Nat) (x : Cn), cs[i]? = some x → x.sess ≠ s)) (hsub : ws'.Sublist ws) (hsw : s ∉ ws') (hb : ws' ≠ [] → s ≠ 0) : OkP (setS k s cs) ws' := by
  have hget : ∀ (i : Nat) (x : Cn), (setS k s cs)[i]? = some x → (i = k ∧ x.sess = s ∧ ∃ y, cs[i]? = some y ∧ y.tok = x.tok) ∨ (i ≠ k ∧ cs[i]? = some x) := by
    intro i x hx
    rw [setS_get] at hx
    by_cases q : i = k
    · rw [if_pos q] at hx
      obtain ⟨y, hy, rfl⟩ := Option.map_eq_some_iff.1 hx
      exact .inl ⟨q, rfl, y, hy, rfl⟩
    · rw [if_neg q] at hx
      exact .inr ⟨q, hx⟩
  have htok : ∀ (i : Nat) (x : Cn), (setS k s cs)[i]? = some x → ∃ y, cs[i]? = some y ∧ y.tok = x.tok := by
    intro i x hx
    rcases hget i x hx with ⟨-, -, g⟩ | ⟨-, g⟩
    · exact g
    · exact ⟨x, g, rfl⟩
  refine h.emb k s id ?_ ?_ ?_ (fun _ _ _ _ e => e) hs hsub hsw (fun q => .inl (hb q))
  · rw [sorted_iff]
    intro i j x y hij hx hy
    obtain ⟨a, ha, e1⟩ := htok i x hx
    obtain ⟨b, hb2, e2⟩ := htok j y hy
    have := sorted_iff.1 h.sorted _ _ _ _ hij ha hb2
    omega
  · intro i x hx
    obtain ⟨a, ha, e1⟩ := htok i x hx
    rw [← e1]; exact h.tok _ _ ha
  · intro i x hx
    rcases hget i x hx with ⟨g1, g2, -⟩ | ⟨g1, g⟩
    · exact .inl ⟨g1, g2⟩
    · exact .inr ⟨g1, x, g, rfl⟩
theorem ok_free {cs : List Cn} {ws : List Int} (h : OkP cs ws) (s : Int) : OkP (freeC s cs ws) (freeW s cs ws) := by
  unfold freeC freeW
  by_cases h0 : ofI s cs < 0
  · rw [if_pos h0, if_pos h0]; exact h
  · rw [if_neg h0, if_neg h0]
    obtain ⟨h1, h2, h3⟩ := head_ok h
    exact ok_set h _ _ h1 (List.tail_sublist ws) h2 h3
theorem ok_leave {cs : List Cn} {ws : List Int} (h : OkP cs ws) (s : Int) : OkP (leaveC s cs ws) (leaveW s cs ws) := by
  unfold leaveC leaveW
  by_cases hm : s ∈ ws
  · rw [if_pos hm, if_pos hm]; exact ok_same h List.erase_sublist
  · rw [if_neg hm, if_neg hm]; exact ok_free h s
theorem want_ok {s : Int} {cs : List Cn} {ws : List Int} (he : wantE s cs ws = 0) : 1 ≤ s ∧ s ≤ 6 ∧ s ∉ ws ∧ ∀ (i : Nat) (x : Cn), cs[i]? = some x → x.sess ≠ s := by
  unfold wantE at he
  split at he
  · cases he
  rename_i h1
  split at he
  · cases he
  rename_i h2
  refine ⟨by omega, by omega, fun q => h2 (.inr q), fun i x hx e => ?_⟩
  rcases of_cases s cs with ⟨k, y, -, -, -, eo⟩ | ⟨-, e0 | hn⟩
  · exact h2 (.inl (by omega))
  · omega
  · exact hn x (List.mem_of_getElem? hx) e
theorem ok_want {cs : List Cn} {ws : List Int} (h : OkP cs ws) (s : Int) : OkP (wantC s cs ws) (wantW s cs ws) := by
  by_cases he : wantE s cs ws = 0
  · obtain ⟨h1, h2, h3, h4⟩ := want_ok he
    by_cases hi : 0 ≤ idxOf (sessQ 0) cs
    · rw [show wantC s cs ws = setS (idxOf (sessQ 0) cs).toNat s cs from if_pos ⟨he, hi⟩, show wantW s cs ws = ws from if_neg (fun q => q.2 hi)]
      exact ok_set h _ s (.inr ⟨h1, h2, h4⟩) (List.Sublist.refl _) h3 (fun _ => by omega)
    · rw [show wantC s cs ws = cs from if_neg (fun q => hi q.2), show wantW s cs ws = ws ++ [s] from if_pos ⟨he, hi⟩]
      have hidle : ∀ (i : Nat) (x : Cn), cs[i]? = some x → x.sess ≠ 0 := by
        intro i x hx e
        rcases idx_cases (sessQ 0) cs with ⟨k, y, -, -, -, -, ei⟩ | ⟨ha, -⟩
        · omega
        · have := ha i x (List.getElem?_eq_some_iff.1 hx).1 hx
          simp [sessQ, e] at this
      exact { sorted := h.sorted, tok := h.tok, sess := h.sess, uniq := h.uniq
              wnd := by
                rw [List.nodup_append]
                refine ⟨h.wnd, by simp, ?_⟩
                intro a ha b hb e
                rw [List.mem_singleton] at hb
                subst hb
                rw [e] at ha
                exact h3 ha
              wr := fun z hz => by
                rcases List.mem_append.1 hz with hz | hz
                · exact h.wr z hz
                · rw [List.mem_singleton] at hz; subst hz; exact ⟨h1, h2⟩
              apart := fun i x hx hm => by
                rcases List.mem_append.1 hm with hz | hz
                · exact h.apart i x hx hz
                · rw [List.mem_singleton] at hz; exact h4 i x hx hz
              busy := fun _ => hidle }
  · obtain ⟨-, e2, e3⟩ := want_bad rfl he
    rw [e2, e3]
    exact h
theorem ok_do {cs : List Cn} {ws : List Int} (h : OkP cs ws) (o : POp) : OkP (doC o cs ws) (doW o cs ws) := by
  obtain ⟨kd, nn⟩ := o
  by_cases h0 : kd = 0
  · subst h0; exact ok_open h nn
  by_cases h1 : kd = 1
  · subst h1; exact ok_close h nn
  by_cases h2 : kd = 2
  · subst h2; exact ok_want h nn
  by_cases h3 : kd = 3
  · subst h3; exact ok_free h nn
  by_cases h4 : kd = 4
  · subst h4; exact ok_leave h nn
  have e2 : doC ⟨kd, nn⟩ cs ws = cs := by unfold doC; simp only [h0, h1, h2, h3, h4, if_false]
  have e3 : doW ⟨kd, nn⟩ cs ws = ws := by unfold doW; simp only [h0, h1, h2, h3, h4, if_false]
  rw [e2, e3]; exact h
/-! ### who has what -/
theorem has_eq {cs : List Cn} {ws : List Int} (h : OkP cs ws) {i : Nat} {x : Cn} (hx : cs[i]? = some x) (h0 : x.sess ≠ 0) : hasT x.sess cs = x.tok := by
  rcases of_cases x.sess cs with ⟨k, y, hy, e, -, eo⟩ | ⟨-, e0 | hn⟩
  · have := h.uniq k i y x hy hx e (by rw [e]; exact h0)
    subst this
    unfold hasT
    rw [eo, if_neg (by omega), Int.toNat_natCast, hx]
    rfl
  · exact absurd e0 h0
  · exact absurd rfl (hn x (List.mem_of_getElem? hx))
theorem head_ne {ws : List Int} (h : ws.headD 0 ≠ 0) : ws = ws.headD 0 :: ws.tail := by
  cases ws with
  | nil => exact absurd rfl h
  | cons a r => rfl
/-- whoever gets a connection waited longest -/
theorem fair_do {cs : List Cn} {ws : List Int} (h : OkP cs ws) (o : POp) (h0 : doV o cs ws ≠ 0) : ws = doV o cs ws :: doW o cs ws ∧ hasT (doV o cs ws) (doC o cs ws) ≠ 0 := by
  obtain ⟨kd, nn⟩ := o
  have ok := ok_do h ⟨kd, nn⟩
  have fin : ∀ {cs' : List Cn} {ws' : List Int} {s : Int}, OkP cs' ws' → (∃ (i : Nat) (x : Cn), cs'[i]? = some x ∧ x.sess = s) → s ≠ 0 → hasT s cs' ≠ 0 := by
    rintro cs' ws' s g ⟨i, x, hx, rfl⟩ hn
    rw [has_eq g hx hn]
    have := g.tok i x hx
    omega
  have free : ∀ s, freeV s cs ws ≠ 0 → ws = freeV s cs ws :: freeW s cs ws ∧ hasT (freeV s cs ws) (freeC s cs ws) ≠ 0 := by
    intro s hs
    have g := ok_free h s
    by_cases hn : ofI s cs < 0
    · exact absurd (if_pos hn) hs
    · have e1 : freeV s cs ws = ws.headD 0 := if_neg hn
      have e2 : freeW s cs ws = ws.tail := if_neg hn
      have e3 : freeC s cs ws = setS (ofI s cs).toNat (ws.headD 0) cs := if_neg hn
      rw [e1] at hs ⊢
      rw [e2, e3] at g ⊢
      rcases of_cases s cs with ⟨k, y, hy, e, -, eo⟩ | ⟨eo, -⟩
      · rw [eo, Int.toNat_natCast] at g ⊢
        refine ⟨head_ne hs, fin g ⟨k, ⟨y.tok, ws.headD 0⟩, by rw [setS_get, if_pos rfl, hy]; rfl, rfl⟩ hs⟩
      · omega
  by_cases k0 : kd = 0
  · subst k0
    change openV nn cs ws ≠ 0 at h0
    change OkP (openC nn cs ws) (openW nn cs ws) at ok
    show ws = openV nn cs ws :: openW nn cs ws ∧ hasT (openV nn cs ws) (openC nn cs ws) ≠ 0
    by_cases he : openE nn cs = 0
    · have e1 : openV nn cs ws = ws.headD 0 := if_pos he
      have e2 : openW nn cs ws = ws.tail := if_pos he
      have e3 : openC nn cs ws = insC nn (ws.headD 0) cs := if_pos he
      rw [e1] at h0 ⊢
      rw [e2, e3] at ok ⊢
      refine ⟨head_ne h0, fin ok ⟨posC nn cs, ⟨nn, ws.headD 0⟩, by rw [ins_get, if_neg (Nat.lt_irrefl _), if_pos rfl], rfl⟩ h0⟩
    · exact absurd (if_neg he) h0
  by_cases k3 : kd = 3
  · subst k3; exact free nn h0
  by_cases k4 : kd = 4
  · subst k4
    change leaveV nn cs ws ≠ 0 at h0
    show ws = leaveV nn cs ws :: leaveW nn cs ws ∧ hasT (leaveV nn cs ws) (leaveC nn cs ws) ≠ 0
    unfold leaveV leaveC leaveW at *
    by_cases hm : nn ∈ ws
    · rw [if_pos hm] at h0; exact absurd rfl h0
    · rw [if_neg hm] at h0 ⊢
      rw [if_neg hm, if_neg hm]
      exact free nn h0
  exact absurd (by unfold doV; simp only [k0, k3, k4, if_false]) h0
end Pl
end Go.Proofs.Ytlhojkopfpnhpaa
