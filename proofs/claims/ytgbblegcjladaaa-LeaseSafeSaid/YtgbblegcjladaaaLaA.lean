/- What a command does to a ledger: on lists. No condition. -/
import Derived.Test.YtgbblegcjladaaaLcM
import Derived.Test.YtgbblegcjladaaaCmB
namespace Go.Proofs.Ytgbblegcjladaaa
set_option linter.unusedVariables false
set_option maxRecDepth 100000
namespace La
open Ld Cm

structure Ans where
  code : Int
  token : Int
  serial : Int
deriving DecidableEq
def zAns : Ans := ⟨0, 0, 0⟩
def zLed : Led := ⟨0, 0, [], []⟩
def lastOf (c : Cmd) (a : Ans) : LastR := ⟨c.node, c.boot, c.seq, a.code, a.token, a.serial⟩
def ansOf (r : LastR) : Ans := ⟨r.code, r.token, r.serial⟩

/-- how many rows, from the first on, have the tokens k + 1, k + 2, .. -/
def gap (k : Nat) : List Held → Nat
  | [] => 0
  | x :: xs => if x.token = (k : Int) + 1 then gap (k + 1) xs + 1 else 0
/-- whether a row is the one that a command names -/
def named (c : Cmd) (x : Held) : Bool :=
  if c.kind = 6 then decide (x.token = c.token ∧ x.serial = c.serial ∧ x.stamp = c.stamp)
  else decide (x.token = c.token ∧ x.node = c.node ∧ x.boot = c.boot ∧ x.serial = c.serial)
def putAt {α : Type} (at' : Nat) (x : α) (l : List α) : List α := l.take at' ++ x :: l.drop at'
def cutAt {α : Type} (at' : Nat) (l : List α) : List α := l.take at' ++ l.drop (at' + 1)
def full (l : Led) : Bool := decide (l.limit < (gap 0 l.held : Int) + 1 ∨ 64 ≤ l.held.length ∨ l.next = 18446744073709551615)
def newRow (l : Led) (i : Int) (c : Cmd) : Held := ⟨(gap 0 l.held : Int) + 1, c.node, c.boot, l.next, i⟩
def grantL (l : Led) (i : Int) (c : Cmd) : Led × Ans :=
  if full l = true then (l, ⟨2, 0, 0⟩)
  else ({ l with held := putAt (gap 0 l.held) (newRow l i c) l.held, next := l.next + 1 }, ⟨1, (gap 0 l.held : Int) + 1, l.next⟩)
def fitAt (c : Cmd) (h : List Held) : Nat := h.findIdx (named c)
def restamp (i : Int) (x : Held) : Held := { x with stamp := i }
def execL (l : Led) (i : Int) (c : Cmd) : Led × Ans :=
  if c.kind = 3 then grantL l i c
  else match l.held[fitAt c l.held]? with
    | none => (l, ⟨4, 0, 0⟩)
    | some x =>
      if c.kind = 4 then ({ l with held := l.held.set (fitAt c l.held) (restamp i x) }, ⟨3, 0, 0⟩)
      else ({ l with held := cutAt (fitAt c l.held) l.held }, ⟨5, 0, 0⟩)
def posL (n : Int) (l : List LastR) : Nat := l.findIdx fun r => decide (n ≤ r.node)
def older (c : Cmd) (r : LastR) : Bool := decide (c.boot < r.boot ∨ r.boot = c.boot ∧ c.seq < r.seq)
def again (c : Cmd) (r : LastR) : Bool := decide (r.boot = c.boot ∧ r.seq = c.seq)
def insL (l : Led) (i : Int) (c : Cmd) : Led × Ans :=
  ({ (execL l i c).1 with last := putAt (posL c.node l.last) (lastOf c (execL l i c).2) l.last }, (execL l i c).2)
def repL (l : Led) (i : Int) (c : Cmd) : Led × Ans :=
  ({ (execL l i c).1 with last := l.last.set (posL c.node l.last) (lastOf c (execL l i c).2) }, (execL l i c).2)
def foundL (l : Led) (i : Int) (c : Cmd) (r : LastR) : Led × Ans :=
  if older c r = true then (l, ⟨6, 0, 0⟩) else if again c r = true then (l, ansOf r) else repL l i c
def onceL (l : Led) (i : Int) (c : Cmd) : Led × Ans :=
  match l.last[posL c.node l.last]? with
  | none => insL l i c
  | some r => if r.node = c.node then foundL l i c r else insL l i c
def doL (l : Led) (i : Int) (c : Cmd) : Led × Ans :=
  if c.kind = 1 ∨ c.kind = 2 then (l, zAns) else if c.kind = 6 then execL l i c else onceL l i c
open Classical in
noncomputable def errL (l : Led) (i : Int) (c : Cmd) : Int :=
  if ¬ ledOk l then 50 else if chkC c = false then 40 else if i = 0 then 1 else 0
noncomputable def applyL (l : Led) (i : Int) (c : Cmd) : Led := if errL l i c = 0 then (doL l i c).1 else zLed
noncomputable def answerL (l : Led) (i : Int) (c : Cmd) : Ans := if errL l i c = 0 then (doL l i c).2 else zAns

theorem err_zero {l : Led} {i : Int} {c : Cmd} : errL l i c = 0 ↔ ledOk l ∧ chkC c = true ∧ i ≠ 0 := by
  unfold errL
  by_cases h : ledOk l
  · cases h2 : chkC c
    · simp [h]
    · by_cases h3 : i = 0 <;> simp [h, h3]
  · simp [h]
theorem err_range (l : Led) (i : Int) (c : Cmd) : errL l i c = 0 ∨ errL l i c = 1 ∨ errL l i c = 40 ∨ errL l i c = 50 := by
  unfold errL
  split
  · simp
  · split
    · simp
    · split <;> simp

/-! ### what may be, said pair by pair -/
def hOk (L N : Int) (x : Held) : Prop := 1 ≤ x.token ∧ x.token ≤ L ∧ 1 ≤ x.node ∧ x.node ≤ 7 ∧ x.boot ≠ 0 ∧ x.stamp ≠ 0 ∧ x.serial ≠ 0 ∧ x.serial < N
def hLt (x y : Held) : Prop := x.token < y.token ∧ x.serial ≠ y.serial
def heldP (L N : Int) (h : List Held) : Prop := h.Pairwise hLt ∧ ∀ x ∈ h, hOk L N x
def lOk (L N : Int) (x : LastR) : Prop := 1 ≤ x.node ∧ x.node ≤ 7 ∧ x.boot ≠ 0 ∧ x.seq ≠ 0 ∧ ansOk L N x.code x.token x.serial
def lastP (L N : Int) (h : List LastR) : Prop := h.Pairwise (fun x y => x.node < y.node) ∧ ∀ x ∈ h, lOk L N x

theorem bef_at {l : List Held} {j : Nat} {x : Held} (h : l[j]? = some x) : bef (l.take (j + 1)) = x.token := by
  obtain ⟨hj, rfl⟩ := List.getElem?_eq_some_iff.1 h
  rw [rtake hj, bef_snoc]
theorem befL_at {l : List LastR} {j : Nat} {x : LastR} (h : l[j]? = some x) : befL (l.take (j + 1)) = x.node := by
  obtain ⟨hj, rfl⟩ := List.getElem?_eq_some_iff.1 h
  rw [rtake hj, befL_snoc]

theorem held_iff {l : Led} : heldUp l l.held.length ↔ heldP l.limit l.next l.held := by
  constructor
  · intro h
    have hb : ∀ j, 0 ≤ bef (l.held.take j) := by
      intro j
      induction j with
      | zero => simp [bef_nil]
      | succ j ih =>
        rcases Nat.lt_or_ge j l.held.length with hj | hj
        · have := h j _ hj (rgetD hj)
          rw [bef_at (rgetD hj)]
          have := this.1
          omega
        · rw [List.take_of_length_le (by omega)] at ih ⊢
          exact ih
    have hmono : ∀ i j (hi : i < l.held.length) (hj : j < l.held.length), i < j → l.held[i].token < l.held[j].token := by
      intro i j hi hj hij
      induction j with
      | zero => omega
      | succ j ih =>
        have h1 := (h (j + 1) _ hj (rgetD hj)).1
        rw [bef_at (rgetD (by omega : j < l.held.length))] at h1
        rcases Nat.lt_or_ge i j with h2 | h2
        · have := ih (by omega) h2; omega
        · obtain rfl : i = j := by omega
          exact h1
    refine ⟨List.pairwise_iff_getElem.2 fun i j hi hj hij => ⟨hmono i j hi hj hij, ?_⟩, fun x hx => ?_⟩
    · exact (h j _ hj (rgetD hj)).2.2.2.2.2.2.2.2 _ (List.mem_take_iff_getElem.2 ⟨i, by omega, rfl⟩)
    · obtain ⟨j, hj, rfl⟩ := List.mem_iff_getElem.1 hx
      obtain ⟨h1, h2, h3, h4, h5, h6, h7, h8, -⟩ := h j _ hj (rgetD hj)
      exact ⟨by have := hb j; omega, h2, h3, h4, h5, h6, h7, h8⟩
  · rintro ⟨hp, ha⟩ j y hj hy
    obtain ⟨hj', rfl⟩ := List.getElem?_eq_some_iff.1 hy
    have hm := List.getElem_mem hj'
    obtain ⟨h1, h2, h3, h4, h5, h6, h7, h8⟩ := ha _ hm
    refine ⟨?_, h2, h3, h4, h5, h6, h7, h8, fun z hz => ?_⟩
    · cases j with
      | zero => simp only [List.take_zero, bef_nil]; omega
      | succ j =>
        rw [bef_at (rgetD (by omega : j < l.held.length))]
        exact (List.pairwise_iff_getElem.1 hp j (j + 1) (by omega) hj' (by omega)).1
    · obtain ⟨i, hi, rfl⟩ := List.mem_take_iff_getElem.1 hz
      exact (List.pairwise_iff_getElem.1 hp i j (by omega) hj' (by omega)).2

theorem last_iff {l : Led} : lastsOk l ↔ lastP l.limit l.next l.last := by
  constructor
  · intro h
    have hmono : ∀ i j (hi : i < l.last.length) (hj : j < l.last.length), i < j → l.last[i].node < l.last[j].node := by
      intro i j hi hj hij
      induction j with
      | zero => omega
      | succ j ih =>
        have h1 := (h (j + 1) _ hj (rgetD hj)).1
        rw [befL_at (rgetD (by omega : j < l.last.length))] at h1
        rcases Nat.lt_or_ge i j with h2 | h2
        · have := ih (by omega) h2; omega
        · obtain rfl : i = j := by omega
          exact h1
    refine ⟨List.pairwise_iff_getElem.2 fun i j hi hj hij => hmono i j hi hj hij, fun x hx => ?_⟩
    obtain ⟨j, hj, rfl⟩ := List.mem_iff_getElem.1 hx
    exact (h j _ hj (rgetD hj)).2
  · rintro ⟨hp, ha⟩ j y hj hy
    obtain ⟨hj', rfl⟩ := List.getElem?_eq_some_iff.1 hy
    have hm := ha _ (List.getElem_mem hj')
    refine ⟨?_, hm⟩
    cases j with
    | zero => have := hm.1; simp only [List.take_zero, befL_nil]; omega
    | succ j =>
      rw [befL_at (rgetD (by omega : j < l.last.length))]
      exact List.pairwise_iff_getElem.1 hp j (j + 1) (by omega) hj' (by omega)

def LedP (l : Led) : Prop := 1 ≤ l.limit ∧ l.limit ≤ 65535 ∧ l.next ≠ 0 ∧ l.held.length ≤ 64 ∧ heldP l.limit l.next l.held ∧ lastP l.limit l.next l.last
theorem led_iff {l : Led} : ledOk l ↔ LedP l := by
  unfold ledOk LedP heldOk
  rw [held_iff, last_iff, and_assoc]

/-! ### tokens and places -/
theorem token_ge {L N : Int} {h : List Held} (hp : heldP L N h) : ∀ j (hj : j < h.length), (j : Int) + 1 ≤ h[j].token := by
  intro j hj
  induction j with
  | zero => have := (hp.2 _ (List.getElem_mem hj)).1; omega
  | succ j ih =>
    have h1 := ih (by omega)
    have h2 := (List.pairwise_iff_getElem.1 hp.1 j (j + 1) (by omega) hj (by omega)).1
    omega
theorem len_le {L N : Int} {h : List Held} (hp : heldP L N h) (hL : 0 ≤ L) : (h.length : Int) ≤ L := by
  rcases Nat.eq_zero_or_pos h.length with h0 | h0
  · omega
  · have h1 := token_ge hp (h.length - 1) (by omega)
    have h2 := (hp.2 _ (List.getElem_mem (by omega : h.length - 1 < h.length))).2.1
    omega
theorem gap_le : ∀ (h : List Held) (k : Nat), gap k h ≤ h.length
  | [], _ => by simp [gap]
  | x :: xs, k => by
    unfold gap
    split
    · have := gap_le xs (k + 1); simp; omega
    · simp
theorem gap_before : ∀ (h : List Held) (k : Nat) (j : Nat) (x : Held), j < gap k h → h[j]? = some x → x.token = (k : Int) + j + 1
  | [], k, j, x, hj, hx => by simp at hx
  | y :: ys, k, j, x, hj, hx => by
    unfold gap at hj
    split at hj
    · cases j with
      | zero => simp at hx; subst hx; simpa using ‹_›
      | succ j =>
        simp at hx
        have := gap_before ys (k + 1) j x (by omega) hx
        rw [this]; omega
    · omega
theorem gap_at : ∀ (h : List Held) (k : Nat) (x : Held), h[gap k h]? = some x → x.token ≠ (k : Int) + gap k h + 1
  | [], k, x, hx => by simp at hx
  | y :: ys, k, x, hx => by
    unfold gap at hx ⊢
    split at hx
    · rename_i hy
      rw [if_pos hy]
      simp at hx
      have := gap_at ys (k + 1) x hx
      intro h; apply this; omega
    · rename_i hy
      rw [if_neg hy]
      simp at hx
      subst hx
      intro h; apply hy; omega
theorem gap_behind {L N : Int} {h : List Held} (hp : heldP L N h) : ∀ x ∈ h.drop (gap 0 h), (gap 0 h : Int) + 1 < x.token := by
  intro x hx
  obtain ⟨j, hj, rfl⟩ := List.mem_iff_getElem.1 hx
  rw [List.length_drop] at hj
  rw [List.getElem_drop]
  have h1 := gap_at h 0 _ (rgetD (by omega : gap 0 h < h.length))
  have h2 := token_ge hp (gap 0 h) (by omega)
  cases j with
  | zero => simp only [Nat.add_zero]; omega
  | succ j =>
    have h3 := (List.pairwise_iff_getElem.1 hp.1 (gap 0 h) (gap 0 h + (j + 1)) (by omega) (by omega) (by omega)).1
    omega
theorem gap_ahead {h : List Held} : ∀ x ∈ h.take (gap 0 h), x.token < (gap 0 h : Int) + 1 := by
  intro x hx
  obtain ⟨j, hj, rfl⟩ := List.mem_take_iff_getElem.1 hx
  have := gap_before h 0 j _ (by omega) (rgetD (by omega))
  omega
end La
end Go.Proofs.Ytgbblegcjladaaa
