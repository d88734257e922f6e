/- Package pool: where a token stands, where a session does: slices.BinarySearchFunc, IndexFunc, Index, Contains. No condition. -/
import Derived.Test.YtlhojkopfpnhpaaPlA
namespace Go.Proofs.Ytlhojkopfpnhpaa
open Go.ChangeShapes Go.WideShapes Go.ChangeAt Go.RowKit Go.Deep
set_option linter.unusedVariables false
set_option maxRecDepth 100000
set_option linter.unusedSimpArgs false
namespace Pl
theorem rgetD {α : Type} {l : List α} {k : Nat} (h : k < l.length) : l[k]? = some l[k] := List.getElem?_eq_getElem h
def idxOf {α : Type} (q : α → Bool) (l : List α) : Int := if l.findIdx q < l.length then (l.findIdx q : Int) else -1
def Ahead {α : Type} (q : α → Bool) (l : List α) (k : Nat) : Prop := ∀ j y, j < k → l[j]? = some y → q y = false
theorem Ahead.zero {α : Type} (q : α → Bool) (l : List α) : Ahead q l 0 := fun j y h => absurd h (Nat.not_lt_zero _)
theorem Ahead.succ {α : Type} {q : α → Bool} {l : List α} {k : Nat} {x : α} (h : Ahead q l k) (hx : l[k]? = some x) (hq : q x = false) : Ahead q l (k + 1) := by
  intro j y hj hy
  rcases Nat.lt_or_ge j k with h1 | h1
  · exact h j y h1 hy
  · obtain rfl : j = k := by omega
    rw [hx] at hy; cases hy; exact hq
theorem idx_hit {α : Type} {q : α → Bool} {l : List α} {k : Nat} {x : α} (h : Ahead q l k) (hx : l[k]? = some x) (hq : q x = true) : idxOf q l = k := by
  obtain ⟨hk, rfl⟩ := List.getElem?_eq_some_iff.1 hx
  have e : l.findIdx q = k := by
    rcases Nat.lt_trichotomy (l.findIdx q) k with h1 | h1 | h1
    · have := h _ _ h1 (rgetD (by omega))
      have h2 := List.findIdx_getElem (p := q) (xs := l) (w := by omega)
      rw [this] at h2; cases h2
    · exact h1
    · have := List.not_of_lt_findIdx (p := q) (xs := l) (i := k) h1
      rw [hq] at this; cases this
  unfold idxOf
  rw [e, if_pos hk]
theorem idx_none {α : Type} {q : α → Bool} {l : List α} (h : Ahead q l l.length) : idxOf q l = -1 := by
  unfold idxOf
  rw [if_neg]
  intro h1
  have := h _ _ h1 (rgetD h1)
  have h2 := List.findIdx_getElem (p := q) (xs := l) (w := h1)
  rw [this] at h2; cases h2
theorem idx_cases {α : Type} (q : α → Bool) (l : List α) : (∃ k x, l[k]? = some x ∧ k < l.length ∧ q x = true ∧ Ahead q l k ∧ idxOf q l = k) ∨ (Ahead q l l.length ∧ idxOf q l = -1) := by
  by_cases h1 : l.findIdx q < l.length
  · refine .inl ⟨_, _, rgetD h1, h1, List.findIdx_getElem, ?_, ?_⟩
    · intro j y hj hy
      obtain ⟨h2, rfl⟩ := List.getElem?_eq_some_iff.1 hy
      have := List.not_of_lt_findIdx (p := q) (xs := l) (i := j) hj
      simpa using this
    · unfold idxOf; rw [if_pos h1]
  · refine .inr ⟨?_, ?_⟩
    · intro j y hj hy
      obtain ⟨h2, rfl⟩ := List.getElem?_eq_some_iff.1 hy
      have := List.not_of_lt_findIdx (p := q) (xs := l) (i := j) (by have := List.findIdx_le_length (p := q) (xs := l); omega)
      simpa using this
    · unfold idxOf; rw [if_neg h1]
/-! ### a token's place -/
def posC (t : Int) (cs : List Cn) : Nat := cs.findIdx fun x => decide (t ≤ x.tok)
def hasC (t : Int) (cs : List Cn) : Bool := decide ((cs[posC t cs]?.map Cn.tok) = some t)
def cmpZ (a b : Int) : Int := if a < b then -1 else if b < a then 1 else 0
theorem compare_any (a b : Int) (w : World) : Calls Try.prog 36 #[.int .i64 a, .int .i64 b] w fun e w' => e = .returned (.int .i64 (cmpZ a b)) ∧ w' = w := by
  have nan : ∀ (z : Int) (u : World), Calls Try.prog 42 #[.int .i64 z] u fun e u' => e = .returned (.bool false) ∧ u' = u := by
    intro z u
    go_enter Try.func42, Try.ntmps42
    go_wp2
    go_ret
    exact ⟨by simp, rfl⟩
  by_cases h1 : a < b
  · have e : cmpZ a b = -1 := by unfold cmpZ; rw [if_pos h1]
    rw [e]; clear e
    go_enter Try.func36, Try.ntmps36
    go_wp2_with (refine (nan _ _).mono ?_; rintro e w2 ⟨rfl, rfl⟩)
    go_ret
    exact ⟨rfl, rfl⟩
  · by_cases h2 : b < a
    · have e : cmpZ a b = 1 := by unfold cmpZ; rw [if_neg h1, if_pos h2]
      rw [e]; clear e
      go_enter Try.func36, Try.ntmps36
      go_wp2_with (refine (nan _ _).mono ?_; rintro e w2 ⟨rfl, rfl⟩)
      go_ret
      exact ⟨rfl, rfl⟩
    · have e : cmpZ a b = 0 := by unfold cmpZ; rw [if_neg h1, if_neg h2]
      rw [e]; clear e
      go_enter Try.func36, Try.ntmps36
      go_wp2_with (refine (nan _ _).mono ?_; rintro e w2 ⟨rfl, rfl⟩)
      go_ret
      exact ⟨rfl, rfl⟩
theorem key_any (c : Cn) (t : Int) (w : World) : Calls Try.prog 35 #[.agg #[.int .i64 c.tok, .int .i64 c.sess], .int .i64 t] w fun e w' => e = .returned (.int .i64 (cmpZ c.tok t)) ∧ Below w.heap.size w w' := by
  go_enter Try.func35, Try.ntmps35
  go_wp2_with (refine (compare_any _ _ _).mono ?_; rintro e w2 ⟨rfl, rfl⟩)
  go_ret
  exact ⟨rfl, (Below.refl _ _).alloc (Nat.le_refl _) _⟩
theorem pos_le (n : Int) (l : List Cn) : posC n l ≤ l.length := List.findIdx_le_length
theorem pos_ahead {n : Int} {l : List Cn} : ∀ x ∈ l.take (posC n l), x.tok < n := by
  intro x hx
  obtain ⟨j, hj, rfl⟩ := List.mem_take_iff_getElem.1 hx
  have h := List.not_of_lt_findIdx (p := fun r : Cn => decide (n ≤ r.tok)) (xs := l) (i := j) (by unfold posC at hj; omega)
  simp at h
  exact h
theorem pos_at {n : Int} {l : List Cn} {r : Cn} (h : l[posC n l]? = some r) : n ≤ r.tok := by
  obtain ⟨hj, rfl⟩ := List.getElem?_eq_some_iff.1 h
  have := List.findIdx_getElem (p := fun r : Cn => decide (n ≤ r.tok)) (xs := l) (w := hj)
  exact of_decide_eq_true this
def Above (n : Int) (xs : List Cn) (j : Nat) : Prop := ∀ k x, xs[k]? = some x → j ≤ k → n ≤ x.tok
def Under (n : Int) (xs : List Cn) (i : Nat) : Prop := ∀ k x, xs[k]? = some x → k < i → x.tok < n
theorem pos_eq {n : Int} {xs : List Cn} {i : Nat} (hi : i ≤ xs.length) (h1 : Under n xs i) (h2 : Above n xs i) : posC n xs = i := by
  rcases Nat.lt_trichotomy (posC n xs) i with h | h | h
  · have h3 := pos_at (rgetD (by omega : posC n xs < xs.length))
    have h4 := h1 _ _ (rgetD (by omega : posC n xs < xs.length)) h
    omega
  · exact h
  · have hl := pos_le n xs
    have h3 := pos_ahead (n := n) (l := xs) xs[i] (List.mem_take_iff_getElem.2 ⟨i, by omega, rfl⟩)
    have h4 := h2 i _ (rgetD (by omega)) (Nat.le_refl _)
    omega
theorem under_step {n : Int} {xs : List Cn} {h : Nat} {x : Cn} (hp : xs.Pairwise fun x y => x.tok < y.tok) (hx : xs[h]? = some x) (hn : x.tok < n) : Under n xs (h + 1) := by
  intro k y hy hk
  obtain ⟨h1, rfl⟩ := List.getElem?_eq_some_iff.1 hx
  obtain ⟨h2, rfl⟩ := List.getElem?_eq_some_iff.1 hy
  rcases Nat.lt_or_ge k h with h3 | h3
  · have := List.pairwise_iff_getElem.1 hp k h h2 h1 h3; omega
  · obtain rfl : k = h := by omega
    exact hn
theorem above_step {n : Int} {xs : List Cn} {h : Nat} {x : Cn} (hp : xs.Pairwise fun x y => x.tok < y.tok) (hx : xs[h]? = some x) (hn : n ≤ x.tok) : Above n xs h := by
  intro k y hy hk
  obtain ⟨h1, rfl⟩ := List.getElem?_eq_some_iff.1 hx
  obtain ⟨h2, rfl⟩ := List.getElem?_eq_some_iff.1 hy
  rcases Nat.lt_or_ge h k with h3 | h3
  · have := List.pairwise_iff_getElem.1 hp h k h1 h2 h3; omega
  · obtain rfl : h = k := by omega
    exact hn
def Found (t : Int) (cs : List Cn) (w : World) (e : Ending) (w' : World) : Prop := e = .returned (.tuple #[.int .i64 (posC t cs), .bool (hasC t cs)]) ∧ Below w.heap.size w w'
theorem cn_cells {w : World} {b off k : Nat} {x : Cn} (h : ∀ j u, (cnC x)[j]? = some u → w.cell? ⟨b, off + (k * 2 + j), none⟩ = some u) :
    w.cell? ⟨b, off + k * 2, none⟩ = some (.int .i64 x.tok) ∧ w.cell? ⟨b, off + k * 2 + 1, none⟩ = some (.int .i64 x.sess) := by
  have h0 := h 0 _ rfl; have h1 := h 1 _ rfl
  simp only [← Nat.add_assoc, Nat.add_zero] at h0 h1
  exact ⟨h0, h1⟩
set_option maxHeartbeats 2000000 in
theorem search_any (xs : List Cn) (b off cap : Nat) (n : Int) (w : World) (hcap : xs.length ≤ cap ∧ cap ≤ 9223372036854775807) (h8 : xs.length ≤ 8) (hlb : b < w.heap.size) (hc : ∀ i x, xs[i]? = some x → ∀ j u, (cnC x)[j]? = some u → w.cell? ⟨b, off + (i * 2 + j), none⟩ = some u) (hp : xs.Pairwise fun x y => x.tok < y.tok) :
    Calls Try.prog 34 #[.slice (some ⟨b, off, none⟩) xs.length cap, .int .i64 n, .func (.func 35) #[] #[]] w (Found n xs w) := by
  obtain ⟨h1, h2⟩ := hcap
  have HC := Lib.hid hc
  have HP := Lib.hid hp
  clear hc hp
  go_enter Try.func34, Try.ntmps34
  go_wp2
  go_loopw [9, 10] (fun i j wr => ∃ p q : Nat, p ≤ q ∧ q ≤ xs.length ∧ i = .int .i64 p ∧ j = .int .i64 q ∧ Hid (Under n xs p) ∧ Hid (Above n xs q) ∧ Below w.heap.size w wr) (fun i j _ => (intOf j).toNat - (intOf i).toNat)
  case atStart => exact ⟨0, xs.length, Nat.zero_le _, Nat.le_refl _, rfl, rfl, Lib.hid (fun k x _ hk => absurd hk (Nat.not_lt_zero _)), Lib.hid (fun k x hx hk => by rw [List.getElem?_eq_none hk] at hx; cases hx), Below.refl _ _⟩
  case round =>
    obtain ⟨p, q, hpq, hq, rfl, rfl, HU, HA, hbl⟩ := hrel
    by_cases hlt : p < q
    · obtain ⟨m, hm⟩ : ∃ m : Nat, ((p : Int) + (q : Int)) / 2 = (m : Int) := ⟨(p + q) / 2, by omega⟩
      have hm1 : p ≤ m := by omega
      have hm2 : m < q := by omega
      have he : IntKind.u64.wrap ((p : Int) + (q : Int)) = (p : Int) + (q : Int) := by rw [IntKind.wrap_u64]; omega
      have hml : m < xs.length := by omega
      have hce := fun j u hu => (hbl.cell (p := ⟨b, off + (m * 2 + j), none⟩) hlb).trans (HC.out m _ (rgetD hml) j u hu)
      have HG := Lib.hid (rgetD hml)
      generalize xs[m] = x at *
      obtain ⟨x0, x1⟩ := cn_cells hce
      have HBL := Lib.hid hbl
      clear hce
      by_cases hx : x.tok < n
      · have hx' : cmpZ x.tok n < 0 := by unfold cmpZ; rw [if_pos hx]; decide
        have HU2 := Lib.hid (under_step HP.out HG.out hx)
        clear hx
        go_wp2_with (refine (key_any x n _).mono ?_; rintro e w2 ⟨rfl, hb2⟩)
        go_roundw
        case rel => exact ⟨m + 1, q, by omega, hq, by go_num, rfl, HU2, HA, HBL.out.trans (hb2.mono HBL.out.size)⟩
        case measure => simp [intOf]; omega
      · have hx' : ¬ cmpZ x.tok n < 0 := by unfold cmpZ; rw [if_neg hx]; split <;> decide
        have HA2 := Lib.hid (above_step HP.out HG.out (by omega : n ≤ x.tok))
        clear hx
        go_wp2_with (refine (key_any x n _).mono ?_; rintro e w2 ⟨rfl, hb2⟩)
        go_roundw
        case rel => exact ⟨p, m, hm1, by omega, rfl, rfl, HU, HA2, HBL.out.trans (hb2.mono HBL.out.size)⟩
        case measure => simp [intOf]; omega
    · obtain rfl : p = q := by omega
      have HE := Lib.hid (pos_eq hq HU.out HA.out)
      have HBL := Lib.hid hbl
      by_cases hlt2 : p < xs.length
      · have hce := fun j u hu => (hbl.cell (p := ⟨b, off + (p * 2 + j), none⟩) hlb).trans (HC.out p _ (rgetD hlt2) j u hu)
        have HG := Lib.hid (rgetD hlt2)
        generalize xs[p] = x at *
        obtain ⟨x0, x1⟩ := cn_cells hce
        clear hce hbl
        have HH : Hid (hasC n xs = (cmpZ x.tok n == 0)) := Lib.hid (by
          unfold hasC
          rw [HE.out, HG.out, Bool.eq_iff_iff]
          simp only [Option.map_some, Option.some.injEq, decide_eq_true_eq, beq_iff_eq]
          unfold cmpZ
          split
          · omega
          · split <;> omega)
        go_wp2_with (refine (key_any x n _).mono ?_; rintro e w2 ⟨rfl, hb2⟩)
        go_ret2
        exact ⟨by rw [HE.out, HH.out]; rfl, HBL.out.trans (hb2.mono HBL.out.size)⟩
      · have HH : Hid (hasC n xs = false) := Lib.hid (by
          unfold hasC
          rw [HE.out, List.getElem?_eq_none (by omega)]
          rfl)
        clear hbl
        go_wp2
        go_ret2
        exact ⟨by rw [HE.out, HH.out]; rfl, HBL.out⟩
/-! ### a session's place -/
def sessQ (s : Int) (x : Cn) : Bool := decide (x.sess = s)
theorem holdkey_any (c : Cn) (s : Int) (g : Nat) (w : World) (hg : w.cell? ⟨g, 0, none⟩ = some (.int .i64 s)) (hlt : g < w.heap.size) : Calls Try.prog 39 #[.agg #[.int .i64 c.tok, .int .i64 c.sess], .pointer (some ⟨g, 0, none⟩)] w fun e w' => e = .returned (.bool (sessQ s c)) ∧ Below w.heap.size w w' := by
  go_enter Try.func39, Try.ntmps39
  go_wp2
  go_ret
  exact ⟨ret_bool (by unfold sessQ; rw [Bool.eq_iff_iff]; simp), (Below.refl _ _).alloc (Nat.le_refl _) _⟩
set_option maxHeartbeats 1000000 in
theorem ixf_any (xs : List Cn) (b off cap : Nat) (s : Int) (g : Nat) (w : World) (hcap : xs.length ≤ cap ∧ cap ≤ 9223372036854775807) (hlb : b < w.heap.size) (hg : w.cell? ⟨g, 0, none⟩ = some (.int .i64 s)) (hlt : g < w.heap.size) (hc : ∀ i x, xs[i]? = some x → ∀ j u, (cnC x)[j]? = some u → w.cell? ⟨b, off + (i * 2 + j), none⟩ = some u) :
    Calls Try.prog 38 #[.slice (some ⟨b, off, none⟩) xs.length cap, .func (.func 39) #[] #[.pointer (some ⟨g, 0, none⟩)]] w fun e w' => e = .returned (.int .i64 (idxOf (sessQ s) xs)) ∧ Below w.heap.size w w' := by
  obtain ⟨h1, h2⟩ := hcap
  have HC := Lib.hid hc
  clear hc
  go_enter Try.func38, Try.ntmps38
  go_wp2
  go_loopw [8] (fun i wr => ∃ k : Nat, k ≤ xs.length ∧ i = .int .i64 k ∧ Hid (Ahead (sessQ s) xs k) ∧ Hid (Below w.heap.size w wr)) (fun i _ => xs.length - (intOf i).toNat)
  case atStart => exact ⟨0, Nat.zero_le _, rfl, Lib.hid (Ahead.zero _ _), Lib.hid (Below.refl _ _)⟩
  case round =>
    obtain ⟨k, hk, rfl, HA, HBL⟩ := hrel
    by_cases hk2 : k < xs.length
    · have hce := fun j u hu => (HBL.out.cell (p := ⟨b, off + (k * 2 + j), none⟩) hlb).trans (HC.out k _ (rgetD hk2) j u hu)
      have HG := Lib.hid (rgetD hk2)
      have hgw := Lib.hid ((HBL.out.cell (p := ⟨g, 0, none⟩) hlt).trans hg)
      have hgl := Lib.hid (Nat.lt_of_lt_of_le hlt HBL.out.size)
      generalize xs[k] = x at *
      obtain ⟨x0, x1⟩ := cn_cells hce
      clear hce
      by_cases hx : sessQ s x = true
      · have HI := Lib.hid (idx_hit HA.out HG.out hx)
        go_wp2_with (refine (holdkey_any x s g _ hgw.out hgl.out).mono ?_; rintro e w2 ⟨rfl, hb2⟩)
        go_ret
        exact ⟨ret_int HI.out.symm, HBL.out.trans (hb2.mono HBL.out.size)⟩
      · have hx' : sessQ s x = false := by simpa using hx
        have HA2 := Lib.hid (HA.out.succ HG.out hx')
        clear hx
        go_wp2_with (refine (holdkey_any x s g _ hgw.out hgl.out).mono ?_; rintro e w2 ⟨rfl, hb2⟩)
        go_roundw
        case rel => exact ⟨k + 1, by omega, by go_num, HA2, Lib.hid (HBL.out.trans (hb2.mono HBL.out.size))⟩
        case measure => simp [intOf]; omega
    · obtain rfl : k = xs.length := by omega
      have HI := Lib.hid (idx_none HA.out)
      go_wp2
      go_ret
      exact ⟨ret_int HI.out.symm, HBL.out⟩
/-! ### who waits -/
def isQ (n z : Int) : Bool := decide (z = n)
set_option maxHeartbeats 400000 in
theorem index_any (zs : List Int) (b off cap : Nat) (n : Int) (w : World) (hcap : zs.length ≤ cap ∧ cap ≤ 9223372036854775807) (hc : ∀ i x, zs[i]? = some x → w.cell? ⟨b, off + i, none⟩ = some (.int .i64 x)) :
    Calls Try.prog 37 #[.slice (some ⟨b, off, none⟩) zs.length cap, .int .i64 n] w fun e w' => e = .returned (.int .i64 (idxOf (isQ n) zs)) ∧ w' = w := by
  obtain ⟨h1, h2⟩ := hcap
  have HC := Lib.hid hc
  clear hc
  go_enter Try.func37, Try.ntmps37
  go_wp2
  go_loop [8] (fun i => ∃ k : Nat, k ≤ zs.length ∧ i = .int .i64 k ∧ Hid (Ahead (isQ n) zs k)) (fun i => zs.length - (intOf i).toNat)
  case atStart => exact ⟨0, Nat.zero_le _, rfl, Lib.hid (Ahead.zero _ _)⟩
  case round =>
    obtain ⟨k, hk, rfl, HA⟩ := hrel
    by_cases hk2 : k < zs.length
    · have hcx := HC.out k _ (rgetD hk2)
      have HG := Lib.hid (rgetD hk2)
      generalize zs[k] = x at *
      by_cases hx : x = n
      · subst hx
        have HI := Lib.hid (idx_hit HA.out HG.out (show isQ x x = true by simp [isQ]))
        go_wp2
        go_ret
        exact ⟨ret_int HI.out.symm, rfl⟩
      · have hx2 : (n == x) = false := by rw [beq_eq_false_iff_ne]; exact fun h => hx h.symm
        have HA2 := Lib.hid (HA.out.succ HG.out (show isQ n x = false by simp [isQ, hx]))
        clear hx
        go_wp2
        go_round
        case rel => exact ⟨k + 1, by omega, by go_num, HA2⟩
        case measure => simp [intOf]; omega
    · obtain rfl : k = zs.length := by omega
      have HI := Lib.hid (idx_none HA.out)
      go_wp2
      go_ret
      exact ⟨ret_int HI.out.symm, rfl⟩
theorem idx_mem (n : Int) (zs : List Int) : decide (0 ≤ idxOf (isQ n) zs) = decide (n ∈ zs) := by
  rw [Bool.eq_iff_iff, decide_eq_true_eq, decide_eq_true_eq]
  rcases idx_cases (isQ n) zs with ⟨k, x, hx, hk, hq, -, e⟩ | ⟨ha, e⟩
  · rw [e]
    refine ⟨fun _ => ?_, fun _ => by omega⟩
    have : x = n := by simpa [isQ] using hq
    subst this
    exact List.mem_of_getElem? hx
  · rw [e]
    refine ⟨fun h => absurd h (by decide), fun h => ?_⟩
    obtain ⟨j, hj, rfl⟩ := List.mem_iff_getElem.1 h
    have := ha j _ hj (rgetD hj)
    simp [isQ] at this
theorem contains_any (zs : List Int) (b off cap : Nat) (n : Int) (w : World) (hcap : zs.length ≤ cap ∧ cap ≤ 9223372036854775807) (hc : ∀ i x, zs[i]? = some x → w.cell? ⟨b, off + i, none⟩ = some (.int .i64 x)) :
    Calls Try.prog 25 #[.slice (some ⟨b, off, none⟩) zs.length cap, .int .i64 n] w fun e w' => e = .returned (.bool (decide (n ∈ zs))) ∧ w' = w := by
  have HI := Lib.hid (idx_mem n zs)
  go_enter Try.func25, Try.ntmps25
  go_wp2_with fail
  refine (index_any zs b off cap n _ hcap hc).mono ?_
  rintro e w' ⟨rfl, rfl⟩
  generalize idxOf (isQ n) zs = i at *
  clear hc
  go_wp2
  all_goals (go_ret; exact ⟨ret_bool HI.out, rfl⟩)
end Pl
end Go.Proofs.Ytlhojkopfpnhpaa
