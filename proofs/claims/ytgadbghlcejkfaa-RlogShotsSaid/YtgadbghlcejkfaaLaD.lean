/- Where a node's last request stands: slices.BinarySearchFunc over the rows of Last. No condition. -/
import Derived.Test.YtgadbghlcejkfaaLaB
import Derived.Test.YtgadbghlcejkfaaLdB
namespace Go.Proofs.Ytgadbghlcejkfaa
open Go.ChangeShapes Go.WideShapes Go.ChangeAt Go.RowKit
set_option linter.unusedVariables false
set_option maxRecDepth 100000
namespace La
open Ld Cm

abbrev lastA (r : LastR) : Array Value := #[.int .i64 r.node, .int .u64 r.boot, .int .u64 r.seq, .int .i64 r.code, .int .i64 r.token, .int .u64 r.serial]
set_option maxHeartbeats 400000 in
theorem cmp_any (r : LastR) (n : Int) (w : World) (hr : 1 ≤ r.node ∧ r.node ≤ 7) (hn : 1 ≤ n ∧ n ≤ 7) :
    Calls Try.prog 145 #[.agg (lastA r), .int .i64 n] w fun e w' => e = .returned (.int .i64 (r.node - n)) ∧ Below w.heap.size w w' := by
  obtain ⟨h1, h2⟩ := hr
  obtain ⟨h3, h4⟩ := hn
  go_enter Try.func145, Try.ntmps145
  go_wp2
  go_ret
  exact ⟨by first | rfl | exact ret_int (by rw [IntKind.wrap_i64]; omega), (Below.refl _ _).alloc (Nat.le_refl _) _⟩

def Above (n : Int) (xs : List LastR) (j : Nat) : Prop := ∀ k x, xs[k]? = some x → j ≤ k → n ≤ x.node
def Under (n : Int) (xs : List LastR) (i : Nat) : Prop := ∀ k x, xs[k]? = some x → k < i → x.node < n
theorem pos_eq {n : Int} {xs : List LastR} {i : Nat} (hi : i ≤ xs.length) (h1 : Under n xs i) (h2 : Above n xs i) : posL n xs = i := by
  rcases Nat.lt_trichotomy (posL n xs) i with h | h | h
  · have h3 := pos_at (rgetD (by omega : posL n xs < xs.length))
    have h4 := h1 _ _ (rgetD (by omega : posL n xs < xs.length)) h
    omega
  · exact h
  · have hl := pos_le n xs
    have h3 := pos_ahead (n := n) (l := xs) xs[i] (List.mem_take_iff_getElem.2 ⟨i, by omega, rfl⟩)
    have h4 := h2 i _ (rgetD (by omega)) (Nat.le_refl _)
    omega
theorem under_step {n : Int} {xs : List LastR} {h : Nat} {x : LastR} (hp : xs.Pairwise fun x y => x.node < y.node) (hx : xs[h]? = some x) (hn : x.node < n) : Under n xs (h + 1) := by
  intro k y hy hk
  obtain ⟨h1, rfl⟩ := List.getElem?_eq_some_iff.1 hx
  obtain ⟨h2, rfl⟩ := List.getElem?_eq_some_iff.1 hy
  rcases Nat.lt_or_ge k h with h3 | h3
  · have := List.pairwise_iff_getElem.1 hp k h h2 h1 h3; omega
  · obtain rfl : k = h := by omega
    exact hn
theorem above_step {n : Int} {xs : List LastR} {h : Nat} {x : LastR} (hp : xs.Pairwise fun x y => x.node < y.node) (hx : xs[h]? = some x) (hn : n ≤ x.node) : Above n xs h := by
  intro k y hy hk
  obtain ⟨h1, rfl⟩ := List.getElem?_eq_some_iff.1 hx
  obtain ⟨h2, rfl⟩ := List.getElem?_eq_some_iff.1 hy
  rcases Nat.lt_or_ge h k with h3 | h3
  · have := List.pairwise_iff_getElem.1 hp h k h1 h2 h3; omega
  · obtain rfl : h = k := by omega
    exact hn
def hasN (n : Int) (xs : List LastR) : Bool := decide ((xs[posL n xs]?.map LastR.node) = some n)
def Found (n : Int) (xs : List LastR) (w : World) (e : Ending) (w' : World) : Prop := e = .returned (.tuple #[.int .i64 (posL n xs), .bool (hasN n xs)]) ∧ Below w.heap.size w w'

set_option maxHeartbeats 2000000 in
theorem search_any (xs : List LastR) (v : Value) (n : Int) (w : World) (h : SlR 6 lastC w v xs) (hp : xs.Pairwise fun x y => x.node < y.node) (hb : ∀ x ∈ xs, 1 ≤ x.node ∧ x.node ≤ 7) (hn : 1 ≤ n ∧ n ≤ 7) :
    Calls Try.prog 144 #[v, .int .i64 n, .func (.func 145) #[] #[]] w (Found n xs w) := by
  obtain ⟨a, cap, rfl, h1, h2, h4⟩ := h
  unfold maxLen at h2
  have h7 : xs.length ≤ 7 := by
    rcases Nat.eq_zero_or_pos xs.length with h0 | h0
    · omega
    · have hge : ∀ j (hj : j < xs.length), (j : Int) + 1 ≤ xs[j].node := by
        intro j hj
        induction j with
        | zero => have := (hb _ (List.getElem_mem hj)).1; omega
        | succ j ih => have := ih (by omega); have := List.pairwise_iff_getElem.1 hp j (j + 1) (by omega) hj (by omega); omega
      have h8 := hge (xs.length - 1) (by omega)
      have h9 := (hb _ (List.getElem_mem (by omega : xs.length - 1 < xs.length))).2
      omega
  have HO4 := Lib.hid h4
  have HP := Lib.hid hp
  have HB := Lib.hid hb
  have HN := Lib.hid hn
  clear h4 hp hb hn
  go_enter Try.func144, Try.ntmps144
  go_wp2
  go_loopw [9, 10] (fun i j wr => ∃ p q : Nat, p ≤ q ∧ q ≤ xs.length ∧ i = .int .i64 p ∧ j = .int .i64 q ∧ Hid (Under n xs p) ∧ Hid (Above n xs q) ∧ Below w.heap.size w wr) (fun i j _ => (intOf j).toNat - (intOf i).toNat)
  case atStart => exact ⟨0, xs.length, Nat.zero_le _, Nat.le_refl _, rfl, rfl, Lib.hid (fun k x _ hk => absurd hk (Nat.not_lt_zero _)), Lib.hid (fun k x hx hk => by rw [List.getElem?_eq_none hk] at hx; cases hx), Below.refl _ _⟩
  case round =>
    obtain ⟨p, q, hpq, hq, rfl, rfl, HU, HA, hbl⟩ := hrel
    by_cases hlt : p < q
    · obtain ⟨m, hm⟩ : ∃ m : Nat, ((p : Int) + (q : Int)) / 2 = (m : Int) := ⟨(p + q) / 2, by omega⟩
      have hm1 : p ≤ m := by omega
      have hm2 : m < q := by omega
      have he : IntKind.u64.wrap ((p : Int) + (q : Int)) = (p : Int) + (q : Int) := by rw [IntKind.wrap_u64]; omega
      have hml : m < xs.length := by omega
      obtain ⟨b, off, rfl, hlb, hc⟩ := rows_open hml HO4.out
      have hce := fun j u hu => (hbl.cell (p := ⟨b, off + (m * 6 + j), none⟩) hlb).trans (hc m _ (rgetD hml) j u hu)
      have HG := Lib.hid (rgetD hml)
      have HM := Lib.hid (List.getElem_mem hml)
      clear hc
      generalize xs[m] = x at *
      obtain ⟨x0, x1, x2, x3, x4, x5⟩ := last_cells hce
      have HX := Lib.hid (HB.out x HM.out)
      have HBL := Lib.hid hbl
      clear hce
      by_cases hx : x.node < n
      · have hx' : x.node - n < 0 := by omega
        have HU2 := Lib.hid (under_step HP.out HG.out hx)
        clear hx
        go_wp2_with (refine (cmp_any x n _ HX.out HN.out).mono ?_; rintro e w2 ⟨rfl, hb2⟩)
        go_roundw
        case rel => exact ⟨m + 1, q, by omega, hq, by go_num, rfl, HU2, HA, HBL.out.trans (hb2.mono HBL.out.size)⟩
        case measure => simp [intOf]; omega
      · have hx' : ¬ x.node - n < 0 := by omega
        have HA2 := Lib.hid (above_step HP.out HG.out (by omega : n ≤ x.node))
        clear hx
        go_wp2_with (refine (cmp_any x n _ HX.out HN.out).mono ?_; rintro e w2 ⟨rfl, hb2⟩)
        go_roundw
        case rel => exact ⟨p, m, hm1, by omega, rfl, rfl, HU, HA2, HBL.out.trans (hb2.mono HBL.out.size)⟩
        case measure => simp [intOf]; omega
    · obtain rfl : p = q := by omega
      have HE := Lib.hid (pos_eq hq HU.out HA.out)
      have HBL := Lib.hid hbl
      by_cases hlt2 : p < xs.length
      · obtain ⟨b, off, rfl, hlb, hc⟩ := rows_open hlt2 HO4.out
        have hce := fun j u hu => (hbl.cell (p := ⟨b, off + (p * 6 + j), none⟩) hlb).trans (hc p _ (rgetD hlt2) j u hu)
        have HG := Lib.hid (rgetD hlt2)
        have HM := Lib.hid (List.getElem_mem hlt2)
        clear hc
        generalize xs[p] = x at *
        obtain ⟨x0, x1, x2, x3, x4, x5⟩ := last_cells hce
        have HX := Lib.hid (HB.out x HM.out)
        clear hce hbl
        have HH : Hid (hasN n xs = (x.node - n == 0)) := Lib.hid (by
          unfold hasN
          rw [HE.out, HG.out, Bool.eq_iff_iff]
          simp
          omega)
        go_wp2_with (refine (cmp_any x n _ HX.out HN.out).mono ?_; rintro e w2 ⟨rfl, hb2⟩)
        go_ret2
        exact ⟨by rw [HE.out, HH.out]; rfl, HBL.out.trans (hb2.mono HBL.out.size)⟩
      · have HH : Hid (hasN n xs = false) := Lib.hid (by
          unfold hasN
          rw [HE.out, List.getElem?_eq_none (by omega)]
          rfl)
        clear hbl
        go_wp2
        go_ret2
        exact ⟨by rw [HE.out, HH.out]; rfl, HBL.out⟩
end La
end Go.Proofs.Ytgadbghlcejkfaa
