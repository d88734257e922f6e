/- Which ledgers may be: what is asked of each row; small functions. No condition. -/
import Derived.Test.YtlkmdoddgfmnbaaLedH
namespace Go.Proofs.Ytlkmdoddgfmnbaa
open Go.ChangeShapes Go.WideShapes Go.ChangeAt Go.RowKit
set_option linter.unusedVariables false
set_option maxRecDepth 100000
namespace Ld
/-- the cells behind an index -/
theorem rows_open {α : Type} {sz : Nat} {C : α → List Value} {w : World} {a : Option Addr} {cap : Nat} {xs : List α} {k : Nat} (hk : k < xs.length)
    (h4 : (a = none ∧ cap = 0 ∧ xs = []) ∨ ∃ b off sp, a = some ⟨b, off, sp⟩ ∧ (xs = [] ∨ (sp = none ∧ b < w.heap.size ∧ ∀ i x, xs[i]? = some x → ∀ j u, (C x)[j]? = some u → w.cell? ⟨b, off + (i * sz + j), none⟩ = some u))) :
    ∃ b off, a = some ⟨b, off, none⟩ ∧ b < w.heap.size ∧ ∀ i x, xs[i]? = some x → ∀ j u, (C x)[j]? = some u → w.cell? ⟨b, off + (i * sz + j), none⟩ = some u := by
  rcases h4 with ⟨_, _, rfl⟩ | ⟨b, off, sp, rfl, rfl | ⟨rfl, hlt, hc⟩⟩
  · simp at hk
  · simp at hk
  · exact ⟨b, off, rfl, hlt, hc⟩
theorem last_cells {w : World} {b off k : Nat} {x : LastR} (h : ∀ j u, (lastC x)[j]? = some u → w.cell? ⟨b, off + (k * 6 + j), none⟩ = some u) :
    w.cell? ⟨b, off + k * 6, none⟩ = some (.int .i64 x.node) ∧ w.cell? ⟨b, off + k * 6 + 1, none⟩ = some (.int .u64 x.boot) ∧ w.cell? ⟨b, off + k * 6 + 2, none⟩ = some (.int .u64 x.seq) ∧ w.cell? ⟨b, off + k * 6 + 3, none⟩ = some (.int .i64 x.code) ∧ w.cell? ⟨b, off + k * 6 + 4, none⟩ = some (.int .i64 x.token) ∧ w.cell? ⟨b, off + k * 6 + 5, none⟩ = some (.int .u64 x.serial) := by
  have h0 := h 0 _ rfl; have h1 := h 1 _ rfl; have h2 := h 2 _ rfl; have h3 := h 3 _ rfl; have h4 := h 4 _ rfl; have h5 := h 5 _ rfl
  simp only [← Nat.add_assoc, Nat.add_zero] at h0 h1 h2 h3 h4 h5
  exact ⟨h0, h1, h2, h3, h4, h5⟩
/-- the box of a ledger in a later world -/
theorem box_cells {w wr : World} {l : Led} {vh vl : Value} (hb : Below (w.heap.size + 1) (w.alloc (.cells (lArr l vh vl) 26)) wr) :
    wr.cell? ⟨w.heap.size, 0, none⟩ = some (.int .i64 l.limit) ∧ wr.cell? ⟨w.heap.size, 1, none⟩ = some (.int .u64 l.next) ∧ wr.cell? ⟨w.heap.size, 2, none⟩ = some vh ∧ wr.cell? ⟨w.heap.size, 3, none⟩ = some vl := by
  have h := (hb.block w.heap.size (by omega)).trans (heap_alloc_new _ _)
  exact ⟨(cell_of_row wr _ 0 _ _ _ h).trans rfl, (cell_of_row wr _ 1 _ _ _ h).trans rfl, (cell_of_row wr _ 2 _ _ _ h).trans rfl, (cell_of_row wr _ 3 _ _ _ h).trans rfl⟩
/-- from behind the box to ahead of it -/
theorem box_below {w wr : World} {o : Obj} (hb : Below (w.heap.size + 1) (w.alloc o) wr) : Below w.heap.size w wr :=
  ((Below.refl _ _).alloc (Nat.le_refl _) _).trans (hb.mono (by omega))

def bef (xs : List Held) : Int := (xs.getLast?.map Held.token).getD 0
theorem bef_nil : bef [] = 0 := rfl
theorem bef_snoc (xs : List Held) (x : Held) : bef (xs ++ [x]) = x.token := by simp [bef]
def befL (xs : List LastR) : Int := (xs.getLast?.map LastR.node).getD 0
theorem befL_nil : befL [] = 0 := rfl
theorem befL_snoc (xs : List LastR) (x : LastR) : befL (xs ++ [x]) = x.node := by simp [befL]
def rowOk (L N bf : Int) (pre : List Held) (x : Held) : Prop :=
  bf < x.token ∧ x.token ≤ L ∧ 1 ≤ x.node ∧ x.node ≤ 7 ∧ x.boot ≠ 0 ∧ x.stamp ≠ 0 ∧ x.serial ≠ 0 ∧ x.serial < N ∧ ∀ y ∈ pre, y.serial ≠ x.serial
def ansOk (L N code token serial : Int) : Prop :=
  (code = 1 ∧ 1 ≤ token ∧ token ≤ L ∧ 1 ≤ serial ∧ serial < N) ∨ (2 ≤ code ∧ code ≤ 5 ∧ token = 0 ∧ serial = 0)
def lastOk (L N bf : Int) (x : LastR) : Prop := bf < x.node ∧ 1 ≤ x.node ∧ x.node ≤ 7 ∧ x.boot ≠ 0 ∧ x.seq ≠ 0 ∧ ansOk L N x.code x.token x.serial
def heldUp (l : Led) (k : Nat) : Prop := ∀ j y, j < k → l.held[j]? = some y → rowOk l.limit l.next (bef (l.held.take j)) (l.held.take j) y
def lastUp (l : Led) (k : Nat) : Prop := ∀ j y, j < k → l.last[j]? = some y → lastOk l.limit l.next (befL (l.last.take j)) y
def heldOk (l : Led) : Prop := l.held.length ≤ 64 ∧ heldUp l l.held.length
def lastsOk (l : Led) : Prop := lastUp l l.last.length
def ledOk (l : Led) : Prop := 1 ≤ l.limit ∧ l.limit ≤ 65535 ∧ l.next ≠ 0 ∧ heldOk l ∧ lastsOk l
theorem heldUp_zero (l : Led) : heldUp l 0 := fun j y hj => absurd hj (Nat.not_lt_zero _)
theorem lastUp_zero (l : Led) : lastUp l 0 := fun j y hj => absurd hj (Nat.not_lt_zero _)
theorem heldUp_succ {l : Led} {k : Nat} {x : Held} (h : heldUp l k) (hx : l.held[k]? = some x) (hr : rowOk l.limit l.next (bef (l.held.take k)) (l.held.take k) x) : heldUp l (k + 1) := by
  intro j y hj hy
  rcases Nat.lt_or_ge j k with h1 | h1
  · exact h j y h1 hy
  · obtain rfl : j = k := by omega
    rw [hx] at hy
    cases hy
    exact hr
theorem lastUp_succ {l : Led} {k : Nat} {x : LastR} (h : lastUp l k) (hx : l.last[k]? = some x) (hr : lastOk l.limit l.next (befL (l.last.take k)) x) : lastUp l (k + 1) := by
  intro j y hj hy
  rcases Nat.lt_or_ge j k with h1 | h1
  · exact h j y h1 hy
  · obtain rfl : j = k := by omega
    rw [hx] at hy
    cases hy
    exact hr
theorem u64_nonneg {n : Int} (h : (Lit.int .u64 n).wf = true) : 0 ≤ n := by
  simp [Lit.wf, IntKind.min, IntKind.max, IntKind.signed, IntKind.bits] at h
  omega

set_option maxHeartbeats 400000 in
theorem isNode_yes (n : Int) (w : World) (h1 : 1 ≤ n) (h2 : n ≤ 7) : Calls Try.prog 104 #[.int .i64 n] w fun e w' => e = .returned (.bool true) ∧ w = w' := by
  go_enter Try.func104, Try.ntmps104
  go_wp2
  go_ret
  exact ⟨ret_bool (by simp <;> omega), rfl⟩
set_option maxHeartbeats 400000 in
theorem isNode_no (n : Int) (w : World) (h : n < 1 ∨ 7 < n) : Calls Try.prog 104 #[.int .i64 n] w fun e w' => e = .returned (.bool false) ∧ w = w' := by
  by_cases h1 : 1 ≤ n
  · have h2 : 7 < n := by omega
    clear h
    go_enter Try.func104, Try.ntmps104
    go_wp2
    go_ret
    exact ⟨ret_bool (by simp <;> omega), rfl⟩
  · have h3 : n < 1 := by omega
    clear h h1
    go_enter Try.func104, Try.ntmps104
    go_wp2
    go_ret
    exact ⟨ret_bool (by first | rfl | (simp <;> omega)), rfl⟩

set_option maxHeartbeats 1000000 in
theorem hasSerial_any (xs : List Held) (v : Value) (s : Int) (w : World) (h : SlR 5 heldC w v xs) :
    Calls Try.prog 105 #[v, .int .u64 s] w fun e w' => ∃ b, e = .returned (.bool b) ∧ (b = true ↔ ∃ y ∈ xs, y.serial = s) ∧ Below w.heap.size w w' := by
  obtain ⟨a, cap, rfl, h1, h2, h4⟩ := h
  unfold maxLen at h2
  have HO4 := Lib.hid h4
  clear h4
  go_enter Try.func105, Try.ntmps105
  go_wp2
  go_loopw [9] (fun i wr => ∃ k : Nat, k ≤ xs.length ∧ i = .int .i64 k ∧ Hid (∀ y ∈ xs.take k, y.serial ≠ s) ∧ Below w.heap.size w wr) (fun i _ => xs.length - (intOf i).toNat)
  case atStart => exact ⟨0, Nat.zero_le _, rfl, Lib.hid (by simp), Below.refl _ _⟩
  case round =>
    obtain ⟨k, hk, rfl, HO, hb⟩ := hrel
    by_cases hlt2 : k < xs.length
    · obtain ⟨b, off, rfl, hlt, hc⟩ := rows_open hlt2 HO4.out
      have hce := fun j u hu => (hb.cell (p := ⟨b, off + (k * 5 + j), none⟩) hlt).trans (hc k _ (rgetD hlt2) j u hu)
      have HT := Lib.hid (rtake hlt2)
      have HM := Lib.hid (List.getElem_mem hlt2)
      clear hc
      generalize xs[k] = x at *
      obtain ⟨x0, x1, x2, x3, x4⟩ := held_cells hce
      clear hce
      have hzw := hb.size
      by_cases hn : x.serial = s
      · have hn2 : (x.serial == s) = true := beq_iff_eq.2 hn
        have HE := Lib.hid hn
        clear hn
        go_wp2
        go_ret
        exact ⟨_, rfl, ⟨fun _ => ⟨x, HM.out, HE.out⟩, fun _ => rfl⟩, hb.alloc hzw _⟩
      · have hn2 : (x.serial == s) = false := beq_eq_false_iff_ne.2 hn
        have HE := Lib.hid hn
        clear hn
        go_wp2
        go_roundw
        case rel =>
          refine ⟨k + 1, by omega, by go_num, Lib.hid ?_, hb.alloc hzw _⟩
          rw [HT.out]
          intro y hy
          rcases List.mem_append.1 hy with h | h
          · exact HO.out y h
          · simp at h; subst h; exact HE.out
        case measure => simp [intOf]; omega
    · obtain rfl : k = xs.length := by omega
      have HO2 := HO.out
      rw [List.take_length] at HO2
      have HO3 := Lib.hid HO2
      clear HO2
      go_wp2
      go_ret
      exact ⟨_, rfl, ⟨fun h => (by cases h), fun ⟨y, hy, he⟩ => absurd he (HO3.out y hy)⟩, hb⟩
end Ld
end Go.Proofs.Ytlkmdoddgfmnbaa
