/- Which ledgers may be: what is asked of each row; small functions. No condition. Which answers a ledger may have given: the package's and the document's. No condition. Whether the rows that are held may be: ledger.heldFits. No condition. Whether the last answers may be: ledger.lastFits. No condition. Which ledgers may be: ledger.Check. No condition. Copies of a ledger, and whether two are the same where both are. No condition. -/
import Derived.Test.YtlfaiemebfkajaaGreatDoorLdB
import Derived.BigRegion
import Derived.Deep.RegionWith
namespace Go.Proofs.YtlfaiemebfkajaaGreatDoor
open Go.ChangeShapes Go.WideShapes Go.ChangeAt Go.RowKit
set_option linter.unusedVariables false
set_option maxRecDepth 100000
namespace Ld
/-- the cells behind an index -/
theorem rows_open {α : Type} {sz : Nat} {C : α → List Value} {w : World} {a : Option Addr} {cap : Nat} {xs : List α} {k : Nat} (hk : k < xs.length)
    (h4 : (a = none ∧ cap = 0 ∧ xs = []) ∨ ∃ b off sp, a = some ⟨b, off, sp⟩ ∧ (xs = [] ∨ (sp = none ∧ b < w.heap.size ∧ ∀ i x, xs[i]? = some x → ∀ j u, (C x)[j]? = some u → w.cell? ⟨b, off + (i * sz + j), none⟩ = some u))) :
    ∃ b off, a = some ⟨b, off, none⟩ ∧ b < w.heap.size ∧ ∀ i x, xs[i]? = some x → ∀ j u, (C x)[j]? = some u → w.cell? ⟨b, off + (i * sz + j), none⟩ = some u := by
  rcases h4 with ⟨_, _, rfl⟩ | ⟨b, off, sp, rfl, rfl | ⟨rfl, hlt, hc⟩⟩
  · simp at hk
  · simp at hk
  · exact ⟨b, off, rfl, hlt, hc⟩
theorem last_cells {w : World} {b off k : Nat} {x : LastR} (h : ∀ j u, (lastC x)[j]? = some u → w.cell? ⟨b, off + (k * 6 + j), none⟩ = some u) :
    w.cell? ⟨b, off + k * 6, none⟩ = some (.int .i64 x.node) ∧ w.cell? ⟨b, off + k * 6 + 1, none⟩ = some (.int .u64 x.boot) ∧ w.cell? ⟨b, off + k * 6 + 2, none⟩ = some (.int .u64 x.seq) ∧ w.cell? ⟨b, off + k * 6 + 3, none⟩ = some (.int .i64 x.code) ∧ w.cell? ⟨b, off + k * 6 + 4, none⟩ = some (.int .i64 x.token) ∧ w.cell? ⟨b, off + k * 6 + 5, none⟩ = some (.int .u64 x.serial) := by
  have h0 := h 0 _ rfl; have h1 := h 1 _ rfl; have h2 := h 2 _ rfl; have h3 := h 3 _ rfl; have h4 := h 4 _ rfl; have h5 := h 5 _ rfl
  simp only [← Nat.add_assoc, Nat.add_zero] at h0 h1 h2 h3 h4 h5
  exact ⟨h0, h1, h2, h3, h4, h5⟩
/-- the box of a ledger in a later world -/
theorem box_cells {w wr : World} {l : Led} {vh vl : Value} (hb : Below (w.heap.size + 1) (w.alloc (.cells (lArr l vh vl) 29)) wr) :
    wr.cell? ⟨w.heap.size, 0, none⟩ = some (.int .i64 l.limit) ∧ wr.cell? ⟨w.heap.size, 1, none⟩ = some (.int .u64 l.next) ∧ wr.cell? ⟨w.heap.size, 2, none⟩ = some vh ∧ wr.cell? ⟨w.heap.size, 3, none⟩ = some vl := by
  have h := (hb.block w.heap.size (by omega)).trans (heap_alloc_new _ _)
  exact ⟨(cell_of_row wr _ 0 _ _ _ h).trans rfl, (cell_of_row wr _ 1 _ _ _ h).trans rfl, (cell_of_row wr _ 2 _ _ _ h).trans rfl, (cell_of_row wr _ 3 _ _ _ h).trans rfl⟩
/-- from behind the box to ahead of it -/
theorem box_below {w wr : World} {o : Obj} (hb : Below (w.heap.size + 1) (w.alloc o) wr) : Below w.heap.size w wr :=
  ((Below.refl _ _).alloc (Nat.le_refl _) _).trans (hb.mono (by omega))

def bef (xs : List Held) : Int := (xs.getLast?.map Held.token).getD 0
theorem bef_nil : bef [] = 0 := rfl
theorem bef_snoc (xs : List Held) (x : Held) : bef (xs ++ [x]) = x.token := by simp [bef]
def befL (xs : List LastR) : Int := (xs.getLast?.map LastR.node).getD 0
theorem befL_nil : befL [] = 0 := rfl
theorem befL_snoc (xs : List LastR) (x : LastR) : befL (xs ++ [x]) = x.node := by simp [befL]
def rowOk (L N bf : Int) (pre : List Held) (x : Held) : Prop :=
  bf < x.token ∧ x.token ≤ L ∧ 1 ≤ x.node ∧ x.node ≤ 7 ∧ x.boot ≠ 0 ∧ x.stamp ≠ 0 ∧ x.serial ≠ 0 ∧ x.serial < N ∧ ∀ y ∈ pre, y.serial ≠ x.serial
def ansOk (L N code token serial : Int) : Prop :=
  (code = 1 ∧ 1 ≤ token ∧ token ≤ L ∧ 1 ≤ serial ∧ serial < N) ∨ (2 ≤ code ∧ code ≤ 5 ∧ token = 0 ∧ serial = 0)
def lastOk (L N bf : Int) (x : LastR) : Prop := bf < x.node ∧ 1 ≤ x.node ∧ x.node ≤ 7 ∧ x.boot ≠ 0 ∧ x.seq ≠ 0 ∧ ansOk L N x.code x.token x.serial
def heldUp (l : Led) (k : Nat) : Prop := ∀ j y, j < k → l.held[j]? = some y → rowOk l.limit l.next (bef (l.held.take j)) (l.held.take j) y
def lastUp (l : Led) (k : Nat) : Prop := ∀ j y, j < k → l.last[j]? = some y → lastOk l.limit l.next (befL (l.last.take j)) y
def heldOk (l : Led) : Prop := l.held.length ≤ 64 ∧ heldUp l l.held.length
def lastsOk (l : Led) : Prop := lastUp l l.last.length
def ledOk (l : Led) : Prop := 1 ≤ l.limit ∧ l.limit ≤ 65535 ∧ l.next ≠ 0 ∧ heldOk l ∧ lastsOk l
theorem heldUp_zero (l : Led) : heldUp l 0 := fun j y hj => absurd hj (Nat.not_lt_zero _)
theorem lastUp_zero (l : Led) : lastUp l 0 := fun j y hj => absurd hj (Nat.not_lt_zero _)
theorem heldUp_succ {l : Led} {k : Nat} {x : Held} (h : heldUp l k) (hx : l.held[k]? = some x) (hr : rowOk l.limit l.next (bef (l.held.take k)) (l.held.take k) x) : heldUp l (k + 1) := by
  intro j y hj hy
  rcases Nat.lt_or_ge j k with h1 | h1
  · exact h j y h1 hy
  · obtain rfl : j = k := by omega
    rw [hx] at hy
    cases hy
    exact hr
theorem lastUp_succ {l : Led} {k : Nat} {x : LastR} (h : lastUp l k) (hx : l.last[k]? = some x) (hr : lastOk l.limit l.next (befL (l.last.take k)) x) : lastUp l (k + 1) := by
  intro j y hj hy
  rcases Nat.lt_or_ge j k with h1 | h1
  · exact h j y h1 hy
  · obtain rfl : j = k := by omega
    rw [hx] at hy
    cases hy
    exact hr
theorem u64_nonneg {n : Int} (h : (Lit.int .u64 n).wf = true) : 0 ≤ n := by
  simp [Lit.wf, IntKind.min, IntKind.max, IntKind.signed, IntKind.bits] at h
  omega

set_option maxHeartbeats 400000 in
theorem isNode_yes (n : Int) (w : World) (h1 : 1 ≤ n) (h2 : n ≤ 7) : Calls Tryz.prog 119 #[.int .i64 n] w fun e w' => e = .returned (.bool true) ∧ w = w' := by
  go_enter Tryz.func119, Tryz.ntmps119
  go_wp2
  go_ret
  exact ⟨ret_bool (by simp <;> omega), rfl⟩
set_option maxHeartbeats 400000 in
theorem isNode_no (n : Int) (w : World) (h : n < 1 ∨ 7 < n) : Calls Tryz.prog 119 #[.int .i64 n] w fun e w' => e = .returned (.bool false) ∧ w = w' := by
  by_cases h1 : 1 ≤ n
  · have h2 : 7 < n := by omega
    clear h
    go_enter Tryz.func119, Tryz.ntmps119
    go_wp2
    go_ret
    exact ⟨ret_bool (by simp <;> omega), rfl⟩
  · have h3 : n < 1 := by omega
    clear h h1
    go_enter Tryz.func119, Tryz.ntmps119
    go_wp2
    go_ret
    exact ⟨ret_bool (by first | rfl | (simp <;> omega)), rfl⟩

set_option maxHeartbeats 1000000 in
theorem hasSerial_any (xs : List Held) (v : Value) (s : Int) (w : World) (h : SlR 5 heldC w v xs) :
    Calls Tryz.prog 120 #[v, .int .u64 s] w fun e w' => ∃ b, e = .returned (.bool b) ∧ (b = true ↔ ∃ y ∈ xs, y.serial = s) ∧ Below w.heap.size w w' := by
  obtain ⟨a, cap, rfl, h1, h2, h4⟩ := h
  unfold maxLen at h2
  have HO4 := Lib.hid h4
  clear h4
  go_enter Tryz.func120, Tryz.ntmps120
  go_wp2
  go_loopw [9] (fun i wr => ∃ k : Nat, k ≤ xs.length ∧ i = .int .i64 k ∧ Hid (∀ y ∈ xs.take k, y.serial ≠ s) ∧ Below w.heap.size w wr) (fun i _ => xs.length - (intOf i).toNat)
  case atStart => exact ⟨0, Nat.zero_le _, rfl, Lib.hid (by simp), Below.refl _ _⟩
  case round =>
    obtain ⟨k, hk, rfl, HO, hb⟩ := hrel
    by_cases hlt2 : k < xs.length
    · obtain ⟨b, off, rfl, hlt, hc⟩ := rows_open hlt2 HO4.out
      have hce := fun j u hu => (hb.cell (p := ⟨b, off + (k * 5 + j), none⟩) hlt).trans (hc k _ (rgetD hlt2) j u hu)
      have HT := Lib.hid (rtake hlt2)
      have HM := Lib.hid (List.getElem_mem hlt2)
      clear hc
      generalize xs[k] = x at *
      obtain ⟨x0, x1, x2, x3, x4⟩ := held_cells hce
      clear hce
      have hzw := hb.size
      by_cases hn : x.serial = s
      · have hn2 : (x.serial == s) = true := beq_iff_eq.2 hn
        have HE := Lib.hid hn
        clear hn
        go_wp2
        go_ret
        exact ⟨_, rfl, ⟨fun _ => ⟨x, HM.out, HE.out⟩, fun _ => rfl⟩, hb.alloc hzw _⟩
      · have hn2 : (x.serial == s) = false := beq_eq_false_iff_ne.2 hn
        have HE := Lib.hid hn
        clear hn
        go_wp2
        go_roundw
        case rel =>
          refine ⟨k + 1, by omega, by go_num, Lib.hid ?_, hb.alloc hzw _⟩
          rw [HT.out]
          intro y hy
          rcases List.mem_append.1 hy with h | h
          · exact HO.out y h
          · simp at h; subst h; exact HE.out
        case measure => simp [intOf]; omega
    · obtain rfl : k = xs.length := by omega
      have HO2 := HO.out
      rw [List.take_length] at HO2
      have HO3 := Lib.hid HO2
      clear HO2
      go_wp2
      go_ret
      exact ⟨_, rfl, ⟨fun h => (by cases h), fun ⟨y, hy, he⟩ => absurd he (HO3.out y hy)⟩, hb⟩
end Ld
end Go.Proofs.YtlfaiemebfkajaaGreatDoor
namespace Go.Proofs.YtlfaiemebfkajaaGreatDoor
open Go.ChangeShapes Go.WideShapes Go.ChangeAt Go.RowKit
set_option linter.unusedVariables false
set_option maxRecDepth 100000
namespace Ld
abbrev aArr (c t s : Int) : Array Value := #[.int .i64 c, .int .i64 t, .int .u64 s]
def SaysA (l : Led) (c t s : Int) (w : World) (e : Ending) (w' : World) : Prop := ∃ b, e = .returned (.bool b) ∧ (b = true ↔ ansOk l.limit l.next c t s) ∧ Below w.heap.size w w'
theorem says_no {l : Led} {c t s : Int} (h : ¬ ansOk l.limit l.next c t s) {w w' : World} (hb : Below w.heap.size w w') : SaysA l c t s w (.returned (.bool false)) w' := ⟨_, rfl, ⟨fun h => (by cases h), fun h2 => absurd h2 h⟩, hb⟩
theorem says_yes {l : Led} {c t s : Int} (h : ansOk l.limit l.next c t s) {w w' : World} (hb : Below w.heap.size w w') : SaysA l c t s w (.returned (.bool true)) w' := ⟨_, rfl, ⟨fun _ => h, fun _ => rfl⟩, hb⟩
theorem says_as {l : Led} {c t s : Int} {b : Bool} (h : b = true ↔ ansOk l.limit l.next c t s) {w w' : World} (hb : Below w.heap.size w w') : SaysA l c t s w (.returned (.bool b)) w' := ⟨_, rfl, h, hb⟩

set_option maxHeartbeats 2000000 in
theorem answerFits_any (l : Led) (vh vl : Value) (c t s : Int) (w : World) (hs : 0 ≤ s) :
    Calls Tryz.prog 121 #[.agg (lArr l vh vl), .agg (aArr c t s)] w (SaysA l c t s w) := by
  have hb0 : ∀ A B, Below w.heap.size w ((w.alloc (.cells A 29)).alloc (.cells B 112)) := fun A B => ((Below.refl _ _).alloc (Nat.le_refl _) _).alloc (by simp) _
  have hh0 : ((w.alloc (.cells (lArr l vh vl) 29)).alloc (.cells (aArr c t s) 112)).heap[w.heap.size + 1]? = some (.cells (aArr c t s) 112 (0, 0)) := heap_alloc2_new _ _ _
  have HB := Lib.hid hb0
  clear hb0
  by_cases h1 : c = 1
  · subst h1
    by_cases g1 : 1 ≤ t
    · by_cases g2 : t ≤ l.limit
      · by_cases g3 : 1 ≤ s
        · have HE : Hid (decide (s < l.next) = true ↔ ansOk l.limit l.next 1 t s) := Lib.hid (by unfold ansOk; simp; omega)
          go_enter Tryz.func121, Tryz.ntmps121
          go_wp2
          go_ret
          exact says_as HE.out (HB.out _ _)
        · have HE : Hid (¬ ansOk l.limit l.next 1 t s) := Lib.hid (by unfold ansOk; omega)
          have g4 : s < 1 := by omega
          clear g3
          go_enter Tryz.func121, Tryz.ntmps121
          go_wp2
          go_ret
          exact says_no HE.out (HB.out _ _)
      · have HE : Hid (¬ ansOk l.limit l.next 1 t s) := Lib.hid (by unfold ansOk; omega)
        have g4 : l.limit < t := by omega
        clear g2
        go_enter Tryz.func121, Tryz.ntmps121
        go_wp2
        go_ret
        exact says_no HE.out (HB.out _ _)
    · have HE : Hid (¬ ansOk l.limit l.next 1 t s) := Lib.hid (by unfold ansOk; omega)
      have g4 : t < 1 := by omega
      clear g1
      go_enter Tryz.func121, Tryz.ntmps121
      go_wp2
      go_ret
      exact says_no HE.out (HB.out _ _)
  · by_cases h2 : 2 ≤ c ∧ c ≤ 5
    · have HE : Hid ((t = 0 ∧ s = 0) ↔ ansOk l.limit l.next c t s) := Lib.hid (by unfold ansOk; omega)
      clear hs
      by_cases ht : t = 0
      · by_cases hs2 : s = 0
        · subst ht; subst hs2
          have HF : Hid (ansOk l.limit l.next c 0 0) := Lib.hid (HE.out.1 ⟨rfl, rfl⟩)
          clear HE
          rcases (show c = 2 ∨ c = 3 ∨ c = 4 ∨ c = 5 by omega) with rfl | rfl | rfl | rfl
          all_goals
            clear h1 h2
            go_enter Tryz.func121, Tryz.ntmps121
            go_wp2_with (refine wpList_load_row rfl 112 (.tmp 3) rfl (w.heap.size + 1) rfl 112 (aArr _ _ _) (0, 0) _ hh0 Tryz.underlying112 rfl (by kernel_rfl) ?_)
            go_ret
            exact says_yes HF.out (HB.out _ _)
        · have HF : Hid (¬ ansOk l.limit l.next c t s) := Lib.hid (by rw [← HE.out]; intro h; exact hs2 h.2)
          have e0 : (s == 0) = false := beq_eq_false_iff_ne.2 hs2
          subst ht
          clear hs2 HE
          rcases (show c = 2 ∨ c = 3 ∨ c = 4 ∨ c = 5 by omega) with rfl | rfl | rfl | rfl
          all_goals
            clear h1 h2
            go_enter Tryz.func121, Tryz.ntmps121
            go_wp2_with (refine wpList_load_row rfl 112 (.tmp 3) rfl (w.heap.size + 1) rfl 112 (aArr _ _ _) (0, 0) _ hh0 Tryz.underlying112 rfl (by kernel_rfl) ?_)
            go_ret
            exact says_no HF.out (HB.out _ _)
      · have HF : Hid (¬ ansOk l.limit l.next c t s) := Lib.hid (by rw [← HE.out]; intro h; exact ht h.1)
        have e0 : (t == 0) = false := beq_eq_false_iff_ne.2 ht
        clear ht HE
        rcases (show c = 2 ∨ c = 3 ∨ c = 4 ∨ c = 5 by omega) with rfl | rfl | rfl | rfl
        all_goals
          clear h1 h2
          go_enter Tryz.func121, Tryz.ntmps121
          go_wp2_with (refine wpList_load_row rfl 112 (.tmp 3) rfl (w.heap.size + 1) rfl 112 (aArr _ _ _) (0, 0) _ hh0 Tryz.underlying112 rfl (by kernel_rfl) ?_)
          go_ret
          exact says_no HF.out (HB.out _ _)
    · have HE : Hid (¬ ansOk l.limit l.next c t s) := Lib.hid (by unfold ansOk; omega)
      have e1 : (c == 1) = false := beq_eq_false_iff_ne.2 (by omega)
      have e2 : (c == 2) = false := beq_eq_false_iff_ne.2 (by omega)
      have e3 : (c == 3) = false := beq_eq_false_iff_ne.2 (by omega)
      have e4 : (c == 4) = false := beq_eq_false_iff_ne.2 (by omega)
      have e5 : (c == 5) = false := beq_eq_false_iff_ne.2 (by omega)
      clear h1 h2
      go_enter Tryz.func121, Tryz.ntmps121
      go_wp2
      go_ret
      exact says_no HE.out (HB.out _ _)

set_option maxHeartbeats 2000000 in
theorem answer_any (l : Led) (vh vl : Value) (c t s : Int) (w : World) (hs : 0 ≤ s) :
    Calls Tryz.prog 96 #[.agg (lArr l vh vl), .agg (aArr c t s)] w (SaysA l c t s w) := by
  have hb0 : ∀ A B, Below w.heap.size w ((w.alloc (.cells A 29)).alloc (.cells B 112)) := fun A B => ((Below.refl _ _).alloc (Nat.le_refl _) _).alloc (by simp) _
  have HB := Lib.hid hb0
  clear hb0
  by_cases h1 : c = 1
  · subst h1
    by_cases g1 : 1 ≤ t
    · by_cases g2 : t ≤ l.limit
      · by_cases g3 : 1 ≤ s
        · have HE : Hid (decide (s < l.next) = true ↔ ansOk l.limit l.next 1 t s) := Lib.hid (by unfold ansOk; simp; omega)
          go_enter Tryz.func96, Tryz.ntmps96
          go_wp2
          go_ret
          exact says_as HE.out (HB.out _ _)
        · have HE : Hid (¬ ansOk l.limit l.next 1 t s) := Lib.hid (by unfold ansOk; omega)
          have g4 : s < 1 := by omega
          clear g3
          go_enter Tryz.func96, Tryz.ntmps96
          go_wp2
          go_ret
          exact says_no HE.out (HB.out _ _)
      · have HE : Hid (¬ ansOk l.limit l.next 1 t s) := Lib.hid (by unfold ansOk; omega)
        have g4 : l.limit < t := by omega
        clear g2
        go_enter Tryz.func96, Tryz.ntmps96
        go_wp2
        go_ret
        exact says_no HE.out (HB.out _ _)
    · have HE : Hid (¬ ansOk l.limit l.next 1 t s) := Lib.hid (by unfold ansOk; omega)
      have g4 : t < 1 := by omega
      clear g1
      go_enter Tryz.func96, Tryz.ntmps96
      go_wp2
      go_ret
      exact says_no HE.out (HB.out _ _)
  · by_cases h2 : 2 ≤ c ∧ c ≤ 5
    · have HE : Hid ((t = 0 ∧ s = 0) ↔ ansOk l.limit l.next c t s) := Lib.hid (by unfold ansOk; omega)
      clear hs
      by_cases ht : t = 0
      · subst ht
        rcases (show c = 2 ∨ c = 3 ∨ c = 4 ∨ c = 5 by omega) with rfl | rfl | rfl | rfl
        all_goals
          clear h1 h2
          go_enter Tryz.func96, Tryz.ntmps96
          go_wp2
          go_ret
          refine says_as ?_ (HB.out _ _)
          rw [← HE.out]
          simp
      · have HF : Hid (¬ ansOk l.limit l.next c t s) := Lib.hid (by rw [← HE.out]; intro h; exact ht h.1)
        have e0 : (t == 0) = false := beq_eq_false_iff_ne.2 ht
        clear ht HE
        rcases (show c = 2 ∨ c = 3 ∨ c = 4 ∨ c = 5 by omega) with rfl | rfl | rfl | rfl
        all_goals
          clear h1 h2
          go_enter Tryz.func96, Tryz.ntmps96
          go_wp2
          go_ret
          exact says_no HF.out (HB.out _ _)
    · have HE : Hid (¬ ansOk l.limit l.next c t s) := Lib.hid (by unfold ansOk; omega)
      have e1 : (c == 1) = false := beq_eq_false_iff_ne.2 (by omega)
      have e2 : (c == 2) = false := beq_eq_false_iff_ne.2 (by omega)
      have e3 : (c == 3) = false := beq_eq_false_iff_ne.2 (by omega)
      have e4 : (c == 4) = false := beq_eq_false_iff_ne.2 (by omega)
      have e5 : (c == 5) = false := beq_eq_false_iff_ne.2 (by omega)
      clear h1 h2
      go_enter Tryz.func96, Tryz.ntmps96
      go_wp2
      go_ret
      exact says_no HE.out (HB.out _ _)
end Ld
end Go.Proofs.YtlfaiemebfkajaaGreatDoor
namespace Go.Proofs.YtlfaiemebfkajaaGreatDoor
open Go.ChangeShapes Go.WideShapes Go.ChangeAt Go.RowKit
set_option linter.unusedVariables false
set_option maxRecDepth 100000
namespace Ld
def SaysH (l : Led) (w : World) (e : Ending) (w' : World) : Prop := ∃ b, e = .returned (.bool b) ∧ (b = true ↔ heldOk l) ∧ Below w.heap.size w w'
theorem saysH_no {l : Led} (h : ¬ heldOk l) {w w' : World} (hb : Below w.heap.size w w') : SaysH l w (.returned (.bool false)) w' := ⟨_, rfl, ⟨fun h => (by cases h), fun h2 => absurd h2 h⟩, hb⟩
theorem saysH_yes {l : Led} (h : heldOk l) {w w' : World} (hb : Below w.heap.size w w') : SaysH l w (.returned (.bool true)) w' := ⟨_, rfl, ⟨fun _ => h, fun _ => rfl⟩, hb⟩

theorem after_has {w wr w2 W0 : World} {cs : Array Value} {T : TypeId} (hB : Below (w.heap.size + 1) W0 wr) (hz : w.heap.size < wr.heap.size)
    (hbb : Below ((wr.alloc (.cells cs T)).drew).heap.size ((wr.alloc (.cells cs T)).drew) w2) : Below (w.heap.size + 1) W0 w2 ∧ ∀ j u, cs[j]? = some u → w2.cell? ⟨wr.heap.size, j, none⟩ = some u := by
  have hs : ((wr.alloc (.cells cs T)).drew).heap.size = wr.heap.size + 1 := by simp [World.drew]
  refine ⟨((hB.alloc hz _).drew).trans (hbb.mono (by omega)), fun j u hu => ?_⟩
  have h := (hbb.block wr.heap.size (by omega)).trans (show ((wr.alloc (.cells cs T)).drew).heap[wr.heap.size]? = _ from heap_alloc_new _ _)
  rw [cell_of_row w2 _ j _ _ _ h]
  exact hu

set_option maxHeartbeats 4000000 in
theorem heldFits_any (l : Led) (v : Value) (w : World) (h : IsLed w v l) :
    Calls Tryz.prog 113 #[v] w (SaysH l w) := by
  obtain ⟨vh, vl, rfl, hh, hl, hwf⟩ := h
  have HWF := Lib.hid hwf
  clear hl hwf
  obtain ⟨a, cap, rfl, h1, h2, h4⟩ := hh
  unfold maxLen at h2
  have HO4 := Lib.hid h4
  clear h4
  by_cases h64 : l.held.length ≤ 64
  · go_enter Tryz.func113, Tryz.ntmps113
    go_wp2
    go_loopw [3, 13] (fun bf i wr => ∃ k : Nat, k ≤ l.held.length ∧ i = .int .i64 k ∧ bf = .int .i64 (bef (l.held.take k)) ∧ Hid (heldUp l k) ∧ Below (w.heap.size + 1) (w.alloc (.cells (lArr l (.slice a l.held.length cap) vl) 29)) wr) (fun _ i _ => l.held.length - (intOf i).toNat)
    case atStart => exact ⟨0, Nat.zero_le _, rfl, rfl, Lib.hid (heldUp_zero l), Below.refl _ _⟩
    case round =>
      obtain ⟨k, hk, rfl, rfl, HU, hb⟩ := hrel
      by_cases hlt2 : k < l.held.length
      · obtain ⟨b, off, rfl, hlt, hc⟩ := rows_open hlt2 HO4.out
        have hbw := box_below hb
        obtain ⟨hL, hN, hH, -⟩ := box_cells hb
        have hce := fun j u hu => (hbw.cell (p := ⟨b, off + (k * 5 + j), none⟩) hlt).trans (hc k _ (rgetD hlt2) j u hu)
        have HT := Lib.hid (rtake hlt2)
        have HG := Lib.hid (rgetD hlt2)
        have HM := Lib.hid (List.getElem_mem hlt2)
        have hpre : SlR 5 heldC wr (.slice (some ⟨b, off, none⟩) k cap) (l.held.take k) := by
          refine ⟨_, cap, by rw [List.length_take, Nat.min_eq_left hk], by rw [List.length_take, Nat.min_eq_left hk]; omega, h2, .inr ⟨b, off, none, rfl, .inr ⟨rfl, Nat.lt_of_lt_of_le hlt hbw.size, fun i x hx j u hu => ?_⟩⟩⟩
          have hik : i < k := by
            rcases Nat.lt_or_ge i k with h | h
            · exact h
            · rw [List.getElem?_eq_none (by rw [List.length_take]; omega)] at hx; cases hx
          rw [List.getElem?_take_of_lt hik] at hx
          exact (hbw.cell (p := ⟨b, off + (i * 5 + j), none⟩) hlt).trans (hc i x hx j u hu)
        have HP := Lib.hid hpre
        have HBW := Lib.hid hbw
        have HBB := Lib.hid hb
        clear hc hpre hbw
        generalize l.held[k] = x at *
        obtain ⟨x0, x1, x2, x3, x4⟩ := held_cells hce
        have HZ : Hid (0 ≤ x.boot ∧ 0 ≤ x.serial ∧ 0 ≤ x.stamp) := Lib.hid (by obtain ⟨-, -, q1, q2, q3⟩ := HWF.out.2.2.1 x HM.out; exact ⟨u64_nonneg q1, u64_nonneg q2, u64_nonneg q3⟩)
        have HNO : Hid (¬ rowOk l.limit l.next (bef (l.held.take k)) (l.held.take k) x → ¬ heldOk l) := Lib.hid (fun h h2 => h (h2.2 k x hlt2 HG.out))
        have hzw : w.heap.size < wr.heap.size := by have := hb.size; simp at this; omega
        have HAL : Hid (∀ o, Below w.heap.size w (wr.alloc o)) := Lib.hid (fun o => HBW.out.alloc (Nat.le_of_lt hzw) o)
        clear hce hb
        have HZ2 : Hid (bef (l.held.take (k + 1)) = x.token) := Lib.hid (by rw [HT.out, bef_snoc])
        generalize hbf0 : bef (l.held.take k) = z at *
        have HBF := Lib.hid hbf0
        clear hbf0
        by_cases c1 : x.token ≤ z
        · have HE := Lib.hid (HNO.out (by unfold rowOk; omega))
          go_wp2
          go_ret
          exact saysH_no HE.out (HAL.out _)
        by_cases c2 : l.limit < x.token
        · have HE := Lib.hid (HNO.out (by unfold rowOk; omega))
          have c1' : z < x.token := by omega
          clear c1
          go_wp2
          go_ret
          exact saysH_no HE.out (HAL.out _)
        have c1' : z < x.token := by omega
        have c2' : x.token ≤ l.limit := by omega
        clear c1 c2
        by_cases c3 : 1 ≤ x.node ∧ x.node ≤ 7
        · obtain ⟨c3a, c3b⟩ := c3
          go_wp2_with fail
          refine (isNode_yes x.node _ c3a c3b).mono ?_
          rintro e w' ⟨rfl, rfl⟩
          by_cases c4 : x.boot = 0
          · have HE := Lib.hid (HNO.out (by unfold rowOk; omega))
            have e4 : (x.boot == 0) = true := beq_iff_eq.2 c4
            clear c4
            go_wp2
            go_ret
            exact saysH_no HE.out (HAL.out _)
          have e4 : (x.boot == 0) = false := beq_eq_false_iff_ne.2 c4
          have C4 := Lib.hid c4
          clear c4
          by_cases c5 : x.stamp = 0
          · have HE := Lib.hid (HNO.out (by unfold rowOk; omega))
            have e5 : (x.stamp == 0) = true := beq_iff_eq.2 c5
            clear c5
            go_wp2
            go_ret
            exact saysH_no HE.out (HAL.out _)
          have e5 : (x.stamp == 0) = false := beq_eq_false_iff_ne.2 c5
          have C5 := Lib.hid c5
          clear c5
          go_wp2
          by_cases c6 : x.serial = 0
          · have HE := Lib.hid (HNO.out (by unfold rowOk; omega))
            have e6 : (x.serial == 0) = true := beq_iff_eq.2 c6
            clear c6
            go_quiet (fail)
            go_wp2
            go_ret
            exact saysH_no HE.out ((HAL.out _).trans (below_drewN _ _))
          have e6 : (x.serial == 0) = false := beq_eq_false_iff_ne.2 c6
          have C6 := Lib.hid c6
          clear c6
          by_cases c7 : l.next ≤ x.serial
          · have HE := Lib.hid (HNO.out (by unfold rowOk; omega))
            have e7 : decide (l.next ≤ x.serial) = true := decide_eq_true c7
            go_quiet (fail)
            go_wp2
            go_ret
            exact saysH_no HE.out ((HAL.out _).trans (below_drewN _ _))
          have e7 : decide (l.next ≤ x.serial) = false := decide_eq_false c7
          have c7' : x.serial < l.next := by omega
          have C7 := Lib.hid c7'
          clear c7
          have HP2 : Hid (∀ o, SlR 5 heldC ((wr.alloc o).drew) (.slice (some ⟨b, off, none⟩) k cap) (l.held.take k)) := Lib.hid (fun o => HP.out.below (((Below.refl _ _).alloc (Nat.le_refl _) _).drew) (Nat.le_refl _))
          have HB2 : Hid (∀ o, Below w.heap.size w ((wr.alloc o).drew)) := Lib.hid (fun o => (HAL.out o).drew)
          have HB3 : Hid (∀ o, Below (w.heap.size + 1) (w.alloc (.cells (lArr l (.slice (some ⟨b, off, none⟩) l.held.length cap) vl) 29)) ((wr.alloc o).drew)) := Lib.hid (fun o => (HBB.out.alloc hzw o).drew)
          go_region_with ((go_at_call 120; refine (hasSerial_any (l.held.take k) _ x.serial _ (HP2.out _)).mono ?_; rintro e w2 ⟨b2, rfl, hb2, hbb⟩))
          all_goals
            obtain ⟨hC2, hcell⟩ := after_has HBB.out hzw hbb
            have h0 : w2.cell? ⟨wr.heap.size, 0, none⟩ = some (.int .i64 x.token) := hcell 0 _ rfl
            have HB9 := Lib.hid hb2
            have HC := Lib.hid hC2
            clear hcell hbb hC2 hb2
            cases b2
            · have HS : Hid (∀ y ∈ l.held.take k, y.serial ≠ x.serial) := Lib.hid (fun y hy he => by cases HB9.out.2 ⟨y, hy, he⟩)
              have HR : Hid (rowOk l.limit l.next z (l.held.take k) x) := Lib.hid ⟨c1', c2', c3a, c3b, C4.out, C5.out, C6.out, C7.out, HS.out⟩
              go_wp2
              go_roundw
              case rel => exact ⟨k + 1, by omega, by go_num, by rw [HZ2.out], Lib.hid (heldUp_succ HU.out HG.out (by rw [HBF.out]; exact HR.out)), HC.out⟩
              case measure => simp [intOf]; omega
            · have HE := Lib.hid (HNO.out (by obtain ⟨y, hy, he⟩ := HB9.out.1 rfl; exact fun h => h.2.2.2.2.2.2.2.2 y hy he))
              go_wp2
              go_ret
              exact saysH_no HE.out (box_below HC.out)
        · have HE := Lib.hid (HNO.out (by unfold rowOk; omega))
          have c3' : x.node < 1 ∨ 7 < x.node := by omega
          clear c3
          go_wp2_with fail
          refine (isNode_no x.node _ c3').mono ?_
          rintro e w' ⟨rfl, rfl⟩
          go_wp2
          go_ret
          exact saysH_no HE.out (HAL.out _)
      · obtain rfl : k = l.held.length := by omega
        have HBW := Lib.hid (box_below hb)
        go_wp2
        go_ret
        exact saysH_yes ⟨h64, HU.out⟩ HBW.out
  · have HE : Hid (¬ heldOk l) := Lib.hid (fun h => h64 h.1)
    have h65 : 64 < l.held.length := by omega
    have h66 : (64 : Int) < (l.held.length : Int) := by omega
    clear h64
    go_enter Tryz.func113, Tryz.ntmps113
    go_wp2
    go_ret
    exact saysH_no HE.out ((Below.refl _ _).alloc (Nat.le_refl _) _)
end Ld
end Go.Proofs.YtlfaiemebfkajaaGreatDoor
namespace Go.Proofs.YtlfaiemebfkajaaGreatDoor
open Go.ChangeShapes Go.WideShapes Go.ChangeAt Go.RowKit
set_option linter.unusedVariables false
set_option maxRecDepth 100000
namespace Ld
def SaysL (l : Led) (w : World) (e : Ending) (w' : World) : Prop := ∃ b, e = .returned (.bool b) ∧ (b = true ↔ lastsOk l) ∧ Below w.heap.size w w'
theorem saysL_no {l : Led} (h : ¬ lastsOk l) {w w' : World} (hb : Below w.heap.size w w') : SaysL l w (.returned (.bool false)) w' := ⟨_, rfl, ⟨fun h => (by cases h), fun h2 => absurd h2 h⟩, hb⟩
theorem saysL_yes {l : Led} (h : lastsOk l) {w w' : World} (hb : Below w.heap.size w w') : SaysL l w (.returned (.bool true)) w' := ⟨_, rfl, ⟨fun _ => h, fun _ => rfl⟩, hb⟩
theorem after_hasN {w wr w2 W0 : World} {cs : Array Value} {T : TypeId} (hB : Below (w.heap.size + 1) W0 wr) (hz : w.heap.size < wr.heap.size)
    (hbb : Below (wr.alloc (.cells cs T)).heap.size (wr.alloc (.cells cs T)) w2) : Below (w.heap.size + 1) W0 w2 ∧ ∀ j u, cs[j]? = some u → w2.cell? ⟨wr.heap.size, j, none⟩ = some u := by
  have hs : (wr.alloc (.cells cs T)).heap.size = wr.heap.size + 1 := by simp
  refine ⟨(hB.alloc hz _).trans (hbb.mono (by omega)), fun j u hu => ?_⟩
  have h := (hbb.block wr.heap.size (by omega)).trans (heap_alloc_new _ _)
  rw [cell_of_row w2 _ j _ _ _ h]
  exact hu

set_option maxHeartbeats 4000000 in
theorem lastFits_any (l : Led) (v : Value) (w : World) (h : IsLed w v l) :
    Calls Tryz.prog 114 #[v] w (SaysL l w) := by
  obtain ⟨vh, vl, rfl, hh, hl, hwf⟩ := h
  have HWF := Lib.hid hwf
  clear hh hwf
  obtain ⟨a, cap, rfl, h1, h2, h4⟩ := hl
  unfold maxLen at h2
  have HO4 := Lib.hid h4
  clear h4
  go_enter Tryz.func114, Tryz.ntmps114
  go_wp2
  go_loopw [3, 9] (fun bf i wr => ∃ k : Nat, k ≤ l.last.length ∧ i = .int .i64 k ∧ bf = .int .i64 (befL (l.last.take k)) ∧ Hid (lastUp l k) ∧ Below (w.heap.size + 1) (w.alloc (.cells (lArr l vh (.slice a l.last.length cap)) 29)) wr) (fun _ i _ => l.last.length - (intOf i).toNat)
  case atStart => exact ⟨0, Nat.zero_le _, rfl, rfl, Lib.hid (lastUp_zero l), Below.refl _ _⟩
  case round =>
    obtain ⟨k, hk, rfl, rfl, HU, hb⟩ := hrel
    by_cases hlt2 : k < l.last.length
    · obtain ⟨b, off, rfl, hlt, hc⟩ := rows_open hlt2 HO4.out
      have hbw := box_below hb
      obtain ⟨hL, hN, hH, hK⟩ := box_cells hb
      have hce := fun j u hu => (hbw.cell (p := ⟨b, off + (k * 6 + j), none⟩) hlt).trans (hc k _ (rgetD hlt2) j u hu)
      have HT := Lib.hid (rtake hlt2)
      have HG := Lib.hid (rgetD hlt2)
      have HM := Lib.hid (List.getElem_mem hlt2)
      have HBW := Lib.hid hbw
      have HBB := Lib.hid hb
      clear hc hbw
      generalize l.last[k] = x at *
      obtain ⟨x0, x1, x2, x3, x4, x5⟩ := last_cells hce
      have HZ : Hid (0 ≤ x.serial) := Lib.hid (by obtain ⟨-, -, -, -, -, q⟩ := HWF.out.2.2.2 x HM.out; exact u64_nonneg q)
      have HNO : Hid (¬ lastOk l.limit l.next (befL (l.last.take k)) x → ¬ lastsOk l) := Lib.hid (fun h h2 => h (h2 k x hlt2 HG.out))
      have hzw : w.heap.size < wr.heap.size := by have := hb.size; simp at this; omega
      have HAL : Hid (∀ o, Below w.heap.size w (wr.alloc o)) := Lib.hid (fun o => HBW.out.alloc (Nat.le_of_lt hzw) o)
      clear hce hb
      have HZ2 : Hid (befL (l.last.take (k + 1)) = x.node) := Lib.hid (by rw [HT.out, befL_snoc])
      generalize hbf0 : befL (l.last.take k) = z at *
      have HBF := Lib.hid hbf0
      clear hbf0
      by_cases c1 : x.node ≤ z
      · have HE := Lib.hid (HNO.out (by unfold lastOk; omega))
        go_wp2
        go_ret
        exact saysL_no HE.out (HAL.out _)
      have c1' : z < x.node := by omega
      clear c1
      by_cases c3 : 1 ≤ x.node ∧ x.node ≤ 7
      · obtain ⟨c3a, c3b⟩ := c3
        go_wp2_with fail
        refine (isNode_yes x.node _ c3a c3b).mono ?_
        rintro e w' ⟨rfl, rfl⟩
        by_cases c4 : x.boot = 0
        · have HE := Lib.hid (HNO.out (by unfold lastOk; omega))
          have e4 : (x.boot == 0) = true := beq_iff_eq.2 c4
          clear c4
          go_wp2
          go_ret
          exact saysL_no HE.out (HAL.out _)
        have e4 : (x.boot == 0) = false := beq_eq_false_iff_ne.2 c4
        have C4 := Lib.hid c4
        clear c4
        by_cases c5 : x.seq = 0
        · have HE := Lib.hid (HNO.out (by unfold lastOk; omega))
          have e5 : (x.seq == 0) = true := beq_iff_eq.2 c5
          clear c5
          go_wp2
          go_ret
          exact saysL_no HE.out (HAL.out _)
        have e5 : (x.seq == 0) = false := beq_eq_false_iff_ne.2 c5
        have C5 := Lib.hid c5
        clear c5
        go_wp2_with fail
        refine (answerFits_any l vh _ x.code x.token x.serial _ HZ.out).mono ?_
        rintro e w2 ⟨b2, rfl, hb2, hbb⟩
        have HB9 := Lib.hid hb2
        obtain ⟨hC2, hcell⟩ := after_hasN HBB.out hzw hbb
        have h0 : w2.cell? ⟨wr.heap.size, 0, none⟩ = some (.int .i64 x.node) := hcell 0 _ rfl
        have HC := Lib.hid hC2
        clear hcell hbb hC2 hb2
        cases b2
        · have HE := Lib.hid (HNO.out (fun h => by cases HB9.out.2 h.2.2.2.2.2))
          go_wp2
          go_ret
          exact saysL_no HE.out (box_below HC.out)
        · have HR : Hid (lastOk l.limit l.next z x) := Lib.hid ⟨c1', c3a, c3b, C4.out, C5.out, HB9.out.1 rfl⟩
          go_wp2
          go_roundw
          case rel => exact ⟨k + 1, by omega, by go_num, by rw [HZ2.out], Lib.hid (lastUp_succ HU.out HG.out (by rw [HBF.out]; exact HR.out)), HC.out⟩
          case measure => simp [intOf]; omega
      · have HE := Lib.hid (HNO.out (by unfold lastOk; omega))
        have c3' : x.node < 1 ∨ 7 < x.node := by omega
        clear c3
        go_wp2_with fail
        refine (isNode_no x.node _ c3').mono ?_
        rintro e w' ⟨rfl, rfl⟩
        go_wp2
        go_ret
        exact saysL_no HE.out (HAL.out _)
    · obtain rfl : k = l.last.length := by omega
      have HBW := Lib.hid (box_below hb)
      go_wp2
      go_ret
      exact saysL_yes HU.out HBW.out
end Ld
end Go.Proofs.YtlfaiemebfkajaaGreatDoor
namespace Go.Proofs.YtlfaiemebfkajaaGreatDoor
open Go.ChangeShapes Go.WideShapes Go.ChangeAt Go.RowKit
set_option linter.unusedVariables false
set_option maxRecDepth 100000
namespace Ld
def SaysC (l : Led) (w : World) (e : Ending) (w' : World) : Prop := ∃ z : Int, e = .returned (.int .i64 z) ∧ ((z = 0 ∧ ledOk l) ∨ (z = 50 ∧ ¬ ledOk l)) ∧ Below w.heap.size w w'
theorem saysC_no {l : Led} (h : ¬ ledOk l) {w w' : World} (hb : Below w.heap.size w w') : SaysC l w (.returned (.int .i64 50)) w' := ⟨_, rfl, .inr ⟨rfl, h⟩, hb⟩
theorem saysC_yes {l : Led} (h : ledOk l) {w w' : World} (hb : Below w.heap.size w w') : SaysC l w (.returned (.int .i64 0)) w' := ⟨_, rfl, .inl ⟨rfl, h⟩, hb⟩

set_option maxHeartbeats 4000000 in
theorem check_any (l : Led) (v : Value) (w : World) (h : IsLed w v l) :
    Calls Tryz.prog 93 #[v] w (SaysC l w) := by
  obtain ⟨vh, vl, rfl, hh, hl, hwf⟩ := id h
  have hb0 : Below w.heap.size w (w.alloc (.cells (lArr l vh vl) 29)) := (Below.refl _ _).alloc (Nat.le_refl _) _
  have HB := Lib.hid hb0
  have HI := Lib.hid (h.below hb0 (Nat.le_refl _))
  clear hh hl hwf h hb0
  have hr : Below (w.heap.size + 1) (w.alloc (.cells (lArr l vh vl) 29)) (w.alloc (.cells (lArr l vh vl) 29)) := Below.refl _ _
  obtain ⟨b0, b1, b2, b3⟩ := box_cells hr
  clear hr
  by_cases c1 : l.limit < 1
  · have HE : Hid (¬ ledOk l) := Lib.hid (by unfold ledOk; omega)
    go_enter Tryz.func93, Tryz.ntmps93
    go_wp2
    go_ret
    exact saysC_no HE.out HB.out
  have c1' : 1 ≤ l.limit := by omega
  clear c1
  by_cases c2 : 65535 < l.limit
  · have HE : Hid (¬ ledOk l) := Lib.hid (by unfold ledOk; omega)
    go_enter Tryz.func93, Tryz.ntmps93
    go_wp2
    go_ret
    exact saysC_no HE.out HB.out
  have c2' : l.limit ≤ 65535 := by omega
  clear c2
  by_cases c3 : l.next = 0
  · have HE : Hid (¬ ledOk l) := Lib.hid (by unfold ledOk; omega)
    have e3 : (l.next == 0) = true := beq_iff_eq.2 c3
    clear c3
    go_enter Tryz.func93, Tryz.ntmps93
    go_wp2
    go_ret
    exact saysC_no HE.out HB.out
  have e3 : (l.next == 0) = false := beq_eq_false_iff_ne.2 c3
  have C3 := Lib.hid c3
  clear c3
  go_enter Tryz.func93, Tryz.ntmps93
  go_wp2_with fail
  refine (heldFits_any l _ _ HI.out).mono ?_
  rintro e w1 ⟨t1, rfl, ht1, hb1⟩
  have HT1 := Lib.hid ht1
  have hb1' : Below (w.heap.size + 1) (w.alloc (.cells (lArr l vh vl) 29)) w1 := hb1.mono (by simp)
  have HB1 := Lib.hid (box_below hb1')
  have HI1 := Lib.hid (HI.out.below hb1 (Nat.le_refl _))
  obtain ⟨d0, d1, d2, d3⟩ := box_cells hb1'
  have HX := Lib.hid hb1'
  clear hb1' hb1 ht1
  cases t1
  · have HE : Hid (¬ ledOk l) := Lib.hid (fun h => by cases HT1.out.2 h.2.2.2.1)
    go_wp2
    go_ret
    exact saysC_no HE.out HB1.out
  go_wp2_with fail
  refine (lastFits_any l _ _ HI1.out).mono ?_
  rintro e w2 ⟨t2, rfl, ht2, hb2⟩
  have HT2 := Lib.hid ht2
  have HB2 := Lib.hid (HB1.out.trans (hb2.mono HB1.out.size))
  clear hb2 ht2
  cases t2
  · have HE : Hid (¬ ledOk l) := Lib.hid (fun h => by cases HT2.out.2 h.2.2.2.2)
    go_wp2
    go_ret
    exact saysC_no HE.out HB2.out
  have HE : Hid (ledOk l) := Lib.hid ⟨c1', c2', C3.out, HT1.out.1 (by first | trivial | rfl), HT2.out.1 (by first | trivial | rfl)⟩
  go_wp2
  go_ret
  exact saysC_yes HE.out HB2.out
end Ld
end Go.Proofs.YtlfaiemebfkajaaGreatDoor
namespace Go.Proofs.YtlfaiemebfkajaaGreatDoor
open Go.ChangeShapes Go.WideShapes Go.ChangeAt Go.RowKit
set_option linter.unusedVariables false
set_option maxRecDepth 100000
theorem OwnR.cell {α : Type} {sz : Nat} {C : α → List Value} {e : TypeId} {w : World} {B g j : Nat} {v u : Value} {zs : List α} (hown : OwnR sz C e w B v zs) (hg : g < B) : OwnR sz C e (w.setCell ⟨g, j, none⟩ u) B v zs := by
  refine ⟨hown.1, ?_⟩
  rcases hown.2 with h2 | ⟨q, cap, cur, h2, h3, h4, h5⟩
  · exact .inl h2
  · refine .inr ⟨q, cap, cur, h2, h3, ?_, h5⟩
    rw [heap_setCell_other _ _ _ _ (by simp; omega)]
    exact h4
theorem OwnR.row {α : Type} {sz : Nat} {C : α → List Value} {e : TypeId} {w : World} {B g : Nat} {v : Value} {cs : Array Value} {zs : List α} (hown : OwnR sz C e w B v zs) (hg : g < B) : OwnR sz C e (w.setRow g cs) B v zs := by
  refine ⟨hown.1, ?_⟩
  rcases hown.2 with h2 | ⟨q, cap, cur, h2, h3, h4, h5⟩
  · exact .inl h2
  · refine .inr ⟨q, cap, cur, h2, h3, ?_, h5⟩
    rw [setRow_other _ _ _ _ (by omega)]
    exact h4
theorem OwnR.lower {α : Type} {sz : Nat} {C : α → List Value} {e : TypeId} {w : World} {B D : Nat} {v : Value} {zs : List α} (hown : OwnR sz C e w B v zs) (hD : D ≤ B) : OwnR sz C e w D v zs := by
  refine ⟨hown.1, ?_⟩
  rcases hown.2 with h2 | ⟨q, cap, cur, h2, h3, h4⟩
  · exact .inl h2
  · exact .inr ⟨q, cap, cur, h2, Nat.le_trans hD h3, h4⟩
namespace Ld
theorem below_row {B : Nat} {a w : World} (h : Below B a w) {g : Nat} (hg : B ≤ g) (cs : Array Value) : Below B a (w.setRow g cs) :=
  h.trans ⟨rfl, rfl, rfl, by simp, fun k hk => setRow_other w g k cs (by omega)⟩
def GivesLed (l : Led) (w : World) (e : Ending) (w' : World) : Prop := ∃ v, e = .returned v ∧ IsLed w' v l ∧ Below w.heap.size w w'
theorem lArr_one (l : Led) (a c : Option Addr) (i j k m : Nat) : (lArr l (.slice a i j) (.slice c k m)).all (·.oneCell') = true := by simp [Value.oneCell']
abbrev zArr : Array Value := #[.int .i64 0, .int .u64 0, .slice none 0 0, .slice none 0 0]

theorem store2 {w1 : World} {g : Nat} {l : Led} {vh vl : Value} (h : w1.heap[g]? = some (.cells (lArr l vh vl) 29 (0, 0))) (u : Value) : (w1.setCell ⟨g, 2, none⟩ u).heap[g]? = some (.cells (lArr l u vl) 29 (0, 0)) := by
  rw [heap_setCell_same w1 g 2 _ _ u h]; rfl
theorem store3 {w1 : World} {g : Nat} {l : Led} {vh vl : Value} (h : w1.heap[g]? = some (.cells (lArr l vh vl) 29 (0, 0))) (u : Value) : (w1.setCell ⟨g, 3, none⟩ u).heap[g]? = some (.cells (lArr l vh u) 29 (0, 0)) := by
  rw [heap_setCell_same w1 g 3 _ _ u h]; rfl
theorem row2 {w1 : World} {g : Nat} {l : Led} {vh vl : Value} (h : w1.heap[g]? = some (.cells (lArr l vh vl) 29 (0, 0))) : w1.cell? ⟨g, 2, none⟩ = some vh := by
  rw [cell_of_row w1 g 2 _ _ _ h]; rfl
theorem row3 {w1 : World} {g : Nat} {l : Led} {vh vl : Value} (h : w1.heap[g]? = some (.cells (lArr l vh vl) 29 (0, 0))) : w1.cell? ⟨g, 3, none⟩ = some vl := by
  rw [cell_of_row w1 g 3 _ _ _ h]; rfl

/-- a ledger whose lists are the call's own -/
def GivesOwn (l : Led) (w : World) (e : Ending) (w' : World) : Prop := ∃ vh vl, e = .returned (.agg (lArr l vh vl)) ∧ OwnR 5 heldC 110 w' w.heap.size vh l.held ∧ OwnR 6 lastC 114 w' w.heap.size vl l.last ∧ l.wf ∧ Below w.heap.size w w'

end Ld
end Go.Proofs.YtlfaiemebfkajaaGreatDoor
