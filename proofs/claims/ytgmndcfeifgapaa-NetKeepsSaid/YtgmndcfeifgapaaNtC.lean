/- Package net: what each call does. No condition. -/
import Derived.Test.YtgmndcfeifgapaaInLetter
namespace Go.Proofs.Ytgmndcfeifgapaa
open Go.ChangeShapes Go.WideShapes Go.ChangeAt Go.RowKit Go.Deep
set_option linter.unusedVariables false
set_option maxRecDepth 100000
namespace Nt
abbrev NetN (w : World) (B p : Nat) (v : Value) (ls : List Letr) : Prop := NetAt 50 31 w B p v ls
theorem NetAt.c0 {TN TL : TypeId} {w : World} {B p : Nat} {v : Value} {ls : List Letr} (h : NetAt TN TL w B p v ls) : w.cell? ⟨p, 0, none⟩ = some v := by rw [cell_of_row w p 0 _ _ _ h.1]; rfl
theorem NetAt.f0 {TN TL : TypeId} {w : World} {B p : Nat} {v : Value} {ls : List Letr} (h : NetAt TN TL w B p v ls) : w.frozen? ⟨p, 0, none⟩ = false := frozen_of_row w p 0 _ _ h.1
theorem isNode_any (n : Int) (w : World) : Calls Try.prog 17 #[.int .i64 n] w fun e w' => e = .returned (.bool (decide (nodeP n))) ∧ w' = w := by
  by_cases h1 : 1 ≤ n
  · by_cases h2 : n ≤ 7
    · have h3 : nodeP n := ⟨h1, h2⟩
      rw [decide_eq_true h3]
      clear h3
      go_enter Try.func17, Try.ntmps17
      go_wp2
      go_ret
      exact ⟨rfl, rfl⟩
    · have h3 : ¬ nodeP n := fun q => h2 q.2
      rw [decide_eq_false h3]
      clear h3
      go_enter Try.func17, Try.ntmps17
      go_wp2
      go_ret
      exact ⟨rfl, rfl⟩
  · have h3 : ¬ nodeP n := fun q => h1 q.1
    rw [decide_eq_false h3]
    clear h3
    go_enter Try.func17, Try.ntmps17
    go_wp2
    go_ret
    exact ⟨rfl, rfl⟩
theorem new_any (w : World) : Calls Try.prog 6 #[] w fun e w' => e = .returned (.pointer (some ⟨w.heap.size, 0, none⟩)) ∧ NetN w' w.heap.size w.heap.size (.slice none 0 0) [] ∧ Below w.heap.size w w' := by
  go_enter Try.func6, Try.ntmps6
  go_wp2
  go_ret
  exact ⟨rfl, ⟨heap_alloc_new _ _, OwnR.nil _ _ _, Nat.le_refl _⟩, (Below.refl _ _).alloc (Nat.le_refl _) _⟩
theorem len_any {B p : Nat} {v : Value} {ls : List Letr} (w : World) (h : NetN w B p v ls) : Calls Try.prog 16 #[.pointer (some ⟨p, 0, none⟩)] w fun e w' => e = .returned (.int .i64 ls.length) ∧ w' = w := by
  obtain ⟨a, c, rfl⟩ := own_slice h.2.1
  have c0 := h.c0
  clear h
  go_enter Try.func16, Try.ntmps16
  go_wp2
  go_ret
  exact ⟨rfl, rfl⟩
theorem has_any {B p : Nat} {v : Value} {ls : List Letr} (i : Int) (w : World) (h : NetN w B p v ls) : Calls Try.prog 19 #[.pointer (some ⟨p, 0, none⟩), .int .i64 i] w fun e w' => e = .returned (.bool (decide (inP ls i))) ∧ w' = w := by
  have H := Lib.hid h
  clear h
  by_cases h1 : 0 ≤ i
  · obtain ⟨b, hb⟩ : ∃ b, decide (inP ls i) = b := ⟨_, rfl⟩
    have hb2 : decide (i < (ls.length : Int)) = b := by
      rw [← hb]
      by_cases h2 : i < (ls.length : Int)
      · rw [decide_eq_true h2, decide_eq_true (show inP ls i from ⟨h1, h2⟩)]
      · rw [decide_eq_false h2, decide_eq_false (fun q : inP ls i => h2 q.2)]
    rw [hb]
    have HB := Lib.hid hb2
    clear hb hb2
    go_enter Try.func19, Try.ntmps19
    go_wp2_with fail
    refine (len_any _ H.out).mono ?_
    rintro e w1 ⟨rfl, rfl⟩
    have hb2 := HB.out
    go_wp2
    go_ret
    first
      | exact ⟨rfl, rfl⟩
      | exact ⟨ret_bool hb2, rfl⟩
  · rw [decide_eq_false (fun q : inP ls i => h1 q.1)]
    go_enter Try.func19, Try.ntmps19
    go_wp2
    go_ret
    exact ⟨rfl, rfl⟩
theorem all_any {B p : Nat} {v : Value} {ls : List Letr} (w : World) (h : NetN w B p v ls) (hl : ls.length ≤ 1000) : Calls Try.prog 15 #[.pointer (some ⟨p, 0, none⟩)] w (Iq.Cloned ls w) := by
  have H := Lib.hid h
  have c0 := h.c0
  clear h
  go_enter Try.func15, Try.ntmps15
  go_wp2_with fail
  refine (Iq.clone_any ls _ _ (H.out.2.1.sl letC_len) (by omega)).mono ?_
  rintro e w1 ⟨u, rfl, hown, hb⟩
  have HO := Lib.hid hown
  have HB := Lib.hid hb
  clear hown hb
  go_wp2_with fail
  go_ret
  exact ⟨u, rfl, HO.out, HB.out⟩
/-- Clone makes a net of its own -/
theorem clone_net {B p : Nat} {v : Value} {ls : List Letr} (w : World) (h : NetN w B p v ls) (hl : ls.length ≤ 1000) : Calls Try.prog 13 #[.pointer (some ⟨p, 0, none⟩)] w fun e w' => ∃ q u, e = .returned (.pointer (some ⟨q, 0, none⟩)) ∧ NetN w' w.heap.size q u ls ∧ Below w.heap.size w w' := by
  have H := Lib.hid h
  clear h
  go_enter Try.func13, Try.ntmps13
  go_wp2_with fail
  refine (all_any _ H.out hl).mono ?_
  rintro e w1 ⟨u, rfl, hown, hb⟩
  obtain ⟨a, c, rfl⟩ := own_slice hown
  have HO := Lib.hid hown
  have HB := Lib.hid hb
  clear hown hb
  go_wp2_with fail
  go_ret
  exact ⟨_, _, rfl, ⟨heap_alloc_new _ _, OwnR.alloc HO.out _, HB.out.size⟩, HB.out.alloc HB.out.size _⟩
end Nt
end Go.Proofs.Ytgmndcfeifgapaa
