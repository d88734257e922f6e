/- Lists of nodes: what nodes.Check, nodes.Has and the document's own answers hand back. No condition. -/
import Derived.Test.YtlkmdoddgfmnbaaSl
namespace Go.Proofs.Ytlkmdoddgfmnbaa
open Go.ChangeShapes Go.WideShapes Go.ChangeAt Go.RowKit
set_option linter.unusedVariables false
set_option maxRecDepth 100000
namespace Nd

def okFrom (last : Int) : List Int → Bool
  | [] => true
  | n :: l => decide (1 ≤ n ∧ n ≤ 7 ∧ last < n) && okFrom n l
def chk (l : List Int) : Bool := !l.isEmpty && okFrom 0 l
def errOf (b : Bool) : Int := if b then 0 else 1

theorem getD_get {l : List Int} {k : Nat} (h : k < l.length) : l.getD k 0 = l[k] := by simp [List.getD, List.getElem?_eq_getElem h]
theorem drop_get {l : List Int} {k : Nat} (h : k < l.length) : l.drop k = l.getD k 0 :: l.drop (k + 1) := by
  rw [getD_get h]; exact List.drop_eq_getElem_cons h
theorem take_get {l : List Int} {k : Nat} (h : k < l.length) : l.take (k + 1) = l.take k ++ [l.getD k 0] := by
  rw [getD_get h]; exact List.take_succ_eq_append_getElem h
theorem mem_get {l : List Int} {k : Nat} (h : k < l.length) : l.getD k 0 ∈ l := by rw [getD_get h]; exact List.getElem_mem h

/-- a slice of ints, opened for a loop over it: empty, or its cells -/
theorem Sl.cases {k : IntKind} {w : World} {v : Value} {zs : List Int} (h : Sl k w v zs) :
    (∃ a cap, v = .slice a 0 cap ∧ zs = []) ∨ ∃ b off cap, v = .slice (some ⟨b, off, none⟩) zs.length cap ∧ 0 < zs.length ∧ zs.length ≤ cap ∧ cap ≤ 9223372036854775807 ∧ b < w.heap.size ∧
      ∀ i, i < zs.length → w.cell? ⟨b, off + i, none⟩ = some (.int k (zs.getD i 0)) := by
  obtain ⟨a, cap, rfl, h1, h2, h3, h4⟩ := h
  unfold maxLen at h2
  rcases h4 with ⟨rfl, rfl, rfl⟩ | ⟨b, off, sp, rfl, rfl | ⟨rfl, hlt, hc⟩⟩
  · exact .inl ⟨_, _, rfl, rfl⟩
  · exact .inl ⟨_, _, rfl, rfl⟩
  · rcases Nat.eq_zero_or_pos zs.length with h0 | h0
    · have : zs = [] := List.eq_nil_of_length_eq_zero h0
      subst this
      exact .inl ⟨_, _, rfl, rfl⟩
    · exact .inr ⟨b, off, cap, rfl, h0, h1, h2, hlt, hc⟩

def nodeB (n : Int) : Bool := decide (1 ≤ n ∧ n ≤ 7)

set_option maxHeartbeats 400000 in
theorem isNode_any (n : Int) (w : World) :
    Calls Try.prog 107 #[.int .i64 n] w fun e w' => e = .returned (.bool (nodeB n)) ∧ w = w' := by
  go_enter Try.func107, Try.ntmps107
  go_wp2
  all_goals (go_ret; exact ⟨ret_bool (by unfold nodeB; first | exact decide_eq_decide.2 (by omega) | exact (decide_eq_false (by omega)).symm), rfl⟩)

theorem okFrom_bad {last n : Int} {l : List Int} (h : ¬ (1 ≤ n ∧ n ≤ 7 ∧ last < n)) : okFrom last (n :: l) = false := by simp [okFrom, h]
theorem okFrom_good {last n : Int} {l : List Int} (h : 1 ≤ n ∧ n ≤ 7 ∧ last < n) : okFrom last (n :: l) = okFrom n l := by simp [okFrom, h]
theorem chk_of {l : List Int} (h : 0 < l.length) : chk l = okFrom 0 l := by
  cases l with
  | nil => simp at h
  | cons a l => rfl

set_option maxHeartbeats 400000 in
theorem check_any (v : Value) (zs : List Int) (w : World) (hs : Sl .i64 w v zs) :
    Calls Try.prog 59 #[v] w fun e w' => e = .returned (.int .i64 (errOf (chk zs))) ∧ w = w' := by
  rcases Sl.cases hs with ⟨a, cap, rfl, rfl⟩ | ⟨b, off, cap, rfl, h0, hlc, hcm, hlt, hc⟩
  · clear hs
    go_enter Try.func59, Try.ntmps59
    go_wp2
    go_ret
    exact ⟨rfl, rfl⟩
  · have HK := Lib.hid (chk_of h0)
    have HC := Lib.hid hc
    have hne : ((zs.length : Int) == 0) = false := beq_eq_false_iff_ne.2 (by omega)
    clear hs hc
    go_enter Try.func59, Try.ntmps59
    go_wp2
    go_loop [3, 11] (fun t i => ∃ k : Nat, ∃ last : Int, k ≤ zs.length ∧ i = .int .i64 k ∧ t = .int .i64 last ∧ Hid (okFrom 0 zs = okFrom last (zs.drop k)) ∧ 0 ≤ last) (fun _ i => zs.length - (intOf i).toNat)
    case atStart => exact ⟨0, 0, Nat.zero_le _, rfl, rfl, Lib.hid rfl, Int.le_refl _⟩
    case round =>
      obtain ⟨k, last, hk, rfl, rfl, HO, hl0⟩ := hrel
      by_cases hlt2 : k < zs.length
      · have hcx := HC.out k hlt2
        have HD := Lib.hid (drop_get hlt2)
        generalize hz : zs.getD k 0 = z at *
        have HZ := Lib.hid hz
        clear hz
        by_cases hg : 1 ≤ z ∧ z ≤ 7 ∧ last < z
        · have hO2 := HO.out
          rw [HD.out, okFrom_good hg] at hO2
          have HO2 := Lib.hid hO2
          have hn : nodeB z = true := decide_eq_true ⟨hg.1, hg.2.1⟩
          obtain ⟨hg1, hg2, hg3⟩ := hg
          clear hO2
          go_wp2_with (go_at_call 107; refine (isNode_any _ _).mono ?_; rintro e w' ⟨rfl, rfl⟩; rw [hn])
          go_round
          case rel => exact ⟨k + 1, z, by omega, by go_num, rfl, HO2, by omega⟩
          case measure => simp [intOf]; omega
        · have hO2 := HO.out
          rw [HD.out, okFrom_bad hg] at hO2
          have hE : errOf (chk zs) = 1 := by rw [HK.out, hO2]; rfl
          have HE := Lib.hid hE
          clear hO2 hE
          by_cases hn' : 1 ≤ z ∧ z ≤ 7
          · have hn : nodeB z = true := decide_eq_true hn'
            have h3 : z ≤ last := by omega
            clear hg hn'
            go_wp2_with (go_at_call 107; refine (isNode_any _ _).mono ?_; rintro e w' ⟨rfl, rfl⟩; rw [hn])
            go_ret
            exact ⟨by rw [HE.out]; rfl, rfl⟩
          · have hn : nodeB z = false := decide_eq_false hn'
            clear hg hn'
            go_wp2_with (go_at_call 107; refine (isNode_any _ _).mono ?_; rintro e w' ⟨rfl, rfl⟩; rw [hn])
            go_ret
            exact ⟨by rw [HE.out]; rfl, rfl⟩
      · obtain rfl : k = zs.length := by omega
        have hO2 := HO.out
        rw [List.drop_length] at hO2
        have hE : errOf (chk zs) = 0 := by rw [HK.out, hO2]; rfl
        have HE := Lib.hid hE
        clear hO2 hE
        go_wp2
        go_ret
        exact ⟨by rw [HE.out]; rfl, rfl⟩


end Nd
end Go.Proofs.Ytlkmdoddgfmnbaa
