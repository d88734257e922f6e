/- Package msg: which fields a kind has, what is in a field. No condition. -/
import Derived.Test.YteapccniloednaaMsT
import Derived.Test.YteapccniloednaaRcZ
namespace Go.Proofs.Yteapccniloednaa
open Go.ChangeShapes Go.WideShapes Go.ChangeAt Go.RowKit
set_option linter.unusedVariables false
set_option maxRecDepth 100000
namespace Ms
open Nv
theorem isNode_any (n : Int) (w : World) : Calls Try.prog 11 #[.int .i64 n] w fun e w' => e = .returned (.bool (decide (1 ≤ n ∧ n ≤ 7))) ∧ w = w' := by
  go_enter Try.func11, Try.ntmps11
  go_wp2
  all_goals (go_ret; exact ⟨ret_bool (by first | (exact decide_eq_decide.2 (by omega)) | (simp; omega)), rfl⟩)
def fieldsM (k : Int) : List Int := if k = 1 then [0, 1, 2] else if k = 2 then [0, 4] else if k = 3 then [0, 1, 2, 3, 5] else if k = 4 then [0, 4, 1] else if k = 5 then [0, 6] else if k = 6 then [5] else []
def kindM (k : Int) : Prop := 1 ≤ k ∧ k ≤ 6
def GivesF (k : Int) (w : World) (e : Ending) (w' : World) : Prop := ∃ ad c, e = .returned (.slice (some ad) (fieldsM k).length c) ∧ Sl .i64 w' (.slice (some ad) (fieldsM k).length c) (fieldsM k) ∧ Below w.heap.size w w'
set_option maxHeartbeats 800000 in
theorem fields_any (k : Int) (w : World) (h : kindM k) : Calls Try.prog 10 #[.int .i64 k] w (GivesF k w) := by
  unfold kindM at h
  rcases (show k = 1 ∨ k = 2 ∨ k = 3 ∨ k = 4 ∨ k = 5 ∨ k = 6 by omega) with rfl | rfl | rfl | rfl | rfl | rfl
  all_goals
    clear h
    go_enter Try.func10, Try.ntmps10
    go_wp2
    go_ret
    exact ⟨_, _, rfl, Sl.new (fr := (0, 0)) w _ (fieldsM _) rfl rfl (Nat.le_refl _) (by decide) (by decide), (Below.refl _ _).alloc (Nat.le_refl _) _⟩
set_option maxHeartbeats 800000 in
theorem fields_no (k : Int) (w : World) (h : ¬ kindM k) : Calls Try.prog 10 #[.int .i64 k] w fun e w' => e = .returned (.slice none 0 0) ∧ w = w' := by
  unfold kindM at h
  have h1 : (k == 1) = false := beq_eq_false_iff_ne.2 (by omega)
  have h2 : (k == 2) = false := beq_eq_false_iff_ne.2 (by omega)
  have h3 : (k == 3) = false := beq_eq_false_iff_ne.2 (by omega)
  have h4 : (k == 4) = false := beq_eq_false_iff_ne.2 (by omega)
  have h5 : (k == 5) = false := beq_eq_false_iff_ne.2 (by omega)
  have h6 : (k == 6) = false := beq_eq_false_iff_ne.2 (by omega)
  clear h
  go_enter Try.func10, Try.ntmps10
  go_wp2
  go_ret
  exact ⟨rfl, rfl⟩
def IdxOf (zs : List Int) (n : Int) (w : World) (e : Ending) (w' : World) : Prop := (∃ i : Int, e = .returned (.int .i64 i) ∧ decide (0 ≤ i) = decide (n ∈ zs)) ∧ w = w'
set_option maxHeartbeats 400000 in
theorem findex_any (v : Value) (zs : List Int) (n : Int) (w : World) (hs : Sl .i64 w v zs) :
    Calls Try.prog 26 #[v, .int .i64 n] w (IdxOf zs n w) := by
  rcases Nd.Sl.cases hs with ⟨a, cap, rfl, rfl⟩ | ⟨b, off, cap, rfl, h0, hlc, hcm, hlt, hc⟩
  · clear hs
    go_enter Try.func26, Try.ntmps26
    go_wp2
    refine wp_loop_rounds 1 ?_
    rw [rounds_succ]
    go_wp2
    go_ret
    exact ⟨⟨-1, rfl, by simp⟩, rfl⟩
  · have HC := Lib.hid hc
    clear hs hc
    go_enter Try.func26, Try.ntmps26
    go_wp2
    go_loop [8] (fun i => ∃ k : Nat, k ≤ zs.length ∧ i = .int .i64 k ∧ Hid (n ∉ zs.take k)) (fun i => zs.length - (intOf i).toNat)
    case atStart => exact ⟨0, Nat.zero_le _, rfl, Lib.hid (by simp)⟩
    case round =>
      obtain ⟨k, hk, rfl, HO⟩ := hrel
      by_cases hlt2 : k < zs.length
      · have hcx := HC.out k hlt2
        have HM := Lib.hid (Nd.mem_get hlt2)
        have HT := Lib.hid (Nd.take_get hlt2)
        generalize zs.getD k 0 = z at *
        by_cases hz : z = n
        · subst hz
          have HB := Lib.hid (decide_eq_true HM.out)
          go_wp2
          go_ret
          exact ⟨⟨k, rfl, by rw [HB.out]; simp⟩, rfl⟩
        · have hz2 : (n == z) = false := by rw [beq_eq_false_iff_ne]; exact fun h => hz h.symm
          have HO2 : Hid (n ∉ zs.take (k + 1)) := by
            refine Lib.hid ?_
            rw [HT.out, List.mem_append, List.mem_singleton]
            rintro (h | h)
            · exact HO.out h
            · exact hz h.symm
          clear hz
          go_wp2
          go_round
          case rel => exact ⟨k + 1, by omega, by go_num, HO2⟩
          case measure => simp [intOf]; omega
      · obtain rfl : k = zs.length := by omega
        have HO2 := HO.out
        rw [List.take_length] at HO2
        have HB := Lib.hid (decide_eq_false HO2)
        clear HO2
        go_wp2
        go_ret
        exact ⟨⟨-1, rfl, by rw [HB.out]; simp⟩, rfl⟩

set_option maxHeartbeats 400000 in
theorem fcontains_any (v : Value) (zs : List Int) (n : Int) (w : World) (hs : Sl .i64 w v zs) :
    Calls Try.prog 12 #[v, .int .i64 n] w fun e w' => e = .returned (.bool (decide (n ∈ zs))) ∧ w = w' := by
  go_enter Try.func12, Try.ntmps12
  go_wp2_with fail
  refine (findex_any _ _ _ _ hs).mono ?_
  rintro e w' ⟨⟨i, rfl, hi⟩, rfl⟩
  have HI := Lib.hid hi
  clear hi
  go_wp2
  all_goals (go_ret; exact ⟨ret_bool HI.out, rfl⟩)



def numM (m : Mes) : Nat → Int
  | 0 => m.term
  | 1 => m.index
  | 2 => m.lterm
  | _ => m.commit
set_option maxHeartbeats 800000 in
theorem number_any (m : Mes) (f : Nat) (hf : f ≤ 3) (v : Value) (w : World) (h : IsMsg w v m) :
    Calls Try.prog 28 #[v, .int .i64 f] w fun e w' => e = .returned (.int .u64 (numM m f)) ∧ Below w.heap.size w w' := by
  obtain ⟨ve, vn, vh, vl, rfl, hl, hn, hh, hla, hwf⟩ := h
  obtain ⟨q0, q1, q2, q3, q4, q5, q6, -⟩ := cells16 (heap_alloc_new w (.cells (mArr m ve vn vh vl) 32 (0, 0)))
  clear hl hn hh hla hwf
  rcases (show f = 0 ∨ f = 1 ∨ f = 2 ∨ f = 3 by omega) with rfl | rfl | rfl | rfl
  all_goals
    clear hf
    go_enter Try.func28, Try.ntmps28
    go_wp2
    go_ret
    exact ⟨rfl, (Below.refl _ _).alloc (Nat.le_refl _) _⟩
/-- a field is zero -/
def zF (m : Mes) (f : Nat) : Prop := if f = 4 then m.flag = false else if f = 5 then m.ents.length = 0 else if f = 6 then zSho m.shot else numM m f = 0
end Ms
end Go.Proofs.Yteapccniloednaa
