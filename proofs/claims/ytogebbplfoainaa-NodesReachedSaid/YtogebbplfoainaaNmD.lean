/- slices.Sort at uint64, a short row of one's own. -/
import Derived.Test.YtogebbplfoainaaNmC
namespace Go.Proofs.Ytogebbplfoainaa
open Go.ChangeShapes Go.WideShapes Go.ChangeAt Go.RowKit
set_option linter.unusedVariables false
set_option maxRecDepth 100000
namespace Nm
theorem ins_any (g cap B : Nat) (zs : List Int) (w : World) (h : RowU w B g cap zs) (h0 : 0 < zs.length) (hsz : zs.length < 4611686018427387904) :
    Calls Try.prog 16 #[.slice (some ⟨g, 0, none⟩) zs.length cap, .int .i64 0, .int .i64 zs.length] w fun e w' =>
      e = .returned (.tuple #[]) ∧ Below B w w' ∧ ∃ l : List Int, l.length = zs.length ∧ l.Perm zs ∧ sortedTo l zs.length ∧ RowU w' B g cap l := ins_off 0 rfl g cap B zs w h h0 hsz
theorem len_any (n : Nat) (hn : n < 13) (w : World) : Calls Try.prog 15 #[.int .u64 n] w fun e w' => (∃ y, e = .returned (.int .i64 y)) ∧ w = w' := by
  have HN := Lib.hid hn
  have h2 : (n : Int) < 13 := by omega
  clear hn
  go_enter Try.func15, Try.ntmps15
  go_wp2_with (go_at_call 26; refine (len64_any _ HN.out _).mono ?_; rintro e w1 ⟨⟨y, rfl⟩, rfl⟩)
  go_ret
  exact ⟨⟨_, rfl⟩, rfl⟩
set_option maxHeartbeats 2000000 in
theorem pdq_any (g cap B : Nat) (zs : List Int) (y : Int) (w : World) (h : RowU w B g cap zs) (h0 : 0 < zs.length) (h12 : zs.length ≤ 12) :
    Calls Try.prog 14 #[.slice (some ⟨g, 0, none⟩) zs.length cap, .int .i64 0, .int .i64 zs.length, .int .i64 y] w fun e w' =>
      e = .returned (.tuple #[]) ∧ Below B w w' ∧ ∃ l : List Int, l.length = zs.length ∧ l.Perm zs ∧ sortedTo l zs.length ∧ RowU w' B g cap l := by
  have HI := Lib.hid (ins_any g cap B zs w h h0 (by omega))
  clear h
  have hz : (zs.length : Int) ≤ 12 := by omega
  go_enter Try.func14, Try.ntmps14
  go_wp2
  refine wp_loop_rounds 1 ?_
  rw [rounds_succ]
  go_wp2_with (go_at_call 16; refine HI.out.mono ?_; rintro e w1 ⟨rfl, hb, hl⟩)
  (try simp only [Exit.inBlock, Exit.then])
  refine bodyPost_ret (v := .tuple #[]) (results_none rfl _ _ _) rfl ?_
  exact ⟨rfl, hb, hl⟩
set_option maxHeartbeats 2000000 in
theorem sort_any (g cap B : Nat) (zs : List Int) (w : World) (h : RowU w B g cap zs) (h0 : 0 < zs.length) (h12 : zs.length ≤ 12) :
    Calls Try.prog 9 #[.slice (some ⟨g, 0, none⟩) zs.length cap] w fun e w' =>
      e = .returned (.tuple #[]) ∧ Below B w w' ∧ ∃ l : List Int, l.length = zs.length ∧ l.Perm zs ∧ sortedTo l zs.length ∧ RowU w' B g cap l := by
  have HI := Lib.hid (fun y => pdq_any g cap B zs y w h h0 h12)
  have HL := Lib.hid (len_any zs.length (by omega) w)
  clear h
  have hz : (zs.length : Int) ≤ 12 := by omega
  go_enter Try.func9, Try.ntmps9
  go_wp2_with (first
    | (go_at_call 15; refine HL.out.mono ?_; rintro e w1 ⟨⟨y, rfl⟩, rfl⟩)
    | (go_at_call 14; refine (HI.out _).mono ?_; rintro e w1 ⟨rfl, hb, hl⟩))
  go_end0
  exact ⟨rfl, hb, hl⟩
end Nm
end Go.Proofs.Ytogebbplfoainaa
