/- A command's numbers: what cmd.isKind, number, fields, fits hand back. No condition. -/
import Derived.Test.YtlkmdoddgfmnbaaCmdT
import Derived.Test.YtlkmdoddgfmnbaaNodA
import Derived.Laws.Tables
namespace Go.Proofs.Ytlkmdoddgfmnbaa
open Go.ChangeShapes Go.WideShapes Go.ChangeAt Go.RowKit
set_option linter.unusedVariables false
set_option maxRecDepth 100000
namespace Cm

def kindB (n : Int) : Bool := decide (1 ≤ n ∧ n ≤ 6)
set_option maxHeartbeats 400000 in
theorem isKind_any (n : Int) (w : World) (h0 : 0 ≤ n) (h1 : n ≤ 18446744073709551615) :
    Calls Try.prog 91 #[.int .u64 n] w fun e w' => e = .returned (.bool (kindB n)) ∧ w = w' := by
  go_enter Try.func91, Try.ntmps91
  go_wp2
  all_goals (go_ret; exact ⟨ret_bool (by unfold kindB; first | exact decide_eq_decide.2 (by omega) | exact (decide_eq_false (by omega)).symm), rfl⟩)

/-- an int as an unsigned number -/
def u64 (n : Int) : Int := if 0 ≤ n then n else n + 18446744073709551616
theorem u64_wrap {n : Int} (h : (Lit.int .i64 n).wf = true) : IntKind.u64.wrap n = u64 n := by
  have := bounds_i64 h
  unfold u64
  rw [IntKind.wrap_u64]
  split <;> omega

def numF (c : Cmd) : Nat → Int
  | 0 => u64 c.node
  | 1 => c.boot
  | 2 => c.seq
  | 3 => u64 c.token
  | 4 => c.serial
  | 5 => c.stamp
  | _ => c.nodes.length

set_option maxHeartbeats 400000 in
theorem number_any (c : Cmd) (f : Nat) (hf : f ≤ 6) (v : Value) (w : World) (h : IsCmd w v c) :
    Calls Try.prog 95 #[v, .int .i64 f] w fun e w' => e = .returned (.int .u64 (numF c f)) ∧ Below w.heap.size w w' := by
  obtain ⟨vn, rfl, hsl, hw0, hw1, hw2, hw3, hw4, hw5, hw6⟩ := h
  obtain ⟨a, cap, rfl, -, hl2, -⟩ := id hsl
  have hlen := hsl.len
  unfold maxLen at hlen
  have hu0 := Lib.hid (u64_wrap hw1)
  have hu3 := Lib.hid (u64_wrap hw2)
  clear hl2 hw0 hw1 hw2 hw3 hw4 hw5 hw6 hsl
  match f, hf with
  | 0, _ =>
    go_enter Try.func95, Try.ntmps95
    go_wp2
    go_ret
    exact ⟨ret_int hu0.out, (Below.refl _ _).alloc (Nat.le_refl _) _⟩
  | 1, _ =>
    go_enter Try.func95, Try.ntmps95
    go_wp2
    go_ret
    exact ⟨rfl, (Below.refl _ _).alloc (Nat.le_refl _) _⟩
  | 2, _ =>
    go_enter Try.func95, Try.ntmps95
    go_wp2
    go_ret
    exact ⟨rfl, (Below.refl _ _).alloc (Nat.le_refl _) _⟩
  | 3, _ =>
    go_enter Try.func95, Try.ntmps95
    go_wp2
    go_ret
    exact ⟨ret_int hu3.out, (Below.refl _ _).alloc (Nat.le_refl _) _⟩
  | 4, _ =>
    go_enter Try.func95, Try.ntmps95
    go_wp2
    go_ret
    exact ⟨rfl, (Below.refl _ _).alloc (Nat.le_refl _) _⟩
  | 5, _ =>
    go_enter Try.func95, Try.ntmps95
    go_wp2
    go_ret
    exact ⟨rfl, (Below.refl _ _).alloc (Nat.le_refl _) _⟩
  | 6, _ =>
    go_enter Try.func95, Try.ntmps95
    go_wp2
    go_ret
    exact ⟨rfl, (Below.refl _ _).alloc (Nat.le_refl _) _⟩

/-! ### which fields a kind has -/
def fieldsL (k : Int) : List Int := if k = 2 then [6] else if k = 3 then [0, 1, 2] else if k = 4 ∨ k = 5 then [0, 1, 2, 3, 4] else if k = 6 then [3, 4, 5] else []
theorem info_fld : (Try.prog.info? 129).map (fun i => (i.zero, i.size, i.bytes)) = some (some (.int .i64 0), 1, 8) := by kernel_rfl
def GivesSl (zs : List Int) (w : World) (e : Ending) (w' : World) : Prop := ∃ v, e = .returned v ∧ Sl .i64 w' v zs ∧ Below w.heap.size w w'
theorem sl_nil (k : IntKind) (w : World) : Sl k w (.slice none 0 0) [] := ⟨none, 0, rfl, Nat.le_refl _, Nat.zero_le _, by simp, .inl ⟨rfl, rfl, rfl⟩⟩

set_option maxHeartbeats 400000 in
theorem fields_any (k : Int) (w : World) (h : 1 ≤ k ∧ k ≤ 6) :
    Calls Try.prog 92 #[.int .i64 k] w (GivesSl (fieldsL k) w) := by
  rcases (show k = 1 ∨ k = 2 ∨ k = 3 ∨ k = 4 ∨ k = 5 ∨ k = 6 by omega) with rfl | rfl | rfl | rfl | rfl | rfl
  · clear h
    go_enter Try.func92, Try.ntmps92
    go_wp2
    go_ret
    exact ⟨_, rfl, sl_nil _ _, Below.refl _ _⟩
  · clear h
    go_enter Try.func92, Try.ntmps92
    go_wp2
    go_ret
    exact ⟨_, rfl, Sl.new (fr := (0, 0)) w _ [6] rfl rfl (Nat.le_refl _) (by decide) (by decide), (Below.refl _ _).alloc (Nat.le_refl _) _⟩
  · clear h
    go_enter Try.func92, Try.ntmps92
    go_wp2_with (at_builtin; refine appK Try.underlying127 info_fld rfl _ _ rfl w.heap.size _ [0, 1, 2] rfl (OwnK.new w _ [0, 1, 2] rfl rfl (by decide) (Nat.le_refl _)) _ [] rfl (sl_nil _ _) (by decide) (by decide) (by simp) ?_; intro v1 w1 hown1 hb1)
    go_ret
    exact ⟨_, rfl, hown1.sl (by decide), ((Below.refl _ _).alloc (Nat.le_refl _) _).trans hb1⟩
  · clear h
    go_enter Try.func92, Try.ntmps92
    go_wp2_with (at_builtin; refine appK Try.underlying127 info_fld rfl _ _ rfl w.heap.size _ [0, 1, 2] rfl (OwnK.newAt (w.alloc (.cells #[Value.int .i64 3, Value.int .i64 4] 129)) (w.heap.size + 1) (by simp) _ [0, 1, 2] rfl rfl (by decide) (by simp)) _ [3, 4] rfl ((Sl.new (fr := (0, 0)) w _ [3, 4] rfl rfl (Nat.le_refl _) (by decide) (by decide)).below ((Below.refl _ _).alloc (Nat.le_refl _) _) (Nat.le_refl _)) (by decide) (by decide) (by simp; omega) ?_; intro v1 w1 hown1 hb1)
    go_ret
    exact ⟨_, rfl, hown1.sl (by decide), (((Below.refl _ _).alloc (Nat.le_refl _) _).alloc (by simp) _).trans hb1⟩
  · clear h
    go_enter Try.func92, Try.ntmps92
    go_wp2_with (at_builtin; refine appK Try.underlying127 info_fld rfl _ _ rfl w.heap.size _ [0, 1, 2] rfl (OwnK.newAt (w.alloc (.cells #[Value.int .i64 3, Value.int .i64 4] 129)) (w.heap.size + 1) (by simp) _ [0, 1, 2] rfl rfl (by decide) (by simp)) _ [3, 4] rfl ((Sl.new (fr := (0, 0)) w _ [3, 4] rfl rfl (Nat.le_refl _) (by decide) (by decide)).below ((Below.refl _ _).alloc (Nat.le_refl _) _) (Nat.le_refl _)) (by decide) (by decide) (by simp; omega) ?_; intro v1 w1 hown1 hb1)
    go_ret
    exact ⟨_, rfl, hown1.sl (by decide), (((Below.refl _ _).alloc (Nat.le_refl _) _).alloc (by simp) _).trans hb1⟩
  · clear h
    go_enter Try.func92, Try.ntmps92
    go_wp2
    go_ret
    exact ⟨_, rfl, Sl.new (fr := (0, 0)) w _ [3, 4, 5] rfl rfl (Nat.le_refl _) (by decide) (by decide), (Below.refl _ _).alloc (Nat.le_refl _) _⟩

def IdxOf (zs : List Int) (n : Int) (w : World) (e : Ending) (w' : World) : Prop := (∃ i : Int, e = .returned (.int .i64 i) ∧ decide (0 ≤ i) = decide (n ∈ zs)) ∧ w = w'
set_option maxHeartbeats 400000 in
theorem findex_any (v : Value) (zs : List Int) (n : Int) (w : World) (hs : Sl .i64 w v zs) :
    Calls Try.prog 118 #[v, .int .i64 n] w (IdxOf zs n w) := by
  rcases Nd.Sl.cases hs with ⟨a, cap, rfl, rfl⟩ | ⟨b, off, cap, rfl, h0, hlc, hcm, hlt, hc⟩
  · clear hs
    go_enter Try.func118, Try.ntmps118
    go_wp2
    refine wp_loop_rounds 1 ?_
    rw [rounds_succ]
    go_wp2
    go_ret
    exact ⟨⟨-1, rfl, by simp⟩, rfl⟩
  · have HC := Lib.hid hc
    clear hs hc
    go_enter Try.func118, Try.ntmps118
    go_wp2
    go_loop [8] (fun i => ∃ k : Nat, k ≤ zs.length ∧ i = .int .i64 k ∧ Hid (n ∉ zs.take k)) (fun i => zs.length - (intOf i).toNat)
    case atStart => exact ⟨0, Nat.zero_le _, rfl, Lib.hid (by simp)⟩
    case round =>
      obtain ⟨k, hk, rfl, HO⟩ := hrel
      by_cases hlt2 : k < zs.length
      · have hcx := HC.out k hlt2
        have HM := Lib.hid (Nd.mem_get hlt2)
        have HT := Lib.hid (Nd.take_get hlt2)
        generalize zs.getD k 0 = z at *
        by_cases hz : z = n
        · subst hz
          have HB := Lib.hid (decide_eq_true HM.out)
          go_wp2
          go_ret
          exact ⟨⟨k, rfl, by rw [HB.out]; simp⟩, rfl⟩
        · have hz2 : (n == z) = false := by rw [beq_eq_false_iff_ne]; exact fun h => hz h.symm
          have HO2 : Hid (n ∉ zs.take (k + 1)) := by
            refine Lib.hid ?_
            rw [HT.out, List.mem_append, List.mem_singleton]
            rintro (h | h)
            · exact HO.out h
            · exact hz h.symm
          clear hz
          go_wp2
          go_round
          case rel => exact ⟨k + 1, by omega, by go_num, HO2⟩
          case measure => simp [intOf]; omega
      · obtain rfl : k = zs.length := by omega
        have HO2 := HO.out
        rw [List.take_length] at HO2
        have HB := Lib.hid (decide_eq_false HO2)
        clear HO2
        go_wp2
        go_ret
        exact ⟨⟨-1, rfl, by rw [HB.out]; simp⟩, rfl⟩

set_option maxHeartbeats 400000 in
theorem fcontains_any (v : Value) (zs : List Int) (n : Int) (w : World) (hs : Sl .i64 w v zs) :
    Calls Try.prog 93 #[v, .int .i64 n] w fun e w' => e = .returned (.bool (decide (n ∈ zs))) ∧ w = w' := by
  go_enter Try.func93, Try.ntmps93
  go_wp2_with fail
  refine (findex_any _ _ _ _ hs).mono ?_
  rintro e w' ⟨⟨i, rfl, hi⟩, rfl⟩
  have HI := Lib.hid hi
  clear hi
  go_wp2
  all_goals (go_ret; exact ⟨ret_bool HI.out, rfl⟩)


/-! ### whether a field is right -/
def fitsF (c : Cmd) (f : Nat) : Bool :=
  match f with
  | 6 => Nd.chk c.nodes
  | 0 => decide (1 ≤ numF c 0 ∧ numF c 0 ≤ 7)
  | 3 => decide (1 ≤ numF c 3 ∧ numF c 3 ≤ 65535)
  | f => decide (1 ≤ numF c f)
theorem errOf_eq (b : Bool) : (Nd.errOf b == 0) = b := by cases b <;> rfl

set_option maxHeartbeats 400000 in
theorem fits_any (c : Cmd) (f : Nat) (hf : f ≤ 6) (v : Value) (w : World) (h : IsCmd w v c) :
    Calls Try.prog 94 #[v, .int .i64 f] w fun e w' => e = .returned (.bool (fitsF c f)) ∧ Below w.heap.size w w' := by
  have h' := h
  obtain ⟨vn, rfl, hsl, -⟩ := h'
  have hb0 : ∀ A, Below w.heap.size w (w.alloc (.cells A 29)) := fun A => (Below.refl _ _).alloc (Nat.le_refl _) _
  have HI := Lib.hid (h.below (hb0 #[.int .i64 c.kind, .int .i64 c.node, .int .i64 c.token, vn, .int .u64 c.boot, .int .u64 c.seq, .int .u64 c.serial, .int .u64 c.stamp]) (Nat.le_refl _))
  clear h
  have hn : (w.alloc (.cells #[.int .i64 c.kind, .int .i64 c.node, .int .i64 c.token, vn, .int .u64 c.boot, .int .u64 c.seq, .int .u64 c.serial, .int .u64 c.stamp] 29)).cell? ⟨w.heap.size, 3, none⟩ = some vn := by simp only [World.cell?, heap_alloc_new]; rfl
  have HN := Lib.hid hn
  clear hn
  have hb0' := hb0 #[.int .i64 c.kind, .int .i64 c.node, .int .i64 c.token, vn, .int .u64 c.boot, .int .u64 c.seq, .int .u64 c.serial, .int .u64 c.stamp]
  match f, hf with
  | 6, _ =>
    go_enter Try.func94, Try.ntmps94
    go_wp2_with (first
      | (go_at_call 95; refine (number_any c 6 (by decide) _ _ HI.out).mono ?_; rintro e w1 ⟨rfl, hb1⟩; have hc3 := (hb1.cell (p := ⟨w.heap.size, 3, none⟩) (by simp)).trans HN.out; have hs1 := (hsl.below hb0' (Nat.le_refl _)).below hb1 (Nat.le_refl _))
      | (go_at_call 59; refine (Nd.check_any _ _ _ hs1).mono ?_; rintro e w2 ⟨rfl, rfl⟩))
    go_ret
    exact ⟨ret_bool (errOf_eq _), hb0'.trans (hb1.mono (by simp))⟩
  | 0, _ =>
    go_enter Try.func94, Try.ntmps94
    go_wp2_with (go_at_call 95; refine (number_any c 0 (by decide) _ _ HI.out).mono ?_; rintro e w1 ⟨rfl, hb1⟩; generalize hz : numF c 0 = z at *)
    all_goals (go_ret; exact ⟨ret_bool (by first | (simp only [fitsF, hz]; done) | (simp only [fitsF, hz]; first | exact decide_eq_decide.2 (by omega) | exact (decide_eq_false (by omega)).symm | exact (decide_eq_true (by omega)).symm)), hb0'.trans (hb1.mono (by simp))⟩)
  | 1, _ =>
    go_enter Try.func94, Try.ntmps94
    go_wp2_with (go_at_call 95; refine (number_any c 1 (by decide) _ _ HI.out).mono ?_; rintro e w1 ⟨rfl, hb1⟩; generalize hz : numF c 1 = z at *)
    all_goals (go_ret; exact ⟨ret_bool (by first | (simp only [fitsF, hz]; done) | (simp only [fitsF, hz]; first | exact decide_eq_decide.2 (by omega) | exact (decide_eq_false (by omega)).symm | exact (decide_eq_true (by omega)).symm)), hb0'.trans (hb1.mono (by simp))⟩)
  | 2, _ =>
    go_enter Try.func94, Try.ntmps94
    go_wp2_with (go_at_call 95; refine (number_any c 2 (by decide) _ _ HI.out).mono ?_; rintro e w1 ⟨rfl, hb1⟩; generalize hz : numF c 2 = z at *)
    all_goals (go_ret; exact ⟨ret_bool (by first | (simp only [fitsF, hz]; done) | (simp only [fitsF, hz]; first | exact decide_eq_decide.2 (by omega) | exact (decide_eq_false (by omega)).symm | exact (decide_eq_true (by omega)).symm)), hb0'.trans (hb1.mono (by simp))⟩)
  | 3, _ =>
    go_enter Try.func94, Try.ntmps94
    go_wp2_with (go_at_call 95; refine (number_any c 3 (by decide) _ _ HI.out).mono ?_; rintro e w1 ⟨rfl, hb1⟩; generalize hz : numF c 3 = z at *)
    all_goals (go_ret; exact ⟨ret_bool (by first | (simp only [fitsF, hz]; done) | (simp only [fitsF, hz]; first | exact decide_eq_decide.2 (by omega) | exact (decide_eq_false (by omega)).symm | exact (decide_eq_true (by omega)).symm)), hb0'.trans (hb1.mono (by simp))⟩)
  | 4, _ =>
    go_enter Try.func94, Try.ntmps94
    go_wp2_with (go_at_call 95; refine (number_any c 4 (by decide) _ _ HI.out).mono ?_; rintro e w1 ⟨rfl, hb1⟩; generalize hz : numF c 4 = z at *)
    all_goals (go_ret; exact ⟨ret_bool (by first | (simp only [fitsF, hz]; done) | (simp only [fitsF, hz]; first | exact decide_eq_decide.2 (by omega) | exact (decide_eq_false (by omega)).symm | exact (decide_eq_true (by omega)).symm)), hb0'.trans (hb1.mono (by simp))⟩)
  | 5, _ =>
    go_enter Try.func94, Try.ntmps94
    go_wp2_with (go_at_call 95; refine (number_any c 5 (by decide) _ _ HI.out).mono ?_; rintro e w1 ⟨rfl, hb1⟩; generalize hz : numF c 5 = z at *)
    all_goals (go_ret; exact ⟨ret_bool (by first | (simp only [fitsF, hz]; done) | (simp only [fitsF, hz]; first | exact decide_eq_decide.2 (by omega) | exact (decide_eq_false (by omega)).symm | exact (decide_eq_true (by omega)).symm)), hb0'.trans (hb1.mono (by simp))⟩)
end Cm
end Go.Proofs.Ytlkmdoddgfmnbaa
