/- A command's numbers: what cmd.isKind, number, fields, fits hand back. No condition. Which commands may be: what cmd.Check hands back. No condition. The document's own answers for commands: fields, has, right, Check, Copy, Same. No condition. The document's own Check of a command: it tells what package cmd's Check tells. No condition. The document's own Check of a command and package cmd's tell the same: on commands alone. No condition. -/
import Derived.Test.YtgbblegcjladaaaBse
import Derived.Laws.Tables
import Derived.Deep.QuietTactic
import Derived.BigQuiet
namespace Go.Proofs.Ytgbblegcjladaaa
open Go.ChangeShapes Go.WideShapes Go.ChangeAt Go.RowKit
set_option linter.unusedVariables false
set_option maxRecDepth 100000
namespace Cm

def kindB (n : Int) : Bool := decide (1 ≤ n ∧ n ≤ 6)
set_option maxHeartbeats 400000 in
theorem isKind_any (n : Int) (w : World) (h0 : 0 ≤ n) (h1 : n ≤ 18446744073709551615) :
    Calls Try.prog 66 #[.int .u64 n] w fun e w' => e = .returned (.bool (kindB n)) ∧ w = w' := by
  go_enter Try.func66, Try.ntmps66
  go_wp2
  all_goals (go_ret; exact ⟨ret_bool (by unfold kindB; first | exact decide_eq_decide.2 (by omega) | exact (decide_eq_false (by omega)).symm), rfl⟩)

/-- an int as an unsigned number -/
def u64 (n : Int) : Int := if 0 ≤ n then n else n + 18446744073709551616
theorem u64_wrap {n : Int} (h : (Lit.int .i64 n).wf = true) : IntKind.u64.wrap n = u64 n := by
  have := bounds_i64 h
  unfold u64
  rw [IntKind.wrap_u64]
  split <;> omega

def numF (c : Cmd) : Nat → Int
  | 0 => u64 c.node
  | 1 => c.boot
  | 2 => c.seq
  | 3 => u64 c.token
  | 4 => c.serial
  | 5 => c.stamp
  | _ => c.nodes.length

set_option maxHeartbeats 400000 in
theorem number_any (c : Cmd) (f : Nat) (hf : f ≤ 6) (v : Value) (w : World) (h : IsCmd w v c) :
    Calls Try.prog 70 #[v, .int .i64 f] w fun e w' => e = .returned (.int .u64 (numF c f)) ∧ Below w.heap.size w w' := by
  obtain ⟨vn, rfl, hsl, hw0, hw1, hw2, hw3, hw4, hw5, hw6⟩ := h
  obtain ⟨a, cap, rfl, -, hl2, -⟩ := id hsl
  have hlen := hsl.len
  unfold maxLen at hlen
  have hu0 := Lib.hid (u64_wrap hw1)
  have hu3 := Lib.hid (u64_wrap hw2)
  clear hl2 hw0 hw1 hw2 hw3 hw4 hw5 hw6 hsl
  match f, hf with
  | 0, _ =>
    go_enter Try.func70, Try.ntmps70
    go_wp2
    go_ret
    exact ⟨ret_int hu0.out, (Below.refl _ _).alloc (Nat.le_refl _) _⟩
  | 1, _ =>
    go_enter Try.func70, Try.ntmps70
    go_wp2
    go_ret
    exact ⟨rfl, (Below.refl _ _).alloc (Nat.le_refl _) _⟩
  | 2, _ =>
    go_enter Try.func70, Try.ntmps70
    go_wp2
    go_ret
    exact ⟨rfl, (Below.refl _ _).alloc (Nat.le_refl _) _⟩
  | 3, _ =>
    go_enter Try.func70, Try.ntmps70
    go_wp2
    go_ret
    exact ⟨ret_int hu3.out, (Below.refl _ _).alloc (Nat.le_refl _) _⟩
  | 4, _ =>
    go_enter Try.func70, Try.ntmps70
    go_wp2
    go_ret
    exact ⟨rfl, (Below.refl _ _).alloc (Nat.le_refl _) _⟩
  | 5, _ =>
    go_enter Try.func70, Try.ntmps70
    go_wp2
    go_ret
    exact ⟨rfl, (Below.refl _ _).alloc (Nat.le_refl _) _⟩
  | 6, _ =>
    go_enter Try.func70, Try.ntmps70
    go_wp2
    go_ret
    exact ⟨rfl, (Below.refl _ _).alloc (Nat.le_refl _) _⟩

/-! ### which fields a kind has -/
def fieldsL (k : Int) : List Int := if k = 2 then [6] else if k = 3 then [0, 1, 2] else if k = 4 ∨ k = 5 then [0, 1, 2, 3, 4] else if k = 6 then [3, 4, 5] else []
theorem info_fld : (Try.prog.info? 142).map (fun i => (i.zero, i.size, i.bytes)) = some (some (.int .i64 0), 1, 8) := by kernel_rfl
def GivesSl (zs : List Int) (w : World) (e : Ending) (w' : World) : Prop := ∃ v, e = .returned v ∧ Sl .i64 w' v zs ∧ Below w.heap.size w w'
theorem sl_nil (k : IntKind) (w : World) : Sl k w (.slice none 0 0) [] := ⟨none, 0, rfl, Nat.le_refl _, Nat.zero_le _, by simp, .inl ⟨rfl, rfl, rfl⟩⟩

set_option maxHeartbeats 400000 in
theorem fields_any (k : Int) (w : World) (h : 1 ≤ k ∧ k ≤ 6) :
    Calls Try.prog 67 #[.int .i64 k] w (GivesSl (fieldsL k) w) := by
  rcases (show k = 1 ∨ k = 2 ∨ k = 3 ∨ k = 4 ∨ k = 5 ∨ k = 6 by omega) with rfl | rfl | rfl | rfl | rfl | rfl
  · clear h
    go_enter Try.func67, Try.ntmps67
    go_wp2
    go_ret
    exact ⟨_, rfl, sl_nil _ _, Below.refl _ _⟩
  · clear h
    go_enter Try.func67, Try.ntmps67
    go_wp2
    go_ret
    exact ⟨_, rfl, Sl.new (fr := (0, 0)) w _ [6] rfl rfl (Nat.le_refl _) (by decide) (by decide), (Below.refl _ _).alloc (Nat.le_refl _) _⟩
  · clear h
    go_enter Try.func67, Try.ntmps67
    go_wp2_with (at_builtin; refine appK Try.underlying140 info_fld rfl _ _ rfl w.heap.size _ [0, 1, 2] rfl (OwnK.new w _ [0, 1, 2] rfl rfl (by decide) (Nat.le_refl _)) _ [] rfl (sl_nil _ _) (by decide) (by decide) (by simp) ?_; intro v1 w1 hown1 hb1)
    go_ret
    exact ⟨_, rfl, hown1.sl (by decide), ((Below.refl _ _).alloc (Nat.le_refl _) _).trans hb1⟩
  · clear h
    go_enter Try.func67, Try.ntmps67
    go_wp2_with (at_builtin; refine appK Try.underlying140 info_fld rfl _ _ rfl w.heap.size _ [0, 1, 2] rfl (OwnK.newAt (w.alloc (.cells #[Value.int .i64 3, Value.int .i64 4] 142)) (w.heap.size + 1) (by simp) _ [0, 1, 2] rfl rfl (by decide) (by simp)) _ [3, 4] rfl ((Sl.new (fr := (0, 0)) w _ [3, 4] rfl rfl (Nat.le_refl _) (by decide) (by decide)).below ((Below.refl _ _).alloc (Nat.le_refl _) _) (Nat.le_refl _)) (by decide) (by decide) (by simp; omega) ?_; intro v1 w1 hown1 hb1)
    go_ret
    exact ⟨_, rfl, hown1.sl (by decide), (((Below.refl _ _).alloc (Nat.le_refl _) _).alloc (by simp) _).trans hb1⟩
  · clear h
    go_enter Try.func67, Try.ntmps67
    go_wp2_with (at_builtin; refine appK Try.underlying140 info_fld rfl _ _ rfl w.heap.size _ [0, 1, 2] rfl (OwnK.newAt (w.alloc (.cells #[Value.int .i64 3, Value.int .i64 4] 142)) (w.heap.size + 1) (by simp) _ [0, 1, 2] rfl rfl (by decide) (by simp)) _ [3, 4] rfl ((Sl.new (fr := (0, 0)) w _ [3, 4] rfl rfl (Nat.le_refl _) (by decide) (by decide)).below ((Below.refl _ _).alloc (Nat.le_refl _) _) (Nat.le_refl _)) (by decide) (by decide) (by simp; omega) ?_; intro v1 w1 hown1 hb1)
    go_ret
    exact ⟨_, rfl, hown1.sl (by decide), (((Below.refl _ _).alloc (Nat.le_refl _) _).alloc (by simp) _).trans hb1⟩
  · clear h
    go_enter Try.func67, Try.ntmps67
    go_wp2
    go_ret
    exact ⟨_, rfl, Sl.new (fr := (0, 0)) w _ [3, 4, 5] rfl rfl (Nat.le_refl _) (by decide) (by decide), (Below.refl _ _).alloc (Nat.le_refl _) _⟩

def IdxOf (zs : List Int) (n : Int) (w : World) (e : Ending) (w' : World) : Prop := (∃ i : Int, e = .returned (.int .i64 i) ∧ decide (0 ≤ i) = decide (n ∈ zs)) ∧ w = w'
set_option maxHeartbeats 400000 in
theorem findex_any (v : Value) (zs : List Int) (n : Int) (w : World) (hs : Sl .i64 w v zs) :
    Calls Try.prog 79 #[v, .int .i64 n] w (IdxOf zs n w) := by
  rcases Nd.Sl.cases hs with ⟨a, cap, rfl, rfl⟩ | ⟨b, off, cap, rfl, h0, hlc, hcm, hlt, hc⟩
  · clear hs
    go_enter Try.func79, Try.ntmps79
    go_wp2
    refine wp_loop_rounds 1 ?_
    rw [rounds_succ]
    go_wp2
    go_ret
    exact ⟨⟨-1, rfl, by simp⟩, rfl⟩
  · have HC := Lib.hid hc
    clear hs hc
    go_enter Try.func79, Try.ntmps79
    go_wp2
    go_loop [8] (fun i => ∃ k : Nat, k ≤ zs.length ∧ i = .int .i64 k ∧ Hid (n ∉ zs.take k)) (fun i => zs.length - (intOf i).toNat)
    case atStart => exact ⟨0, Nat.zero_le _, rfl, Lib.hid (by simp)⟩
    case round =>
      obtain ⟨k, hk, rfl, HO⟩ := hrel
      by_cases hlt2 : k < zs.length
      · have hcx := HC.out k hlt2
        have HM := Lib.hid (Nd.mem_get hlt2)
        have HT := Lib.hid (Nd.take_get hlt2)
        generalize zs.getD k 0 = z at *
        by_cases hz : z = n
        · subst hz
          have HB := Lib.hid (decide_eq_true HM.out)
          go_wp2
          go_ret
          exact ⟨⟨k, rfl, by rw [HB.out]; simp⟩, rfl⟩
        · have hz2 : (n == z) = false := by rw [beq_eq_false_iff_ne]; exact fun h => hz h.symm
          have HO2 : Hid (n ∉ zs.take (k + 1)) := by
            refine Lib.hid ?_
            rw [HT.out, List.mem_append, List.mem_singleton]
            rintro (h | h)
            · exact HO.out h
            · exact hz h.symm
          clear hz
          go_wp2
          go_round
          case rel => exact ⟨k + 1, by omega, by go_num, HO2⟩
          case measure => simp [intOf]; omega
      · obtain rfl : k = zs.length := by omega
        have HO2 := HO.out
        rw [List.take_length] at HO2
        have HB := Lib.hid (decide_eq_false HO2)
        clear HO2
        go_wp2
        go_ret
        exact ⟨⟨-1, rfl, by rw [HB.out]; simp⟩, rfl⟩

set_option maxHeartbeats 400000 in
theorem fcontains_any (v : Value) (zs : List Int) (n : Int) (w : World) (hs : Sl .i64 w v zs) :
    Calls Try.prog 68 #[v, .int .i64 n] w fun e w' => e = .returned (.bool (decide (n ∈ zs))) ∧ w = w' := by
  go_enter Try.func68, Try.ntmps68
  go_wp2_with fail
  refine (findex_any _ _ _ _ hs).mono ?_
  rintro e w' ⟨⟨i, rfl, hi⟩, rfl⟩
  have HI := Lib.hid hi
  clear hi
  go_wp2
  all_goals (go_ret; exact ⟨ret_bool HI.out, rfl⟩)


/-! ### whether a field is right -/
def fitsF (c : Cmd) (f : Nat) : Bool :=
  match f with
  | 6 => Nd.chk c.nodes
  | 0 => decide (1 ≤ numF c 0 ∧ numF c 0 ≤ 7)
  | 3 => decide (1 ≤ numF c 3 ∧ numF c 3 ≤ 65535)
  | f => decide (1 ≤ numF c f)
theorem errOf_eq (b : Bool) : (Nd.errOf b == 0) = b := by cases b <;> rfl

set_option maxHeartbeats 400000 in
theorem fits_any (c : Cmd) (f : Nat) (hf : f ≤ 6) (v : Value) (w : World) (h : IsCmd w v c) :
    Calls Try.prog 69 #[v, .int .i64 f] w fun e w' => e = .returned (.bool (fitsF c f)) ∧ Below w.heap.size w w' := by
  have h' := h
  obtain ⟨vn, rfl, hsl, -⟩ := h'
  have hb0 : ∀ A, Below w.heap.size w (w.alloc (.cells A 58)) := fun A => (Below.refl _ _).alloc (Nat.le_refl _) _
  have HI := Lib.hid (h.below (hb0 #[.int .i64 c.kind, .int .i64 c.node, .int .i64 c.token, vn, .int .u64 c.boot, .int .u64 c.seq, .int .u64 c.serial, .int .u64 c.stamp]) (Nat.le_refl _))
  clear h
  have hn : (w.alloc (.cells #[.int .i64 c.kind, .int .i64 c.node, .int .i64 c.token, vn, .int .u64 c.boot, .int .u64 c.seq, .int .u64 c.serial, .int .u64 c.stamp] 58)).cell? ⟨w.heap.size, 3, none⟩ = some vn := by simp only [World.cell?, heap_alloc_new]; rfl
  have HN := Lib.hid hn
  clear hn
  have hb0' := hb0 #[.int .i64 c.kind, .int .i64 c.node, .int .i64 c.token, vn, .int .u64 c.boot, .int .u64 c.seq, .int .u64 c.serial, .int .u64 c.stamp]
  match f, hf with
  | 6, _ =>
    go_enter Try.func69, Try.ntmps69
    go_wp2_with (first
      | (go_at_call 70; refine (number_any c 6 (by decide) _ _ HI.out).mono ?_; rintro e w1 ⟨rfl, hb1⟩; have hc3 := (hb1.cell (p := ⟨w.heap.size, 3, none⟩) (by simp)).trans HN.out; have hs1 := (hsl.below hb0' (Nat.le_refl _)).below hb1 (Nat.le_refl _))
      | (go_at_call 80; refine (Nd.check_any _ _ _ hs1).mono ?_; rintro e w2 ⟨rfl, rfl⟩))
    go_ret
    exact ⟨ret_bool (errOf_eq _), hb0'.trans (hb1.mono (by simp))⟩
  | 0, _ =>
    go_enter Try.func69, Try.ntmps69
    go_wp2_with (go_at_call 70; refine (number_any c 0 (by decide) _ _ HI.out).mono ?_; rintro e w1 ⟨rfl, hb1⟩; generalize hz : numF c 0 = z at *)
    all_goals (go_ret; exact ⟨ret_bool (by first | (simp only [fitsF, hz]; done) | (simp only [fitsF, hz]; first | exact decide_eq_decide.2 (by omega) | exact (decide_eq_false (by omega)).symm | exact (decide_eq_true (by omega)).symm)), hb0'.trans (hb1.mono (by simp))⟩)
  | 1, _ =>
    go_enter Try.func69, Try.ntmps69
    go_wp2_with (go_at_call 70; refine (number_any c 1 (by decide) _ _ HI.out).mono ?_; rintro e w1 ⟨rfl, hb1⟩; generalize hz : numF c 1 = z at *)
    all_goals (go_ret; exact ⟨ret_bool (by first | (simp only [fitsF, hz]; done) | (simp only [fitsF, hz]; first | exact decide_eq_decide.2 (by omega) | exact (decide_eq_false (by omega)).symm | exact (decide_eq_true (by omega)).symm)), hb0'.trans (hb1.mono (by simp))⟩)
  | 2, _ =>
    go_enter Try.func69, Try.ntmps69
    go_wp2_with (go_at_call 70; refine (number_any c 2 (by decide) _ _ HI.out).mono ?_; rintro e w1 ⟨rfl, hb1⟩; generalize hz : numF c 2 = z at *)
    all_goals (go_ret; exact ⟨ret_bool (by first | (simp only [fitsF, hz]; done) | (simp only [fitsF, hz]; first | exact decide_eq_decide.2 (by omega) | exact (decide_eq_false (by omega)).symm | exact (decide_eq_true (by omega)).symm)), hb0'.trans (hb1.mono (by simp))⟩)
  | 3, _ =>
    go_enter Try.func69, Try.ntmps69
    go_wp2_with (go_at_call 70; refine (number_any c 3 (by decide) _ _ HI.out).mono ?_; rintro e w1 ⟨rfl, hb1⟩; generalize hz : numF c 3 = z at *)
    all_goals (go_ret; exact ⟨ret_bool (by first | (simp only [fitsF, hz]; done) | (simp only [fitsF, hz]; first | exact decide_eq_decide.2 (by omega) | exact (decide_eq_false (by omega)).symm | exact (decide_eq_true (by omega)).symm)), hb0'.trans (hb1.mono (by simp))⟩)
  | 4, _ =>
    go_enter Try.func69, Try.ntmps69
    go_wp2_with (go_at_call 70; refine (number_any c 4 (by decide) _ _ HI.out).mono ?_; rintro e w1 ⟨rfl, hb1⟩; generalize hz : numF c 4 = z at *)
    all_goals (go_ret; exact ⟨ret_bool (by first | (simp only [fitsF, hz]; done) | (simp only [fitsF, hz]; first | exact decide_eq_decide.2 (by omega) | exact (decide_eq_false (by omega)).symm | exact (decide_eq_true (by omega)).symm)), hb0'.trans (hb1.mono (by simp))⟩)
  | 5, _ =>
    go_enter Try.func69, Try.ntmps69
    go_wp2_with (go_at_call 70; refine (number_any c 5 (by decide) _ _ HI.out).mono ?_; rintro e w1 ⟨rfl, hb1⟩; generalize hz : numF c 5 = z at *)
    all_goals (go_ret; exact ⟨ret_bool (by first | (simp only [fitsF, hz]; done) | (simp only [fitsF, hz]; first | exact decide_eq_decide.2 (by omega) | exact (decide_eq_false (by omega)).symm | exact (decide_eq_true (by omega)).symm)), hb0'.trans (hb1.mono (by simp))⟩)
end Cm
end Go.Proofs.Ytgbblegcjladaaa
namespace Go.Proofs.Ytgbblegcjladaaa
open Go.ChangeShapes Go.WideShapes Go.ChangeAt Go.RowKit
set_option linter.unusedVariables false
set_option maxRecDepth 100000
namespace Cm

def okF (c : Cmd) (f : Nat) : Bool := if ((f : Nat) : Int) ∈ fieldsL c.kind then fitsF c f else numF c f == 0
def chkC (c : Cmd) : Bool := kindB c.kind && (List.range 7).all (okF c)
def cErr (b : Bool) : Int := if b then 0 else 40
theorem kindB_u64 {n : Int} (h : (Lit.int .i64 n).wf = true) : kindB (u64 n) = kindB n := by
  have := bounds_i64 h
  unfold kindB u64
  apply decide_eq_decide.2
  split <;> omega
theorem chk_no {c : Cmd} (h : kindB c.kind = false) : chkC c = false := by unfold chkC; rw [h]; rfl
theorem chk_bad {c : Cmd} {f : Nat} (hf : f < 7) (h : okF c f = false) : chkC c = false := by
  unfold chkC
  have : (List.range 7).all (okF c) = false := by
    rw [List.all_eq_false]
    exact ⟨f, List.mem_range.2 hf, by simp [h]⟩
  rw [this, Bool.and_false]
theorem chk_all {c : Cmd} (h : kindB c.kind = true) (h2 : ∀ g, g < 7 → okF c g = true) : chkC c = true := by
  unfold chkC
  rw [h, Bool.true_and, List.all_eq_true]
  exact fun g hg => h2 g (List.mem_range.1 hg)

set_option maxHeartbeats 1000000 in
theorem check_any (c : Cmd) (v : Value) (w : World) (h : IsCmd w v c) :
    Calls Try.prog 50 #[v] w fun e w' => e = .returned (.int .i64 (cErr (chkC c))) ∧ Below w.heap.size w w' := by
  have h' := h
  obtain ⟨vn, rfl, hsl, hw0, hw1, hw2, hw3, hw4, hw5, hw6⟩ := h'
  have hu := Lib.hid (u64_wrap hw0)
  have hkb := bounds_i64 hw0
  have hub : 0 ≤ u64 c.kind ∧ u64 c.kind ≤ 18446744073709551615 := by unfold u64; split <;> omega
  have HK := Lib.hid (kindB_u64 hw0)
  have HU := Lib.hid hub
  have hb0 : Below w.heap.size w (w.alloc (.cells #[.int .i64 c.kind, .int .i64 c.node, .int .i64 c.token, vn, .int .u64 c.boot, .int .u64 c.seq, .int .u64 c.serial, .int .u64 c.stamp] 58)) := (Below.refl _ _).alloc (Nat.le_refl _) _
  have hheap : (w.alloc (.cells #[.int .i64 c.kind, .int .i64 c.node, .int .i64 c.token, vn, .int .u64 c.boot, .int .u64 c.seq, .int .u64 c.serial, .int .u64 c.stamp] 58)).heap[w.heap.size]? = some (.cells #[.int .i64 c.kind, .int .i64 c.node, .int .i64 c.token, vn, .int .u64 c.boot, .int .u64 c.seq, .int .u64 c.serial, .int .u64 c.stamp] 58 (0, 0)) := heap_alloc_new _ _
  have HH := Lib.hid hheap
  have HB0 := Lib.hid hb0
  have HIC := Lib.hid (h.below hb0 (Nat.le_refl _))
  clear hb0 hheap h hw1 hw2 hw3 hw4 hw5 hw6 hub hkb hw0
  cases hkd : kindB c.kind
  · have HE := Lib.hid (chk_no hkd)
    have hk0 : kindB (u64 c.kind) = false := HK.out.trans hkd
    have Hk0 := Lib.hid hk0
    clear hkd hk0
    go_enter Try.func50, Try.ntmps50
    go_wp2_with (go_at_call 66; rw [hu.out]; refine (isKind_any _ _ HU.out.1 HU.out.2).mono ?_; rintro e w1 ⟨rfl, rfl⟩; rw [Hk0.out])
    go_ret
    exact ⟨by rw [HE.out]; rfl, HB0.out⟩
  · have hk0 : kindB (u64 c.kind) = true := HK.out.trans hkd
    have hk16 : 1 ≤ c.kind ∧ c.kind ≤ 6 := of_decide_eq_true hkd
    have Hk0 := Lib.hid hk0
    have HKD := Lib.hid hkd
    have H16 := Lib.hid hk16
    clear hkd hk0 hk16
    go_enter Try.func50, Try.ntmps50
    go_wp2_with (first
      | (go_at_call 66; rw [hu.out]; refine (isKind_any _ _ HU.out.1 HU.out.2).mono ?_; rintro e w1 ⟨rfl, rfl⟩; rw [Hk0.out])
      | (go_at_call 67; refine (fields_any _ _ H16.out).mono ?_; rintro e w1 ⟨v1, rfl, hs1, hb1⟩))
    have hh1 : w1.heap[w.heap.size]? = some (.cells #[.int .i64 c.kind, .int .i64 c.node, .int .i64 c.token, vn, .int .u64 c.boot, .int .u64 c.seq, .int .u64 c.serial, .int .u64 c.stamp] 58 (0, 0)) := (hb1.block _ (by simp)).trans HH.out
    have hic1 := HIC.out.below hb1 (Nat.le_refl _)
    have hB1 : Below w.heap.size w w1 := HB0.out.trans (hb1.mono (by simp))
    have hlt1 : w.heap.size < w1.heap.size := by have := hb1.size; simp at this; omega
    have HH1 := Lib.hid hh1
    clear hh1 hb1
    go_loopw [4] (fun f wr => ∃ k : Nat, k ≤ 7 ∧ f = .int .i64 k ∧ Below w1.heap.size w1 wr ∧ Hid (∀ g, g < k → okF c g = true)) (fun f _ => 7 - (intOf f).toNat)
    case atStart => exact ⟨0, by omega, rfl, Below.refl _ _, Lib.hid (fun g hg => absurd hg (by omega))⟩
    case round =>
      obtain ⟨k, hk, rfl, hb, HO⟩ := hrel
      have hhr := (hb.block _ hlt1).trans HH1.out
      have hsr := hs1.below hb (Nat.le_refl _)
      have hicr := hic1.below hb (Nat.le_refl _)
      by_cases hk6 : k ≤ 6
      · have hk6' : (k : Int) ≤ 6 := by omega
        by_cases hin : (k : Int) ∈ fieldsL c.kind
        · have HIN := Lib.hid (decide_eq_true hin)
          cases hfit : fitsF c k
          · have HE := Lib.hid (chk_bad (c := c) (f := k) (by omega) (by unfold okF; rw [if_pos hin, hfit]))
            have HF := Lib.hid hfit
            clear hin hfit
            go_wp2_with (first
              | (go_at_call 68; refine (fcontains_any _ _ _ _ hsr).mono ?_; rintro e w2 ⟨rfl, rfl⟩; rw [HIN.out])
              | (go_at_call 69; refine (fits_any c k hk6 _ _ hicr).mono ?_; rintro e w3 ⟨rfl, hb3⟩; rw [HF.out])
              | (refine wpList_load_row rfl 58 (.tmp 1) rfl w.heap.size rfl 58 #[.int .i64 c.kind, .int .i64 c.node, .int .i64 c.token, vn, .int .u64 c.boot, .int .u64 c.seq, .int .u64 c.serial, .int .u64 c.stamp] (0, 0) _ hhr Try.underlying58 rfl (by kernel_rfl) ?_))
            go_ret
            exact ⟨by rw [HE.out]; rfl, (hB1.trans (hb.mono hB1.size)).trans (hb3.mono (Nat.le_trans hB1.size hb.size))⟩
          · have hO : ∀ g, g < k + 1 → okF c g = true := fun g hg => by
              rcases Nat.lt_or_ge g k with h | h
              · exact HO.out g h
              · obtain rfl : g = k := by omega
                unfold okF; rw [if_pos hin, hfit]
            have HF := Lib.hid hfit
            have HO2 := Lib.hid hO
            clear hin hfit hO
            go_wp2_with (first
              | (go_at_call 68; refine (fcontains_any _ _ _ _ hsr).mono ?_; rintro e w2 ⟨rfl, rfl⟩; rw [HIN.out])
              | (go_at_call 69; refine (fits_any c k hk6 _ _ hicr).mono ?_; rintro e w3 ⟨rfl, hb3⟩; rw [HF.out])
              | (refine wpList_load_row rfl 58 (.tmp 1) rfl w.heap.size rfl 58 #[.int .i64 c.kind, .int .i64 c.node, .int .i64 c.token, vn, .int .u64 c.boot, .int .u64 c.seq, .int .u64 c.serial, .int .u64 c.stamp] (0, 0) _ hhr Try.underlying58 rfl (by kernel_rfl) ?_))
            go_roundw
            case rel => exact ⟨k + 1, by omega, by go_num, hb.trans (hb3.mono hb.size), HO2⟩
            case measure => simp [intOf]; omega
        · have HIN := Lib.hid (decide_eq_false hin)
          by_cases hz : numF c k = 0
          · have hO : ∀ g, g < k + 1 → okF c g = true := fun g hg => by
              rcases Nat.lt_or_ge g k with h | h
              · exact HO.out g h
              · obtain rfl : g = k := by omega
                unfold okF; rw [if_neg hin, hz]; rfl
            have hz2 : (numF c k != 0) = false := by rw [hz]; rfl
            have HO2 := Lib.hid hO
            clear hin hz hO
            go_wp2_with (first
              | (go_at_call 68; refine (fcontains_any _ _ _ _ hsr).mono ?_; rintro e w2 ⟨rfl, rfl⟩; rw [HIN.out])
              | (go_at_call 70; refine (number_any c k hk6 _ _ hicr).mono ?_; rintro e w3 ⟨rfl, hb3⟩)
              | (refine wpList_load_row rfl 58 (.tmp 1) rfl w.heap.size rfl 58 #[.int .i64 c.kind, .int .i64 c.node, .int .i64 c.token, vn, .int .u64 c.boot, .int .u64 c.seq, .int .u64 c.serial, .int .u64 c.stamp] (0, 0) _ hhr Try.underlying58 rfl (by kernel_rfl) ?_))
            go_roundw
            case rel => exact ⟨k + 1, by omega, by go_num, hb.trans (hb3.mono hb.size), HO2⟩
            case measure => simp [intOf]; omega
          · have HE := Lib.hid (chk_bad (c := c) (f := k) (by omega) (by unfold okF; rw [if_neg hin]; simpa using hz))
            have hz2 : (numF c k != 0) = true := by rw [bne_iff_ne]; exact hz
            clear hin hz
            go_wp2_with (first
              | (go_at_call 68; refine (fcontains_any _ _ _ _ hsr).mono ?_; rintro e w2 ⟨rfl, rfl⟩; rw [HIN.out])
              | (go_at_call 70; refine (number_any c k hk6 _ _ hicr).mono ?_; rintro e w3 ⟨rfl, hb3⟩)
              | (refine wpList_load_row rfl 58 (.tmp 1) rfl w.heap.size rfl 58 #[.int .i64 c.kind, .int .i64 c.node, .int .i64 c.token, vn, .int .u64 c.boot, .int .u64 c.seq, .int .u64 c.serial, .int .u64 c.stamp] (0, 0) _ hhr Try.underlying58 rfl (by kernel_rfl) ?_))
            go_ret
            exact ⟨by rw [HE.out]; rfl, (hB1.trans (hb.mono hB1.size)).trans (hb3.mono (Nat.le_trans hB1.size hb.size))⟩
      · obtain rfl : k = 7 := by omega
        have HE := Lib.hid (chk_all HKD.out HO.out)
        clear hhr hsr hicr
        go_wp2
        go_ret
        exact ⟨by rw [HE.out]; rfl, hB1.trans (hb.mono hB1.size)⟩
end Cm
end Go.Proofs.Ytgbblegcjladaaa
namespace Go.Proofs.Ytgbblegcjladaaa
open Go.ChangeShapes Go.WideShapes Go.ChangeAt Go.RowKit
set_option linter.unusedVariables false
set_option maxRecDepth 100000
namespace Cm

def fieldS (k : Int) : ByteArray := if k = 1 then ⟨#[]⟩ else if k = 2 then ⟨#[108]⟩ else if k = 3 then ⟨#[110, 98, 113]⟩ else if k = 4 then ⟨#[110, 98, 113, 116, 115]⟩ else if k = 5 then ⟨#[110, 98, 113, 116, 115]⟩ else if k = 6 then ⟨#[116, 115, 109]⟩ else ⟨#[]⟩

theorem ret_sb {s t : ByteArray} {a b : Bool} (h : s = t) (h2 : a = b) : Ending.returned (.tuple #[.string s, .bool a]) = .returned (.tuple #[.string t, .bool b]) := by rw [h, h2]
set_option maxHeartbeats 400000 in
theorem rfields_any (k : Int) (w : World) :
    Calls Try.prog 71 #[.int .i64 k] w fun e w' => e = .returned (.tuple #[.string (fieldS k), .bool (kindB k)]) ∧ w = w' := by
  by_cases h : 1 ≤ k ∧ k ≤ 6
  · rcases (show k = 1 ∨ k = 2 ∨ k = 3 ∨ k = 4 ∨ k = 5 ∨ k = 6 by omega) with rfl | rfl | rfl | rfl | rfl | rfl
    all_goals
      clear h
      go_enter Try.func71, Try.ntmps71
      go_wp2
      go_ret2
      exact ⟨rfl, rfl⟩
  · have h1 : (k == 1) = false := beq_eq_false_iff_ne.2 (by omega)
    have h2 : (k == 2) = false := beq_eq_false_iff_ne.2 (by omega)
    have h3 : (k == 3) = false := beq_eq_false_iff_ne.2 (by omega)
    have h4 : (k == 4) = false := beq_eq_false_iff_ne.2 (by omega)
    have h5 : (k == 5) = false := beq_eq_false_iff_ne.2 (by omega)
    have h6 : (k == 6) = false := beq_eq_false_iff_ne.2 (by omega)
    have hs : fieldS k = ⟨#[]⟩ := by unfold fieldS; rw [if_neg (by omega), if_neg (by omega), if_neg (by omega), if_neg (by omega), if_neg (by omega), if_neg (by omega)]
    have hk : kindB k = false := decide_eq_false h
    have HS := Lib.hid hs
    have HK := Lib.hid hk
    clear h hs hk
    go_enter Try.func71, Try.ntmps71
    go_wp2
    go_ret2
    exact ⟨ret_sb HS.out.symm HK.out.symm, rfl⟩

def sbs (s : ByteArray) : List Int := s.data.toList.map fun b => (b.toNat : Int)
def hasB (s : ByteArray) (c : Int) : Bool := decide (c ∈ sbs s)
theorem sbs_length (s : ByteArray) : (sbs s).length = s.size := by unfold sbs; rw [List.length_map, Array.length_toList]; rfl
theorem sbs_get (s : ByteArray) (k : Nat) (h : k < s.size) : (sbs s).getD k 0 = (s[k].toNat : Int) := by
  unfold sbs
  simp only [List.getD, List.getElem?_map]
  have : s.data.toList[k]? = some s[k] := by
    rw [Array.getElem?_toList]
    exact Array.getElem?_eq_getElem h
  rw [this]; rfl

set_option maxHeartbeats 400000 in
theorem rhas_any (s : ByteArray) (c : Int) (hs : s.size ≤ 1000) (w : World) :
    Calls Try.prog 73 #[.string s, .int .u8 c] w fun e w' => e = .returned (.bool (hasB s c)) ∧ w = w' := by
  go_enter Try.func73, Try.ntmps73
  go_wp2
  go_loop [5] (fun i => ∃ k : Nat, k ≤ s.size ∧ i = .int .i64 k ∧ Hid (c ∉ (sbs s).take k)) (fun i => s.size - (intOf i).toNat)
  case atStart => exact ⟨0, Nat.zero_le _, rfl, Lib.hid (by simp)⟩
  case round =>
    obtain ⟨k, hk, rfl, HO⟩ := hrel
    by_cases hlt : k < s.size
    · have hg := sbs_get s k hlt
      have HM := Lib.hid (Nd.mem_get (l := sbs s) (k := k) (by rw [sbs_length]; exact hlt))
      have HT := Lib.hid (Nd.take_get (l := sbs s) (k := k) (by rw [sbs_length]; exact hlt))
      rw [hg] at HM HT
      clear hg
      by_cases hz : (s[k].toNat : Int) = c
      · have HB : Hid (hasB s c = true) := Lib.hid (decide_eq_true (by rw [← hz]; exact HM.out))
        have hz2 : ((s[k].toNat : Int) == c) = true := beq_iff_eq.2 hz
        clear hz
        go_wp2
        go_ret
        exact ⟨ret_bool HB.out.symm, rfl⟩
      · have HO2 : Hid (c ∉ (sbs s).take (k + 1)) := by
          refine Lib.hid ?_
          rw [HT.out, List.mem_append, List.mem_singleton]
          rintro (h | h)
          · exact HO.out h
          · exact hz h.symm
        have hz2 : ((s[k].toNat : Int) == c) = false := beq_eq_false_iff_ne.2 hz
        clear hz
        go_wp2
        go_round
        case rel => exact ⟨k + 1, by omega, by go_num, HO2⟩
        case measure => simp [intOf]; omega
    · obtain rfl : k = s.size := by omega
      have HO2 := HO.out
      rw [← sbs_length, List.take_length] at HO2
      have HB : Hid (hasB s c = false) := Lib.hid (decide_eq_false HO2)
      clear HO2
      go_wp2
      go_ret
      exact ⟨ret_bool HB.out.symm, rfl⟩

def rightB (b : Bool) (n m : Int) : Bool := if b then decide (1 ≤ n ∧ n ≤ m) else n == 0
set_option maxHeartbeats 400000 in
theorem rright_any (b : Bool) (n m : Int) (w : World) :
    Calls Try.prog 72 #[.bool b, .int .u64 n, .int .u64 m] w fun e w' => e = .returned (.bool (rightB b n m)) ∧ w = w' := by
  cases b
  · go_enter Try.func72, Try.ntmps72
    go_wp2
    go_ret
    exact ⟨rfl, rfl⟩
  · go_enter Try.func72, Try.ntmps72
    go_wp2
    all_goals (go_ret; exact ⟨ret_bool (by unfold rightB; rw [if_pos rfl]; first | exact decide_eq_decide.2 (by omega) | exact (decide_eq_false (by omega)).symm), rfl⟩)
end Cm
end Go.Proofs.Ytgbblegcjladaaa
namespace Go.Proofs.Ytgbblegcjladaaa
open Go.ChangeShapes Go.WideShapes Go.ChangeAt Go.RowKit
set_option linter.unusedVariables false
set_option maxRecDepth 100000
namespace Cm

theorem quiet_mine {P : Program} {f : FuncId} {args : Array Value} {w : World} {n : Nat} {v : Value}
    (h : Calls P f args (w.drewN n) fun e w' => e = .returned v ∧ w.drewN n = w') : Calls P f args (w.drewN n) fun e w'' => e = .returned v ∧ ∃ m, w'' = w.drewN m :=
  h.mono fun _ _ ⟨he, hm⟩ => ⟨he, n, hm.symm⟩

theorem fieldS_small (k : Int) : (fieldS k).size ≤ 1000 := by
  unfold fieldS
  repeat' split
  all_goals decide

def listB (c : Cmd) : Bool := if hasB (fieldS c.kind) 108 then Nd.chk c.nodes else c.nodes.isEmpty
def rchk (c : Cmd) : Bool := kindB c.kind && (!decide (c.node < 0) && (!decide (c.token < 0) && (rightB (hasB (fieldS c.kind) 110) c.node 7 && (rightB (hasB (fieldS c.kind) 116) c.token 65535 && (rightB (hasB (fieldS c.kind) 98) c.boot 18446744073709551615 && (rightB (hasB (fieldS c.kind) 113) c.seq 18446744073709551615 && (rightB (hasB (fieldS c.kind) 115) c.serial 18446744073709551615 && (rightB (hasB (fieldS c.kind) 109) c.stamp 18446744073709551615 && listB c))))))))

theorem len_zero (l : List Int) : ((l.length : Int) == 0) = l.isEmpty := by
  cases l with
  | nil => rfl
  | cons a l => simp; omega

end Cm
end Go.Proofs.Ytgbblegcjladaaa
namespace Go.Proofs.Ytgbblegcjladaaa
open Go.ChangeShapes Go.WideShapes Go.ChangeAt Go.RowKit
set_option linter.unusedVariables false
set_option maxRecDepth 100000
set_option linter.unusedSimpArgs false
namespace Cm

theorem all7 (p : Nat → Bool) : (List.range 7).all p = (p 0 && (p 1 && (p 2 && (p 3 && (p 4 && (p 5 && p 6)))))) := by simp [List.range, List.range.loop]
theorem u64_pos {n : Int} (h : 0 ≤ n) : u64 n = n := by unfold u64; rw [if_pos h]
theorem u64_neg {n : Int} (h : n < 0) : u64 n = n + 18446744073709551616 := by unfold u64; rw [if_neg (by omega)]

theorem rchk_eq {c : Cmd} (h : c.wf) : rchk c = chkC c := by
  obtain ⟨h0, h1, h2, h3, h4, h5, h6⟩ := h
  have b1 := bounds_i64 h1
  have b2 := bounds_i64 h2
  have b3 := bounds_u64 h3
  have b4 := bounds_u64 h4
  have b5 := bounds_u64 h5
  have b6 := bounds_u64 h6
  clear h0 h1 h2 h3 h4 h5 h6
  obtain ⟨kind, node, token, nodes, boot, seq, serial, stamp⟩ := c
  simp only [] at b1 b2 b3 b4 b5 b6
  by_cases hk : 1 ≤ kind ∧ kind ≤ 6
  · have hkb : kindB kind = true := decide_eq_true hk
    unfold rchk chkC
    rw [all7]
    simp only [hkb, Bool.true_and]
    by_cases hn : node < 0
    · have e0 : okF ⟨kind, node, token, nodes, boot, seq, serial, stamp⟩ 0 = false := by
        simp only [okF, fitsF, numF, u64_neg hn]
        split
        · exact decide_eq_false (by omega)
        · exact beq_eq_false_iff_ne.2 (by omega)
      rw [e0, decide_eq_true hn]; rfl
    by_cases ht : token < 0
    · have e3 : okF ⟨kind, node, token, nodes, boot, seq, serial, stamp⟩ 3 = false := by
        simp only [okF, fitsF, numF, u64_neg ht]
        split
        · exact decide_eq_false (by omega)
        · exact beq_eq_false_iff_ne.2 (by omega)
      rw [e3, decide_eq_true ht, decide_eq_false hn]; simp
    rw [decide_eq_false hn, decide_eq_false ht]
    simp only [okF, fitsF, numF, u64_pos (show 0 ≤ node by omega), u64_pos (show 0 ≤ token by omega), Bool.not_false, Bool.true_and, listB]
    rw [len_zero]
    rcases (show kind = 1 ∨ kind = 2 ∨ kind = 3 ∨ kind = 4 ∨ kind = 5 ∨ kind = 6 by omega) with rfl | rfl | rfl | rfl | rfl | rfl
    all_goals
      simp [fieldsL, fieldS, hasB, sbs, rightB]
      try simp only [b3.2, b4.2, b5.2, b6.2, decide_true, Bool.and_true]
      try ac_rfl
  · have hkb : kindB kind = false := decide_eq_false hk
    unfold rchk chkC
    simp only [hkb, Bool.false_and]
end Cm
end Go.Proofs.Ytgbblegcjladaaa
