/- A new reader, what is left, whether it is broken; the example. No condition. -/
import Derived.Test.YtebgkjcemngihaaStD
import Derived.Lib.SlBytesConst
namespace Go.Proofs.Ytebgkjcemngihaa
open Go.ChangeShapes Go.WideShapes Go.ChangeAt Go.RowKit
set_option linter.unusedVariables false
set_option maxRecDepth 100000
namespace St
theorem sl_row {k : IntKind} {w : World} {b n c : Nat} {t : TypeId} {fr : Nat × Nat} (zs : List Int) {cs : Array Value} (h : w.heap[b]? = some (.cells cs t fr)) (hcs : cs = (zs.map (Value.int k)).toArray) (hn : n = zs.length) (hc : n ≤ c) (hm : c ≤ maxLen) (hw : ∀ x ∈ zs, (Lit.int k x).wf = true) : Sl k w (.slice (some ⟨b, 0, none⟩) n c) zs := by
  subst hn; subst hcs
  refine ⟨_, c, rfl, hc, hm, hw, .inr ⟨b, 0, none, rfl, .inr ⟨rfl, (Array.getElem?_eq_some_iff.1 h).1, fun i hi => ?_⟩⟩⟩
  rw [Nat.zero_add, cell_of_row w b i _ _ _ h]
  simp [List.getElem?_eq_getElem hi, List.getD]
theorem new_any (w : World) : Calls Try.prog 12 #[] w fun e w' => e = .returned (.pointer (some ⟨w.heap.size, 0, none⟩)) ∧ w' = w.alloc (.cells #[.int .i64 0, .int .i64 0, .slice none 0 0] 61) := by
  go_enter Try.func12, Try.ntmps12
  go_wp2
  go_ret
  exact ⟨rfl, rfl⟩
theorem rdr_new {B : Nat} (w : World) (hB : B ≤ w.heap.size) : Rdr B (w.alloc (.cells #[.int .i64 0, .int .i64 0, .slice none 0 0] 61)) w.heap.size zero none :=
  ⟨.slice none 0 0, heap_alloc_new _ _, Own.nil _ _, rfl, by simp, hB⟩
def leftV (s : Rst) : Int := if s.st = 1 then 1 else if s.st = 2 then 2 + s.text.length else 0
set_option maxHeartbeats 2000000 in
theorem left_any (B g : Nat) (s : Rst) (S : Option Nat) (w : World) (h : Rdr B w g s S) (hok : okR s) : Calls Try.prog 19 #[.pointer (some ⟨g, 0, none⟩)] w fun e w' => e = .returned (.int .i64 (leftV s)) ∧ w = w' := by
  obtain ⟨vt, k1, k2, hS, h4, h5⟩ := id h
  obtain ⟨h1, -, -, h48, hwf, -, -⟩ := hok
  obtain ⟨av, cv, rfl, -⟩ := k2.sl hwf
  obtain ⟨d0, d1, d2, -, -, -⟩ := cells3 k1
  clear h k1 k2 hS h4 h5 hwf
  rcases h1 with q | q | q | q
  · have HE : Hid ((0 : Int) = leftV s) := Lib.hid (by unfold leftV; rw [if_neg (by omega), if_neg (by omega)])
    rw [q] at d0; clear q
    go_enter Try.func19, Try.ntmps19
    go_wp2
    go_ret
    exact ⟨ret_int HE.out, rfl⟩
  · have HE : Hid ((1 : Int) = leftV s) := Lib.hid (by unfold leftV; rw [if_pos q])
    rw [q] at d0; clear q
    go_enter Try.func19, Try.ntmps19
    go_wp2
    go_ret
    exact ⟨ret_int HE.out, rfl⟩
  · have HE : Hid ((2 : Int) + s.text.length = leftV s) := Lib.hid (by unfold leftV; rw [if_neg (by omega), if_pos q])
    rw [q] at d0; clear q
    go_enter Try.func19, Try.ntmps19
    go_wp2
    go_ret
    exact ⟨ret_int HE.out, rfl⟩
  · have HE : Hid ((0 : Int) = leftV s) := Lib.hid (by unfold leftV; rw [if_neg (by omega), if_neg (by omega)])
    rw [q] at d0; clear q
    go_enter Try.func19, Try.ntmps19
    go_wp2
    go_ret
    exact ⟨ret_int HE.out, rfl⟩
set_option maxHeartbeats 2000000 in
theorem broken_any (B g : Nat) (s : Rst) (S : Option Nat) (w : World) (h : Rdr B w g s S) : Calls Try.prog 18 #[.pointer (some ⟨g, 0, none⟩)] w fun e w' => e = .returned (.bool (decide (s.st = 3))) ∧ w = w' := by
  obtain ⟨vt, k1, -⟩ := h
  obtain ⟨d0, d1, d2, -, -, -⟩ := cells3 k1
  clear k1
  by_cases q : s.st = 3
  · have HE : Hid (true = decide (s.st = 3)) := Lib.hid (by simp [q])
    rw [q] at d0; clear q
    go_enter Try.func18, Try.ntmps18
    go_wp2
    go_ret
    exact ⟨ret_bool HE.out, rfl⟩
  · have HE : Hid (false = decide (s.st = 3)) := Lib.hid (by simp [q])
    have e : (s.st == 3) = false := beq_eq_false_iff_ne.2 q
    clear q
    go_enter Try.func18, Try.ntmps18
    go_wp2
    go_ret
    exact ⟨ret_bool HE.out, rfl⟩
/-- a feed of bytes that lie in a block of their own -/
theorem feed_row (B g b n c : Nat) (s : Rst) (S : Option Nat) (bs : List Int) {cs : Array Value} {t : TypeId} {fr : Nat × Nat} (w : World) (h : Rdr B w g s S) (hok : okR s) (hr : w.heap[b]? = some (.cells cs t fr)) (hcs : cs = (bs.map (Value.int .u8)).toArray) (hn : n = bs.length) (hc : n ≤ c) (hm : c ≤ maxLen) (hw : ∀ x ∈ bs, (Lit.int .u8 x).wf = true) (hg : b ≠ g) (hS : S ≠ some b) (hl : bs.length ≤ 1000000) :
    Calls Try.prog 15 #[.pointer (some ⟨g, 0, none⟩), .slice (some ⟨b, 0, none⟩) n c] w (FeedR B g s S bs w) :=
  feed_any B g s S bs _ w h hok (fun w' hf => sl_row bs ((hf.2 b (Array.getElem?_eq_some_iff.1 hr).1 hg (fun e => hS e.symm)).trans hr) hcs hn hc hm hw) hl
theorem ex1 : runV zero [66, 81] = ([⟨66, ⟨#[]⟩⟩], ⟨1, 0, []⟩) := rfl
theorem ex2 : runV ⟨1, 0, []⟩ [2, 104] = ([], ⟨2, 2, [104]⟩) := rfl
theorem ex3 : runV ⟨2, 2, [104]⟩ [105, 69] = ([⟨81, ⟨#[104, 105]⟩⟩, ⟨69, ⟨#[]⟩⟩], zero) := by
  have e : strOfNums [104, 105] = ⟨#[104, 105]⟩ := by kernel_rfl
  rw [← e]; rfl
theorem ex4 : runV zero [120] = ([], ⟨3, 0, []⟩) := rfl
theorem ok2 : okR ⟨1, 0, []⟩ := by unfold okR; simp
theorem ok3 : okR ⟨2, 2, [104]⟩ := by unfold okR; simp; decide
set_option maxHeartbeats 8000000 in
theorem live_any (w : World) : Calls Try.prog 11 #[] w fun e w' => e = .returned (.bool true) ∧ Below w.heap.size w w' := by
  have HRN := Lib.hid (rdr_new (B := w.heap.size) w (Nat.le_refl _))
  have kc := fun (w : World) (C : Array Value) (n c : Nat) => Lib.run_convert_bytes_const (P := Try.prog) w 37 5 C n c Try.underlying37 Try.underlying5
  have hE1 := Lib.hid ex1
  have hE2 := Lib.hid ex2
  have hE3 := Lib.hid ex3
  have hE4 := Lib.hid ex4
  have HB1 : Hid (Below w.heap.size w (w.alloc (.cells #[.int .i64 0, .int .i64 0, .slice none 0 0] 61))) := Lib.hid ((Below.refl _ _).alloc (Nat.le_refl _) _)
  go_enter Try.func11, Try.ntmps11
  go_wp2_with fail
  refine (new_any w).mono ?_
  rintro e w1 ⟨rfl, rfl⟩
  generalize hW1 : w.alloc (.cells #[.int .i64 0, .int .i64 0, .slice none 0 0] 61) = W1 at HRN HB1
  have HZ1 : Hid (w.heap.size < W1.heap.size) := Lib.hid HRN.out.lt
  clear hW1
  go_wp2_with fail
  refine (feed_row (cs := #[.int .u8 66, .int .u8 81]) (t := 5) w.heap.size w.heap.size W1.heap.size 2 2 zero none [66, 81] _ (HRN.out.alloc _) ok_zero (heap_alloc_new _ _) rfl rfl (by decide) (by decide) (by decide) (by have := HZ1.out; omega) (by simp) (by decide)).mono ?_
  rintro e w2 ⟨S2, v2, rfl, r2, n2, f2, o2, d2⟩
  rw [hE1.out] at r2 o2
  obtain ⟨a2, c2, rfl, -⟩ := o2.sl frmC_len
  have R2 := Lib.hid r2
  have HB2 := Lib.hid ((HB1.out.alloc (Nat.le_of_lt HZ1.out) _).trans f2.1)
  clear r2 n2 f2 o2 d2
  go_wp2_with fail
  refine (left_any _ _ _ _ _ R2.out ok2).mono ?_
  rintro e w3 ⟨rfl, rfl⟩
  go_wp2_with fail
  refine (feed_row (cs := #[.int .u8 2, .int .u8 104]) (t := 5) w.heap.size w.heap.size w2.heap.size 2 2 ⟨1, 0, []⟩ S2 [2, 104] _ (R2.out.alloc _) ok2 (heap_alloc_new _ _) rfl rfl (by decide) (by decide) (by decide) (by have := R2.out.lt; omega) (by intro q; have := (R2.out.ltS _ q).2; omega) (by decide)).mono ?_
  rintro e w3 ⟨S3, v3, rfl, r3, n3, f3, o3, d3⟩
  rw [hE2.out] at r3 o3
  obtain ⟨a3, c3, rfl, -⟩ := o3.sl frmC_len
  have R3 := Lib.hid r3
  have HB3 := Lib.hid ((HB2.out.alloc HB2.out.size _).trans f3.1)
  clear r3 n3 f3 o3 d3
  go_wp2_with fail
  refine (feed_row (cs := #[.int .u8 105, .int .u8 69]) (t := 5) w.heap.size w.heap.size w3.heap.size 2 2 ⟨2, 2, [104]⟩ S3 [105, 69] _ (R3.out.alloc _) ok3 (heap_alloc_new _ _) rfl rfl (by decide) (by decide) (by decide) (by have := R3.out.lt; omega) (by intro q; have := (R3.out.ltS _ q).2; omega) (by decide)).mono ?_
  rintro e w4 ⟨S4, v4, rfl, r4, n4, f4, o4, d4⟩
  rw [hE3.out] at r4 o4
  have R4 := Lib.hid r4
  have O4 := Lib.hid o4
  have D4 := Lib.hid d4
  have HB4 := Lib.hid ((HB3.out.alloc HB3.out.size _).trans f4.1)
  rcases o4.2 with ⟨hv4, h0⟩ | ⟨q4, cap4, cur4, hv4, -⟩
  · cases h0
  · subst hv4
    clear r4 n4 f4 o4 d4
    go_wp2_with fail
    refine (feed_row (cs := #[.int .u8 120]) (t := 5) w.heap.size w.heap.size w4.heap.size 1 1 zero S4 [120] _ (R4.out.alloc _) ok_zero (heap_alloc_new _ _) rfl rfl (by decide) (by decide) (by decide) (by have := R4.out.lt; omega) (by intro q; have := (R4.out.ltS _ q).2; omega) (by decide)).mono ?_
    rintro e w5 ⟨S5, v5, rfl, r5, n5, f5, o5, d5⟩
    rw [hE4.out] at r5 o5
    obtain ⟨a5, c5, rfl, -⟩ := o5.sl frmC_len
    have R5 := Lib.hid r5
    have HB5 := Lib.hid ((HB4.out.alloc HB4.out.size _).trans f5.1)
    have hlt4 := (World.ownsRow.lt O4.out q4 rfl).2
    have o6 := ownR_same O4.out (w' := w5) (fun q hq => by
      have hlt := (World.ownsRow.lt O4.out q hq).2
      exact (f5.2 q (by simp; omega) (D4.out q hq).1 (fun e => (D4.out q hq).2 e.symm)).trans (heap_alloc_old _ _ hlt))
    have g0 := World.ownsRow.cells o6 (g := q4) rfl 0 (.int .u8 81) rfl
    have g1 := World.ownsRow.cells o6 (g := q4) rfl 1 (.string ⟨#[104, 105]⟩) rfl
    have g2 := World.ownsRow.cells o6 (g := q4) rfl 2 (.int .u8 69) rfl
    rw [add_plain] at g0 g1 g2
    clear r5 n5 f5 o5 d5 o6 hlt4
    go_wp2_with fail
    refine (broken_any _ _ _ _ _ R5.out).mono ?_
    rintro e w6 ⟨rfl, rfl⟩
    go_wp2
    go_ret
    exact ⟨rfl, HB5.out⟩
end St
end Go.Proofs.Ytebgkjcemngihaa
