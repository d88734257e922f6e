/- Whether two ledgers are the same, where both are one ledger. No condition. Whether two snapshots are the same, where both are one. No condition. -/
import Derived.Test.YtgbblegcjladaaaLcM
import Derived.Deep.QuietTactic
import Derived.BigQuiet
import Derived.Test.YtgbblegcjladaaaShC
namespace Go.Proofs.Ytgbblegcjladaaa
open Go.ChangeShapes Go.WideShapes Go.ChangeAt Go.RowKit
set_option linter.unusedVariables false
set_option maxRecDepth 100000
namespace Ld
theorem box2_cells {w wr : World} {l m : Led} {vh vl uh ul : Value} (hb : Below (w.heap.size + 2) ((w.alloc (.cells (lArr l vh vl) 35)).alloc (.cells (lArr m uh ul) 35)) wr) :
    (wr.cell? ⟨w.heap.size, 2, none⟩ = some vh ∧ wr.cell? ⟨w.heap.size, 3, none⟩ = some vl) ∧ wr.cell? ⟨w.heap.size + 1, 2, none⟩ = some uh ∧ wr.cell? ⟨w.heap.size + 1, 3, none⟩ = some ul := by
  have h := (hb.block w.heap.size (by omega)).trans (heap_alloc2_old _ _ _)
  have g := (hb.block (w.heap.size + 1) (by omega)).trans (heap_alloc2_new _ _ _)
  exact ⟨⟨row2 h, row3 h⟩, row2 g, row3 g⟩
theorem box2_below {w wr : World} {o o2 : Obj} (hb : Below (w.heap.size + 2) ((w.alloc o).alloc o2) wr) : Below w.heap.size w wr :=
  (((Below.refl _ _).alloc (Nat.le_refl _) _).alloc (by simp) _).trans (hb.mono (by omega))

set_option maxHeartbeats 2000000 in
theorem same_any (l : Led) (v u : Value) (w : World) (h : IsLed w v l) (g : IsLed w u l) :
    Calls Try.prog 20 #[v, u] w fun e w' => e = .returned (.bool true) ∧ Below w.heap.size w w' := by
  obtain ⟨vh, vl, rfl, hh, hl, hwf⟩ := h
  obtain ⟨uh, ul, rfl, gh, gl, -⟩ := g
  clear hwf
  obtain ⟨a1, p1, rfl, q1, q2, q3⟩ := hh
  obtain ⟨a2, p2, rfl, q4, q5, q6⟩ := hl
  obtain ⟨a3, p3, rfl, q7, q8, q9⟩ := gh
  obtain ⟨a4, p4, rfl, r1, r2, r3⟩ := gl
  unfold maxLen at q2 q5 q8 r2
  have Q3 := Lib.hid q3
  have Q6 := Lib.hid q6
  have Q9 := Lib.hid q9
  have R3 := Lib.hid r3
  clear q3 q6 q9 r3
  go_enter Try.func20, Try.ntmps20
  go_wp2
  go_loopw [40] (fun i wr => ∃ k : Nat, k ≤ l.held.length ∧ i = .int .i64 k ∧ Below (w.heap.size + 2) ((w.alloc (.cells (lArr l (.slice a1 l.held.length p1) (.slice a2 l.last.length p2)) 35)).alloc (.cells (lArr l (.slice a3 l.held.length p3) (.slice a4 l.last.length p4)) 35)) wr) (fun i _ => l.held.length - (intOf i).toNat)
  case atStart => exact ⟨0, Nat.zero_le _, rfl, Below.refl _ _⟩
  case round =>
    obtain ⟨k, hk, rfl, hb⟩ := hrel
    obtain ⟨⟨c1, c2⟩, c3, c4⟩ := box2_cells hb
    by_cases hlt3 : k < l.held.length
    · obtain ⟨b, off, rfl, hlt, hc⟩ := rows_open hlt3 Q3.out
      obtain ⟨b2, off2, rfl, hlt2, hc2⟩ := rows_open hlt3 Q9.out
      have hce := fun j u hu => ((box2_below hb).cell (p := ⟨b, off + (k * 5 + j), none⟩) hlt).trans (hc k _ (rgetD hlt3) j u hu)
      have hcf := fun j u hu => ((box2_below hb).cell (p := ⟨b2, off2 + (k * 5 + j), none⟩) hlt2).trans (hc2 k _ (rgetD hlt3) j u hu)
      have HB := Lib.hid hb
      clear hc hc2 hb
      generalize l.held[k] = x at *
      obtain ⟨x0, x1, x2, x3, x4⟩ := held_cells hce
      obtain ⟨y0, y1, y2, y3, y4⟩ := held_cells hcf
      clear hce hcf
      have hkz : (k : Int) < (l.held.length : Int) := by omega
      go_wp2
      go_quiet (fail)
      go_wp2
      go_roundw
      case rel => exact ⟨k + 1, by omega, by go_num, HB.out.trans (below_drewN _ _)⟩
      case measure => simp [intOf]; omega
    · obtain rfl : k = l.held.length := by omega
      have HB := Lib.hid hb
      clear hb
      go_wp2
      go_loopw [58] (fun i wr => ∃ k : Nat, k ≤ l.last.length ∧ i = .int .i64 k ∧ Below (w.heap.size + 2) ((w.alloc (.cells (lArr l (.slice a1 l.held.length p1) (.slice a2 l.last.length p2)) 35)).alloc (.cells (lArr l (.slice a3 l.held.length p3) (.slice a4 l.last.length p4)) 35)) wr) (fun i _ => l.last.length - (intOf i).toNat)
      case atStart => exact ⟨0, Nat.zero_le _, rfl, HB.out⟩
      case round =>
        clear c1 c2 c3 c4 HB hlt3
        obtain ⟨k, hk, rfl, hb⟩ := hrel
        obtain ⟨⟨c1, c2⟩, c3, c4⟩ := box2_cells hb
        by_cases hlt3 : k < l.last.length
        · obtain ⟨b, off, rfl, hlt, hc⟩ := rows_open hlt3 Q6.out
          obtain ⟨b2, off2, rfl, hlt2, hc2⟩ := rows_open hlt3 R3.out
          have hce := fun j u hu => ((box2_below hb).cell (p := ⟨b, off + (k * 6 + j), none⟩) hlt).trans (hc k _ (rgetD hlt3) j u hu)
          have hcf := fun j u hu => ((box2_below hb).cell (p := ⟨b2, off2 + (k * 6 + j), none⟩) hlt2).trans (hc2 k _ (rgetD hlt3) j u hu)
          have HB := Lib.hid hb
          clear hc hc2 hb
          generalize l.last[k] = x at *
          obtain ⟨x0, x1, x2, x3, x4, x5⟩ := last_cells hce
          obtain ⟨y0, y1, y2, y3, y4, y5⟩ := last_cells hcf
          clear hce hcf
          have hkz : (k : Int) < (l.last.length : Int) := by omega
          go_wp2
          go_quiet (fail)
          go_wp2
          go_roundw
          case rel => exact ⟨k + 1, by omega, by go_num, HB.out.trans (below_drewN _ _)⟩
          case measure => simp [intOf]; omega
        · obtain rfl : k = l.last.length := by omega
          have HB := Lib.hid (box2_below hb)
          clear hb
          go_wp2
          go_ret
          exact ⟨rfl, HB.out⟩
end Ld
end Go.Proofs.Ytgbblegcjladaaa
namespace Go.Proofs.Ytgbblegcjladaaa
open Go.ChangeShapes Go.WideShapes Go.ChangeAt Go.RowKit
set_option linter.unusedVariables false
set_option maxRecDepth 100000
namespace Sh
theorem nodes_same (v u : Value) (xs : List Int) (w : World) (hx : Sl .i64 w v xs) (hz : Sl .i64 w u xs) :
    Calls Try.prog 63 #[v, u] w fun e w' => e = .returned (.bool true) ∧ Below w.heap.size w w' :=
  (Nd.same_any v u xs xs w hx hz).mono fun e w' ⟨he, hb⟩ => ⟨he.trans (ret_bool (decide_eq_true rfl)), hb⟩
end Sh
end Go.Proofs.Ytgbblegcjladaaa
