/- Whether two lists of entries are the same, where both are one. No condition. -/
import Derived.Test.YtgadbghlcejkfaaHdT
import Derived.Test.YtgadbghlcejkfaaCmdS
import Derived.Deep.QuietTactic
import Derived.BigQuiet
import Derived.BigRegion
import Derived.Lib.QuietBelow
namespace Go.Proofs.Ytgadbghlcejkfaa
open Go.ChangeShapes Go.WideShapes Go.ChangeAt Go.RowKit
set_option linter.unusedVariables false
set_option maxRecDepth 100000
namespace Hd
theorem log_rows {w : World} {v : Value} {log : List Ent} (h : IsLog w v log) : ∃ (rows : List ERow) (a : Option Addr) (cap : Nat), v = .slice a log.length cap ∧ rows.length = log.length ∧ log.length ≤ cap ∧ cap ≤ 9223372036854775807 ∧
    ((a = none ∧ cap = 0 ∧ rows = []) ∨ ∃ b off sp, a = some ⟨b, off, sp⟩ ∧ (rows = [] ∨ (sp = none ∧ b < w.heap.size ∧ ∀ i x, rows[i]? = some x → ∀ j u, (entC x)[j]? = some u → w.cell? ⟨b, off + (i * 9 + j), none⟩ = some u))) ∧ Ents w rows ∧
    (∀ k (hk : k < rows.length), log[k]? = some rows[k].1) := by
  obtain ⟨rows, ⟨a, cap, e, h1, h2, h3⟩, h4, rfl⟩ := h
  unfold maxLen at h2
  refine ⟨rows, a, cap, by rw [e, List.length_map], by rw [List.length_map], by rw [List.length_map]; exact h1, h2, h3, h4, fun k hk => ?_⟩
  rw [List.getElem?_map, List.getElem?_eq_getElem hk]; rfl
set_option maxHeartbeats 4000000 in
theorem ents_same (log : List Ent) (v u : Value) (w : World) (h : IsLog w v log) (g : IsLog w u log) :
    Calls Try.prog 31 #[v, u] w fun e w' => e = .returned (.bool true) ∧ Below w.heap.size w w' := by
  obtain ⟨rows, a, cap, rfl, hl, hc1, hc2, hr, he, hm⟩ := log_rows h
  obtain ⟨rows2, a2, cap2, rfl, gl, gc1, gc2, gr, ge, gm⟩ := log_rows g
  have HR := Lib.hid hr
  have HE := Lib.hid he
  have HM := Lib.hid hm
  have GR := Lib.hid gr
  have GE := Lib.hid ge
  have GM := Lib.hid gm
  clear h g hr he hm gr ge gm
  go_enter Try.func31, Try.ntmps31
  go_wp2
  go_loopw [13] (fun i wr => ∃ k : Nat, k ≤ log.length ∧ i = .int .i64 k ∧ Below w.heap.size w wr) (fun i _ => log.length - (intOf i).toNat)
  case atStart => exact ⟨0, Nat.zero_le _, rfl, Below.refl _ _⟩
  case round =>
    obtain ⟨k, hk, rfl, hb⟩ := hrel
    by_cases hlt2 : k < log.length
    · have hlt3 : k < rows.length := by omega
      have glt3 : k < rows2.length := by omega
      obtain ⟨b, off, rfl, hlt, hc⟩ := Ld.rows_open hlt3 HR.out
      obtain ⟨b2, off2, rfl, glt, gc⟩ := Ld.rows_open glt3 GR.out
      have hce := fun j u hu => (hb.cell (p := ⟨b, off + (k * 9 + j), none⟩) hlt).trans (hc k _ (Ld.rgetD hlt3) j u hu)
      have gce := fun j u hu => (hb.cell (p := ⟨b2, off2 + (k * 9 + j), none⟩) glt).trans (gc k _ (Ld.rgetD glt3) j u hu)
      have hes := HE.out _ (List.getElem_mem hlt3)
      have ges := GE.out _ (List.getElem_mem glt3)
      have hq := (HM.out k hlt3).symm.trans (GM.out k glt3)
      simp only [Option.some.injEq] at hq
      have HS := Lib.hid (hes.1.below hb (Nat.le_refl _))
      have GS := Lib.hid (ges.1.below hb (Nat.le_refl _))
      have HW := Lib.hid hes.2
      have HB := Lib.hid hb
      clear hc gc hb hes ges
      generalize rows[k] = r at *
      generalize rows2[k] = r2 at *
      obtain ⟨x, vr⟩ := r
      obtain ⟨y, vr2⟩ := r2
      simp only [] at hq HS GS HW
      subst hq
      obtain ⟨p00, p10, p20, p30, p40, p50, p60, p70, p80⟩ := ent_cells hce
      obtain ⟨q00, q10, q20, q30, q40, q50, q60, q70, q80⟩ := ent_cells gce
      clear hce gce
      have p0 : ∀ d os, (Go.Sort.grow (redrawn wr d) os).cell? ⟨b, off + k * 9, none⟩ = some (.int .u64 x.term) := cell_regrown p00
      have p1 : ∀ d os, (Go.Sort.grow (redrawn wr d) os).cell? ⟨b, off + k * 9 + 1, none⟩ = some (.int .i64 x.cmd.kind) := cell_regrown p10
      have p2 : ∀ d os, (Go.Sort.grow (redrawn wr d) os).cell? ⟨b, off + k * 9 + 2, none⟩ = some (.int .i64 x.cmd.node) := cell_regrown p20
      have p3 : ∀ d os, (Go.Sort.grow (redrawn wr d) os).cell? ⟨b, off + k * 9 + 3, none⟩ = some (.int .i64 x.cmd.token) := cell_regrown p30
      have p4 : ∀ d os, (Go.Sort.grow (redrawn wr d) os).cell? ⟨b, off + k * 9 + 4, none⟩ = some (vr) := cell_regrown p40
      have p5 : ∀ d os, (Go.Sort.grow (redrawn wr d) os).cell? ⟨b, off + k * 9 + 5, none⟩ = some (.int .u64 x.cmd.boot) := cell_regrown p50
      have p6 : ∀ d os, (Go.Sort.grow (redrawn wr d) os).cell? ⟨b, off + k * 9 + 6, none⟩ = some (.int .u64 x.cmd.seq) := cell_regrown p60
      have p7 : ∀ d os, (Go.Sort.grow (redrawn wr d) os).cell? ⟨b, off + k * 9 + 7, none⟩ = some (.int .u64 x.cmd.serial) := cell_regrown p70
      have p8 : ∀ d os, (Go.Sort.grow (redrawn wr d) os).cell? ⟨b, off + k * 9 + 8, none⟩ = some (.int .u64 x.cmd.stamp) := cell_regrown p80
      have q0 : ∀ d os, (Go.Sort.grow (redrawn wr d) os).cell? ⟨b2, off2 + k * 9, none⟩ = some (.int .u64 x.term) := cell_regrown q00
      have q1 : ∀ d os, (Go.Sort.grow (redrawn wr d) os).cell? ⟨b2, off2 + k * 9 + 1, none⟩ = some (.int .i64 x.cmd.kind) := cell_regrown q10
      have q2 : ∀ d os, (Go.Sort.grow (redrawn wr d) os).cell? ⟨b2, off2 + k * 9 + 2, none⟩ = some (.int .i64 x.cmd.node) := cell_regrown q20
      have q3 : ∀ d os, (Go.Sort.grow (redrawn wr d) os).cell? ⟨b2, off2 + k * 9 + 3, none⟩ = some (.int .i64 x.cmd.token) := cell_regrown q30
      have q4 : ∀ d os, (Go.Sort.grow (redrawn wr d) os).cell? ⟨b2, off2 + k * 9 + 4, none⟩ = some (vr2) := cell_regrown q40
      have q5 : ∀ d os, (Go.Sort.grow (redrawn wr d) os).cell? ⟨b2, off2 + k * 9 + 5, none⟩ = some (.int .u64 x.cmd.boot) := cell_regrown q50
      have q6 : ∀ d os, (Go.Sort.grow (redrawn wr d) os).cell? ⟨b2, off2 + k * 9 + 6, none⟩ = some (.int .u64 x.cmd.seq) := cell_regrown q60
      have q7 : ∀ d os, (Go.Sort.grow (redrawn wr d) os).cell? ⟨b2, off2 + k * 9 + 7, none⟩ = some (.int .u64 x.cmd.serial) := cell_regrown q70
      have q8 : ∀ d os, (Go.Sort.grow (redrawn wr d) os).cell? ⟨b2, off2 + k * 9 + 8, none⟩ = some (.int .u64 x.cmd.stamp) := cell_regrown q80
      have cA : ∀ (d : Nat) (os : Array Obj), Calls Try.prog 55 #[.agg (Cm.cArr x.cmd vr), .agg (Cm.cArr x.cmd vr2)] (Go.Sort.grow (redrawn wr d) os) fun e w'' => e = .returned (.bool true) ∧ ∃ p : Regrown, w'' = Go.Sort.grow (redrawn wr p.d) p.os := fun d os =>
        Calls.regrown_of (Cm.same_true x.cmd _ _ _ ⟨vr, rfl, HS.out.below (below_regrown wr d os) (Nat.le_refl _), HW.out.2⟩ ⟨vr2, rfl, GS.out.below (below_regrown wr d os) (Nat.le_refl _), HW.out.2⟩)
      have HCA := Lib.hid cA
      have hne : (x.term != x.term) = false := by simp
      have hkz : (k : Int) < (log.length : Int) := by omega
      clear cA p00 p10 p20 p30 p40 p50 p60 p70 p80 q00 q10 q20 q30 q40 q50 q60 q70 q80
      go_wp2_with fail
      refine wp_region_quiet_below (by kernel_rfl) (by kernel_rfl) ?_
      repeat (go_big_quiet_step ((go_at_call 55; exact HCA.out _ _)))
      refine wpQuiet_nil ?_
      intro _ hw'
      obtain ⟨⟨dq, osq⟩, hw''⟩ := hw'
      subst hw''
      have HW2 := Lib.hid (HB.out.trans ((below_regrown wr dq osq).mono HB.out.size))
      clear p0 p1 p2 p3 p4 p5 p6 p7 p8 q0 q1 q2 q3 q4 q5 q6 q7 q8
      go_wp2
      go_roundw
      case rel => exact ⟨k + 1, by omega, by go_num, HW2.out⟩
      case measure => simp [intOf]; omega
    · obtain rfl : k = log.length := by omega
      have HB := Lib.hid hb
      clear hb
      go_wp2
      go_ret
      exact ⟨rfl, HB.out⟩
end Hd
end Go.Proofs.Ytgadbghlcejkfaa
