/- A record in new memory: the document's CopyRec. No condition but sizes. -/
import Derived.Test.YtgadbghlcejkfaaBsA
import Derived.Test.YtgadbghlcejkfaaRcU
import Derived.Test.YtgadbghlcejkfaaShS
import Derived.Test.YtgadbghlcejkfaaEnS
import Derived.Deep.MidRow
namespace Go.Proofs.Ytgadbghlcejkfaa
open Go.ChangeShapes Go.WideShapes Go.ChangeAt Go.RowKit Go.Deep
set_option linter.unusedVariables false
set_option maxRecDepth 100000
namespace Rc
open Hd Nv
theorem cmd_range {w : World} {g : Nat} {r : RecR} {vc vn vh vl : Value} (h : w.heap[g]? = some (.cells (rArr r vc vn vh vl) 38 (0, 0))) : w.rangeAt g 6 (Cm.cArr r.ent.cmd vc).toList := fun j v hv => by
  have hj : j < 8 := by have := (List.getElem?_eq_some_iff.1 hv).1; simpa using this
  rw [cell_of_row w g (6 + j) _ _ _ h, ← hv]
  match j, hj with
  | 0, _ => rfl
  | 1, _ => rfl
  | 2, _ => rfl
  | 3, _ => rfl
  | 4, _ => rfl
  | 5, _ => rfl
  | 6, _ => rfl
  | 7, _ => rfl
theorem sho_range {w : World} {g : Nat} {r : RecR} {vc vn vh vl : Value} (h : w.heap[g]? = some (.cells (rArr r vc vn vh vl) 38 (0, 0))) : w.rangeAt g 14 (sArr r.shot vn vh vl).toList := fun j v hv => by
  have hj : j < 7 := by have := (List.getElem?_eq_some_iff.1 hv).1; simpa using this
  rw [cell_of_row w g (14 + j) _ _ _ h, ← hv]
  match j, hj with
  | 0, _ => rfl
  | 1, _ => rfl
  | 2, _ => rfl
  | 3, _ => rfl
  | 4, _ => rfl
  | 5, _ => rfl
  | 6, _ => rfl
theorem cmd_put {w : World} {g : Nat} {r : RecR} {vc vn vh vl : Value} (h : w.heap[g]? = some (.cells (rArr r vc vn vh vl) 38 (0, 0))) (u : Value) : (w.setCells g 6 (Cm.cArr r.ent.cmd u).toList).heap[g]? = some (.cells (rArr r u vn vh vl) 38 (0, 0)) := by
  rw [heap_setCells g _ _ h]
  simp [setsA]
theorem sho_put {w : World} {g : Nat} {r : RecR} {vc vn vh vl : Value} (h : w.heap[g]? = some (.cells (rArr r vc vn vh vl) 38 (0, 0))) (un uh ul : Value) : (w.setCells g 14 (sArr r.shot un uh ul).toList).heap[g]? = some (.cells (rArr r vc un uh ul) 38 (0, 0)) := by
  rw [heap_setCells g _ _ h]
  simp [setsA]
theorem cArr_one (c : Cmd) (a : Option Addr) (i j : Nat) : (Cm.cArr c (.slice a i j)).all (·.oneCell') = true := by simp [Value.oneCell']
def GivesRecO (r : RecR) (w : World) (e : Ending) (w' : World) : Prop := ∃ a1 c1 a2 c2 a3 c3 a4 c4, e = .returned (.agg (rArr r (.slice a1 r.ent.cmd.nodes.length c1) (.slice a2 r.shot.nodes.length c2) (.slice a3 r.shot.led.held.length c3) (.slice a4 r.shot.led.last.length c4))) ∧ RecO w' w.heap.size (r, .slice a1 r.ent.cmd.nodes.length c1, .slice a2 r.shot.nodes.length c2, .slice a3 r.shot.led.held.length c3, .slice a4 r.shot.led.last.length c4) ∧ Below w.heap.size w w'
set_option maxHeartbeats 4000000 in
theorem copyrec_any (r : RecR) (v : Value) (w : World) (h : IsRec w v r) (hf : IsRec.fits r) : Calls Try.prog 16 #[v] w (GivesRecO r w) := by
  obtain ⟨vc, vn, vh, vl, rfl, ⟨hc, hn, hh, hl⟩, hwf⟩ := id h
  obtain ⟨a1, b1, rfl, -⟩ := id hc
  obtain ⟨a2, b2, rfl, -⟩ := id hn
  obtain ⟨a3, b3, rfl, -⟩ := id hh
  obtain ⟨a4, b4, rfl, -⟩ := id hl
  obtain ⟨W1, hW1, hb1, hz1, hA1, hB1⟩ := boxR w (rArr r (.slice a1 r.ent.cmd.nodes.length b1) (.slice a2 r.shot.nodes.length b2) (.slice a3 r.shot.led.held.length b3) (.slice a4 r.shot.led.last.length b4))
  have HRL := Lib.hid (⟨hc, hn, hh, hl⟩ : RecL w r _ _ _ _)
  have HWF := Lib.hid hwf
  have HF := Lib.hid hf
  have HA1 := Lib.hid hA1
  have HB1 := Lib.hid hB1
  have HBW1 := Lib.hid hb1
  have HZ1 : Hid (w.heap.size + 2 ≤ W1.heap.size) := Lib.hid (by omega)
  have hrg := cmd_range hA1
  have HIC : Hid (IsCmd W1 (.agg (Cm.cArr r.ent.cmd (.slice a1 r.ent.cmd.nodes.length b1))) r.ent.cmd) := Lib.hid ⟨_, rfl, hc.below hb1 (Nat.le_refl _), hwf.2.2.2.2.2.1.2⟩
  clear h hf hc hn hh hl hwf hb1 hz1 hA1 hB1
  go_enter Try.func16, Try.ntmps16
  go_wp2_with (first | (refine wpList_load_mid rfl 34 (.tmp 4) rfl w.heap.size 6 rfl (Cm.cArr r.ent.cmd (.slice a1 r.ent.cmd.nodes.length b1)).toList _ hrg Try.underlying34 rfl (by kernel_rfl) ?_) | fail)
  refine (Cm.copy_own r.ent.cmd _ _ HIC.out HF.out.1).mono ?_
  rintro e w2 ⟨un, rfl, o1, hb2⟩
  obtain ⟨p1, c1, rfl, -⟩ := o1.sl HRL.out.1.wf
  have hA2 := (hb2.block _ (Hd.lt_of_row HA1.out)).trans HA1.out
  have hB2 := (hb2.block _ (Hd.lt_of_row HB1.out)).trans HB1.out
  have hth := there_row hA2 6 8 (by simp)
  obtain ⟨W3, hW3⟩ : ∃ q, w2.setCells w.heap.size 6 (Cm.cArr r.ent.cmd (.slice p1 r.ent.cmd.nodes.length c1)).toList = q := ⟨_, rfl⟩
  have hA3 : W3.heap[w.heap.size]? = some (.cells (rArr r (.slice p1 r.ent.cmd.nodes.length c1) (.slice a2 r.shot.nodes.length b2) (.slice a3 r.shot.led.held.length b3) (.slice a4 r.shot.led.last.length b4)) 38 (0, 0)) := by rw [← hW3]; exact cmd_put hA2 _
  have HA3 := Lib.hid hA3
  have HB3 : Hid (W3.heap[w.heap.size + 1]? = some (.cells zR 38 (0, 0))) := Lib.hid (by rw [← hW3]; exact (setCells_other _ _ _ _ (by omega)).trans hB2)
  have HBW3 : Hid (Below w.heap.size w W3) := Lib.hid (by rw [← hW3]; exact (HBW1.out.trans (hb2.mono HBW1.out.size)).trans (setCells_below _ (Nat.le_refl _) _ _ _))
  have HZ3 : Hid (w.heap.size + 2 ≤ W3.heap.size) := Lib.hid (by rw [← hW3]; have := HZ1.out; have := hb2.size; have q := (setCells_below w.heap.size (Nat.le_refl _) (Cm.cArr r.ent.cmd (.slice p1 r.ent.cmd.nodes.length c1)).toList 6 w2).size; omega)
  have HO3 : Hid (OwnK .i64 3 W3 (w.heap.size + 2) (.slice p1 r.ent.cmd.nodes.length c1) r.ent.cmd.nodes) := Lib.hid (by rw [← hW3]; exact owns_cells (by omega) _ _ _ (OwnK.lower o1 HZ1.out))
  have hrg3 := sho_range hA3
  have HIS3 := Lib.hid ((ent_led HRL.out HWF.out HBW3.out).2)
  clear o1 hb2 hA2 hB2 hA3 hrg
  go_wp2_with (first
    | (refine wpList_store_mid rfl 34 (.tmp 8) (.tmp 6) rfl w.heap.size 6 (Cm.cArr r.ent.cmd (.slice p1 r.ent.cmd.nodes.length c1)) rfl rfl hth (by kernel_rfl) (cArr_one _ _ _ _) ?_; rw [hW3])
    | (refine wpList_load_mid rfl 29 (.tmp 9) rfl w.heap.size 14 rfl (sArr r.shot (.slice a2 r.shot.nodes.length b2) (.slice a3 r.shot.led.held.length b3) (.slice a4 r.shot.led.last.length b4)).toList _ hrg3 Try.underlying29 rfl (by kernel_rfl) ?_))
  refine (Sh.copy_own r.shot _ _ HIS3.out HF.out.2).mono ?_
  rintro e w4 ⟨un, uh, ul, rfl, o1, o2, o3, hb4⟩
  obtain ⟨p2, c2, rfl, -⟩ := o1.sl HRL.out.2.1.wf
  obtain ⟨p3, c3, rfl, -⟩ := o2.sl heldC_len
  obtain ⟨p4, c4, rfl, -⟩ := o3.sl lastC_len
  have hA4 := (hb4.block _ (Hd.lt_of_row HA3.out)).trans HA3.out
  have hB4 := (hb4.block _ (Hd.lt_of_row HB3.out)).trans HB3.out
  have hth4 := there_row hA4 14 7 (by simp)
  obtain ⟨W5, hW5⟩ : ∃ q, w4.setCells w.heap.size 14 (sArr r.shot (.slice p2 r.shot.nodes.length c2) (.slice p3 r.shot.led.held.length c3) (.slice p4 r.shot.led.last.length c4)).toList = q := ⟨_, rfl⟩
  have HA5 : Hid (W5.heap[w.heap.size]? = some (.cells (rArr r (.slice p1 r.ent.cmd.nodes.length c1) (.slice p2 r.shot.nodes.length c2) (.slice p3 r.shot.led.held.length c3) (.slice p4 r.shot.led.last.length c4)) 38 (0, 0))) := Lib.hid (by rw [← hW5]; exact sho_put hA4 _ _ _)
  have HB5 : Hid (W5.heap[w.heap.size + 1]? = some (.cells zR 38 (0, 0))) := Lib.hid (by rw [← hW5]; exact (setCells_other _ _ _ _ (by omega)).trans hB4)
  have HBW5 : Hid (Below w.heap.size w W5) := Lib.hid (by rw [← hW5]; exact (HBW3.out.trans (hb4.mono HBW3.out.size)).trans (setCells_below _ (Nat.le_refl _) _ _ _))
  have HO5 : Hid (RecO W5 (w.heap.size + 2) (r, .slice p1 r.ent.cmd.nodes.length c1, .slice p2 r.shot.nodes.length c2, .slice p3 r.shot.led.held.length c3, .slice p4 r.shot.led.last.length c4)) := Lib.hid (by
    rw [← hW5]
    exact ⟨⟨owns_cells (by omega) _ _ _ (owns_below hb4 HO3.out), owns_cells (by omega) _ _ _ (owns_lower HZ3.out o1), owns_cells (by omega) _ _ _ (owns_lower HZ3.out o2), owns_cells (by omega) _ _ _ (owns_lower HZ3.out o3)⟩, HRL.out.1.wf, HRL.out.2.1.wf, HWF.out⟩)
  clear o1 o2 o3 hb4 hA4 hB4 hrg3
  go_wp2_with (first
    | (refine wpList_store_mid rfl 29 (.tmp 12) (.tmp 11) rfl w.heap.size 14 (sArr r.shot (.slice p2 r.shot.nodes.length c2) (.slice p3 r.shot.led.held.length c3) (.slice p4 r.shot.led.last.length c4)) rfl rfl hth4 (by kernel_rfl) (Sh.sArr_one _ _ _ _ _ _ _ _ _ _) ?_; rw [hW5])
    | (with_reducible refine wpList_load_row rfl 38 (.tmp 1) rfl w.heap.size rfl 38 (rArr r (.slice p1 r.ent.cmd.nodes.length c1) (.slice p2 r.shot.nodes.length c2) (.slice p3 r.shot.led.held.length c3) (.slice p4 r.shot.led.last.length c4)) (0, 0) _ HA5.out Try.underlying38 rfl (by kernel_rfl) ?_)
    | (with_reducible refine wpList_store_row rfl 38 (.tmp 2) (.tmp 13) rfl (w.heap.size + 1) (rArr r (.slice p1 r.ent.cmd.nodes.length c1) (.slice p2 r.shot.nodes.length c2) (.slice p3 r.shot.led.held.length c3) (.slice p4 r.shot.led.last.length c4)) rfl rfl 38 _ HB5.out (by kernel_rfl) rfl (rArr_one _ _ _ _ _ _ _ _ _ _ _ _ _) ?_))
  refine bodyPost_ret (v := .agg (rArr r (.slice p1 r.ent.cmd.nodes.length c1) (.slice p2 r.shot.nodes.length c2) (.slice p3 r.shot.led.held.length c3) (.slice p4 r.shot.led.last.length c4))) (results_cell_row rfl _ _ (w.heap.size + 1) 38 _ (0, 0) _ rfl (setRow_heap _ _ _ _ _ _ HB5.out) Try.underlying38 rfl (by kernel_rfl)) rfl ?_
  exact ⟨_, _, _, _, _, _, _, _, rfl, HO5.out.map fun e sz v n xs _ q => owns_lower (by omega) (owns_row (g := w.heap.size + 1) q (by omega)), Ld.below_row HBW5.out (by omega) _⟩
end Rc
end Go.Proofs.Ytgadbghlcejkfaa
