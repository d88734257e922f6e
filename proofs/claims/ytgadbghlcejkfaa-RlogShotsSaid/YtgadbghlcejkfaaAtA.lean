/- The snapshot at an index, on lists; package rlog's At. No condition but the bounds of what may last. -/
import Derived.Test.YtgadbghlcejkfaaRlF
import Derived.Test.YtgadbghlcejkfaaLwZ
import Derived.Test.YtgadbghlcejkfaaLaC
import Derived.Test.YtgadbghlcejkfaaOwT
import Derived.Test.YtgadbghlcejkfaaVcN
import Derived.Test.YtgadbghlcejkfaaHdR
import Derived.Deep.RegionHeld3
import Derived.Deep.MidRow
namespace Go.Proofs.Ytgadbghlcejkfaa
open Go.ChangeShapes Go.WideShapes Go.ChangeAt Go.RowKit Go.Deep
set_option linter.unusedVariables false
set_option maxRecDepth 100000
namespace At
open Hd Rl Ld La Rc
abbrev zSA : Array Value := #[.int .u64 0, .int .u64 0, .slice none 0 0, .int .i64 0, .int .u64 0, .slice none 0 0, .slice none 0 0]
theorem zSA_one : zSA.all (·.oneCell') = true := by simp [zSA, Value.oneCell']
theorem lArr_one (l : Led) (a b : Option Addr) (i j k m : Nat) : (lArr l (.slice a i j) (.slice b k m)).all (·.oneCell') = true := by simp [Value.oneCell']
/-- the ledger behind the first k entries -/
def atL (h : Har) : Nat → Led
  | 0 => h.shot.led
  | k + 1 => match h.log[k]? with
    | some x => (doL (atL h k) (h.shot.index + k + 1) x.cmd).1
    | none => atL h k
theorem atL_succ {h : Har} {k : Nat} {x : Ent} (hx : h.log[k]? = some x) : atL h (k + 1) = (doL (atL h k) (h.shot.index + k + 1) x.cmd).1 := by
  rw [atL]; rw [hx]
def EntsW (h : Har) : Prop := ∀ x ∈ h.log, x.wf ∧ ∀ n ∈ x.cmd.nodes, (Lit.int .i64 n).wf = true
theorem ents_w {w : World} {v : Value} {h : Har} (hh : IsHard w v h) : EntsW h := by
  obtain ⟨_, _, _, _, -, -, -, -, ⟨rows, -, he, hm⟩, -⟩ := hh
  intro x hx
  rw [← hm] at hx
  obtain ⟨r, hr, rfl⟩ := List.mem_map.1 hx
  exact ⟨(he r hr).2, (he r hr).1.wf⟩
theorem ent_chk {h : Har} (ok : hardOk h) {k : Nat} {x : Ent} (hx : h.log[k]? = some x) : Cm.chkC x.cmd = true := by
  have hlt : k < h.log.length := (List.getElem?_eq_some_iff.1 hx).1
  exact (ok.2.2.2.2.1 k x hlt hx).2.2
theorem idx_wf {h : Har} (hf : Fit h) {k : Nat} (hk : k < h.log.length) : (Lit.int .u64 (h.shot.index + k + 1)).wf = true := by
  obtain ⟨h0, h1⟩ := hf
  exact La.wf_u64 (by omega) (by omega)
theorem at_ok {h : Har} (ok : hardOk h) (hf : Fit h) (hw : HarW h) (he : EntsW h) : ∀ k, k ≤ h.log.length → LedP (atL h k) ∧ (atL h k).wf
  | 0, _ => ⟨led_iff.1 ok.2.1.2.1, hw.1.2.2.2.2.2⟩
  | k + 1, hk => by
    obtain ⟨h1, h2⟩ := at_ok ok hf hw he k (by omega)
    have hx := List.getElem?_eq_getElem (show k < h.log.length by omega)
    have hc := ent_chk ok hx
    have hcw := (he _ (List.getElem_mem (show k < h.log.length by omega))).1.2
    have hn : h.shot.index + k + 1 ≠ 0 := by have := hf.1; omega
    rw [atL_succ hx]
    exact ⟨(do_ok h1 h2 hcw hc hn).1, (do_wf h1 h2 hcw (idx_wf hf (by omega))).1⟩
theorem at_err {h : Har} (ok : hardOk h) (hf : Fit h) (hw : HarW h) (he : EntsW h) {k : Nat} {x : Ent} (hx : h.log[k]? = some x) : errL (atL h k) (h.shot.index + k + 1) x.cmd = 0 ∧ applyL (atL h k) (h.shot.index + k + 1) x.cmd = atL h (k + 1) := by
  have hlt : k < h.log.length := (List.getElem?_eq_some_iff.1 hx).1
  have q := at_ok ok hf hw he k (by omega)
  have e := err_zero.2 ⟨led_iff.2 q.1, ent_chk ok hx, (by have := hf.1; omega : h.shot.index + k + 1 ≠ 0)⟩
  refine ⟨e, ?_⟩
  unfold applyL
  rw [if_pos e, atL_succ hx]
noncomputable def atS (h : Har) (i : Int) : Sho := ⟨i, (termP h i).1, (confV h i).2, atL h (i - h.shot.index).toNat⟩
/-- what At answers -/
def AtE (h : Har) (i : Int) (w : World) (e : Ending) (w' : World) : Prop := ∃ s z vn vh vl, e = .returned (.tuple #[.agg (sArr s vn vh vl), .int .i64 z]) ∧ ((z = 0 ∧ hardOk h ∧ (termP h i).2 = true ∧ s = atS h i) ∨ (z = 130 ∧ ¬ hardOk h ∧ s = zShoV) ∨ (z = 4 ∧ hardOk h ∧ (termP h i).2 = false ∧ s = zShoV)) ∧ OwnI w' w.heap.size vn s.nodes ∧ OwnR 5 heldC 67 w' w.heap.size vh s.led.held ∧ OwnR 6 lastC 71 w' w.heap.size vl s.led.last ∧ (∀ n ∈ s.nodes, (Lit.int .i64 n).wf = true) ∧ Below w.heap.size w w'
theorem at_no {h : Har} {i z : Int} {w w1 : World} (hz : (z = 130 ∧ ¬ hardOk h) ∨ (z = 4 ∧ hardOk h ∧ (termP h i).2 = false)) {g : Nat} (hg : w.heap.size ≤ g) (hb : Below w.heap.size w w1) : AtE h i w (.returned (.tuple #[.agg zSA, .int .i64 z])) (w1.setRow g zSA) := by
  refine ⟨zShoV, z, .slice none 0 0, .slice none 0 0, .slice none 0 0, rfl, ?_, OwnK.nil _ _ _ _, OwnR.nil _ _ _, OwnR.nil _ _ _, by simp [zShoV], Ld.below_row hb hg _⟩
  rcases hz with ⟨h1, h2⟩ | ⟨h1, h2, h3⟩
  · exact .inr (.inl ⟨h1, h2, rfl⟩)
  · exact .inr (.inr ⟨h1, h2, h3, rfl⟩)
theorem at_yes {h : Har} {i : Int} {w wr : World} {s : Sho} {a1 a2 a3 : Option Addr} {b1 b2 b3 : Nat} (hs : s = atS h i) (ok : hardOk h) (hin : (termP h i).2 = true) (o1 : OwnI wr (w.heap.size + 2) (.slice a1 s.nodes.length b1) s.nodes) (o2 : OwnR 5 heldC 67 wr (w.heap.size + 2) (.slice a2 s.led.held.length b2) s.led.held) (o3 : OwnR 6 lastC 71 wr (w.heap.size + 2) (.slice a3 s.led.last.length b3) s.led.last) (hcw : ∀ n ∈ s.nodes, (Lit.int .i64 n).wf = true) (hb : Below w.heap.size w wr) :
    AtE h i w (.returned (.tuple #[.agg (sArr s (.slice a1 s.nodes.length b1) (.slice a2 s.led.held.length b2) (.slice a3 s.led.last.length b3)), .int .i64 0])) (wr.setRow (w.heap.size + 1) (sArr s (.slice a1 s.nodes.length b1) (.slice a2 s.led.held.length b2) (.slice a3 s.led.last.length b3))) :=
  ⟨s, 0, _, _, _, rfl, .inl ⟨rfl, ok, hin, hs⟩, owns_lower (by omega) (owns_row (g := w.heap.size + 1) o1 (by omega)), owns_lower (by omega) (owns_row (g := w.heap.size + 1) o2 (by omega)), owns_lower (by omega) (owns_row (g := w.heap.size + 1) o3 (by omega)), hcw, Ld.below_row hb (by omega) _⟩
theorem led_range {w : World} {g : Nat} {h : Har} {vn vh vl vg : Value} (hh : w.heap[g]? = some (.cells (hArr h vn vh vl vg) 32 (0, 0))) : w.rangeAt g 6 (lArr h.shot.led vh vl).toList := fun j v hv => by
  have hj : j < 4 := by have := (List.getElem?_eq_some_iff.1 hv).1; simpa using this
  rw [cell_of_row w g (6 + j) _ _ _ hh, ← hv]
  match j, hj with
  | 0, _ => rfl
  | 1, _ => rfl
  | 2, _ => rfl
  | 3, _ => rfl
theorem cf_wf {h : Har} {u : Int} (hw : HarW h) (he : EntsW h) : ∀ k, ∀ n ∈ (cfP h u k).2, (Lit.int .i64 n).wf = true
  | 0 => hw.2
  | k + 1 => by
    intro n hn
    rw [cfP] at hn
    cases hx : h.log[k]? with
    | none => rw [hx] at hn; exact cf_wf hw he k n hn
    | some x =>
      rw [hx] at hn
      dsimp only at hn
      split at hn
      · exact (he x (List.mem_of_getElem? hx)).2 n hn
      · exact cf_wf hw he k n hn
theorem conf_wf {h : Har} {u : Int} (ok : hardOk h) (hw : HarW h) (he : EntsW h) : ∀ n ∈ (confV h u).2, (Lit.int .i64 n).wf = true := by
  rw [confV_yes ok]
  exact cf_wf hw he _
theorem term_in {h : Har} {i : Int} : (termP h i).2 = true ↔ h.shot.index ≤ i ∧ i ≤ lastI h := by
  unfold termP
  by_cases e : i = h.shot.index
  · rw [if_pos e]
    unfold lastI
    exact ⟨fun _ => by omega, fun _ => rfl⟩
  · rw [if_neg e]
    by_cases c : h.shot.index < i ∧ i ≤ lastI h
    · rw [if_pos c]
      exact ⟨fun _ => by omega, fun _ => rfl⟩
    · rw [if_neg c]
      exact ⟨fun q => (by cases q), fun q => (by exfalso; omega)⟩
end At
end Go.Proofs.Ytgadbghlcejkfaa
