/- What Merge is asked, as an argument; what the example's Merge answers. No condition. -/
import Derived.Test.YtlkgmjhejocobaaMgE
import Derived.Test.YtlkgmjhejocobaaRlC
namespace Go.Proofs.Ytlkgmjhejocobaa
open Go.ChangeShapes Go.WideShapes Go.ChangeAt Go.RowKit Go.Deep
set_option linter.unusedVariables false
set_option maxRecDepth 100000
namespace Mg
open Hd Rc Rl Nv Vc
theorem u64_le {n : Int} (h : (Lit.int .u64 n).wf = true) : n ≤ 18446744073709551615 := by
  simp [Lit.wf, IntKind.min, IntKind.max, IntKind.signed, IntKind.bits] at h
  omega
structure WayT where
  i : Int
  t : Int
  c : Int
  l : List Ent
abbrev wArr (x : WayT) (vg : Value) : Array Value := #[.int .u64 x.i, .int .u64 x.t, .int .u64 x.c, vg]
def IsWay (w : World) (v : Value) (x : WayT) : Prop := ∃ vg, v = .agg (wArr x vg) ∧ IsLog w vg x.l ∧ (Lit.int .u64 x.i).wf = true ∧ (Lit.int .u64 x.t).wf = true ∧ (Lit.int .u64 x.c).wf = true
def IsWay.size (x : WayT) : Nat := x.l.length
def IsWay.fits (x : WayT) : Prop := x.l.length * 88 ≤ 140737488351232 ∧ ∀ e ∈ x.l, IsCmd.fits e.cmd
section
variable {H : Type} {enc : TypeId × Value → H} {W : World}
theorem trod_way {n : Nat} {cs : List Value} {y : DataW H × List MemPlace} (h : DataW.trod enc Try.prog W 0 (fun _ => true) true n 66 cs = some y) :
    ∃ x vg, cs = (wArr x vg).toList ∧ (IsLog W vg x.l ∧ (Lit.int .u64 x.i).wf = true ∧ (Lit.int .u64 x.t).wf = true ∧ (Lit.int .u64 x.c).wf = true) ∧ x.l.length ≤ Rows.uptoBulk y.1 ∧ (Wt Try.prog 66 y.1 → IsWay.fits x) := by
  obtain ⟨xs, m, _, rfl, hlen, hxl, hf⟩ := DataW.trod_struct Try.underlying66 h
  have hl : cs.length = 4 := hlen.trans (by kernel_rfl)
  match cs, hl, xs, hxl with
  | [c0, c1, c2, c3], _, [y0, y1, y2, y3], _ =>
    have k3 : Try.prog.cellsOf 22 = 1 := by kernel_rfl
    have ke : Try.prog.cellsOf 41 = 1 := by kernel_rfl
    obtain ⟨z0, rfl, w0⟩ := int_cell (P := Try.prog) Try.underlying22 (by simpa [k3] using hf 0 _ rfl)
    obtain ⟨z1, rfl, w1⟩ := int_cell (P := Try.prog) Try.underlying22 (by simpa [k3] using hf 1 _ rfl)
    obtain ⟨z2, rfl, w2⟩ := int_cell (P := Try.prog) Try.underlying22 (by simpa [k3] using hf 2 _ rfl)
    obtain ⟨rows, g1, g2, gb, g3⟩ := rows_cell3 (P := Try.prog) (C := entC) (Q := fun r => Sl .i64 W r.2 r.1.cmd.nodes ∧ r.1.wf) (F := fun r => IsCmd.fits r.1.cmd) Try.underlying41 (sz := 9) (by kernel_rfl) (by omega) (fun m cs y h => trod_entry h) (by simpa [ke] using hf 3 _ rfl)
    refine ⟨⟨z0, z1, z2, rows.map Prod.fst⟩, c3, rfl, ⟨⟨rows, g1, g2, rfl⟩, w0, w1, w2⟩, by rw [List.length_map]; exact Nat.le_trans gb (bulk_field (by simp)), fun hw => ?_⟩
    obtain ⟨q1, q2⟩ := g3 (wt_field Try.underlying66 hw (j := 3) rfl rfl)
    rw [show Try.prog.bytesOf 47 = 88 from by kernel_rfl] at q1
    unfold reachBytes at q1
    refine ⟨by simp; omega, fun x hx => ?_⟩
    obtain ⟨r, hr, rfl⟩ := List.mem_map.1 hx
    exact q2 r hr
theorem open_way {base : Nat} {v : Value} {d : DataW H} {ps : List MemPlace}
    (hok : Value.okWide Try.prog W .any base 66 v) (h : DataW.Trod enc Try.prog W 0 (fun _ => true) true 66 v d ps) : ∃ x, IsWay W v x ∧ IsWay.size x ≤ Rows.uptoBulk d ∧ (Wt Try.prog 66 d → IsWay.fits x) := by
  obtain ⟨cs, rfl, hsz⟩ := okWide_struct Try.underlying66 hok
  obtain ⟨fuel, hf⟩ := h
  obtain ⟨x, vg, hcs, h1, h3, h4⟩ := trod_way hf
  refine ⟨x, ⟨vg, ?_, h1⟩, h3, h4⟩
  obtain ⟨q⟩ := cs
  simp only [Value.cells] at hcs
  subst hcs
  rfl
end
theorem exH_fits : IsHard.fits exH := ⟨⟨by simp [exH], by simp [exH], by simp [exH]⟩, by simp [exH], fun x hx => by
  simp only [exH, List.mem_cons, List.not_mem_nil, or_false] at hx
  rcases hx with rfl | rfl <;> (show (0 : Nat) * 8 ≤ 140737488351232; decide)⟩
theorem exH_merge : mergeV exH 6 2 0 [⟨3, noop⟩] = (1, []) := by
  have ht : termP exH 6 = (2, true) := termP_log (by decide) (by decide) (x := ⟨2, noop⟩) rfl
  rw [merge_at exH_ok (by decide) ht]
  exact tail_yes (out := []) (part_low (by decide)) trivial
end Mg
end Go.Proofs.Ytlkgmjhejocobaa
