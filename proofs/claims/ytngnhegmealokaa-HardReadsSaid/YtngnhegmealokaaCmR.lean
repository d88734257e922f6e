/- The document's SameRec and SameRecs, on one. No condition. -/
import Derived.Test.YtngnhegmealokaaBsM
import Derived.Test.YtngnhegmealokaaSmE
import Derived.Deep.MidRow
import Derived.Deep.RegionHeld3
namespace Go.Proofs.Ytngnhegmealokaa
open Go.ChangeShapes Go.WideShapes Go.ChangeAt Go.RowKit Go.Deep
set_option linter.unusedVariables false
set_option maxRecDepth 100000
theorem wpList_load_midG {P : Program} {ops : Array Oper} {rest : List Oper} {op : Oper} {a : Act} {w : World} {Q : Exit → Act → World → Prop} (hw : Region.wanted op (yielded ops a.tmps) = true) (ty : TypeId) (x : Operand) (ho : op.op = .load ty x)
    (b o : Nat) (hx : a.eval x = .pointer (some ⟨b, o, none⟩)) (cs : List Value) (d : TypeDesc) (hc : w.rangeAt b o cs)
    (hu : P.underlying ty = some d) (hd : d.isRow = true) (hi : (P.info? ty).map (·.size) = some cs.length)
    (h : wpList P ops Q rest (a.put op.dst (.agg cs.toArray)) w) : wpList P ops Q (op :: rest) a w :=
  BigFrame.wpList_want hw fun _ hK => wp_load_mid ty x ho b o hx cs d hc hu hd hi (hK _ _ h)
namespace Rc
open Hd Nv
theorem beq_self (n : Int) : (n == n) = true := by simp
set_option maxHeartbeats 8000000 in
theorem rec_same (r : RecR) (v u : Value) (w : World) (h : IsRec w v r) (g : IsRec w u r) : Calls Try.prog 12 #[v, u] w fun e w' => e = .returned (.bool true) ∧ Below w.heap.size w w' := by
  obtain ⟨vc, vn, vh, vl, rfl, hL, hwf⟩ := h
  obtain ⟨uc, un, uh, ul, rfl, gL, -⟩ := g
  obtain ⟨W1, hW1⟩ : ∃ q, (w.alloc (.cells (rArr r vc vn vh vl) 35)).alloc (.cells (rArr r uc un uh ul) 35) = q := ⟨_, rfl⟩
  have hA : W1.heap[w.heap.size]? = some (.cells (rArr r vc vn vh vl) 35 (0, 0)) := by rw [← hW1]; exact heap_alloc2_old _ _ _
  have hB : W1.heap[w.heap.size + 1]? = some (.cells (rArr r uc un uh ul) 35 (0, 0)) := by rw [← hW1]; exact heap_alloc2_new _ _ _
  have hb : Below w.heap.size w W1 := by rw [← hW1]; exact ((Below.refl _ _).alloc (Nat.le_refl _) _).alloc (by simp) _
  have HB := Lib.hid hb
  have HAR := Lib.hid hA
  have HBR := Lib.hid hB
  have HC1 : Hid (IsCmd W1 (.agg (Cm.cArr r.ent.cmd vc)) r.ent.cmd) := Lib.hid ⟨_, rfl, hL.1.below hb (Nat.le_refl _), hwf.2.2.2.2.2.1.2⟩
  have HC2 : Hid (IsCmd W1 (.agg (Cm.cArr r.ent.cmd uc)) r.ent.cmd) := Lib.hid ⟨_, rfl, gL.1.below hb (Nat.le_refl _), hwf.2.2.2.2.2.1.2⟩
  have HS1 := Lib.hid ((ent_led hL hwf hb).2)
  have HS2 := Lib.hid ((ent_led gL hwf hb).2)
  have e0 := beq_self r.kind
  have e1 := beq_self r.vote
  have e2 := beq_self r.boot
  have e3 := beq_self r.term
  have e4 := beq_self r.index
  have e5 := beq_self r.ent.term
  obtain ⟨c0, c1, c2, c3, c4, c5, -⟩ := cells21 hA
  obtain ⟨d0, d1, d2, d3, d4, d5, -⟩ := cells21 hB
  have ra := cmd_range hA
  have rb := cmd_range hB
  clear hA hB hb hL gL hwf
  go_enter Try.func12, Try.ntmps12
  go_wp2_with (first
    | (refine wpList_load_midG rfl 25 (.tmp 49) rfl w.heap.size 6 rfl (Cm.cArr r.ent.cmd vc).toList _ ra Try.underlying25 rfl (by kernel_rfl) ?_)
    | (refine wpList_load_midG rfl 25 (.tmp 52) rfl (w.heap.size + 1) 6 rfl (Cm.cArr r.ent.cmd uc).toList _ rb Try.underlying25 rfl (by kernel_rfl) ?_))
  refine (Cm.same_true r.ent.cmd _ _ _ HC1.out HC2.out).mono ?_
  rintro e w2 ⟨rfl, hb2⟩
  have ra := sho_range ((hb2.block _ (Hd.lt_of_row HAR.out)).trans HAR.out)
  have rb := sho_range ((hb2.block _ (Hd.lt_of_row HBR.out)).trans HBR.out)
  have HS3 := Lib.hid (HS1.out.below hb2 (Nat.le_refl _))
  have HS4 := Lib.hid (HS2.out.below hb2 (Nat.le_refl _))
  have HB2 := Lib.hid (HB.out.trans (hb2.mono HB.out.size))
  clear hb2 c0 c1 c2 c3 c4 c5 d0 d1 d2 d3 d4 d5
  go_wp2_with (first
    | (refine wpList_load_midG rfl 33 (.tmp 57) rfl w.heap.size 14 rfl (sArr r.shot vn vh vl).toList _ ra Try.underlying33 rfl (by kernel_rfl) ?_)
    | (refine wpList_load_midG rfl 33 (.tmp 59) rfl (w.heap.size + 1) 14 rfl (sArr r.shot un uh ul).toList _ rb Try.underlying33 rfl (by kernel_rfl) ?_))
  refine (Sh.same_any r.shot _ _ _ HS3.out HS4.out).mono ?_
  rintro e w3 ⟨rfl, hb3⟩
  go_wp2
  go_ret
  exact ⟨rfl, HB2.out.trans (hb3.mono HB2.out.size)⟩
theorem recs_range {w : World} {b off k : Nat} {r : RRow} (h : ∀ j u, (recC r)[j]? = some u → w.cell? ⟨b, off + (k * 21 + j), none⟩ = some u) : w.rangeAt b (off + k * 21) (recC r) := fun j v hv => by
  rw [Nat.add_assoc]
  exact h j v hv
end Rc
end Go.Proofs.Ytngnhegmealokaa
