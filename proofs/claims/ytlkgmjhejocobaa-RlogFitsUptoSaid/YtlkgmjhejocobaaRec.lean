/- A record, read as an argument, and without the fields that its kind uses: hard.unused. No condition. -/
import Derived.Test.YtlkgmjhejocobaaHdC
import Derived.Test.YtlkgmjhejocobaaNoV
import Derived.Deep.MidRow
namespace Go.Proofs.Ytlkgmjhejocobaa
open Go.ChangeShapes Go.WideShapes Go.ChangeAt Go.RowKit Go.Deep
set_option linter.unusedVariables false
set_option maxRecDepth 100000
structure RecR where
  kind : Int
  vote : Int
  boot : Int
  term : Int
  index : Int
  ent : Ent
  shot : Sho
abbrev rArr (r : RecR) (vc vn vh vl : Value) : Array Value := #[.int .i64 r.kind, .int .i64 r.vote, .int .u64 r.boot, .int .u64 r.term, .int .u64 r.index, .int .u64 r.ent.term, .int .i64 r.ent.cmd.kind, .int .i64 r.ent.cmd.node, .int .i64 r.ent.cmd.token, vc, .int .u64 r.ent.cmd.boot, .int .u64 r.ent.cmd.seq, .int .u64 r.ent.cmd.serial, .int .u64 r.ent.cmd.stamp, .int .u64 r.shot.index, .int .u64 r.shot.term, vn, .int .i64 r.shot.led.limit, .int .u64 r.shot.led.next, vh, vl]
abbrev zR : Array Value := #[.int .i64 0, .int .i64 0, .int .u64 0, .int .u64 0, .int .u64 0, .int .u64 0, .int .i64 0, .int .i64 0, .int .i64 0, .slice none 0 0, .int .u64 0, .int .u64 0, .int .u64 0, .int .u64 0, .int .u64 0, .int .u64 0, .slice none 0 0, .int .i64 0, .int .u64 0, .slice none 0 0, .slice none 0 0]
def RecR.wf (r : RecR) : Prop := (Lit.int .i64 r.kind).wf = true ∧ (Lit.int .i64 r.vote).wf = true ∧ (Lit.int .u64 r.boot).wf = true ∧ (Lit.int .u64 r.term).wf = true ∧ (Lit.int .u64 r.index).wf = true ∧ r.ent.wf ∧ r.shot.wf
/-- the lists of a record -/
def RecL (w : World) (r : RecR) (vc vn vh vl : Value) : Prop := Sl .i64 w vc r.ent.cmd.nodes ∧ Sl .i64 w vn r.shot.nodes ∧ SlR 5 heldC w vh r.shot.led.held ∧ SlR 6 lastC w vl r.shot.led.last
theorem RecL.below {w w' : World} {r : RecR} {vc vn vh vl : Value} {B : Nat} (h : RecL w r vc vn vh vl) (hb : Below B w w') (hB : w.heap.size ≤ B) : RecL w' r vc vn vh vl := ⟨h.1.below hb hB, h.2.1.below hb hB, h.2.2.1.below hb hB, h.2.2.2.below hb hB⟩
def IsRec (w : World) (v : Value) (r : RecR) : Prop := ∃ vc vn vh vl, v = .agg (rArr r vc vn vh vl) ∧ RecL w r vc vn vh vl ∧ r.wf
def IsRec.size (r : RecR) : Nat := 0
def IsRec.fits (r : RecR) : Prop := IsCmd.fits r.ent.cmd ∧ IsShot.fits r.shot
theorem IsRec.below {w w' : World} {v : Value} {r : RecR} {B : Nat} (h : IsRec w v r) (hb : Below B w w') (hB : w.heap.size ≤ B) : IsRec w' v r := by
  obtain ⟨vc, vn, vh, vl, e, h1, h2⟩ := h
  exact ⟨vc, vn, vh, vl, e, h1.below hb hB, h2⟩
section
variable {H : Type} {enc : TypeId × Value → H} {W : World}
theorem trod_rec {n : Nat} {cs : List Value} {y : DataW H × List MemPlace} (h : DataW.trod enc Try.prog W 0 (fun _ => true) true n 49 cs = some y) :
    ∃ r vc vn vh vl, cs = (rArr r vc vn vh vl).toList ∧ RecL W r vc vn vh vl ∧ r.wf ∧ (Wt Try.prog 49 y.1 → IsRec.fits r) := by
  obtain ⟨xs, m, _, rfl, hlen, hxl, hf⟩ := DataW.trod_struct Try.underlying49 h
  have hl : cs.length = 21 := hlen.trans (by kernel_rfl)
  match cs, hl, xs, hxl with
  | [c0, c1, c2, c3, c4, c5, c6, c7, c8, c9, c10, c11, c12, c13, c14, c15, c16, c17, c18, c19, c20], _, [y0, y1, y2, y3, y4, y5, y6], _ =>
    have k1 : Try.prog.cellsOf 3 = 1 := by kernel_rfl
    have k3 : Try.prog.cellsOf 22 = 1 := by kernel_rfl
    have k9 : Try.prog.cellsOf 47 = 9 := by kernel_rfl
    have k7 : Try.prog.cellsOf 29 = 7 := by kernel_rfl
    obtain ⟨z0, rfl, w0⟩ := int_cell (P := Try.prog) Try.underlying3 (by simpa [k1] using hf 0 _ rfl)
    obtain ⟨z1, rfl, w1⟩ := int_cell (P := Try.prog) Try.underlying3 (by simpa [k1] using hf 1 _ rfl)
    obtain ⟨z2, rfl, w2⟩ := int_cell (P := Try.prog) Try.underlying22 (by simpa [k3] using hf 2 _ rfl)
    obtain ⟨z3, rfl, w3⟩ := int_cell (P := Try.prog) Try.underlying22 (by simpa [k3] using hf 3 _ rfl)
    obtain ⟨z4, rfl, w4⟩ := int_cell (P := Try.prog) Try.underlying22 (by simpa [k3] using hf 4 _ rfl)
    obtain ⟨⟨x, vc⟩, hc5, ⟨h1, h2⟩, h3⟩ := trod_entry (by simpa [k9] using hf 5 _ rfl)
    obtain ⟨s, vn, vh, vl, hc6, ⟨h4, h5, h6, h7⟩, h8⟩ := trod_shot (by simpa [k7] using hf 6 _ rfl)
    simp only [List.cons.injEq, and_true] at hc5 hc6
    obtain ⟨rfl, rfl, rfl, rfl, rfl, rfl, rfl, rfl, rfl⟩ := hc5
    obtain ⟨rfl, rfl, rfl, rfl, rfl, rfl, rfl⟩ := hc6
    exact ⟨⟨z0, z1, z2, z3, z4, x, s⟩, _, _, _, _, rfl, ⟨h1, h4, h5, h6⟩, ⟨w0, w1, w2, w3, w4, h2, h7⟩, fun hw => ⟨h3 (wt_field Try.underlying49 hw (j := 5) rfl rfl), h8 (wt_field Try.underlying49 hw (j := 6) rfl rfl)⟩⟩
theorem open_rec {base : Nat} {v : Value} {d : DataW H} {ps : List MemPlace}
    (hok : Value.okWide Try.prog W .any base 49 v) (h : DataW.Trod enc Try.prog W 0 (fun _ => true) true 49 v d ps) : ∃ r, IsRec W v r ∧ IsRec.size r ≤ Rows.uptoBulk d ∧ (Wt Try.prog 49 d → IsRec.fits r) := by
  obtain ⟨cs, rfl, hsz⟩ := okWide_struct Try.underlying49 hok
  obtain ⟨fuel, hf⟩ := h
  obtain ⟨r, vc, vn, vh, vl, hcs, h1, h2, h4⟩ := trod_rec hf
  refine ⟨r, ⟨vc, vn, vh, vl, ?_, h1, h2⟩, Nat.zero_le _, h4⟩
  obtain ⟨q⟩ := cs
  simp only [Value.cells] at hcs
  subst hcs
  rfl
end
namespace Rc
theorem cells21 {w : World} {g : Nat} {r : RecR} {vc vn vh vl : Value} (h : w.heap[g]? = some (.cells (rArr r vc vn vh vl) 49 (0, 0))) :
    w.cell? ⟨g, 0, none⟩ = some (.int .i64 r.kind) ∧ w.cell? ⟨g, 1, none⟩ = some (.int .i64 r.vote) ∧ w.cell? ⟨g, 2, none⟩ = some (.int .u64 r.boot) ∧ w.cell? ⟨g, 3, none⟩ = some (.int .u64 r.term) ∧ w.cell? ⟨g, 4, none⟩ = some (.int .u64 r.index) ∧ w.cell? ⟨g, 5, none⟩ = some (.int .u64 r.ent.term) ∧ w.cell? ⟨g, 6, none⟩ = some (.int .i64 r.ent.cmd.kind) ∧ w.cell? ⟨g, 7, none⟩ = some (.int .i64 r.ent.cmd.node) ∧ w.cell? ⟨g, 8, none⟩ = some (.int .i64 r.ent.cmd.token) ∧ w.cell? ⟨g, 9, none⟩ = some (vc) ∧ w.cell? ⟨g, 10, none⟩ = some (.int .u64 r.ent.cmd.boot) ∧ w.cell? ⟨g, 11, none⟩ = some (.int .u64 r.ent.cmd.seq) ∧ w.cell? ⟨g, 12, none⟩ = some (.int .u64 r.ent.cmd.serial) ∧ w.cell? ⟨g, 13, none⟩ = some (.int .u64 r.ent.cmd.stamp) ∧ w.cell? ⟨g, 14, none⟩ = some (.int .u64 r.shot.index) ∧ w.cell? ⟨g, 15, none⟩ = some (.int .u64 r.shot.term) ∧ w.cell? ⟨g, 16, none⟩ = some (vn) ∧ w.cell? ⟨g, 17, none⟩ = some (.int .i64 r.shot.led.limit) ∧ w.cell? ⟨g, 18, none⟩ = some (.int .u64 r.shot.led.next) ∧ w.cell? ⟨g, 19, none⟩ = some (vh) ∧ w.cell? ⟨g, 20, none⟩ = some (vl) :=
  ⟨(cell_of_row w _ 0 _ _ _ h).trans rfl, (cell_of_row w _ 1 _ _ _ h).trans rfl, (cell_of_row w _ 2 _ _ _ h).trans rfl, (cell_of_row w _ 3 _ _ _ h).trans rfl, (cell_of_row w _ 4 _ _ _ h).trans rfl, (cell_of_row w _ 5 _ _ _ h).trans rfl, (cell_of_row w _ 6 _ _ _ h).trans rfl, (cell_of_row w _ 7 _ _ _ h).trans rfl, (cell_of_row w _ 8 _ _ _ h).trans rfl, (cell_of_row w _ 9 _ _ _ h).trans rfl, (cell_of_row w _ 10 _ _ _ h).trans rfl, (cell_of_row w _ 11 _ _ _ h).trans rfl, (cell_of_row w _ 12 _ _ _ h).trans rfl, (cell_of_row w _ 13 _ _ _ h).trans rfl, (cell_of_row w _ 14 _ _ _ h).trans rfl, (cell_of_row w _ 15 _ _ _ h).trans rfl, (cell_of_row w _ 16 _ _ _ h).trans rfl, (cell_of_row w _ 17 _ _ _ h).trans rfl, (cell_of_row w _ 18 _ _ _ h).trans rfl, (cell_of_row w _ 19 _ _ _ h).trans rfl, (cell_of_row w _ 20 _ _ _ h).trans rfl⟩
theorem rArr_one (r : RecR) (a b c d : Option Addr) (i j k m p q x y : Nat) : (rArr r (.slice a i j) (.slice b k m) (.slice c p q) (.slice d x y)).all (·.oneCell') = true := by simp [Value.oneCell']
def zEntV : Ent := ⟨0, ⟨0, 0, 0, [], 0, 0, 0, 0⟩⟩
def zShoV : Sho := ⟨0, 0, [], ⟨0, 0, [], []⟩⟩
def unusedR (r : RecR) : RecR :=
  if r.kind = 1 then { r with boot := 0 } else if r.kind = 2 then { r with term := 0, vote := 0 } else if r.kind = 3 then { r with index := 0, ent := zEntV } else if r.kind = 4 then { r with index := 0 } else if r.kind = 5 then { r with shot := zShoV } else r
theorem there_row {w : World} {g : Nat} {cs : Array Value} {t : TypeId} (h : w.heap[g]? = some (.cells cs t (0, 0))) (o n : Nat) (hn : o + n ≤ cs.size) : w.there g o n := by
  intro j hj
  refine ⟨?_, La.frozen_of h⟩
  rw [cell_of_row w g (o + j) _ _ _ h, Array.getElem?_eq_getElem (by omega)]
  rfl
def setsA : Array Value → Nat → List Value → Array Value
  | cs, _, [] => cs
  | cs, o, v :: r => setsA (cs.setIfInBounds o v) (o + 1) r
theorem heap_setCells (g : Nat) {t : TypeId} : ∀ (vs : List Value) (o : Nat) {w : World} {cs : Array Value}, w.heap[g]? = some (.cells cs t (0, 0)) → (w.setCells g o vs).heap[g]? = some (.cells (setsA cs o vs) t (0, 0))
  | [], _, _, _, h => h
  | v :: r, o, w, cs, h => heap_setCells g r (o + 1) (heap_setCell_same w g o _ _ v h)
theorem ent_put {w : World} {g : Nat} {r : RecR} {vc vn vh vl : Value} (h : w.heap[g]? = some (.cells (rArr r vc vn vh vl) 49 (0, 0))) : (w.setCells g 5 [.int .u64 0, .int .i64 0, .int .i64 0, .int .i64 0, .slice none 0 0, .int .u64 0, .int .u64 0, .int .u64 0, .int .u64 0]).heap[g]? = some (.cells (rArr { r with ent := zEntV } (.slice none 0 0) vn vh vl) 49 (0, 0)) := by
  rw [heap_setCells g _ _ h]
  simp [setsA, zEntV]
theorem shot_put {w : World} {g : Nat} {r : RecR} {vc vn vh vl : Value} (h : w.heap[g]? = some (.cells (rArr r vc vn vh vl) 49 (0, 0))) : (w.setCells g 14 [.int .u64 0, .int .u64 0, .slice none 0 0, .int .i64 0, .int .u64 0, .slice none 0 0, .slice none 0 0]).heap[g]? = some (.cells (rArr { r with shot := zShoV } vc (.slice none 0 0) (.slice none 0 0) (.slice none 0 0)) 49 (0, 0)) := by
  rw [heap_setCells g _ _ h]
  simp [setsA, zShoV]
theorem zEnt_wf : zEntV.wf := ⟨by decide, by unfold Cmd.wf; decide⟩
theorem zSho_wf : zShoV.wf := ⟨by decide, by decide, by decide, by decide, by simp [zShoV], by simp [zShoV]⟩
theorem setCells_other (g q : Nat) : ∀ (vs : List Value) (o : Nat) {w : World}, q ≠ g → (w.setCells g o vs).heap[q]? = w.heap[q]?
  | [], _, _, _ => rfl
  | v :: r, o, w, h => (setCells_other g q r (o + 1) h).trans (heap_setCell_other _ _ _ _ (by show q ≠ g; exact h))
theorem setCells_below (p : Nat) {g : Nat} (hg : p ≤ g) : ∀ (vs : List Value) (o : Nat) (w : World), Below p w (w.setCells g o vs)
  | [], _, _ => Below.refl _ _
  | v :: r, o, w => ((Below.refl _ _).setCell hg _).trans (setCells_below p hg r (o + 1) _)
def GivesRec (r : RecR) (w : World) (e : Ending) (w' : World) : Prop := ∃ v, e = .returned v ∧ IsRec w' v r ∧ Below w.heap.size w w'
/-- the two boxes at the beginning -/
theorem boxR (w : World) (cs : Array Value) : ∃ W, (w.alloc (.cells cs 49)).alloc (.cells zR 49) = W ∧ Below w.heap.size w W ∧ W.heap.size = w.heap.size + 2 ∧ W.heap[w.heap.size]? = some (.cells cs 49 (0, 0)) ∧ W.heap[w.heap.size + 1]? = some (.cells zR 49 (0, 0)) :=
  ⟨_, rfl, ((Below.refl _ _).alloc (Nat.le_refl _) _).alloc (by simp) _, by simp, (heap_alloc_old _ _ (by simp)).trans (heap_alloc_new _ _), La.new2 _ _ _⟩
set_option maxHeartbeats 4000000 in
theorem unused_any (r : RecR) (v : Value) (w : World) (h : IsRec w v r) : Calls Try.prog 100 #[v] w (GivesRec (unusedR r) w) := by
  obtain ⟨vc, vn, vh, vl, rfl, ⟨hc, hn, hh, hl⟩, hwf⟩ := id h
  obtain ⟨a1, b1, rfl, -⟩ := id hc
  obtain ⟨a2, b2, rfl, -⟩ := id hn
  obtain ⟨a3, b3, rfl, -⟩ := id hh
  obtain ⟨a4, b4, rfl, -⟩ := id hl
  obtain ⟨W1, hW1, hb1, hz1, hA1, hB1⟩ := boxR w (rArr r (.slice a1 r.ent.cmd.nodes.length b1) (.slice a2 r.shot.nodes.length b2) (.slice a3 r.shot.led.held.length b3) (.slice a4 r.shot.led.last.length b4))
  have HL := Lib.hid (⟨hc, hn, hh, hl⟩ : RecL w r (.slice a1 r.ent.cmd.nodes.length b1) (.slice a2 r.shot.nodes.length b2) (.slice a3 r.shot.led.held.length b3) (.slice a4 r.shot.led.last.length b4))
  have HWF := Lib.hid hwf
  have HB1 := Lib.hid hb1
  have HA1 := Lib.hid hA1
  have HR1 := Lib.hid hB1
  have q0 := (cells21 hA1).1
  clear h hc hn hh hl hwf hb1 hz1 hA1 hB1
  by_cases hk1 : r.kind = 1
  · have HK := Lib.hid hk1
    have n1 : (r.kind == 1) = true := beq_iff_eq.2 hk1
    have c2 := (cell_of_row W1 _ 2 _ _ _ HA1.out).trans rfl
    have f2 := La.frozen_of (o := 2) HA1.out
    clear hk1
    obtain ⟨W2, hW2⟩ : ∃ q, W1.setCell ⟨w.heap.size, 2, none⟩ (.int .u64 0) = q := ⟨_, rfl⟩
    have hAW2 : W2.heap[w.heap.size]? = some (.cells (rArr { r with boot := 0 } (.slice a1 r.ent.cmd.nodes.length b1) (.slice a2 r.shot.nodes.length b2) (.slice a3 r.shot.led.held.length b3) (.slice a4 r.shot.led.last.length b4)) 49 (0, 0)) := by rw [← hW2, heap_setCell_same W1 w.heap.size 2 _ _ _ HA1.out]; rfl
    have hEW2 : W2.heap[w.heap.size + 1]? = some (.cells zR 49 (0, 0)) := by rw [← hW2]; exact (heap_setCell_other _ _ _ _ (by show w.heap.size + 1 ≠ w.heap.size; omega)).trans HR1.out
    have hbW2 : Below w.heap.size w W2 := by rw [← hW2]; exact HB1.out.setCell (Nat.le_refl _) _
    have hA2 := hAW2
    have hB2 := hEW2
    have hb2 := hbW2
    clear hAW2 hEW2 hbW2
    have HA2 : Hid (W2.heap[w.heap.size]? = some (.cells (rArr { r with boot := 0 } (.slice a1 r.ent.cmd.nodes.length b1) (.slice a2 r.shot.nodes.length b2) (.slice a3 r.shot.led.held.length b3) (.slice a4 r.shot.led.last.length b4)) 49 (0, 0))) := Lib.hid hA2
    have HR2 : Hid (W2.heap[w.heap.size + 1]? = some (.cells zR 49 (0, 0))) := Lib.hid hB2
    have HFIN : Hid (GivesRec (unusedR r) w (.returned (.agg (rArr { r with boot := 0 } (.slice a1 r.ent.cmd.nodes.length b1) (.slice a2 r.shot.nodes.length b2) (.slice a3 r.shot.led.held.length b3) (.slice a4 r.shot.led.last.length b4)))) (W2.setRow (w.heap.size + 1) (rArr { r with boot := 0 } (.slice a1 r.ent.cmd.nodes.length b1) (.slice a2 r.shot.nodes.length b2) (.slice a3 r.shot.led.held.length b3) (.slice a4 r.shot.led.last.length b4)))) := Lib.hid (by
      have hb3 := Ld.below_row hb2 (show w.heap.size ≤ w.heap.size + 1 by omega) (rArr { r with boot := 0 } (.slice a1 r.ent.cmd.nodes.length b1) (.slice a2 r.shot.nodes.length b2) (.slice a3 r.shot.led.held.length b3) (.slice a4 r.shot.led.last.length b4))
      have he : unusedR r = { r with boot := 0 } := by unfold unusedR; rw [if_pos HK.out]
      rw [he]
      exact ⟨_, rfl, ⟨_, _, _, _, rfl, ⟨HL.out.1.below hb3 (Nat.le_refl _), HL.out.2.1.below hb3 (Nat.le_refl _), HL.out.2.2.1.below hb3 (Nat.le_refl _), HL.out.2.2.2.below hb3 (Nat.le_refl _)⟩, ⟨HWF.out.1, HWF.out.2.1, (show (Lit.int .u64 0).wf = true by decide), HWF.out.2.2.2.1, HWF.out.2.2.2.2.1, HWF.out.2.2.2.2.2.1, HWF.out.2.2.2.2.2.2⟩⟩, hb3⟩)
    clear hA2 hB2 hb2
    go_enter Try.func100, Try.ntmps100
    go_wp2_with (first
      | (with_reducible refine wpList_load_row rfl 49 (.tmp 1) rfl w.heap.size rfl 49 (rArr { r with boot := 0 } (.slice a1 r.ent.cmd.nodes.length b1) (.slice a2 r.shot.nodes.length b2) (.slice a3 r.shot.led.held.length b3) (.slice a4 r.shot.led.last.length b4)) (0, 0) _ HA2.out Try.underlying49 rfl (by kernel_rfl) ?_)
      | (with_reducible refine wpList_store_row rfl 49 (.tmp 2) (.tmp 24) rfl (w.heap.size + 1) (rArr { r with boot := 0 } (.slice a1 r.ent.cmd.nodes.length b1) (.slice a2 r.shot.nodes.length b2) (.slice a3 r.shot.led.held.length b3) (.slice a4 r.shot.led.last.length b4)) rfl rfl 49 _ HR2.out (by kernel_rfl) rfl (rArr_one _ _ _ _ _ _ _ _ _ _ _ _ _) ?_))
    exact bodyPost_ret (v := .agg (rArr { r with boot := 0 } (.slice a1 r.ent.cmd.nodes.length b1) (.slice a2 r.shot.nodes.length b2) (.slice a3 r.shot.led.held.length b3) (.slice a4 r.shot.led.last.length b4))) (results_cell_row rfl _ _ (w.heap.size + 1) 49 _ (0, 0) _ rfl (setRow_heap _ _ _ _ _ _ HR2.out) Try.underlying49 rfl (by kernel_rfl)) rfl HFIN.out
  by_cases hk2 : r.kind = 2
  · have HK := Lib.hid hk2
    have n1 : (r.kind == 1) = false := beq_eq_false_iff_ne.2 (by omega)
    have n2 : (r.kind == 2) = true := beq_iff_eq.2 hk2
    have c3 := (cell_of_row W1 _ 3 _ _ _ HA1.out).trans rfl
    have f3 := La.frozen_of (o := 3) HA1.out
    have HN1 := Lib.hid hk1
    clear hk1 hk2
    obtain ⟨W2, hW2⟩ : ∃ q, W1.setCell ⟨w.heap.size, 3, none⟩ (.int .u64 0) = q := ⟨_, rfl⟩
    have hAW2 : W2.heap[w.heap.size]? = some (.cells (rArr { r with term := 0 } (.slice a1 r.ent.cmd.nodes.length b1) (.slice a2 r.shot.nodes.length b2) (.slice a3 r.shot.led.held.length b3) (.slice a4 r.shot.led.last.length b4)) 49 (0, 0)) := by rw [← hW2, heap_setCell_same W1 w.heap.size 3 _ _ _ HA1.out]; rfl
    have hEW2 : W2.heap[w.heap.size + 1]? = some (.cells zR 49 (0, 0)) := by rw [← hW2]; exact (heap_setCell_other _ _ _ _ (by show w.heap.size + 1 ≠ w.heap.size; omega)).trans HR1.out
    have hbW2 : Below w.heap.size w W2 := by rw [← hW2]; exact HB1.out.setCell (Nat.le_refl _) _
    have c1b := (cell_of_row W2 _ 1 _ _ _ hAW2).trans rfl
    have f1b := La.frozen_of (o := 1) hAW2
    obtain ⟨W3, hW3⟩ : ∃ q, W2.setCell ⟨w.heap.size, 1, none⟩ (.int .i64 0) = q := ⟨_, rfl⟩
    have hAW3 : W3.heap[w.heap.size]? = some (.cells (rArr { r with term := 0, vote := 0 } (.slice a1 r.ent.cmd.nodes.length b1) (.slice a2 r.shot.nodes.length b2) (.slice a3 r.shot.led.held.length b3) (.slice a4 r.shot.led.last.length b4)) 49 (0, 0)) := by rw [← hW3, heap_setCell_same W2 w.heap.size 1 _ _ _ hAW2]; rfl
    have hEW3 : W3.heap[w.heap.size + 1]? = some (.cells zR 49 (0, 0)) := by rw [← hW3]; exact (heap_setCell_other _ _ _ _ (by show w.heap.size + 1 ≠ w.heap.size; omega)).trans hEW2
    have hbW3 : Below w.heap.size w W3 := by rw [← hW3]; exact hbW2.setCell (Nat.le_refl _) _
    have hA2 := hAW3
    have hB2 := hEW3
    have hb2 := hbW3
    clear hAW3 hEW3 hbW3
    clear hAW2 hEW2 hbW2
    have HA2 : Hid (W3.heap[w.heap.size]? = some (.cells (rArr { r with term := 0, vote := 0 } (.slice a1 r.ent.cmd.nodes.length b1) (.slice a2 r.shot.nodes.length b2) (.slice a3 r.shot.led.held.length b3) (.slice a4 r.shot.led.last.length b4)) 49 (0, 0))) := Lib.hid hA2
    have HR2 : Hid (W3.heap[w.heap.size + 1]? = some (.cells zR 49 (0, 0))) := Lib.hid hB2
    have HFIN : Hid (GivesRec (unusedR r) w (.returned (.agg (rArr { r with term := 0, vote := 0 } (.slice a1 r.ent.cmd.nodes.length b1) (.slice a2 r.shot.nodes.length b2) (.slice a3 r.shot.led.held.length b3) (.slice a4 r.shot.led.last.length b4)))) (W3.setRow (w.heap.size + 1) (rArr { r with term := 0, vote := 0 } (.slice a1 r.ent.cmd.nodes.length b1) (.slice a2 r.shot.nodes.length b2) (.slice a3 r.shot.led.held.length b3) (.slice a4 r.shot.led.last.length b4)))) := Lib.hid (by
      have hb3 := Ld.below_row hb2 (show w.heap.size ≤ w.heap.size + 1 by omega) (rArr { r with term := 0, vote := 0 } (.slice a1 r.ent.cmd.nodes.length b1) (.slice a2 r.shot.nodes.length b2) (.slice a3 r.shot.led.held.length b3) (.slice a4 r.shot.led.last.length b4))
      have he : unusedR r = { r with term := 0, vote := 0 } := by unfold unusedR; rw [if_neg HN1.out]; rw [if_pos HK.out]
      rw [he]
      exact ⟨_, rfl, ⟨_, _, _, _, rfl, ⟨HL.out.1.below hb3 (Nat.le_refl _), HL.out.2.1.below hb3 (Nat.le_refl _), HL.out.2.2.1.below hb3 (Nat.le_refl _), HL.out.2.2.2.below hb3 (Nat.le_refl _)⟩, ⟨HWF.out.1, (show (Lit.int .i64 0).wf = true by decide), HWF.out.2.2.1, (show (Lit.int .u64 0).wf = true by decide), HWF.out.2.2.2.2.1, HWF.out.2.2.2.2.2.1, HWF.out.2.2.2.2.2.2⟩⟩, hb3⟩)
    clear hA2 hB2 hb2
    go_enter Try.func100, Try.ntmps100
    go_wp2_with (first
      | (with_reducible refine wpList_load_row rfl 49 (.tmp 1) rfl w.heap.size rfl 49 (rArr { r with term := 0, vote := 0 } (.slice a1 r.ent.cmd.nodes.length b1) (.slice a2 r.shot.nodes.length b2) (.slice a3 r.shot.led.held.length b3) (.slice a4 r.shot.led.last.length b4)) (0, 0) _ HA2.out Try.underlying49 rfl (by kernel_rfl) ?_)
      | (with_reducible refine wpList_store_row rfl 49 (.tmp 2) (.tmp 24) rfl (w.heap.size + 1) (rArr { r with term := 0, vote := 0 } (.slice a1 r.ent.cmd.nodes.length b1) (.slice a2 r.shot.nodes.length b2) (.slice a3 r.shot.led.held.length b3) (.slice a4 r.shot.led.last.length b4)) rfl rfl 49 _ HR2.out (by kernel_rfl) rfl (rArr_one _ _ _ _ _ _ _ _ _ _ _ _ _) ?_))
    exact bodyPost_ret (v := .agg (rArr { r with term := 0, vote := 0 } (.slice a1 r.ent.cmd.nodes.length b1) (.slice a2 r.shot.nodes.length b2) (.slice a3 r.shot.led.held.length b3) (.slice a4 r.shot.led.last.length b4))) (results_cell_row rfl _ _ (w.heap.size + 1) 49 _ (0, 0) _ rfl (setRow_heap _ _ _ _ _ _ HR2.out) Try.underlying49 rfl (by kernel_rfl)) rfl HFIN.out
  by_cases hk3 : r.kind = 3
  · have HK := Lib.hid hk3
    have n1 : (r.kind == 1) = false := beq_eq_false_iff_ne.2 (by omega)
    have n2 : (r.kind == 2) = false := beq_eq_false_iff_ne.2 (by omega)
    have n3 : (r.kind == 3) = true := beq_iff_eq.2 hk3
    have c4 := (cell_of_row W1 _ 4 _ _ _ HA1.out).trans rfl
    have f4 := La.frozen_of (o := 4) HA1.out
    have HN1 := Lib.hid hk1
    have HN2 := Lib.hid hk2
    clear hk1 hk2 hk3
    obtain ⟨W2, hW2⟩ : ∃ q, W1.setCell ⟨w.heap.size, 4, none⟩ (.int .u64 0) = q := ⟨_, rfl⟩
    have hAW2 : W2.heap[w.heap.size]? = some (.cells (rArr { r with index := 0 } (.slice a1 r.ent.cmd.nodes.length b1) (.slice a2 r.shot.nodes.length b2) (.slice a3 r.shot.led.held.length b3) (.slice a4 r.shot.led.last.length b4)) 49 (0, 0)) := by rw [← hW2, heap_setCell_same W1 w.heap.size 4 _ _ _ HA1.out]; rfl
    have hEW2 : W2.heap[w.heap.size + 1]? = some (.cells zR 49 (0, 0)) := by rw [← hW2]; exact (heap_setCell_other _ _ _ _ (by show w.heap.size + 1 ≠ w.heap.size; omega)).trans HR1.out
    have hbW2 : Below w.heap.size w W2 := by rw [← hW2]; exact HB1.out.setCell (Nat.le_refl _) _
    have hth : W2.there w.heap.size 5 9 := there_row hAW2 5 9 (by simp)
    obtain ⟨W3, hW3⟩ : ∃ q, W2.setCells w.heap.size 5 [.int .u64 0, .int .i64 0, .int .i64 0, .int .i64 0, .slice none 0 0, .int .u64 0, .int .u64 0, .int .u64 0, .int .u64 0] = q := ⟨_, rfl⟩
    have hAW3 : W3.heap[w.heap.size]? = some (.cells (rArr { r with index := 0, ent := zEntV } (.slice none 0 0) (.slice a2 r.shot.nodes.length b2) (.slice a3 r.shot.led.held.length b3) (.slice a4 r.shot.led.last.length b4)) 49 (0, 0)) := by rw [← hW3]; exact ent_put hAW2
    have hEW3 : W3.heap[w.heap.size + 1]? = some (.cells zR 49 (0, 0)) := by rw [← hW3]; exact (setCells_other _ _ _ _ (by omega)).trans hEW2
    have hbW3 : Below w.heap.size w W3 := by rw [← hW3]; exact hbW2.trans (setCells_below _ (Nat.le_refl _) _ _ _)
    have hA2 := hAW3
    have hB2 := hEW3
    have hb2 := hbW3
    clear hAW3 hEW3 hbW3
    clear hAW2 hEW2 hbW2
    have HA2 : Hid (W3.heap[w.heap.size]? = some (.cells (rArr { r with index := 0, ent := zEntV } (.slice none 0 0) (.slice a2 r.shot.nodes.length b2) (.slice a3 r.shot.led.held.length b3) (.slice a4 r.shot.led.last.length b4)) 49 (0, 0))) := Lib.hid hA2
    have HR2 : Hid (W3.heap[w.heap.size + 1]? = some (.cells zR 49 (0, 0))) := Lib.hid hB2
    have HFIN : Hid (GivesRec (unusedR r) w (.returned (.agg (rArr { r with index := 0, ent := zEntV } (.slice none 0 0) (.slice a2 r.shot.nodes.length b2) (.slice a3 r.shot.led.held.length b3) (.slice a4 r.shot.led.last.length b4)))) (W3.setRow (w.heap.size + 1) (rArr { r with index := 0, ent := zEntV } (.slice none 0 0) (.slice a2 r.shot.nodes.length b2) (.slice a3 r.shot.led.held.length b3) (.slice a4 r.shot.led.last.length b4)))) := Lib.hid (by
      have hb3 := Ld.below_row hb2 (show w.heap.size ≤ w.heap.size + 1 by omega) (rArr { r with index := 0, ent := zEntV } (.slice none 0 0) (.slice a2 r.shot.nodes.length b2) (.slice a3 r.shot.led.held.length b3) (.slice a4 r.shot.led.last.length b4))
      have he : unusedR r = { r with index := 0, ent := zEntV } := by unfold unusedR; rw [if_neg HN1.out]; rw [if_neg HN2.out]; rw [if_pos HK.out]
      rw [he]
      exact ⟨_, rfl, ⟨_, _, _, _, rfl, ⟨Cm.sl_nil _ _, HL.out.2.1.below hb3 (Nat.le_refl _), HL.out.2.2.1.below hb3 (Nat.le_refl _), HL.out.2.2.2.below hb3 (Nat.le_refl _)⟩, ⟨HWF.out.1, HWF.out.2.1, HWF.out.2.2.1, HWF.out.2.2.2.1, (show (Lit.int .u64 0).wf = true by decide), zEnt_wf, HWF.out.2.2.2.2.2.2⟩⟩, hb3⟩)
    clear hA2 hB2 hb2
    go_enter Try.func100, Try.ntmps100
    go_wp2_with (first
      | (refine wpList_store_mid rfl 47 (.tmp 16) (.tmp 14) rfl w.heap.size 5 #[.int .u64 0, .int .i64 0, .int .i64 0, .int .i64 0, .slice none 0 0, .int .u64 0, .int .u64 0, .int .u64 0, .int .u64 0] rfl rfl hth (by kernel_rfl) (by simp [Value.oneCell']) ?_; rw [hW3]; clear hW3 hth)
      | (with_reducible refine wpList_load_row rfl 49 (.tmp 1) rfl w.heap.size rfl 49 (rArr { r with index := 0, ent := zEntV } (.slice none 0 0) (.slice a2 r.shot.nodes.length b2) (.slice a3 r.shot.led.held.length b3) (.slice a4 r.shot.led.last.length b4)) (0, 0) _ HA2.out Try.underlying49 rfl (by kernel_rfl) ?_)
      | (with_reducible refine wpList_store_row rfl 49 (.tmp 2) (.tmp 24) rfl (w.heap.size + 1) (rArr { r with index := 0, ent := zEntV } (.slice none 0 0) (.slice a2 r.shot.nodes.length b2) (.slice a3 r.shot.led.held.length b3) (.slice a4 r.shot.led.last.length b4)) rfl rfl 49 _ HR2.out (by kernel_rfl) rfl (rArr_one _ _ _ _ _ _ _ _ _ _ _ _ _) ?_))
    exact bodyPost_ret (v := .agg (rArr { r with index := 0, ent := zEntV } (.slice none 0 0) (.slice a2 r.shot.nodes.length b2) (.slice a3 r.shot.led.held.length b3) (.slice a4 r.shot.led.last.length b4))) (results_cell_row rfl _ _ (w.heap.size + 1) 49 _ (0, 0) _ rfl (setRow_heap _ _ _ _ _ _ HR2.out) Try.underlying49 rfl (by kernel_rfl)) rfl HFIN.out
  by_cases hk4 : r.kind = 4
  · have HK := Lib.hid hk4
    have n1 : (r.kind == 1) = false := beq_eq_false_iff_ne.2 (by omega)
    have n2 : (r.kind == 2) = false := beq_eq_false_iff_ne.2 (by omega)
    have n3 : (r.kind == 3) = false := beq_eq_false_iff_ne.2 (by omega)
    have n4 : (r.kind == 4) = true := beq_iff_eq.2 hk4
    have c4 := (cell_of_row W1 _ 4 _ _ _ HA1.out).trans rfl
    have f4 := La.frozen_of (o := 4) HA1.out
    have HN1 := Lib.hid hk1
    have HN2 := Lib.hid hk2
    have HN3 := Lib.hid hk3
    clear hk1 hk2 hk3 hk4
    obtain ⟨W2, hW2⟩ : ∃ q, W1.setCell ⟨w.heap.size, 4, none⟩ (.int .u64 0) = q := ⟨_, rfl⟩
    have hAW2 : W2.heap[w.heap.size]? = some (.cells (rArr { r with index := 0 } (.slice a1 r.ent.cmd.nodes.length b1) (.slice a2 r.shot.nodes.length b2) (.slice a3 r.shot.led.held.length b3) (.slice a4 r.shot.led.last.length b4)) 49 (0, 0)) := by rw [← hW2, heap_setCell_same W1 w.heap.size 4 _ _ _ HA1.out]; rfl
    have hEW2 : W2.heap[w.heap.size + 1]? = some (.cells zR 49 (0, 0)) := by rw [← hW2]; exact (heap_setCell_other _ _ _ _ (by show w.heap.size + 1 ≠ w.heap.size; omega)).trans HR1.out
    have hbW2 : Below w.heap.size w W2 := by rw [← hW2]; exact HB1.out.setCell (Nat.le_refl _) _
    have hA2 := hAW2
    have hB2 := hEW2
    have hb2 := hbW2
    clear hAW2 hEW2 hbW2
    have HA2 : Hid (W2.heap[w.heap.size]? = some (.cells (rArr { r with index := 0 } (.slice a1 r.ent.cmd.nodes.length b1) (.slice a2 r.shot.nodes.length b2) (.slice a3 r.shot.led.held.length b3) (.slice a4 r.shot.led.last.length b4)) 49 (0, 0))) := Lib.hid hA2
    have HR2 : Hid (W2.heap[w.heap.size + 1]? = some (.cells zR 49 (0, 0))) := Lib.hid hB2
    have HFIN : Hid (GivesRec (unusedR r) w (.returned (.agg (rArr { r with index := 0 } (.slice a1 r.ent.cmd.nodes.length b1) (.slice a2 r.shot.nodes.length b2) (.slice a3 r.shot.led.held.length b3) (.slice a4 r.shot.led.last.length b4)))) (W2.setRow (w.heap.size + 1) (rArr { r with index := 0 } (.slice a1 r.ent.cmd.nodes.length b1) (.slice a2 r.shot.nodes.length b2) (.slice a3 r.shot.led.held.length b3) (.slice a4 r.shot.led.last.length b4)))) := Lib.hid (by
      have hb3 := Ld.below_row hb2 (show w.heap.size ≤ w.heap.size + 1 by omega) (rArr { r with index := 0 } (.slice a1 r.ent.cmd.nodes.length b1) (.slice a2 r.shot.nodes.length b2) (.slice a3 r.shot.led.held.length b3) (.slice a4 r.shot.led.last.length b4))
      have he : unusedR r = { r with index := 0 } := by unfold unusedR; rw [if_neg HN1.out]; rw [if_neg HN2.out]; rw [if_neg HN3.out]; rw [if_pos HK.out]
      rw [he]
      exact ⟨_, rfl, ⟨_, _, _, _, rfl, ⟨HL.out.1.below hb3 (Nat.le_refl _), HL.out.2.1.below hb3 (Nat.le_refl _), HL.out.2.2.1.below hb3 (Nat.le_refl _), HL.out.2.2.2.below hb3 (Nat.le_refl _)⟩, ⟨HWF.out.1, HWF.out.2.1, HWF.out.2.2.1, HWF.out.2.2.2.1, (show (Lit.int .u64 0).wf = true by decide), HWF.out.2.2.2.2.2.1, HWF.out.2.2.2.2.2.2⟩⟩, hb3⟩)
    clear hA2 hB2 hb2
    go_enter Try.func100, Try.ntmps100
    go_wp2_with (first
      | (with_reducible refine wpList_load_row rfl 49 (.tmp 1) rfl w.heap.size rfl 49 (rArr { r with index := 0 } (.slice a1 r.ent.cmd.nodes.length b1) (.slice a2 r.shot.nodes.length b2) (.slice a3 r.shot.led.held.length b3) (.slice a4 r.shot.led.last.length b4)) (0, 0) _ HA2.out Try.underlying49 rfl (by kernel_rfl) ?_)
      | (with_reducible refine wpList_store_row rfl 49 (.tmp 2) (.tmp 24) rfl (w.heap.size + 1) (rArr { r with index := 0 } (.slice a1 r.ent.cmd.nodes.length b1) (.slice a2 r.shot.nodes.length b2) (.slice a3 r.shot.led.held.length b3) (.slice a4 r.shot.led.last.length b4)) rfl rfl 49 _ HR2.out (by kernel_rfl) rfl (rArr_one _ _ _ _ _ _ _ _ _ _ _ _ _) ?_))
    exact bodyPost_ret (v := .agg (rArr { r with index := 0 } (.slice a1 r.ent.cmd.nodes.length b1) (.slice a2 r.shot.nodes.length b2) (.slice a3 r.shot.led.held.length b3) (.slice a4 r.shot.led.last.length b4))) (results_cell_row rfl _ _ (w.heap.size + 1) 49 _ (0, 0) _ rfl (setRow_heap _ _ _ _ _ _ HR2.out) Try.underlying49 rfl (by kernel_rfl)) rfl HFIN.out
  by_cases hk5 : r.kind = 5
  · have HK := Lib.hid hk5
    have n1 : (r.kind == 1) = false := beq_eq_false_iff_ne.2 (by omega)
    have n2 : (r.kind == 2) = false := beq_eq_false_iff_ne.2 (by omega)
    have n3 : (r.kind == 3) = false := beq_eq_false_iff_ne.2 (by omega)
    have n4 : (r.kind == 4) = false := beq_eq_false_iff_ne.2 (by omega)
    have n5 : (r.kind == 5) = true := beq_iff_eq.2 hk5
    have HN1 := Lib.hid hk1
    have HN2 := Lib.hid hk2
    have HN3 := Lib.hid hk3
    have HN4 := Lib.hid hk4
    clear hk1 hk2 hk3 hk4 hk5
    have hth : W1.there w.heap.size 14 7 := there_row HA1.out 14 7 (by simp)
    obtain ⟨W3, hW3⟩ : ∃ q, W1.setCells w.heap.size 14 [.int .u64 0, .int .u64 0, .slice none 0 0, .int .i64 0, .int .u64 0, .slice none 0 0, .slice none 0 0] = q := ⟨_, rfl⟩
    have hAW3 : W3.heap[w.heap.size]? = some (.cells (rArr { r with shot := zShoV } (.slice a1 r.ent.cmd.nodes.length b1) (.slice none 0 0) (.slice none 0 0) (.slice none 0 0)) 49 (0, 0)) := by rw [← hW3]; exact shot_put HA1.out
    have hEW3 : W3.heap[w.heap.size + 1]? = some (.cells zR 49 (0, 0)) := by rw [← hW3]; exact (setCells_other _ _ _ _ (by omega)).trans HR1.out
    have hbW3 : Below w.heap.size w W3 := by rw [← hW3]; exact HB1.out.trans (setCells_below _ (Nat.le_refl _) _ _ _)
    have hA2 := hAW3
    have hB2 := hEW3
    have hb2 := hbW3
    clear hAW3 hEW3 hbW3
    have HA2 : Hid (W3.heap[w.heap.size]? = some (.cells (rArr { r with shot := zShoV } (.slice a1 r.ent.cmd.nodes.length b1) (.slice none 0 0) (.slice none 0 0) (.slice none 0 0)) 49 (0, 0))) := Lib.hid hA2
    have HR2 : Hid (W3.heap[w.heap.size + 1]? = some (.cells zR 49 (0, 0))) := Lib.hid hB2
    have HFIN : Hid (GivesRec (unusedR r) w (.returned (.agg (rArr { r with shot := zShoV } (.slice a1 r.ent.cmd.nodes.length b1) (.slice none 0 0) (.slice none 0 0) (.slice none 0 0)))) (W3.setRow (w.heap.size + 1) (rArr { r with shot := zShoV } (.slice a1 r.ent.cmd.nodes.length b1) (.slice none 0 0) (.slice none 0 0) (.slice none 0 0)))) := Lib.hid (by
      have hb3 := Ld.below_row hb2 (show w.heap.size ≤ w.heap.size + 1 by omega) (rArr { r with shot := zShoV } (.slice a1 r.ent.cmd.nodes.length b1) (.slice none 0 0) (.slice none 0 0) (.slice none 0 0))
      have he : unusedR r = { r with shot := zShoV } := by unfold unusedR; rw [if_neg HN1.out]; rw [if_neg HN2.out]; rw [if_neg HN3.out]; rw [if_neg HN4.out]; rw [if_pos HK.out]
      rw [he]
      exact ⟨_, rfl, ⟨_, _, _, _, rfl, ⟨HL.out.1.below hb3 (Nat.le_refl _), Cm.sl_nil _ _, SlR.nil _, SlR.nil _⟩, ⟨HWF.out.1, HWF.out.2.1, HWF.out.2.2.1, HWF.out.2.2.2.1, HWF.out.2.2.2.2.1, HWF.out.2.2.2.2.2.1, zSho_wf⟩⟩, hb3⟩)
    clear hA2 hB2 hb2
    go_enter Try.func100, Try.ntmps100
    go_wp2_with (first
      | (refine wpList_store_mid rfl 29 (.tmp 23) (.tmp 22) rfl w.heap.size 14 #[.int .u64 0, .int .u64 0, .slice none 0 0, .int .i64 0, .int .u64 0, .slice none 0 0, .slice none 0 0] rfl rfl hth (by kernel_rfl) (by simp [Value.oneCell']) ?_; rw [hW3]; clear hW3 hth)
      | (with_reducible refine wpList_load_row rfl 49 (.tmp 1) rfl w.heap.size rfl 49 (rArr { r with shot := zShoV } (.slice a1 r.ent.cmd.nodes.length b1) (.slice none 0 0) (.slice none 0 0) (.slice none 0 0)) (0, 0) _ HA2.out Try.underlying49 rfl (by kernel_rfl) ?_)
      | (with_reducible refine wpList_store_row rfl 49 (.tmp 2) (.tmp 24) rfl (w.heap.size + 1) (rArr { r with shot := zShoV } (.slice a1 r.ent.cmd.nodes.length b1) (.slice none 0 0) (.slice none 0 0) (.slice none 0 0)) rfl rfl 49 _ HR2.out (by kernel_rfl) rfl (rArr_one _ _ _ _ _ _ _ _ _ _ _ _ _) ?_))
    exact bodyPost_ret (v := .agg (rArr { r with shot := zShoV } (.slice a1 r.ent.cmd.nodes.length b1) (.slice none 0 0) (.slice none 0 0) (.slice none 0 0))) (results_cell_row rfl _ _ (w.heap.size + 1) 49 _ (0, 0) _ rfl (setRow_heap _ _ _ _ _ _ HR2.out) Try.underlying49 rfl (by kernel_rfl)) rfl HFIN.out
  · have n1 : (r.kind == 1) = false := beq_eq_false_iff_ne.2 (by omega)
    have n2 : (r.kind == 2) = false := beq_eq_false_iff_ne.2 (by omega)
    have n3 : (r.kind == 3) = false := beq_eq_false_iff_ne.2 (by omega)
    have n4 : (r.kind == 4) = false := beq_eq_false_iff_ne.2 (by omega)
    have n5 : (r.kind == 5) = false := beq_eq_false_iff_ne.2 (by omega)
    have HN1 := Lib.hid hk1
    have HN2 := Lib.hid hk2
    have HN3 := Lib.hid hk3
    have HN4 := Lib.hid hk4
    have HN5 := Lib.hid hk5
    clear hk1 hk2 hk3 hk4 hk5
    have hA2 := HA1.out
    have hB2 := HR1.out
    have hb2 := HB1.out
    have HA2 : Hid (W1.heap[w.heap.size]? = some (.cells (rArr r (.slice a1 r.ent.cmd.nodes.length b1) (.slice a2 r.shot.nodes.length b2) (.slice a3 r.shot.led.held.length b3) (.slice a4 r.shot.led.last.length b4)) 49 (0, 0))) := Lib.hid hA2
    have HR2 : Hid (W1.heap[w.heap.size + 1]? = some (.cells zR 49 (0, 0))) := Lib.hid hB2
    have HFIN : Hid (GivesRec (unusedR r) w (.returned (.agg (rArr r (.slice a1 r.ent.cmd.nodes.length b1) (.slice a2 r.shot.nodes.length b2) (.slice a3 r.shot.led.held.length b3) (.slice a4 r.shot.led.last.length b4)))) (W1.setRow (w.heap.size + 1) (rArr r (.slice a1 r.ent.cmd.nodes.length b1) (.slice a2 r.shot.nodes.length b2) (.slice a3 r.shot.led.held.length b3) (.slice a4 r.shot.led.last.length b4)))) := Lib.hid (by
      have hb3 := Ld.below_row hb2 (show w.heap.size ≤ w.heap.size + 1 by omega) (rArr r (.slice a1 r.ent.cmd.nodes.length b1) (.slice a2 r.shot.nodes.length b2) (.slice a3 r.shot.led.held.length b3) (.slice a4 r.shot.led.last.length b4))
      have he : unusedR r = r := by unfold unusedR; rw [if_neg HN1.out]; rw [if_neg HN2.out]; rw [if_neg HN3.out]; rw [if_neg HN4.out]; rw [if_neg HN5.out]
      rw [he]
      exact ⟨_, rfl, ⟨_, _, _, _, rfl, ⟨HL.out.1.below hb3 (Nat.le_refl _), HL.out.2.1.below hb3 (Nat.le_refl _), HL.out.2.2.1.below hb3 (Nat.le_refl _), HL.out.2.2.2.below hb3 (Nat.le_refl _)⟩, ⟨HWF.out.1, HWF.out.2.1, HWF.out.2.2.1, HWF.out.2.2.2.1, HWF.out.2.2.2.2.1, HWF.out.2.2.2.2.2.1, HWF.out.2.2.2.2.2.2⟩⟩, hb3⟩)
    clear hA2 hB2 hb2
    go_enter Try.func100, Try.ntmps100
    go_wp2_with (first
      | (with_reducible refine wpList_load_row rfl 49 (.tmp 1) rfl w.heap.size rfl 49 (rArr r (.slice a1 r.ent.cmd.nodes.length b1) (.slice a2 r.shot.nodes.length b2) (.slice a3 r.shot.led.held.length b3) (.slice a4 r.shot.led.last.length b4)) (0, 0) _ HA2.out Try.underlying49 rfl (by kernel_rfl) ?_)
      | (with_reducible refine wpList_store_row rfl 49 (.tmp 2) (.tmp 24) rfl (w.heap.size + 1) (rArr r (.slice a1 r.ent.cmd.nodes.length b1) (.slice a2 r.shot.nodes.length b2) (.slice a3 r.shot.led.held.length b3) (.slice a4 r.shot.led.last.length b4)) rfl rfl 49 _ HR2.out (by kernel_rfl) rfl (rArr_one _ _ _ _ _ _ _ _ _ _ _ _ _) ?_))
    exact bodyPost_ret (v := .agg (rArr r (.slice a1 r.ent.cmd.nodes.length b1) (.slice a2 r.shot.nodes.length b2) (.slice a3 r.shot.led.held.length b3) (.slice a4 r.shot.led.last.length b4))) (results_cell_row rfl _ _ (w.heap.size + 1) 49 _ (0, 0) _ rfl (setRow_heap _ _ _ _ _ _ HR2.out) Try.underlying49 rfl (by kernel_rfl)) rfl HFIN.out
end Rc
end Go.Proofs.Ytlkgmjhejocobaa
