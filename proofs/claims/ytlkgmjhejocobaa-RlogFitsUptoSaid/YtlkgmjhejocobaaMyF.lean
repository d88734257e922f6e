/- The term of an index and what a record changes, by the document: TermAt, done (kinds 1, 2, 4). No condition but the bounds of what may last. -/
import Derived.Test.YtlkgmjhejocobaaMyD
import Derived.Test.YtlkgmjhejocobaaMyE
import Derived.Test.YtlkgmjhejocobaaHdR
import Derived.Test.YtlkgmjhejocobaaDoQ
import Derived.Test.YtlkgmjhejocobaaBsM
import Derived.Deep.QuietTactic
import Derived.BigQuiet
import Derived.Deep.MidRow
import Derived.Deep.AppendLies
import Derived.Deep.RegionHeld3
namespace Go.Proofs.Ytlkgmjhejocobaa
open Go.ChangeShapes Go.WideShapes Go.ChangeAt Go.RowKit Go.Deep
set_option linter.unusedVariables false
set_option maxRecDepth 100000
namespace Rc
open Hd Nv
/-- the term at an index that is not below the snapshot's -/
def termL (h : Har) (k : Nat) : Int := if k ≤ h.log.length then befE h.shot.term (h.log.take k) else 0
def SaysT (h : Har) (k : Nat) (w : World) (e : Ending) (w' : World) : Prop := e = .returned (.tuple #[.int .u64 (termL h k), .bool (decide (k ≤ h.log.length))]) ∧ Below w.heap.size w w'
theorem says_t {h : Har} {k : Nat} {t : Int} {b : Bool} {w w' : World} (ht : termL h k = t) (hb : decide (k ≤ h.log.length) = b) (hw : Below w.heap.size w w') : SaysT h k w (.returned (.tuple #[.int .u64 t, .bool b])) w' := by
  subst ht hb
  exact ⟨rfl, hw⟩
theorem termL_far {h : Har} {k : Nat} (c : ¬ k ≤ h.log.length) : termL h k = 0 := if_neg c
theorem termL_zero {h : Har} : termL h 0 = h.shot.term := by
  unfold termL
  rw [if_pos (Nat.zero_le _), List.take_zero, befE_nil]
set_option maxHeartbeats 4000000 in
theorem term_any (h : Har) (v : Value) (i : Int) (k : Nat) (w : World) (hh : IsHard w v h) (hk : i = h.shot.index + k) (hi : h.shot.index + h.log.length ≤ 4611686018427387904) (hu : i ≤ 18446744073709551615) : Calls Try.prog 74 #[v, .int .u64 i] w (SaysT h k w) := by
  have hwf := IsHard.harW hh
  have HIH := Lib.hid hh
  obtain ⟨vn, vh, vl, vg, rfl, hn, hhe, hl, hg, -⟩ := id hh
  obtain ⟨g1, q1, rfl, -⟩ := id hn
  obtain ⟨g2, q2, rfl, -⟩ := id hhe
  obtain ⟨g3, q3, rfl, -⟩ := id hl
  obtain ⟨rows, a4, q4, rfl, hrl, hlc, hcm, hrc, -, hget⟩ := log_rows hg
  have hx0 := Ld.u64_nonneg hwf.1.2.2.2.1
  obtain ⟨W0, hW0⟩ : ∃ q, w.alloc (.cells (hArr h (.slice g1 h.shot.nodes.length q1) (.slice g2 h.shot.led.held.length q2) (.slice g3 h.shot.led.last.length q3) (.slice a4 h.log.length q4)) 43) = q := ⟨_, rfl⟩
  have hA0 : W0.heap[w.heap.size]? = some (.cells (hArr h (.slice g1 h.shot.nodes.length q1) (.slice g2 h.shot.led.held.length q2) (.slice g3 h.shot.led.last.length q3) (.slice a4 h.log.length q4)) 43 (0, 0)) := by rw [← hW0]; exact heap_alloc_new _ _
  have hb0 : Below w.heap.size w W0 := by rw [← hW0]; exact (Below.refl _ _).alloc (Nat.le_refl _) _
  have HB0 := Lib.hid hb0
  have HA0 := Lib.hid hA0
  have HI0 := Lib.hid (hh.below hb0 (Nat.le_refl _))
  have HIX : Hid (h.shot.index ≤ 4611686018427387904) := Lib.hid (by omega)
  obtain ⟨d0, d1, d2, d3, d4, d5, d6, d7, d8, d9, d10⟩ := cells11 hA0
  have hlen0 : (h.log.length : Int) ≤ 4611686018427387904 := by omega
  clear hh hn hhe hl hg hwf hA0 hb0
  by_cases c0 : k = 0
  · subst c0
    obtain rfl : i = h.shot.index := by omega
    have e0 : (h.shot.index == h.shot.index) = true := beq_iff_eq.2 rfl
    clear hrc hget hk
    go_enter Try.func74, Try.ntmps74
    go_wp2
    go_ret2
    exact says_t termL_zero (decide_eq_true (Nat.zero_le _)) HB0.out
  · have e0 : (i == h.shot.index) = false := beq_eq_false_iff_ne.2 (by omega)
    have hle : h.shot.index ≤ i := by omega
    by_cases c : k ≤ h.log.length
    · obtain ⟨j, rfl⟩ : ∃ j, k = j + 1 := ⟨k - 1, by omega⟩
      have hj : j < rows.length := by omega
      obtain ⟨b, off, ha, hlt, hc⟩ := Ld.rows_open hj hrc
      subst ha
      have hlj : j < h.log.length := by omega
      have hgt := hget j hj
      rw [List.getElem?_eq_getElem hlj] at hgt
      have HBE : Hid (termL h (j + 1) = rows[j].1.term) := Lib.hid (by unfold termL; rw [if_pos c, befE_at hlj, Option.some.inj hgt])
      have hce0 : w.cell? ⟨b, off + (j * 9 + 0), none⟩ = some (.int .u64 rows[j].1.term) := hc _ _ (Ld.rgetD hj) 0 _ rfl
      have HCE := Lib.hid hce0
      have HLT := Lib.hid hlt
      clear hrc hget hgt hc hce0 hlt
      generalize rows[j] = x at *
      have e1 : i - h.shot.index = (j : Int) + 1 := by omega
      have e2 : (j : Int) + 1 - 1 = (j : Int) := by omega
      have hj2 : (j : Int) < (h.log.length : Int) := by omega
      have hge : i ≤ h.shot.index + (h.log.length : Int) := by omega
      have HD : Hid (decide (j + 1 ≤ h.log.length) = true) := Lib.hid (decide_eq_true c)
      clear c c0 hk
      go_enter Try.func74, Try.ntmps74
      go_wp2_with (first | (with_reducible refine wpList_load_rowG rfl 43 (.tmp 2) rfl w.heap.size rfl 43 (hArr h (.slice g1 h.shot.nodes.length q1) (.slice g2 h.shot.led.held.length q2) (.slice g3 h.shot.led.last.length q3) (.slice a4 h.log.length q4)) (0, 0) _ HA0.out Try.underlying43 rfl (by kernel_rfl) ?_) | fail)
      refine (Hd.rlast_any h _ _ HI0.out HIX.out).mono ?_
      rintro e w1 ⟨rfl, hb1⟩
      have HA1 := Lib.hid ((hb1.block _ (lt_of_row HA0.out)).trans HA0.out)
      have HB1 := Lib.hid (HB0.out.trans (hb1.mono HB0.out.size))
      have hce := (HB1.out.cell (p := ⟨b, off + (j * 9 + 0), none⟩) HLT.out).trans HCE.out
      simp only [Nat.add_zero] at hce
      clear d0 d1 d2 d3 d4 d5 d6 d7 d8 d9 d10 hb1 HCE
      obtain ⟨d0, d1, d2, d3, d4, d5, d6, d7, d8, d9, d10⟩ := cells11 HA1.out
      go_wp2
      go_ret2
      exact says_t HBE.out HD.out HB1.out
    · have hge : h.shot.index + (h.log.length : Int) < i := by omega
      have HT : Hid (termL h k = 0) := Lib.hid (termL_far c)
      have HD : Hid (decide (k ≤ h.log.length) = false) := Lib.hid (decide_eq_false c)
      clear c c0 hk hrc hget
      go_enter Try.func74, Try.ntmps74
      go_wp2_with (first | (with_reducible refine wpList_load_rowG rfl 43 (.tmp 2) rfl w.heap.size rfl 43 (hArr h (.slice g1 h.shot.nodes.length q1) (.slice g2 h.shot.led.held.length q2) (.slice g3 h.shot.led.last.length q3) (.slice a4 h.log.length q4)) (0, 0) _ HA0.out Try.underlying43 rfl (by kernel_rfl) ?_) | fail)
      refine (Hd.rlast_any h _ _ HI0.out HIX.out).mono ?_
      rintro e w1 ⟨rfl, hb1⟩
      have HB1 := Lib.hid (HB0.out.trans (hb1.mono HB0.out.size))
      clear hb1
      go_wp2
      go_ret2
      exact says_t HT.out HD.out HB1.out
theorem own_ty_ne {w : World} {B e sz n g : Nat} {v : Value} {xs : List Value} {cs : Array Value} {t : TypeId} {fr : Nat × Nat} (h : w.ownsRow B e sz v n xs) (hg : w.heap[g]? = some (.cells cs t fr)) (hne : e ≠ t) : ∀ q, v.ownBlock = some q → q ≠ g := by
  intro q hq hn
  subst hn
  rcases h.2 with ⟨rfl, -⟩ | ⟨q2, cap, cur, rfl, -, hh, -⟩
  · cases hq
  · obtain rfl : q2 = q := by simpa [Value.ownBlock] using hq
    rw [hg] at hh
    simp only [Option.some.injEq, Obj.cells.injEq] at hh
    exact hne hh.2.1.symm
theorem own_blocks {w w' : World} {B e sz n g : Nat} {v : Value} {xs : List Value} (h : w.ownsRow B e sz v n xs) (hne : ∀ q, v.ownBlock = some q → q ≠ g) (hb : ∀ q, q ≠ g → w'.heap[q]? = w.heap[q]?) : w'.ownsRow B e sz v n xs := by
  refine ⟨h.1, ?_⟩
  rcases h.2 with h2 | ⟨q, cap, cur, rfl, h3, h4, h5⟩
  · exact .inl h2
  · exact .inr ⟨q, cap, cur, rfl, h3, (hb q (hne q rfl)).trans h4, h5⟩
theorem own_cellT {w : World} {B e sz n g j : Nat} {v u : Value} {xs : List Value} {cs : Array Value} {t : TypeId} {fr : Nat × Nat} (h : w.ownsRow B e sz v n xs) (hg : w.heap[g]? = some (.cells cs t fr)) (hne : e ≠ t) : (w.setCell ⟨g, j, none⟩ u).ownsRow B e sz v n xs :=
  own_blocks (g := g) h (own_ty_ne h hg hne) fun q hq => heap_setCell_other w ⟨g, j, none⟩ q u (by simpa using hq)
theorem own_rowT {w : World} {B e sz n g : Nat} {v : Value} {xs : List Value} {cs cs2 : Array Value} {t : TypeId} {fr : Nat × Nat} (h : w.ownsRow B e sz v n xs) (hg : w.heap[g]? = some (.cells cs t fr)) (hne : e ≠ t) : (w.setRow g cs2).ownsRow B e sz v n xs :=
  own_blocks (g := g) h (own_ty_ne h hg hne) fun q hq => setRow_other w _ _ _ hq
theorem own_cellsT {w : World} {B e sz n g o : Nat} {v : Value} {xs vs : List Value} {cs : Array Value} {t : TypeId} {fr : Nat × Nat} (h : w.ownsRow B e sz v n xs) (hg : w.heap[g]? = some (.cells cs t fr)) (hne : e ≠ t) : (w.setCells g o vs).ownsRow B e sz v n xs :=
  own_blocks (g := g) h (own_ty_ne h hg hne) fun q hq => setCells_other _ _ _ _ hq
theorem LogP.mapT {w w' : World} {B D : Nat} {u : Value} {log : List Ent} (h : LogP w B u log) (f : ∀ e sz v n xs, e ≠ 43 → w.ownsRow B e sz v n xs → w'.ownsRow D e sz v n xs) : LogP w' D u log := by
  obtain ⟨v, rows, h1, h2, h3⟩ := h
  exact ⟨v, rows, f _ _ _ _ _ (by decide) h1, fun r hr => ⟨f _ _ _ _ _ (by decide) (h2 r hr).1, (h2 r hr).2⟩, h3⟩
theorem OwnH.mapT {w w' : World} {B D : Nat} {vn vh vl vg : Value} {h : Har} (o : OwnH w B vn vh vl vg h) (f : ∀ e sz v n xs, e ≠ 43 → w.ownsRow B e sz v n xs → w'.ownsRow D e sz v n xs) : OwnH w' D vn vh vl vg h :=
  ⟨f _ _ _ _ _ (by decide) o.1, f _ _ _ _ _ (by decide) o.2.1, f _ _ _ _ _ (by decide) o.2.2.1, LogP.mapT o.2.2.2 f⟩
/-- all blocks but rows of entries are as they were -/
def FarE (w w' : World) : Prop := ∀ (q : Nat) (cs : Array Value) (t : TypeId) (fr : Nat × Nat), w.heap[q]? = some (Obj.cells cs t fr) → t ≠ 47 → w'.heap[q]? = some (Obj.cells cs t fr)
theorem FarE.of {w w' : World} (h : Below w.heap.size w w') : FarE w w' := fun q cs t fr hq _ => (h.block q (lt_of_row hq)).trans hq
/-- what the document's done answers -/
def Dunn (B : Nat) (h : Har) (r : RecR) (w : World) (e : Ending) (w' : World) : Prop := ∃ b h' vn vh vl vg, e = .returned (.tuple #[.agg (hArr h' vn vh vl vg), .bool b]) ∧ (b = true ↔ followsP h r) ∧ (b = true → h' = doH h r) ∧ OwnH w' B vn vh vl vg h' ∧ HarW h' ∧ Below B w w' ∧ FarE w w'
theorem dunn_mk3 {B : Nat} {h h' : Har} {r : RecR} {w w7 : World} {b : Bool} {vn vh vl vg : Value} {cs : Array Value} (hq : b = true ↔ followsP h r) (he : b = true → h' = doH h r) (own : OwnH w7 B vn vh vl vg h') (hw : HarW h') (hbb : Below B w w7) (hB : B ≤ w.heap.size) (hc : w7.heap[w.heap.size + 2]? = some (.cells cs 43 (0, 0))) (hf : FarE w w7) :
    Dunn B h r w (.returned (.tuple #[.agg (hArr h' vn vh vl vg), .bool b])) (w7.setRow (w.heap.size + 2) (hArr h' vn vh vl vg)) :=
  ⟨b, h', vn, vh, vl, vg, rfl, hq, he, OwnH.mapT own fun e sz v n xs hne q => own_rowT q hc hne, hw, Ld.below_row hbb (by omega) _, fun q cs t fr hq ht => (setRow_other w7 _ _ _ (by have := lt_of_row hq; omega)).trans (hf q cs t fr hq ht)⟩
theorem dunn_mk {B : Nat} {h h' : Har} {r : RecR} {w w7 : World} {b : Bool} {vn vh vl vg : Value} {cs : Array Value} (hq : b = true ↔ followsP h r) (he : b = true → h' = doH h r) (own : OwnH w7 B vn vh vl vg h') (hw : HarW h') (hbb : Below w.heap.size w w7) (hB : B ≤ w.heap.size) (hc : w7.heap[w.heap.size + 2]? = some (.cells cs 43 (0, 0))) :
    Dunn B h r w (.returned (.tuple #[.agg (hArr h' vn vh vl vg), .bool b])) (w7.setRow (w.heap.size + 2) (hArr h' vn vh vl vg)) :=
  dunn_mk3 hq he own hw (hbb.mono hB) hB hc (FarE.of hbb)
theorem dunn_no {p : Prop} (h : ¬ p) : (false = true ↔ p) := ⟨fun g => (by cases g), fun g => absurd g h⟩
theorem dunn_yes {p : Prop} (h : p) : (true = true ↔ p) := ⟨fun _ => h, fun _ => rfl⟩
set_option maxHeartbeats 3000000 in
theorem dn_1 (B : Nat) (h : Har) (vn vh vl vg : Value) (rows : List ERow) (r : RecR) (vc rn rh rl : Value) (w : World) (hB : B ≤ w.heap.size) (o1 : OwnI w B vn h.shot.nodes) (o2 : OwnR 5 heldC 74 w B vh h.shot.led.held) (o3 : OwnR 6 lastC 78 w B vl h.shot.led.last) (o4 : OwnR 9 entC 47 w B vg rows) (o5 : EntsO w B vg.ownBlock rows) (hm : rows.map Prod.fst = h.log) (hw : HarW h) (hr : RecO w B (r, vc, rn, rh, rl)) (hla : h.shot.index + h.log.length ≤ 4611686018427387904) (hfl : h.log.length * 88 ≤ 140737488351232) (hk : r.kind = 1) : Calls Try.prog 64 #[.agg (hArr h vn vh vl vg), .agg (rArr r vc rn rh rl)] w (Dunn B h r w) := by
  obtain ⟨k1, m1, rfl, -⟩ := o1.sl hw.2
  obtain ⟨k2, m2, rfl, -⟩ := o2.sl heldC_len
  obtain ⟨k3, m3, rfl, -⟩ := o3.sl lastC_len
  obtain ⟨k4, m4, hug, -⟩ := o4.sl entC_len
  have hrl : rows.length = h.log.length := by rw [← hm, List.length_map]
  rw [hrl] at hug
  subst hug
  have hv1 : OwnK .i64 3 w B vc r.ent.cmd.nodes := hr.1.1
  have hv2 : OwnK .i64 3 w B rn r.shot.nodes := hr.1.2.1
  have hv3 : OwnR 5 heldC 74 w B rh r.shot.led.held := hr.1.2.2.1
  have hv4 : OwnR 6 lastC 78 w B rl r.shot.led.last := hr.1.2.2.2
  obtain ⟨a1, b1, rfl, -⟩ := hv1.sl hr.2.1
  obtain ⟨a2, b2, rfl, -⟩ := hv2.sl hr.2.2.1
  obtain ⟨a3, b3, rfl, -⟩ := hv3.sl heldC_len
  obtain ⟨a4, b4, rfl, -⟩ := hv4.sl lastC_len
  obtain ⟨W0, hW0, hb0, hz0, hA0, hB0, hC0⟩ := box3 w (hArr h (.slice k1 h.shot.nodes.length m1) (.slice k2 h.shot.led.held.length m2) (.slice k3 h.shot.led.last.length m3) (.slice k4 h.log.length m4)) (rArr r (.slice a1 r.ent.cmd.nodes.length b1) (.slice a2 r.shot.nodes.length b2) (.slice a3 r.shot.led.held.length b3) (.slice a4 r.shot.led.last.length b4)) zH
  have HBB := Lib.hid hB
  have HRL := Lib.hid hrl
  have HM := Lib.hid hm
  have HO0 : Hid (OwnH W0 B (.slice k1 h.shot.nodes.length m1) (.slice k2 h.shot.led.held.length m2) (.slice k3 h.shot.led.last.length m3) (.slice k4 h.log.length m4) h) := Lib.hid (OwnH.map (w := w) (B := B) (h := h) ⟨o1, o2, o3, by have q := LogP.whole o4 o5; rw [hm] at q; exact q⟩ fun e sz v n xs q => owns_below hb0 q)
  have HOG0 : Hid (OwnR 9 entC 47 W0 B (.slice k4 h.log.length m4) rows ∧ EntsO W0 B (Value.slice k4 h.log.length m4).ownBlock rows) := Lib.hid ⟨owns_below hb0 o4, fun r hr => ⟨owns_below hb0 (o5 r hr).1, (o5 r hr).2⟩⟩
  have HRO0 : Hid (RecO W0 B (r, .slice a1 r.ent.cmd.nodes.length b1, .slice a2 r.shot.nodes.length b2, .slice a3 r.shot.led.held.length b3, .slice a4 r.shot.led.last.length b4)) := Lib.hid (hr.map fun e sz v n xs _ q => owns_below hb0 q)
  have HWH := Lib.hid hw
  have HRW : Hid r.wf := Lib.hid hr.2.2.2
  have HA0 := Lib.hid hA0
  have HB0 := Lib.hid hB0
  have HC0 := Lib.hid hC0
  have HS0 : Hid (w.heap.size + 3 ≤ W0.heap.size) := Lib.hid (by omega)
  have HBW0 : Hid (Below w.heap.size w W0) := Lib.hid hb0
  have HLA := Lib.hid hla
  have HFL := Lib.hid hfl
  have hx0 := Ld.u64_nonneg hw.1.2.2.2.1
  have hw3 := bounds_u64 hr.2.2.2.2.2.2.2.1
  have hlen0 : (h.log.length : Int) ≤ 4611686018427387904 := by omega
  obtain ⟨d0, d1, d2, d3, d4, d5, d6, d7, d8, d9, d10⟩ := cells11 hA0
  obtain ⟨c0, c1, c2, c3, c4, c5, c6, c7, c8, c9, c10, c11, c12, c13, c14, c15, c16, c17, c18, c19, c20⟩ := cells21 hB0
  clear o1 o2 o3 o4 o5 hm hw hr hla hfl hb0 hA0 hB0 hC0 hz0 hrl hv1 hv2 hv3 hv4
  have HE : Hid (doH h r = { h with boot := r.boot }) := Lib.hid (by unfold doH; rw [if_pos hk])
  have HU : Hid (followsP h r ↔ h.boot < r.boot) := Lib.hid (by unfold followsP; rw [if_pos hk])
  have z1 : (r.kind == 1) = true := beq_iff_eq.2 hk
  clear hk
  by_cases hx : h.boot < r.boot
  · have HX := Lib.hid (HU.out.2 hx)
    have f0 := La.frozen_of (o := 0) HA0.out
    obtain ⟨W1, hW1⟩ : ∃ q, W0.setCell ⟨w.heap.size, 0, none⟩ (.int .u64 r.boot) = q := ⟨_, rfl⟩
    have HA1 : Hid (W1.heap[w.heap.size]? = some (.cells (hArr { h with boot := r.boot } (.slice k1 h.shot.nodes.length m1) (.slice k2 h.shot.led.held.length m2) (.slice k3 h.shot.led.last.length m3) (.slice k4 h.log.length m4)) 43 (0, 0))) := Lib.hid (by rw [← hW1, heap_setCell_same W0 w.heap.size 0 _ _ _ HA0.out]; rfl)
    have HC1 : Hid (W1.heap[w.heap.size + 2]? = some (.cells zH 43 (0, 0))) := Lib.hid (by rw [← hW1]; exact (heap_setCell_other _ _ _ _ (by simp)).trans HC0.out)
    have HBW1 : Hid (Below w.heap.size w W1) := Lib.hid (by rw [← hW1]; exact HBW0.out.setCell (Nat.le_refl _) _)
    have HO1 : Hid (OwnH W1 B (.slice k1 h.shot.nodes.length m1) (.slice k2 h.shot.led.held.length m2) (.slice k3 h.shot.led.last.length m3) (.slice k4 h.log.length m4) { h with boot := r.boot }) := Lib.hid (by rw [← hW1]; exact OwnH.mapT HO0.out fun e sz v n xs hne q => own_cellT q HA0.out hne)
    have HW1 : Hid (HarW { h with boot := r.boot }) := Lib.hid ⟨⟨HRW.out.2.2.1, HWH.out.1.2⟩, HWH.out.2⟩
    have FIN := Lib.hid (dunn_mk (dunn_yes HX.out) (fun _ => HE.out.symm) HO1.out HW1.out HBW1.out HBB.out HC1.out)
    go_enter Try.func64, Try.ntmps64
    go_wp2_with (first | (with_reducible refine wpList_load_row rfl 43 (.tmp 2) rfl w.heap.size rfl 43 (hArr { h with boot := r.boot } (.slice k1 h.shot.nodes.length m1) (.slice k2 h.shot.led.held.length m2) (.slice k3 h.shot.led.last.length m3) (.slice k4 h.log.length m4)) (0, 0) _ HA1.out Try.underlying43 rfl (by kernel_rfl) ?_) | (with_reducible refine wpList_store_row rfl 43 (.tmp 4) (.tmp 139) rfl (w.heap.size + 2) (hArr { h with boot := r.boot } (.slice k1 h.shot.nodes.length m1) (.slice k2 h.shot.led.held.length m2) (.slice k3 h.shot.led.last.length m3) (.slice k4 h.log.length m4)) rfl rfl 43 _ HC1.out (by kernel_rfl) rfl (hArr_one _ _ _ _ _ _ _ _ _ _ _ _ _) ?_))
    exact bodyPost_ret (v := .tuple #[.agg (hArr { h with boot := r.boot } (.slice k1 h.shot.nodes.length m1) (.slice k2 h.shot.led.held.length m2) (.slice k3 h.shot.led.last.length m3) (.slice k4 h.log.length m4)), .bool true]) (results_ct rfl _ _ (w.heap.size + 2) 43 _ (0, 0) _ rfl (setRow_heap _ _ _ _ _ _ HC1.out) Try.underlying43 rfl (by kernel_rfl) rfl) rfl FIN.out
  · have HX : Hid (¬ followsP h r) := Lib.hid (fun g => hx (HU.out.1 g))
    have hx1 : r.boot ≤ h.boot := by omega
    have FIN := Lib.hid (dunn_mk (r := r) (dunn_no HX.out) (fun g => by cases g) HO0.out HWH.out HBW0.out HBB.out HC0.out)
    clear hx
    go_enter Try.func64, Try.ntmps64
    go_wp2_with (first | (with_reducible refine wpList_load_row rfl 43 (.tmp 2) rfl w.heap.size rfl 43 (hArr h (.slice k1 h.shot.nodes.length m1) (.slice k2 h.shot.led.held.length m2) (.slice k3 h.shot.led.last.length m3) (.slice k4 h.log.length m4)) (0, 0) _ HA0.out Try.underlying43 rfl (by kernel_rfl) ?_) | (with_reducible refine wpList_store_row rfl 43 (.tmp 4) (.tmp 17) rfl (w.heap.size + 2) (hArr h (.slice k1 h.shot.nodes.length m1) (.slice k2 h.shot.led.held.length m2) (.slice k3 h.shot.led.last.length m3) (.slice k4 h.log.length m4)) rfl rfl 43 _ HC0.out (by kernel_rfl) rfl (hArr_one _ _ _ _ _ _ _ _ _ _ _ _ _) ?_))
    exact bodyPost_ret (v := .tuple #[.agg (hArr h (.slice k1 h.shot.nodes.length m1) (.slice k2 h.shot.led.held.length m2) (.slice k3 h.shot.led.last.length m3) (.slice k4 h.log.length m4)), .bool false]) (results_ct rfl _ _ (w.heap.size + 2) 43 _ (0, 0) _ rfl (setRow_heap _ _ _ _ _ _ HC0.out) Try.underlying43 rfl (by kernel_rfl) rfl) rfl FIN.out
set_option maxHeartbeats 3000000 in
theorem dn_2 (B : Nat) (h : Har) (vn vh vl vg : Value) (rows : List ERow) (r : RecR) (vc rn rh rl : Value) (w : World) (hB : B ≤ w.heap.size) (o1 : OwnI w B vn h.shot.nodes) (o2 : OwnR 5 heldC 74 w B vh h.shot.led.held) (o3 : OwnR 6 lastC 78 w B vl h.shot.led.last) (o4 : OwnR 9 entC 47 w B vg rows) (o5 : EntsO w B vg.ownBlock rows) (hm : rows.map Prod.fst = h.log) (hw : HarW h) (hr : RecO w B (r, vc, rn, rh, rl)) (hla : h.shot.index + h.log.length ≤ 4611686018427387904) (hfl : h.log.length * 88 ≤ 140737488351232) (hk : r.kind = 2) : Calls Try.prog 64 #[.agg (hArr h vn vh vl vg), .agg (rArr r vc rn rh rl)] w (Dunn B h r w) := by
  obtain ⟨k1, m1, rfl, -⟩ := o1.sl hw.2
  obtain ⟨k2, m2, rfl, -⟩ := o2.sl heldC_len
  obtain ⟨k3, m3, rfl, -⟩ := o3.sl lastC_len
  obtain ⟨k4, m4, hug, -⟩ := o4.sl entC_len
  have hrl : rows.length = h.log.length := by rw [← hm, List.length_map]
  rw [hrl] at hug
  subst hug
  have hv1 : OwnK .i64 3 w B vc r.ent.cmd.nodes := hr.1.1
  have hv2 : OwnK .i64 3 w B rn r.shot.nodes := hr.1.2.1
  have hv3 : OwnR 5 heldC 74 w B rh r.shot.led.held := hr.1.2.2.1
  have hv4 : OwnR 6 lastC 78 w B rl r.shot.led.last := hr.1.2.2.2
  obtain ⟨a1, b1, rfl, -⟩ := hv1.sl hr.2.1
  obtain ⟨a2, b2, rfl, -⟩ := hv2.sl hr.2.2.1
  obtain ⟨a3, b3, rfl, -⟩ := hv3.sl heldC_len
  obtain ⟨a4, b4, rfl, -⟩ := hv4.sl lastC_len
  obtain ⟨W0, hW0, hb0, hz0, hA0, hB0, hC0⟩ := box3 w (hArr h (.slice k1 h.shot.nodes.length m1) (.slice k2 h.shot.led.held.length m2) (.slice k3 h.shot.led.last.length m3) (.slice k4 h.log.length m4)) (rArr r (.slice a1 r.ent.cmd.nodes.length b1) (.slice a2 r.shot.nodes.length b2) (.slice a3 r.shot.led.held.length b3) (.slice a4 r.shot.led.last.length b4)) zH
  have HBB := Lib.hid hB
  have HRL := Lib.hid hrl
  have HM := Lib.hid hm
  have HO0 : Hid (OwnH W0 B (.slice k1 h.shot.nodes.length m1) (.slice k2 h.shot.led.held.length m2) (.slice k3 h.shot.led.last.length m3) (.slice k4 h.log.length m4) h) := Lib.hid (OwnH.map (w := w) (B := B) (h := h) ⟨o1, o2, o3, by have q := LogP.whole o4 o5; rw [hm] at q; exact q⟩ fun e sz v n xs q => owns_below hb0 q)
  have HOG0 : Hid (OwnR 9 entC 47 W0 B (.slice k4 h.log.length m4) rows ∧ EntsO W0 B (Value.slice k4 h.log.length m4).ownBlock rows) := Lib.hid ⟨owns_below hb0 o4, fun r hr => ⟨owns_below hb0 (o5 r hr).1, (o5 r hr).2⟩⟩
  have HRO0 : Hid (RecO W0 B (r, .slice a1 r.ent.cmd.nodes.length b1, .slice a2 r.shot.nodes.length b2, .slice a3 r.shot.led.held.length b3, .slice a4 r.shot.led.last.length b4)) := Lib.hid (hr.map fun e sz v n xs _ q => owns_below hb0 q)
  have HWH := Lib.hid hw
  have HRW : Hid r.wf := Lib.hid hr.2.2.2
  have HA0 := Lib.hid hA0
  have HB0 := Lib.hid hB0
  have HC0 := Lib.hid hC0
  have HS0 : Hid (w.heap.size + 3 ≤ W0.heap.size) := Lib.hid (by omega)
  have HBW0 : Hid (Below w.heap.size w W0) := Lib.hid hb0
  have HLA := Lib.hid hla
  have HFL := Lib.hid hfl
  have hx0 := Ld.u64_nonneg hw.1.2.2.2.1
  have hw3 := bounds_u64 hr.2.2.2.2.2.2.2.1
  have hlen0 : (h.log.length : Int) ≤ 4611686018427387904 := by omega
  obtain ⟨d0, d1, d2, d3, d4, d5, d6, d7, d8, d9, d10⟩ := cells11 hA0
  obtain ⟨c0, c1, c2, c3, c4, c5, c6, c7, c8, c9, c10, c11, c12, c13, c14, c15, c16, c17, c18, c19, c20⟩ := cells21 hB0
  clear o1 o2 o3 o4 o5 hm hw hr hla hfl hb0 hA0 hB0 hC0 hz0 hrl hv1 hv2 hv3 hv4
  have HE : Hid (doH h r = { h with term := r.term, vote := r.vote }) := Lib.hid (by unfold doH; rw [if_neg (by omega)]; rw [if_pos hk])
  have HU : Hid (followsP h r ↔ (h.term < r.term ∨ (r.term = h.term ∧ (h.vote = 0 ∨ h.vote = r.vote)))) := Lib.hid (by unfold followsP; rw [if_neg (by omega)]; rw [if_pos hk])
  have z1 : (r.kind == 1) = false := beq_eq_false_iff_ne.2 (by omega)
  have z2 : (r.kind == 2) = true := beq_iff_eq.2 hk
  clear hk
  by_cases t0 : r.term < h.term
  · have HX : Hid (¬ followsP h r) := Lib.hid (fun g => by have := HU.out.1 g; omega)
    have FIN := Lib.hid (dunn_mk (r := r) (dunn_no HX.out) (fun g => by cases g) HO0.out HWH.out HBW0.out HBB.out HC0.out)
    go_enter Try.func64, Try.ntmps64
    go_wp2_with (first | (with_reducible refine wpList_load_row rfl 43 (.tmp 2) rfl w.heap.size rfl 43 (hArr h (.slice k1 h.shot.nodes.length m1) (.slice k2 h.shot.led.held.length m2) (.slice k3 h.shot.led.last.length m3) (.slice k4 h.log.length m4)) (0, 0) _ HA0.out Try.underlying43 rfl (by kernel_rfl) ?_) | (with_reducible refine wpList_store_row rfl 43 (.tmp 4) (.tmp 47) rfl (w.heap.size + 2) (hArr h (.slice k1 h.shot.nodes.length m1) (.slice k2 h.shot.led.held.length m2) (.slice k3 h.shot.led.last.length m3) (.slice k4 h.log.length m4)) rfl rfl 43 _ HC0.out (by kernel_rfl) rfl (hArr_one _ _ _ _ _ _ _ _ _ _ _ _ _) ?_))
    exact bodyPost_ret (v := .tuple #[.agg (hArr h (.slice k1 h.shot.nodes.length m1) (.slice k2 h.shot.led.held.length m2) (.slice k3 h.shot.led.last.length m3) (.slice k4 h.log.length m4)), .bool false]) (results_ct rfl _ _ (w.heap.size + 2) 43 _ (0, 0) _ rfl (setRow_heap _ _ _ _ _ _ HC0.out) Try.underlying43 rfl (by kernel_rfl) rfl) rfl FIN.out
  · have t1 : h.term ≤ r.term := by omega
    by_cases te : r.term = h.term
    · have e1 : (r.term == h.term) = true := beq_iff_eq.2 te
      by_cases v0 : h.vote = 0
      · have e2 : (h.vote != 0) = false := by rw [bne, beq_iff_eq.2 v0]; rfl
        have HX := Lib.hid (HU.out.2 (.inr ⟨te, .inl v0⟩))
        clear t0 te v0
        have f1 := La.frozen_of (o := 1) HA0.out
        obtain ⟨W1, hW1⟩ : ∃ q, W0.setCell ⟨w.heap.size, 1, none⟩ (.int .u64 r.term) = q := ⟨_, rfl⟩
        have HA1 : Hid (W1.heap[w.heap.size]? = some (.cells (hArr { h with term := r.term } (.slice k1 h.shot.nodes.length m1) (.slice k2 h.shot.led.held.length m2) (.slice k3 h.shot.led.last.length m3) (.slice k4 h.log.length m4)) 43 (0, 0))) := Lib.hid (by rw [← hW1, heap_setCell_same W0 w.heap.size 1 _ _ _ HA0.out]; rfl)
        have HB1 : Hid (W1.heap[w.heap.size + 1]? = some (.cells (rArr r (.slice a1 r.ent.cmd.nodes.length b1) (.slice a2 r.shot.nodes.length b2) (.slice a3 r.shot.led.held.length b3) (.slice a4 r.shot.led.last.length b4)) 49 (0, 0))) := Lib.hid (by rw [← hW1]; exact (heap_setCell_other _ _ _ _ (by simp)).trans HB0.out)
        have HC1 : Hid (W1.heap[w.heap.size + 2]? = some (.cells zH 43 (0, 0))) := Lib.hid (by rw [← hW1]; exact (heap_setCell_other _ _ _ _ (by simp)).trans HC0.out)
        have HBW1 : Hid (Below w.heap.size w W1) := Lib.hid (by rw [← hW1]; exact HBW0.out.setCell (Nat.le_refl _) _)
        have HO1 : Hid (OwnH W1 B (.slice k1 h.shot.nodes.length m1) (.slice k2 h.shot.led.held.length m2) (.slice k3 h.shot.led.last.length m3) (.slice k4 h.log.length m4) { h with term := r.term }) := Lib.hid (by rw [← hW1]; exact OwnH.mapT HO0.out fun e sz v n xs hne q => own_cellT q HA0.out hne)
        have x1 := (cell_of_row W1 _ 1 _ _ _ HB1.out).trans rfl
        have y2 := (cell_of_row W1 _ 2 _ _ _ HA1.out).trans rfl
        have f2 := La.frozen_of (o := 2) HA1.out
        obtain ⟨W2, hW2⟩ : ∃ q, W1.setCell ⟨w.heap.size, 2, none⟩ (.int .i64 r.vote) = q := ⟨_, rfl⟩
        have HA2 : Hid (W2.heap[w.heap.size]? = some (.cells (hArr { h with term := r.term, vote := r.vote } (.slice k1 h.shot.nodes.length m1) (.slice k2 h.shot.led.held.length m2) (.slice k3 h.shot.led.last.length m3) (.slice k4 h.log.length m4)) 43 (0, 0))) := Lib.hid (by rw [← hW2, heap_setCell_same W1 w.heap.size 2 _ _ _ HA1.out]; rfl)
        have HC2 : Hid (W2.heap[w.heap.size + 2]? = some (.cells zH 43 (0, 0))) := Lib.hid (by rw [← hW2]; exact (heap_setCell_other _ _ _ _ (by simp)).trans HC1.out)
        have HBW2 : Hid (Below w.heap.size w W2) := Lib.hid (by rw [← hW2]; exact HBW1.out.setCell (Nat.le_refl _) _)
        have HO2 : Hid (OwnH W2 B (.slice k1 h.shot.nodes.length m1) (.slice k2 h.shot.led.held.length m2) (.slice k3 h.shot.led.last.length m3) (.slice k4 h.log.length m4) { h with term := r.term, vote := r.vote }) := Lib.hid (by rw [← hW2]; exact OwnH.mapT HO1.out fun e sz v n xs hne q => own_cellT q HA1.out hne)
        have HW2 : Hid (HarW { h with term := r.term, vote := r.vote }) := Lib.hid ⟨⟨HWH.out.1.1, HRW.out.2.2.2.1, HRW.out.2.1, HWH.out.1.2.2.2⟩, HWH.out.2⟩
        have FIN := Lib.hid (dunn_mk (dunn_yes HX.out) (fun _ => HE.out.symm) HO2.out HW2.out HBW2.out HBB.out HC2.out)
        go_enter Try.func64, Try.ntmps64
        go_wp2_with (first | (with_reducible refine wpList_load_row rfl 43 (.tmp 2) rfl w.heap.size rfl 43 (hArr { h with term := r.term, vote := r.vote } (.slice k1 h.shot.nodes.length m1) (.slice k2 h.shot.led.held.length m2) (.slice k3 h.shot.led.last.length m3) (.slice k4 h.log.length m4)) (0, 0) _ HA2.out Try.underlying43 rfl (by kernel_rfl) ?_) | (with_reducible refine wpList_store_row rfl 43 (.tmp 4) (.tmp 139) rfl (w.heap.size + 2) (hArr { h with term := r.term, vote := r.vote } (.slice k1 h.shot.nodes.length m1) (.slice k2 h.shot.led.held.length m2) (.slice k3 h.shot.led.last.length m3) (.slice k4 h.log.length m4)) rfl rfl 43 _ HC2.out (by kernel_rfl) rfl (hArr_one _ _ _ _ _ _ _ _ _ _ _ _ _) ?_))
        exact bodyPost_ret (v := .tuple #[.agg (hArr { h with term := r.term, vote := r.vote } (.slice k1 h.shot.nodes.length m1) (.slice k2 h.shot.led.held.length m2) (.slice k3 h.shot.led.last.length m3) (.slice k4 h.log.length m4)), .bool true]) (results_ct rfl _ _ (w.heap.size + 2) 43 _ (0, 0) _ rfl (setRow_heap _ _ _ _ _ _ HC2.out) Try.underlying43 rfl (by kernel_rfl) rfl) rfl FIN.out
      · have e2 : (h.vote != 0) = true := by rw [bne, beq_eq_false_iff_ne.2 v0]; rfl
        by_cases v1 : h.vote = r.vote
        · have e3 : (h.vote != r.vote) = false := by rw [bne, beq_iff_eq.2 v1]; rfl
          have HX := Lib.hid (HU.out.2 (.inr ⟨te, .inr v1⟩))
          clear t0 te v0 v1
          have f1 := La.frozen_of (o := 1) HA0.out
          obtain ⟨W1, hW1⟩ : ∃ q, W0.setCell ⟨w.heap.size, 1, none⟩ (.int .u64 r.term) = q := ⟨_, rfl⟩
          have HA1 : Hid (W1.heap[w.heap.size]? = some (.cells (hArr { h with term := r.term } (.slice k1 h.shot.nodes.length m1) (.slice k2 h.shot.led.held.length m2) (.slice k3 h.shot.led.last.length m3) (.slice k4 h.log.length m4)) 43 (0, 0))) := Lib.hid (by rw [← hW1, heap_setCell_same W0 w.heap.size 1 _ _ _ HA0.out]; rfl)
          have HB1 : Hid (W1.heap[w.heap.size + 1]? = some (.cells (rArr r (.slice a1 r.ent.cmd.nodes.length b1) (.slice a2 r.shot.nodes.length b2) (.slice a3 r.shot.led.held.length b3) (.slice a4 r.shot.led.last.length b4)) 49 (0, 0))) := Lib.hid (by rw [← hW1]; exact (heap_setCell_other _ _ _ _ (by simp)).trans HB0.out)
          have HC1 : Hid (W1.heap[w.heap.size + 2]? = some (.cells zH 43 (0, 0))) := Lib.hid (by rw [← hW1]; exact (heap_setCell_other _ _ _ _ (by simp)).trans HC0.out)
          have HBW1 : Hid (Below w.heap.size w W1) := Lib.hid (by rw [← hW1]; exact HBW0.out.setCell (Nat.le_refl _) _)
          have HO1 : Hid (OwnH W1 B (.slice k1 h.shot.nodes.length m1) (.slice k2 h.shot.led.held.length m2) (.slice k3 h.shot.led.last.length m3) (.slice k4 h.log.length m4) { h with term := r.term }) := Lib.hid (by rw [← hW1]; exact OwnH.mapT HO0.out fun e sz v n xs hne q => own_cellT q HA0.out hne)
          have x1 := (cell_of_row W1 _ 1 _ _ _ HB1.out).trans rfl
          have y2 := (cell_of_row W1 _ 2 _ _ _ HA1.out).trans rfl
          have f2 := La.frozen_of (o := 2) HA1.out
          obtain ⟨W2, hW2⟩ : ∃ q, W1.setCell ⟨w.heap.size, 2, none⟩ (.int .i64 r.vote) = q := ⟨_, rfl⟩
          have HA2 : Hid (W2.heap[w.heap.size]? = some (.cells (hArr { h with term := r.term, vote := r.vote } (.slice k1 h.shot.nodes.length m1) (.slice k2 h.shot.led.held.length m2) (.slice k3 h.shot.led.last.length m3) (.slice k4 h.log.length m4)) 43 (0, 0))) := Lib.hid (by rw [← hW2, heap_setCell_same W1 w.heap.size 2 _ _ _ HA1.out]; rfl)
          have HC2 : Hid (W2.heap[w.heap.size + 2]? = some (.cells zH 43 (0, 0))) := Lib.hid (by rw [← hW2]; exact (heap_setCell_other _ _ _ _ (by simp)).trans HC1.out)
          have HBW2 : Hid (Below w.heap.size w W2) := Lib.hid (by rw [← hW2]; exact HBW1.out.setCell (Nat.le_refl _) _)
          have HO2 : Hid (OwnH W2 B (.slice k1 h.shot.nodes.length m1) (.slice k2 h.shot.led.held.length m2) (.slice k3 h.shot.led.last.length m3) (.slice k4 h.log.length m4) { h with term := r.term, vote := r.vote }) := Lib.hid (by rw [← hW2]; exact OwnH.mapT HO1.out fun e sz v n xs hne q => own_cellT q HA1.out hne)
          have HW2 : Hid (HarW { h with term := r.term, vote := r.vote }) := Lib.hid ⟨⟨HWH.out.1.1, HRW.out.2.2.2.1, HRW.out.2.1, HWH.out.1.2.2.2⟩, HWH.out.2⟩
          have FIN := Lib.hid (dunn_mk (dunn_yes HX.out) (fun _ => HE.out.symm) HO2.out HW2.out HBW2.out HBB.out HC2.out)
          go_enter Try.func64, Try.ntmps64
          go_wp2_with (first | (with_reducible refine wpList_load_row rfl 43 (.tmp 2) rfl w.heap.size rfl 43 (hArr { h with term := r.term, vote := r.vote } (.slice k1 h.shot.nodes.length m1) (.slice k2 h.shot.led.held.length m2) (.slice k3 h.shot.led.last.length m3) (.slice k4 h.log.length m4)) (0, 0) _ HA2.out Try.underlying43 rfl (by kernel_rfl) ?_) | (with_reducible refine wpList_store_row rfl 43 (.tmp 4) (.tmp 139) rfl (w.heap.size + 2) (hArr { h with term := r.term, vote := r.vote } (.slice k1 h.shot.nodes.length m1) (.slice k2 h.shot.led.held.length m2) (.slice k3 h.shot.led.last.length m3) (.slice k4 h.log.length m4)) rfl rfl 43 _ HC2.out (by kernel_rfl) rfl (hArr_one _ _ _ _ _ _ _ _ _ _ _ _ _) ?_))
          exact bodyPost_ret (v := .tuple #[.agg (hArr { h with term := r.term, vote := r.vote } (.slice k1 h.shot.nodes.length m1) (.slice k2 h.shot.led.held.length m2) (.slice k3 h.shot.led.last.length m3) (.slice k4 h.log.length m4)), .bool true]) (results_ct rfl _ _ (w.heap.size + 2) 43 _ (0, 0) _ rfl (setRow_heap _ _ _ _ _ _ HC2.out) Try.underlying43 rfl (by kernel_rfl) rfl) rfl FIN.out
        · have e3 : (h.vote != r.vote) = true := by rw [bne, beq_eq_false_iff_ne.2 v1]; rfl
          have HX : Hid (¬ followsP h r) := Lib.hid (fun g => by have := HU.out.1 g; omega)
          clear t0 te v0 v1
          have FIN := Lib.hid (dunn_mk (r := r) (dunn_no HX.out) (fun g => by cases g) HO0.out HWH.out HBW0.out HBB.out HC0.out)
          go_enter Try.func64, Try.ntmps64
          go_wp2_with (first | (with_reducible refine wpList_load_row rfl 43 (.tmp 2) rfl w.heap.size rfl 43 (hArr h (.slice k1 h.shot.nodes.length m1) (.slice k2 h.shot.led.held.length m2) (.slice k3 h.shot.led.last.length m3) (.slice k4 h.log.length m4)) (0, 0) _ HA0.out Try.underlying43 rfl (by kernel_rfl) ?_) | (with_reducible refine wpList_store_row rfl 43 (.tmp 4) (.tmp 47) rfl (w.heap.size + 2) (hArr h (.slice k1 h.shot.nodes.length m1) (.slice k2 h.shot.led.held.length m2) (.slice k3 h.shot.led.last.length m3) (.slice k4 h.log.length m4)) rfl rfl 43 _ HC0.out (by kernel_rfl) rfl (hArr_one _ _ _ _ _ _ _ _ _ _ _ _ _) ?_))
          exact bodyPost_ret (v := .tuple #[.agg (hArr h (.slice k1 h.shot.nodes.length m1) (.slice k2 h.shot.led.held.length m2) (.slice k3 h.shot.led.last.length m3) (.slice k4 h.log.length m4)), .bool false]) (results_ct rfl _ _ (w.heap.size + 2) 43 _ (0, 0) _ rfl (setRow_heap _ _ _ _ _ _ HC0.out) Try.underlying43 rfl (by kernel_rfl) rfl) rfl FIN.out
    · have e1 : (r.term == h.term) = false := beq_eq_false_iff_ne.2 te
      have HX := Lib.hid (HU.out.2 (.inl (by omega)))
      clear t0 te
      have f1 := La.frozen_of (o := 1) HA0.out
      obtain ⟨W1, hW1⟩ : ∃ q, W0.setCell ⟨w.heap.size, 1, none⟩ (.int .u64 r.term) = q := ⟨_, rfl⟩
      have HA1 : Hid (W1.heap[w.heap.size]? = some (.cells (hArr { h with term := r.term } (.slice k1 h.shot.nodes.length m1) (.slice k2 h.shot.led.held.length m2) (.slice k3 h.shot.led.last.length m3) (.slice k4 h.log.length m4)) 43 (0, 0))) := Lib.hid (by rw [← hW1, heap_setCell_same W0 w.heap.size 1 _ _ _ HA0.out]; rfl)
      have HB1 : Hid (W1.heap[w.heap.size + 1]? = some (.cells (rArr r (.slice a1 r.ent.cmd.nodes.length b1) (.slice a2 r.shot.nodes.length b2) (.slice a3 r.shot.led.held.length b3) (.slice a4 r.shot.led.last.length b4)) 49 (0, 0))) := Lib.hid (by rw [← hW1]; exact (heap_setCell_other _ _ _ _ (by simp)).trans HB0.out)
      have HC1 : Hid (W1.heap[w.heap.size + 2]? = some (.cells zH 43 (0, 0))) := Lib.hid (by rw [← hW1]; exact (heap_setCell_other _ _ _ _ (by simp)).trans HC0.out)
      have HBW1 : Hid (Below w.heap.size w W1) := Lib.hid (by rw [← hW1]; exact HBW0.out.setCell (Nat.le_refl _) _)
      have HO1 : Hid (OwnH W1 B (.slice k1 h.shot.nodes.length m1) (.slice k2 h.shot.led.held.length m2) (.slice k3 h.shot.led.last.length m3) (.slice k4 h.log.length m4) { h with term := r.term }) := Lib.hid (by rw [← hW1]; exact OwnH.mapT HO0.out fun e sz v n xs hne q => own_cellT q HA0.out hne)
      have x1 := (cell_of_row W1 _ 1 _ _ _ HB1.out).trans rfl
      have y2 := (cell_of_row W1 _ 2 _ _ _ HA1.out).trans rfl
      have f2 := La.frozen_of (o := 2) HA1.out
      obtain ⟨W2, hW2⟩ : ∃ q, W1.setCell ⟨w.heap.size, 2, none⟩ (.int .i64 r.vote) = q := ⟨_, rfl⟩
      have HA2 : Hid (W2.heap[w.heap.size]? = some (.cells (hArr { h with term := r.term, vote := r.vote } (.slice k1 h.shot.nodes.length m1) (.slice k2 h.shot.led.held.length m2) (.slice k3 h.shot.led.last.length m3) (.slice k4 h.log.length m4)) 43 (0, 0))) := Lib.hid (by rw [← hW2, heap_setCell_same W1 w.heap.size 2 _ _ _ HA1.out]; rfl)
      have HC2 : Hid (W2.heap[w.heap.size + 2]? = some (.cells zH 43 (0, 0))) := Lib.hid (by rw [← hW2]; exact (heap_setCell_other _ _ _ _ (by simp)).trans HC1.out)
      have HBW2 : Hid (Below w.heap.size w W2) := Lib.hid (by rw [← hW2]; exact HBW1.out.setCell (Nat.le_refl _) _)
      have HO2 : Hid (OwnH W2 B (.slice k1 h.shot.nodes.length m1) (.slice k2 h.shot.led.held.length m2) (.slice k3 h.shot.led.last.length m3) (.slice k4 h.log.length m4) { h with term := r.term, vote := r.vote }) := Lib.hid (by rw [← hW2]; exact OwnH.mapT HO1.out fun e sz v n xs hne q => own_cellT q HA1.out hne)
      have HW2 : Hid (HarW { h with term := r.term, vote := r.vote }) := Lib.hid ⟨⟨HWH.out.1.1, HRW.out.2.2.2.1, HRW.out.2.1, HWH.out.1.2.2.2⟩, HWH.out.2⟩
      have FIN := Lib.hid (dunn_mk (dunn_yes HX.out) (fun _ => HE.out.symm) HO2.out HW2.out HBW2.out HBB.out HC2.out)
      go_enter Try.func64, Try.ntmps64
      go_wp2_with (first | (with_reducible refine wpList_load_row rfl 43 (.tmp 2) rfl w.heap.size rfl 43 (hArr { h with term := r.term, vote := r.vote } (.slice k1 h.shot.nodes.length m1) (.slice k2 h.shot.led.held.length m2) (.slice k3 h.shot.led.last.length m3) (.slice k4 h.log.length m4)) (0, 0) _ HA2.out Try.underlying43 rfl (by kernel_rfl) ?_) | (with_reducible refine wpList_store_row rfl 43 (.tmp 4) (.tmp 139) rfl (w.heap.size + 2) (hArr { h with term := r.term, vote := r.vote } (.slice k1 h.shot.nodes.length m1) (.slice k2 h.shot.led.held.length m2) (.slice k3 h.shot.led.last.length m3) (.slice k4 h.log.length m4)) rfl rfl 43 _ HC2.out (by kernel_rfl) rfl (hArr_one _ _ _ _ _ _ _ _ _ _ _ _ _) ?_))
      exact bodyPost_ret (v := .tuple #[.agg (hArr { h with term := r.term, vote := r.vote } (.slice k1 h.shot.nodes.length m1) (.slice k2 h.shot.led.held.length m2) (.slice k3 h.shot.led.last.length m3) (.slice k4 h.log.length m4)), .bool true]) (results_ct rfl _ _ (w.heap.size + 2) 43 _ (0, 0) _ rfl (setRow_heap _ _ _ _ _ _ HC2.out) Try.underlying43 rfl (by kernel_rfl) rfl) rfl FIN.out
end Rc
end Go.Proofs.Ytlkgmjhejocobaa
