/- The law RlogSlice returns true for all that may be read as what lasts, and any bounds: package rlog's Slice answers entries that are the document's own answer, what is written into them afterwards changes neither what lasts nor its copy, and the chapter's example holds. No condition. -/
import Derived.Test.YtnmlbakiolecnaaSl
import Derived.Test.YtnmlbakiolecnaaRlC
import Derived.Test.YtnmlbakiolecnaaRlJ
import Derived.Test.YtnmlbakiolecnaaHdE
import Derived.Test.YtnmlbakiolecnaaShE
namespace Go.Proofs.Ytnmlbakiolecnaa.rlogSlice
open Go.ChangeShapes Go.WideShapes Go.ChangeAt Go.RowKit
open Go.ChangeMaps (open_string shut_string)
set_option linter.unusedVariables false

theorem own : ownKnob Try.prog.godebug = none := by kernel_rfl
theorem laidOut : laidOutB Try.prog = true := by kernel_rfl

abbrev Rl.zArr : Array Value := #[.int .u64 0, .int .u64 0, .int .i64 0, .int .u64 0, .int .u64 0, .slice none 0 0, .int .i64 0, .int .u64 0, .slice none 0 0, .slice none 0 0, .slice none 0 0]
theorem Rl.exH_ok2 : Rl.sliceV Rl.exH 6 9 = [⟨2, ⟨1, 0, 0, [], 0, 0, 0, 0⟩⟩, ⟨3, ⟨1, 0, 0, [], 0, 0, 0, 0⟩⟩] := by
  rw [Rl.sliceV_yes Rl.exH_ok (by decide) (by decide)]; rfl
theorem Rl.exH_fits : IsHard.fits Rl.exH := by
  refine ⟨⟨by decide, by decide, by decide⟩, by decide, fun x hx => ?_⟩
  simp only [Rl.exH, List.mem_cons, List.not_mem_nil, or_false] at hx
  rcases hx with rfl | rfl <;> exact (by decide : (0 : Nat) * 8 ≤ 140737488351232)
theorem store_own {w : World} {B g n cap : Nat} {xs : List Int} (h : OwnI w B (.slice (some ⟨g, 0, none⟩) n cap) xs) (j : Nat) (z : Int) :
    OwnI (w.setCell ⟨g, j, none⟩ (.int .i64 z)) B (.slice (some ⟨g, 0, none⟩) n cap) (xs.set j z) := by
  have hn : n = xs.length := by
    have := h.2
    rcases this with ⟨h', _⟩ | ⟨g', cap', cur, h', _⟩
    · simp at h'
    · simp at h'; exact h'.2.1
  subst hn
  have h1 := (World.ownsRow.stored h j (.int .i64 z)).1
  unfold OwnI OwnK
  rw [List.length_set, List.map_set]
  exact h1
/-- a list of m numbers that is the call's own, in a block of its own -/
def LInv (w : World) (B : Nat) (ob : Option Nat) (v : Value) (m : Nat) : Prop := ∃ xs : List Int, OwnI w B v xs ∧ xs.length = m ∧ ∀ q, v.ownBlock = some q → some q ≠ ob
theorem LInv.open {w : World} {B m : Nat} {ob : Option Nat} {v : Value} (h : LInv w B ob v m) : ∃ a c, v = .slice a m c ∧ m ≤ c ∧ c ≤ maxLen ∧ (0 < m → ∃ q, a = some ⟨q, 0, none⟩ ∧ B ≤ q ∧ q < w.heap.size ∧ some q ≠ ob ∧ (∀ j, w.frozen? ⟨q, j, none⟩ = false) ∧ ∀ j, j < m → ∃ z, w.cell? ⟨q, j, none⟩ = some (.int .i64 z)) := by
  obtain ⟨xs, h1, rfl, h3⟩ := h
  rcases id h1.2 with ⟨rfl, h0⟩ | ⟨g, cap, cur, rfl, hg, hh, hle, hcm, hsz, htk⟩
  · exact ⟨none, 0, by rw [h0], by omega, by decide, fun h => by omega⟩
  · exact ⟨_, cap, rfl, hle, hcm, fun h => ⟨g, rfl, hg, (Array.getElem?_eq_some_iff.1 hh).1, h3 g rfl, fun j => frozen_of_row w g j _ _ hh, fun j hj => ⟨xs[j], by
      have q := World.ownsRow.cells h1 (g := g) rfl j (.int .i64 xs[j]) (by simp [List.getElem?_map, List.getElem?_eq_getElem hj])
      rw [add_plain, Nat.zero_add] at q
      exact q⟩⟩⟩
theorem own_other {w : World} {B e sz n g j : Nat} {v u : Value} {xs : List Value} (h : w.ownsRow B e sz v n xs) (hne : ∀ q, v.ownBlock = some q → q ≠ g) : (w.setCell ⟨g, j, none⟩ u).ownsRow B e sz v n xs := by
  refine ⟨h.1, ?_⟩
  rcases h.2 with h2 | ⟨q, cap, cur, rfl, h3, h4, h5⟩
  · exact .inl h2
  · exact .inr ⟨q, cap, cur, rfl, h3, (heap_setCell_other w ⟨g, j, none⟩ q u (by simpa using hne q rfl)).trans h4, h5⟩
theorem cell_other {w : World} {g q j o : Nat} {u : Value} (h : q ≠ g) : (w.setCell ⟨q, j, none⟩ u).cell? ⟨g, o, none⟩ = w.cell? ⟨g, o, none⟩ := by
  simp only [World.cell?]
  rw [heap_setCell_other w ⟨q, j, none⟩ g u (by simpa using fun e : g = q => h e.symm)]
theorem LInv.set {w : World} {B m : Nat} {ob : Option Nat} {v : Value} (h : LInv w B ob v m) (g j : Nat) : LInv (w.setCell ⟨g, j, none⟩ (.int .i64 99)) B ob v m := by
  obtain ⟨xs, h1, h2, h3⟩ := h
  by_cases c : v.ownBlock = some g
  · rcases id h1.2 with ⟨rfl, h0⟩ | ⟨q, cap, cur, rfl, hg, hh, hle, hcm, hsz, htk⟩
    · cases c
    · obtain rfl : q = g := by simpa [Value.ownBlock] using c
      exact ⟨xs.set j 99, store_own h1 j 99, by rw [List.length_set]; exact h2, h3⟩
  · exact ⟨xs, own_other h1 (fun q hq hn => c (by rw [hq, hn])), h2, h3⟩
theorem LInv.row {w : World} {B m g j : Nat} {v u : Value} (h : LInv w B (some g) v m) : LInv (w.setCell ⟨g, j, none⟩ u) B (some g) v m := by
  obtain ⟨xs, h1, h2, h3⟩ := h
  exact ⟨xs, own_other h1 (fun q hq hn => h3 q hq (by rw [hn])), h2, h3⟩
def t99 (r : ERow) : ERow := ({ r.1 with term := 99 }, r.2)
theorem flat_term : ∀ (rows : List ERow) (k : Nat) (h : k < rows.length), (rows.flatMap entC).set (k * 9) (.int .u64 99) = (rows.set k (t99 rows[k])).flatMap entC
  | r :: rows, 0, _ => by simp [t99, entC]
  | r :: rows, k + 1, h => by
    have hk : k < rows.length := by simpa using h
    have := flat_term rows k hk
    simp only [List.flatMap_cons, List.set_cons_succ, List.getElem_cons_succ]
    rw [← this, List.set_append_right _ _ (by rw [entC_len]; omega), entC_len, show (k + 1) * 9 - 9 = k * 9 by omega]
/-- the rows, with lists that are the call's own -/
def RInv (w : World) (B : Nat) (v : Value) (rows : List ERow) : Prop := OwnR 9 entC 41 w B v rows ∧ ∀ r ∈ rows, LInv w B v.ownBlock r.2 r.1.cmd.nodes.length
theorem RInv.set {w : World} {B : Nat} {v : Value} {rows : List ERow} (h : RInv w B v rows) (g j : Nat) (hg : some g ≠ v.ownBlock) : RInv (w.setCell ⟨g, j, none⟩ (.int .i64 99)) B v rows :=
  ⟨own_other h.1 (fun q hq hn => hg (by rw [hq, hn])), fun r hr => (h.2 r hr).set g j⟩
theorem RInv.term {w : World} {B g c k : Nat} {rows : List ERow} (h : RInv w B (.slice (some ⟨g, 0, none⟩) rows.length c) rows) (hk : k < rows.length) : RInv (w.setCell ⟨g, k * 9, none⟩ (.int .u64 99)) B (.slice (some ⟨g, 0, none⟩) rows.length c) (rows.set k (t99 rows[k])) := by
  refine ⟨?_, fun r hr => ?_⟩
  · have h1 := (World.ownsRow.stored h.1 (k * 9) (.int .u64 99)).1
    unfold OwnR
    rw [List.length_set, ← flat_term rows k hk]
    exact h1
  · rcases List.mem_or_eq_of_mem_set hr with q | q
    · exact (h.2 r q).row
    · subst q
      exact (h.2 rows[k] (List.getElem_mem hk)).row (v := rows[k].2)
set_option maxHeartbeats 8000000 in
theorem walk (v0 : Value) (x0 : Har) (a1 : Int) (a2 : Int) (w : World) (w0 : IsHard w v0 x0) (b0 : IsHard.fits x0) (w1 : (Lit.int .u64 a1).wf = true) (w2 : (Lit.int .i64 a2).wf = true) :
    Calls Try.prog 11 #[v0, .int .u64 a1, .int .i64 a2] w fun e w' => e = .returned (.bool true) ∧ Below w.heap.size w w' := by
  obtain ⟨vn, vh, vl, vg, rfl, hn, hhe, hl, hg, hwf⟩ := id w0
  have hb0 : Below w.heap.size w (w.alloc (.cells (hArr x0 vn vh vl vg) 32)) := (Below.refl _ _).alloc (Nat.le_refl _) _
  have hh0 : (w.alloc (.cells (hArr x0 vn vh vl vg) 32)).heap[w.heap.size]? = some (.cells (hArr x0 vn vh vl vg) 32 (0, 0)) := heap_alloc_new _ _
  have HI0 := Lib.hid (w0.below hb0 (Nat.le_refl _))
  have HB0 := Lib.hid hb0
  have HF := Lib.hid b0
  have HH0 := Lib.hid hh0
  have B1 := Lib.hid (bounds_u64 w1)
  have B2 := Lib.hid (bounds_i64 w2)
  clear w1 w2
  clear w0 hn hhe hl hg hwf b0 hb0 hh0
  go_enter Try.func11, Try.ntmps11
  go_wp2_with fail
  refine (Hd.copy_any x0 _ _ HI0.out HF.out).mono ?_
  rintro e w1 ⟨v1, rfl, hi1, hb1⟩
  obtain ⟨cn, ch, cl, cg, rfl, hs0, hs1, hs2, hs3, -⟩ := id hi1
  obtain ⟨s0, k0, rfl, -⟩ := id hs0
  obtain ⟨s1, k1, rfl, -⟩ := id hs1
  obtain ⟨s2, k2, rfl, -⟩ := id hs2
  obtain ⟨s3, k3, rfl, -, -⟩ := Hd.IsLog.len hs3
  have hA1 := (hb1.block w.heap.size (by simp)).trans HH0.out
  have hz1 : w.heap.size < w1.heap.size := by have := hb1.size; simp at this; omega
  have hst : (w1.alloc (.cells Rl.zArr 32)).heap[w1.heap.size]? = some (.cells Rl.zArr 32 (0, 0)) := heap_alloc_new _ _
  have hq0 : Below w1.heap.size w1 (w1.alloc (.cells Rl.zArr 32)) := (Below.refl _ _).alloc (Nat.le_refl _) _
  have hq1 : Below w1.heap.size w1 ((w1.alloc (.cells Rl.zArr 32)).setRow w1.heap.size (hArr x0 (.slice s0 x0.shot.nodes.length k0) (.slice s1 x0.shot.led.held.length k1) (.slice s2 x0.shot.led.last.length k2) (.slice s3 x0.log.length k3))) := Ld.below_row hq0 (Nat.le_refl _) _
  have HB1 := Lib.hid ((HB0.out.trans (hb1.mono HB0.out.size)).trans (hq1.mono (Nat.le_of_lt hz1)))
  have HO1 := Lib.hid (hi1.below hq1 (Nat.le_refl _))
  have HI1 := Lib.hid ((HI0.out.below hb1 (Nat.le_refl _)).below hq1 (Nat.le_refl _))
  have HA1 := Lib.hid ((hq1.block w.heap.size hz1).trans hA1)
  have HC1 := Lib.hid (setRow_heap _ _ _ (hArr x0 (.slice s0 x0.shot.nodes.length k0) (.slice s1 x0.shot.led.held.length k1) (.slice s2 x0.shot.led.last.length k2) (.slice s3 x0.log.length k3)) _ _ hst)
  obtain ⟨q0, q1, q2, q3, q4, q5, q6, q7, q8, q9, q10⟩ := Hd.cells11 HC1.out
  clear hi1 hb1 hA1 hq0 hq1 hz1 hs0 hs1 hs2 hs3
  generalize hW2 : (w1.alloc (.cells Rl.zArr 32)).setRow w1.heap.size (hArr x0 (.slice s0 x0.shot.nodes.length k0) (.slice s1 x0.shot.led.held.length k1) (.slice s2 x0.shot.led.last.length k2) (.slice s3 x0.log.length k3)) = W2 at HB1 HO1 HI1 HA1 HC1 q0 q1 q2 q3 q4 q5 q6 q7 q8 q9 q10
  go_wp2_with (refine wpList_store_row rfl 32 (.tmp 7) (.tmp 13) rfl w1.heap.size (hArr x0 (.slice s0 x0.shot.nodes.length k0) (.slice s1 x0.shot.led.held.length k1) (.slice s2 x0.shot.led.last.length k2) (.slice s3 x0.log.length k3)) rfl rfl 32 _ hst (by kernel_rfl) rfl (Hd.hArr_one _ _ _ _ _ _ _ _ _ _ _ _ _) ?_; rw [hW2]; clear hW2 hst)
  refine (Rl.slice_any x0 _ a1 a2 _ HO1.out HF.out B1.out.1 B1.out.2 B2.out.1 B2.out.2).mono ?_
  rintro e w3 ⟨v3, rows3, rfl, own3, ents3, hm3, hb3⟩
  have HA3 := Lib.hid ((hb3.block w.heap.size (Hd.lt_of_row HA1.out)).trans HA1.out)
  have HI3 := Lib.hid (HI1.out.below hb3 (Nat.le_refl _))
  have HO3 := Lib.hid own3
  have HE3 := Lib.hid ents3
  have HM3 := Lib.hid hm3
  have HB3 := Lib.hid hb3
  clear q0 q1 q2 q3 q4 q5 q6 q7 q8 q9 q10
  obtain ⟨p0, p1, p2, p3, p4, p5, p6, p7, p8, p9, p10⟩ := Hd.cells11 HA3.out
  clear own3 ents3 hm3 hb3
  go_wp2_with fail
  refine (Rl.rslice_any x0 _ a1 a2 _ HI3.out HF.out B1.out.1 B1.out.2 B2.out.1 B2.out.2).mono ?_
  rintro e w4 ⟨v4, rows4, rfl, own4, ents4, hm4, hb4⟩
  have HB4 := Lib.hid (HB3.out.trans (hb4.mono HB3.out.size))
  have HL3 : Hid (IsLog w4 v3 (rows3.map Prod.fst)) := Lib.hid ⟨rows3, (HO3.out.below hb4 (Nat.le_refl _)).sl entC_len, HE3.out.ents.below hb4 (Nat.le_refl _), rfl⟩
  have HL4 : Hid (IsLog w4 v4 (rows3.map Prod.fst)) := Lib.hid ⟨rows4, own4.sl entC_len, ents4.ents, hm4.trans HM3.out.symm⟩
  have HR4 : Hid (RInv w4 W2.heap.size v3 rows3) := Lib.hid ⟨HO3.out.below hb4 (Nat.le_refl _), fun r hr => ⟨r.1.cmd.nodes, (HE3.out r hr).1.below hb4 (Nat.le_refl _), rfl, (HE3.out r hr).2.2.2⟩⟩
  clear own4 ents4 hm4 hb4 p0 p1 p2 p3 p4 p5 p6 p7 p8 p9 p10
  go_wp2_with fail
  refine (Hd.ents_same (rows3.map Prod.fst) _ _ _ HL3.out HL4.out).mono ?_
  rintro e w5 ⟨rfl, hb5⟩
  have HR5 : Hid (RInv w5 W2.heap.size v3 rows3) := Lib.hid ⟨HR4.out.1.below hb5 (Nat.le_refl _), fun r hr => by
    obtain ⟨xs, g1, g2, g3⟩ := HR4.out.2 r hr
    exact ⟨xs, OwnK.below g1 hb5 (Nat.le_refl _), g2, g3⟩⟩
  have HB5 := Lib.hid (HB4.out.trans (hb5.mono HB4.out.size))
  clear hb5 HL3 HL4 HR4
  obtain ⟨a7, c7, rfl, hc71, hc72, -⟩ := HR5.out.1.sl entC_len
  unfold maxLen at hc72
  go_wp2
  go_loopw [10, 26] (fun _ i wr => ∃ (k : Nat) (rows : List ERow), k ≤ rows3.length ∧ i = .int .i64 k ∧ Hid (rows.length = rows3.length) ∧ Hid (RInv wr W2.heap.size (.slice a7 rows3.length c7) rows) ∧ Hid (Below W2.heap.size W2 wr)) (fun _ i _ => rows3.length - (intOf i).toNat)
  case atStart => exact ⟨0, rows3, Nat.zero_le _, rfl, Lib.hid rfl, HR5, HB5⟩
  case round =>
    obtain ⟨k, rows, hk, rfl, HLEN, HR, HB⟩ := hrel
    by_cases hlt : k < rows3.length
    · have hkr : k < rows.length := by rw [HLEN.out]; exact hlt
      obtain ⟨g, rfl⟩ : ∃ g, a7 = some ⟨g, 0, none⟩ := by
        rcases HR.out.1.2 with ⟨h1, h2⟩ | ⟨g, cap, cur, h1, _⟩
        · omega
        · simp only [Value.slice.injEq] at h1
          exact ⟨g, h1.1⟩
      have hown : RInv wr W2.heap.size (.slice (some ⟨g, 0, none⟩) rows.length c7) rows := by rw [HLEN.out]; exact HR.out
      have hg := World.ownsRow.lt hown.1 g rfl
      have HGB := Lib.hid hg
      have hfz : wr.frozen? ⟨g, k * 9, none⟩ = false := World.ownsRow.frozenAt hown.1 (k * 9)
      have hterm : wr.cell? ⟨g, k * 9, none⟩ = some (.int .u64 rows[k].1.term) := by
        have h := World.ownsRow.cells hown.1 (g := g) rfl (k * 9) _ (flat_at entC_len rows k 0 _ _ (List.getElem?_eq_getElem hkr) rfl)
        rw [add_plain, Nat.zero_add] at h
        exact h
      have HT := Lib.hid (hown.term hkr)
      have HBT := Lib.hid (HB.out.setCell (p := ⟨g, k * 9, none⟩) hg.1 (.int .u64 99))
      have hlin := hown.2 rows[k] (List.getElem_mem hkr)
      have HLI : Hid (LInv (wr.setCell ⟨g, k * 9, none⟩ (.int .u64 99)) W2.heap.size (some g) rows[k].2 rows[k].1.cmd.nodes.length) := Lib.hid hlin.row
      have HSL := Lib.hid (HT.out.1.sl entC_len)
      have HGT : Hid ((rows.set k (t99 rows[k]))[k]? = some (t99 rows[k])) := Lib.hid (by rw [List.getElem?_set, if_pos rfl, if_pos hkr])
      have HLT : Hid ((rows.set k (t99 rows[k])).length = rows3.length) := Lib.hid (by rw [List.length_set]; exact HLEN.out)
      clear hown hg hlin
      generalize rows.set k (t99 rows[k]) = rowsT at *
      generalize rows[k] = r at *
      obtain ⟨x, vr⟩ := r
      simp only [t99] at HGT HLI
      obtain ⟨ar, cr, rfl, hcr1, hcr2, hopen⟩ := HLI.out.open
      unfold maxLen at hcr2
      have HOP := Lib.hid hopen
      clear hopen
      have hkT : k < rowsT.length := by rw [HLT.out]; exact hlt
      have HKT := Lib.hid hkT
      have hnode : (wr.setCell ⟨g, k * 9, none⟩ (.int .u64 99)).cell? ⟨g, k * 9 + 4, none⟩ = some (.slice ar x.cmd.nodes.length cr) := by
        have h := World.ownsRow.cells HT.out.1 (g := g) rfl (k * 9 + 4) _ (flat_at entC_len rowsT k 4 _ _ HGT.out rfl)
        rw [add_plain, Nat.zero_add] at h
        exact h
      have HND := Lib.hid hnode
      have hkz : (k : Int) < (rows3.length : Int) := by omega
      clear hkr hkT
      generalize hWT : wr.setCell ⟨g, k * 9, none⟩ (.int .u64 99) = wT at *
      obtain ⟨wo, hwo⟩ : ∃ q, q = wr := ⟨_, rfl⟩
      subst hwo
      go_wp2
      go_loopw [11, 40] (fun _ i wr => ∃ j : Nat, j ≤ x.cmd.nodes.length ∧ i = .int .i64 j ∧ Hid (RInv wr W2.heap.size (.slice (some ⟨g, 0, none⟩) rows3.length c7) rowsT) ∧ Hid (LInv wr W2.heap.size (some g) (.slice ar x.cmd.nodes.length cr) x.cmd.nodes.length) ∧ wr.cell? ⟨g, k * 9 + 4, none⟩ = some (.slice ar x.cmd.nodes.length cr) ∧ Hid (Below W2.heap.size W2 wr)) (fun _ i _ => x.cmd.nodes.length - (intOf i).toNat)
      case atStart => exact ⟨0, Nat.zero_le _, rfl, (by have q := HT.out; rw [HLEN.out] at q; exact Lib.hid q), HLI, HND.out, HBT⟩
      case round =>
        obtain ⟨j, hj, rfl, HR2, HL2, hnd2, HB2⟩ := hrel
        have HN2 := Lib.hid hnd2
        by_cases hjl : j < x.cmd.nodes.length
        · obtain ⟨a', c', e', -, -, hop⟩ := HL2.out.open
          simp only [Value.slice.injEq] at e'
          obtain ⟨rfl, -, rfl⟩ := e'
          obtain ⟨q, rfl, hq1, hq2, hq3, hq4, hq5⟩ := hop (by omega)
          have hfz2 := hq4 j
          obtain ⟨zc, hcell2⟩ := hq5 j hjl
          have HX1 := Lib.hid (HR2.out.set q j hq3)
          have HX2 := Lib.hid (HL2.out.set q j)
          have HX3 := Lib.hid (HB2.out.setCell (p := ⟨q, j, none⟩) hq1 (.int .i64 99))
          have HX4 := Lib.hid ((cell_other (q := q) (g := g) (u := .int .i64 99) (j := j) (o := k * 9 + 4) (fun e => hq3 (congrArg some e))).trans hnd2)
          have hjz : (j : Int) < (x.cmd.nodes.length : Int) := by omega
          clear hop hq1 hq2 hq3 hq4 hq5
          go_wp2
          go_roundw
          case rel => exact ⟨j + 1, by omega, by go_num, Lib.hid HX1.out, Lib.hid HX2.out, HX4.out, Lib.hid HX3.out⟩
          case measure => simp [intOf]; omega
        · obtain rfl : j = x.cmd.nodes.length := by omega
          go_wp2
          go_roundw
          case rel => exact ⟨k + 1, rowsT, by omega, by go_num, Lib.hid HLT.out, Lib.hid HR2.out, Lib.hid HB2.out⟩
          case measure => simp [intOf]; omega
    · obtain rfl : k = rows3.length := by omega
      have hb := HB.out
      have HBr := Lib.hid (HB1.out.trans (hb.mono HB1.out.size))
      have HOr := Lib.hid (HO1.out.below hb (Nat.le_refl _))
      have HIr := Lib.hid (HI1.out.below hb (Nat.le_refl _))
      have HAr := Lib.hid ((hb.block w.heap.size (Hd.lt_of_row HA1.out)).trans HA1.out)
      have HCr := Lib.hid ((hb.block w1.heap.size (Hd.lt_of_row HC1.out)).trans HC1.out)
      clear hb
      go_wp2_with fail
      refine (Rl.example_any _).mono ?_
      rintro e w6 ⟨ve, rfl, hex, hb6⟩
      go_wp2_with fail
      refine (Rl.slice_any Rl.exH _ 6 9 _ hex Rl.exH_fits (by decide) (by decide) (by decide) (by decide)).mono ?_
      rintro e w7 ⟨v7, rows7, rfl, own7, -, hm7, hb7⟩
      have hl7 : rows7.length = 2 := by have := congrArg List.length hm7; rw [List.length_map, Rl.exH_ok2] at this; exact this
      obtain ⟨a8, c8, rfl, -⟩ := own7.sl entC_len
      rw [hl7]
      have hb67 := hb6.trans (hb7.mono hb6.size)
      have HB7 := Lib.hid (HBr.out.trans (hb67.mono HBr.out.size))
      have HO7 := Lib.hid (HOr.out.below hb67 (Nat.le_refl _))
      have HI7 := Lib.hid (HIr.out.below hb67 (Nat.le_refl _))
      obtain ⟨p0, p1, p2, p3, p4, p5, p6, p7, p8, p9, p10⟩ := Hd.cells11 ((hb67.block w.heap.size (Hd.lt_of_row HAr.out)).trans HAr.out)
      obtain ⟨q0, q1, q2, q3, q4, q5, q6, q7, q8, q9, q10⟩ := Hd.cells11 ((hb67.block w1.heap.size (Hd.lt_of_row HCr.out)).trans HCr.out)
      clear hex hb6 hb7 hb67 own7 hm7 hl7
      go_wp2_with fail
      refine (Hd.same_any x0 _ _ _ HO7.out HI7.out).mono ?_
      rintro e w8 ⟨rfl, hb8⟩
      go_wp2
      go_ret
      exact ⟨rfl, HB7.out.trans (hb8.mono HB7.out.size)⟩

set_option maxRecDepth 100000 in
theorem contract (H : Type) (enc : TypeId × Value → H) (W : World) (base : Nat) (args : Array Value) (ds gs : List (DataW H)) (before : List MemPlace)
    (hval0 : ∀ (j : Nat) t v, Try.f11.params[j]? = some t → args[j]? = some v → Value.okWide Try.prog W .any base t v)
    (hW : DataW.Whole enc Try.prog Try.f11.params.toList Rows.rlogSliceSpec.vars false W args.toList ds gs before)
    (hsz0 : (DataW.weightsEach Try.prog (Try.f11.params.toList ++ Rows.rlogSliceSpec.plain.varTypes Try.prog) (ds ++ gs)).all (· ≤ reachBytes) = true) :
    Calls Try.prog 11 args W fun e W' => ∃ v, e = .returned v ∧ Rows.rlogSliceSpec.post enc Try.prog Try.f11 false true false false W args v W' := by
  have hval : ∀ (j : Nat) t v, Try.f11.params[j]? = some t → args[j]? = some v → Value.okWide Try.prog W .any base t v := hval0
  have hW' := hW
  obtain ⟨p, q, hA0, hV, rfl, hfz, hnd⟩ := hW
  have hA : DataW.TrodAll enc Try.prog W 0 (fun _ => true) true Try.f11.params.toList args.toList ds p := hA0
  rw [Try.params11] at hA hval
  have hsz := hsz0
  rw [Try.params11] at hsz
  obtain ⟨v0, vs0, d0, ds0, p0, q0, hargs, rfl, rfl, h0, r0⟩ := trodAll_cons hA
  obtain ⟨v1, vs1, d1, ds1, p1, q1, rfl, rfl, rfl, h1, r1⟩ := trodAll_cons r0
  obtain ⟨v2, vs2, d2, ds2, p2, q2, rfl, rfl, rfl, h2, r2⟩ := trodAll_cons r1
  obtain ⟨rfl, rfl, rfl⟩ := trodAll_nil r2
  obtain rfl : args = #[v0, v1, v2] := by cases args; simp_all
  obtain ⟨rfl, rfl⟩ := trodVars_none hV
  clear hA0 hval0
  have k0 := h0
  have lt0 : ∀ x ∈ p0, x.block < W.heap.size := by obtain ⟨m, hm⟩ := k0; exact DataW.trod_lt m _ _ _ hm
  have k1 := h1
  have lt1 : ∀ x ∈ p1, x.block < W.heap.size := by obtain ⟨m, hm⟩ := k1; exact DataW.trod_lt m _ _ _ hm
  have k2 := h2
  have lt2 : ∀ x ∈ p2, x.block < W.heap.size := by obtain ⟨m, hm⟩ := k2; exact DataW.trod_lt m _ _ _ hm
  obtain ⟨x0, w0, -, s0⟩ := open_hard (hval 0 32 v0 rfl rfl) k0
  have b0 : IsHard.fits x0 := s0 (wt_arg hsz (j := 0) rfl rfl)
  obtain ⟨a1, rfl, -, -, w1⟩ := open_int Try.underlying22 (hval 1 22 v1 rfl rfl) h1
  obtain ⟨a2, rfl, -, -, w2⟩ := open_int Try.underlying3 (hval 2 3 v2 rfl rfl) h2
  refine (walk v0 x0 a1 a2 W w0 b0 w1 w2).mono fun e W' ⟨he, bel⟩ => ?_
  subst he
  exact ⟨_, rfl, _, _, _, [], _, [], hW', trodAll_mk1 (shut_bool Try.underlying4 _), (trodAll_cons_mk (Below.trod laidOut (by kernel_rfl) (of_decide_eq_true (by kernel_rfl)) k0 bel lt0) (trodAll_cons_mk (Below.trod laidOut (by kernel_rfl) (of_decide_eq_true (by kernel_rfl)) k1 bel lt1) (trodAll_cons_mk (Below.trod laidOut (by kernel_rfl) (of_decide_eq_true (by kernel_rfl)) k2 bel lt2) trodAll_mk0))), rfl, bel.frame _, fun h => by cases h⟩

set_option maxRecDepth 100000 in
theorem lifted (os : Os) (started : os.Started) (H : Type) (enc : TypeId × Value → H) :
    ReturnsInHanded {} Try.checked os 11 .any (Rows.rlogSliceSpec.pre6 enc Try.prog Try.f11 Rows.rlogSliceRow.domain false) (Rows.rlogSliceSpec.post enc Try.prog Try.f11 false true false false) := by
  refine returnsInHanded_of_change_sized (C := Try.checked) own started (by kernel_rfl) Try.func11
    (ChangeSpec.witness6 (enc := enc) (C := Try.checked) false ⟨#[], #[.agg #[.int .u64 0, .int .u64 0, .int .i64 0, .int .u64 0, .int .u64 0, .slice none 0 0, .int .i64 0, .int .u64 0, .slice none 0 0, .slice none 0 0, .slice none 0 0], .int .u64 0, .int .i64 0], []⟩ 8 (by kernel_rfl) (by kernel_rfl) (by kernel_rfl) (by kernel_rfl)) ?_
  intro W base args ds gs before hval0 hW hcnd hsz _
  exact contract H enc W base args ds gs before hval0 hW hsz

theorem proved : Rows.RlogSliceSaid :=
  OpenClaim.holds_of_wide 11 Try.f11 rfl rfl rfl rfl rfl rfl rfl ⟨rfl, rfl, rfl, rfl, rfl⟩ rfl rfl rfl rfl rfl (by kernel_rfl) Try.func11 (by kernel_rfl)
    (of_decide_eq_true (by kernel_rfl)) (by unfold Func.isWrapper; first | (rw [if_pos (by decide +kernel)]; kernel_rfl) | (rw [if_neg (by decide +kernel)]; exact ⟨rfl, rfl⟩))
    (fun os started H enc _ => lifted os started H enc)
end Go.Proofs.Ytnmlbakiolecnaa.rlogSlice
