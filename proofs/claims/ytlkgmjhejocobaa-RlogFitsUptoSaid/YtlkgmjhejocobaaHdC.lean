/- What may last: hard.Check. No condition. -/
import Derived.Test.YtlkgmjhejocobaaHdT
import Derived.Test.YtlkgmjhejocobaaShC
namespace Go.Proofs.Ytlkgmjhejocobaa
open Go.ChangeShapes Go.WideShapes Go.ChangeAt Go.RowKit
set_option linter.unusedVariables false
set_option maxRecDepth 100000
namespace Hd
def entOk (bf : Int) (x : Ent) : Prop := 1 ≤ x.term ∧ bf ≤ x.term ∧ Cm.chkC x.cmd = true
def befE (t : Int) (l : List Ent) : Int := (l.getLast?.map Ent.term).getD t
theorem befE_nil (t : Int) : befE t [] = t := rfl
theorem befE_snoc (t : Int) (l : List Ent) (x : Ent) : befE t (l ++ [x]) = x.term := by simp [befE]
def logUp (t : Int) (l : List Ent) (k : Nat) : Prop := ∀ j y, j < k → l[j]? = some y → entOk (befE t (l.take j)) y
theorem logUp_zero (t : Int) (l : List Ent) : logUp t l 0 := fun j y hj => absurd hj (Nat.not_lt_zero _)
theorem logUp_succ {t : Int} {l : List Ent} {k : Nat} {x : Ent} (h : logUp t l k) (hx : l[k]? = some x) (hr : entOk (befE t (l.take k)) x) : logUp t l (k + 1) := by
  intro j y hj hy
  rcases Nat.lt_or_ge j k with h1 | h1
  · exact h j y h1 hy
  · obtain rfl : j = k := by omega
    rw [hx] at hy
    cases hy
    exact hr
theorem logUp_bad {t : Int} {l : List Ent} {k : Nat} {x : Ent} (hx : l[k]? = some x) (hlt : k < l.length) (hr : ¬ entOk (befE t (l.take k)) x) : ¬ logUp t l l.length := fun h => hr (h k x hlt hx)
def top62 : Int := 4611686018427387904
def hardOk (h : Har) : Prop := h.boot ≤ top62 ∧ Sh.shotOk h.shot ∧ h.shot.index ≤ top62 ∧ h.shot.index + h.log.length ≤ top62 ∧ logUp h.shot.term h.log h.log.length ∧ befE h.shot.term h.log ≤ h.term ∧ 0 ≤ h.vote ∧ h.vote ≤ 7 ∧ (h.term = 0 → h.vote = 0)
def SaysH (h : Har) (w : World) (e : Ending) (w' : World) : Prop := ∃ z : Int, e = .returned (.int .i64 z) ∧ ((z = 0 ∧ hardOk h) ∨ (z = 130 ∧ ¬ hardOk h)) ∧ Below w.heap.size w w'
theorem says_no {h : Har} (g : ¬ hardOk h) {w w' : World} (hb : Below w.heap.size w w') : SaysH h w (.returned (.int .i64 130)) w' := ⟨_, rfl, .inr ⟨rfl, g⟩, hb⟩
theorem says_yes {h : Har} (g : hardOk h) {w w' : World} (hb : Below w.heap.size w w') : SaysH h w (.returned (.int .i64 0)) w' := ⟨_, rfl, .inl ⟨rfl, g⟩, hb⟩
/-- an entry's value -/
def IsEnt (w : World) (v : Value) (x : Ent) : Prop := ∃ vn, v = .agg (entC (x, vn)).toArray ∧ Sl .i64 w vn x.cmd.nodes ∧ x.wf
theorem IsEnt.below {w w' : World} {v : Value} {x : Ent} {B : Nat} (h : IsEnt w v x) (hb : Below B w w') (hB : w.heap.size ≤ B) : IsEnt w' v x := by
  obtain ⟨vn, e, h1, h2⟩ := h
  exact ⟨vn, e, h1.below hb hB, h2⟩
def fitsB (x : Ent) : Bool := decide (1 ≤ x.term) && Cm.chkC x.cmd
theorem ent9 {w : World} {g : Nat} {x : Ent} {vn : Value} {t : TypeId} (h : w.heap[g]? = some (.cells (entC (x, vn)).toArray t (0, 0))) :
    w.cell? ⟨g, 0, none⟩ = some (.int .u64 x.term) ∧ w.cell? ⟨g, 1, none⟩ = some (.int .i64 x.cmd.kind) ∧ w.cell? ⟨g, 2, none⟩ = some (.int .i64 x.cmd.node) ∧ w.cell? ⟨g, 3, none⟩ = some (.int .i64 x.cmd.token) ∧ w.cell? ⟨g, 4, none⟩ = some vn ∧ w.cell? ⟨g, 5, none⟩ = some (.int .u64 x.cmd.boot) ∧ w.cell? ⟨g, 6, none⟩ = some (.int .u64 x.cmd.seq) ∧ w.cell? ⟨g, 7, none⟩ = some (.int .u64 x.cmd.serial) ∧ w.cell? ⟨g, 8, none⟩ = some (.int .u64 x.cmd.stamp) :=
  ⟨(cell_of_row w _ 0 _ _ _ h).trans rfl, (cell_of_row w _ 1 _ _ _ h).trans rfl, (cell_of_row w _ 2 _ _ _ h).trans rfl, (cell_of_row w _ 3 _ _ _ h).trans rfl, (cell_of_row w _ 4 _ _ _ h).trans rfl, (cell_of_row w _ 5 _ _ _ h).trans rfl, (cell_of_row w _ 6 _ _ _ h).trans rfl, (cell_of_row w _ 7 _ _ _ h).trans rfl, (cell_of_row w _ 8 _ _ _ h).trans rfl⟩
theorem cErr_eq (b : Bool) : (Cm.cErr b == 0) = b := by cases b <;> rfl
set_option maxHeartbeats 1000000 in
theorem fits_any (x : Ent) (v : Value) (w : World) (h : IsEnt w v x) :
    Calls Try.prog 67 #[v] w fun e w' => e = .returned (.bool (fitsB x)) ∧ Below w.heap.size w w' := by
  obtain ⟨vn, rfl, hsl, hwf⟩ := h
  have hb0 : Below w.heap.size w (w.alloc (.cells (entC (x, vn)).toArray 47)) := (Below.refl _ _).alloc (Nat.le_refl _) _
  have HB := Lib.hid hb0
  have HI : Hid (IsCmd (w.alloc (.cells (entC (x, vn)).toArray 47)) (.agg (Cm.cArr x.cmd vn)) x.cmd) := Lib.hid ⟨vn, rfl, hsl.below hb0 (Nat.le_refl _), hwf.2⟩
  obtain ⟨b0, b1, b2, b3, b4, b5, b6, b7, b8⟩ := ent9 (heap_alloc_new w (.cells (entC (x, vn)).toArray 47 (0, 0)))
  have ht := Ld.u64_nonneg hwf.1
  clear hsl hwf hb0
  by_cases h1 : 1 ≤ x.term
  · have hE : fitsB x = Cm.chkC x.cmd := by unfold fitsB; rw [decide_eq_true h1, Bool.true_and]
    have HE := Lib.hid hE
    have HC := Lib.hid (cErr_eq (Cm.chkC x.cmd))
    clear hE
    go_enter Try.func67, Try.ntmps67
    go_wp2_with fail
    refine (Cm.check_any x.cmd _ _ HI.out).mono ?_
    rintro e w1 ⟨rfl, hb1⟩
    go_wp2
    go_ret
    exact ⟨ret_bool (HC.out.trans HE.out.symm), HB.out.trans (hb1.mono HB.out.size)⟩
  · have hE : fitsB x = false := by unfold fitsB; rw [decide_eq_false h1]; rfl
    have HE := Lib.hid hE
    have h2 : x.term < 1 := by omega
    clear h1 hE
    go_enter Try.func67, Try.ntmps67
    go_wp2
    go_ret
    exact ⟨by rw [HE.out]; rfl, HB.out⟩
theorem vote_yes (n : Int) (w : World) (h1 : 0 ≤ n) (h2 : n ≤ 7) : Calls Try.prog 68 #[.int .i64 n] w fun e w' => e = .returned (.bool true) ∧ w = w' := by
  go_enter Try.func68, Try.ntmps68
  go_wp2
  go_ret
  exact ⟨rfl, rfl⟩
theorem vote_no (n : Int) (w : World) (h : n < 0 ∨ 7 < n) : Calls Try.prog 68 #[.int .i64 n] w fun e w' => e = .returned (.bool false) ∧ w = w' := by
  rcases h with h | h
  · go_enter Try.func68, Try.ntmps68
    go_wp2
    go_ret
    exact ⟨rfl, rfl⟩
  · have h2 : 0 ≤ n := by omega
    go_enter Try.func68, Try.ntmps68
    go_wp2
    go_ret
    exact ⟨ret_bool (decide_eq_false (by omega)), rfl⟩
theorem IsLog.len {w : World} {v : Value} {l : List Ent} (h : IsLog w v l) : ∃ a cap, v = .slice a l.length cap ∧ l.length ≤ cap ∧ cap ≤ 9223372036854775807 := by
  obtain ⟨rows, ⟨a, cap, e, h1, h2, _⟩, _, rfl⟩ := h
  unfold maxLen at h2
  exact ⟨a, cap, by rw [e, List.length_map], by rw [List.length_map]; exact h1, h2⟩
set_option maxHeartbeats 1000000 in
theorem last_any (h : Har) (v : Value) (w : World) (hh : IsHard w v h) (hi : h.shot.index ≤ 4611686018427387904) :
    Calls Try.prog 66 #[v] w fun e w' => e = .returned (.int .u64 (h.shot.index + h.log.length)) ∧ Below w.heap.size w w' := by
  obtain ⟨vn, vh, vl, vg, rfl, -, -, -, hg, hwf⟩ := hh
  obtain ⟨a, cap, rfl, h1, h2⟩ := IsLog.len hg
  have h0 := Ld.u64_nonneg hwf.2.2.2.1
  obtain ⟨b0, b1, b2, b3, b4, b5, b6, b7, b8, b9, b10⟩ := cells11 (heap_alloc_new w (.cells (hArr h vn vh vl (.slice a h.log.length cap)) 43 (0, 0)))
  have HB : Hid (Below w.heap.size w (w.alloc (.cells (hArr h vn vh vl (.slice a h.log.length cap)) 43))) := Lib.hid ((Below.refl _ _).alloc (Nat.le_refl _) _)
  clear hg hwf
  go_enter Try.func66, Try.ntmps66
  go_wp2
  go_ret
  exact ⟨rfl, HB.out⟩
theorem hardOk_of {boot term vote : Int} {shot : Sho} {log : List Ent} : hardOk ⟨boot, term, vote, shot, log⟩ ↔ (boot ≤ top62 ∧ Sh.shotOk shot ∧ shot.index ≤ top62 ∧ shot.index + log.length ≤ top62 ∧ logUp shot.term log log.length ∧ befE shot.term log ≤ term ∧ 0 ≤ vote ∧ vote ≤ 7 ∧ (term = 0 → vote = 0)) := Iff.rfl
set_option maxHeartbeats 8000000 in
theorem check_any (h : Har) (v : Value) (w : World) (hh : IsHard w v h) :
    Calls Try.prog 33 #[v] w (SaysH h w) := by
  obtain ⟨vn, vh, vl, vg, rfl, hn, hhe, hl, hg, hwf⟩ := id hh
  obtain ⟨a, cap, rfl, hlc, hcm⟩ := IsLog.len hg
  have hb0 : Below w.heap.size w (w.alloc (.cells (hArr h vn vh vl (.slice a h.log.length cap)) 43)) := (Below.refl _ _).alloc (Nat.le_refl _) _
  have HB := Lib.hid hb0
  have HH := Lib.hid (hh.below hb0 (Nat.le_refl _))
  have HS : Hid (IsShot (w.alloc (.cells (hArr h vn vh vl (.slice a h.log.length cap)) 43)) (.agg (sArr h.shot vn vh vl)) h.shot) := Lib.hid ⟨vn, vh, vl, rfl, hn.below hb0 (Nat.le_refl _), hhe.below hb0 (Nat.le_refl _), hl.below hb0 (Nat.le_refl _), hwf.2.2.2⟩
  have HG := Lib.hid (hg.below hb0 (Nat.le_refl _))
  have hr : Below (w.heap.size + 1) (w.alloc (.cells (hArr h vn vh vl (.slice a h.log.length cap)) 43)) (w.alloc (.cells (hArr h vn vh vl (.slice a h.log.length cap)) 43)) := Below.refl _ _
  obtain ⟨b0, b1, b2, b3, b4, b5, b6, b7, b8, b9, b10⟩ := cells11 (box_cells hr)
  have hi0 := Ld.u64_nonneg hwf.2.2.2.1
  clear hh hn hhe hl hg hwf hb0 hr
  by_cases c1 : 4611686018427387904 < h.boot
  · have HE : Hid (¬ hardOk h) := Lib.hid (by unfold hardOk top62; omega)
    go_enter Try.func33, Try.ntmps33
    go_wp2
    go_ret
    exact says_no HE.out HB.out
  have c1' : h.boot ≤ 4611686018427387904 := by omega
  clear c1
  go_enter Try.func33, Try.ntmps33
  go_wp2_with fail
  refine (Sh.check_any h.shot _ _ HS.out).mono ?_
  rintro e w1 ⟨z1, rfl, hz1, hb1⟩
  have hb1' : Below (w.heap.size + 1) (w.alloc (.cells (hArr h vn vh vl (.slice a h.log.length cap)) 43)) w1 := hb1.mono (by simp)
  have HX1 := Lib.hid hb1'
  have HB1 := Lib.hid (box_below hb1')
  have HH1 := Lib.hid (HH.out.below hb1 (Nat.le_refl _))
  have HG1 := Lib.hid (HG.out.below hb1 (Nat.le_refl _))
  clear b0 b1 b2 b3 b4 b5 b6 b7 b8 b9 b10
  obtain ⟨b0, b1, b2, b3, b4, b5, b6, b7, b8, b9, b10⟩ := cells11 (box_cells hb1')
  clear hb1 hb1'
  rcases hz1.symm with ⟨rfl, hno⟩ | ⟨rfl, hok⟩
  · have HE : Hid (¬ hardOk h) := Lib.hid (fun g => hno g.2.1)
    clear hno
    go_wp2
    go_ret
    exact says_no HE.out HB1.out
  have HOK := Lib.hid hok
  clear hok
  by_cases c2 : 4611686018427387904 < h.shot.index
  · have HE : Hid (¬ hardOk h) := Lib.hid (by unfold hardOk top62; omega)
    go_wp2
    go_ret
    exact says_no HE.out HB1.out
  have c2' : h.shot.index ≤ 4611686018427387904 := by omega
  clear c2
  go_wp2_with fail
  refine (last_any h _ _ HH1.out c2').mono ?_
  rintro e w2 ⟨rfl, hb2⟩
  have hb2' : Below (w.heap.size + 1) (w.alloc (.cells (hArr h vn vh vl (.slice a h.log.length cap)) 43)) w2 := HX1.out.trans (hb2.mono (by have := HX1.out.size; simpa using this))
  have HX2 := Lib.hid hb2'
  have HB2 := Lib.hid (box_below hb2')
  have HG2 := Lib.hid (HG1.out.below hb2 (Nat.le_refl _))
  clear b0 b1 b2 b3 b4 b5 b6 b7 b8 b9 b10
  obtain ⟨b0, b1, b2, b3, b4, b5, b6, b7, b8, b9, b10⟩ := cells11 (box_cells hb2')
  clear hb2 hb2'
  by_cases c3 : 4611686018427387904 < h.shot.index + h.log.length
  · have HE : Hid (¬ hardOk h) := Lib.hid (by unfold hardOk top62; omega)
    go_wp2
    go_ret
    exact says_no HE.out HB2.out
  have c3' : h.shot.index + h.log.length ≤ 4611686018427387904 := by omega
  clear c3
  obtain ⟨rows, hrows, hents, hmap⟩ := HG2.out
  have hrl : rows.length = h.log.length := by rw [← hmap, List.length_map]
  have HMAP := Lib.hid hmap
  have HENT := Lib.hid hents
  have HRL := Lib.hid hrl
  have HROW := Lib.hid hrows
  have HGET : Hid (∀ k (hk : k < rows.length), h.log[k]? = some rows[k].1) := Lib.hid (fun k hk => by rw [← hmap, List.getElem?_map, List.getElem?_eq_getElem hk]; rfl)
  have HTK : Hid (∀ k (hk : k < rows.length), h.log.take (k + 1) = h.log.take k ++ [rows[k].1]) := Lib.hid (fun k hk => by rw [← hmap, ← List.map_take, ← List.map_take, List.take_succ_eq_append_getElem hk, List.map_append]; rfl)
  obtain ⟨a', cap', hv, hl1, hl2, hrc⟩ := hrows
  simp only [Value.slice.injEq] at hv
  obtain ⟨rfl, -, rfl⟩ := hv
  have HRC := Lib.hid hrc
  clear hrc hmap hents hl1 hl2
  go_wp2
  go_loopw [3, 32] (fun bf i wr => ∃ k : Nat, k ≤ h.log.length ∧ i = .int .i64 k ∧ bf = .int .u64 (befE h.shot.term (h.log.take k)) ∧ Hid (logUp h.shot.term h.log k) ∧ Below (w.heap.size + 1) (w.alloc (.cells (hArr h vn vh vl (.slice a h.log.length cap)) 43)) wr ∧ Below w2.heap.size w2 wr) (fun _ i _ => h.log.length - (intOf i).toNat)
  case atStart => exact ⟨0, Nat.zero_le _, rfl, rfl, Lib.hid (logUp_zero _ _), HX2.out, Below.refl _ _⟩
  case round =>
    clear b0 b1 b2 b3 b4 b5 b6 b7 b8 b9 b10
    obtain ⟨k, hk, rfl, rfl, HU, hb, hb2⟩ := hrel
    have hzw : w.heap.size < wr.heap.size := by have := hb.size; simp at this; omega
    by_cases hlt2 : k < h.log.length
    · have hlt3 : k < rows.length := by omega
      obtain ⟨b, off, rfl, hlt, hc⟩ := Ld.rows_open hlt3 HRC.out
      have hce := fun j u hu => (hb2.cell (p := ⟨b, off + (k * 9 + j), none⟩) hlt).trans (hc k _ (Ld.rgetD hlt3) j u hu)
      have hes := HENT.out _ (List.getElem_mem hlt3)
      have HEN : Hid (IsEnt wr (.agg (entC rows[k]).toArray) rows[k].1) := Lib.hid ⟨rows[k].2, rfl, hes.1.below hb2 (Nat.le_refl _), hes.2⟩
      have HG := Lib.hid (HGET.out k hlt3)
      have HT := Lib.hid (HTK.out k hlt3)
      have HBB := Lib.hid hb
      have HB3 := Lib.hid hb2
      have hsl := hes.1
      have hwf := hes.2
      clear hc hb hes hb2
      generalize rows[k] = r at *
      obtain ⟨x, vr⟩ := r
      simp only [] at HEN HG HT hsl hwf
      obtain ⟨ar, cr, hvr, -⟩ := id hsl
      subst hvr
      obtain ⟨e0, e1, e2, e3, e4, e5, e6, e7, e8⟩ := ent_cells hce
      have hx0 := Ld.u64_nonneg hwf.1
      have hb4 : Below wr.heap.size wr (wr.alloc (.cells (entC (x, .slice ar x.cmd.nodes.length cr)).toArray 47)) := (Below.refl _ _).alloc (Nat.le_refl _) _
      have HEN4 := Lib.hid (IsEnt.below HEN.out hb4 (Nat.le_refl _))
      have HB4 := Lib.hid hb4
      have HK4 := Lib.hid (heap_alloc_new wr (.cells (entC (x, .slice ar x.cmd.nodes.length cr)).toArray 47 (0, 0)))
      clear hce hsl hwf hb4
      go_wp2_with fail
      refine (fits_any x _ _ HEN4.out).mono ?_
      rintro e w5 ⟨rfl, hb5⟩
      have HB45 := Lib.hid (HB4.out.trans (hb5.mono (by simp)))
      obtain ⟨d0, d1, d2, d3, d4, d5, d6, d7, d8⟩ := ent9 ((hb5.block wr.heap.size (by simp)).trans HK4.out)
      have HX5 := Lib.hid (HBB.out.trans (HB45.out.mono (by have := HBB.out.size; simpa using this)))
      have HY5 := Lib.hid (HB3.out.trans (HB45.out.mono HB3.out.size))
      clear hb5 e0 e1 e2 e3 e4 e5 e6 e7 e8
      cases hf : fitsB x with
      | false =>
        have HE : Hid (¬ hardOk h) := Lib.hid (fun g => by
          refine logUp_bad HG.out (by omega) (fun q => ?_) g.2.2.2.2.1
          have : fitsB x = true := by unfold fitsB; rw [decide_eq_true q.1, q.2.2]; rfl
          rw [hf] at this; cases this)
        have HB6 := Lib.hid (box_below HX5.out)
        clear hf
        go_wp2
        go_ret
        exact says_no HE.out HB6.out
      | true =>
        have hf2 : 1 ≤ x.term ∧ Cm.chkC x.cmd = true := by
          unfold fitsB at hf
          rw [Bool.and_eq_true] at hf
          exact ⟨of_decide_eq_true hf.1, hf.2⟩
        have HF := Lib.hid hf2
        clear hf hf2
        by_cases hlo : x.term < befE h.shot.term (h.log.take k)
        · have HE : Hid (¬ hardOk h) := Lib.hid (fun g => logUp_bad HG.out (by omega) (fun q => by have := q.2.1; omega) g.2.2.2.2.1)
          have HB6 := Lib.hid (box_below HX5.out)
          go_wp2
          go_ret
          exact says_no HE.out HB6.out
        · have hlo2 : befE h.shot.term (h.log.take k) ≤ x.term := by omega
          have HU2 := Lib.hid (logUp_succ HU.out HG.out ⟨HF.out.1, hlo2, HF.out.2⟩)
          have HBE : Hid (befE h.shot.term (h.log.take (k + 1)) = x.term) := Lib.hid (by rw [HT.out, befE_snoc])
          clear hlo
          go_wp2
          go_roundw
          case rel => exact ⟨k + 1, by omega, by go_num, by rw [HBE.out], HU2, HX5.out, HY5.out⟩
          case measure => simp [intOf]; omega
    · obtain rfl : k = h.log.length := by omega
      have HBW := Lib.hid (box_below hb)
      obtain ⟨b0, b1, b2, b3, b4, b5, b6, b7, b8, b9, b10⟩ := cells11 (box_cells hb)
      clear hb hb2
      have HTL : Hid (befE h.shot.term (h.log.take h.log.length) = befE h.shot.term h.log) := Lib.hid (by rw [List.take_length])
      have htl := HTL.out
      rw [htl]
      by_cases c4 : h.term < befE h.shot.term h.log
      · have HE : Hid (¬ hardOk h) := Lib.hid (fun g => by have := g.2.2.2.2.2.1; omega)
        go_wp2
        go_ret
        exact says_no HE.out HBW.out
      have c4' : befE h.shot.term h.log ≤ h.term := by omega
      by_cases c5 : 0 ≤ h.vote ∧ h.vote ≤ 7
      · by_cases c6 : h.term = 0 → h.vote = 0
        · have HE : Hid (hardOk h) := Lib.hid ⟨c1', HOK.out, c2', c3', HU.out, c4', c5.1, c5.2, c6⟩
          have HC5 := Lib.hid c5
          by_cases c7 : h.term = 0
          · have q1 : (h.term == 0) = true := beq_iff_eq.2 c7
            have q2 : (h.vote == 0) = true := beq_iff_eq.2 (c6 c7)
            have q3 : (h.vote != 0) = false := by rw [bne, q2]; rfl
            clear c4 c5 c6 c7
            go_wp2_with fail
            refine (vote_yes _ _ HC5.out.1 HC5.out.2).mono ?_
            rintro e w9 ⟨rfl, rfl⟩
            go_wp2
            go_ret
            exact says_yes HE.out HBW.out
          · have q1 : (h.term == 0) = false := beq_eq_false_iff_ne.2 c7
            clear c4 c5 c6 c7
            go_wp2_with fail
            refine (vote_yes _ _ HC5.out.1 HC5.out.2).mono ?_
            rintro e w9 ⟨rfl, rfl⟩
            go_wp2
            go_ret
            exact says_yes HE.out HBW.out
        · have HE : Hid (¬ hardOk h) := Lib.hid (fun g => c6 g.2.2.2.2.2.2.2.2)
          have HC5 := Lib.hid c5
          have c7 : h.term = 0 := Classical.byContradiction fun g => c6 (fun q => absurd q g)
          have c8 : ¬ h.vote = 0 := fun g => c6 (fun _ => g)
          have q1 : (h.term == 0) = true := beq_iff_eq.2 c7
          have q2 : (h.vote == 0) = false := beq_eq_false_iff_ne.2 c8
          have q3 : (h.vote != 0) = true := by rw [bne, q2]; rfl
          clear c4 c5 c6 c7 c8
          go_wp2_with fail
          refine (vote_yes _ _ HC5.out.1 HC5.out.2).mono ?_
          rintro e w9 ⟨rfl, rfl⟩
          go_wp2
          go_ret
          exact says_no HE.out HBW.out
      · have HE : Hid (¬ hardOk h) := Lib.hid (fun g => c5 ⟨g.2.2.2.2.2.2.1, g.2.2.2.2.2.2.2.1⟩)
        have HC5 : Hid (h.vote < 0 ∨ 7 < h.vote) := Lib.hid (by omega)
        clear c4 c5
        go_wp2_with fail
        refine (vote_no _ _ HC5.out).mono ?_
        rintro e w9 ⟨rfl, rfl⟩
        go_wp2
        go_ret
        exact says_no HE.out HBW.out
end Hd
end Go.Proofs.Ytlkgmjhejocobaa
