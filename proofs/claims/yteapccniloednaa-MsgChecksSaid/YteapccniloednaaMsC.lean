/- Package msg: logTermFits, feedFits, putFits. No condition. -/
import Derived.Test.YteapccniloednaaMsB
import Derived.Test.YteapccniloednaaHdC
namespace Go.Proofs.Yteapccniloednaa
open Go.ChangeShapes Go.WideShapes Go.ChangeAt Go.RowKit Go.Deep
set_option linter.unusedVariables false
set_option maxRecDepth 100000
namespace Ms
open Nv
/-- a message's box in a call -/
def BoxM (w W : World) (m : Mes) (ae : Option Addr) (ce : Nat) (vn vh vl : Value) : Prop :=
  Below w.heap.size w W ∧ W.heap[w.heap.size]? = some (.cells (mArr m (.slice ae m.ents.length ce) vn vh vl) 32 (0, 0)) ∧ IsMsg W (.agg (mArr m (.slice ae m.ents.length ce) vn vh vl)) m ∧ w.heap.size < W.heap.size
theorem BoxM.of {w : World} {v : Value} {m : Mes} (h : IsMsg w v m) : ∃ ae ce vn vh vl, v = .agg (mArr m (.slice ae m.ents.length ce) vn vh vl) ∧ m.ents.length ≤ ce ∧ ce ≤ 9223372036854775807 ∧
    BoxM w (w.alloc (.cells (mArr m (.slice ae m.ents.length ce) vn vh vl) 32)) m ae ce vn vh vl := by
  have h' := h
  obtain ⟨ve, vn, vh, vl, rfl, hl, hn, hh, hla, hwf⟩ := h'
  obtain ⟨ae, ce, rfl, h1, h2⟩ := Hd.IsLog.len hl
  have hb : Below w.heap.size w (w.alloc (.cells (mArr m (.slice ae m.ents.length ce) vn vh vl) 32)) := (Below.refl _ _).alloc (Nat.le_refl _) _
  exact ⟨ae, ce, vn, vh, vl, rfl, h1, h2, hb, heap_alloc_new _ _, h.below hb (Nat.le_refl _), by simp⟩
theorem BoxM.on {w W W' : World} {m : Mes} {ae : Option Addr} {ce : Nat} {vn vh vl : Value} (h : BoxM w W m ae ce vn vh vl) (hb : Below W.heap.size W W') : BoxM w W' m ae ce vn vh vl :=
  ⟨h.1.trans (hb.mono h.1.size), (hb.block _ h.2.2.2).trans h.2.1, h.2.2.1.below hb (Nat.le_refl _), Nat.lt_of_lt_of_le h.2.2.2 hb.size⟩
theorem IsMsg.wf {w : World} {v : Value} {m : Mes} (h : IsMsg w v m) : m.wf := by
  obtain ⟨_, _, _, _, _, _, _, _, _, h⟩ := h
  exact h
def ltOk (m : Mes) : Prop := (m.lterm = 0 ↔ m.index = 0) ∧ m.lterm ≤ m.term
set_option maxHeartbeats 2000000 in
theorem lt_any (m : Mes) (v : Value) (w : World) (h : IsMsg w v m) : Calls Try.prog 30 #[v] w (Tells (ltOk m) w) := by
  obtain ⟨ae, ce, vn, vh, vl, rfl, -, -, hx⟩ := BoxM.of h
  obtain ⟨q0, q1, q2, q3, q4, q5, q6, q7, q8, -⟩ := cells16 hx.2.1
  have HB := Lib.hid hx.1
  clear hx h
  obtain ⟨x, hx⟩ : ∃ x, (m.lterm == 0) = x := ⟨_, rfl⟩
  obtain ⟨y, hy⟩ : ∃ y, (m.index == 0) = y := ⟨_, rfl⟩
  have hP : ltOk m ↔ (x = y ∧ m.lterm ≤ m.term) := by
    unfold ltOk
    rw [← hx, ← hy]
    constructor
    · rintro ⟨a, b⟩
      exact ⟨by rw [Bool.eq_iff_iff, beq_iff_eq, beq_iff_eq]; exact a, b⟩
    · rintro ⟨a, b⟩
      exact ⟨by rw [Bool.eq_iff_iff, beq_iff_eq, beq_iff_eq] at a; exact a, b⟩
  have HP := Lib.hid hP
  clear hP
  by_cases c : m.lterm ≤ m.term
  · cases x <;> cases y
    all_goals
      first
        | (have HE : Hid (ltOk m) := Lib.hid (HP.out.2 ⟨rfl, c⟩)
           go_enter Try.func30, Try.ntmps30
           go_wp2
           go_ret
           exact tells_yes HE.out HB.out)
        | (have HE : Hid (¬ ltOk m) := Lib.hid (fun g => Bool.noConfusion (HP.out.1 g).1)
           go_enter Try.func30, Try.ntmps30
           go_wp2
           go_ret
           exact tells_no HE.out HB.out)
  · have c' : m.term < m.lterm := by omega
    have HE : Hid (¬ ltOk m) := Lib.hid (fun g => c g.2)
    clear c
    cases x <;> cases y
    all_goals
      go_enter Try.func30, Try.ntmps30
      go_wp2
      go_ret
      first
        | exact tells_no HE.out HB.out
        | exact ⟨_, rfl, ⟨fun g => absurd (of_decide_eq_true g) (by omega), fun g => absurd g HE.out⟩, HB.out⟩
def feedUp (m : Mes) (k : Nat) : Prop := ∀ j y, j < k → m.ents[j]? = some y → Hd.entOk (Hd.befE m.lterm (m.ents.take j)) y ∧ y.term ≤ m.term
def feedOk (m : Mes) : Prop := m.index ≤ 4611686018427387904 ∧ m.ents.length ≤ 4 ∧ feedUp m m.ents.length
theorem feed_zero (m : Mes) : feedUp m 0 := fun j y hj => absurd hj (Nat.not_lt_zero _)
theorem feed_succ {m : Mes} {k : Nat} {x : Ent} (h : feedUp m k) (hx : m.ents[k]? = some x) (hr : Hd.entOk (Hd.befE m.lterm (m.ents.take k)) x) (ht : x.term ≤ m.term) : feedUp m (k + 1) := by
  intro j y hj hy
  rcases Nat.lt_or_ge j k with h1 | h1
  · exact h j y h1 hy
  · obtain rfl : j = k := by omega
    rw [hx] at hy
    cases hy
    exact ⟨hr, ht⟩
theorem feed_bad {m : Mes} {k : Nat} {x : Ent} (hx : m.ents[k]? = some x) (hlt : k < m.ents.length) (hr : ¬ (Hd.entOk (Hd.befE m.lterm (m.ents.take k)) x ∧ x.term ≤ m.term)) : ¬ feedOk m := fun h => hr (h.2.2 k x hlt hx)
set_option maxHeartbeats 8000000 in
theorem feed_any (m : Mes) (v : Value) (w : World) (h : IsMsg w v m) : Calls Try.prog 31 #[v] w (Tells (feedOk m) w) := by
  obtain ⟨ae, ce, vn, vh, vl, rfl, hlc, hcm, hx⟩ := BoxM.of h
  obtain ⟨q0, q1, q2, q3, q4, q5, q6, q7, q8, -⟩ := cells16 hx.2.1
  have HX := Lib.hid hx
  have hG : IsLog (w.alloc (.cells (mArr m (.slice ae m.ents.length ce) vn vh vl) 32)) (.slice ae m.ents.length ce) m.ents := IsMsg_log hx.2.2.1
  clear hx h
  by_cases c1 : 4611686018427387904 < m.index
  · have HE : Hid (¬ feedOk m) := Lib.hid (fun g => by have := g.1; omega)
    go_enter Try.func31, Try.ntmps31
    go_wp2
    go_ret
    exact tells_no HE.out HX.out.1
  have c1' : m.index ≤ 4611686018427387904 := by omega
  clear c1
  by_cases c2 : 4 < m.ents.length
  · have HE : Hid (¬ feedOk m) := Lib.hid (fun g => by have := g.2.1; omega)
    have c3 : (4 : Int) < (m.ents.length : Int) := by omega
    go_enter Try.func31, Try.ntmps31
    go_wp2
    go_ret
    exact tells_no HE.out HX.out.1
  have c2' : m.ents.length ≤ 4 := by omega
  have c3' : (m.ents.length : Int) ≤ 4 := by omega
  clear c2
  obtain ⟨rows, hrows, hents, hmap⟩ := hG
  have hrl : rows.length = m.ents.length := by rw [← hmap, List.length_map]
  have HENT := Lib.hid hents
  have HRL := Lib.hid hrl
  have HGET : Hid (∀ k (hk : k < rows.length), m.ents[k]? = some rows[k].1) := Lib.hid (fun k hk => by rw [← hmap, List.getElem?_map, List.getElem?_eq_getElem hk]; rfl)
  have HTK : Hid (∀ k (hk : k < rows.length), m.ents.take (k + 1) = m.ents.take k ++ [rows[k].1]) := Lib.hid (fun k hk => by rw [← hmap, ← List.map_take, ← List.map_take, List.take_succ_eq_append_getElem hk, List.map_append]; rfl)
  obtain ⟨a', cap', hv, hl1, hl2, hrc⟩ := hrows
  simp only [Value.slice.injEq] at hv
  obtain ⟨rfl, -, rfl⟩ := hv
  have HRC := Lib.hid hrc
  clear hrc hmap hents hl1 hl2 hrl
  go_enter Try.func31, Try.ntmps31
  go_wp2
  go_loopw [3, 20] (fun bf i wr => ∃ k : Nat, k ≤ m.ents.length ∧ i = .int .i64 k ∧ bf = .int .u64 (Hd.befE m.lterm (m.ents.take k)) ∧ Hid (feedUp m k) ∧ Below (w.alloc (.cells (mArr m (.slice ae m.ents.length ce) vn vh vl) 32)).heap.size (w.alloc (.cells (mArr m (.slice ae m.ents.length ce) vn vh vl) 32)) wr) (fun _ i _ => m.ents.length - (intOf i).toNat)
  case atStart => exact ⟨0, Nat.zero_le _, rfl, rfl, Lib.hid (feed_zero _), Below.refl _ _⟩
  case round =>
    clear q0 q1 q2 q3 q4 q5 q6 q7 q8
    obtain ⟨k, hk, rfl, rfl, HU, hb⟩ := hrel
    have HXR := Lib.hid (HX.out.on hb)
    by_cases hlt2 : k < m.ents.length
    · have hlt3 : k < rows.length := by have := HRL.out; omega
      obtain ⟨b, off, rfl, hlt, hc⟩ := Ld.rows_open hlt3 HRC.out
      have hce := fun j u hu => (hb.cell (p := ⟨b, off + (k * 9 + j), none⟩) hlt).trans (hc k _ (Ld.rgetD hlt3) j u hu)
      have hes := HENT.out _ (List.getElem_mem hlt3)
      have HEN : Hid (Hd.IsEnt wr (.agg (entC rows[k]).toArray) rows[k].1) := Lib.hid ⟨rows[k].2, rfl, hes.1.below hb (Nat.le_refl _), hes.2⟩
      have HG := Lib.hid (HGET.out k hlt3)
      have HT := Lib.hid (HTK.out k hlt3)
      have HBB := Lib.hid hb
      have hsl := hes.1
      have hwf := hes.2
      clear hc hb hes
      generalize rows[k] = r at *
      obtain ⟨x, vr⟩ := r
      simp only [] at HEN HG HT hsl hwf
      obtain ⟨ar, cr, hvr, -⟩ := id hsl
      subst hvr
      obtain ⟨e0, e1, e2, e3, e4, e5, e6, e7, e8⟩ := Hd.ent_cells hce
      have hx0 := Ld.u64_nonneg hwf.1
      have hb4 : Below wr.heap.size wr (wr.alloc (.cells (entC (x, .slice ar x.cmd.nodes.length cr)).toArray 54)) := (Below.refl _ _).alloc (Nat.le_refl _) _
      have HEN4 := Lib.hid (Hd.IsEnt.below HEN.out hb4 (Nat.le_refl _))
      have HB4 := Lib.hid hb4
      have HK4 := Lib.hid (heap_alloc_new wr (.cells (entC (x, .slice ar x.cmd.nodes.length cr)).toArray 54 (0, 0)))
      clear hce hsl hwf hb4
      go_wp2_with fail
      refine (Hd.fits_any x _ _ HEN4.out).mono ?_
      rintro e w5 ⟨rfl, hb5⟩
      have hb45 := HB4.out.trans (hb5.mono (by simp))
      have HY5 := Lib.hid (HBB.out.trans (hb45.mono HBB.out.size))
      have HX5 := Lib.hid (HXR.out.on hb45)
      obtain ⟨d0, d1, d2, d3, d4, d5, d6, d7, d8⟩ := Hd.ent9 ((hb5.block wr.heap.size (by simp)).trans HK4.out)
      obtain ⟨q0, q1, q2, q3, q4, q5, q6, q7, q8, -⟩ := cells16 HX5.out.2.1
      clear hb5 hb45 e0 e1 e2 e3 e4 e5 e6 e7 e8
      cases hf : Hd.fitsB x with
      | false =>
        have HE : Hid (¬ feedOk m) := Lib.hid (feed_bad HG.out (by omega) (fun q => by
          have : Hd.fitsB x = true := by unfold Hd.fitsB; rw [decide_eq_true q.1.1, q.1.2.2]; rfl
          rw [hf] at this; cases this))
        clear hf
        go_wp2
        go_ret
        exact tells_no HE.out HX5.out.1
      | true =>
        have hf2 : 1 ≤ x.term ∧ Cm.chkC x.cmd = true := by
          unfold Hd.fitsB at hf
          rw [Bool.and_eq_true] at hf
          exact ⟨of_decide_eq_true hf.1, hf.2⟩
        have HF := Lib.hid hf2
        clear hf hf2
        by_cases hlo : x.term < Hd.befE m.lterm (m.ents.take k)
        · have HE : Hid (¬ feedOk m) := Lib.hid (feed_bad HG.out (by omega) (fun q => by have := q.1.2.1; omega))
          go_wp2
          go_ret
          exact tells_no HE.out HX5.out.1
        · have hlo2 : Hd.befE m.lterm (m.ents.take k) ≤ x.term := by omega
          clear hlo
          by_cases hhi : m.term < x.term
          · have HE : Hid (¬ feedOk m) := Lib.hid (feed_bad HG.out (by omega) (fun q => by have := q.2; omega))
            go_wp2
            go_ret
            exact tells_no HE.out HX5.out.1
          · have hhi2 : x.term ≤ m.term := by omega
            have HU2 := Lib.hid (feed_succ HU.out HG.out ⟨HF.out.1, hlo2, HF.out.2⟩ hhi2)
            have HBE : Hid (Hd.befE m.lterm (m.ents.take (k + 1)) = x.term) := Lib.hid (by rw [HT.out, Hd.befE_snoc])
            clear hhi
            go_wp2
            go_roundw
            case rel => exact ⟨k + 1, by omega, by go_num, by rw [HBE.out], HU2, HY5.out⟩
            case measure => simp [intOf]; omega
    · obtain rfl : k = m.ents.length := by omega
      have HE : Hid (feedOk m) := Lib.hid ⟨c1', c2', HU.out⟩
      go_wp2
      go_ret
      exact tells_yes HE.out HXR.out.1
def putOk (m : Mes) : Prop := ∃ x, m.ents = [x] ∧ x.term = 0 ∧ (x.cmd.kind = 3 ∨ x.cmd.kind = 4 ∨ x.cmd.kind = 5) ∧ Cm.chkC x.cmd = true ∧ x.cmd.node = m.src
theorem put_not {m : Mes} {x : Ent} (he : m.ents = [x]) (h : ¬ (x.term = 0 ∧ (x.cmd.kind = 3 ∨ x.cmd.kind = 4 ∨ x.cmd.kind = 5) ∧ Cm.chkC x.cmd = true ∧ x.cmd.node = m.src)) : ¬ putOk m := by
  rintro ⟨y, hy, g⟩
  rw [he] at hy
  cases hy
  exact h g
/-- the only entry's cells -/
theorem one_cells {w : World} {ae : Option Addr} {m : Mes} {ce : Nat} (h : IsLog w (.slice ae m.ents.length ce) m.ents) (h1 : m.ents.length = 1) :
    ∃ x b off ar cr, m.ents = [x] ∧ ae = some ⟨b, off, none⟩ ∧ b < w.heap.size ∧ Sl .i64 w (.slice ar x.cmd.nodes.length cr) x.cmd.nodes ∧ x.wf ∧
      ∀ j u, (entC (x, .slice ar x.cmd.nodes.length cr))[j]? = some u → w.cell? ⟨b, off + j, none⟩ = some u := by
  obtain ⟨rows, hrows, hents, hmap⟩ := h
  obtain ⟨a', cap', hv, hl1, hl2, hrc⟩ := hrows
  simp only [Value.slice.injEq] at hv
  obtain ⟨rfl, -, rfl⟩ := hv
  have hrl : rows.length = 1 := by rw [← h1, ← hmap, List.length_map]
  match rows, hrl with
  | [r], _ =>
    obtain ⟨b, off, rfl, hlt, hc⟩ := Ld.rows_open (k := 0) (by simp) hrc
    obtain ⟨x, vr⟩ := r
    have hs := hents _ (List.mem_singleton.2 rfl)
    obtain ⟨ar, cr, hvr, -⟩ := id hs.1
    simp only [] at hvr
    subst hvr
    refine ⟨x, b, off, ar, cr, hmap.symm, rfl, hlt, hs.1, hs.2, fun j u hu => ?_⟩
    have := hc 0 _ rfl j u hu
    simpa using this
theorem beq_t {a b : Int} (h : a = b) : (a == b) = true := beq_iff_eq.2 h
theorem beq_f {a b : Int} (h : a ≠ b) : (a == b) = false := beq_eq_false_iff_ne.2 h
theorem bne_t {a b : Int} (h : a ≠ b) : (a != b) = true := by rw [bne, beq_f h]; rfl
theorem bne_f {a b : Int} (h : a = b) : (a != b) = false := by rw [bne, beq_t h]; rfl
set_option maxHeartbeats 8000000 in
theorem put_any (m : Mes) (v : Value) (w : World) (h : IsMsg w v m) : Calls Try.prog 29 #[v] w (Tells (putOk m) w) := by
  obtain ⟨ae, ce, vn, vh, vl, rfl, hlc, hcm, hx⟩ := BoxM.of h
  obtain ⟨q0, q1, q2, q3, q4, q5, q6, q7, q8, -⟩ := cells16 hx.2.1
  have HX := Lib.hid hx
  have hG : IsLog (w.alloc (.cells (mArr m (.slice ae m.ents.length ce) vn vh vl) 32)) (.slice ae m.ents.length ce) m.ents := IsMsg_log hx.2.2.1
  clear hx h
  by_cases c1 : m.ents.length = 1
  · obtain ⟨x, b, off, ar, cr, he, rfl, hlt, hsl, hwf, hc⟩ := one_cells hG c1
    have HNO : Hid (¬ (x.term = 0 ∧ (x.cmd.kind = 3 ∨ x.cmd.kind = 4 ∨ x.cmd.kind = 5) ∧ Cm.chkC x.cmd = true ∧ x.cmd.node = m.src) → ¬ putOk m) := Lib.hid (put_not he)
    have HYE : Hid ((x.term = 0 ∧ (x.cmd.kind = 3 ∨ x.cmd.kind = 4 ∨ x.cmd.kind = 5) ∧ Cm.chkC x.cmd = true ∧ x.cmd.node = m.src) → putOk m) := Lib.hid (fun g => ⟨x, he, g⟩)
    clear he hG
    have e0 := hc 0 _ rfl
    have e1 := hc 1 _ rfl
    have e2 := hc 2 _ rfl
    have e3 := hc 3 _ rfl
    have e4 := hc 4 _ rfl
    have e5 := hc 5 _ rfl
    have e6 := hc 6 _ rfl
    have e7 := hc 7 _ rfl
    have e8 := hc 8 _ rfl
    rw [Nat.add_zero] at e0
    clear hc
    unfold BoxM at HX
    generalize m.ents.length = n at *
    subst c1
    have hx := HX.out
    have hb1 : Below (w.alloc (.cells (mArr m (.slice (some ⟨b, off, none⟩) 1 ce) vn vh vl) 32)).heap.size (w.alloc (.cells (mArr m (.slice (some ⟨b, off, none⟩) 1 ce) vn vh vl) 32)) ((w.alloc (.cells (mArr m (.slice (some ⟨b, off, none⟩) 1 ce) vn vh vl) 32)).alloc (.cells (Cm.cArr x.cmd (.slice ar x.cmd.nodes.length cr)) 52)) := (Below.refl _ _).alloc (Nat.le_refl _) _
    have HC : Hid (IsCmd ((w.alloc (.cells (mArr m (.slice (some ⟨b, off, none⟩) 1 ce) vn vh vl) 32)).alloc (.cells (Cm.cArr x.cmd (.slice ar x.cmd.nodes.length cr)) 52)) (.agg (Cm.cArr x.cmd (.slice ar x.cmd.nodes.length cr))) x.cmd) := Lib.hid ⟨_, rfl, hsl.below hb1 (Nat.le_refl _), hwf.2⟩
    have HA1 := Lib.hid ((hb1.block _ hx.2.2.2).trans hx.2.1)
    have HB0 := Lib.hid hx.1
    have HB1 := Lib.hid (hx.1.trans (hb1.mono hx.1.size))
    have HK1 : Hid (((w.alloc (.cells (mArr m (.slice (some ⟨b, off, none⟩) 1 ce) vn vh vl) 32)).alloc (.cells (Cm.cArr x.cmd (.slice ar x.cmd.nodes.length cr)) 52)).heap[w.heap.size + 1]? = some (.cells (Cm.cArr x.cmd (.slice ar x.cmd.nodes.length cr)) 52 (0, 0))) := Lib.hid (heap_alloc2_new _ _ _)
    clear hx HX hb1 hsl hwf
    by_cases ht : x.term = 0
    · have t0 : (x.term != 0) = false := bne_f ht
      have HTT := Lib.hid ht
      clear ht
      obtain ⟨y3, hy3⟩ : ∃ y, (x.cmd.kind == 3) = y := ⟨_, rfl⟩
      obtain ⟨y4, hy4⟩ : ∃ y, (x.cmd.kind == 4) = y := ⟨_, rfl⟩
      obtain ⟨y5, hy5⟩ : ∃ y, (x.cmd.kind == 5) = y := ⟨_, rfl⟩
      have HP : Hid ((x.cmd.kind = 3 ∨ x.cmd.kind = 4 ∨ x.cmd.kind = 5) ↔ (y3 = true ∨ y4 = true ∨ y5 = true)) := Lib.hid (by rw [← hy3, ← hy4, ← hy5, beq_iff_eq, beq_iff_eq, beq_iff_eq])
      obtain ⟨yc, hyc⟩ : ∃ y, (Cm.cErr (Cm.chkC x.cmd) == 0) = y := ⟨_, rfl⟩
      have HPC : Hid (Cm.chkC x.cmd = yc) := Lib.hid ((Hd.cErr_eq _).symm.trans hyc)
      obtain ⟨yn, hyn⟩ : ∃ y, (x.cmd.node == m.src) = y := ⟨_, rfl⟩
      have HPN : Hid (x.cmd.node = m.src ↔ yn = true) := Lib.hid (by rw [← hyn, beq_iff_eq])
      by_cases hno : y3 = false ∧ y4 = false ∧ y5 = false
      · obtain ⟨rfl, rfl, rfl⟩ := hno
        have HE : Hid (¬ putOk m) := Lib.hid (HNO.out fun g => by rcases HP.out.1 g.2.1 with h | h | h <;> cases h)
        go_enter Try.func29, Try.ntmps29
        go_wp2
        go_ret
        exact tells_no HE.out HB1.out
      · have hyes : y3 = true ∨ (y3 = false ∧ y4 = true) ∨ (y3 = false ∧ y4 = false ∧ y5 = true) := by
          cases y3 <;> cases y4 <;> cases y5 <;> simp at hno ⊢
        have HQ : Hid (x.cmd.kind = 3 ∨ x.cmd.kind = 4 ∨ x.cmd.kind = 5) := Lib.hid (HP.out.2 (by rcases hyes with h | h | h <;> simp [h]))
        clear hno HP
        rcases hyes with rfl | ⟨rfl, rfl⟩ | ⟨rfl, rfl, rfl⟩ <;> cases yc <;> cases yn
        all_goals
          first
            | have HE : Hid (putOk m) := Lib.hid (HYE.out ⟨HTT.out, HQ.out, HPC.out, HPN.out.2 rfl⟩)
            | have HE : Hid (¬ putOk m) := Lib.hid (HNO.out fun g => Bool.noConfusion (HPC.out.symm.trans g.2.2.1))
            | have HE : Hid (¬ putOk m) := Lib.hid (HNO.out fun g => Bool.noConfusion (HPN.out.1 g.2.2.2))
          go_enter Try.func29, Try.ntmps29
          go_wp2_with fail
          refine (Cm.check_any x.cmd _ _ HC.out).mono ?_
          rintro e w2 ⟨rfl, hb2⟩
          obtain ⟨p0, p1, -⟩ := cells16 ((hb2.block _ (Rc.lt_of_row8 HA1.out)).trans HA1.out)
          have r1 := (cell_of_row w2 _ 1 _ _ _ ((hb2.block _ (Rc.lt_of_row8 HK1.out)).trans HK1.out)).trans rfl
          have HB2 := Lib.hid (HB1.out.trans (hb2.mono HB1.out.size))
          clear hb2 q0 q1 q2 q3 q4 q5 q6 q7 q8 e0 e1 e2 e3 e4 e5 e6 e7 e8
          go_wp2
          go_ret
          first
            | exact tells_yes HE.out HB2.out
            | exact tells_no HE.out HB2.out
    · have t0 : (x.term != 0) = true := bne_t ht
      have HE : Hid (¬ putOk m) := Lib.hid (HNO.out fun g => ht g.1)
      clear ht
      go_enter Try.func29, Try.ntmps29
      go_wp2
      go_ret
      exact tells_no HE.out HB0.out
  · have HE : Hid (¬ putOk m) := Lib.hid (fun ⟨x, g, _⟩ => c1 (by rw [g]; rfl))
    have c2 : ((m.ents.length : Int) != 1) = true := bne_t (by omega)
    clear c1
    go_enter Try.func29, Try.ntmps29
    go_wp2
    go_ret
    exact tells_no HE.out HX.out.1
end Ms
end Go.Proofs.Yteapccniloednaa
