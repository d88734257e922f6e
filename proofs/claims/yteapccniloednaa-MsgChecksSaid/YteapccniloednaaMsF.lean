/- The document's own entries and put of a message. No condition. -/
import Derived.Test.YteapccniloednaaMsD
import Derived.Test.YteapccniloednaaCmdKJ
namespace Go.Proofs.Yteapccniloednaa
open Go.ChangeShapes Go.WideShapes Go.ChangeAt Go.RowKit Go.Deep
set_option linter.unusedVariables false
set_option maxRecDepth 100000
namespace Ms
open Nv
theorem cErr_ne (b : Bool) : (Cm.cErr b != 0) = !b := by cases b <;> rfl
theorem rcmd_any (c : Cmd) (v : Value) (w : World) (h : IsCmd w v c) : Calls Try.prog 33 #[v] w fun e w' => e = .returned (.int .i64 (Cm.cErr (Cm.chkC c))) ∧ Below w.heap.size w w' := by
  obtain ⟨vn, _, _, hw⟩ := id h
  rw [← Cm.rchk_eq hw]
  exact Cm.rcheck_any c v w h
/-- what an entry's term must reach -/
def Least (m : Mes) (k : Nat) (b : Int) : Prop := ∀ t : Int, (1 ≤ t ∧ Hd.befE m.lterm (m.ents.take k) ≤ t) ↔ b ≤ t
set_option maxHeartbeats 16000000 in
theorem rents_any (m : Mes) (v : Value) (w : World) (h : IsMsg w v m) : Calls Try.prog 19 #[v] w (Tells (feedOk m) w) := by
  obtain ⟨ae, ce, vn, vh, vl, rfl, hlc, hcm, hx⟩ := BoxM.of h
  obtain ⟨q0, q1, q2, q3, q4, q5, q6, q7, q8, -⟩ := cells16 hx.2.1
  have HX := Lib.hid hx
  have hG : IsLog (w.alloc (.cells (mArr m (.slice ae m.ents.length ce) vn vh vl) 32)) (.slice ae m.ents.length ce) m.ents := IsMsg_log hx.2.2.1
  clear hx h
  obtain ⟨rows, hrows, hents, hmap⟩ := hG
  have hrl : rows.length = m.ents.length := by rw [← hmap, List.length_map]
  have HENT := Lib.hid hents
  have HRL := Lib.hid hrl
  have HGET : Hid (∀ k (hk : k < rows.length), m.ents[k]? = some rows[k].1) := Lib.hid (fun k hk => by rw [← hmap, List.getElem?_map, List.getElem?_eq_getElem hk]; rfl)
  have HTK : Hid (∀ k (hk : k < rows.length), m.ents.take (k + 1) = m.ents.take k ++ [rows[k].1]) := Lib.hid (fun k hk => by rw [← hmap, ← List.map_take, ← List.map_take, List.take_succ_eq_append_getElem hk, List.map_append]; rfl)
  obtain ⟨a', cap', hv, hl1, hl2, hrc⟩ := hrows
  simp only [Value.slice.injEq] at hv
  obtain ⟨rfl, -, rfl⟩ := hv
  have HRC := Lib.hid hrc
  clear hrc hmap hents hl1 hl2 hrl
  obtain ⟨mx, hmx⟩ : ∃ q : Int, (if 1 < m.lterm then m.lterm else 1) = q := ⟨_, rfl⟩
  have HL0 : Hid (Least m 0 mx) := Lib.hid (fun t => by
    rw [← hmx, List.take_zero, Hd.befE_nil]
    split <;> omega)
  go_enter Try.func19, Try.ntmps19
  go_wp2
  clear hmx
  go_loopw [3, 12] (fun bf i wr => ∃ k : Nat, ∃ b : Int, k ≤ m.ents.length ∧ i = .int .i64 k ∧ bf = .int .u64 b ∧ Hid (Least m k b) ∧ Hid (feedUp m k) ∧ Below (w.alloc (.cells (mArr m (.slice ae m.ents.length ce) vn vh vl) 32)).heap.size (w.alloc (.cells (mArr m (.slice ae m.ents.length ce) vn vh vl) 32)) wr) (fun _ i _ => m.ents.length - (intOf i).toNat)
  case atStart => exact ⟨0, mx, Nat.zero_le _, rfl, rfl, HL0, Lib.hid (feed_zero _), Below.refl _ _⟩
  case round =>
    clear q0 q1 q2 q3 q4 q5 q6 q7 q8
    obtain ⟨k, bl, hk, rfl, rfl, HL, HU, hb⟩ := hrel
    have HXR := Lib.hid (HX.out.on hb)
    by_cases hlt2 : k < m.ents.length
    · have hlt3 : k < rows.length := by have := HRL.out; omega
      obtain ⟨b, off, rfl, hlt, hc⟩ := Ld.rows_open hlt3 HRC.out
      have hce := fun j u hu => (hb.cell (p := ⟨b, off + (k * 9 + j), none⟩) hlt).trans (hc k _ (Ld.rgetD hlt3) j u hu)
      have hes := HENT.out _ (List.getElem_mem hlt3)
      have HG := Lib.hid (HGET.out k hlt3)
      have HT := Lib.hid (HTK.out k hlt3)
      have HBB := Lib.hid hb
      have hsl := hes.1.below hb (Nat.le_refl _)
      have hwf := hes.2
      clear hc hb hes
      generalize rows[k] = r at *
      obtain ⟨x, vr⟩ := r
      simp only [] at HG HT hsl hwf
      obtain ⟨ar, cr, hvr, -⟩ := id hsl
      subst hvr
      obtain ⟨e0, e1, e2, e3, e4, e5, e6, e7, e8⟩ := Hd.ent_cells hce
      have hx0 := Ld.u64_nonneg hwf.1
      have hb4 : Below wr.heap.size wr (wr.alloc (.cells (entC (x, .slice ar x.cmd.nodes.length cr)).toArray 54)) := (Below.refl _ _).alloc (Nat.le_refl _) _
      have HC4 : Hid (IsCmd (wr.alloc (.cells (entC (x, .slice ar x.cmd.nodes.length cr)).toArray 54)) (.agg (Cm.cArr x.cmd (.slice ar x.cmd.nodes.length cr))) x.cmd) := Lib.hid ⟨_, rfl, hsl.below hb4 (Nat.le_refl _), hwf.2⟩
      have HX4 := Lib.hid (HXR.out.on hb4)
      have HB4 := Lib.hid hb4
      have HK4 := Lib.hid (heap_alloc_new wr (.cells (entC (x, .slice ar x.cmd.nodes.length cr)).toArray 54 (0, 0)))
      obtain ⟨q0, q1, q2, q3, q4, q5, q6, q7, q8, -⟩ := cells16 HX4.out.2.1
      clear hce hsl hwf hb4
      by_cases hlo : x.term < bl
      · have HE : Hid (¬ feedOk m) := Lib.hid (feed_bad HG.out (by omega) (fun q => by have := (HL.out x.term).1 ⟨q.1.1, q.1.2.1⟩; omega))
        go_wp2
        go_ret
        exact tells_no HE.out HX4.out.1
      · have hlo2 : bl ≤ x.term := by omega
        have HLO := Lib.hid ((HL.out x.term).2 hlo2)
        clear hlo
        by_cases hhi : m.term < x.term
        · have HE : Hid (¬ feedOk m) := Lib.hid (feed_bad HG.out (by omega) (fun q => by have := q.2; omega))
          go_wp2
          go_ret
          exact tells_no HE.out HX4.out.1
        · have hhi2 : x.term ≤ m.term := by omega
          clear hhi
          obtain ⟨yc, hyc⟩ : ∃ y, (Cm.cErr (Cm.chkC x.cmd) != 0) = y := ⟨_, rfl⟩
          have HPC : Hid ((!Cm.chkC x.cmd) = yc) := Lib.hid ((cErr_ne _).symm.trans hyc)
          go_wp2_with fail
          refine (rcmd_any x.cmd _ _ HC4.out).mono ?_
          rintro e w5 ⟨rfl, hb5⟩
          have hb45 := HB4.out.trans (hb5.mono (by simp))
          have HY5 := Lib.hid (HBB.out.trans (hb45.mono HBB.out.size))
          have HX5 := Lib.hid (HXR.out.on hb45)
          obtain ⟨d0, d1, d2, d3, d4, d5, d6, d7, d8⟩ := Hd.ent9 ((hb5.block wr.heap.size (by simp)).trans HK4.out)
          clear hb5 hb45 e0 e1 e2 e3 e4 e5 e6 e7 e8 q0 q1 q2 q3 q4 q5 q6 q7 q8
          cases yc
          · have HCH : Hid (Cm.chkC x.cmd = true) := Lib.hid (by have := HPC.out; simpa using this)
            have HU2 := Lib.hid (feed_succ HU.out HG.out ⟨HLO.out.1, HLO.out.2, HCH.out⟩ hhi2)
            have HL2 : Hid (Least m (k + 1) x.term) := Lib.hid (fun t => by
              rw [HT.out, Hd.befE_snoc]
              have := HLO.out.1
              omega)
            go_wp2
            go_roundw
            case rel => exact ⟨k + 1, x.term, by omega, by go_num, rfl, HL2, HU2, HY5.out⟩
            case measure => simp [intOf]; omega
          · have HE : Hid (¬ feedOk m) := Lib.hid (feed_bad HG.out (by omega) (fun q => by
              have := HPC.out
              rw [q.1.2.2] at this
              cases this))
            go_wp2
            go_ret
            exact tells_no HE.out HX5.out.1
    · obtain rfl : k = m.ents.length := by omega
      obtain ⟨q0, q1, q2, q3, q4, q5, q6, q7, q8, -⟩ := cells16 HXR.out.2.1
      by_cases c2 : m.ents.length ≤ 4
      · have c2i : (m.ents.length : Int) ≤ 4 := by omega
        by_cases c1 : m.index ≤ 4611686018427387904
        · have HE : Hid (feedOk m) := Lib.hid ⟨c1, c2, HU.out⟩
          go_wp2
          go_ret
          exact tells_yes HE.out HXR.out.1
        · have HE : Hid (¬ feedOk m) := Lib.hid (fun g => c1 g.1)
          have c3 : 4611686018427387904 < m.index := by omega
          clear c1
          go_wp2
          go_ret
          first
            | exact tells_no HE.out HXR.out.1
            | exact ⟨_, rfl, ⟨fun g => absurd (of_decide_eq_true g) (by omega), fun g => absurd g HE.out⟩, HXR.out.1⟩
      · have HE : Hid (¬ feedOk m) := Lib.hid (fun g => c2 g.2.1)
        have c3 : 4 < m.ents.length := by omega
        have c3i : (4 : Int) < (m.ents.length : Int) := by omega
        clear c2
        go_wp2
        go_ret
        exact tells_no HE.out HXR.out.1
set_option maxHeartbeats 16000000 in
theorem rput_any (m : Mes) (v : Value) (w : World) (h : IsMsg w v m) : Calls Try.prog 21 #[v] w (Tells (putOk m) w) := by
  obtain ⟨ae, ce, vn, vh, vl, rfl, hlc, hcm, hx⟩ := BoxM.of h
  obtain ⟨q0, q1, q2, q3, q4, q5, q6, q7, q8, -⟩ := cells16 hx.2.1
  have HX := Lib.hid hx
  have hG : IsLog (w.alloc (.cells (mArr m (.slice ae m.ents.length ce) vn vh vl) 32)) (.slice ae m.ents.length ce) m.ents := IsMsg_log hx.2.2.1
  clear hx h
  by_cases c1 : m.ents.length = 1
  · obtain ⟨x, b, off, ar, cr, he, rfl, hlt, hsl, hwf, hc⟩ := one_cells hG c1
    have HNO : Hid (¬ (x.term = 0 ∧ (x.cmd.kind = 3 ∨ x.cmd.kind = 4 ∨ x.cmd.kind = 5) ∧ Cm.chkC x.cmd = true ∧ x.cmd.node = m.src) → ¬ putOk m) := Lib.hid (put_not he)
    have HYE : Hid ((x.term = 0 ∧ (x.cmd.kind = 3 ∨ x.cmd.kind = 4 ∨ x.cmd.kind = 5) ∧ Cm.chkC x.cmd = true ∧ x.cmd.node = m.src) → putOk m) := Lib.hid (fun g => ⟨x, he, g⟩)
    clear he hG
    have e0 := hc 0 _ rfl
    have e1 := hc 1 _ rfl
    have e2 := hc 2 _ rfl
    have e3 := hc 3 _ rfl
    have e4 := hc 4 _ rfl
    have e5 := hc 5 _ rfl
    have e6 := hc 6 _ rfl
    have e7 := hc 7 _ rfl
    have e8 := hc 8 _ rfl
    rw [Nat.add_zero] at e0
    clear hc
    unfold BoxM at HX
    generalize m.ents.length = n at *
    subst c1
    have hx := HX.out
    have hb1 : Below (w.alloc (.cells (mArr m (.slice (some ⟨b, off, none⟩) 1 ce) vn vh vl) 32)).heap.size (w.alloc (.cells (mArr m (.slice (some ⟨b, off, none⟩) 1 ce) vn vh vl) 32)) ((w.alloc (.cells (mArr m (.slice (some ⟨b, off, none⟩) 1 ce) vn vh vl) 32)).alloc (.cells (Cm.cArr x.cmd (.slice ar x.cmd.nodes.length cr)) 52)) := (Below.refl _ _).alloc (Nat.le_refl _) _
    have HC : Hid (IsCmd ((w.alloc (.cells (mArr m (.slice (some ⟨b, off, none⟩) 1 ce) vn vh vl) 32)).alloc (.cells (Cm.cArr x.cmd (.slice ar x.cmd.nodes.length cr)) 52)) (.agg (Cm.cArr x.cmd (.slice ar x.cmd.nodes.length cr))) x.cmd) := Lib.hid ⟨_, rfl, hsl.below hb1 (Nat.le_refl _), hwf.2⟩
    have hA1 := (hb1.block _ hx.2.2.2).trans hx.2.1
    have HA1 := Lib.hid hA1
    have HB1 := Lib.hid (hx.1.trans (hb1.mono hx.1.size))
    have HK1 : Hid (((w.alloc (.cells (mArr m (.slice (some ⟨b, off, none⟩) 1 ce) vn vh vl) 32)).alloc (.cells (Cm.cArr x.cmd (.slice ar x.cmd.nodes.length cr)) 52)).heap[w.heap.size + 1]? = some (.cells (Cm.cArr x.cmd (.slice ar x.cmd.nodes.length cr)) 52 (0, 0))) := Lib.hid (heap_alloc2_new _ _ _)
    obtain ⟨-, -, -, -, -, -, -, -, p8, -⟩ := cells16 hA1
    have f0 := (hb1.cell (p := ⟨b, off, none⟩) hlt).trans e0
    clear hx HX hb1 hsl hwf hA1
    by_cases ht : x.term = 0
    · have t0 : (x.term == 0) = true := beq_t ht
      have HTT := Lib.hid ht
      clear ht
      obtain ⟨yc, hyc⟩ : ∃ y, (Cm.cErr (Cm.chkC x.cmd) == 0) = y := ⟨_, rfl⟩
      have HPC : Hid (Cm.chkC x.cmd = yc) := Lib.hid ((Hd.cErr_eq _).symm.trans hyc)
      have hK : x.cmd.kind = 3 ∨ x.cmd.kind = 4 ∨ x.cmd.kind = 5 ∨ ¬ (x.cmd.kind = 3 ∨ x.cmd.kind = 4 ∨ x.cmd.kind = 5) := by omega
      obtain ⟨yn, hyn⟩ : ∃ y, (x.cmd.node == m.src) = y := ⟨_, rfl⟩
      have HPN : Hid (x.cmd.node = m.src ↔ yn = true) := Lib.hid (by rw [← hyn, beq_iff_eq])
      have main : ∀ (y3 y4 y5 : Bool), (x.cmd.kind == 3) = y3 → (x.cmd.kind == 4) = y4 → (x.cmd.kind == 5) = y5 →
          Calls Try.prog 21 #[.agg (mArr m (.slice (some ⟨b, off, none⟩) 1 ce) vn vh vl)] w (Tells (putOk m) w) := by
        intro y3 y4 y5 hy3 hy4 hy5
        have HP : Hid ((x.cmd.kind = 3 ∨ x.cmd.kind = 4 ∨ x.cmd.kind = 5) ↔ (y3 = true ∨ y4 = true ∨ y5 = true)) := Lib.hid (by rw [← hy3, ← hy4, ← hy5, beq_iff_eq, beq_iff_eq, beq_iff_eq])
        clear hK
        cases yc
        · have HE : Hid (¬ putOk m) := Lib.hid (HNO.out fun g => Bool.noConfusion (HPC.out.symm.trans g.2.2.1))
          go_enter Try.func21, Try.ntmps21
          go_wp2_with fail
          refine (rcmd_any x.cmd _ _ HC.out).mono ?_
          rintro e w2 ⟨rfl, hb2⟩
          have HB2 := Lib.hid (HB1.out.trans (hb2.mono HB1.out.size))
          clear hb2 q0 q1 q2 q3 q4 q5 q6 q7 q8 e0 e1 e2 e3 e4 e5 e6 e7 e8 p8 f0
          go_wp2
          go_ret
          exact tells_no HE.out HB2.out
        · cases y3 <;> cases y4 <;> cases y5 <;> cases yn
          all_goals
            first
              | have HE : Hid (putOk m) := Lib.hid (HYE.out ⟨HTT.out, HP.out.2 (of_decide_eq_true rfl), HPC.out, HPN.out.2 rfl⟩)
              | have HE : Hid (¬ putOk m) := Lib.hid (HNO.out fun g => Bool.noConfusion (HPN.out.1 g.2.2.2))
              | have HE : Hid (¬ putOk m) := Lib.hid (HNO.out fun g => by rcases HP.out.1 g.2.1 with h | h | h <;> cases h)
            go_enter Try.func21, Try.ntmps21
            go_wp2_with fail
            refine (rcmd_any x.cmd _ _ HC.out).mono ?_
            rintro e w2 ⟨rfl, hb2⟩
            obtain ⟨p0, p1, -⟩ := cells16 ((hb2.block _ (Rc.lt_of_row8 HA1.out)).trans HA1.out)
            have r0 := (cell_of_row w2 _ 0 _ _ _ ((hb2.block _ (Rc.lt_of_row8 HK1.out)).trans HK1.out)).trans rfl
            have r1 := (cell_of_row w2 _ 1 _ _ _ ((hb2.block _ (Rc.lt_of_row8 HK1.out)).trans HK1.out)).trans rfl
            have HB2 := Lib.hid (HB1.out.trans (hb2.mono HB1.out.size))
            clear hb2 q0 q1 q2 q3 q4 q5 q6 q7 q8 e0 e1 e2 e3 e4 e5 e6 e7 e8 p8 f0
            go_wp2
            go_ret
            first
              | exact tells_yes HE.out HB2.out
              | exact tells_no HE.out HB2.out
      exact main _ _ _ rfl rfl rfl
    · have t0 : (x.term == 0) = false := beq_f ht
      have HE : Hid (¬ putOk m) := Lib.hid (HNO.out fun g => ht g.1)
      clear ht
      go_enter Try.func21, Try.ntmps21
      go_wp2
      go_ret
      exact tells_no HE.out HB1.out
  · have HE : Hid (¬ putOk m) := Lib.hid (fun ⟨x, g, _⟩ => c1 (by rw [g]; rfl))
    have c2 : ((m.ents.length : Int) != 1) = true := bne_t (by omega)
    clear c1
    go_enter Try.func21, Try.ntmps21
    go_wp2
    go_ret
    exact tells_no HE.out HX.out.1
end Ms
end Go.Proofs.Yteapccniloednaa
