/- What may last, by the document's own answer. No condition. -/
import Derived.Test.YtlkgmjhejocobaaHdC
import Derived.Test.YtlkgmjhejocobaaShR
import Derived.Test.YtlkgmjhejocobaaCmdKJ
namespace Go.Proofs.Ytlkgmjhejocobaa
open Go.ChangeShapes Go.WideShapes Go.ChangeAt Go.RowKit
set_option linter.unusedVariables false
set_option maxRecDepth 100000
namespace Hd
theorem cmd_rcheck (c : Cmd) (v : Value) (w : World) (h : IsCmd w v c) :
    Calls Try.prog 107 #[v] w fun e w' => e = .returned (.int .i64 (Cm.cErr (Cm.chkC c))) ∧ Below w.heap.size w w' := by
  have hw : c.wf := by obtain ⟨_, _, _, h⟩ := h; exact h
  rw [← Cm.rchk_eq hw]
  exact Cm.rcheck_any c v w h
set_option maxHeartbeats 1000000 in
theorem rlast_any (h : Har) (v : Value) (w : World) (hh : IsHard w v h) (hi : h.shot.index ≤ 4611686018427387904) :
    Calls Try.prog 75 #[v] w fun e w' => e = .returned (.int .u64 (h.shot.index + h.log.length)) ∧ Below w.heap.size w w' := by
  obtain ⟨vn, vh, vl, vg, rfl, -, -, -, hg, hwf⟩ := hh
  obtain ⟨a, cap, rfl, h1, h2⟩ := IsLog.len hg
  have h0 := Ld.u64_nonneg hwf.2.2.2.1
  obtain ⟨b0, b1, b2, b3, b4, b5, b6, b7, b8, b9, b10⟩ := cells11 (heap_alloc_new w (.cells (hArr h vn vh vl (.slice a h.log.length cap)) 43 (0, 0)))
  have HB : Hid (Below w.heap.size w (w.alloc (.cells (hArr h vn vh vl (.slice a h.log.length cap)) 43))) := Lib.hid ((Below.refl _ _).alloc (Nat.le_refl _) _)
  clear hg hwf
  go_enter Try.func75, Try.ntmps75
  go_wp2
  go_ret
  exact ⟨rfl, HB.out⟩
def preOk (h : Har) : Prop := h.boot ≤ top62 ∧ Sh.shotOk h.shot ∧ h.shot.index ≤ top62 ∧ h.shot.index + h.log.length ≤ top62 ∧ 0 ≤ h.vote ∧ h.vote ≤ 7 ∧ (h.term = 0 → h.vote = 0)
theorem hard_iff (h : Har) : hardOk h ↔ preOk h ∧ logUp h.shot.term h.log h.log.length ∧ befE h.shot.term h.log ≤ h.term :=
  ⟨fun g => ⟨⟨g.1, g.2.1, g.2.2.1, g.2.2.2.1, g.2.2.2.2.2.2.1, g.2.2.2.2.2.2.2.1, g.2.2.2.2.2.2.2.2⟩, g.2.2.2.2.1, g.2.2.2.2.2.1⟩, fun g => ⟨g.1.1, g.1.2.1, g.1.2.2.1, g.1.2.2.2.1, g.2.1, g.2.2, g.1.2.2.2.2.1, g.1.2.2.2.2.2.1, g.1.2.2.2.2.2.2⟩⟩
theorem pre_down {h : Har} {g : Bool} {k : Nat} (HU : g = true ↔ preOk h ∧ logUp h.shot.term h.log k) (hg : g = false) : (false = true ↔ preOk h ∧ logUp h.shot.term h.log (k + 1)) :=
  ⟨fun h => (by cases h), fun q => by have := HU.2 ⟨q.1, fun j y hj hy => q.2 j y (by omega) hy⟩; rw [hg] at this; exact this⟩

set_option maxHeartbeats 30000000 in
theorem rcheck_any (h : Har) (v : Value) (w : World) (hh : IsHard w v h) :
    Calls Try.prog 62 #[v] w (SaysH h w) := by
  obtain ⟨vn, vh, vl, vg, rfl, hn, hhe, hl, hg, hwf⟩ := id hh
  obtain ⟨a, cap, rfl, hlc, hcm⟩ := IsLog.len hg
  have hb0 : Below w.heap.size w (w.alloc (.cells (hArr h vn vh vl (.slice a h.log.length cap)) 43)) := (Below.refl _ _).alloc (Nat.le_refl _) _
  have HB := Lib.hid hb0
  have HH := Lib.hid (hh.below hb0 (Nat.le_refl _))
  have HS : Hid (IsShot (w.alloc (.cells (hArr h vn vh vl (.slice a h.log.length cap)) 43)) (.agg (sArr h.shot vn vh vl)) h.shot) := Lib.hid ⟨vn, vh, vl, rfl, hn.below hb0 (Nat.le_refl _), hhe.below hb0 (Nat.le_refl _), hl.below hb0 (Nat.le_refl _), hwf.2.2.2⟩
  have hr : Below (w.heap.size + 1) (w.alloc (.cells (hArr h vn vh vl (.slice a h.log.length cap)) 43)) (w.alloc (.cells (hArr h vn vh vl (.slice a h.log.length cap)) 43)) := Below.refl _ _
  obtain ⟨b0, b1, b2, b3, b4, b5, b6, b7, b8, b9, b10⟩ := cells11 (box_cells hr)
  have HR0 := Lib.hid hr
  have hi0 := Ld.u64_nonneg hwf.2.2.2.1
  have ht0 := Ld.u64_nonneg hwf.2.1
  obtain ⟨rows, hrows, hents, hmap⟩ := hg.below hb0 (Nat.le_refl _)
  have hrl : rows.length = h.log.length := by rw [← hmap, List.length_map]
  have HENT := Lib.hid hents
  have HRL := Lib.hid hrl
  have HGET : Hid (∀ k (hk : k < rows.length), h.log[k]? = some rows[k].1) := Lib.hid (fun k hk => by rw [← hmap, List.getElem?_map, List.getElem?_eq_getElem hk]; rfl)
  have HTK : Hid (∀ k (hk : k < rows.length), h.log.take (k + 1) = h.log.take k ++ [rows[k].1]) := Lib.hid (fun k hk => by rw [← hmap, ← List.map_take, ← List.map_take, List.take_succ_eq_append_getElem hk, List.map_append]; rfl)
  obtain ⟨a', cap', hv, hl1, hl2, hrc⟩ := hrows
  simp only [Value.slice.injEq] at hv
  obtain ⟨rfl, -, rfl⟩ := hv
  have HRC := Lib.hid hrc
  clear hrc hmap hents hl1 hl2 hh hn hhe hl hg hwf hb0 hr hrl
  by_cases c1 : 4611686018427387904 < h.boot
  · have HP : Hid (¬ preOk h) := Lib.hid (fun q => by unfold preOk top62 at q; omega)
    have HBX := HR0
    go_enter Try.func62, Try.ntmps62
    go_wp2
    go_loopw [3, 4, 53] (fun gv lv i wr => ∃ (k : Nat) (g : Bool), k ≤ h.log.length ∧ i = .int .i64 k ∧ gv = .bool g ∧ lv = .int .u64 (befE h.shot.term (h.log.take k)) ∧ Hid (g = true ↔ preOk h ∧ logUp h.shot.term h.log k) ∧ Below (w.heap.size + 1) (w.alloc (.cells (hArr h vn vh vl (.slice a h.log.length cap)) 43)) wr) (fun _ _ i _ => h.log.length - (intOf i).toNat)
    case atStart => exact ⟨0, false, Nat.zero_le _, rfl, rfl, rfl, Lib.hid ⟨fun q => (by cases q), fun q => absurd q.1 HP.out⟩, HBX.out⟩
    case round =>
      clear b0 b1 b2 b3 b4 b5 b6 b7 b8 b9 b10
      obtain ⟨k, g, hk, rfl, rfl, rfl, HU, hb⟩ := hrel
      have hzw : w.heap.size < wr.heap.size := by have := hb.size; simp at this; omega
      by_cases hlt2 : k < h.log.length
      · have hlt3 : k < rows.length := by rw [HRL.out]; exact hlt2
        obtain ⟨b, off, rfl, hlt, hc⟩ := Ld.rows_open hlt3 HRC.out
        have hbs : b < w.heap.size + 1 := by simpa using hlt
        have hce := fun j u hu => (hb.cell (p := ⟨b, off + (k * 9 + j), none⟩) hbs).trans (hc k _ (Ld.rgetD hlt3) j u hu)
        have hes := HENT.out _ (List.getElem_mem hlt3)
        have HEN : Hid (IsEnt wr (.agg (entC rows[k]).toArray) rows[k].1) := Lib.hid ⟨rows[k].2, rfl, hes.1.below hb (by simp), hes.2⟩
        have HG := Lib.hid (HGET.out k hlt3)
        have HT := Lib.hid (HTK.out k hlt3)
        have HBB := Lib.hid hb
        have hsl := hes.1.below hb (by simp)
        have hwf := hes.2
        clear hc hb hes
        generalize rows[k] = r at *
        obtain ⟨x, vr⟩ := r
        simp only [] at HEN HG HT hsl hwf
        obtain ⟨ar, cr, hvr, -⟩ := id hsl
        subst hvr
        obtain ⟨e0, e1, e2, e3, e4, e5, e6, e7, e8⟩ := ent_cells hce
        have hx0 := Ld.u64_nonneg hwf.1
        have HBE : Hid (befE h.shot.term (h.log.take (k + 1)) = x.term) := Lib.hid (by rw [HT.out, befE_snoc])
        have hb4 : Below wr.heap.size wr (wr.alloc (.cells (entC (x, .slice ar x.cmd.nodes.length cr)).toArray 47)) := (Below.refl _ _).alloc (Nat.le_refl _) _
        have HC4 : Hid (IsCmd (wr.alloc (.cells (entC (x, .slice ar x.cmd.nodes.length cr)).toArray 47)) (.agg (Cm.cArr x.cmd (.slice ar x.cmd.nodes.length cr))) x.cmd) := Lib.hid ⟨_, rfl, hsl.below hb4 (Nat.le_refl _), hwf.2⟩
        have HB4 := Lib.hid hb4
        have HK4 := Lib.hid (heap_alloc_new wr (.cells (entC (x, .slice ar x.cmd.nodes.length cr)).toArray 47 (0, 0)))
        have HX4 := Lib.hid (HBB.out.trans (hb4.mono (by omega)))
        obtain ⟨d0, d1, d2, d3, d4, d5, d6, d7, d8⟩ := ent9 HK4.out
        clear hce hsl hwf hb4
        cases g
        · go_wp2
          go_roundw
          case rel => exact ⟨k + 1, false, by omega, by go_num, rfl, by rw [HBE.out], Lib.hid (pre_down HU.out rfl), HX4.out⟩
          case measure => simp [intOf]; omega
        · have HUP := Lib.hid (HU.out.1 rfl)
          by_cases q1 : 1 ≤ x.term
          · by_cases q2 : befE h.shot.term (h.log.take k) ≤ x.term
            · have HQ := Lib.hid (show 1 ≤ x.term ∧ befE h.shot.term (h.log.take k) ≤ x.term from ⟨q1, q2⟩)
              go_wp2_with fail
              refine (cmd_rcheck x.cmd _ _ HC4.out).mono ?_
              rintro e w5 ⟨rfl, hb5⟩
              have HX5 := Lib.hid (HX4.out.trans (hb5.mono (by simp; omega)))
              clear d0 d1 d2 d3 d4 d5 d6 d7 d8
              obtain ⟨d0, d1, d2, d3, d4, d5, d6, d7, d8⟩ := ent9 ((hb5.block wr.heap.size (by simp)).trans HK4.out)
              clear hb5
              have HNX : Hid ((Cm.cErr (Cm.chkC x.cmd) == 0) = true ↔ preOk h ∧ logUp h.shot.term h.log (k + 1)) := Lib.hid (by
                rw [cErr_eq]
                exact ⟨fun q => ⟨HUP.out.1, logUp_succ HUP.out.2 HG.out ⟨HQ.out.1, HQ.out.2, q⟩⟩, fun q => (q.2 k x (by omega) HG.out).2.2⟩)
              go_wp2
              go_roundw
              case rel => exact ⟨k + 1, _, by omega, by go_num, rfl, by rw [HBE.out], HNX, HX5.out⟩
              case measure => simp [intOf]; omega
            · have HNX : Hid (false = true ↔ preOk h ∧ logUp h.shot.term h.log (k + 1)) := Lib.hid ⟨fun q => (by cases q), fun q => absurd (q.2 k x (by omega) HG.out).2.1 q2⟩
              have q3 : x.term < befE h.shot.term (h.log.take k) := by omega
              clear q2
              go_wp2
              go_roundw
              case rel => exact ⟨k + 1, false, by omega, by go_num, rfl, by rw [HBE.out], HNX, HX4.out⟩
              case measure => simp [intOf]; omega
          · have HNX : Hid (false = true ↔ preOk h ∧ logUp h.shot.term h.log (k + 1)) := Lib.hid ⟨fun q => (by cases q), fun q => absurd (q.2 k x (by omega) HG.out).1 q1⟩
            have q3 : x.term < 1 := by omega
            clear q1
            go_wp2
            go_roundw
            case rel => exact ⟨k + 1, false, by omega, by go_num, rfl, by rw [HBE.out], HNX, HX4.out⟩
            case measure => simp [intOf]; omega
      · obtain rfl : k = h.log.length := by omega
        have HBW := Lib.hid (box_below hb)
        obtain ⟨b0, b1, b2, b3, b4, b5, b6, b7, b8, b9, b10⟩ := cells11 (box_cells hb)
        clear hb
        have HTL : Hid (befE h.shot.term (h.log.take h.log.length) = befE h.shot.term h.log) := Lib.hid (by rw [List.take_length])
        have htl := HTL.out
        rw [htl]
        clear htl
        cases g
        · have HE : Hid (¬ hardOk h) := Lib.hid (fun q => by have := HU.out.2 ⟨((hard_iff h).1 q).1, ((hard_iff h).1 q).2.1⟩; cases this)
          go_wp2
          go_ret
          exact says_no HE.out HBW.out
        · have HUP := Lib.hid (HU.out.1 rfl)
          by_cases q4 : h.term < befE h.shot.term h.log
          · have HE : Hid (¬ hardOk h) := Lib.hid (fun q => by have := ((hard_iff h).1 q).2.2; omega)
            go_wp2
            go_ret
            exact says_no HE.out HBW.out
          · have HE : Hid (hardOk h) := Lib.hid ((hard_iff h).2 ⟨HUP.out.1, HUP.out.2, by omega⟩)
            go_wp2
            go_ret
            exact says_yes HE.out HBW.out
  have c1' : h.boot ≤ 4611686018427387904 := by omega
  clear c1
  go_enter Try.func62, Try.ntmps62
  go_wp2_with fail
  refine (Sh.rcheck_any h.shot _ _ HS.out).mono ?_
  rintro e w1 ⟨z1, rfl, hz1, hb1⟩
  have hb1' : Below (w.heap.size + 1) (w.alloc (.cells (hArr h vn vh vl (.slice a h.log.length cap)) 43)) w1 := hb1.mono (by simp)
  have HX1 := Lib.hid hb1'
  have HH1 := Lib.hid (HH.out.below hb1 (Nat.le_refl _))
  clear b0 b1 b2 b3 b4 b5 b6 b7 b8 b9 b10
  obtain ⟨b0, b1, b2, b3, b4, b5, b6, b7, b8, b9, b10⟩ := cells11 (box_cells hb1')
  clear hb1 hb1'
  rcases hz1.symm with ⟨rfl, hno⟩ | ⟨rfl, hok⟩
  · have HP : Hid (¬ preOk h) := Lib.hid (fun q => absurd q.2.1 hno)
    have HBX := HX1
    clear hno hz1
    go_wp2
    go_loopw [3, 4, 53] (fun gv lv i wr => ∃ (k : Nat) (g : Bool), k ≤ h.log.length ∧ i = .int .i64 k ∧ gv = .bool g ∧ lv = .int .u64 (befE h.shot.term (h.log.take k)) ∧ Hid (g = true ↔ preOk h ∧ logUp h.shot.term h.log k) ∧ Below (w.heap.size + 1) (w.alloc (.cells (hArr h vn vh vl (.slice a h.log.length cap)) 43)) wr) (fun _ _ i _ => h.log.length - (intOf i).toNat)
    case atStart => exact ⟨0, false, Nat.zero_le _, rfl, rfl, rfl, Lib.hid ⟨fun q => (by cases q), fun q => absurd q.1 HP.out⟩, HBX.out⟩
    case round =>
      clear b0 b1 b2 b3 b4 b5 b6 b7 b8 b9 b10
      obtain ⟨k, g, hk, rfl, rfl, rfl, HU, hb⟩ := hrel
      have hzw : w.heap.size < wr.heap.size := by have := hb.size; simp at this; omega
      by_cases hlt2 : k < h.log.length
      · have hlt3 : k < rows.length := by rw [HRL.out]; exact hlt2
        obtain ⟨b, off, rfl, hlt, hc⟩ := Ld.rows_open hlt3 HRC.out
        have hbs : b < w.heap.size + 1 := by simpa using hlt
        have hce := fun j u hu => (hb.cell (p := ⟨b, off + (k * 9 + j), none⟩) hbs).trans (hc k _ (Ld.rgetD hlt3) j u hu)
        have hes := HENT.out _ (List.getElem_mem hlt3)
        have HEN : Hid (IsEnt wr (.agg (entC rows[k]).toArray) rows[k].1) := Lib.hid ⟨rows[k].2, rfl, hes.1.below hb (by simp), hes.2⟩
        have HG := Lib.hid (HGET.out k hlt3)
        have HT := Lib.hid (HTK.out k hlt3)
        have HBB := Lib.hid hb
        have hsl := hes.1.below hb (by simp)
        have hwf := hes.2
        clear hc hb hes
        generalize rows[k] = r at *
        obtain ⟨x, vr⟩ := r
        simp only [] at HEN HG HT hsl hwf
        obtain ⟨ar, cr, hvr, -⟩ := id hsl
        subst hvr
        obtain ⟨e0, e1, e2, e3, e4, e5, e6, e7, e8⟩ := ent_cells hce
        have hx0 := Ld.u64_nonneg hwf.1
        have HBE : Hid (befE h.shot.term (h.log.take (k + 1)) = x.term) := Lib.hid (by rw [HT.out, befE_snoc])
        have hb4 : Below wr.heap.size wr (wr.alloc (.cells (entC (x, .slice ar x.cmd.nodes.length cr)).toArray 47)) := (Below.refl _ _).alloc (Nat.le_refl _) _
        have HC4 : Hid (IsCmd (wr.alloc (.cells (entC (x, .slice ar x.cmd.nodes.length cr)).toArray 47)) (.agg (Cm.cArr x.cmd (.slice ar x.cmd.nodes.length cr))) x.cmd) := Lib.hid ⟨_, rfl, hsl.below hb4 (Nat.le_refl _), hwf.2⟩
        have HB4 := Lib.hid hb4
        have HK4 := Lib.hid (heap_alloc_new wr (.cells (entC (x, .slice ar x.cmd.nodes.length cr)).toArray 47 (0, 0)))
        have HX4 := Lib.hid (HBB.out.trans (hb4.mono (by omega)))
        obtain ⟨d0, d1, d2, d3, d4, d5, d6, d7, d8⟩ := ent9 HK4.out
        clear hce hsl hwf hb4
        cases g
        · go_wp2
          go_roundw
          case rel => exact ⟨k + 1, false, by omega, by go_num, rfl, by rw [HBE.out], Lib.hid (pre_down HU.out rfl), HX4.out⟩
          case measure => simp [intOf]; omega
        · have HUP := Lib.hid (HU.out.1 rfl)
          by_cases q1 : 1 ≤ x.term
          · by_cases q2 : befE h.shot.term (h.log.take k) ≤ x.term
            · have HQ := Lib.hid (show 1 ≤ x.term ∧ befE h.shot.term (h.log.take k) ≤ x.term from ⟨q1, q2⟩)
              go_wp2_with fail
              refine (cmd_rcheck x.cmd _ _ HC4.out).mono ?_
              rintro e w5 ⟨rfl, hb5⟩
              have HX5 := Lib.hid (HX4.out.trans (hb5.mono (by simp; omega)))
              clear d0 d1 d2 d3 d4 d5 d6 d7 d8
              obtain ⟨d0, d1, d2, d3, d4, d5, d6, d7, d8⟩ := ent9 ((hb5.block wr.heap.size (by simp)).trans HK4.out)
              clear hb5
              have HNX : Hid ((Cm.cErr (Cm.chkC x.cmd) == 0) = true ↔ preOk h ∧ logUp h.shot.term h.log (k + 1)) := Lib.hid (by
                rw [cErr_eq]
                exact ⟨fun q => ⟨HUP.out.1, logUp_succ HUP.out.2 HG.out ⟨HQ.out.1, HQ.out.2, q⟩⟩, fun q => (q.2 k x (by omega) HG.out).2.2⟩)
              go_wp2
              go_roundw
              case rel => exact ⟨k + 1, _, by omega, by go_num, rfl, by rw [HBE.out], HNX, HX5.out⟩
              case measure => simp [intOf]; omega
            · have HNX : Hid (false = true ↔ preOk h ∧ logUp h.shot.term h.log (k + 1)) := Lib.hid ⟨fun q => (by cases q), fun q => absurd (q.2 k x (by omega) HG.out).2.1 q2⟩
              have q3 : x.term < befE h.shot.term (h.log.take k) := by omega
              clear q2
              go_wp2
              go_roundw
              case rel => exact ⟨k + 1, false, by omega, by go_num, rfl, by rw [HBE.out], HNX, HX4.out⟩
              case measure => simp [intOf]; omega
          · have HNX : Hid (false = true ↔ preOk h ∧ logUp h.shot.term h.log (k + 1)) := Lib.hid ⟨fun q => (by cases q), fun q => absurd (q.2 k x (by omega) HG.out).1 q1⟩
            have q3 : x.term < 1 := by omega
            clear q1
            go_wp2
            go_roundw
            case rel => exact ⟨k + 1, false, by omega, by go_num, rfl, by rw [HBE.out], HNX, HX4.out⟩
            case measure => simp [intOf]; omega
      · obtain rfl : k = h.log.length := by omega
        have HBW := Lib.hid (box_below hb)
        obtain ⟨b0, b1, b2, b3, b4, b5, b6, b7, b8, b9, b10⟩ := cells11 (box_cells hb)
        clear hb
        have HTL : Hid (befE h.shot.term (h.log.take h.log.length) = befE h.shot.term h.log) := Lib.hid (by rw [List.take_length])
        have htl := HTL.out
        rw [htl]
        clear htl
        cases g
        · have HE : Hid (¬ hardOk h) := Lib.hid (fun q => by have := HU.out.2 ⟨((hard_iff h).1 q).1, ((hard_iff h).1 q).2.1⟩; cases this)
          go_wp2
          go_ret
          exact says_no HE.out HBW.out
        · have HUP := Lib.hid (HU.out.1 rfl)
          by_cases q4 : h.term < befE h.shot.term h.log
          · have HE : Hid (¬ hardOk h) := Lib.hid (fun q => by have := ((hard_iff h).1 q).2.2; omega)
            go_wp2
            go_ret
            exact says_no HE.out HBW.out
          · have HE : Hid (hardOk h) := Lib.hid ((hard_iff h).2 ⟨HUP.out.1, HUP.out.2, by omega⟩)
            go_wp2
            go_ret
            exact says_yes HE.out HBW.out
  have HOK := Lib.hid hok
  clear hok hz1
  by_cases c2 : 4611686018427387904 < h.shot.index
  · have HP : Hid (¬ preOk h) := Lib.hid (fun q => by unfold preOk top62 at q; omega)
    have HBX := HX1
    go_wp2
    go_loopw [3, 4, 53] (fun gv lv i wr => ∃ (k : Nat) (g : Bool), k ≤ h.log.length ∧ i = .int .i64 k ∧ gv = .bool g ∧ lv = .int .u64 (befE h.shot.term (h.log.take k)) ∧ Hid (g = true ↔ preOk h ∧ logUp h.shot.term h.log k) ∧ Below (w.heap.size + 1) (w.alloc (.cells (hArr h vn vh vl (.slice a h.log.length cap)) 43)) wr) (fun _ _ i _ => h.log.length - (intOf i).toNat)
    case atStart => exact ⟨0, false, Nat.zero_le _, rfl, rfl, rfl, Lib.hid ⟨fun q => (by cases q), fun q => absurd q.1 HP.out⟩, HBX.out⟩
    case round =>
      clear b0 b1 b2 b3 b4 b5 b6 b7 b8 b9 b10
      obtain ⟨k, g, hk, rfl, rfl, rfl, HU, hb⟩ := hrel
      have hzw : w.heap.size < wr.heap.size := by have := hb.size; simp at this; omega
      by_cases hlt2 : k < h.log.length
      · have hlt3 : k < rows.length := by rw [HRL.out]; exact hlt2
        obtain ⟨b, off, rfl, hlt, hc⟩ := Ld.rows_open hlt3 HRC.out
        have hbs : b < w.heap.size + 1 := by simpa using hlt
        have hce := fun j u hu => (hb.cell (p := ⟨b, off + (k * 9 + j), none⟩) hbs).trans (hc k _ (Ld.rgetD hlt3) j u hu)
        have hes := HENT.out _ (List.getElem_mem hlt3)
        have HEN : Hid (IsEnt wr (.agg (entC rows[k]).toArray) rows[k].1) := Lib.hid ⟨rows[k].2, rfl, hes.1.below hb (by simp), hes.2⟩
        have HG := Lib.hid (HGET.out k hlt3)
        have HT := Lib.hid (HTK.out k hlt3)
        have HBB := Lib.hid hb
        have hsl := hes.1.below hb (by simp)
        have hwf := hes.2
        clear hc hb hes
        generalize rows[k] = r at *
        obtain ⟨x, vr⟩ := r
        simp only [] at HEN HG HT hsl hwf
        obtain ⟨ar, cr, hvr, -⟩ := id hsl
        subst hvr
        obtain ⟨e0, e1, e2, e3, e4, e5, e6, e7, e8⟩ := ent_cells hce
        have hx0 := Ld.u64_nonneg hwf.1
        have HBE : Hid (befE h.shot.term (h.log.take (k + 1)) = x.term) := Lib.hid (by rw [HT.out, befE_snoc])
        have hb4 : Below wr.heap.size wr (wr.alloc (.cells (entC (x, .slice ar x.cmd.nodes.length cr)).toArray 47)) := (Below.refl _ _).alloc (Nat.le_refl _) _
        have HC4 : Hid (IsCmd (wr.alloc (.cells (entC (x, .slice ar x.cmd.nodes.length cr)).toArray 47)) (.agg (Cm.cArr x.cmd (.slice ar x.cmd.nodes.length cr))) x.cmd) := Lib.hid ⟨_, rfl, hsl.below hb4 (Nat.le_refl _), hwf.2⟩
        have HB4 := Lib.hid hb4
        have HK4 := Lib.hid (heap_alloc_new wr (.cells (entC (x, .slice ar x.cmd.nodes.length cr)).toArray 47 (0, 0)))
        have HX4 := Lib.hid (HBB.out.trans (hb4.mono (by omega)))
        obtain ⟨d0, d1, d2, d3, d4, d5, d6, d7, d8⟩ := ent9 HK4.out
        clear hce hsl hwf hb4
        cases g
        · go_wp2
          go_roundw
          case rel => exact ⟨k + 1, false, by omega, by go_num, rfl, by rw [HBE.out], Lib.hid (pre_down HU.out rfl), HX4.out⟩
          case measure => simp [intOf]; omega
        · have HUP := Lib.hid (HU.out.1 rfl)
          by_cases q1 : 1 ≤ x.term
          · by_cases q2 : befE h.shot.term (h.log.take k) ≤ x.term
            · have HQ := Lib.hid (show 1 ≤ x.term ∧ befE h.shot.term (h.log.take k) ≤ x.term from ⟨q1, q2⟩)
              go_wp2_with fail
              refine (cmd_rcheck x.cmd _ _ HC4.out).mono ?_
              rintro e w5 ⟨rfl, hb5⟩
              have HX5 := Lib.hid (HX4.out.trans (hb5.mono (by simp; omega)))
              clear d0 d1 d2 d3 d4 d5 d6 d7 d8
              obtain ⟨d0, d1, d2, d3, d4, d5, d6, d7, d8⟩ := ent9 ((hb5.block wr.heap.size (by simp)).trans HK4.out)
              clear hb5
              have HNX : Hid ((Cm.cErr (Cm.chkC x.cmd) == 0) = true ↔ preOk h ∧ logUp h.shot.term h.log (k + 1)) := Lib.hid (by
                rw [cErr_eq]
                exact ⟨fun q => ⟨HUP.out.1, logUp_succ HUP.out.2 HG.out ⟨HQ.out.1, HQ.out.2, q⟩⟩, fun q => (q.2 k x (by omega) HG.out).2.2⟩)
              go_wp2
              go_roundw
              case rel => exact ⟨k + 1, _, by omega, by go_num, rfl, by rw [HBE.out], HNX, HX5.out⟩
              case measure => simp [intOf]; omega
            · have HNX : Hid (false = true ↔ preOk h ∧ logUp h.shot.term h.log (k + 1)) := Lib.hid ⟨fun q => (by cases q), fun q => absurd (q.2 k x (by omega) HG.out).2.1 q2⟩
              have q3 : x.term < befE h.shot.term (h.log.take k) := by omega
              clear q2
              go_wp2
              go_roundw
              case rel => exact ⟨k + 1, false, by omega, by go_num, rfl, by rw [HBE.out], HNX, HX4.out⟩
              case measure => simp [intOf]; omega
          · have HNX : Hid (false = true ↔ preOk h ∧ logUp h.shot.term h.log (k + 1)) := Lib.hid ⟨fun q => (by cases q), fun q => absurd (q.2 k x (by omega) HG.out).1 q1⟩
            have q3 : x.term < 1 := by omega
            clear q1
            go_wp2
            go_roundw
            case rel => exact ⟨k + 1, false, by omega, by go_num, rfl, by rw [HBE.out], HNX, HX4.out⟩
            case measure => simp [intOf]; omega
      · obtain rfl : k = h.log.length := by omega
        have HBW := Lib.hid (box_below hb)
        obtain ⟨b0, b1, b2, b3, b4, b5, b6, b7, b8, b9, b10⟩ := cells11 (box_cells hb)
        clear hb
        have HTL : Hid (befE h.shot.term (h.log.take h.log.length) = befE h.shot.term h.log) := Lib.hid (by rw [List.take_length])
        have htl := HTL.out
        rw [htl]
        clear htl
        cases g
        · have HE : Hid (¬ hardOk h) := Lib.hid (fun q => by have := HU.out.2 ⟨((hard_iff h).1 q).1, ((hard_iff h).1 q).2.1⟩; cases this)
          go_wp2
          go_ret
          exact says_no HE.out HBW.out
        · have HUP := Lib.hid (HU.out.1 rfl)
          by_cases q4 : h.term < befE h.shot.term h.log
          · have HE : Hid (¬ hardOk h) := Lib.hid (fun q => by have := ((hard_iff h).1 q).2.2; omega)
            go_wp2
            go_ret
            exact says_no HE.out HBW.out
          · have HE : Hid (hardOk h) := Lib.hid ((hard_iff h).2 ⟨HUP.out.1, HUP.out.2, by omega⟩)
            go_wp2
            go_ret
            exact says_yes HE.out HBW.out
  have c2' : h.shot.index ≤ 4611686018427387904 := by omega
  clear c2
  go_wp2_with fail
  refine (rlast_any h _ _ HH1.out c2').mono ?_
  rintro e w2 ⟨rfl, hb2⟩
  have hb2' : Below (w.heap.size + 1) (w.alloc (.cells (hArr h vn vh vl (.slice a h.log.length cap)) 43)) w2 := HX1.out.trans (hb2.mono (by have := HX1.out.size; simpa using this))
  have HX2 := Lib.hid hb2'
  have HBX := HX2
  clear b0 b1 b2 b3 b4 b5 b6 b7 b8 b9 b10
  obtain ⟨b0, b1, b2, b3, b4, b5, b6, b7, b8, b9, b10⟩ := cells11 (box_cells hb2')
  clear hb2 hb2'
  by_cases c3 : 4611686018427387904 < h.shot.index + h.log.length
  · have HP : Hid (¬ preOk h) := Lib.hid (fun q => by unfold preOk top62 at q; omega)
    go_wp2
    go_loopw [3, 4, 53] (fun gv lv i wr => ∃ (k : Nat) (g : Bool), k ≤ h.log.length ∧ i = .int .i64 k ∧ gv = .bool g ∧ lv = .int .u64 (befE h.shot.term (h.log.take k)) ∧ Hid (g = true ↔ preOk h ∧ logUp h.shot.term h.log k) ∧ Below (w.heap.size + 1) (w.alloc (.cells (hArr h vn vh vl (.slice a h.log.length cap)) 43)) wr) (fun _ _ i _ => h.log.length - (intOf i).toNat)
    case atStart => exact ⟨0, false, Nat.zero_le _, rfl, rfl, rfl, Lib.hid ⟨fun q => (by cases q), fun q => absurd q.1 HP.out⟩, HBX.out⟩
    case round =>
      clear b0 b1 b2 b3 b4 b5 b6 b7 b8 b9 b10
      obtain ⟨k, g, hk, rfl, rfl, rfl, HU, hb⟩ := hrel
      have hzw : w.heap.size < wr.heap.size := by have := hb.size; simp at this; omega
      by_cases hlt2 : k < h.log.length
      · have hlt3 : k < rows.length := by rw [HRL.out]; exact hlt2
        obtain ⟨b, off, rfl, hlt, hc⟩ := Ld.rows_open hlt3 HRC.out
        have hbs : b < w.heap.size + 1 := by simpa using hlt
        have hce := fun j u hu => (hb.cell (p := ⟨b, off + (k * 9 + j), none⟩) hbs).trans (hc k _ (Ld.rgetD hlt3) j u hu)
        have hes := HENT.out _ (List.getElem_mem hlt3)
        have HEN : Hid (IsEnt wr (.agg (entC rows[k]).toArray) rows[k].1) := Lib.hid ⟨rows[k].2, rfl, hes.1.below hb (by simp), hes.2⟩
        have HG := Lib.hid (HGET.out k hlt3)
        have HT := Lib.hid (HTK.out k hlt3)
        have HBB := Lib.hid hb
        have hsl := hes.1.below hb (by simp)
        have hwf := hes.2
        clear hc hb hes
        generalize rows[k] = r at *
        obtain ⟨x, vr⟩ := r
        simp only [] at HEN HG HT hsl hwf
        obtain ⟨ar, cr, hvr, -⟩ := id hsl
        subst hvr
        obtain ⟨e0, e1, e2, e3, e4, e5, e6, e7, e8⟩ := ent_cells hce
        have hx0 := Ld.u64_nonneg hwf.1
        have HBE : Hid (befE h.shot.term (h.log.take (k + 1)) = x.term) := Lib.hid (by rw [HT.out, befE_snoc])
        have hb4 : Below wr.heap.size wr (wr.alloc (.cells (entC (x, .slice ar x.cmd.nodes.length cr)).toArray 47)) := (Below.refl _ _).alloc (Nat.le_refl _) _
        have HC4 : Hid (IsCmd (wr.alloc (.cells (entC (x, .slice ar x.cmd.nodes.length cr)).toArray 47)) (.agg (Cm.cArr x.cmd (.slice ar x.cmd.nodes.length cr))) x.cmd) := Lib.hid ⟨_, rfl, hsl.below hb4 (Nat.le_refl _), hwf.2⟩
        have HB4 := Lib.hid hb4
        have HK4 := Lib.hid (heap_alloc_new wr (.cells (entC (x, .slice ar x.cmd.nodes.length cr)).toArray 47 (0, 0)))
        have HX4 := Lib.hid (HBB.out.trans (hb4.mono (by omega)))
        obtain ⟨d0, d1, d2, d3, d4, d5, d6, d7, d8⟩ := ent9 HK4.out
        clear hce hsl hwf hb4
        cases g
        · go_wp2
          go_roundw
          case rel => exact ⟨k + 1, false, by omega, by go_num, rfl, by rw [HBE.out], Lib.hid (pre_down HU.out rfl), HX4.out⟩
          case measure => simp [intOf]; omega
        · have HUP := Lib.hid (HU.out.1 rfl)
          by_cases q1 : 1 ≤ x.term
          · by_cases q2 : befE h.shot.term (h.log.take k) ≤ x.term
            · have HQ := Lib.hid (show 1 ≤ x.term ∧ befE h.shot.term (h.log.take k) ≤ x.term from ⟨q1, q2⟩)
              go_wp2_with fail
              refine (cmd_rcheck x.cmd _ _ HC4.out).mono ?_
              rintro e w5 ⟨rfl, hb5⟩
              have HX5 := Lib.hid (HX4.out.trans (hb5.mono (by simp; omega)))
              clear d0 d1 d2 d3 d4 d5 d6 d7 d8
              obtain ⟨d0, d1, d2, d3, d4, d5, d6, d7, d8⟩ := ent9 ((hb5.block wr.heap.size (by simp)).trans HK4.out)
              clear hb5
              have HNX : Hid ((Cm.cErr (Cm.chkC x.cmd) == 0) = true ↔ preOk h ∧ logUp h.shot.term h.log (k + 1)) := Lib.hid (by
                rw [cErr_eq]
                exact ⟨fun q => ⟨HUP.out.1, logUp_succ HUP.out.2 HG.out ⟨HQ.out.1, HQ.out.2, q⟩⟩, fun q => (q.2 k x (by omega) HG.out).2.2⟩)
              go_wp2
              go_roundw
              case rel => exact ⟨k + 1, _, by omega, by go_num, rfl, by rw [HBE.out], HNX, HX5.out⟩
              case measure => simp [intOf]; omega
            · have HNX : Hid (false = true ↔ preOk h ∧ logUp h.shot.term h.log (k + 1)) := Lib.hid ⟨fun q => (by cases q), fun q => absurd (q.2 k x (by omega) HG.out).2.1 q2⟩
              have q3 : x.term < befE h.shot.term (h.log.take k) := by omega
              clear q2
              go_wp2
              go_roundw
              case rel => exact ⟨k + 1, false, by omega, by go_num, rfl, by rw [HBE.out], HNX, HX4.out⟩
              case measure => simp [intOf]; omega
          · have HNX : Hid (false = true ↔ preOk h ∧ logUp h.shot.term h.log (k + 1)) := Lib.hid ⟨fun q => (by cases q), fun q => absurd (q.2 k x (by omega) HG.out).1 q1⟩
            have q3 : x.term < 1 := by omega
            clear q1
            go_wp2
            go_roundw
            case rel => exact ⟨k + 1, false, by omega, by go_num, rfl, by rw [HBE.out], HNX, HX4.out⟩
            case measure => simp [intOf]; omega
      · obtain rfl : k = h.log.length := by omega
        have HBW := Lib.hid (box_below hb)
        obtain ⟨b0, b1, b2, b3, b4, b5, b6, b7, b8, b9, b10⟩ := cells11 (box_cells hb)
        clear hb
        have HTL : Hid (befE h.shot.term (h.log.take h.log.length) = befE h.shot.term h.log) := Lib.hid (by rw [List.take_length])
        have htl := HTL.out
        rw [htl]
        clear htl
        cases g
        · have HE : Hid (¬ hardOk h) := Lib.hid (fun q => by have := HU.out.2 ⟨((hard_iff h).1 q).1, ((hard_iff h).1 q).2.1⟩; cases this)
          go_wp2
          go_ret
          exact says_no HE.out HBW.out
        · have HUP := Lib.hid (HU.out.1 rfl)
          by_cases q4 : h.term < befE h.shot.term h.log
          · have HE : Hid (¬ hardOk h) := Lib.hid (fun q => by have := ((hard_iff h).1 q).2.2; omega)
            go_wp2
            go_ret
            exact says_no HE.out HBW.out
          · have HE : Hid (hardOk h) := Lib.hid ((hard_iff h).2 ⟨HUP.out.1, HUP.out.2, by omega⟩)
            go_wp2
            go_ret
            exact says_yes HE.out HBW.out
  have c3' : h.shot.index + h.log.length ≤ 4611686018427387904 := by omega
  clear c3
  by_cases c4 : h.vote < 0
  · have HP : Hid (¬ preOk h) := Lib.hid (fun q => by unfold preOk at q; omega)
    go_wp2
    go_loopw [3, 4, 53] (fun gv lv i wr => ∃ (k : Nat) (g : Bool), k ≤ h.log.length ∧ i = .int .i64 k ∧ gv = .bool g ∧ lv = .int .u64 (befE h.shot.term (h.log.take k)) ∧ Hid (g = true ↔ preOk h ∧ logUp h.shot.term h.log k) ∧ Below (w.heap.size + 1) (w.alloc (.cells (hArr h vn vh vl (.slice a h.log.length cap)) 43)) wr) (fun _ _ i _ => h.log.length - (intOf i).toNat)
    case atStart => exact ⟨0, false, Nat.zero_le _, rfl, rfl, rfl, Lib.hid ⟨fun q => (by cases q), fun q => absurd q.1 HP.out⟩, HBX.out⟩
    case round =>
      clear b0 b1 b2 b3 b4 b5 b6 b7 b8 b9 b10
      obtain ⟨k, g, hk, rfl, rfl, rfl, HU, hb⟩ := hrel
      have hzw : w.heap.size < wr.heap.size := by have := hb.size; simp at this; omega
      by_cases hlt2 : k < h.log.length
      · have hlt3 : k < rows.length := by rw [HRL.out]; exact hlt2
        obtain ⟨b, off, rfl, hlt, hc⟩ := Ld.rows_open hlt3 HRC.out
        have hbs : b < w.heap.size + 1 := by simpa using hlt
        have hce := fun j u hu => (hb.cell (p := ⟨b, off + (k * 9 + j), none⟩) hbs).trans (hc k _ (Ld.rgetD hlt3) j u hu)
        have hes := HENT.out _ (List.getElem_mem hlt3)
        have HEN : Hid (IsEnt wr (.agg (entC rows[k]).toArray) rows[k].1) := Lib.hid ⟨rows[k].2, rfl, hes.1.below hb (by simp), hes.2⟩
        have HG := Lib.hid (HGET.out k hlt3)
        have HT := Lib.hid (HTK.out k hlt3)
        have HBB := Lib.hid hb
        have hsl := hes.1.below hb (by simp)
        have hwf := hes.2
        clear hc hb hes
        generalize rows[k] = r at *
        obtain ⟨x, vr⟩ := r
        simp only [] at HEN HG HT hsl hwf
        obtain ⟨ar, cr, hvr, -⟩ := id hsl
        subst hvr
        obtain ⟨e0, e1, e2, e3, e4, e5, e6, e7, e8⟩ := ent_cells hce
        have hx0 := Ld.u64_nonneg hwf.1
        have HBE : Hid (befE h.shot.term (h.log.take (k + 1)) = x.term) := Lib.hid (by rw [HT.out, befE_snoc])
        have hb4 : Below wr.heap.size wr (wr.alloc (.cells (entC (x, .slice ar x.cmd.nodes.length cr)).toArray 47)) := (Below.refl _ _).alloc (Nat.le_refl _) _
        have HC4 : Hid (IsCmd (wr.alloc (.cells (entC (x, .slice ar x.cmd.nodes.length cr)).toArray 47)) (.agg (Cm.cArr x.cmd (.slice ar x.cmd.nodes.length cr))) x.cmd) := Lib.hid ⟨_, rfl, hsl.below hb4 (Nat.le_refl _), hwf.2⟩
        have HB4 := Lib.hid hb4
        have HK4 := Lib.hid (heap_alloc_new wr (.cells (entC (x, .slice ar x.cmd.nodes.length cr)).toArray 47 (0, 0)))
        have HX4 := Lib.hid (HBB.out.trans (hb4.mono (by omega)))
        obtain ⟨d0, d1, d2, d3, d4, d5, d6, d7, d8⟩ := ent9 HK4.out
        clear hce hsl hwf hb4
        cases g
        · go_wp2
          go_roundw
          case rel => exact ⟨k + 1, false, by omega, by go_num, rfl, by rw [HBE.out], Lib.hid (pre_down HU.out rfl), HX4.out⟩
          case measure => simp [intOf]; omega
        · have HUP := Lib.hid (HU.out.1 rfl)
          by_cases q1 : 1 ≤ x.term
          · by_cases q2 : befE h.shot.term (h.log.take k) ≤ x.term
            · have HQ := Lib.hid (show 1 ≤ x.term ∧ befE h.shot.term (h.log.take k) ≤ x.term from ⟨q1, q2⟩)
              go_wp2_with fail
              refine (cmd_rcheck x.cmd _ _ HC4.out).mono ?_
              rintro e w5 ⟨rfl, hb5⟩
              have HX5 := Lib.hid (HX4.out.trans (hb5.mono (by simp; omega)))
              clear d0 d1 d2 d3 d4 d5 d6 d7 d8
              obtain ⟨d0, d1, d2, d3, d4, d5, d6, d7, d8⟩ := ent9 ((hb5.block wr.heap.size (by simp)).trans HK4.out)
              clear hb5
              have HNX : Hid ((Cm.cErr (Cm.chkC x.cmd) == 0) = true ↔ preOk h ∧ logUp h.shot.term h.log (k + 1)) := Lib.hid (by
                rw [cErr_eq]
                exact ⟨fun q => ⟨HUP.out.1, logUp_succ HUP.out.2 HG.out ⟨HQ.out.1, HQ.out.2, q⟩⟩, fun q => (q.2 k x (by omega) HG.out).2.2⟩)
              go_wp2
              go_roundw
              case rel => exact ⟨k + 1, _, by omega, by go_num, rfl, by rw [HBE.out], HNX, HX5.out⟩
              case measure => simp [intOf]; omega
            · have HNX : Hid (false = true ↔ preOk h ∧ logUp h.shot.term h.log (k + 1)) := Lib.hid ⟨fun q => (by cases q), fun q => absurd (q.2 k x (by omega) HG.out).2.1 q2⟩
              have q3 : x.term < befE h.shot.term (h.log.take k) := by omega
              clear q2
              go_wp2
              go_roundw
              case rel => exact ⟨k + 1, false, by omega, by go_num, rfl, by rw [HBE.out], HNX, HX4.out⟩
              case measure => simp [intOf]; omega
          · have HNX : Hid (false = true ↔ preOk h ∧ logUp h.shot.term h.log (k + 1)) := Lib.hid ⟨fun q => (by cases q), fun q => absurd (q.2 k x (by omega) HG.out).1 q1⟩
            have q3 : x.term < 1 := by omega
            clear q1
            go_wp2
            go_roundw
            case rel => exact ⟨k + 1, false, by omega, by go_num, rfl, by rw [HBE.out], HNX, HX4.out⟩
            case measure => simp [intOf]; omega
      · obtain rfl : k = h.log.length := by omega
        have HBW := Lib.hid (box_below hb)
        obtain ⟨b0, b1, b2, b3, b4, b5, b6, b7, b8, b9, b10⟩ := cells11 (box_cells hb)
        clear hb
        have HTL : Hid (befE h.shot.term (h.log.take h.log.length) = befE h.shot.term h.log) := Lib.hid (by rw [List.take_length])
        have htl := HTL.out
        rw [htl]
        clear htl
        cases g
        · have HE : Hid (¬ hardOk h) := Lib.hid (fun q => by have := HU.out.2 ⟨((hard_iff h).1 q).1, ((hard_iff h).1 q).2.1⟩; cases this)
          go_wp2
          go_ret
          exact says_no HE.out HBW.out
        · have HUP := Lib.hid (HU.out.1 rfl)
          by_cases q4 : h.term < befE h.shot.term h.log
          · have HE : Hid (¬ hardOk h) := Lib.hid (fun q => by have := ((hard_iff h).1 q).2.2; omega)
            go_wp2
            go_ret
            exact says_no HE.out HBW.out
          · have HE : Hid (hardOk h) := Lib.hid ((hard_iff h).2 ⟨HUP.out.1, HUP.out.2, by omega⟩)
            go_wp2
            go_ret
            exact says_yes HE.out HBW.out
  have c4' : 0 ≤ h.vote := by omega
  clear c4
  by_cases c5 : 7 < h.vote
  · have HP : Hid (¬ preOk h) := Lib.hid (fun q => by unfold preOk at q; omega)
    go_wp2
    go_loopw [3, 4, 53] (fun gv lv i wr => ∃ (k : Nat) (g : Bool), k ≤ h.log.length ∧ i = .int .i64 k ∧ gv = .bool g ∧ lv = .int .u64 (befE h.shot.term (h.log.take k)) ∧ Hid (g = true ↔ preOk h ∧ logUp h.shot.term h.log k) ∧ Below (w.heap.size + 1) (w.alloc (.cells (hArr h vn vh vl (.slice a h.log.length cap)) 43)) wr) (fun _ _ i _ => h.log.length - (intOf i).toNat)
    case atStart => exact ⟨0, false, Nat.zero_le _, rfl, rfl, rfl, Lib.hid ⟨fun q => (by cases q), fun q => absurd q.1 HP.out⟩, HBX.out⟩
    case round =>
      clear b0 b1 b2 b3 b4 b5 b6 b7 b8 b9 b10
      obtain ⟨k, g, hk, rfl, rfl, rfl, HU, hb⟩ := hrel
      have hzw : w.heap.size < wr.heap.size := by have := hb.size; simp at this; omega
      by_cases hlt2 : k < h.log.length
      · have hlt3 : k < rows.length := by rw [HRL.out]; exact hlt2
        obtain ⟨b, off, rfl, hlt, hc⟩ := Ld.rows_open hlt3 HRC.out
        have hbs : b < w.heap.size + 1 := by simpa using hlt
        have hce := fun j u hu => (hb.cell (p := ⟨b, off + (k * 9 + j), none⟩) hbs).trans (hc k _ (Ld.rgetD hlt3) j u hu)
        have hes := HENT.out _ (List.getElem_mem hlt3)
        have HEN : Hid (IsEnt wr (.agg (entC rows[k]).toArray) rows[k].1) := Lib.hid ⟨rows[k].2, rfl, hes.1.below hb (by simp), hes.2⟩
        have HG := Lib.hid (HGET.out k hlt3)
        have HT := Lib.hid (HTK.out k hlt3)
        have HBB := Lib.hid hb
        have hsl := hes.1.below hb (by simp)
        have hwf := hes.2
        clear hc hb hes
        generalize rows[k] = r at *
        obtain ⟨x, vr⟩ := r
        simp only [] at HEN HG HT hsl hwf
        obtain ⟨ar, cr, hvr, -⟩ := id hsl
        subst hvr
        obtain ⟨e0, e1, e2, e3, e4, e5, e6, e7, e8⟩ := ent_cells hce
        have hx0 := Ld.u64_nonneg hwf.1
        have HBE : Hid (befE h.shot.term (h.log.take (k + 1)) = x.term) := Lib.hid (by rw [HT.out, befE_snoc])
        have hb4 : Below wr.heap.size wr (wr.alloc (.cells (entC (x, .slice ar x.cmd.nodes.length cr)).toArray 47)) := (Below.refl _ _).alloc (Nat.le_refl _) _
        have HC4 : Hid (IsCmd (wr.alloc (.cells (entC (x, .slice ar x.cmd.nodes.length cr)).toArray 47)) (.agg (Cm.cArr x.cmd (.slice ar x.cmd.nodes.length cr))) x.cmd) := Lib.hid ⟨_, rfl, hsl.below hb4 (Nat.le_refl _), hwf.2⟩
        have HB4 := Lib.hid hb4
        have HK4 := Lib.hid (heap_alloc_new wr (.cells (entC (x, .slice ar x.cmd.nodes.length cr)).toArray 47 (0, 0)))
        have HX4 := Lib.hid (HBB.out.trans (hb4.mono (by omega)))
        obtain ⟨d0, d1, d2, d3, d4, d5, d6, d7, d8⟩ := ent9 HK4.out
        clear hce hsl hwf hb4
        cases g
        · go_wp2
          go_roundw
          case rel => exact ⟨k + 1, false, by omega, by go_num, rfl, by rw [HBE.out], Lib.hid (pre_down HU.out rfl), HX4.out⟩
          case measure => simp [intOf]; omega
        · have HUP := Lib.hid (HU.out.1 rfl)
          by_cases q1 : 1 ≤ x.term
          · by_cases q2 : befE h.shot.term (h.log.take k) ≤ x.term
            · have HQ := Lib.hid (show 1 ≤ x.term ∧ befE h.shot.term (h.log.take k) ≤ x.term from ⟨q1, q2⟩)
              go_wp2_with fail
              refine (cmd_rcheck x.cmd _ _ HC4.out).mono ?_
              rintro e w5 ⟨rfl, hb5⟩
              have HX5 := Lib.hid (HX4.out.trans (hb5.mono (by simp; omega)))
              clear d0 d1 d2 d3 d4 d5 d6 d7 d8
              obtain ⟨d0, d1, d2, d3, d4, d5, d6, d7, d8⟩ := ent9 ((hb5.block wr.heap.size (by simp)).trans HK4.out)
              clear hb5
              have HNX : Hid ((Cm.cErr (Cm.chkC x.cmd) == 0) = true ↔ preOk h ∧ logUp h.shot.term h.log (k + 1)) := Lib.hid (by
                rw [cErr_eq]
                exact ⟨fun q => ⟨HUP.out.1, logUp_succ HUP.out.2 HG.out ⟨HQ.out.1, HQ.out.2, q⟩⟩, fun q => (q.2 k x (by omega) HG.out).2.2⟩)
              go_wp2
              go_roundw
              case rel => exact ⟨k + 1, _, by omega, by go_num, rfl, by rw [HBE.out], HNX, HX5.out⟩
              case measure => simp [intOf]; omega
            · have HNX : Hid (false = true ↔ preOk h ∧ logUp h.shot.term h.log (k + 1)) := Lib.hid ⟨fun q => (by cases q), fun q => absurd (q.2 k x (by omega) HG.out).2.1 q2⟩
              have q3 : x.term < befE h.shot.term (h.log.take k) := by omega
              clear q2
              go_wp2
              go_roundw
              case rel => exact ⟨k + 1, false, by omega, by go_num, rfl, by rw [HBE.out], HNX, HX4.out⟩
              case measure => simp [intOf]; omega
          · have HNX : Hid (false = true ↔ preOk h ∧ logUp h.shot.term h.log (k + 1)) := Lib.hid ⟨fun q => (by cases q), fun q => absurd (q.2 k x (by omega) HG.out).1 q1⟩
            have q3 : x.term < 1 := by omega
            clear q1
            go_wp2
            go_roundw
            case rel => exact ⟨k + 1, false, by omega, by go_num, rfl, by rw [HBE.out], HNX, HX4.out⟩
            case measure => simp [intOf]; omega
      · obtain rfl : k = h.log.length := by omega
        have HBW := Lib.hid (box_below hb)
        obtain ⟨b0, b1, b2, b3, b4, b5, b6, b7, b8, b9, b10⟩ := cells11 (box_cells hb)
        clear hb
        have HTL : Hid (befE h.shot.term (h.log.take h.log.length) = befE h.shot.term h.log) := Lib.hid (by rw [List.take_length])
        have htl := HTL.out
        rw [htl]
        clear htl
        cases g
        · have HE : Hid (¬ hardOk h) := Lib.hid (fun q => by have := HU.out.2 ⟨((hard_iff h).1 q).1, ((hard_iff h).1 q).2.1⟩; cases this)
          go_wp2
          go_ret
          exact says_no HE.out HBW.out
        · have HUP := Lib.hid (HU.out.1 rfl)
          by_cases q4 : h.term < befE h.shot.term h.log
          · have HE : Hid (¬ hardOk h) := Lib.hid (fun q => by have := ((hard_iff h).1 q).2.2; omega)
            go_wp2
            go_ret
            exact says_no HE.out HBW.out
          · have HE : Hid (hardOk h) := Lib.hid ((hard_iff h).2 ⟨HUP.out.1, HUP.out.2, by omega⟩)
            go_wp2
            go_ret
            exact says_yes HE.out HBW.out
  have c5' : h.vote ≤ 7 := by omega
  clear c5
  by_cases c6 : 0 < h.term
  · have HP : Hid (preOk h) := Lib.hid ⟨c1', HOK.out, c2', c3', c4', c5', fun q => by omega⟩
    go_wp2
    go_loopw [3, 4, 53] (fun gv lv i wr => ∃ (k : Nat) (g : Bool), k ≤ h.log.length ∧ i = .int .i64 k ∧ gv = .bool g ∧ lv = .int .u64 (befE h.shot.term (h.log.take k)) ∧ Hid (g = true ↔ preOk h ∧ logUp h.shot.term h.log k) ∧ Below (w.heap.size + 1) (w.alloc (.cells (hArr h vn vh vl (.slice a h.log.length cap)) 43)) wr) (fun _ _ i _ => h.log.length - (intOf i).toNat)
    case atStart => exact ⟨0, true, Nat.zero_le _, rfl, rfl, rfl, Lib.hid ⟨fun _ => ⟨HP.out, logUp_zero _ _⟩, fun _ => rfl⟩, HBX.out⟩
    case round =>
      clear b0 b1 b2 b3 b4 b5 b6 b7 b8 b9 b10
      obtain ⟨k, g, hk, rfl, rfl, rfl, HU, hb⟩ := hrel
      have hzw : w.heap.size < wr.heap.size := by have := hb.size; simp at this; omega
      by_cases hlt2 : k < h.log.length
      · have hlt3 : k < rows.length := by rw [HRL.out]; exact hlt2
        obtain ⟨b, off, rfl, hlt, hc⟩ := Ld.rows_open hlt3 HRC.out
        have hbs : b < w.heap.size + 1 := by simpa using hlt
        have hce := fun j u hu => (hb.cell (p := ⟨b, off + (k * 9 + j), none⟩) hbs).trans (hc k _ (Ld.rgetD hlt3) j u hu)
        have hes := HENT.out _ (List.getElem_mem hlt3)
        have HEN : Hid (IsEnt wr (.agg (entC rows[k]).toArray) rows[k].1) := Lib.hid ⟨rows[k].2, rfl, hes.1.below hb (by simp), hes.2⟩
        have HG := Lib.hid (HGET.out k hlt3)
        have HT := Lib.hid (HTK.out k hlt3)
        have HBB := Lib.hid hb
        have hsl := hes.1.below hb (by simp)
        have hwf := hes.2
        clear hc hb hes
        generalize rows[k] = r at *
        obtain ⟨x, vr⟩ := r
        simp only [] at HEN HG HT hsl hwf
        obtain ⟨ar, cr, hvr, -⟩ := id hsl
        subst hvr
        obtain ⟨e0, e1, e2, e3, e4, e5, e6, e7, e8⟩ := ent_cells hce
        have hx0 := Ld.u64_nonneg hwf.1
        have HBE : Hid (befE h.shot.term (h.log.take (k + 1)) = x.term) := Lib.hid (by rw [HT.out, befE_snoc])
        have hb4 : Below wr.heap.size wr (wr.alloc (.cells (entC (x, .slice ar x.cmd.nodes.length cr)).toArray 47)) := (Below.refl _ _).alloc (Nat.le_refl _) _
        have HC4 : Hid (IsCmd (wr.alloc (.cells (entC (x, .slice ar x.cmd.nodes.length cr)).toArray 47)) (.agg (Cm.cArr x.cmd (.slice ar x.cmd.nodes.length cr))) x.cmd) := Lib.hid ⟨_, rfl, hsl.below hb4 (Nat.le_refl _), hwf.2⟩
        have HB4 := Lib.hid hb4
        have HK4 := Lib.hid (heap_alloc_new wr (.cells (entC (x, .slice ar x.cmd.nodes.length cr)).toArray 47 (0, 0)))
        have HX4 := Lib.hid (HBB.out.trans (hb4.mono (by omega)))
        obtain ⟨d0, d1, d2, d3, d4, d5, d6, d7, d8⟩ := ent9 HK4.out
        clear hce hsl hwf hb4
        cases g
        · go_wp2
          go_roundw
          case rel => exact ⟨k + 1, false, by omega, by go_num, rfl, by rw [HBE.out], Lib.hid (pre_down HU.out rfl), HX4.out⟩
          case measure => simp [intOf]; omega
        · have HUP := Lib.hid (HU.out.1 rfl)
          by_cases q1 : 1 ≤ x.term
          · by_cases q2 : befE h.shot.term (h.log.take k) ≤ x.term
            · have HQ := Lib.hid (show 1 ≤ x.term ∧ befE h.shot.term (h.log.take k) ≤ x.term from ⟨q1, q2⟩)
              go_wp2_with fail
              refine (cmd_rcheck x.cmd _ _ HC4.out).mono ?_
              rintro e w5 ⟨rfl, hb5⟩
              have HX5 := Lib.hid (HX4.out.trans (hb5.mono (by simp; omega)))
              clear d0 d1 d2 d3 d4 d5 d6 d7 d8
              obtain ⟨d0, d1, d2, d3, d4, d5, d6, d7, d8⟩ := ent9 ((hb5.block wr.heap.size (by simp)).trans HK4.out)
              clear hb5
              have HNX : Hid ((Cm.cErr (Cm.chkC x.cmd) == 0) = true ↔ preOk h ∧ logUp h.shot.term h.log (k + 1)) := Lib.hid (by
                rw [cErr_eq]
                exact ⟨fun q => ⟨HUP.out.1, logUp_succ HUP.out.2 HG.out ⟨HQ.out.1, HQ.out.2, q⟩⟩, fun q => (q.2 k x (by omega) HG.out).2.2⟩)
              go_wp2
              go_roundw
              case rel => exact ⟨k + 1, _, by omega, by go_num, rfl, by rw [HBE.out], HNX, HX5.out⟩
              case measure => simp [intOf]; omega
            · have HNX : Hid (false = true ↔ preOk h ∧ logUp h.shot.term h.log (k + 1)) := Lib.hid ⟨fun q => (by cases q), fun q => absurd (q.2 k x (by omega) HG.out).2.1 q2⟩
              have q3 : x.term < befE h.shot.term (h.log.take k) := by omega
              clear q2
              go_wp2
              go_roundw
              case rel => exact ⟨k + 1, false, by omega, by go_num, rfl, by rw [HBE.out], HNX, HX4.out⟩
              case measure => simp [intOf]; omega
          · have HNX : Hid (false = true ↔ preOk h ∧ logUp h.shot.term h.log (k + 1)) := Lib.hid ⟨fun q => (by cases q), fun q => absurd (q.2 k x (by omega) HG.out).1 q1⟩
            have q3 : x.term < 1 := by omega
            clear q1
            go_wp2
            go_roundw
            case rel => exact ⟨k + 1, false, by omega, by go_num, rfl, by rw [HBE.out], HNX, HX4.out⟩
            case measure => simp [intOf]; omega
      · obtain rfl : k = h.log.length := by omega
        have HBW := Lib.hid (box_below hb)
        obtain ⟨b0, b1, b2, b3, b4, b5, b6, b7, b8, b9, b10⟩ := cells11 (box_cells hb)
        clear hb
        have HTL : Hid (befE h.shot.term (h.log.take h.log.length) = befE h.shot.term h.log) := Lib.hid (by rw [List.take_length])
        have htl := HTL.out
        rw [htl]
        clear htl
        cases g
        · have HE : Hid (¬ hardOk h) := Lib.hid (fun q => by have := HU.out.2 ⟨((hard_iff h).1 q).1, ((hard_iff h).1 q).2.1⟩; cases this)
          go_wp2
          go_ret
          exact says_no HE.out HBW.out
        · have HUP := Lib.hid (HU.out.1 rfl)
          by_cases q4 : h.term < befE h.shot.term h.log
          · have HE : Hid (¬ hardOk h) := Lib.hid (fun q => by have := ((hard_iff h).1 q).2.2; omega)
            go_wp2
            go_ret
            exact says_no HE.out HBW.out
          · have HE : Hid (hardOk h) := Lib.hid ((hard_iff h).2 ⟨HUP.out.1, HUP.out.2, by omega⟩)
            go_wp2
            go_ret
            exact says_yes HE.out HBW.out
  have c6' : h.term ≤ 0 := by omega
  have c6e : h.term = 0 := by omega
  have C6 := Lib.hid c6e
  clear c6 c6e
  by_cases c7 : h.vote = 0
  · have HP : Hid (preOk h) := Lib.hid ⟨c1', HOK.out, c2', c3', c4', c5', fun _ => c7⟩
    have c7e : (h.vote == 0) = true := beq_iff_eq.2 c7
    clear c7
    go_wp2
    go_loopw [3, 4, 53] (fun gv lv i wr => ∃ (k : Nat) (g : Bool), k ≤ h.log.length ∧ i = .int .i64 k ∧ gv = .bool g ∧ lv = .int .u64 (befE h.shot.term (h.log.take k)) ∧ Hid (g = true ↔ preOk h ∧ logUp h.shot.term h.log k) ∧ Below (w.heap.size + 1) (w.alloc (.cells (hArr h vn vh vl (.slice a h.log.length cap)) 43)) wr) (fun _ _ i _ => h.log.length - (intOf i).toNat)
    case atStart => exact ⟨0, true, Nat.zero_le _, rfl, rfl, rfl, Lib.hid ⟨fun _ => ⟨HP.out, logUp_zero _ _⟩, fun _ => rfl⟩, HBX.out⟩
    case round =>
      clear b0 b1 b2 b3 b4 b5 b6 b7 b8 b9 b10
      obtain ⟨k, g, hk, rfl, rfl, rfl, HU, hb⟩ := hrel
      have hzw : w.heap.size < wr.heap.size := by have := hb.size; simp at this; omega
      by_cases hlt2 : k < h.log.length
      · have hlt3 : k < rows.length := by rw [HRL.out]; exact hlt2
        obtain ⟨b, off, rfl, hlt, hc⟩ := Ld.rows_open hlt3 HRC.out
        have hbs : b < w.heap.size + 1 := by simpa using hlt
        have hce := fun j u hu => (hb.cell (p := ⟨b, off + (k * 9 + j), none⟩) hbs).trans (hc k _ (Ld.rgetD hlt3) j u hu)
        have hes := HENT.out _ (List.getElem_mem hlt3)
        have HEN : Hid (IsEnt wr (.agg (entC rows[k]).toArray) rows[k].1) := Lib.hid ⟨rows[k].2, rfl, hes.1.below hb (by simp), hes.2⟩
        have HG := Lib.hid (HGET.out k hlt3)
        have HT := Lib.hid (HTK.out k hlt3)
        have HBB := Lib.hid hb
        have hsl := hes.1.below hb (by simp)
        have hwf := hes.2
        clear hc hb hes
        generalize rows[k] = r at *
        obtain ⟨x, vr⟩ := r
        simp only [] at HEN HG HT hsl hwf
        obtain ⟨ar, cr, hvr, -⟩ := id hsl
        subst hvr
        obtain ⟨e0, e1, e2, e3, e4, e5, e6, e7, e8⟩ := ent_cells hce
        have hx0 := Ld.u64_nonneg hwf.1
        have HBE : Hid (befE h.shot.term (h.log.take (k + 1)) = x.term) := Lib.hid (by rw [HT.out, befE_snoc])
        have hb4 : Below wr.heap.size wr (wr.alloc (.cells (entC (x, .slice ar x.cmd.nodes.length cr)).toArray 47)) := (Below.refl _ _).alloc (Nat.le_refl _) _
        have HC4 : Hid (IsCmd (wr.alloc (.cells (entC (x, .slice ar x.cmd.nodes.length cr)).toArray 47)) (.agg (Cm.cArr x.cmd (.slice ar x.cmd.nodes.length cr))) x.cmd) := Lib.hid ⟨_, rfl, hsl.below hb4 (Nat.le_refl _), hwf.2⟩
        have HB4 := Lib.hid hb4
        have HK4 := Lib.hid (heap_alloc_new wr (.cells (entC (x, .slice ar x.cmd.nodes.length cr)).toArray 47 (0, 0)))
        have HX4 := Lib.hid (HBB.out.trans (hb4.mono (by omega)))
        obtain ⟨d0, d1, d2, d3, d4, d5, d6, d7, d8⟩ := ent9 HK4.out
        clear hce hsl hwf hb4
        cases g
        · go_wp2
          go_roundw
          case rel => exact ⟨k + 1, false, by omega, by go_num, rfl, by rw [HBE.out], Lib.hid (pre_down HU.out rfl), HX4.out⟩
          case measure => simp [intOf]; omega
        · have HUP := Lib.hid (HU.out.1 rfl)
          by_cases q1 : 1 ≤ x.term
          · by_cases q2 : befE h.shot.term (h.log.take k) ≤ x.term
            · have HQ := Lib.hid (show 1 ≤ x.term ∧ befE h.shot.term (h.log.take k) ≤ x.term from ⟨q1, q2⟩)
              go_wp2_with fail
              refine (cmd_rcheck x.cmd _ _ HC4.out).mono ?_
              rintro e w5 ⟨rfl, hb5⟩
              have HX5 := Lib.hid (HX4.out.trans (hb5.mono (by simp; omega)))
              clear d0 d1 d2 d3 d4 d5 d6 d7 d8
              obtain ⟨d0, d1, d2, d3, d4, d5, d6, d7, d8⟩ := ent9 ((hb5.block wr.heap.size (by simp)).trans HK4.out)
              clear hb5
              have HNX : Hid ((Cm.cErr (Cm.chkC x.cmd) == 0) = true ↔ preOk h ∧ logUp h.shot.term h.log (k + 1)) := Lib.hid (by
                rw [cErr_eq]
                exact ⟨fun q => ⟨HUP.out.1, logUp_succ HUP.out.2 HG.out ⟨HQ.out.1, HQ.out.2, q⟩⟩, fun q => (q.2 k x (by omega) HG.out).2.2⟩)
              go_wp2
              go_roundw
              case rel => exact ⟨k + 1, _, by omega, by go_num, rfl, by rw [HBE.out], HNX, HX5.out⟩
              case measure => simp [intOf]; omega
            · have HNX : Hid (false = true ↔ preOk h ∧ logUp h.shot.term h.log (k + 1)) := Lib.hid ⟨fun q => (by cases q), fun q => absurd (q.2 k x (by omega) HG.out).2.1 q2⟩
              have q3 : x.term < befE h.shot.term (h.log.take k) := by omega
              clear q2
              go_wp2
              go_roundw
              case rel => exact ⟨k + 1, false, by omega, by go_num, rfl, by rw [HBE.out], HNX, HX4.out⟩
              case measure => simp [intOf]; omega
          · have HNX : Hid (false = true ↔ preOk h ∧ logUp h.shot.term h.log (k + 1)) := Lib.hid ⟨fun q => (by cases q), fun q => absurd (q.2 k x (by omega) HG.out).1 q1⟩
            have q3 : x.term < 1 := by omega
            clear q1
            go_wp2
            go_roundw
            case rel => exact ⟨k + 1, false, by omega, by go_num, rfl, by rw [HBE.out], HNX, HX4.out⟩
            case measure => simp [intOf]; omega
      · obtain rfl : k = h.log.length := by omega
        have HBW := Lib.hid (box_below hb)
        obtain ⟨b0, b1, b2, b3, b4, b5, b6, b7, b8, b9, b10⟩ := cells11 (box_cells hb)
        clear hb
        have HTL : Hid (befE h.shot.term (h.log.take h.log.length) = befE h.shot.term h.log) := Lib.hid (by rw [List.take_length])
        have htl := HTL.out
        rw [htl]
        clear htl
        cases g
        · have HE : Hid (¬ hardOk h) := Lib.hid (fun q => by have := HU.out.2 ⟨((hard_iff h).1 q).1, ((hard_iff h).1 q).2.1⟩; cases this)
          go_wp2
          go_ret
          exact says_no HE.out HBW.out
        · have HUP := Lib.hid (HU.out.1 rfl)
          by_cases q4 : h.term < befE h.shot.term h.log
          · have HE : Hid (¬ hardOk h) := Lib.hid (fun q => by have := ((hard_iff h).1 q).2.2; omega)
            go_wp2
            go_ret
            exact says_no HE.out HBW.out
          · have HE : Hid (hardOk h) := Lib.hid ((hard_iff h).2 ⟨HUP.out.1, HUP.out.2, by omega⟩)
            go_wp2
            go_ret
            exact says_yes HE.out HBW.out
  · have HP : Hid (¬ preOk h) := Lib.hid (fun q => c7 (q.2.2.2.2.2.2 C6.out))
    have c8e : decide (0 < h.term) = false := decide_eq_false (by omega)
    have c7e : (h.vote == 0) = false := beq_eq_false_iff_ne.2 c7
    clear c7
    go_wp2
    go_loopw [3, 4, 53] (fun gv lv i wr => ∃ (k : Nat) (g : Bool), k ≤ h.log.length ∧ i = .int .i64 k ∧ gv = .bool g ∧ lv = .int .u64 (befE h.shot.term (h.log.take k)) ∧ Hid (g = true ↔ preOk h ∧ logUp h.shot.term h.log k) ∧ Below (w.heap.size + 1) (w.alloc (.cells (hArr h vn vh vl (.slice a h.log.length cap)) 43)) wr) (fun _ _ i _ => h.log.length - (intOf i).toNat)
    case atStart => exact ⟨0, false, Nat.zero_le _, rfl, rfl, rfl, Lib.hid ⟨fun q => (by cases q), fun q => absurd q.1 HP.out⟩, HBX.out⟩
    case round =>
      clear b0 b1 b2 b3 b4 b5 b6 b7 b8 b9 b10
      obtain ⟨k, g, hk, rfl, rfl, rfl, HU, hb⟩ := hrel
      have hzw : w.heap.size < wr.heap.size := by have := hb.size; simp at this; omega
      by_cases hlt2 : k < h.log.length
      · have hlt3 : k < rows.length := by rw [HRL.out]; exact hlt2
        obtain ⟨b, off, rfl, hlt, hc⟩ := Ld.rows_open hlt3 HRC.out
        have hbs : b < w.heap.size + 1 := by simpa using hlt
        have hce := fun j u hu => (hb.cell (p := ⟨b, off + (k * 9 + j), none⟩) hbs).trans (hc k _ (Ld.rgetD hlt3) j u hu)
        have hes := HENT.out _ (List.getElem_mem hlt3)
        have HEN : Hid (IsEnt wr (.agg (entC rows[k]).toArray) rows[k].1) := Lib.hid ⟨rows[k].2, rfl, hes.1.below hb (by simp), hes.2⟩
        have HG := Lib.hid (HGET.out k hlt3)
        have HT := Lib.hid (HTK.out k hlt3)
        have HBB := Lib.hid hb
        have hsl := hes.1.below hb (by simp)
        have hwf := hes.2
        clear hc hb hes
        generalize rows[k] = r at *
        obtain ⟨x, vr⟩ := r
        simp only [] at HEN HG HT hsl hwf
        obtain ⟨ar, cr, hvr, -⟩ := id hsl
        subst hvr
        obtain ⟨e0, e1, e2, e3, e4, e5, e6, e7, e8⟩ := ent_cells hce
        have hx0 := Ld.u64_nonneg hwf.1
        have HBE : Hid (befE h.shot.term (h.log.take (k + 1)) = x.term) := Lib.hid (by rw [HT.out, befE_snoc])
        have hb4 : Below wr.heap.size wr (wr.alloc (.cells (entC (x, .slice ar x.cmd.nodes.length cr)).toArray 47)) := (Below.refl _ _).alloc (Nat.le_refl _) _
        have HC4 : Hid (IsCmd (wr.alloc (.cells (entC (x, .slice ar x.cmd.nodes.length cr)).toArray 47)) (.agg (Cm.cArr x.cmd (.slice ar x.cmd.nodes.length cr))) x.cmd) := Lib.hid ⟨_, rfl, hsl.below hb4 (Nat.le_refl _), hwf.2⟩
        have HB4 := Lib.hid hb4
        have HK4 := Lib.hid (heap_alloc_new wr (.cells (entC (x, .slice ar x.cmd.nodes.length cr)).toArray 47 (0, 0)))
        have HX4 := Lib.hid (HBB.out.trans (hb4.mono (by omega)))
        obtain ⟨d0, d1, d2, d3, d4, d5, d6, d7, d8⟩ := ent9 HK4.out
        clear hce hsl hwf hb4
        cases g
        · go_wp2
          go_roundw
          case rel => exact ⟨k + 1, false, by omega, by go_num, rfl, by rw [HBE.out], Lib.hid (pre_down HU.out rfl), HX4.out⟩
          case measure => simp [intOf]; omega
        · have HUP := Lib.hid (HU.out.1 rfl)
          by_cases q1 : 1 ≤ x.term
          · by_cases q2 : befE h.shot.term (h.log.take k) ≤ x.term
            · have HQ := Lib.hid (show 1 ≤ x.term ∧ befE h.shot.term (h.log.take k) ≤ x.term from ⟨q1, q2⟩)
              go_wp2_with fail
              refine (cmd_rcheck x.cmd _ _ HC4.out).mono ?_
              rintro e w5 ⟨rfl, hb5⟩
              have HX5 := Lib.hid (HX4.out.trans (hb5.mono (by simp; omega)))
              clear d0 d1 d2 d3 d4 d5 d6 d7 d8
              obtain ⟨d0, d1, d2, d3, d4, d5, d6, d7, d8⟩ := ent9 ((hb5.block wr.heap.size (by simp)).trans HK4.out)
              clear hb5
              have HNX : Hid ((Cm.cErr (Cm.chkC x.cmd) == 0) = true ↔ preOk h ∧ logUp h.shot.term h.log (k + 1)) := Lib.hid (by
                rw [cErr_eq]
                exact ⟨fun q => ⟨HUP.out.1, logUp_succ HUP.out.2 HG.out ⟨HQ.out.1, HQ.out.2, q⟩⟩, fun q => (q.2 k x (by omega) HG.out).2.2⟩)
              go_wp2
              go_roundw
              case rel => exact ⟨k + 1, _, by omega, by go_num, rfl, by rw [HBE.out], HNX, HX5.out⟩
              case measure => simp [intOf]; omega
            · have HNX : Hid (false = true ↔ preOk h ∧ logUp h.shot.term h.log (k + 1)) := Lib.hid ⟨fun q => (by cases q), fun q => absurd (q.2 k x (by omega) HG.out).2.1 q2⟩
              have q3 : x.term < befE h.shot.term (h.log.take k) := by omega
              clear q2
              go_wp2
              go_roundw
              case rel => exact ⟨k + 1, false, by omega, by go_num, rfl, by rw [HBE.out], HNX, HX4.out⟩
              case measure => simp [intOf]; omega
          · have HNX : Hid (false = true ↔ preOk h ∧ logUp h.shot.term h.log (k + 1)) := Lib.hid ⟨fun q => (by cases q), fun q => absurd (q.2 k x (by omega) HG.out).1 q1⟩
            have q3 : x.term < 1 := by omega
            clear q1
            go_wp2
            go_roundw
            case rel => exact ⟨k + 1, false, by omega, by go_num, rfl, by rw [HBE.out], HNX, HX4.out⟩
            case measure => simp [intOf]; omega
      · obtain rfl : k = h.log.length := by omega
        have HBW := Lib.hid (box_below hb)
        obtain ⟨b0, b1, b2, b3, b4, b5, b6, b7, b8, b9, b10⟩ := cells11 (box_cells hb)
        clear hb
        have HTL : Hid (befE h.shot.term (h.log.take h.log.length) = befE h.shot.term h.log) := Lib.hid (by rw [List.take_length])
        have htl := HTL.out
        rw [htl]
        clear htl
        cases g
        · have HE : Hid (¬ hardOk h) := Lib.hid (fun q => by have := HU.out.2 ⟨((hard_iff h).1 q).1, ((hard_iff h).1 q).2.1⟩; cases this)
          go_wp2
          go_ret
          exact says_no HE.out HBW.out
        · have HUP := Lib.hid (HU.out.1 rfl)
          by_cases q4 : h.term < befE h.shot.term h.log
          · have HE : Hid (¬ hardOk h) := Lib.hid (fun q => by have := ((hard_iff h).1 q).2.2; omega)
            go_wp2
            go_ret
            exact says_no HE.out HBW.out
          · have HE : Hid (hardOk h) := Lib.hid ((hard_iff h).2 ⟨HUP.out.1, HUP.out.2, by omega⟩)
            go_wp2
            go_ret
            exact says_yes HE.out HBW.out
end Hd
end Go.Proofs.Ytlkgmjhejocobaa
