/- The law StreamCuts returns true for every text and all cuts: however the bytes are cut, package stream's Feed tells the same frames, and has as much left. No condition. -/
import Derived.Test.YtcgciefoojlpoaaSl
import Derived.Test.YtcgciefoojlpoaaStI
namespace Go.Proofs.Ytcgciefoojlpoaa.streamCuts
open Go.ChangeShapes Go.WideShapes Go.ChangeAt Go.RowKit
open Go.ChangeMaps (open_string shut_string)
set_option linter.unusedVariables false

theorem own : ownKnob Try.prog.godebug = none := by kernel_rfl
theorem laidOut : laidOutB Try.prog = true := by kernel_rfl

theorem sl_atK {kd : IntKind} {w : World} {a : Option Addr} {n c k : Nat} {bs : List Int} (h : Sl kd w (.slice a n c) bs) (hk : k < bs.length) : ∃ b off, a = some ⟨b, off, none⟩ ∧ w.cell? ⟨b, off + k, none⟩ = some (.int kd bs[k]) := by
  obtain ⟨a', c', e, h1, h2, h3, h4⟩ := h
  simp only [Value.slice.injEq] at e
  obtain ⟨rfl, rfl, rfl⟩ := e
  rcases h4 with ⟨_, _, rfl⟩ | ⟨b, off, sp, rfl, rfl | ⟨rfl, hlt, hc⟩⟩
  · simp at hk
  · simp at hk
  · refine ⟨b, off, rfl, (hc k hk).trans ?_⟩
    simp [List.getD, List.getElem?_eq_getElem hk]
abbrev R0 : Obj := .cells #[.int .i64 0, .int .i64 0, .slice none 0 0] 61
theorem three {B : Nat} (u : World) (hB : B ≤ u.heap.size) : St.Rdr B (((u.alloc R0).alloc R0).alloc R0) u.heap.size St.zero none ∧ St.Rdr B (((u.alloc R0).alloc R0).alloc R0) (u.heap.size + 1) St.zero none ∧ St.Rdr B (((u.alloc R0).alloc R0).alloc R0) (u.heap.size + 2) St.zero none ∧ (((u.alloc R0).alloc R0).alloc R0).heap.size = u.heap.size + 3 := by
  have e1 : (u.alloc R0).heap.size = u.heap.size + 1 := by simp
  have e2 : ((u.alloc R0).alloc R0).heap.size = u.heap.size + 2 := by simp
  have h2 := St.rdr_new (B := B) (u.alloc R0) (by omega)
  have h3 := St.rdr_new (B := B) ((u.alloc R0).alloc R0) (by omega)
  rw [e1] at h2
  rw [e2] at h3
  exact ⟨((St.rdr_new u hB).alloc _).alloc _, h2.alloc _, h3, by simp⟩
set_option maxHeartbeats 16000000 in
theorem walk (s0 : ByteArray) (v1 : Value) (z1 : List Int) (w : World) (w0 : s0.size ≤ 140737488351232) (w1 : Sl .i64 w v1 z1) (b1 : z1.length * 8 ≤ 140737488351232) :
    Calls Try.prog 6 #[.string s0, v1] w fun e w' => e = .returned (.bool true) ∧ Below w.heap.size w w' := by
  have HV1 := Lib.hid w1
  have HCL : Hid (z1.length ≤ 9223372036854775807) := Lib.hid (by have := w1.len; unfold maxLen at this; omega)
  obtain ⟨a1, c1, rfl, hlc, hcm, -⟩ := id w1
  unfold maxLen at hcm
  clear w1
  by_cases h5 : 5000 < s0.size
  · have h5' : (5000 : Int) < (s0.size : Int) := by omega
    go_enter Try.func6, Try.ntmps6
    go_wp2_with fail
    refine (St.live_any _).mono ?_
    rintro e w1 ⟨rfl, hb1⟩
    go_wp2
    go_ret
    exact ⟨rfl, hb1⟩
  · have h5' : (s0.size : Int) ≤ 5000 := by omega
    have HSZ := Lib.hid h5'
    go_enter Try.func6, Try.ntmps6
    go_wp2_with fail
    refine (St.live_any _).mono ?_
    rintro e u1 ⟨rfl, hb1⟩
    have HB1 := Lib.hid hb1
    clear hb1
    go_wp2_with fail
    refine (St.new_any u1).mono ?_
    rintro e u2 ⟨rfl, rfl⟩
    go_wp2_with fail
    refine (St.new_any _).mono ?_
    rintro e u3 ⟨rfl, rfl⟩
    go_wp2_with fail
    refine (St.new_any _).mono ?_
    rintro e u4 ⟨rfl, rfl⟩
    obtain ⟨ra, rb, rc, hz4⟩ := three (B := w.heap.size) u1 HB1.out.size
    have HB4 : Hid (Below w.heap.size w (((u1.alloc R0).alloc R0).alloc R0)) := Lib.hid (((HB1.out.alloc HB1.out.size _).alloc (Nat.le_trans HB1.out.size (by simp)) _).alloc (Nat.le_trans HB1.out.size (by simp; omega)) _)
    have RA := Lib.hid ra
    have RB := Lib.hid rb
    have RC := Lib.hid rc
    have HZ4 := Lib.hid hz4
    clear ra rb rc hz4
    generalize hU : ((u1.alloc R0).alloc R0).alloc R0 = U4 at *
    clear hU
    have HWU := Lib.hid HB1.out.size
    obtain ⟨cap0, V, hcv, hsl, hbv, hlv⟩ := St.conv_bytes U4 s0 (by unfold maxLen; omega)
    have HSL := Lib.hid hsl
    have HBV := Lib.hid hbv
    have HLV := Lib.hid hlv
    clear hsl hbv hlv
    go_wp2_with fail
    refine (St.feed_any w.heap.size u1.heap.size St.zero none (St.sb s0) _ V (RA.out.below HBV.out) St.ok_zero (fun w' hf => HSL.out w' (hf.2 U4.heap.size HLV.out (by have := HZ4.out; omega) (by simp)) hf.1.size) (by have := St.sb_length s0; omega)).mono ?_
    rintro e W3 ⟨Sa, vA, rfl, pa, na, fa, oa, da⟩
    have PA := Lib.hid pa
    have NA := Lib.hid na
    have FA := Lib.hid fa
    have OA := Lib.hid oa
    have DA := Lib.hid da
    have RB3 := Lib.hid ((RB.out.below HBV.out).far fa (by omega) (by simp) (by simp) (by simp))
    have RC3 := Lib.hid ((RC.out.below HBV.out).far fa (by omega) (by simp) (by simp) (by simp))
    have HBW3 := Lib.hid ((HB4.out.trans (HBV.out.mono HB4.out.size)).trans fa.1)
    have HZ3 : Hid (u1.heap.size + 3 < W3.heap.size) := Lib.hid (by have := fa.1.size; have := HLV.out; have := HZ4.out; omega)
    clear pa na fa oa da hcv
    obtain ⟨aA, cA, rfl, -⟩ := OA.out.sl frmC_len
    go_wp2
    go_loopw [10, 12, 41] (fun pc fr i wr => ∃ (j k : Nat) (vP : Value), j ≤ z1.length ∧ k ≤ s0.size ∧ i = .int .i64 j ∧ fr = .int .i64 k ∧ vP = pc ∧ Hid (St.FeedK w.heap.size (u1.heap.size + 1) St.zero none (St.sb s0) W3 k vP wr)) (fun _ _ i _ => z1.length - (intOf i).toNat)
    case atStart => exact ⟨0, 0, _, Nat.zero_le _, Nat.zero_le _, rfl, rfl, rfl, Lib.hid ⟨none, by simpa [St.runV] using RB3.out, St.NewS.refl, St.FarR.refl _, by simpa [St.runV] using OwnR.nil _ _ _, fun q hq => by cases hq⟩⟩
    case round =>
      obtain ⟨j, k, vP, hj, hk, rfl, rfl, rfl, HK⟩ := hrel
      by_cases hlt : j < z1.length
      · obtain ⟨S1, k1, k2, k3, k4, k5⟩ := HK.out
        obtain ⟨b, off, rfl, hcc⟩ := sl_atK (HV1.out.below (HBW3.out.trans k3.1) (Nat.le_refl _)) hlt
        have hxw := bounds_i64 (HV1.out.wf z1[j] (List.getElem_mem hlt))
        have K1 := Lib.hid k1
        have K2 := Lib.hid k2
        have K3 := Lib.hid k3
        have K4 := Lib.hid k4
        have K5 := Lib.hid k5
        clear k1 k2 k3 k4 k5
        generalize z1[j] = x at *
        have hjz : (j : Int) < (z1.length : Int) := by omega
        have hkz : (k : Int) ≤ (s0.size : Int) := by omega
        obtain ⟨m, t, hm1, hm3, hm2⟩ : ∃ (m : Nat) (t : ByteArray), k + m ≤ s0.size ∧ St.sb t = ((St.sb s0).drop k).take m ∧ ((x ≤ 0 ∧ k < s0.size ∧ m ≤ 0 ∧ ByteArray.empty = t) ∨ (x ≤ 0 ∧ ¬ k < s0.size ∧ m ≤ 0 ∧ s0.extract k ((k : Int) + ((s0.size : Int) - (k : Int))).toNat = t) ∨ (0 < x ∧ x < (s0.size : Int) - (k : Int) ∧ x = (m : Int) ∧ s0.extract k ((k : Int) + (m : Int)).toNat = t) ∨ (0 < x ∧ (s0.size : Int) - (k : Int) ≤ x ∧ s0.size ≤ k + m ∧ s0.extract k ((k : Int) + ((s0.size : Int) - (k : Int))).toNat = t)) := by
          by_cases h1 : x ≤ 0
          · by_cases h2 : k < s0.size
            · exact ⟨0, _, by omega, by rw [St.sb_empty]; simp, .inl ⟨h1, h2, Nat.le_refl _, rfl⟩⟩
            · exact ⟨0, _, by omega, by rw [show ((k : Int) + ((s0.size : Int) - (k : Int))).toNat = k + 0 by omega]; exact St.sb_extract _ _ _, .inr (.inl ⟨h1, h2, Nat.le_refl _, rfl⟩)⟩
          · by_cases h2 : x < (s0.size : Int) - (k : Int)
            · exact ⟨x.toNat, _, by omega, by rw [show ((k : Int) + (x.toNat : Int)).toNat = k + x.toNat by omega]; exact St.sb_extract _ _ _, .inr (.inr (.inl ⟨by omega, h2, by omega, rfl⟩))⟩
            · exact ⟨s0.size - k, _, by omega, by rw [show ((k : Int) + ((s0.size : Int) - (k : Int))).toNat = k + (s0.size - k) by omega]; exact St.sb_extract _ _ _, .inr (.inr (.inr ⟨by omega, by omega, by omega, rfl⟩))⟩
        have HM1 := Lib.hid hm1
        have HM3 := Lib.hid hm3
        have htl : t.size = m := by rw [← St.sb_length, hm3, List.length_take, List.length_drop, St.sb_length]; omega
        have HTL := Lib.hid htl
        obtain ⟨capt, Wt, hcv, hsl, hbv, hlv⟩ := St.conv_bytes wr t (by rw [htl]; unfold maxLen; omega)
        have HSL2 := Lib.hid hsl
        have HBV2 := Lib.hid hbv
        have HLV2 := Lib.hid hlv
        have Q1 := Lib.hid (K1.out.below hbv)
        have Q3 := Lib.hid (K3.out.past HBW3.out.size hbv)
        have Q4 := Lib.hid (St.ownR_past K4.out hbv)
        have HS1 : Hid (S1 ≠ some wr.heap.size) := Lib.hid (fun q => by have := (K1.out.ltS _ q).2; omega)
        have HGB : Hid (wr.heap.size ≠ u1.heap.size + 1) := Lib.hid (by have := K1.out.lt; omega)
        clear hsl hbv hlv htl hm3
        have HOKR : Hid (∀ n, St.okR (St.runV St.zero ((St.sb s0).take n)).2) := Lib.hid (fun n => St.ok_run St.ok_zero _ (fun y hy => St.sb_wf s0 y (List.mem_of_mem_take hy)))
        have HRL : Hid (∀ (st : St.Rst) (ys : List Int), (St.runV st ys).1.length ≤ ys.length) := Lib.hid (fun st ys => St.run_len ys)
        have hkm : (k : Int) + (m : Int) ≤ (s0.size : Int) := by omega
        rcases hm2 with ⟨h1, h2, h3, hE⟩ | ⟨h1, h2, h3, hE⟩ | ⟨h1, h2, rfl, hE⟩ | ⟨h1, h2, h3, hE⟩
        all_goals
          go_wp2_with fail
          refine (St.feed_any w.heap.size (u1.heap.size + 1) _ S1 (St.sb t) _ Wt Q1.out (HOKR.out k) (fun w' hf => HSL2.out w' (hf.2 wr.heap.size HLV2.out HGB.out (fun e => HS1.out e.symm)) hf.1.size) (by rw [HM3.out, List.length_take]; omega)).mono ?_
          rintro e w5 ⟨S5, v5, rfl, p1, p2, p3, p4, p5⟩
          rw [HM3.out] at p1 p4
          have P1 := Lib.hid p1
          have P2 := Lib.hid p2
          have P3 := Lib.hid p3
          have P4 := Lib.hid p4
          have hl1 := HRL.out St.zero ((St.sb s0).take k)
          have hl2 := HRL.out (St.runV St.zero ((St.sb s0).take k)).2 (((St.sb s0).drop k).take m)
          rw [List.length_take, St.sb_length] at hl1
          rw [List.length_take, List.length_drop, St.sb_length] at hl2
          have HL1 := Lib.hid hl1
          have HL2 := Lib.hid hl2
          have HOV : Hid (OwnR 2 frmC 42 w5 W3.heap.size vP (St.runV St.zero ((St.sb s0).take k)).1) := Lib.hid (St.ownR_same Q4.out fun q hq => p3.2 q (World.ownsRow.lt Q4.out q hq).2 (K5.out q hq).1 (fun e => (K5.out q hq).2 e.symm))
          have HW35 : Hid (W3.heap.size ≤ w5.heap.size) := Lib.hid (Nat.le_trans Q3.out.1.size p3.1.size)
          obtain ⟨aP, cP, hvP, -⟩ := HOV.out.sl frmC_len
          obtain ⟨a5, c5, hv5, -⟩ := p4.sl frmC_len
          subst hvP
          subst hv5
          clear p1 p2 p3 p4 p5 hl1 hl2
          generalize hLP : (St.runV St.zero ((St.sb s0).take k)).1 = LP at *
          generalize hLF : (St.runV (St.runV St.zero ((St.sb s0).take k)).2 (((St.sb s0).drop k).take m)).1 = LF at *
          have HLP := Lib.hid hLP
          have HLF := Lib.hid hLF
          clear hLP hLF
          go_wp2_with (at_builtin; refine appRz frmC_len frmC_one Try.underlying22 rfl (by decide) St.info_frm (by decide) rfl (.tmp 54) (.tmp 61) rfl W3.heap.size (.slice aP LP.length cP) LP rfl HOV.out (.slice a5 LF.length c5) LF rfl (P4.out.sl frmC_len) (by have := HL1.out; have := HL2.out; unfold maxLen; omega) (by have := HL1.out; have := HL2.out; omega) HW35.out ?_; intro v6 w6 hown6 hgr6 hli6; have HOWN6 := Lib.hid hown6; have HGR6 := Lib.hid hgr6; have HLI6 := Lib.hid hli6; clear hown6 hgr6 hli6)
          have HKN := Lib.hid (St.FeedK.step (B := w.heap.size) (g := u1.heap.size + 1) HBW3.out.size Q1.out K2.out Q3.out (by rw [HLP.out]; exact Q4.out) K5.out P1.out P2.out P3.out (by rw [HLP.out, HLF.out]; exact HOWN6.out) HGR6.out HLI6.out)
          go_roundw
          case rel => exact ⟨j + 1, k + m, v6, by omega, HM1.out, by go_num, St.int_eq (by omega), rfl, HKN⟩
          case measure => simp [intOf]; omega
      · obtain rfl : j = z1.length := by omega
        obtain ⟨S1, k1, k2, k3, k4, k5⟩ := HK.out
        have K1 := Lib.hid k1
        have K2 := Lib.hid k2
        have K3 := Lib.hid k3
        have K4 := Lib.hid k4
        have K5 := Lib.hid k5
        clear k1 k2 k3 k4 k5
        have hkz : (k : Int) ≤ (s0.size : Int) := by omega
        obtain ⟨m, t, hm1, hm3, hE, hEm⟩ : ∃ (m : Nat) (t : ByteArray), k + m ≤ s0.size ∧ St.sb t = ((St.sb s0).drop k).take m ∧ s0.extract k s0.size = t ∧ s0.size ≤ k + m := by
          refine ⟨s0.size - k, _, by omega, ?_, rfl, by omega⟩
          have := St.sb_extract s0 k (s0.size - k)
          rw [show k + (s0.size - k) = s0.size by omega] at this
          exact this
        have HM1 := Lib.hid hm1
        have HM3 := Lib.hid hm3
        have htl : t.size = m := by rw [← St.sb_length, hm3, List.length_take, List.length_drop, St.sb_length]; omega
        obtain ⟨capt, Wt, hcv, hsl, hbv, hlv⟩ := St.conv_bytes wr t (by rw [htl]; unfold maxLen; omega)
        have HSL2 := Lib.hid hsl
        have HLV2 := Lib.hid hlv
        have Q1 := Lib.hid (K1.out.below hbv)
        have Q3 := Lib.hid (K3.out.past HBW3.out.size hbv)
        have Q4 := Lib.hid (St.ownR_past K4.out hbv)
        have HS1 : Hid (S1 ≠ some wr.heap.size) := Lib.hid (fun q => by have := (K1.out.ltS _ q).2; omega)
        have HGB : Hid (wr.heap.size ≠ u1.heap.size + 1) := Lib.hid (by have := K1.out.lt; omega)
        clear hsl hbv hlv htl hm3
        have HOKR : Hid (∀ n, St.okR (St.runV St.zero ((St.sb s0).take n)).2) := Lib.hid (fun n => St.ok_run St.ok_zero _ (fun y hy => St.sb_wf s0 y (List.mem_of_mem_take hy)))
        have HRL : Hid (∀ (st : St.Rst) (ys : List Int), (St.runV st ys).1.length ≤ ys.length) := Lib.hid (fun st ys => St.run_len ys)
        have HEM := Lib.hid hEm
        clear hEm
        go_wp2_with fail
        refine (St.feed_any w.heap.size (u1.heap.size + 1) _ S1 (St.sb t) _ Wt Q1.out (HOKR.out k) (fun w' hf => HSL2.out w' (hf.2 wr.heap.size HLV2.out HGB.out (fun e => HS1.out e.symm)) hf.1.size) (by rw [HM3.out, List.length_take]; omega)).mono ?_
        rintro e w5 ⟨S5, v5, rfl, p1, p2, p3, p4, p5⟩
        rw [HM3.out] at p1 p4
        have P1 := Lib.hid p1
        have P2 := Lib.hid p2
        have P3 := Lib.hid p3
        have P4 := Lib.hid p4
        have hl1 := HRL.out St.zero ((St.sb s0).take k)
        have hl2 := HRL.out (St.runV St.zero ((St.sb s0).take k)).2 (((St.sb s0).drop k).take m)
        rw [List.length_take, St.sb_length] at hl1
        rw [List.length_take, List.length_drop, St.sb_length] at hl2
        have HL1 := Lib.hid hl1
        have HL2 := Lib.hid hl2
        have HOV : Hid (OwnR 2 frmC 42 w5 W3.heap.size vP (St.runV St.zero ((St.sb s0).take k)).1) := Lib.hid (St.ownR_same Q4.out fun q hq => p3.2 q (World.ownsRow.lt Q4.out q hq).2 (K5.out q hq).1 (fun e => (K5.out q hq).2 e.symm))
        have HW35 : Hid (W3.heap.size ≤ w5.heap.size) := Lib.hid (Nat.le_trans Q3.out.1.size p3.1.size)
        obtain ⟨aP, cP, hvP, -⟩ := HOV.out.sl frmC_len
        obtain ⟨a5, c5, hv5, -⟩ := p4.sl frmC_len
        subst hvP
        subst hv5
        clear p1 p2 p3 p4 p5 hl1 hl2
        generalize hLP : (St.runV St.zero ((St.sb s0).take k)).1 = LP at *
        generalize hLF : (St.runV (St.runV St.zero ((St.sb s0).take k)).2 (((St.sb s0).drop k).take m)).1 = LF at *
        have HLP := Lib.hid hLP
        have HLF := Lib.hid hLF
        clear hLP hLF
        go_wp2_with (at_builtin; refine appRz frmC_len frmC_one Try.underlying22 rfl (by decide) St.info_frm (by decide) rfl (.tmp 65) (.tmp 71) rfl W3.heap.size (.slice aP LP.length cP) LP rfl HOV.out (.slice a5 LF.length c5) LF rfl (P4.out.sl frmC_len) (by have := HL1.out; have := HL2.out; unfold maxLen; omega) (by have := HL1.out; have := HL2.out; omega) HW35.out ?_; intro v6 W6 hown6 hgr6 hli6; have HOWN6 := Lib.hid hown6; have HGR6 := Lib.hid hgr6; have HLI6 := Lib.hid hli6; clear hown6 hgr6 hli6)
        have hkn := St.FeedK.step (B := w.heap.size) (g := u1.heap.size + 1) HBW3.out.size Q1.out K2.out Q3.out (by rw [HLP.out]; exact Q4.out) K5.out P1.out P2.out P3.out (by rw [HLP.out, HLF.out]; exact HOWN6.out) HGR6.out HLI6.out
        obtain ⟨Sb, b1, b2, b3, b4, -⟩ := hkn
        rw [List.take_of_length_le (by rw [St.sb_length]; exact HEM.out)] at b1 b4
        have BB1 := Lib.hid b1
        have BB2 := Lib.hid b2
        have BB3 := Lib.hid b3
        have BB4 := Lib.hid b4
        have RC6 := Lib.hid (RC3.out.far b3 (by omega) (by simp) (by simp) (by simp))
        have HBW6 := Lib.hid (HBW3.out.trans b3.1)
        have PA6 := Lib.hid (St.rdr_old PA.out NA.out rfl b3 (by omega) (by have := HLV.out; have := HZ4.out; omega))
        have OA6 := Lib.hid (St.own_old OA.out b3 (by have := HLV.out; have := HZ4.out; omega))
        have HZ6 : Hid (u1.heap.size + 3 < W6.heap.size) := Lib.hid (by have := b3.1.size; have := HZ3.out; omega)
        clear b1 b2 b3 b4 K1 K2 K3 K4 K5 Q1 Q3 Q4 P1 P2 P3 P4 HOWN6 HGR6 HLI6 HOV HK hcv hE
        go_loopw [11, 16] (fun pc i wr => ∃ (i2 : Nat) (vY : Value), i2 ≤ s0.size ∧ i = .int .i64 i2 ∧ vY = pc ∧ Hid (St.FeedK w.heap.size (u1.heap.size + 2) St.zero none (St.sb s0) W6 i2 vY wr)) (fun _ i _ => s0.size - (intOf i).toNat)
        case atStart => exact ⟨0, _, Nat.zero_le _, rfl, rfl, Lib.hid ⟨none, by simpa [St.runV] using RC6.out, St.NewS.refl, St.FarR.refl _, by simpa [St.runV] using OwnR.nil _ _ _, fun q hq => by cases hq⟩⟩
        case round =>
          obtain ⟨i2, vY, hi2, rfl, rfl, HK⟩ := hrel
          obtain ⟨S1, k1, k2, k3, k4, k5⟩ := HK.out
          have K1 := Lib.hid k1
          have K2 := Lib.hid k2
          have K3 := Lib.hid k3
          have K4 := Lib.hid k4
          have K5 := Lib.hid k5
          clear k1 k2 k3 k4 k5
          by_cases hlt : i2 < s0.size
          · have hi2z : (i2 : Int) < (s0.size : Int) := by omega
            have HONE := Lib.hid (St.sb_one s0 i2 hlt)
            have HXW : Hid ((Lit.int .u8 (s0[i2].toNat : Int)).wf = true) := Lib.hid (WalkArith.wf_u8 ⟨by omega, by have := s0[i2].toNat_lt; omega⟩)
            have hbv : Below wr.heap.size wr (wr.alloc (.cells #[.int .u8 (s0[i2].toNat : Int)] 5)) := (Below.refl _ _).alloc (Nat.le_refl _) _
            have Q1 := Lib.hid (K1.out.below hbv)
            have Q3 := Lib.hid (K3.out.past HBW6.out.size hbv)
            have Q4 := Lib.hid (St.ownR_past K4.out hbv)
            have HS1 : Hid (S1 ≠ some wr.heap.size) := Lib.hid (fun q => by have := (K1.out.ltS _ q).2; omega)
            have HGB : Hid (wr.heap.size ≠ u1.heap.size + 2) := Lib.hid (by have := K1.out.lt; omega)
            clear hbv
            go_wp2_with fail
            refine (St.feed_row (cs := #[.int .u8 (s0[i2].toNat : Int)]) (t := 5) w.heap.size (u1.heap.size + 2) wr.heap.size 1 1 _ S1 [(s0[i2].toNat : Int)] _ Q1.out (HOKR.out i2) (heap_alloc_new _ _) rfl rfl (by decide) (by decide) (by intro y hy; simp at hy; subst hy; exact HXW.out) HGB.out HS1.out (by simp)).mono ?_
            rintro e w5' ⟨S5', v5, rfl, p1, p2, p3, p4, p5⟩
            rw [← HONE.out] at p1 p4
            have P1 := Lib.hid p1
            have P2 := Lib.hid p2
            have P3 := Lib.hid p3
            have P4 := Lib.hid p4
            have hl1 := HRL.out St.zero ((St.sb s0).take i2)
            have hl2 := HRL.out (St.runV St.zero ((St.sb s0).take i2)).2 (((St.sb s0).drop i2).take 1)
            rw [List.length_take, St.sb_length] at hl1
            rw [List.length_take, List.length_drop, St.sb_length] at hl2
            have HL1 := Lib.hid hl1
            have HL2 := Lib.hid hl2
            have HOV : Hid (OwnR 2 frmC 42 w5' W6.heap.size vY (St.runV St.zero ((St.sb s0).take i2)).1) := Lib.hid (St.ownR_same Q4.out fun q hq => p3.2 q (World.ownsRow.lt Q4.out q hq).2 (K5.out q hq).1 (fun e => (K5.out q hq).2 e.symm))
            have HW35' : Hid (W6.heap.size ≤ w5'.heap.size) := Lib.hid (Nat.le_trans Q3.out.1.size p3.1.size)
            obtain ⟨aP', cP', hvP, -⟩ := HOV.out.sl frmC_len
            obtain ⟨a5, c5, hv5, -⟩ := p4.sl frmC_len
            subst hvP
            subst hv5
            clear p1 p2 p3 p4 p5 hl1 hl2
            generalize hLP : (St.runV St.zero ((St.sb s0).take i2)).1 = LP2 at *
            generalize hLF : (St.runV (St.runV St.zero ((St.sb s0).take i2)).2 (((St.sb s0).drop i2).take 1)).1 = LF2 at *
            have HLP2 := Lib.hid hLP
            have HLF2 := Lib.hid hLF
            clear hLP hLF
            go_wp2_with (at_builtin; refine appRz frmC_len frmC_one Try.underlying22 rfl (by decide) St.info_frm (by decide) rfl (.tmp 79) (.tmp 85) rfl W6.heap.size (.slice aP' LP2.length cP') LP2 rfl HOV.out (.slice a5 LF2.length c5) LF2 rfl (P4.out.sl frmC_len) (by have := HL1.out; have := HL2.out; unfold maxLen; omega) (by have := HL1.out; have := HL2.out; omega) HW35'.out ?_; intro v7 W7 hown7 hgr7 hli7; have HOWN7 := Lib.hid hown7; have HGR7 := Lib.hid hgr7; have HLI7 := Lib.hid hli7; clear hown7 hgr7 hli7)
            have HKN := Lib.hid (St.FeedK.step (B := w.heap.size) (g := u1.heap.size + 2) HBW6.out.size Q1.out K2.out Q3.out (by rw [HLP2.out]; exact Q4.out) K5.out P1.out P2.out P3.out (by rw [HLP2.out, HLF2.out]; exact HOWN7.out) HGR7.out HLI7.out)
            go_roundw
            case rel => exact ⟨i2 + 1, v7, by omega, by go_num, rfl, HKN⟩
            case measure => simp [intOf]; omega
          · obtain rfl : i2 = s0.size := by omega
            have C1 : Hid (St.Rdr w.heap.size wr (u1.heap.size + 2) (St.runV St.zero (St.sb s0)).2 S1) := Lib.hid (by have q := K1.out; rw [List.take_of_length_le (by rw [St.sb_length]; exact Nat.le_refl _)] at q; exact q)
            have C4 : Hid (OwnR 2 frmC 42 wr W6.heap.size vY (St.runV St.zero (St.sb s0)).1) := Lib.hid (by have q := K4.out; rw [List.take_of_length_le (by rw [St.sb_length]; exact Nat.le_refl _)] at q; exact q)
            have A1 := Lib.hid (St.rdr_old PA6.out NA.out rfl K3.out (by omega) (by have := HLV.out; have := HZ4.out; omega))
            have AL := Lib.hid ((St.own_old OA6.out K3.out (by have := HLV.out; have := HZ4.out; omega)).sl frmC_len)
            have B1' := Lib.hid (St.rdr_old BB1.out BB2.out rfl K3.out (by omega) (by have := HZ3.out; omega))
            have BL := Lib.hid ((St.own_old BB4.out K3.out (by have := HZ3.out; omega)).sl frmC_len)
            have CL := Lib.hid (C4.out.sl frmC_len)
            have HBQ := Lib.hid (HBW6.out.trans K3.out.1)
            have HOKF : Hid (St.okR (St.runV St.zero (St.sb s0)).2) := Lib.hid (St.ok_run St.ok_zero _ (St.sb_wf s0))
            clear K1 K2 K3 K4 K5 C4 OA6 BB1 BB2 BB3 BB4 PA6 HK
            obtain ⟨aQ, cQ, hq, -⟩ := id BL.out
            subst hq
            obtain ⟨aY, cY, hy, -⟩ := id CL.out
            subst hy
            generalize (St.runV St.zero (St.sb s0)).1 = LA at *
            generalize (St.runV St.zero (St.sb s0)).2 = SF at *
            go_wp2_with fail
            refine (St.same_any LA _ _ _ AL.out BL.out).mono ?_
            rintro e w7 ⟨rfl, hb7⟩
            have AL7 := Lib.hid (AL.out.below hb7 (Nat.le_refl _))
            have CL7 := Lib.hid (CL.out.below hb7 (Nat.le_refl _))
            have A7 := Lib.hid (A1.out.below hb7)
            have B7 := Lib.hid (B1'.out.below hb7)
            have C7 := Lib.hid (C1.out.below hb7)
            have HB7 := Lib.hid (HBQ.out.trans (hb7.mono HBQ.out.size))
            clear hb7
            go_wp2_with fail
            refine (St.same_any LA _ _ _ AL7.out CL7.out).mono ?_
            rintro e w8 ⟨rfl, hb8⟩
            have A8 := Lib.hid (A7.out.below hb8)
            have B8 := Lib.hid (B7.out.below hb8)
            have C8 := Lib.hid (C7.out.below hb8)
            have HB8 := Lib.hid (HB7.out.trans (hb8.mono HB7.out.size))
            clear hb8
            go_wp2_with fail
            refine (St.broken_any _ _ _ _ _ A8.out).mono ?_
            rintro e w9 ⟨rfl, rfl⟩
            go_wp2_with fail
            refine (St.broken_any _ _ _ _ _ B8.out).mono ?_
            rintro e w9 ⟨rfl, rfl⟩
            go_wp2_with fail
            refine (St.left_any _ _ _ _ _ A8.out HOKF.out).mono ?_
            rintro e w9 ⟨rfl, rfl⟩
            go_wp2_with fail
            refine (St.left_any _ _ _ _ _ B8.out HOKF.out).mono ?_
            rintro e w9 ⟨rfl, rfl⟩
            go_wp2_with fail
            refine (St.left_any _ _ _ _ _ A8.out HOKF.out).mono ?_
            rintro e w9 ⟨rfl, rfl⟩
            go_wp2_with fail
            refine (St.left_any _ _ _ _ _ C8.out HOKF.out).mono ?_
            rintro e w9 ⟨rfl, rfl⟩
            go_wp2
            go_ret
            exact ⟨rfl, HB8.out⟩

set_option maxRecDepth 100000 in
theorem contract (H : Type) (enc : TypeId × Value → H) (W : World) (base : Nat) (args : Array Value) (ds gs : List (DataW H)) (before : List MemPlace)
    (hval0 : ∀ (j : Nat) t v, Try.f6.params[j]? = some t → args[j]? = some v → Value.okWide Try.prog W .any base t v)
    (hW : DataW.Whole enc Try.prog Try.f6.params.toList Rows.streamCutsSpec.vars false W args.toList ds gs before)
    (hsz0 : (DataW.weightsEach Try.prog (Try.f6.params.toList ++ Rows.streamCutsSpec.plain.varTypes Try.prog) (ds ++ gs)).all (· ≤ reachBytes) = true) :
    Calls Try.prog 6 args W fun e W' => ∃ v, e = .returned v ∧ Rows.streamCutsSpec.post enc Try.prog Try.f6 false true false false W args v W' := by
  have hval : ∀ (j : Nat) t v, Try.f6.params[j]? = some t → args[j]? = some v → Value.okWide Try.prog W .any base t v := hval0
  have hW' := hW
  obtain ⟨p, q, hA0, hV, rfl, hfz, hnd⟩ := hW
  have hA : DataW.TrodAll enc Try.prog W 0 (fun _ => true) true Try.f6.params.toList args.toList ds p := hA0
  rw [Try.params6] at hA hval
  have hsz := hsz0
  rw [Try.params6] at hsz
  obtain ⟨v0, vs0, d0, ds0, p0, q0, hargs, rfl, rfl, h0, r0⟩ := trodAll_cons hA
  obtain ⟨v1, vs1, d1, ds1, p1, q1, rfl, rfl, rfl, h1, r1⟩ := trodAll_cons r0
  obtain ⟨rfl, rfl, rfl⟩ := trodAll_nil r1
  obtain rfl : args = #[v0, v1] := by cases args; simp_all
  obtain ⟨rfl, rfl⟩ := trodVars_none hV
  clear hA0 hval0
  have k0 := h0
  have lt0 : ∀ x ∈ p0, x.block < W.heap.size := by obtain ⟨m, hm⟩ := k0; exact DataW.trod_lt m _ _ _ hm
  have k1 := h1
  have lt1 : ∀ x ∈ p1, x.block < W.heap.size := by obtain ⟨m, hm⟩ := k1; exact DataW.trod_lt m _ _ _ hm
  obtain ⟨s0, rfl, rfl, -, m0⟩ := open_string Try.underlying9 (hval 0 9 v0 rfl rfl) h0
  have w0 : s0.size ≤ 140737488351232 := str_sized (sized_string hsz (j := 0) rfl rfl)
  obtain ⟨z1, w1, u10, b10⟩ := open_sl Try.underlying49 Try.underlying3 (by kernel_rfl) (okWide_slice Try.underlying49 (hval 1 49 v1 rfl rfl)).choose_spec.choose_spec.choose_spec k1
  have b1 : z1.length * 8 ≤ 140737488351232 := by
    have := b10 hsz (j := 1) rfl rfl
    rw [show Try.prog.bytesOf 3 = 8 from by kernel_rfl] at this
    simpa [reachBytes] using this
  refine (walk s0 v1 z1 W w0 w1 b1).mono fun e W' ⟨he, bel⟩ => ?_
  subst he
  exact ⟨_, rfl, _, _, _, [], _, [], hW', trodAll_mk1 (shut_bool Try.underlying4 _), (trodAll_cons_mk (Below.trod laidOut (by kernel_rfl) (of_decide_eq_true (by kernel_rfl)) k0 bel lt0) (trodAll_cons_mk (Below.trod laidOut (by kernel_rfl) (of_decide_eq_true (by kernel_rfl)) k1 bel lt1) trodAll_mk0)), rfl, bel.frame _, fun h => by cases h⟩

set_option maxRecDepth 100000 in
theorem lifted (os : Os) (started : os.Started) (H : Type) (enc : TypeId × Value → H) :
    ReturnsInHanded {} Try.checked os 6 .any (Rows.streamCutsSpec.pre6 enc Try.prog Try.f6 Rows.streamCutsRow.domain false) (Rows.streamCutsSpec.post enc Try.prog Try.f6 false true false false) := by
  refine returnsInHanded_of_change_sized (C := Try.checked) own started (by kernel_rfl) Try.func6
    (ChangeSpec.witness6 (enc := enc) (C := Try.checked) false ⟨#[], #[.string ByteArray.empty, .slice none 0 0], []⟩ 8 (by kernel_rfl) (by kernel_rfl) (by kernel_rfl) (by kernel_rfl)) ?_
  intro W base args ds gs before hval0 hW hcnd hsz _
  exact contract H enc W base args ds gs before hval0 hW hsz

theorem proved : Rows.StreamCutsSaid :=
  OpenClaim.holds_of_wide 6 Try.f6 rfl rfl rfl rfl rfl rfl rfl ⟨rfl, rfl, rfl, rfl, rfl⟩ rfl rfl rfl rfl rfl (by kernel_rfl) Try.func6 (by kernel_rfl)
    (of_decide_eq_true (by kernel_rfl)) (by unfold Func.isWrapper; first | (rw [if_pos (by decide +kernel)]; kernel_rfl) | (rw [if_neg (by decide +kernel)]; exact ⟨rfl, rfl⟩))
    (fun os started H enc _ => lifted os started H enc)
end Go.Proofs.Ytcgciefoojlpoaa.streamCuts
