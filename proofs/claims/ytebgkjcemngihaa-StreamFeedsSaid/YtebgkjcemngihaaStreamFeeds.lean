/- The law StreamFeeds returns true for all texts, and any place at which the reader is copied: whatever is fed, package stream's reader tells, and keeps, just what the document's own does. No condition. -/
import Derived.Test.YtebgkjcemngihaaSl
import Derived.Test.YtebgkjcemngihaaStM
import Derived.Deep.Cut
import Derived.Deep.CutRange
import Derived.Deep.RegionHeld3
import Derived.Lib.SlBytesConst
import Derived.Deep.RegionWith
namespace Go.Proofs.Ytebgkjcemngihaa.streamFeeds
open Go.ChangeShapes Go.WideShapes Go.ChangeAt Go.RowKit
open Go.ChangeMaps (open_string shut_string)
set_option linter.unusedVariables false

theorem own : ownKnob Try.prog.godebug = none := by kernel_rfl
theorem laidOut : laidOutB Try.prog = true := by kernel_rfl

set_option maxRecDepth 100000
def FdP (w : World) (ls : List ByteArray) (gx : Nat) (r i : Value) (wr : World) : Prop := ∃ (k g : Nat) (s : St.Rst) (S : Option Nat), k ≤ ls.length ∧ i = .int .i64 k ∧ r = .pointer (some ⟨g, 0, none⟩) ∧ Hid (St.Rdr w.heap.size wr g s S) ∧ Hid (St.okR s) ∧ Hid (St.XRd wr gx s) ∧ Hid (Below w.heap.size w wr) ∧ Hid (g ≠ gx ∧ S ≠ some gx)
theorem fdP_mk {w : World} {ls : List ByteArray} {gx k g : Nat} {i : Value} {wr : World} {s : St.Rst} {S : Option Nat} (h1 : k ≤ ls.length) (h2 : i = .int .i64 k) (h3 : Hid (St.Rdr w.heap.size wr g s S)) (h4 : Hid (St.okR s)) (h5 : Hid (St.XRd wr gx s)) (h6 : Hid (Below w.heap.size w wr)) (h7 : Hid (g ≠ gx ∧ S ≠ some gx)) : FdP w ls gx (.pointer (some ⟨g, 0, none⟩)) i wr :=
  ⟨k, g, s, S, h1, h2, rfl, h3, h4, h5, h6, h7⟩
set_option maxHeartbeats 3000000 in
theorem walk (v0 : Value) (x0 : (List ByteArray)) (a1 : Int) (w : World) (w0 : IsStrs w v0 x0) (w1 : (Lit.int .i64 a1).wf = true) :
    Calls Try.prog 4 #[v0, .int .i64 a1] w fun e w' => e = .returned (.bool true) ∧ Below w.heap.size w w' := by
  have B0 := Lib.hid w0
  have A1 := Lib.hid (bounds_i64 w1)
  obtain ⟨a0, c0, rfl, hl0, hm0, -⟩ := id w0.1
  unfold maxLen at hm0
  clear w0 w1
  have kc := fun (w : World) (C : Array Value) (n c : Nat) => Lib.run_convert_bytes_const (P := Try.prog) w 37 5 C n c Try.underlying37 Try.underlying5
  go_enter Try.func4, Try.ntmps4
  go_wp2_with fail
  refine (St.live_any _).mono ?_
  rintro e u1 ⟨rfl, hb1⟩
  have HB1 := Lib.hid hb1
  clear hb1
  go_wp2_with fail
  refine (St.new_any u1).mono ?_
  rintro e u2 ⟨rfl, rfl⟩
  have HR2 := Lib.hid (St.rdr_new (B := w.heap.size) u1 HB1.out.size)
  have HB2 := Lib.hid (HB1.out.alloc HB1.out.size (.cells #[.int .i64 0, .int .i64 0, .slice none 0 0] 61))
  generalize hU2 : u1.alloc (.cells #[.int .i64 0, .int .i64 0, .slice none 0 0] 61) = U2 at *
  have HG12 : Hid (u1.heap.size < U2.heap.size) := Lib.hid HR2.out.lt
  clear hU2
  go_wp2_with fail
  refine (St.few_any x0 _ _ (B0.out.below (HB2.out.alloc HB2.out.size _) (Nat.le_refl _))).mono ?_
  rintro e u3 ⟨⟨vl, rfl, hvl⟩, rfl⟩
  have HS := Lib.hid (hvl w B0.out)
  have HR3 := Lib.hid (HR2.out.alloc (.cells #[.string ⟨#[]⟩, .bool false] 34))
  have HX3 : Hid (St.XRd (U2.alloc (.cells #[.string ⟨#[]⟩, .bool false] 34)) U2.heap.size St.zero) := Lib.hid ⟨⟨#[]⟩, heap_alloc_new _ _, rfl⟩
  have HB3 := Lib.hid (HB2.out.alloc HB2.out.size (.cells #[.string ⟨#[]⟩, .bool false] 34))
  have HGX : Hid (w.heap.size ≤ U2.heap.size) := Lib.hid HB2.out.size
  clear hvl
  generalize x0.take 100 = ls at *
  generalize U2.alloc (.cells #[.string ⟨#[]⟩, .bool false] 34) = W3 at *
  generalize U2.heap.size = gx at *
  obtain ⟨⟨al, cl, rfl, hl1, hl2, hlr⟩, hlw⟩ := id HS.out
  unfold maxLen at hl2
  have HLR := Lib.hid hlr
  clear hlr hlw
  go_wp2
  go_loopw [6, 24] (fun r i wr => FdP w ls gx r i wr) (fun _ i _ => ls.length - (intOf i).toNat)
  case atStart => exact fdP_mk (k := 0) (Nat.zero_le _) rfl HR3 (Lib.hid St.ok_zero) HX3 HB3 (Lib.hid ⟨by have := HG12.out; omega, by simp⟩)
  case round =>
    obtain ⟨k, g, s, S, hk, rfl, rfl, HR, HOK, HX, HB, HN⟩ := hrel
    by_cases hlt : k < ls.length
    · obtain ⟨b, off, rfl, hbl, hc⟩ := St.rows_open hlt HLR.out
      have hce := (HB.out.cell (p := ⟨b, off + (k * 1 + 0), none⟩) hbl).trans (hc k _ (St.rgetD hlt) 0 _ rfl)
      simp only [Nat.mul_one, Nat.add_zero] at hce
      clear hc
      generalize ls[k] = x at *
      have hkz : (k : Int) < (ls.length : Int) := by omega
      by_cases hbig : 10000 < x.size
      · have hbz : (10000 : Int) < (x.size : Int) := by omega
        go_wp2
        go_roundw
        case rel => exact fdP_mk (k := k + 1) (by omega) (by go_num) HR HOK HX HB HN
        case measure => simp [intOf]; omega
      · have hbz : (x.size : Int) ≤ 10000 := by omega
        clear hbig
        have HKL := Lib.hid hlt
        have HXS : Hid (x.size ≤ 10000) := Lib.hid (by omega)
        go_upto_if 34 with fail
        go_cut [6, 10, 24] from 24 to 99 (fun s6 s10 s24 wx => s24 = .int .i64 k ∧ FdP w ls gx s6 s24 wx)
        case first =>
          by_cases hcl : (k : Int) = a1
          · have hce2 : ((k : Int) == a1) = true := beq_iff_eq.2 hcl
            clear hcl
            go_wp2_with fail
            refine (St.clone_any w.heap.size g s S _ HR.out HOK.out).mono ?_
            rintro e w2 ⟨S', rfl, r2, n2, b2⟩
            have R2 := Lib.hid r2
            have N2 := Lib.hid n2
            have B2 := Lib.hid b2
            have HRO2 := Lib.hid (HR.out.below b2)
            have HX2 := Lib.hid (HX.out.same (b2.block gx HX.out.lt))
            have HGS : Hid (S ≠ some w2.heap.size ∧ w2.heap.size ≠ g) := Lib.hid ⟨fun q => by have := (HR.out.ltS _ q).2; have := b2.size; omega, by have := HR.out.lt; have := b2.size; omega⟩
            clear r2 n2 b2
            go_wp2_with fail
            refine (St.feed_row (cs := #[.int .u8 81, .int .u8 120, .int .u8 66]) (t := 5) w.heap.size g w2.heap.size 3 3 s S [81, 120, 66] _ (HRO2.out.alloc _) HOK.out (heap_alloc_new _ _) rfl rfl (by decide) (by decide) (by decide) HGS.out.2 HGS.out.1 (by decide)).mono ?_
            rintro e w3 ⟨S3, v3, rfl, -, -, f3, -, -⟩
            have hsz := B2.out.size
            have hRg := HR.out.lt
            have hXg := HX.out.lt
            have F3 := Lib.hid f3
            have hng : wr.heap.size ≠ g := by have := HR.out.lt; omega
            have RC3 := Lib.hid ((R2.out.alloc _).far f3 hng (fun e => by have := (HR.out.ltS _ e.symm).2; omega) (fun e => by have := N2.out _ e; omega) (fun q hq e => by have := (HR.out.ltS _ e).2; have := N2.out _ hq; omega))
            have XC3 := Lib.hid ((HX2.out.same (heap_alloc_old w2 _ HX2.out.lt)).same (f3.2 gx (by simp; omega) (fun e => HN.out.1 e.symm) (fun e => HN.out.2 e.symm)))
            have BC3 := Lib.hid (((HB.out.trans (B2.out.mono HB.out.size)).alloc (by have := HB.out.size; omega) _).trans f3.1)
            have GC3 : Hid (wr.heap.size ≠ gx ∧ S' ≠ some gx) := Lib.hid ⟨by omega, fun e => by have := N2.out _ e; omega⟩
            clear f3 hsz hRg hXg
            go_wp2_with fail
            go_meet
            exact ⟨rfl, fdP_mk (k := k) (Nat.le_of_lt HKL.out) rfl RC3 HOK XC3 BC3 GC3⟩
          · have hcn : ((k : Int) == a1) = false := beq_eq_false_iff_ne.2 hcl
            clear hcl
            go_wp2_with fail
            go_meet
            exact ⟨rfl, fdP_mk (k := k) (Nat.le_of_lt HKL.out) rfl HR HOK HX HB HN⟩
        case rest =>
          obtain ⟨rfl, hfd⟩ := hcut
          clear HR HOK HX HB HN
          obtain ⟨k', g, s, S, hk', hik, rfl, HR, HOK, HX, HB, HN⟩ := hfd
          clear hk' hik k'
          obtain ⟨wz, hwz⟩ : ∃ q, q = wc := ⟨_, rfl⟩
          subst hwz
          obtain ⟨gz, hgz⟩ : ∃ q, q = g := ⟨_, rfl⟩
          subst hgz
          obtain ⟨Sz, hSz⟩ : ∃ q, q = S := ⟨_, rfl⟩
          subst hSz
          have RZ := HR
          have XZ := HX
          have BZ := HB
          have NZ := HN
          obtain ⟨capb, V, hcv, hsl, hbv, hlv, hby⟩ := St.conv_row wz x (by unfold maxLen; have := HXS.out; omega)
          have HSL := Lib.hid hsl
          have HLV := Lib.hid hlv
          have BYV : Hid (St.ByI V wz.heap.size x.size) := Lib.hid hby
          have RV := Lib.hid (RZ.out.below hbv)
          have XV := Lib.hid (XZ.out.same (hbv.block gx XZ.out.lt))
          have BV := Lib.hid (BZ.out.trans (hbv.mono BZ.out.size))
          have HGV : Hid (wz.heap.size ≠ gz ∧ Sz ≠ some wz.heap.size) := Lib.hid ⟨by have := RZ.out.lt; omega, fun q => by have := (RZ.out.ltS _ q).2; omega⟩
          clear hsl hbv hlv hby
          go_wp2_with fail
          refine (St.feed_any w.heap.size gz s Sz (St.sb x) _ V RV.out HOK.out (fun w' hf => HSL.out w' (hf.2 wz.heap.size HLV.out HGV.out.1 (fun e => HGV.out.2 e.symm)) hf.1.size) (by rw [St.sb_length]; have := HXS.out; omega)).mono ?_
          rintro e W5 ⟨S5, v5, rfl, r5, n5, f5, o5, d5⟩
          have R5 := Lib.hid (r5.same (w' := W5.drew) rfl (fun _ _ => rfl))
          have X5 := Lib.hid (XV.out.same (f5.2 gx XV.out.lt (fun e => NZ.out.1 e.symm) (fun e => NZ.out.2 e.symm)))
          have B5 := Lib.hid (BV.out.trans f5.1).drew
          have O5 := Lib.hid o5
          have OK5 := Lib.hid (St.ok_run HOK.out (St.sb x) (St.sb_wf x))
          have G5 : Hid (gz ≠ gx ∧ S5 ≠ some gx) := Lib.hid ⟨NZ.out.1, fun e => by
            rcases n5 with q | q
            · exact NZ.out.2 (q ▸ e)
            · have := q gx e; have := XV.out.lt; omega⟩
          have S5B : Hid (S5 ≠ some wz.heap.size) := Lib.hid (fun e => by
            rcases n5 with q | q
            · exact HGV.out.2 (q ▸ e)
            · have := q _ e; have := HLV.out; omega)
          have LFT := Lib.hid (St.pend_left OK5.out)
          have GB5 : Hid (wz.heap.size < W5.drew.heap.size) := Lib.hid (Nat.lt_of_lt_of_le HLV.out f5.1.size)
          have BY5 : Hid (St.ByI W5.drew wz.heap.size x.size) := Lib.hid (BYV.out.same (f5.2 wz.heap.size HLV.out HGV.out.1 (fun e => HGV.out.2 e.symm)))
          have FR5' := St.FrI.of o5
          have SO6 : Hid (∀ (W6 : World), St.FarR w.heap.size gx none W5.drew W6 → SlR 2 frmC W6 v5 (St.runV s (St.sb x)).1) := Lib.hid (fun W6 hf => (St.ownR_same O5.out fun q hq => hf.2 q (World.ownsRow.lt O5.out q hq).2 (by have h1 := (World.ownsRow.lt O5.out q hq).1; have h2 := XV.out.lt; omega) (by simp)).sl frmC_len)
          have SL7 : Hid (∀ (W6 W7 : World), St.FarR w.heap.size gx none W5.drew W6 → Below W6.heap.size W6 W7 → Sl .u8 W7 (.slice (some ⟨wz.heap.size, 0, none⟩) x.size capb) (St.sb x)) := Lib.hid (fun W6 W7 hf hb => (HSL.out W6 ((hf.2 wz.heap.size (Nat.lt_of_lt_of_le HLV.out f5.1.size) (by have := XZ.out.lt; omega) (by simp)).trans (f5.2 wz.heap.size HLV.out HGV.out.1 (fun e => HGV.out.2 e.symm))) (Nat.le_trans f5.1.size hf.1.size)).below hb (Nat.le_refl _))
          clear r5 n5 f5 o5 d5
          obtain ⟨a5, c5, rfl, hl5, hm5, -⟩ := O5.out.sl frmC_len
          unfold maxLen at hm5
          have N5 : Hid (((St.runV s (St.sb x)).1.length : Int) ≤ 9223372036854775807) := Lib.hid (by omega)
          have FR5 : Hid (St.FrI W5.drew V.heap.size (.slice a5 (St.runV s (St.sb x)).1.length c5) (St.runV s (St.sb x)).1.length) := Lib.hid (FR5'.same (w' := W5.drew) fun _ _ _ => rfl)
          clear FR5' hl5 hm5
          go_upto_region 18 with fail
          go_cut [24, 79] from 24 to 99 (fun s24 s79 wx => s24 = .int .i64 k ∧ s79 = .bool false ∧ St.FdS w V.heap.size gx gz wz.heap.size (St.runV s (St.sb x)).2 (.slice a5 (St.runV s (St.sb x)).1.length c5) (St.runV s (St.sb x)).1.length x.size wx)
          case first =>
            refine wp_region_held_drew (S := fun _ => True) (by kernel_rfl) trivial (fun hHeld => ?_)
            refine wpAnyH_take (i := 0) (v := .slice a5 (St.runV s (St.sb x)).1.length c5) rfl (by kernel_rfl) (by kernel_rfl) (by kernel_rfl) (fun _ _ _ h => h) (Or.inl ⟨by kernel_rfl, ?_⟩) (by assumption) ?_
            · intro w hSw
              clear hSw hHeld
              go_simp
              try with_reducible rfl
            simp only [Act.put]
            refine wpAnyH_take (i := 1) (v := .pointer (some ⟨gx, 0, none⟩)) rfl (by kernel_rfl) (by kernel_rfl) (by kernel_rfl) (fun _ _ _ h => h) (Or.inl ⟨by kernel_rfl, ?_⟩) (by assumption) ?_
            · intro w hSw
              clear hSw hHeld
              go_simp
              try with_reducible rfl
            simp only [Act.put]
            refine wpAnyH_take (i := 2) (v := .string x) rfl (by kernel_rfl) (by kernel_rfl) (by kernel_rfl) (fun _ _ _ h => h) (Or.inl ⟨by kernel_rfl, ?_⟩) (by assumption) ?_
            · intro w hSw
              clear hSw hHeld
              go_simp
              try with_reducible rfl
            simp only [Act.put]
            refine wpAnyH_ready (rs := [3]) (by kernel_rfl) (by simp) ?_
            refine AllReadyH.cons rfl (fun K hK => ?_) AllReadyH.nil
            go_simp
            refine (St.rfeed_any w.heap.size gx s x _ (by exact X5.out) HOK.out HGX.out (by have := HXS.out; omega)).mono ?_
            rintro e W6 ⟨v6, rfl, x6, f6, o6⟩
            have X6 := Lib.hid x6
            have F6 := Lib.hid f6
            have O6 := Lib.hid o6
            clear x6 f6 o6
            obtain ⟨a6, c6, rfl, -⟩ := O6.out.sl frmC_len
            refine hK.out _ _ trivial (fun hHeld => ?_)
            clear hK K
            refine wpAnyH_ready (rs := [4]) (by kernel_rfl) (by simp) ?_
            refine AllReadyH.cons rfl (fun K hK => ?_) AllReadyH.nil
            go_simp
            refine (St.same_any (St.runV s (St.sb x)).1 _ _ _ (SO6.out _ F6.out) (O6.out.sl frmC_len)).mono ?_
            rintro e W7 ⟨rfl, hb7⟩
            have HB7 := Lib.hid hb7
            have R7 := Lib.hid ((R5.out.far F6.out G5.out.1 (by simp) G5.out.2 (by simp)).below hb7)
            have X7 := Lib.hid (X6.out.same (hb7.block gx X6.out.lt))
            have B7 := Lib.hid ((B5.out.trans F6.out.1).trans (hb7.mono (B5.out.trans F6.out.1).size))
            obtain ⟨px, hx7, hpx⟩ := id X7.out
            have HPX := Lib.hid hpx
            obtain ⟨t0, t1, -, -⟩ := St.cells2 hx7
            have hsx := congrArg List.length hpx
            rw [St.sb_length] at hsx
            have HSX : Hid (St.leftV (St.runV s (St.sb x)).2 = (px.size : Int)) := Lib.hid (by rw [hsx]; exact LFT.out.symm)
            have SB7 := Lib.hid (SL7.out _ _ F6.out hb7)
            have hcv7 := run_str SB7.out
            rw [St.sb_str] at hcv7
            have FR7 : Hid (St.FrI W7 V.heap.size (.slice a5 (St.runV s (St.sb x)).1.length c5) (St.runV s (St.sb x)).1.length) := Lib.hid (FR5.out.same fun q hq hlt => (hb7.block q (Nat.lt_of_lt_of_le hlt F6.out.1.size)).trans (F6.out.2 q hlt (by have := XV.out.lt; omega) (by simp)))
            have BY7 : Hid (St.ByI W7 wz.heap.size x.size) := Lib.hid (BY5.out.same ((hb7.block _ (Nat.lt_of_lt_of_le GB5.out F6.out.1.size)).trans (F6.out.2 _ GB5.out (by have := XZ.out.lt; omega) (by simp))))
            have HP7 : Hid (St.FdS w V.heap.size gx gz wz.heap.size (St.runV s (St.sb x)).2 (.slice a5 (St.runV s (St.sb x)).1.length c5) (St.runV s (St.sb x)).1.length x.size W7) := Lib.hid ⟨S5, R7.out, OK5.out, X7.out, B7.out, G5.out, FR7.out, BY7.out, fun e => HGV.out.1 e.symm, S5B.out, by have := XZ.out.lt; omega, XV.out.lt, BZ.out.size, BV.out.size⟩
            clear hb7 hx7 hpx hsx
            refine hK.out _ _ trivial (fun hHeld => ?_)
            clear hK K
            refine wpAnyH_take (i := 5) (v := .bool false) rfl (by kernel_rfl) (by kernel_rfl) (by kernel_rfl) (fun _ _ _ h => h) (Or.inl ⟨by kernel_rfl, ?_⟩) (by assumption) ?_
            · intro w hSw
              clear hSw hHeld
              go_simp
              try with_reducible rfl
            simp only [Act.put]
            refine wpAnyH_take (i := 6) (v := .bool false) rfl (by kernel_rfl) (by kernel_rfl) (by kernel_rfl) (fun _ _ _ h => h) (Or.inl ⟨by kernel_rfl, ?_⟩) (by assumption) ?_
            · intro w hSw
              clear hSw hHeld
              go_simp
              try with_reducible rfl
            simp only [Act.put]
            refine wpAnyH_take (i := 7) (v := .pointer (some ⟨gz, 0, none⟩)) rfl (by kernel_rfl) (by kernel_rfl) (by kernel_rfl) (fun _ _ _ h => h) (Or.inl ⟨by kernel_rfl, ?_⟩) (by assumption) ?_
            · intro w hSw
              clear hSw hHeld
              go_simp
              try with_reducible rfl
            simp only [Act.put]
            refine wpAnyH_take (i := 9) (v := .pointer (some ⟨gx, 0, none⟩)) rfl (by kernel_rfl) (by kernel_rfl) (by kernel_rfl) (fun _ _ _ h => h) (Or.inl ⟨by kernel_rfl, ?_⟩) (by assumption) ?_
            · intro w hSw
              clear hSw hHeld
              go_simp
              try with_reducible rfl
            simp only [Act.put]
            refine wpAnyH_take (i := 10) (v := .pointer (some ⟨gx, 0, none⟩)) rfl (by kernel_rfl) (by kernel_rfl) (by kernel_rfl) (fun _ _ _ h => h) (Or.inl ⟨by kernel_rfl, ?_⟩) (by assumption) ?_
            · intro w hSw
              clear hSw hHeld
              go_simp
              try with_reducible rfl
            simp only [Act.put]
            refine wpAnyH_take (i := 11) (v := .pointer (some ⟨gx, 1, none⟩)) rfl (by kernel_rfl) (by kernel_rfl) (by kernel_rfl) (fun _ _ _ h => h) (Or.inl ⟨by kernel_rfl, ?_⟩) (by assumption) ?_
            · intro w hSw
              clear hSw hHeld
              go_simp
              try with_reducible rfl
            simp only [Act.put]
            refine wpAnyH_ready (rs := [8, 12]) (by kernel_rfl) (by simp) ?_
            refine AllReadyH.cons rfl (fun K hK => ?_) (AllReadyH.cons rfl (fun K hK => ?_) AllReadyH.nil)
            · go_simp
              refine (St.broken_any _ _ _ _ _ R7.out).mono ?_
              rintro e w8 ⟨rfl, rfl⟩
              refine hK.out _ _ trivial (fun hHeld => ?_)
              clear hK K
              refine wpAnyH_ready (rs := [12]) (by kernel_rfl) (by simp) ?_
              refine AllReadyH.cons rfl (fun K hK => ?_) AllReadyH.nil
              go_simp
              refine hK.out _ _ trivial (fun hHeld => ?_)
              clear hK K
              refine wpAnyH_take (i := 13) (v := .bool false) rfl (by kernel_rfl) (by kernel_rfl) (by kernel_rfl) (fun _ _ _ h => h) (Or.inl ⟨by kernel_rfl, ?_⟩) (by assumption) ?_
              · intro w hSw
                clear hSw hHeld
                go_simp
                try with_reducible rfl
              simp only [Act.put]
              refine wpAnyH_take (i := 14) (v := .bool false) rfl (by kernel_rfl) (by kernel_rfl) (by kernel_rfl) (fun _ _ _ h => h) (Or.inl ⟨by kernel_rfl, ?_⟩) (by assumption) ?_
              · intro w hSw
                clear hSw hHeld
                go_simp
                try with_reducible rfl
              simp only [Act.put]
              refine wpAnyH_take (i := 15) (v := .bool false) rfl (by kernel_rfl) (by kernel_rfl) (by kernel_rfl) (fun _ _ _ h => h) (Or.inl ⟨by kernel_rfl, ?_⟩) (by assumption) ?_
              · intro w hSw
                clear hSw hHeld
                go_simp
                try with_reducible rfl
              simp only [Act.put]
              refine wpAnyH_take (i := 16) (v := .pointer (some ⟨gz, 0, none⟩)) rfl (by kernel_rfl) (by kernel_rfl) (by kernel_rfl) (fun _ _ _ h => h) (Or.inl ⟨by kernel_rfl, ?_⟩) (by assumption) ?_
              · intro w hSw
                clear hSw hHeld
                go_simp
                try with_reducible rfl
              simp only [Act.put]
              refine wpAnyH_take (i := 18) (v := .pointer (some ⟨gx, 0, none⟩)) rfl (by kernel_rfl) (by kernel_rfl) (by kernel_rfl) (fun _ _ _ h => h) (Or.inl ⟨by kernel_rfl, ?_⟩) (by assumption) ?_
              · intro w hSw
                clear hSw hHeld
                go_simp
                try with_reducible rfl
              simp only [Act.put]
              refine wpAnyH_take (i := 19) (v := .pointer (some ⟨gx, 0, none⟩)) rfl (by kernel_rfl) (by kernel_rfl) (by kernel_rfl) (fun _ _ _ h => h) (Or.inl ⟨by kernel_rfl, ?_⟩) (by assumption) ?_
              · intro w hSw
                clear hSw hHeld
                go_simp
                try with_reducible rfl
              simp only [Act.put]
              refine wpAnyH_take (i := 20) (v := .pointer (some ⟨gx, 0, none⟩)) rfl (by kernel_rfl) (by kernel_rfl) (by kernel_rfl) (fun _ _ _ h => h) (Or.inl ⟨by kernel_rfl, ?_⟩) (by assumption) ?_
              · intro w hSw
                clear hSw hHeld
                go_simp
                try with_reducible rfl
              simp only [Act.put]
              refine wpAnyH_ready (rs := [17, 21]) (by kernel_rfl) (by simp) ?_
              refine AllReadyH.cons rfl (fun K hK => ?_) (AllReadyH.cons rfl (fun K hK => ?_) AllReadyH.nil)
              · go_simp
                refine (St.left_any _ _ _ _ _ R7.out OK5.out).mono ?_
                rintro e w8 ⟨rfl, rfl⟩
                rw [HSX.out]
                refine hK.out _ _ trivial (fun hHeld => ?_)
                clear hK K
                refine wpAnyH_ready (rs := [21]) (by kernel_rfl) (by simp) ?_
                refine AllReadyH.cons rfl (fun K hK => ?_) AllReadyH.nil
                go_simp
                refine hK.out _ _ trivial (fun hHeld => ?_)
                clear hK K
                refine wpAnyH_take (i := 22) (v := .int .i64 (px.size : Int)) rfl (by kernel_rfl) (by kernel_rfl) (by kernel_rfl) (fun _ _ _ h => h) (Or.inl ⟨by kernel_rfl, ?_⟩) (by assumption) ?_
                · intro w hSw
                  clear hSw hHeld
                  go_simp
                  try with_reducible rfl
                simp only [Act.put]
                refine wpAnyH_take (i := 23) (v := .bool false) rfl (by kernel_rfl) (by kernel_rfl) (by kernel_rfl) (fun _ _ _ h => h) (Or.inl ⟨by kernel_rfl, ?_⟩) (by assumption) ?_
                · intro w hSw
                  clear hSw hHeld
                  go_simp
                  try with_reducible rfl
                simp only [Act.put]
                refine wpAnyH_take (i := 24) (v := .bool false) rfl (by kernel_rfl) (by kernel_rfl) (by kernel_rfl) (fun _ _ _ h => h) (Or.inl ⟨by kernel_rfl, ?_⟩) (by assumption) ?_
                · intro w hSw
                  clear hSw hHeld
                  go_simp
                  try with_reducible rfl
                simp only [Act.put]
                refine wpAnyH_take (i := 25) (v := .bool false) rfl (by kernel_rfl) (by kernel_rfl) (by kernel_rfl) (fun _ _ _ h => h) (Or.inl ⟨by kernel_rfl, ?_⟩) (by assumption) ?_
                · intro w hSw
                  clear hSw hHeld
                  go_simp
                  try with_reducible rfl
                simp only [Act.put]
                refine wpAnyH_take (i := 26) (v := .slice (some ⟨wz.heap.size, 0, none⟩) x.size capb) rfl (by kernel_rfl) (by kernel_rfl) (by kernel_rfl) (fun _ _ _ h => h) (Or.inl ⟨by kernel_rfl, ?_⟩) (by assumption) ?_
                · intro w hSw
                  clear hSw hHeld
                  go_simp
                  try with_reducible rfl
                simp only [Act.put]
                refine wpAnyH_take (i := 28) (v := .string x) rfl (by kernel_rfl) (by kernel_rfl) (by kernel_rfl) (fun _ _ _ h => h) (Or.inl ⟨by kernel_rfl, ?_⟩) (by assumption) ?_
                · intro w hSw
                  clear hSw hHeld
                  go_simp
                  try with_reducible rfl
                simp only [Act.put]
                refine wpAnyH_ready (rs := [27]) (by kernel_rfl) (by simp) ?_
                refine AllReadyH.cons rfl (fun K hK => ?_) AllReadyH.nil
                go_simp
                refine hK.out _ _ trivial (fun hHeld => ?_)
                clear hK K
                refine wpAnyH_take (i := 29) (v := .bool false) rfl (by kernel_rfl) (by kernel_rfl) (by kernel_rfl) (fun _ _ _ h => h) (Or.inl ⟨by kernel_rfl, ?_⟩) (by assumption) ?_
                · intro w hSw
                  clear hSw hHeld
                  go_simp
                  try with_reducible rfl
                simp only [Act.put]
                refine wpAnyH_take (i := 30) (v := .bool false) rfl (by kernel_rfl) (by kernel_rfl) (by kernel_rfl) (fun _ _ _ h => h) (Or.inl ⟨by kernel_rfl, ?_⟩) (by assumption) ?_
                · intro w hSw
                  clear hSw hHeld
                  go_simp
                  try with_reducible rfl
                simp only [Act.put]
                refine wpAnyH_done (by kernel_rfl) ?_ _
                clear hHeld
                simp only [List.getElem_toArray, List.getElem_cons_succ, List.getElem_cons_zero, List.setIfInBounds_toArray, List.set_cons_succ, List.set_cons_zero]
                go_wp2_with fail
                go_meet
                exact ⟨rfl, rfl, HP7.out⟩
              · go_simp
                refine hK.out _ _ trivial (fun hHeld => ?_)
                clear hK K
                refine wpAnyH_take (i := 22) (v := .int .i64 (px.size : Int)) rfl (by kernel_rfl) (by kernel_rfl) (by kernel_rfl) (fun _ _ _ h => h) (Or.inl ⟨by kernel_rfl, ?_⟩) (by assumption) ?_
                · intro w hSw
                  clear hSw hHeld
                  go_simp
                  try with_reducible rfl
                simp only [Act.put]
                refine wpAnyH_ready (rs := [17]) (by kernel_rfl) (by simp) ?_
                refine AllReadyH.cons rfl (fun K hK => ?_) AllReadyH.nil
                go_simp
                refine (St.left_any _ _ _ _ _ R7.out OK5.out).mono ?_
                rintro e w8 ⟨rfl, rfl⟩
                rw [HSX.out]
                refine hK.out _ _ trivial (fun hHeld => ?_)
                clear hK K
                refine wpAnyH_take (i := 23) (v := .bool false) rfl (by kernel_rfl) (by kernel_rfl) (by kernel_rfl) (fun _ _ _ h => h) (Or.inl ⟨by kernel_rfl, ?_⟩) (by assumption) ?_
                · intro w hSw
                  clear hSw hHeld
                  go_simp
                  try with_reducible rfl
                simp only [Act.put]
                refine wpAnyH_take (i := 24) (v := .bool false) rfl (by kernel_rfl) (by kernel_rfl) (by kernel_rfl) (fun _ _ _ h => h) (Or.inl ⟨by kernel_rfl, ?_⟩) (by assumption) ?_
                · intro w hSw
                  clear hSw hHeld
                  go_simp
                  try with_reducible rfl
                simp only [Act.put]
                refine wpAnyH_take (i := 25) (v := .bool false) rfl (by kernel_rfl) (by kernel_rfl) (by kernel_rfl) (fun _ _ _ h => h) (Or.inl ⟨by kernel_rfl, ?_⟩) (by assumption) ?_
                · intro w hSw
                  clear hSw hHeld
                  go_simp
                  try with_reducible rfl
                simp only [Act.put]
                refine wpAnyH_take (i := 26) (v := .slice (some ⟨wz.heap.size, 0, none⟩) x.size capb) rfl (by kernel_rfl) (by kernel_rfl) (by kernel_rfl) (fun _ _ _ h => h) (Or.inl ⟨by kernel_rfl, ?_⟩) (by assumption) ?_
                · intro w hSw
                  clear hSw hHeld
                  go_simp
                  try with_reducible rfl
                simp only [Act.put]
                refine wpAnyH_take (i := 28) (v := .string x) rfl (by kernel_rfl) (by kernel_rfl) (by kernel_rfl) (fun _ _ _ h => h) (Or.inl ⟨by kernel_rfl, ?_⟩) (by assumption) ?_
                · intro w hSw
                  clear hSw hHeld
                  go_simp
                  try with_reducible rfl
                simp only [Act.put]
                refine wpAnyH_ready (rs := [27]) (by kernel_rfl) (by simp) ?_
                refine AllReadyH.cons rfl (fun K hK => ?_) AllReadyH.nil
                go_simp
                refine hK.out _ _ trivial (fun hHeld => ?_)
                clear hK K
                refine wpAnyH_take (i := 29) (v := .bool false) rfl (by kernel_rfl) (by kernel_rfl) (by kernel_rfl) (fun _ _ _ h => h) (Or.inl ⟨by kernel_rfl, ?_⟩) (by assumption) ?_
                · intro w hSw
                  clear hSw hHeld
                  go_simp
                  try with_reducible rfl
                simp only [Act.put]
                refine wpAnyH_take (i := 30) (v := .bool false) rfl (by kernel_rfl) (by kernel_rfl) (by kernel_rfl) (fun _ _ _ h => h) (Or.inl ⟨by kernel_rfl, ?_⟩) (by assumption) ?_
                · intro w hSw
                  clear hSw hHeld
                  go_simp
                  try with_reducible rfl
                simp only [Act.put]
                refine wpAnyH_done (by kernel_rfl) ?_ _
                clear hHeld
                simp only [List.getElem_toArray, List.getElem_cons_succ, List.getElem_cons_zero, List.setIfInBounds_toArray, List.set_cons_succ, List.set_cons_zero]
                go_wp2_with fail
                go_meet
                exact ⟨rfl, rfl, HP7.out⟩
            · go_simp
              refine hK.out _ _ trivial (fun hHeld => ?_)
              clear hK K
              refine wpAnyH_ready (rs := [8]) (by kernel_rfl) (by simp) ?_
              refine AllReadyH.cons rfl (fun K hK => ?_) AllReadyH.nil
              go_simp
              refine (St.broken_any _ _ _ _ _ R7.out).mono ?_
              rintro e w8 ⟨rfl, rfl⟩
              refine hK.out _ _ trivial (fun hHeld => ?_)
              clear hK K
              refine wpAnyH_take (i := 13) (v := .bool false) rfl (by kernel_rfl) (by kernel_rfl) (by kernel_rfl) (fun _ _ _ h => h) (Or.inl ⟨by kernel_rfl, ?_⟩) (by assumption) ?_
              · intro w hSw
                clear hSw hHeld
                go_simp
                try with_reducible rfl
              simp only [Act.put]
              refine wpAnyH_take (i := 14) (v := .bool false) rfl (by kernel_rfl) (by kernel_rfl) (by kernel_rfl) (fun _ _ _ h => h) (Or.inl ⟨by kernel_rfl, ?_⟩) (by assumption) ?_
              · intro w hSw
                clear hSw hHeld
                go_simp
                try with_reducible rfl
              simp only [Act.put]
              refine wpAnyH_take (i := 15) (v := .bool false) rfl (by kernel_rfl) (by kernel_rfl) (by kernel_rfl) (fun _ _ _ h => h) (Or.inl ⟨by kernel_rfl, ?_⟩) (by assumption) ?_
              · intro w hSw
                clear hSw hHeld
                go_simp
                try with_reducible rfl
              simp only [Act.put]
              refine wpAnyH_take (i := 16) (v := .pointer (some ⟨gz, 0, none⟩)) rfl (by kernel_rfl) (by kernel_rfl) (by kernel_rfl) (fun _ _ _ h => h) (Or.inl ⟨by kernel_rfl, ?_⟩) (by assumption) ?_
              · intro w hSw
                clear hSw hHeld
                go_simp
                try with_reducible rfl
              simp only [Act.put]
              refine wpAnyH_take (i := 18) (v := .pointer (some ⟨gx, 0, none⟩)) rfl (by kernel_rfl) (by kernel_rfl) (by kernel_rfl) (fun _ _ _ h => h) (Or.inl ⟨by kernel_rfl, ?_⟩) (by assumption) ?_
              · intro w hSw
                clear hSw hHeld
                go_simp
                try with_reducible rfl
              simp only [Act.put]
              refine wpAnyH_take (i := 19) (v := .pointer (some ⟨gx, 0, none⟩)) rfl (by kernel_rfl) (by kernel_rfl) (by kernel_rfl) (fun _ _ _ h => h) (Or.inl ⟨by kernel_rfl, ?_⟩) (by assumption) ?_
              · intro w hSw
                clear hSw hHeld
                go_simp
                try with_reducible rfl
              simp only [Act.put]
              refine wpAnyH_take (i := 20) (v := .pointer (some ⟨gx, 0, none⟩)) rfl (by kernel_rfl) (by kernel_rfl) (by kernel_rfl) (fun _ _ _ h => h) (Or.inl ⟨by kernel_rfl, ?_⟩) (by assumption) ?_
              · intro w hSw
                clear hSw hHeld
                go_simp
                try with_reducible rfl
              simp only [Act.put]
              refine wpAnyH_ready (rs := [17, 21]) (by kernel_rfl) (by simp) ?_
              refine AllReadyH.cons rfl (fun K hK => ?_) (AllReadyH.cons rfl (fun K hK => ?_) AllReadyH.nil)
              · go_simp
                refine (St.left_any _ _ _ _ _ R7.out OK5.out).mono ?_
                rintro e w8 ⟨rfl, rfl⟩
                rw [HSX.out]
                refine hK.out _ _ trivial (fun hHeld => ?_)
                clear hK K
                refine wpAnyH_ready (rs := [21]) (by kernel_rfl) (by simp) ?_
                refine AllReadyH.cons rfl (fun K hK => ?_) AllReadyH.nil
                go_simp
                refine hK.out _ _ trivial (fun hHeld => ?_)
                clear hK K
                refine wpAnyH_take (i := 22) (v := .int .i64 (px.size : Int)) rfl (by kernel_rfl) (by kernel_rfl) (by kernel_rfl) (fun _ _ _ h => h) (Or.inl ⟨by kernel_rfl, ?_⟩) (by assumption) ?_
                · intro w hSw
                  clear hSw hHeld
                  go_simp
                  try with_reducible rfl
                simp only [Act.put]
                refine wpAnyH_take (i := 23) (v := .bool false) rfl (by kernel_rfl) (by kernel_rfl) (by kernel_rfl) (fun _ _ _ h => h) (Or.inl ⟨by kernel_rfl, ?_⟩) (by assumption) ?_
                · intro w hSw
                  clear hSw hHeld
                  go_simp
                  try with_reducible rfl
                simp only [Act.put]
                refine wpAnyH_take (i := 24) (v := .bool false) rfl (by kernel_rfl) (by kernel_rfl) (by kernel_rfl) (fun _ _ _ h => h) (Or.inl ⟨by kernel_rfl, ?_⟩) (by assumption) ?_
                · intro w hSw
                  clear hSw hHeld
                  go_simp
                  try with_reducible rfl
                simp only [Act.put]
                refine wpAnyH_take (i := 25) (v := .bool false) rfl (by kernel_rfl) (by kernel_rfl) (by kernel_rfl) (fun _ _ _ h => h) (Or.inl ⟨by kernel_rfl, ?_⟩) (by assumption) ?_
                · intro w hSw
                  clear hSw hHeld
                  go_simp
                  try with_reducible rfl
                simp only [Act.put]
                refine wpAnyH_take (i := 26) (v := .slice (some ⟨wz.heap.size, 0, none⟩) x.size capb) rfl (by kernel_rfl) (by kernel_rfl) (by kernel_rfl) (fun _ _ _ h => h) (Or.inl ⟨by kernel_rfl, ?_⟩) (by assumption) ?_
                · intro w hSw
                  clear hSw hHeld
                  go_simp
                  try with_reducible rfl
                simp only [Act.put]
                refine wpAnyH_take (i := 28) (v := .string x) rfl (by kernel_rfl) (by kernel_rfl) (by kernel_rfl) (fun _ _ _ h => h) (Or.inl ⟨by kernel_rfl, ?_⟩) (by assumption) ?_
                · intro w hSw
                  clear hSw hHeld
                  go_simp
                  try with_reducible rfl
                simp only [Act.put]
                refine wpAnyH_ready (rs := [27]) (by kernel_rfl) (by simp) ?_
                refine AllReadyH.cons rfl (fun K hK => ?_) AllReadyH.nil
                go_simp
                refine hK.out _ _ trivial (fun hHeld => ?_)
                clear hK K
                refine wpAnyH_take (i := 29) (v := .bool false) rfl (by kernel_rfl) (by kernel_rfl) (by kernel_rfl) (fun _ _ _ h => h) (Or.inl ⟨by kernel_rfl, ?_⟩) (by assumption) ?_
                · intro w hSw
                  clear hSw hHeld
                  go_simp
                  try with_reducible rfl
                simp only [Act.put]
                refine wpAnyH_take (i := 30) (v := .bool false) rfl (by kernel_rfl) (by kernel_rfl) (by kernel_rfl) (fun _ _ _ h => h) (Or.inl ⟨by kernel_rfl, ?_⟩) (by assumption) ?_
                · intro w hSw
                  clear hSw hHeld
                  go_simp
                  try with_reducible rfl
                simp only [Act.put]
                refine wpAnyH_done (by kernel_rfl) ?_ _
                clear hHeld
                simp only [List.getElem_toArray, List.getElem_cons_succ, List.getElem_cons_zero, List.setIfInBounds_toArray, List.set_cons_succ, List.set_cons_zero]
                go_wp2_with fail
                go_meet
                exact ⟨rfl, rfl, HP7.out⟩
              · go_simp
                refine hK.out _ _ trivial (fun hHeld => ?_)
                clear hK K
                refine wpAnyH_take (i := 22) (v := .int .i64 (px.size : Int)) rfl (by kernel_rfl) (by kernel_rfl) (by kernel_rfl) (fun _ _ _ h => h) (Or.inl ⟨by kernel_rfl, ?_⟩) (by assumption) ?_
                · intro w hSw
                  clear hSw hHeld
                  go_simp
                  try with_reducible rfl
                simp only [Act.put]
                refine wpAnyH_ready (rs := [17]) (by kernel_rfl) (by simp) ?_
                refine AllReadyH.cons rfl (fun K hK => ?_) AllReadyH.nil
                go_simp
                refine (St.left_any _ _ _ _ _ R7.out OK5.out).mono ?_
                rintro e w8 ⟨rfl, rfl⟩
                rw [HSX.out]
                refine hK.out _ _ trivial (fun hHeld => ?_)
                clear hK K
                refine wpAnyH_take (i := 23) (v := .bool false) rfl (by kernel_rfl) (by kernel_rfl) (by kernel_rfl) (fun _ _ _ h => h) (Or.inl ⟨by kernel_rfl, ?_⟩) (by assumption) ?_
                · intro w hSw
                  clear hSw hHeld
                  go_simp
                  try with_reducible rfl
                simp only [Act.put]
                refine wpAnyH_take (i := 24) (v := .bool false) rfl (by kernel_rfl) (by kernel_rfl) (by kernel_rfl) (fun _ _ _ h => h) (Or.inl ⟨by kernel_rfl, ?_⟩) (by assumption) ?_
                · intro w hSw
                  clear hSw hHeld
                  go_simp
                  try with_reducible rfl
                simp only [Act.put]
                refine wpAnyH_take (i := 25) (v := .bool false) rfl (by kernel_rfl) (by kernel_rfl) (by kernel_rfl) (fun _ _ _ h => h) (Or.inl ⟨by kernel_rfl, ?_⟩) (by assumption) ?_
                · intro w hSw
                  clear hSw hHeld
                  go_simp
                  try with_reducible rfl
                simp only [Act.put]
                refine wpAnyH_take (i := 26) (v := .slice (some ⟨wz.heap.size, 0, none⟩) x.size capb) rfl (by kernel_rfl) (by kernel_rfl) (by kernel_rfl) (fun _ _ _ h => h) (Or.inl ⟨by kernel_rfl, ?_⟩) (by assumption) ?_
                · intro w hSw
                  clear hSw hHeld
                  go_simp
                  try with_reducible rfl
                simp only [Act.put]
                refine wpAnyH_take (i := 28) (v := .string x) rfl (by kernel_rfl) (by kernel_rfl) (by kernel_rfl) (fun _ _ _ h => h) (Or.inl ⟨by kernel_rfl, ?_⟩) (by assumption) ?_
                · intro w hSw
                  clear hSw hHeld
                  go_simp
                  try with_reducible rfl
                simp only [Act.put]
                refine wpAnyH_ready (rs := [27]) (by kernel_rfl) (by simp) ?_
                refine AllReadyH.cons rfl (fun K hK => ?_) AllReadyH.nil
                go_simp
                refine hK.out _ _ trivial (fun hHeld => ?_)
                clear hK K
                refine wpAnyH_take (i := 29) (v := .bool false) rfl (by kernel_rfl) (by kernel_rfl) (by kernel_rfl) (fun _ _ _ h => h) (Or.inl ⟨by kernel_rfl, ?_⟩) (by assumption) ?_
                · intro w hSw
                  clear hSw hHeld
                  go_simp
                  try with_reducible rfl
                simp only [Act.put]
                refine wpAnyH_take (i := 30) (v := .bool false) rfl (by kernel_rfl) (by kernel_rfl) (by kernel_rfl) (fun _ _ _ h => h) (Or.inl ⟨by kernel_rfl, ?_⟩) (by assumption) ?_
                · intro w hSw
                  clear hSw hHeld
                  go_simp
                  try with_reducible rfl
                simp only [Act.put]
                refine wpAnyH_done (by kernel_rfl) ?_ _
                clear hHeld
                simp only [List.getElem_toArray, List.getElem_cons_succ, List.getElem_cons_zero, List.setIfInBounds_toArray, List.set_cons_succ, List.set_cons_zero]
                go_wp2_with fail
                go_meet
                exact ⟨rfl, rfl, HP7.out⟩
          case rest =>
            obtain ⟨rfl, rfl, hP⟩ := hcut
            have HP := Lib.hid hP
            clear hP
            have hn5 : ((St.runV s (St.sb x)).1.length : Int) ≤ 9223372036854775807 := N5.out
            generalize (St.runV s (St.sb x)).1.length = n5 at *
            generalize hs2 : (St.runV s (St.sb x)).2 = s2 at *
            clear hs2
            obtain ⟨wd, hwd⟩ : ∃ q, q = wc := ⟨_, rfl⟩
            subst hwd
            go_wp2
            go_loopw [13, 82] (fun _ i wr => ∃ j : Nat, j ≤ n5 ∧ i = .int .i64 j ∧ Hid (St.FdS w V.heap.size gx gz wz.heap.size s2 (.slice a5 n5 c5) n5 x.size wr)) (fun _ i _ => n5 - (intOf i).toNat)
            case atStart => exact ⟨0, Nat.zero_le _, rfl, HP⟩
            case round =>
              obtain ⟨j, hj, rfl, HPj⟩ := hrel
              by_cases hjl : j < n5
              · obtain ⟨q, rfl, hqB, hfz, ⟨zu, hcell⟩, cur, hrow⟩ := (id HPj.out).choose_spec.2.2.2.2.2.1.at hjl
                have HN := Lib.hid (HPj.out.frm (j := j * 2 + 1) (u := .string ⟨#[122, 122]⟩) hqB hrow)
                have hjz : (j : Int) < (n5 : Int) := by omega
                clear hrow hqB
                go_wp2
                go_roundw
                case rel => exact ⟨j + 1, by omega, by go_num, HN⟩
                case measure => simp [intOf]; omega
              · obtain rfl : j = n5 := by omega
                obtain ⟨we, hwe⟩ : ∃ q, q = wr := ⟨_, rfl⟩
                subst hwe
                go_wp2
                go_loopw [14, 92] (fun _ i wr => ∃ t : Nat, t ≤ x.size ∧ i = .int .i64 t ∧ Hid (St.FdS w V.heap.size gx gz wz.heap.size s2 (.slice a5 j c5) j x.size wr)) (fun _ i _ => x.size - (intOf i).toNat)
                case atStart => exact ⟨0, Nat.zero_le _, rfl, HPj⟩
                case round =>
                  obtain ⟨t, ht, rfl, HPt⟩ := hrel
                  by_cases htl : t < x.size
                  · obtain ⟨hfz, zu, hcell⟩ := (id HPt.out).choose_spec.2.2.2.2.2.2.1.at htl
                    have HN := Lib.hid (HPt.out.byte (j := t) (u := .int .u8 120))
                    have htz : (t : Int) < (x.size : Int) := by omega
                    go_wp2
                    go_roundw
                    case rel => exact ⟨t + 1, by omega, by go_num, HN⟩
                    case measure => simp [intOf]; omega
                  · obtain rfl : t = x.size := by omega
                    obtain ⟨S9, r9, k9, x9, b9, g9, -⟩ := id HPt.out
                    have HF9 := Lib.hid (fdP_mk (ls := ls) (i := .int .i64 ((k + 1 : Nat) : Int)) (k := k + 1) (by have := HKL.out; omega) rfl (Lib.hid r9) (Lib.hid k9) (Lib.hid x9) (Lib.hid b9) (Lib.hid g9))
                    clear r9 k9 x9 b9 g9
                    go_wp2
                    go_roundw
                    case rel => exact HF9.out
                    case measure => simp [intOf]; have := HKL.out; omega
    · obtain rfl : k = ls.length := by omega
      go_wp2
      go_ret
      exact ⟨rfl, HB.out⟩

set_option maxRecDepth 100000 in
theorem contract (H : Type) (enc : TypeId × Value → H) (W : World) (base : Nat) (args : Array Value) (ds gs : List (DataW H)) (before : List MemPlace)
    (hval0 : ∀ (j : Nat) t v, Try.f4.params[j]? = some t → args[j]? = some v → Value.okWide Try.prog W .any base t v)
    (hW : DataW.Whole enc Try.prog Try.f4.params.toList Rows.streamFeedsSpec.vars false W args.toList ds gs before)
    (hsz0 : (DataW.weightsEach Try.prog (Try.f4.params.toList ++ Rows.streamFeedsSpec.plain.varTypes Try.prog) (ds ++ gs)).all (· ≤ reachBytes) = true) :
    Calls Try.prog 4 args W fun e W' => ∃ v, e = .returned v ∧ Rows.streamFeedsSpec.post enc Try.prog Try.f4 false true false false W args v W' := by
  have hval : ∀ (j : Nat) t v, Try.f4.params[j]? = some t → args[j]? = some v → Value.okWide Try.prog W .any base t v := hval0
  have hW' := hW
  obtain ⟨p, q, hA0, hV, rfl, hfz, hnd⟩ := hW
  have hA : DataW.TrodAll enc Try.prog W 0 (fun _ => true) true Try.f4.params.toList args.toList ds p := hA0
  rw [Try.params4] at hA hval
  have hsz := hsz0
  rw [Try.params4] at hsz
  obtain ⟨v0, vs0, d0, ds0, p0, q0, hargs, rfl, rfl, h0, r0⟩ := trodAll_cons hA
  obtain ⟨v1, vs1, d1, ds1, p1, q1, rfl, rfl, rfl, h1, r1⟩ := trodAll_cons r0
  obtain ⟨rfl, rfl, rfl⟩ := trodAll_nil r1
  obtain rfl : args = #[v0, v1] := by cases args; simp_all
  obtain ⟨rfl, rfl⟩ := trodVars_none hV
  clear hA0 hval0
  have k0 := h0
  have lt0 : ∀ x ∈ p0, x.block < W.heap.size := by obtain ⟨m, hm⟩ := k0; exact DataW.trod_lt m _ _ _ hm
  have k1 := h1
  have lt1 : ∀ x ∈ p1, x.block < W.heap.size := by obtain ⟨m, hm⟩ := k1; exact DataW.trod_lt m _ _ _ hm
  obtain ⟨x0, w0, -⟩ := open_strs (hval 0 23 v0 rfl rfl) k0
  obtain ⟨a1, rfl, -, -, w1⟩ := open_int Try.underlying3 (hval 1 3 v1 rfl rfl) h1
  refine (walk v0 x0 a1 W w0 w1).mono fun e W' ⟨he, bel⟩ => ?_
  subst he
  exact ⟨_, rfl, _, _, _, [], _, [], hW', trodAll_mk1 (shut_bool Try.underlying4 _), (trodAll_cons_mk (Below.trod laidOut (by kernel_rfl) (of_decide_eq_true (by kernel_rfl)) k0 bel lt0) (trodAll_cons_mk (Below.trod laidOut (by kernel_rfl) (of_decide_eq_true (by kernel_rfl)) k1 bel lt1) trodAll_mk0)), rfl, bel.frame _, fun h => by cases h⟩

set_option maxRecDepth 100000 in
theorem lifted (os : Os) (started : os.Started) (H : Type) (enc : TypeId × Value → H) :
    ReturnsInHanded {} Try.checked os 4 .any (Rows.streamFeedsSpec.pre6 enc Try.prog Try.f4 Rows.streamFeedsRow.domain false) (Rows.streamFeedsSpec.post enc Try.prog Try.f4 false true false false) := by
  refine returnsInHanded_of_change_sized (C := Try.checked) own started (by kernel_rfl) Try.func4
    (ChangeSpec.witness6 (enc := enc) (C := Try.checked) false ⟨#[], #[.slice none 0 0, .int .i64 0], []⟩ 8 (by kernel_rfl) (by kernel_rfl) (by kernel_rfl) (by kernel_rfl)) ?_
  intro W base args ds gs before hval0 hW hcnd hsz _
  exact contract H enc W base args ds gs before hval0 hW hsz

theorem proved : Rows.StreamFeedsSaid :=
  OpenClaim.holds_of_wide 4 Try.f4 rfl rfl rfl rfl rfl rfl rfl ⟨rfl, rfl, rfl, rfl, rfl⟩ rfl rfl rfl rfl rfl (by kernel_rfl) Try.func4 (by kernel_rfl)
    (of_decide_eq_true (by kernel_rfl)) (by unfold Func.isWrapper; first | (rw [if_pos (by decide +kernel)]; kernel_rfl) | (rw [if_neg (by decide +kernel)]; exact ⟨rfl, rfl⟩))
    (fun os started H enc _ => lifted os started H enc)
end Go.Proofs.Ytebgkjcemngihaa.streamFeeds
