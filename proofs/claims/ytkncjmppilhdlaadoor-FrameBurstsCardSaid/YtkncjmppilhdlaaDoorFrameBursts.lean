/- The law FrameBursts returns true for any body, any place and any burst: a frame that was changed within 16 bits side by side is refused. Condition: the table octet.steps reads as the program's text lays it. -/
import Derived.Test.YtkncjmppilhdlaaDoorSl
import Derived.Test.YtkncjmppilhdlaaDoorCards
import Derived.Test.YtkncjmppilhdlaaDoorTie
import Derived.Deep.DeepHandedRow
import Derived.Test.YtkncjmppilhdlaaDoorFrH
import Derived.Test.YtkncjmppilhdlaaDoorSt8
import Derived.BigRegion
namespace Go.Proofs.YtkncjmppilhdlaaDoor.frameBursts
open Go.ChangeShapes Go.WideShapes Go.ChangeAt Go.RowKit
open Go.ChangeMaps (open_string shut_string)
set_option linter.unusedVariables false

theorem own : ownKnob Tryd.prog.godebug = none := by kernel_rfl
theorem laidOut : laidOutB Tryd.prog = true := by kernel_rfl

theorem bit_eq {e k : Nat} (he : (e : Int) ≤ 65535) (hk : k < 16) : bits BinOp.and .u16 ((e : Int) / 2 ^ (15 - k)) 1 = if (BitVec.ofNat 32 (e * 65536)).getLsbD (31 - k) = true then 1 else 0 := by
  have h1 : ((e : Int) / 2 ^ (15 - k)) = ((e / 2 ^ (15 - k) : Nat) : Int) := by simp
  have h2 : e / 2 ^ (15 - k) ≤ e := Nat.div_le_self _ _
  have h4 : (BitVec.ofNat 32 (e * 65536)).getLsbD (31 - k) = decide (e / 2 ^ (15 - k) % 2 = 1) := by
    rw [BitVec.getLsbD_ofNat, decide_eq_true (show 31 - k < 32 by omega), Bool.true_and, Nat.testBit_eq_decide_div_mod_eq, show 31 - k = 16 + (15 - k) by omega, Nat.pow_add, ← Nat.div_div_eq_div_mul, show (2 : Nat) ^ 16 = 65536 from rfl, Nat.mul_div_cancel _ (by omega)]
  rw [h1, h4]
  generalize e / 2 ^ (15 - k) = c at *
  rw [u16_and _ _ (by omega) (by omega) (by omega) (by omega), Int.toNat_natCast]
  rw [show ((1 : Int).toNat) = 1 from rfl, nat_mask1]
  by_cases h : c % 2 = 1
  · rw [h]; simp
  · have : c % 2 = 0 := by omega
    rw [this]; simp
theorem bit_true {e k : Nat} (he : (e : Int) ≤ 65535) (hk : k < 16) (h : (BitVec.ofNat 32 (e * 65536)).getLsbD (31 - k) = true) : (bits BinOp.and .u16 ((e : Int) / 2 ^ (15 - k)) 1 == 1) = true := by
  rw [bit_eq he hk, if_pos h]; rfl
theorem bit_false {e k : Nat} (he : (e : Int) ≤ 65535) (hk : k < 16) (h : (BitVec.ofNat 32 (e * 65536)).getLsbD (31 - k) = false) : (bits BinOp.and .u16 ((e : Int) / 2 ^ (15 - k)) 1 == 1) = false := by
  rw [bit_eq he hk, if_neg (by rw [h]; decide)]; rfl
theorem flip_bits {z : Int} (h0 : 0 ≤ z) (h1 : z ≤ 255) (p : Nat) : bits BinOp.xor .u8 z (128 / 2 ^ p) = Crc.flipB z p := by
  have h2 : (128 : Int) / 2 ^ p = ((128 / 2 ^ p : Nat) : Int) := by simp
  have h3 : 128 / 2 ^ p ≤ 128 := Nat.div_le_self _ _
  unfold Crc.flipB
  rw [h2]
  generalize 128 / 2 ^ p = c at *
  rw [u8_xor _ _ h0 (by omega) (by omega) (by omega), Int.toNat_natCast]
/-- what holds when k bits have been looked at -/
def Goes (e p k : Nat) (zs xs : List Int) (t : Bool) : Prop := Crc.Turned (BitVec.ofNat 32 (e * 65536)) p k zs xs t ∧ Crc.Bits (BitVec.ofNat 32 (e * 65536)) p k zs xs ∧ (t = false → xs = zs)
set_option maxRecDepth 100000 in
set_option maxHeartbeats 4000000 in
theorem walk (v0 : Value) (z0 : List Int) (a1 : Int) (a2 : Int) (w : World) (w0 : Sl .u8 w v0 z0) (b0 : z0.length * 1 ≤ 140737488351232) (w1 : (Lit.int .i64 a1).wf = true) (w2 : (Lit.int .u16 a2).wf = true) (ht : Oc.Tab w) :
    Calls Tryd.prog 7 #[v0, .int .i64 a1, .int .u16 a2] w fun e w' => e = .returned (.bool true) ∧ Below w.heap.size w w' := by
  have HT := Lib.hid ht
  have HW0 := Lib.hid w0
  obtain ⟨a, cap, hv, -⟩ := id w0
  subst hv
  clear ht b0 w0
  go_enter Tryd.func7, Tryd.ntmps7
  go_wp2_with fail
  refine (Fr.live_any _ HT.out).mono ?_
  rintro er w1' ⟨rfl, hb1⟩
  have HB1 := Lib.hid hb1
  have HW1 := Lib.hid (HW0.out.below hb1 (Nat.le_refl _))
  have HT1 := Lib.hid (HT.out.below hb1 (Nat.le_refl _))
  clear hb1
  by_cases hl : z0.length ≤ 8192
  · go_wp2_with fail
    refine (Fr.seal_any _ _ _ HW1.out HT1.out hl).mono ?_
    rintro er u2 ⟨v2, rfl, hown2, hs2, hb2⟩
    have HB2 := Lib.hid (HB1.out.trans (hb2.mono HB1.out.size))
    have HT2 := Lib.hid (HT1.out.below hb2 (Nat.le_refl _))
    have hL := Fr.seal_len z0
    have HWZ := Lib.hid HW1.out.wf
    have HZ := Lib.hid (fun x hx => bounds_u8 (Fr.sealL_wf hl HW1.out.wf x hx))
    have HSE := Lib.hid (Fr.opens_seal (zs := z0) [] hl)
    have HBE := Lib.hid (fun xs b p k (hk : k ≤ 16) ht hb => Fr.burst_err (z := z0) (xs := xs) HW1.out.wf hl (b := b) (p := p) (k := k) hk ht hb)
    rcases hown2.cases with ⟨_, h⟩ | ⟨g, cap2, rfl, hg, hle, hcm⟩
    · rw [h] at hL; simp at hL
    unfold maxLen at hcm
    have hgz : w.heap.size ≤ g := Nat.le_trans HB1.out.size hg
    obtain ⟨zs, hzs⟩ : ∃ zs, Fr.sealL z0 = zs := ⟨_, rfl⟩
    rw [hzs] at hown2 hs2 hL HZ HSE HBE hle ⊢
    rw [List.append_nil] at HSE
    have hlen1 : 1 ≤ zs.length := by omega
    have hlen2 : zs.length ≤ 8200 := by omega
    have hne : ((zs.length : Int) == 0) = false := beq_eq_false_iff_ne.2 (by omega)
    have t1 : -(8 * (zs.length : Int)) < Int.tmod a1 (8 * zs.length) := by
      have := Int.tmod_lt_of_pos (-a1) (show (0:Int) < 8 * zs.length by omega)
      rw [Int.neg_tmod] at this
      omega
    have t2 : Int.tmod a1 (8 * zs.length) < 8 * (zs.length : Int) := Int.tmod_lt_of_pos _ (by omega)
    clear hs2 hL hzs
    go_wp2_with fail
    generalize hq : (Int.tmod a1 (8 * (zs.length : Int)) + 8 * zs.length) % (8 * zs.length) = q at *
    have q0 : 0 ≤ q := by rw [← hq]; exact Int.emod_nonneg _ (by omega)
    have q1 : q < 8 * zs.length := by rw [← hq]; exact Int.emod_lt_of_pos _ (by omega)
    obtain ⟨p, rfl⟩ := Int.eq_ofNat_of_zero_le q0
    obtain ⟨e, rfl⟩ := Int.eq_ofNat_of_zero_le (bounds_u16 w2).1
    have he := (bounds_u16 w2).2
    have hp : p < 8 * zs.length := by omega
    clear hq q0 q1 t1 t2
    have hgo : Goes e p 0 zs zs false := ⟨Crc.turned_zero _ p HZ.out, Crc.bits_zero _ p zs, fun _ => rfl⟩
    go_loopw [11, 12] (fun t i wr => ∃ (k : Nat) (xs : List Int) (tb : Bool), k ≤ 16 ∧ i = .int .i64 k ∧ t = .bool tb ∧ Hid (Goes e p k zs xs tb) ∧ Own wr w.heap.size (.slice (some ⟨g, 0, none⟩) zs.length cap2) xs ∧ Below w.heap.size w wr) (fun _ i _ => 16 - (intOf i).toNat)
    case atStart => exact ⟨0, zs, false, by omega, rfl, rfl, Lib.hid hgo, hown2.mono HB1.out.size, HB2.out⟩
    case round =>
      obtain ⟨k, xs, tb, hk, rfl, rfl, HTU, hown, hb⟩ := hrel
      clear hown2 hgo
      by_cases hlt : k < 16
      · by_cases hpk : p + k < 8 * zs.length
        · have hlen := HTU.out.1.1
          have hxk : (p + k) / 8 < xs.length := by omega
          have hm : xs.getD ((p + k) / 8) 0 ∈ xs := by
            rw [show xs.getD ((p + k) / 8) 0 = xs[(p + k) / 8] by simp [List.getD, List.getElem?_eq_getElem hxk]]
            exact List.getElem_mem _
          have hzb := HTU.out.1.2.1 _ hm
          have hcell := cell8 hown hxk
          have hfz := froz8 hown ((p + k) / 8)
          have HST := Lib.hid (store8 hown ((p + k) / 8) (Crc.flipB (xs.getD ((p + k) / 8) 0) ((p + k) % 8)))
          have HOW := Lib.hid hown
          have HBB := Lib.hid hb
          have HXK := Lib.hid hxk
          have hx := flip_bits hzb.1 hzb.2 ((p + k) % 8)
          have hi : (((p : Int) + (k : Int)) / 8).toNat = (p + k) / 8 := by omega
          have hj : (((p : Int) + (k : Int)) % 8).toNat = (p + k) % 8 := by omega
          have hi2 : ((p : Int) + (k : Int)) / 8 < (zs.length : Int) := by omega
          clear hown hlen hzb hm hb hxk
          cases hbit : (BitVec.ofNat 32 (e * 65536)).getLsbD (31 - k) with
          | true =>
            have hbt : (bits BinOp.and .u16 ((e : Int) / 2 ^ (15 - k)) 1 == 1) = true := bit_true he hlt hbit
            have HT1' : Hid (Goes e p (k + 1) zs (Crc.flip xs (p + k)) true) := Lib.hid ⟨Crc.turned_one_bit HTU.out.1 (by omega) hpk hbit, Crc.bits_one HTU.out.2.1 HXK.out hbit, fun h => by cases h⟩
            have hfl : Crc.flip xs (p + k) = xs.set ((p + k) / 8) (Crc.flipB (xs.getD ((p + k) / 8) 0) ((p + k) % 8)) := rfl
            generalize xs.getD ((p + k) / 8) 0 = z at *
            have HFL := Lib.hid hfl
            clear hbit hfl
            go_wp2
            go_region
            all_goals
              go_wp2
              go_roundw
              case rel => exact ⟨k + 1, _, true, by omega, by go_num, rfl, HT1', by rw [HFL.out]; exact HST.out, (HBB.out.setCell (p := ⟨g, (p + k) / 8, none⟩) hgz _).drew⟩
              case measure => simp [intOf]; omega
          | false =>
            have hbt : (bits BinOp.and .u16 ((e : Int) / 2 ^ (15 - k)) 1 == 1) = false := bit_false he hlt hbit
            have HT1' : Hid (Goes e p (k + 1) zs xs tb) := Lib.hid ⟨Crc.turned_zero_bit HTU.out.1 (by omega) hbit, Crc.bits_none HTU.out.2.1 hbit, HTU.out.2.2⟩
            clear hbit hcell hfz hx hi hj hi2
            go_wp2
            go_roundw
            case rel => exact ⟨k + 1, xs, tb, by omega, by go_num, rfl, HT1', HOW.out, HBB.out⟩
            case measure => simp [intOf]; omega
        · have HTR := Lib.hid (HT.out.below hb (Nat.le_refl _))
          have HBB := Lib.hid hb
          have HSX := Lib.hid (hown.sl fun x hx => WalkArith.wf_u8 (HTU.out.1.2.1 x hx))
          have HEND : Hid (∃ (ys : List Int) (j : Nat) (er : Int), Fr.Opens xs ys j er ∧ ((tb = true ∧ (er = 11 ∨ er = 70)) ∨ (tb = false ∧ er = 0))) := by
            refine Lib.hid ?_
            cases tb
            · obtain rfl := HTU.out.2.2 rfl
              exact ⟨_, _, _, HSE.out, .inr ⟨rfl, rfl⟩⟩
            · obtain ⟨er, h1, h2⟩ := HBE.out _ _ _ _ hk HTU.out.1 HTU.out.2.1
              exact ⟨_, _, _, h2, .inl ⟨rfl, h1⟩⟩
          clear hb hown HTU
          go_wp2_with fail
          refine (Fr.open_any _ xs _ HSX.out HTR.out).mono ?_
          rintro er w3 ⟨v3, ys, j, er, rfl, hop, -, -, hb3⟩
          obtain ⟨ys2, j2, er2, hop2, hend⟩ := HEND.out
          obtain ⟨rfl, rfl, rfl⟩ := hop.eq hop2
          have HB3 := Lib.hid (HBB.out.trans (hb3.mono HBB.out.size))
          clear hop hop2 hb3
          rcases hend with ⟨rfl, rfl | rfl⟩ | ⟨rfl, rfl⟩
          all_goals
            go_wp2
            go_ret
            exact ⟨rfl, HB3.out⟩
      · have HTR := Lib.hid (HT.out.below hb (Nat.le_refl _))
        have HBB := Lib.hid hb
        have HSX := Lib.hid (hown.sl fun x hx => WalkArith.wf_u8 (HTU.out.1.2.1 x hx))
        have HEND : Hid (∃ (ys : List Int) (j : Nat) (er : Int), Fr.Opens xs ys j er ∧ ((tb = true ∧ (er = 11 ∨ er = 70)) ∨ (tb = false ∧ er = 0))) := by
          refine Lib.hid ?_
          cases tb
          · obtain rfl := HTU.out.2.2 rfl
            exact ⟨_, _, _, HSE.out, .inr ⟨rfl, rfl⟩⟩
          · obtain ⟨er, h1, h2⟩ := HBE.out _ _ _ _ hk HTU.out.1 HTU.out.2.1
            exact ⟨_, _, _, h2, .inl ⟨rfl, h1⟩⟩
        clear hb hown HTU
        go_wp2_with fail
        refine (Fr.open_any _ xs _ HSX.out HTR.out).mono ?_
        rintro er w3 ⟨v3, ys, j, er, rfl, hop, -, -, hb3⟩
        obtain ⟨ys2, j2, er2, hop2, hend⟩ := HEND.out
        obtain ⟨rfl, rfl, rfl⟩ := hop.eq hop2
        have HB3 := Lib.hid (HBB.out.trans (hb3.mono HBB.out.size))
        clear hop hop2 hb3
        rcases hend with ⟨rfl, rfl | rfl⟩ | ⟨rfl, rfl⟩
        all_goals
          go_wp2
          go_ret
          exact ⟨rfl, HB3.out⟩
  · go_wp2_with fail
    refine (Fr.seal_long _ _ _ HW1.out (by omega)).mono ?_
    rintro e w2 ⟨rfl, rfl⟩
    go_wp2
    go_ret
    exact ⟨rfl, HB1.out⟩

set_option maxRecDepth 100000 in
theorem contract (H : Type) (enc : TypeId × Value → H) (W : World) (base : Nat) (args : Array Value) (ds gs : List (DataW H)) (before : List MemPlace)
    (hval0 : ∀ (j : Nat) t v, Tryd.f7.params[j]? = some t → args[j]? = some v → Value.okWide Tryd.prog W .any base t v)
    (hW : DataW.Whole enc Tryd.prog Tryd.f7.params.toList Rows.frameBurstsSpec.vars false W args.toList ds gs before)
    (hsz0 : (DataW.weightsEach Tryd.prog (Tryd.f7.params.toList ++ Rows.frameBurstsSpec.plain.varTypes Tryd.prog) (ds ++ gs)).all (· ≤ reachBytes) = true) (hL : laidMetH Tryd.prog Rows.frameBurstsRow.laid W) :
    Calls Tryd.prog 7 args W fun e W' => ∃ v, e = .returned v ∧ Rows.frameBurstsSpec.post enc Tryd.prog Tryd.f7 false true false false W args v W' := by
  have hval : ∀ (j : Nat) t v, Tryd.f7.params[j]? = some t → args[j]? = some v → Value.okWide Tryd.prog W .any base t v := hval0
  have hW' := hW
  obtain ⟨p, q, hA0, hV, rfl, hfz, hnd⟩ := hW
  have hA : DataW.TrodAll enc Tryd.prog W 0 (fun _ => true) true Tryd.f7.params.toList args.toList ds p := hA0
  rw [Tryd.params7] at hA hval
  have hsz := hsz0
  rw [Tryd.params7] at hsz
  obtain ⟨v0, vs0, d0, ds0, p0, q0, hargs, rfl, rfl, h0, r0⟩ := trodAll_cons hA
  obtain ⟨v1, vs1, d1, ds1, p1, q1, rfl, rfl, rfl, h1, r1⟩ := trodAll_cons r0
  obtain ⟨v2, vs2, d2, ds2, p2, q2, rfl, rfl, rfl, h2, r2⟩ := trodAll_cons r1
  obtain ⟨rfl, rfl, rfl⟩ := trodAll_nil r2
  obtain rfl : args = #[v0, v1, v2] := by cases args; simp_all
  obtain ⟨rfl, rfl⟩ := trodVars_none hV
  clear hA0 hval0
  have k0 := h0
  have lt0 : ∀ x ∈ p0, x.block < W.heap.size := by obtain ⟨m, hm⟩ := k0; exact DataW.trod_lt m _ _ _ hm
  have k1 := h1
  have lt1 : ∀ x ∈ p1, x.block < W.heap.size := by obtain ⟨m, hm⟩ := k1; exact DataW.trod_lt m _ _ _ hm
  have k2 := h2
  have lt2 : ∀ x ∈ p2, x.block < W.heap.size := by obtain ⟨m, hm⟩ := k2; exact DataW.trod_lt m _ _ _ hm
  obtain ⟨z0, w0, u00, b00⟩ := open_sl Tryd.underlying22 Tryd.underlying5 (by kernel_rfl) (okWide_slice Tryd.underlying22 (hval 0 22 v0 rfl rfl)).choose_spec.choose_spec.choose_spec k0
  have b0 : z0.length * 1 ≤ 140737488351232 := by
    have := b00 hsz (j := 0) rfl rfl
    rw [show Tryd.prog.bytesOf 5 = 1 from by kernel_rfl] at this
    simpa [reachBytes] using this
  obtain ⟨a1, rfl, -, -, w1⟩ := open_int Tryd.underlying3 (hval 1 3 v1 rfl rfl) h1
  obtain ⟨a2, rfl, -, -, w2⟩ := open_int Tryd.underlying31 (hval 2 31 v2 rfl rfl) h2
  have ht : Oc.Tab W := Oc.tab_of hL
  refine (walk v0 z0 a1 a2 W w0 b0 w1 w2 ht).mono fun e W' ⟨he, bel⟩ => ?_
  subst he
  exact ⟨_, rfl, _, _, _, [], _, [], hW', trodAll_mk1 (shut_bool Tryd.underlying4 _), (trodAll_cons_mk (Below.trod laidOut (by kernel_rfl) (of_decide_eq_true (by kernel_rfl)) k0 bel lt0) (trodAll_cons_mk (Below.trod laidOut (by kernel_rfl) (of_decide_eq_true (by kernel_rfl)) k1 bel lt1) (trodAll_cons_mk (Below.trod laidOut (by kernel_rfl) (of_decide_eq_true (by kernel_rfl)) k2 bel lt2) trodAll_mk0))), rfl, bel.frame _, fun h => by cases h⟩

noncomputable def laidWorld (os : Os) : World :=
  { World.holding Tryd.prog os ⟨#[], #[], []⟩ with heap := (World.holding Tryd.prog os ⟨#[], #[], []⟩).heap.modify 0 fun
      | .cells _ t frozen => .cells (Oc.tabI.map (Value.int .u32)).toArray t frozen
      | o => o }
abbrev wargs : Array Value := #[.slice none 0 0, .int .i64 0, .int .u16 0]
theorem laid_met (os : Os) : laidMet Tryd.prog Rows.frameBurstsRow.laid ((laidWorld os).forCall (fun _ _ => 0) ⟨#[], wargs, []⟩).memory :=
  laidMet_of_run' 8 (by kernel_rfl) (by kernel_rfl)
theorem reads (os : Os) {H : Type} (enc : TypeId × Value → H) : ∃ places, DataW.whole enc Tryd.prog ((laidWorld os).forCall (fun _ _ => 0) ⟨#[], wargs, []⟩).memory Tryd.f7.params.toList Rows.frameBurstsSpec.vars false wargs.toList 8 = some ([.nil, .lit (.int .i64 0), .lit (.int .u16 0)], [], places) :=
  ⟨[], by kernel_rfl⟩
set_option maxRecDepth 100000 in
theorem lifted (os : Os) (started : os.Started) (H : Type) (enc : TypeId × Value → H) (F : Stop.Interp) :
    ReturnsInHanded {} Tryd.checked os 7 .any ((OpenSpec.ofChange Rows.frameBurstsSpec).preRow enc Tryd.prog Tryd.f7 Rows.frameBurstsRow.domain false Rows.frameBurstsRow.laid) (((OpenSpec.ofChange Rows.frameBurstsSpec).at F).post enc Tryd.prog Tryd.f7 false true false false) := by
  obtain ⟨places, hx⟩ := reads os enc
  refine returnsInHanded_of_row (C := Tryd.checked) (s := OpenSpec.ofChange Rows.frameBurstsSpec) own started (by kernel_rfl) Tryd.func7
    (witness_row_at (enc := enc) (C := Tryd.checked) false (laidWorld os) wargs rfl (by kernel_rfl) (by kernel_rfl) (by kernel_rfl)
      (OpenSpec.preRow_of_cond 8 hx (by kernel_rfl) (fun k hk => by cases hk) (by kernel_rfl) (laid_met os))) ?_
  intro W base args ds gs before hval hW _ hcond hsz hL _ _
  exact contract H enc W base args ds gs before hval hW hsz hL

theorem said : Rows.FrameBurstsSaid :=
  OpenClaim.holds_of_cond 7 Tryd.f7 rfl rfl rfl rfl rfl rfl rfl ⟨rfl, rfl, rfl, rfl, rfl⟩ rfl rfl rfl rfl rfl (by kernel_rfl) Tryd.func7 (by kernel_rfl)
    (of_decide_eq_true (by kernel_rfl)) (by unfold Func.isWrapper; first | (rw [if_pos (by decide +kernel)]; kernel_rfl) | (rw [if_neg (by decide +kernel)]; exact ⟨rfl, rfl⟩))
    (fun os started H enc _ F => by rw [OpenClaim.pre_eq_preRow]; exact lifted os started H enc F)
theorem plain (f : FuncId) (fn : Func) (hf : Tryd.pinned.checked.prog.funcNamed "stopcock/stopcocklaw07.FrameBursts" = some f) (hfn : Tryd.pinned.checked.prog.funcs[f]? = some fn) :
    false = Tryd.pinned.checked.prog.looks [] ∧ ∀ (j : Nat) t, fn.params[j]? = some t → Tryd.pinned.checked.prog.wantsStandIn t = false := by
  obtain rfl : f = 7 := Option.some.inj ((show Tryd.prog.funcNamed "stopcock/stopcocklaw07.FrameBursts" = some 7 by kernel_rfl).symm.trans hf) |>.symm
  obtain rfl : fn = Tryd.f7 := (Option.some.inj (Tryd.func7.symm.trans hfn)).symm
  refine ⟨by kernel_rfl, fun j t ht => ?_⟩
  rw [Tryd.params7] at ht
  have hm : t ∈ [22, 3, 31] := by simpa using Array.mem_of_getElem? ht
  have hall : ([22, 3, 31].all fun u => !Tryd.prog.wantsStandIn u) = true := by kernel_rfl
  exact (show Tryd.prog.wantsStandIn t = false by simpa using List.all_eq_true.1 hall t hm)
theorem proved : Rows.FrameBurstsCardSaid :=
  Claim7.holds_tied_plain_at .later [] _ _ _ _ said (fun _ h => by cases h) (by kernel_rfl) (fun _ h => by cases h) frameBursts_row_tie rfl ⟨rfl, rfl⟩ (by kernel_rfl) rfl plain (by kernel_rfl)
end Go.Proofs.YtkncjmppilhdlaaDoor.frameBursts
