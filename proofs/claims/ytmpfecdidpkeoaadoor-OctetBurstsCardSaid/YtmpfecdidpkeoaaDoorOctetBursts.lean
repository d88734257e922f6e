/- The law OctetBursts returns true for any bytes, any place and any burst: bytes that differ just within 32 bits side by side have unlike sums. Condition: the table octet.steps reads as the program's text lays it. -/
import Derived.Test.YtmpfecdidpkeoaaDoorSl
import Derived.Test.YtmpfecdidpkeoaaDoorCards
import Derived.Test.YtmpfecdidpkeoaaDoorTie
import Derived.Deep.DeepHandedRow
import Derived.Test.YtmpfecdidpkeoaaDoorS8
import Derived.Test.YtmpfecdidpkeoaaDoorOctS
import Derived.Test.YtmpfecdidpkeoaaDoorCrf
import Derived.Lib.SlBytesConst
import Derived.BigRegion
namespace Go.Proofs.YtmpfecdidpkeoaaDoor.octetBursts
open Go.ChangeShapes Go.WideShapes Go.ChangeAt Go.RowKit
open Go.ChangeMaps (open_string shut_string)
set_option linter.unusedVariables false

theorem own : ownKnob Tryd.prog.godebug = none := by kernel_rfl
theorem laidOut : laidOutB Tryd.prog = true := by kernel_rfl

theorem ex9 : Crc.sum [49, 50, 51, 52, 53, 54, 55, 56, 57] = 4236843288 := by decide +kernel
theorem store8 {w : World} {B g n cap : Nat} {xs : List Int} (h : Own w B (.slice (some ⟨g, 0, none⟩) n cap) xs) (j : Nat) (z : Int) :
    Own (w.setCell ⟨g, j, none⟩ (.int .u8 z)) B (.slice (some ⟨g, 0, none⟩) n cap) (xs.set j z) := by
  have hn : n = xs.length := by
    have := h.2
    rcases this with ⟨h', _⟩ | ⟨g', cap', cur, h', _⟩
    · simp at h'
    · simp at h'; exact h'.2.1
  subst hn
  have h1 := (World.ownsRow.stored h j (.int .u8 z)).1
  unfold Own
  rw [List.length_set, List.map_set]
  exact h1
theorem bit_eq {e k : Nat} (he : (e : Int) ≤ 4294967295) (hk : k < 32) : bits BinOp.and .u32 ((e : Int) / 2 ^ (31 - k)) 1 = if (BitVec.ofNat 32 e).getLsbD (31 - k) = true then 1 else 0 := by
  have h1 : ((e : Int) / 2 ^ (31 - k)) = ((e / 2 ^ (31 - k) : Nat) : Int) := by simp
  have h2 : e / 2 ^ (31 - k) ≤ e := Nat.div_le_self _ _
  rw [h1, BitVec.getLsbD_ofNat, Nat.testBit_eq_decide_div_mod_eq]
  generalize e / 2 ^ (31 - k) = c at *
  rw [u32_and _ _ (by omega) (by omega) (by omega) (by omega), Int.toNat_natCast]
  rw [show ((1 : Int).toNat) = 1 from rfl, nat_mask1]
  have h3 : decide (31 - k < 32) = true := decide_eq_true (by omega)
  rw [h3, Bool.true_and]
  by_cases h : c % 2 = 1
  · rw [h]; simp
  · have : c % 2 = 0 := by omega
    rw [this]; simp
theorem bit_true {e k : Nat} (he : (e : Int) ≤ 4294967295) (hk : k < 32) (h : (BitVec.ofNat 32 e).getLsbD (31 - k) = true) : (bits BinOp.and .u32 ((e : Int) / 2 ^ (31 - k)) 1 == 1) = true := by
  rw [bit_eq he hk, if_pos h]; rfl
theorem bit_false {e k : Nat} (he : (e : Int) ≤ 4294967295) (hk : k < 32) (h : (BitVec.ofNat 32 e).getLsbD (31 - k) = false) : (bits BinOp.and .u32 ((e : Int) / 2 ^ (31 - k)) 1 == 1) = false := by
  rw [bit_eq he hk, if_neg (by rw [h]; decide)]; rfl
theorem flip_bits {z : Int} (h0 : 0 ≤ z) (h1 : z ≤ 255) (p : Nat) : bits BinOp.xor .u8 z (128 / 2 ^ p) = Crc.flipB z p := by
  have h2 : (128 : Int) / 2 ^ p = ((128 / 2 ^ p : Nat) : Int) := by simp
  have h3 : 128 / 2 ^ p ≤ 128 := Nat.div_le_self _ _
  unfold Crc.flipB
  rw [h2]
  generalize 128 / 2 ^ p = c at *
  rw [u8_xor _ _ h0 (by omega) (by omega) (by omega), Int.toNat_natCast]
set_option maxRecDepth 100000 in
set_option maxHeartbeats 4000000 in
theorem walk (v0 : Value) (z0 : List Int) (a1 : Int) (a2 : Int) (w : World) (w0 : Sl .u8 w v0 z0) (b0 : z0.length * 1 ≤ 140737488351232) (w1 : (Lit.int .i64 a1).wf = true) (w2 : (Lit.int .u32 a2).wf = true) (ht : Oc.Tab w) :
    Calls Tryd.prog 4 #[v0, .int .i64 a1, .int .u32 a2] w fun e w' => e = .returned (.bool true) ∧ Below w.heap.size w w' := by
  have kc := fun (w : World) (C : Array Value) (n c : Nat) => Lib.run_convert_bytes_const (P := Tryd.prog) w 22 5 C n c Tryd.underlying22 Tryd.underlying5
  have hl63 := w0.len
  unfold maxLen at hl63
  obtain ⟨a, cap, hv, -⟩ := id w0
  subst hv
  have HT := Lib.hid ht
  have hlit := fun (w' : World) => Sl.new (k := .u8) (e := 5) (fr := (9, 10)) (n := 9) (c := 9) w' #[Value.int .u8 49, Value.int .u8 50, Value.int .u8 51, Value.int .u8 52, Value.int .u8 53, Value.int .u8 54, Value.int .u8 55, Value.int .u8 56, Value.int .u8 57] [49, 50, 51, 52, 53, 54, 55, 56, 57] rfl rfl (by decide) (by decide) (by decide)
  have HL := Lib.hid hlit
  have HX := Lib.hid ex9
  clear hlit ht
  by_cases hbig : 100000 < z0.length
  · have hne : ((z0.length : Int) == 0) = false := beq_eq_false_iff_ne.2 (by omega)
    go_enter Tryd.func4, Tryd.ntmps4
    go_wp2_with fail
    refine (Oc.sum_any _ _ _ (HL.out _) (HT.out.below ((Below.refl _ _).alloc (Nat.le_refl _) _) (Nat.le_refl _))).mono ?_
    rintro e w1 ⟨rfl, rfl⟩
    rw [HX.out]
    go_wp2
    go_ret
    exact ⟨rfl, (Below.refl _ _).alloc (Nat.le_refl _) _⟩
  by_cases h0 : z0.length = 0
  · have hne : ((z0.length : Int) == 0) = true := beq_iff_eq.2 (by omega)
    clear h0 hbig
    go_enter Tryd.func4, Tryd.ntmps4
    go_wp2_with fail
    refine (Oc.sum_any _ _ _ (HL.out _) (HT.out.below ((Below.refl _ _).alloc (Nat.le_refl _) _) (Nat.le_refl _))).mono ?_
    rintro e w1 ⟨rfl, rfl⟩
    rw [HX.out]
    go_wp2
    go_ret
    exact ⟨rfl, (Below.refl _ _).alloc (Nat.le_refl _) _⟩
  · have hb : ([] : List Int).length + z0.length ≤ 140737488355328 := by simp; omega
    have h1 : 1 ≤ z0.length := by omega
    have hne : ((z0.length : Int) == 0) = false := beq_eq_false_iff_ne.2 (by omega)
    have t1 : -(8 * (z0.length : Int)) < Int.tmod a1 (8 * z0.length) := by
      have := Int.tmod_lt_of_pos (-a1) (show (0:Int) < 8 * z0.length by omega)
      rw [Int.neg_tmod] at this
      omega
    have t2 : Int.tmod a1 (8 * z0.length) < 8 * (z0.length : Int) := Int.tmod_lt_of_pos _ (by omega)
    clear b0
    go_enter Tryd.func4, Tryd.ntmps4
    go_wp2_with (first
      | (at_builtin; refine app8 rfl (.const (.slice none 0 0)) _ rfl w.heap.size _ _ rfl (Own.nil _ _) _ _ rfl w0 hb (Nat.le_refl _) ?_; intro v2 u2 hown2 hb2; rw [List.nil_append] at hown2; have hs2 := hown2.sl w0.wf; have hw2 := w0.below hb2 (Nat.le_refl _); obtain ⟨a2', cap2, hv2, -⟩ := id hs2; subst hv2))
    generalize hq : (Int.tmod a1 (8 * (z0.length : Int)) + 8 * z0.length) % (8 * z0.length) = q at *
    have q0 : 0 ≤ q := by rw [← hq]; exact Int.emod_nonneg _ (by omega)
    have q1 : q < 8 * z0.length := by rw [← hq]; exact Int.emod_lt_of_pos _ (by omega)
    obtain ⟨p, rfl⟩ := Int.eq_ofNat_of_zero_le q0
    obtain ⟨e, rfl⟩ := Int.eq_ofNat_of_zero_le (bounds_u32 w2).1
    have he := (bounds_u32 w2).2
    have hp : p < 8 * z0.length := by omega
    clear hq q0 q1 t1 t2
    have HZ := Lib.hid (fun x hx => bounds_u8 (w0.wf x hx))
    have htz := Crc.turned_zero (BitVec.ofNat 32 e) p HZ.out
    rcases hown2.2 with ⟨h, h2⟩ | ⟨g, cap', cur, hv, hg, hh, hle, hcm, hsz5, htk⟩
    · omega
    simp only [Value.slice.injEq, true_and] at hv
    obtain ⟨rfl, rfl⟩ := hv
    clear hh hsz5 htk
    go_loopw [9, 10] (fun t i wr => ∃ (k : Nat) (xs : List Int) (tb : Bool), k ≤ 32 ∧ i = .int .i64 k ∧ t = .bool tb ∧ Hid (Crc.Turned (BitVec.ofNat 32 e) p k z0 xs tb) ∧ Own wr w.heap.size (.slice (some ⟨g, 0, none⟩) z0.length cap2) xs ∧ Below w.heap.size w wr) (fun _ i _ => 32 - (intOf i).toNat)
    case atStart => exact ⟨0, z0, false, by omega, rfl, rfl, Lib.hid htz, hown2, hb2⟩
    case round =>
      obtain ⟨k, xs, tb, hk, rfl, rfl, HTU, hown, hb⟩ := hrel
      clear hown2 hs2 hw2 htz
      by_cases hlt : k < 32
      · by_cases hpk : p + k < 8 * z0.length
        · have hlen := HTU.out.1
          have hxk : (p + k) / 8 < xs.length := by omega
          have hm : xs.getD ((p + k) / 8) 0 ∈ xs := by
            rw [show xs.getD ((p + k) / 8) 0 = xs[(p + k) / 8] by simp [List.getD, List.getElem?_eq_getElem hxk]]
            exact List.getElem_mem _
          have hzb := HTU.out.2.1 _ hm
          have hcell : wr.cell? ⟨g, (p + k) / 8, none⟩ = some (.int .u8 (xs.getD ((p + k) / 8) 0)) := by
            have h := World.ownsRow.cells hown (g := g) rfl ((p + k) / 8) (.int .u8 (xs.getD ((p + k) / 8) 0)) (by simp [List.getElem?_map, List.getElem?_eq_getElem hxk, List.getD])
            rw [add_plain, Nat.zero_add] at h
            exact h
          have hfz : wr.frozen? ⟨g, (p + k) / 8, none⟩ = false := by
            have h : wr.ownsRow w.heap.size 5 1 (.slice (some ⟨g, 0, none⟩) xs.length cap2) xs.length (xs.map (Value.int .u8)) := by rw [hlen]; have := hown; unfold Own at this; rw [hlen] at this; exact this
            exact h.frozenAt ((p + k) / 8)
          have hst := store8 hown ((p + k) / 8) (Crc.flipB (xs.getD ((p + k) / 8) 0) ((p + k) % 8))
          have HST := Lib.hid hst
          have HOW := Lib.hid hown
          have HBB := Lib.hid hb
          have hx := flip_bits hzb.1 hzb.2 ((p + k) % 8)
          have hi : (((p : Int) + (k : Int)) / 8).toNat = (p + k) / 8 := by omega
          have hj : (((p : Int) + (k : Int)) % 8).toNat = (p + k) % 8 := by omega
          have hi2 : ((p : Int) + (k : Int)) / 8 < (z0.length : Int) := by omega
          clear hst hown hlen hzb hm hb
          cases hbit : (BitVec.ofNat 32 e).getLsbD (31 - k) with
          | true =>
            have hbt : (bits BinOp.and .u32 ((e : Int) / 2 ^ (31 - k)) 1 == 1) = true := bit_true he hlt hbit
            have HT1 := Lib.hid (Crc.turned_one_bit HTU.out hlt hpk hbit)
            have hfl : Crc.flip xs (p + k) = xs.set ((p + k) / 8) (Crc.flipB (xs.getD ((p + k) / 8) 0) ((p + k) % 8)) := rfl
            generalize xs.getD ((p + k) / 8) 0 = z at *
            have HFL := Lib.hid hfl
            clear hbit hfl
            go_wp2
            go_region
            all_goals
              go_wp2
              go_roundw
              case rel => exact ⟨k + 1, _, true, by omega, by go_num, rfl, HT1, by rw [HFL.out]; exact HST.out, (HBB.out.setCell (p := ⟨g, (p + k) / 8, none⟩) hg _).drew⟩
              case measure => simp [intOf]; omega
          | false =>
            have hbt : (bits BinOp.and .u32 ((e : Int) / 2 ^ (31 - k)) 1 == 1) = false := bit_false he hlt hbit
            have HT1 := Lib.hid (Crc.turned_zero_bit HTU.out hlt hbit)
            clear hbit hcell hfz hx hi hj hi2
            go_wp2
            go_roundw
            case rel => exact ⟨k + 1, xs, tb, by omega, by go_num, rfl, HT1, HOW.out, HBB.out⟩
            case measure => simp [intOf]; omega
        · have hsum : ((Crc.sum z0 : Int) != (Crc.sum xs : Int)) = tb := by
            have := Crc.turned_sums HTU.out
            cases tb
            · rw [this.2 rfl]; simp
            · refine bne_iff_ne.2 (fun h => ?_)
              have h2 := this.1 (by omega)
              cases h2
          have HS := Lib.hid hsum
          have hsx := hown.sl fun x hx => WalkArith.wf_u8 (HTU.out.2.1 x hx)
          have HSX := Lib.hid hsx
          have HSZ := Lib.hid (w0.below hb (Nat.le_refl _))
          have HTR := Lib.hid (HT.out.below hb (Nat.le_refl _))
          have HBB := Lib.hid hb
          clear hsum hsx hown hb HTU
          go_wp2_with fail
          refine (Oc.sum_any _ _ _ HSZ.out HTR.out).mono ?_
          rintro e w1 ⟨rfl, rfl⟩
          go_wp2_with fail
          refine (Oc.sum_any _ xs _ HSX.out HTR.out).mono ?_
          rintro e w1 ⟨rfl, rfl⟩
          go_wp2_with fail
          refine (Oc.sum_any _ _ _ (HL.out _) (HTR.out.below ((Below.refl _ _).alloc (Nat.le_refl _) _) (Nat.le_refl _))).mono ?_
          rintro e w1 ⟨rfl, rfl⟩
          rw [HX.out]
          have hsum := HS.out
          cases tb
          all_goals
            go_wp2
            go_ret
            exact ⟨rfl, HBB.out.alloc HBB.out.size _⟩
      · have hsum : ((Crc.sum z0 : Int) != (Crc.sum xs : Int)) = tb := by
          have := Crc.turned_sums HTU.out
          cases tb
          · rw [this.2 rfl]; simp
          · refine bne_iff_ne.2 (fun h => ?_)
            have h2 := this.1 (by omega)
            cases h2
        have HS := Lib.hid hsum
        have hsx := hown.sl fun x hx => WalkArith.wf_u8 (HTU.out.2.1 x hx)
        have HSX := Lib.hid hsx
        have HSZ := Lib.hid (w0.below hb (Nat.le_refl _))
        have HTR := Lib.hid (HT.out.below hb (Nat.le_refl _))
        have HBB := Lib.hid hb
        clear hsum hsx hown hb HTU
        go_wp2_with fail
        refine (Oc.sum_any _ _ _ HSZ.out HTR.out).mono ?_
        rintro e w1 ⟨rfl, rfl⟩
        go_wp2_with fail
        refine (Oc.sum_any _ xs _ HSX.out HTR.out).mono ?_
        rintro e w1 ⟨rfl, rfl⟩
        go_wp2_with fail
        refine (Oc.sum_any _ _ _ (HL.out _) (HTR.out.below ((Below.refl _ _).alloc (Nat.le_refl _) _) (Nat.le_refl _))).mono ?_
        rintro e w1 ⟨rfl, rfl⟩
        rw [HX.out]
        have hsum := HS.out
        cases tb
        all_goals
          go_wp2
          go_ret
          exact ⟨rfl, HBB.out.alloc HBB.out.size _⟩

set_option maxRecDepth 100000 in
theorem contract (H : Type) (enc : TypeId × Value → H) (W : World) (base : Nat) (args : Array Value) (ds gs : List (DataW H)) (before : List MemPlace)
    (hval0 : ∀ (j : Nat) t v, Tryd.f4.params[j]? = some t → args[j]? = some v → Value.okWide Tryd.prog W .any base t v)
    (hW : DataW.Whole enc Tryd.prog Tryd.f4.params.toList Rows.octetBurstsSpec.vars false W args.toList ds gs before)
    (hsz0 : (DataW.weightsEach Tryd.prog (Tryd.f4.params.toList ++ Rows.octetBurstsSpec.plain.varTypes Tryd.prog) (ds ++ gs)).all (· ≤ reachBytes) = true) (hL : laidMetH Tryd.prog Rows.octetBurstsRow.laid W) :
    Calls Tryd.prog 4 args W fun e W' => ∃ v, e = .returned v ∧ Rows.octetBurstsSpec.post enc Tryd.prog Tryd.f4 false true false false W args v W' := by
  have hval : ∀ (j : Nat) t v, Tryd.f4.params[j]? = some t → args[j]? = some v → Value.okWide Tryd.prog W .any base t v := hval0
  have hW' := hW
  obtain ⟨p, q, hA0, hV, rfl, hfz, hnd⟩ := hW
  have hA : DataW.TrodAll enc Tryd.prog W 0 (fun _ => true) true Tryd.f4.params.toList args.toList ds p := hA0
  rw [Tryd.params4] at hA hval
  have hsz := hsz0
  rw [Tryd.params4] at hsz
  obtain ⟨v0, vs0, d0, ds0, p0, q0, hargs, rfl, rfl, h0, r0⟩ := trodAll_cons hA
  obtain ⟨v1, vs1, d1, ds1, p1, q1, rfl, rfl, rfl, h1, r1⟩ := trodAll_cons r0
  obtain ⟨v2, vs2, d2, ds2, p2, q2, rfl, rfl, rfl, h2, r2⟩ := trodAll_cons r1
  obtain ⟨rfl, rfl, rfl⟩ := trodAll_nil r2
  obtain rfl : args = #[v0, v1, v2] := by cases args; simp_all
  obtain ⟨rfl, rfl⟩ := trodVars_none hV
  clear hA0 hval0
  have k0 := h0
  have lt0 : ∀ x ∈ p0, x.block < W.heap.size := by obtain ⟨m, hm⟩ := k0; exact DataW.trod_lt m _ _ _ hm
  have k1 := h1
  have lt1 : ∀ x ∈ p1, x.block < W.heap.size := by obtain ⟨m, hm⟩ := k1; exact DataW.trod_lt m _ _ _ hm
  have k2 := h2
  have lt2 : ∀ x ∈ p2, x.block < W.heap.size := by obtain ⟨m, hm⟩ := k2; exact DataW.trod_lt m _ _ _ hm
  obtain ⟨z0, w0, u00, b00⟩ := open_sl Tryd.underlying22 Tryd.underlying5 (by kernel_rfl) (okWide_slice Tryd.underlying22 (hval 0 22 v0 rfl rfl)).choose_spec.choose_spec.choose_spec k0
  have b0 : z0.length * 1 ≤ 140737488351232 := by
    have := b00 hsz (j := 0) rfl rfl
    rw [show Tryd.prog.bytesOf 5 = 1 from by kernel_rfl] at this
    simpa [reachBytes] using this
  obtain ⟨a1, rfl, -, -, w1⟩ := open_int Tryd.underlying3 (hval 1 3 v1 rfl rfl) h1
  obtain ⟨a2, rfl, -, -, w2⟩ := open_int Tryd.underlying23 (hval 2 23 v2 rfl rfl) h2
  have ht : Oc.Tab W := Oc.tab_of hL
  refine (walk v0 z0 a1 a2 W w0 b0 w1 w2 ht).mono fun e W' ⟨he, bel⟩ => ?_
  subst he
  exact ⟨_, rfl, _, _, _, [], _, [], hW', trodAll_mk1 (shut_bool Tryd.underlying4 _), (trodAll_cons_mk (Below.trod laidOut (by kernel_rfl) (of_decide_eq_true (by kernel_rfl)) k0 bel lt0) (trodAll_cons_mk (Below.trod laidOut (by kernel_rfl) (of_decide_eq_true (by kernel_rfl)) k1 bel lt1) (trodAll_cons_mk (Below.trod laidOut (by kernel_rfl) (of_decide_eq_true (by kernel_rfl)) k2 bel lt2) trodAll_mk0))), rfl, bel.frame _, fun h => by cases h⟩

noncomputable def laidWorld (os : Os) : World :=
  { World.holding Tryd.prog os ⟨#[], #[], []⟩ with heap := (World.holding Tryd.prog os ⟨#[], #[], []⟩).heap.modify 0 fun
      | .cells _ t frozen => .cells (Oc.tabI.map (Value.int .u32)).toArray t frozen
      | o => o }
abbrev wargs : Array Value := #[.slice none 0 0, .int .i64 0, .int .u32 0]
theorem laid_met (os : Os) : laidMet Tryd.prog Rows.octetBurstsRow.laid ((laidWorld os).forCall (fun _ _ => 0) ⟨#[], wargs, []⟩).memory :=
  laidMet_of_run' 8 (by kernel_rfl) (by kernel_rfl)
theorem reads (os : Os) {H : Type} (enc : TypeId × Value → H) : ∃ places, DataW.whole enc Tryd.prog ((laidWorld os).forCall (fun _ _ => 0) ⟨#[], wargs, []⟩).memory Tryd.f4.params.toList Rows.octetBurstsSpec.vars false wargs.toList 8 = some ([.nil, .lit (.int .i64 0), .lit (.int .u32 0)], [], places) :=
  ⟨[], by kernel_rfl⟩
set_option maxRecDepth 100000 in
theorem lifted (os : Os) (started : os.Started) (H : Type) (enc : TypeId × Value → H) (F : Stop.Interp) :
    ReturnsInHanded {} Tryd.checked os 4 .any ((OpenSpec.ofChange Rows.octetBurstsSpec).preRow enc Tryd.prog Tryd.f4 Rows.octetBurstsRow.domain false Rows.octetBurstsRow.laid) (((OpenSpec.ofChange Rows.octetBurstsSpec).at F).post enc Tryd.prog Tryd.f4 false true false false) := by
  obtain ⟨places, hx⟩ := reads os enc
  refine returnsInHanded_of_row (C := Tryd.checked) (s := OpenSpec.ofChange Rows.octetBurstsSpec) own started (by kernel_rfl) Tryd.func4
    (witness_row_at (enc := enc) (C := Tryd.checked) false (laidWorld os) wargs rfl (by kernel_rfl) (by kernel_rfl) (by kernel_rfl)
      (OpenSpec.preRow_of_cond 8 hx (by kernel_rfl) (fun k hk => by cases hk) (by kernel_rfl) (laid_met os))) ?_
  intro W base args ds gs before hval hW _ hcond hsz hL _ _
  exact contract H enc W base args ds gs before hval hW hsz hL

theorem said : Rows.OctetBurstsSaid :=
  OpenClaim.holds_of_cond 4 Tryd.f4 rfl rfl rfl rfl rfl rfl rfl ⟨rfl, rfl, rfl, rfl, rfl⟩ rfl rfl rfl rfl rfl (by kernel_rfl) Tryd.func4 (by kernel_rfl)
    (of_decide_eq_true (by kernel_rfl)) (by unfold Func.isWrapper; first | (rw [if_pos (by decide +kernel)]; kernel_rfl) | (rw [if_neg (by decide +kernel)]; exact ⟨rfl, rfl⟩))
    (fun os started H enc _ F => by rw [OpenClaim.pre_eq_preRow]; exact lifted os started H enc F)
theorem plain (f : FuncId) (fn : Func) (hf : Tryd.pinned.checked.prog.funcNamed "stopcock/stopcocklaw01.OctetBursts" = some f) (hfn : Tryd.pinned.checked.prog.funcs[f]? = some fn) :
    false = Tryd.pinned.checked.prog.looks [] ∧ ∀ (j : Nat) t, fn.params[j]? = some t → Tryd.pinned.checked.prog.wantsStandIn t = false := by
  obtain rfl : f = 4 := Option.some.inj ((show Tryd.prog.funcNamed "stopcock/stopcocklaw01.OctetBursts" = some 4 by kernel_rfl).symm.trans hf) |>.symm
  obtain rfl : fn = Tryd.f4 := (Option.some.inj (Tryd.func4.symm.trans hfn)).symm
  refine ⟨by kernel_rfl, fun j t ht => ?_⟩
  rw [Tryd.params4] at ht
  have hm : t ∈ [22, 3, 23] := by simpa using Array.mem_of_getElem? ht
  have hall : ([22, 3, 23].all fun u => !Tryd.prog.wantsStandIn u) = true := by kernel_rfl
  exact (show Tryd.prog.wantsStandIn t = false by simpa using List.all_eq_true.1 hall t hm)
theorem proved : Rows.OctetBurstsCardSaid :=
  Claim7.holds_tied_plain_at .later [] _ _ _ _ said (fun _ h => by cases h) (by kernel_rfl) (fun _ h => by cases h) octetBursts_row_tie rfl ⟨rfl, rfl⟩ (by kernel_rfl) rfl plain (by kernel_rfl)
end Go.Proofs.YtmpfecdidpkeoaaDoor.octetBursts
