/- The sum of 32 bits as steps of a register: plain mathematics. No condition. The sum of bytes: octet.Sum and the document's own. Condition: the table octet.steps reads as the program lays it. -/
import Init
import Derived.Test.YtlfaiemebfkajaaGreatDoorBse
import Derived.Laws.BitsAllLaws
import Derived.Lib.LaidTab
import Derived.LaidMore
namespace Go.Proofs.YtlfaiemebfkajaaGreatDoor
set_option linter.unusedVariables false
set_option maxRecDepth 100000
namespace Crc
def poly : BitVec 32 := 0x04c11db7#32
/-- one step of the register -/
def step (r : BitVec 32) : BitVec 32 := (r <<< 1) ^^^ (if r.msb then poly else 0#32)
def steps : Nat → BitVec 32 → BitVec 32
  | 0, r => r
  | n + 1, r => step (steps n r)
theorem steps_add (a : Nat) : ∀ (b : Nat) (r : BitVec 32), steps (a + b) r = steps b (steps a r)
  | 0, r => rfl
  | b + 1, r => by rw [← Nat.add_assoc]; show step _ = step _; rw [steps_add a b r]
theorem step_xor (a b : BitVec 32) : step (a ^^^ b) = step a ^^^ step b := by
  unfold step
  rw [BitVec.shiftLeft_xor_distrib, BitVec.msb_xor]
  cases a.msb <;> cases b.msb <;> simp [BitVec.xor_assoc]
  · exact BitVec.xor_comm _ _
  · rw [← BitVec.xor_assoc poly, BitVec.xor_comm poly (b <<< 1), BitVec.xor_assoc (b <<< 1), BitVec.xor_self, BitVec.xor_zero]
theorem steps_xor : ∀ (n : Nat) (a b : BitVec 32), steps n (a ^^^ b) = steps n a ^^^ steps n b
  | 0, a, b => rfl
  | n + 1, a, b => by show step _ = step _ ^^^ step _; rw [steps_xor n a b, step_xor]
theorem step_zero : step 0#32 = 0#32 := by decide
theorem steps_zero : ∀ n, steps n 0#32 = 0#32
  | 0 => rfl
  | n + 1 => by show step _ = _; rw [steps_zero n, step_zero]
def tab : List (BitVec 32) := [0x00000000#32, 0x04c11db7#32, 0x09823b6e#32, 0x0d4326d9#32, 0x130476dc#32, 0x17c56b6b#32, 0x1a864db2#32, 0x1e475005#32, 0x2608edb8#32, 0x22c9f00f#32, 0x2f8ad6d6#32, 0x2b4bcb61#32, 0x350c9b64#32, 0x31cd86d3#32, 0x3c8ea00a#32, 0x384fbdbd#32]
theorem step_low {r : BitVec 32} (h : r.msb = false) : step r = r <<< 1 := by
  unfold step; rw [h]; simp
/-- while the highest bits are clear, a step only shifts -/
theorem steps_low (r : BitVec 32) : ∀ n, n ≤ 32 → (∀ i, i < n → r.getLsbD (31 - i) = false) → steps n r = r <<< n
  | 0, _, _ => by simp [steps]
  | n + 1, hn, h => by
    show step _ = _
    rw [steps_low r n (by omega) fun i hi => h i (by omega), step_low, BitVec.shiftLeft_add]
    rw [BitVec.msb_eq_getLsbD_last, BitVec.getLsbD_shiftLeft]
    have h1 := h n (by omega)
    have h2 : decide (32 - 1 < 32) = true := by decide
    rw [show (32 - 1 - n) = 31 - n by omega, h1]
    simp
theorem top4 : ∀ n : Fin 16, steps 4 ((BitVec.ofNat 32 n.val) <<< 28) = tab.getD n.val 0#32 := by decide
theorem parts (r : BitVec 32) : r = ((r >>> 28) <<< 28) ^^^ (r &&& 0x0fffffff#32) := by
  apply BitVec.eq_of_getLsbD_eq
  intro i hi
  rw [BitVec.getLsbD_xor, BitVec.getLsbD_shiftLeft, BitVec.getLsbD_ushiftRight, BitVec.getLsbD_and]
  have hm : ∀ j : Fin 32, (0x0fffffff#32).getLsbD j.val = decide (j.val < 28) := by decide
  rw [hm ⟨i, hi⟩]
  by_cases h : i < 28
  · simp [h, hi]
  · simp [h, hi, show 28 + (i - 28) = i by omega]
/-- four steps at once -/
theorem nib (r : BitVec 32) : steps 4 r = (r <<< 4) ^^^ tab.getD (r.toNat / 268435456) 0#32 := by
  have hp := parts r
  have hn : r.toNat / 268435456 < 16 := by have := r.isLt; omega
  have e : r >>> 28 = BitVec.ofNat 32 (r.toNat / 268435456) := by
    apply BitVec.eq_of_toNat_eq
    rw [BitVec.toNat_ushiftRight, Nat.shiftRight_eq_div_pow, BitVec.toNat_ofNat]
    rw [Nat.mod_eq_of_lt (by omega)]
  have h1 := top4 ⟨_, hn⟩
  have h2 : steps 4 (r &&& 0x0fffffff#32) = (r &&& 0x0fffffff#32) <<< 4 := by
    apply steps_low _ 4 (by omega)
    intro i hi
    rw [BitVec.getLsbD_and]
    have hm : ∀ j : Fin 32, (0x0fffffff#32).getLsbD j.val = decide (j.val < 28) := by decide
    rw [hm ⟨31 - i, by omega⟩]
    simp; omega
  have h3 : (r &&& 0x0fffffff#32) <<< 4 = r <<< 4 := by
    apply BitVec.eq_of_getLsbD_eq
    intro i hi
    rw [BitVec.getLsbD_shiftLeft, BitVec.getLsbD_shiftLeft, BitVec.getLsbD_and]
    have hm : ∀ j : Fin 32, (0x0fffffff#32).getLsbD j.val = decide (j.val < 28) := by decide
    by_cases h4 : i < 4
    · simp [h4]
    · rw [hm ⟨i - 4, by omega⟩]; simp [show i - 4 < 28 by omega]
  calc steps 4 r = steps 4 (((r >>> 28) <<< 28) ^^^ (r &&& 0x0fffffff#32)) := by rw [← hp]
    _ = steps 4 ((r >>> 28) <<< 28) ^^^ steps 4 (r &&& 0x0fffffff#32) := steps_xor _ _ _
    _ = _ := by rw [h2, h3, e, h1, BitVec.xor_comm]

/-- one byte more -/
def feed (r : BitVec 32) (z : Int) : BitVec 32 := steps 8 (r ^^^ (BitVec.ofNat 32 z.toNat <<< 24))
def crc (r : BitVec 32) (l : List Int) : BitVec 32 := l.foldl feed r
def start : BitVec 32 := 4294967295#32
/-- the sum of a list of bytes -/
def sum (l : List Int) : Nat := (crc start l ^^^ start).toNat
theorem crc_snoc (r : BitVec 32) (l : List Int) (z : Int) : crc r (l ++ [z]) = feed (crc r l) z := by simp [crc]
theorem in_byte {z : Int} (h0 : 0 ≤ z) (h1 : z ≤ 255) : (BitVec.ofNat 32 z.toNat <<< 24).toNat = z.toNat * 16777216 := by
  rw [BitVec.toNat_shiftLeft, BitVec.toNat_ofNat, Nat.shiftLeft_eq]
  rw [Nat.mod_eq_of_lt (a := z.toNat) (by omega), Nat.mod_eq_of_lt (by omega)]
theorem nib_nat (r : BitVec 32) : (steps 4 r).toNat = (r.toNat * 16 % 4294967296) ^^^ (tab.getD (r.toNat / 268435456) 0#32).toNat := by
  rw [nib, BitVec.toNat_xor, BitVec.toNat_shiftLeft, Nat.shiftLeft_eq]
theorem feed_nib (r : BitVec 32) (z : Int) : feed r z = steps 4 (steps 4 (r ^^^ (BitVec.ofNat 32 z.toNat <<< 24))) := by
  unfold feed; rw [← steps_add]
theorem step_hi {r : BitVec 32} (h : 2147483648 ≤ r.toNat) : (step r).toNat = (r.toNat * 2 % 4294967296) ^^^ 79764919 := by
  have hm : r.msb = true := by rw [BitVec.msb_eq_decide]; exact decide_eq_true h
  unfold step
  rw [hm, if_pos rfl, BitVec.toNat_xor, BitVec.toNat_shiftLeft, Nat.shiftLeft_eq]
  rfl
theorem step_lo {r : BitVec 32} (h : r.toNat < 2147483648) : (step r).toNat = r.toNat * 2 % 4294967296 := by
  have hm : r.msb = false := by rw [BitVec.msb_eq_decide]; exact decide_eq_false (by omega)
  unfold step
  rw [hm, if_neg (by decide), BitVec.xor_zero, BitVec.toNat_shiftLeft, Nat.shiftLeft_eq]
theorem tab_lt (i : Nat) : (tab.getD i 0#32).toNat < 4294967296 := (tab.getD i 0#32).isLt
end Crc
end Go.Proofs.YtlfaiemebfkajaaGreatDoor
namespace Go.Proofs.YtlfaiemebfkajaaGreatDoor
open Go.ChangeShapes Go.WideShapes Go.ChangeAt Go.RowKit
set_option linter.unusedVariables false
set_option maxRecDepth 100000
namespace Oc
theorem cases8 {k : IntKind} {w : World} {v : Value} {zs : List Int} (h : Sl k w v zs) :
    (∃ a cap, v = .slice a 0 cap ∧ zs = []) ∨ ∃ b off cap, v = .slice (some ⟨b, off, none⟩) zs.length cap ∧ 0 < zs.length ∧ zs.length ≤ cap ∧ cap ≤ 9223372036854775807 ∧ b < w.heap.size ∧
      ∀ i, i < zs.length → w.cell? ⟨b, off + i, none⟩ = some (.int k (zs.getD i 0)) := by
  obtain ⟨a, cap, rfl, h1, h2, h3, h4⟩ := h
  unfold maxLen at h2
  rcases h4 with ⟨rfl, rfl, rfl⟩ | ⟨b, off, sp, rfl, rfl | ⟨rfl, hlt, hc⟩⟩
  · exact .inl ⟨_, _, rfl, rfl⟩
  · exact .inl ⟨_, _, rfl, rfl⟩
  · rcases Nat.eq_zero_or_pos zs.length with h0 | h0
    · have : zs = [] := List.eq_nil_of_length_eq_zero h0
      subst this
      exact .inl ⟨_, _, rfl, rfl⟩
    · exact .inr ⟨b, off, cap, rfl, h0, h1, h2, hlt, hc⟩
/-- the table stands there -/
def Tab (w : World) : Prop := 0 < w.heap.size ∧ ∀ i, i < 16 → w.cell? ⟨0, i, none⟩ = some (.int .u32 ((Crc.tab.getD i 0#32).toNat : Int))
theorem Tab.below {w w' : World} {B : Nat} (h : Tab w) (hb : Below B w w') (hB : w.heap.size ≤ B) : Tab w' :=
  ⟨Nat.lt_of_lt_of_le h.1 hb.size, fun i hi => (hb.cell (p := ⟨0, i, none⟩) (Nat.lt_of_lt_of_le h.1 hB)).trans (h.2 i hi)⟩
def tabI : List Int := [0, 79764919, 159529838, 222504665, 319059676, 398814059, 445009330, 507990021, 638119352, 583659535, 797628118, 726387553, 890018660, 835552979, 1015980042, 944750013]
theorem tab_eq : ∀ i : Fin 16, tabI.getD i.val 0 = ((Crc.tab.getD i.val 0#32).toNat : Int) := by decide +kernel
theorem gTab : Tryz.prog.globalNamed "stopcock/octet.steps" = some 0 := by kernel_rfl
theorem gTabType : (Tryz.prog.globals[0]?).map (·.type) = some 122 := by kernel_rfl
theorem cTab : Tryz.prog.cellsOf 122 = 16 := by kernel_rfl
theorem cU32 : Tryz.prog.cellsOf 54 = 1 := by kernel_rfl
theorem tab_of {W : World} (h : laidMetH Tryz.prog [("stopcock/octet.steps", Rows.laid_stopcock_octet_steps)] W) : Tab W := by
  have hT : Lib.TabIs Tryz.prog W "stopcock/octet.steps" .u32 tabI := Lib.tabIs_of_head (rest := []) gTab gTabType Tryz.underlying122 Tryz.underlying54 cU32 cTab h
  refine ⟨World.block_lt_of_cell? _ _ (hT.cell gTab 0 (by decide)), fun i hi => ?_⟩
  have := hT.cell gTab i hi
  rw [tab_eq ⟨i, hi⟩] at this
  exact this
theorem x1 (r : BitVec 32) {z : Int} (h0 : 0 ≤ z) (h1 : z ≤ 255) : bits BinOp.xor .u32 (r.toNat : Int) (z * 16777216) = ((r ^^^ (BitVec.ofNat 32 z.toNat <<< 24)).toNat : Int) := by
  have hr := r.isLt
  rw [u32_xor _ _ (by omega) (by omega) (by omega) (by omega), BitVec.toNat_xor, Crc.in_byte h0 h1, Int.toNat_natCast]
  congr 3
  omega
theorem x4 (r : BitVec 32) : bits BinOp.xor .u32 ((r.toNat : Int) * 16 % 4294967296) ((Crc.tab.getD (r.toNat / 268435456) 0#32).toNat : Int) = ((Crc.steps 4 r).toNat : Int) := by
  have hr := r.isLt
  have ht := Crc.tab_lt (r.toNat / 268435456)
  rw [u32_xor _ _ (by omega) (by omega) (by omega) (by omega), Crc.nib_nat, Int.toNat_natCast]
  congr 3
theorem xhi {r : BitVec 32} (h : 2147483648 ≤ r.toNat) : bits BinOp.xor .u32 ((r.toNat : Int) * 2 % 4294967296) 79764919 = ((Crc.step r).toNat : Int) := by
  have hr := r.isLt
  rw [u32_xor _ _ (by omega) (by omega) (by omega) (by omega), Crc.step_hi h]
  congr 3
theorem xlo {r : BitVec 32} (h : r.toNat < 2147483648) : (r.toNat : Int) * 2 % 4294967296 = ((Crc.step r).toNat : Int) := by
  rw [Crc.step_lo h]; omega
theorem xend (r : BitVec 32) : bits BinOp.xor .u32 (r.toNat : Int) 4294967295 = ((r ^^^ Crc.start).toNat : Int) := by
  have hr := r.isLt
  rw [u32_xor _ _ (by omega) (by omega) (by omega) (by omega), BitVec.toNat_xor, Int.toNat_natCast]
  rfl
theorem xend2 (r : BitVec 32) : bits BinOp.xor .u32 IntKind.u32.max (r.toNat : Int) = ((r ^^^ Crc.start).toNat : Int) := by
  have hr := r.isLt
  have hm : IntKind.u32.max = 4294967295 := by decide
  rw [hm, u32_xor _ _ (by omega) (by omega) (by omega) (by omega), BitVec.toNat_xor, Int.toNat_natCast, Nat.xor_comm]
  rfl
theorem ugetD {zs : List Int} {k : Nat} (h : k < zs.length) : zs.getD k 0 ∈ zs ∧ zs.take (k + 1) = zs.take k ++ [zs.getD k 0] := by
  have e : zs.getD k 0 = zs[k] := by simp [List.getD, List.getElem?_eq_getElem h]
  rw [e]
  exact ⟨List.getElem_mem _, List.take_succ_eq_append_getElem h⟩
set_option maxHeartbeats 400000 in
theorem sum_any (v : Value) (zs : List Int) (w : World) (hs : Sl .u8 w v zs) (ht : Tab w) :
    Calls Tryz.prog 57 #[v] w fun e w' => e = .returned (.int .u32 (Crc.sum zs)) ∧ w = w' := by
  have HW := Lib.hid hs.wf
  have HT := Lib.hid ht.2
  rcases cases8 hs with ⟨a, cap, rfl, rfl⟩ | ⟨b, off, cap, rfl, h0, hlc, hcm, hlt, hc⟩
  · clear hs ht
    go_enter Tryz.func57, Tryz.ntmps57
    go_wp2
    refine wp_loop_rounds 1 ?_
    rw [rounds_succ]
    go_wp2
    go_ret
    exact ⟨rfl, rfl⟩
  · have HC := Lib.hid hc
    have hse := xend2 (Crc.crc Crc.start zs)
    have HSE := Lib.hid hse
    clear hc hs ht hse
    go_enter Tryz.func57, Tryz.ntmps57
    go_wp2
    go_loop [3, 8] (fun r i => ∃ k : Nat, k ≤ zs.length ∧ i = .int .i64 k ∧ r = .int .u32 (Crc.crc Crc.start (zs.take k)).toNat) (fun _ i => zs.length - (intOf i).toNat)
    case atStart => exact ⟨0, Nat.zero_le _, rfl, rfl⟩
    case round =>
      obtain ⟨k, hk, rfl, rfl⟩ := hrel
      by_cases hlt2 : k < zs.length
      · have hcx := HC.out k hlt2
        obtain ⟨hm, htk⟩ := ugetD hlt2
        obtain ⟨hb0, hb1⟩ := bounds_u8 (HW.out _ hm)
        generalize zs.getD k 0 = z at *
        have hnx : (Crc.crc Crc.start (zs.take (k + 1))) = Crc.feed (Crc.crc Crc.start (zs.take k)) z := by rw [htk, Crc.crc_snoc]
        generalize Crc.crc Crc.start (zs.take k) = r at *
        rw [Crc.feed_nib] at hnx
        have e1 := x1 r hb0 hb1
        generalize r ^^^ (BitVec.ofNat 32 z.toNat <<< 24) = r1 at *
        have e2 := x4 r1
        have q1 := HT.out (r1.toNat / 268435456) (by have := r1.isLt; omega)
        have i1 : ((r1.toNat : Int) / 268435456).toNat = r1.toNat / 268435456 := by omega
        have j1 : (r1.toNat : Int) / 268435456 < 16 := by have := r1.isLt; omega
        generalize Crc.steps 4 r1 = r2 at *
        have e3 := x4 r2
        have q2 := HT.out (r2.toNat / 268435456) (by have := r2.isLt; omega)
        have i2 : ((r2.toNat : Int) / 268435456).toNat = r2.toNat / 268435456 := by omega
        have j2 : (r2.toNat : Int) / 268435456 < 16 := by have := r2.isLt; omega
        generalize Crc.steps 4 r2 = r3 at *
        have HN := Lib.hid hnx
        generalize (Crc.tab.getD (r1.toNat / 268435456) 0#32).toNat = T1 at *
        generalize (Crc.tab.getD (r2.toNat / 268435456) 0#32).toNat = T2 at *
        have HR1 := Lib.hid r1.isLt
        generalize r.toNat = R at *
        generalize r1.toNat = R1 at *
        generalize r2.toNat = R2 at *
        clear hnx hm htk
        go_wp2
        go_round
        case rel => exact ⟨k + 1, by omega, by go_num, by rw [HN.out]⟩
        case measure => simp [intOf]; omega
      · obtain rfl : k = zs.length := by omega
        rw [List.take_length]
        go_wp2
        go_ret
        exact ⟨ret_int HSE.out, rfl⟩

set_option maxHeartbeats 400000 in
theorem rsum_any (v : Value) (zs : List Int) (w : World) (hs : Sl .u8 w v zs) :
    Calls Tryz.prog 21 #[v] w fun e w' => e = .returned (.int .u32 (Crc.sum zs)) ∧ w = w' := by
  have HW := Lib.hid hs.wf
  rcases cases8 hs with ⟨a, cap, rfl, rfl⟩ | ⟨b, off, cap, rfl, h0, hlc, hcm, hlt, hc⟩
  · clear hs
    go_enter Tryz.func21, Tryz.ntmps21
    go_wp2
    refine wp_loop_rounds 1 ?_
    rw [rounds_succ]
    go_wp2
    go_ret
    exact ⟨rfl, rfl⟩
  · have HC := Lib.hid hc
    have HSE := Lib.hid (xend (Crc.crc Crc.start zs))
    clear hc hs
    go_enter Tryz.func21, Tryz.ntmps21
    go_wp2
    go_loop [3, 9] (fun r i => ∃ k : Nat, k ≤ zs.length ∧ i = .int .i64 k ∧ r = .int .u32 (Crc.crc Crc.start (zs.take k)).toNat) (fun _ i => zs.length - (intOf i).toNat)
    case atStart => exact ⟨0, Nat.zero_le _, rfl, rfl⟩
    case round =>
      obtain ⟨k, hk, rfl, rfl⟩ := hrel
      by_cases hlt2 : k < zs.length
      · have hcx := HC.out k hlt2
        obtain ⟨hm, htk⟩ := ugetD hlt2
        obtain ⟨hb0, hb1⟩ := bounds_u8 (HW.out _ hm)
        generalize zs.getD k 0 = z at *
        have hnx : (Crc.crc Crc.start (zs.take (k + 1))) = Crc.feed (Crc.crc Crc.start (zs.take k)) z := by rw [htk, Crc.crc_snoc]
        generalize Crc.crc Crc.start (zs.take k) = r at *
        unfold Crc.feed at hnx
        have e1 := x1 r hb0 hb1
        generalize r ^^^ (BitVec.ofNat 32 z.toNat <<< 24) = r1 at *
        have HN := Lib.hid hnx
        clear hnx hm htk
        go_wp2
        go_loop [3, 18] (fun q i => ∃ j : Nat, j ≤ 8 ∧ i = .int .i64 j ∧ q = .int .u32 (Crc.steps j r1).toNat) (fun _ i => 8 - (intOf i).toNat)
        case atStart => exact ⟨0, Nat.zero_le _, rfl, rfl⟩
        case round =>
          obtain ⟨j, hj, rfl, rfl⟩ := hrel
          clear e1 hcx
          by_cases hlt3 : j < 8
          · have hst : Crc.steps (j + 1) r1 = Crc.step (Crc.steps j r1) := rfl
            generalize Crc.steps j r1 = q at *
            have HST := Lib.hid hst
            clear hst
            have hq := q.isLt
            by_cases hhi : 2147483648 ≤ q.toNat
            · have e2 := xhi hhi
              have e3 : ((q.toNat : Int) / 2147483648 == 1) = true := beq_iff_eq.2 (by omega)
              clear hq hhi
              go_wp2
              go_round
              case rel => exact ⟨j + 1, by omega, by go_num, by rw [HST.out]⟩
              case measure => simp [intOf]; omega
            · have e2 := xlo (show q.toNat < 2147483648 by omega)
              have e3 : ((q.toNat : Int) / 2147483648 == 1) = false := beq_eq_false_iff_ne.2 (by omega)
              have HE2 := Lib.hid e2
              clear hq hhi e2
              go_wp2
              go_round
              case rel => exact ⟨j + 1, by omega, by go_num, by rw [HST.out, ← HE2.out]⟩
              case measure => simp [intOf]; omega
          · obtain rfl : j = 8 := by omega
            go_wp2
            go_round
            case rel => exact ⟨k + 1, by omega, by go_num, by rw [HN.out]⟩
            case measure => simp [intOf]; omega
      · obtain rfl : k = zs.length := by omega
        rw [List.take_length]
        go_wp2
        go_ret
        exact ⟨ret_int HSE.out, rfl⟩
end Oc
end Go.Proofs.YtlfaiemebfkajaaGreatDoor
