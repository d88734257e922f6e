/- Lists of nodes: the document's own Check, and whether two lists are the same. No condition. -/
import Derived.Test.YtlkmdoddgfmnbaaNodA
import Derived.Deep.QuietTactic
import Derived.BigQuiet
import Derived.WalkSmall
namespace Go.Proofs.Ytlkmdoddgfmnbaa
open Go.ChangeShapes Go.WideShapes Go.ChangeAt Go.RowKit
set_option linter.unusedVariables false
set_option maxRecDepth 100000
namespace Nd

set_option maxHeartbeats 400000 in
theorem rcheck_any (v : Value) (zs : List Int) (w : World) (hs : Sl .i64 w v zs) :
    Calls Try.prog 62 #[v] w fun e w' => e = .returned (.int .i64 (errOf (chk zs))) ∧ w = w' := by
  rcases Sl.cases hs with ⟨a, cap, rfl, rfl⟩ | ⟨b, off, cap, rfl, h0, hlc, hcm, hlt, hc⟩
  · clear hs
    go_enter Try.func62, Try.ntmps62
    go_wp2
    go_ret
    exact ⟨rfl, rfl⟩
  · have HK := Lib.hid (chk_of h0)
    have HC := Lib.hid hc
    have hne : ((zs.length : Int) == 0) = false := beq_eq_false_iff_ne.2 (by omega)
    clear hs hc
    go_enter Try.func62, Try.ntmps62
    go_wp2
    go_loop [10] (fun i => ∃ k : Nat, ∃ last : Int, k ≤ zs.length ∧ i = .int .i64 k ∧ Hid (okFrom 0 zs = okFrom last (zs.drop k)) ∧ 0 ≤ last ∧ Hid ((k = 0 → last = 0) ∧ (0 < k → last = zs.getD (k - 1) 0))) (fun i => zs.length - (intOf i).toNat)
    case atStart => exact ⟨0, 0, Nat.zero_le _, rfl, Lib.hid rfl, Int.le_refl _, Lib.hid ⟨fun _ => rfl, fun h => absurd h (by omega)⟩⟩
    case round =>
      obtain ⟨k, last, hk, rfl, HO, hl0, HP⟩ := hrel
      by_cases hlt2 : k < zs.length
      · have hcx := HC.out k hlt2
        have HD := Lib.hid (drop_get hlt2)
        obtain ⟨z, hz⟩ : ∃ z, z = zs.getD k 0 := ⟨_, rfl⟩
        rw [← hz] at hcx HD
        have HZ := Lib.hid hz
        clear hz
        have hgood : ∀ (h : 1 ≤ z ∧ z ≤ 7 ∧ last < z), okFrom 0 zs = okFrom z (zs.drop (k + 1)) := fun h => by rw [HO.out, HD.out, okFrom_good h]
        have hbad : ∀ (h : ¬ (1 ≤ z ∧ z ≤ 7 ∧ last < z)), errOf (chk zs) = 1 := fun h => by rw [HK.out, HO.out, HD.out, okFrom_bad h]; rfl
        have HG := Lib.hid hgood
        have HB := Lib.hid hbad
        clear hgood hbad
        by_cases h1 : z < 1
        · have HE := Lib.hid (HB.out (by omega))
          go_wp2
          go_ret
          exact ⟨by rw [HE.out]; rfl, rfl⟩
        by_cases h7 : 7 < z
        · have HE := Lib.hid (HB.out (by omega))
          go_wp2
          go_ret
          exact ⟨by rw [HE.out]; rfl, rfl⟩
        rcases Nat.eq_zero_or_pos k with hk0 | hk0
        · subst hk0
          have HO2 := Lib.hid (HG.out ⟨by omega, by omega, by have := HP.out.1 rfl; omega⟩)
          rw [Nat.add_zero] at hcx
          go_wp2
          go_round
          case rel => exact ⟨1, z, by omega, by go_num, HO2, by omega, Lib.hid ⟨fun h => absurd h (by omega), fun _ => HZ.out⟩⟩
          case measure => simp [intOf]; omega
        · have hl := HP.out.2 hk0
          have hcp := HC.out (k - 1) (by omega)
          rw [← hl] at hcp
          have hpos : (0 : Int) < (k : Int) := by omega
          obtain ⟨j, rfl⟩ : ∃ j, k = j + 1 := ⟨k - 1, by omega⟩
          rw [Nat.add_sub_cancel] at hcp
          clear hl
          by_cases hg : last < z
          · have HO2 := Lib.hid (HG.out ⟨by omega, by omega, hg⟩)
            go_wp2
            go_round
            case rel => exact ⟨j + 1 + 1, z, by omega, by go_num, HO2, by omega, Lib.hid ⟨fun h => absurd h (by omega), fun _ => HZ.out⟩⟩
            case measure => simp [intOf]; omega
          · have HE := Lib.hid (HB.out (by omega))
            have hge : z ≤ last := by omega
            clear hg
            go_wp2
            go_ret
            exact ⟨by rw [HE.out]; rfl, rfl⟩
      · obtain rfl : k = zs.length := by omega
        have hO2 := HO.out
        rw [List.drop_length] at hO2
        have hE : errOf (chk zs) = 0 := by rw [HK.out, hO2]; rfl
        have HE := Lib.hid hE
        clear hO2 hE
        go_wp2
        go_ret
        exact ⟨by rw [HE.out]; rfl, rfl⟩

theorem below_drewN {B : Nat} (w : World) (n : Nat) : Below B w (w.drewN n) := ⟨rfl, rfl, rfl, Nat.le_refl _, fun _ _ => rfl⟩

set_option maxHeartbeats 400000 in
theorem same_any (v u : Value) (xs zs : List Int) (w : World) (hx : Sl .i64 w v xs) (hz : Sl .i64 w u zs) :
    Calls Try.prog 63 #[v, u] w fun e w' => e = .returned (.bool (decide (xs = zs))) ∧ Below w.heap.size w w' := by
  by_cases hl : xs.length = zs.length
  · rcases Sl.cases hx with ⟨a, cap, rfl, rfl⟩ | ⟨b, off, cap, rfl, h0, hlc, hcm, hlt, hc⟩
    · have : zs = [] := List.eq_nil_of_length_eq_zero (by simpa using hl.symm)
      subst this
      obtain ⟨a2, cap2, rfl, -⟩ := hz
      clear hx
      go_enter Try.func63, Try.ntmps63
      go_wp2
      refine wp_loop_rounds 1 ?_
      rw [rounds_succ]
      go_wp2
      go_ret
      exact ⟨rfl, Below.refl _ _⟩
    · rcases Sl.cases hz with ⟨a, cap, rfl, rfl⟩ | ⟨b2, off2, cap2, rfl, h02, hlc2, hcm2, hlt2, hc2⟩
      · exact absurd hl (by simp only [List.length_nil]; omega)
      have HX := Lib.hid hc
      have HZ := Lib.hid hc2
      have HL := Lib.hid hl
      rw [← hl] at hlc2 ⊢
      clear hx hz hc hc2 hl
      go_enter Try.func63, Try.ntmps63
      go_wp2
      go_loopw [13] (fun i wr => ∃ k : Nat, k ≤ xs.length ∧ i = .int .i64 k ∧ Hid (xs.take k = zs.take k) ∧ Below w.heap.size w wr) (fun i _ => xs.length - (intOf i).toNat)
      case atStart => exact ⟨0, Nat.zero_le _, rfl, Lib.hid rfl, Below.refl _ _⟩
      case round =>
        obtain ⟨k, hk, rfl, HO, hb⟩ := hrel
        by_cases hlt3 : k < xs.length
        · have hcx := (hb.cell (p := ⟨b, off + k, none⟩) hlt).trans (HX.out k hlt3)
          have hcz := (hb.cell (p := ⟨b2, off2 + k, none⟩) hlt2).trans (HZ.out k (by have := HL.out; omega))
          have HTX := Lib.hid (take_get hlt3)
          have HTZ := Lib.hid (take_get (l := zs) (k := k) (by have := HL.out; omega))
          have HGX := Lib.hid (getD_get hlt3)
          have HGZ := Lib.hid (getD_get (l := zs) (k := k) (by have := HL.out; omega))
          generalize hx : xs.getD k 0 = x at *
          generalize hz : zs.getD k 0 = z at *
          have HEX := Lib.hid hx
          have HEZ := Lib.hid hz
          clear hx hz
          have hkz : (k : Int) < (xs.length : Int) := by omega
          by_cases hxz : x = z
          · subst hxz
            have HO2 : Hid (xs.take (k + 1) = zs.take (k + 1)) := Lib.hid (by rw [HTX.out, HTZ.out, HO.out])
            go_wp2
            go_quiet (fail)
            go_wp2
            go_roundw
            case rel => exact ⟨k + 1, by omega, by go_num, HO2, hb.trans (below_drewN _ _)⟩
            case measure => simp [intOf]; omega
          · have hB : decide (xs = zs) = false := decide_eq_false fun h => hxz (by rw [← HEX.out, ← HEZ.out, h])
            have HB := Lib.hid hB
            have hxz2 : (x != z) = true := by rw [bne_iff_ne]; exact hxz
            clear hxz hB
            go_wp2
            go_quiet (fail)
            go_wp2
            go_ret
            exact ⟨ret_bool HB.out.symm, hb.trans (below_drewN _ _)⟩
        · obtain rfl : k = xs.length := by omega
          have hE : xs = zs := by
            have := HO.out
            rwa [List.take_length, HL.out, List.take_length] at this
          have HB := Lib.hid (decide_eq_true hE)
          clear hE
          go_wp2
          go_ret
          exact ⟨ret_bool HB.out.symm, hb⟩
  · have HB := Lib.hid (decide_eq_false (fun h : xs = zs => hl (by rw [h])))
    have hne : ((xs.length : Int) == (zs.length : Int)) = false := beq_eq_false_iff_ne.2 (by omega)
    have hne2 : ((xs.length : Int) != (zs.length : Int)) = true := by rw [bne_iff_ne]; omega
    obtain ⟨a, cap, rfl, -⟩ := hx
    obtain ⟨a2, cap2, rfl, -⟩ := hz
    clear hl
    go_enter Try.func63, Try.ntmps63
    go_wp2
    go_ret
    exact ⟨ret_bool HB.out.symm, Below.refl _ _⟩
end Nd
end Go.Proofs.Ytlkmdoddgfmnbaa
