/- The document's Open. No condition. -/
import Derived.Test.YtkncjmppilhdlaaDoorFrC
import Derived.BigRegion
namespace Go.Proofs.YtkncjmppilhdlaaDoor
open Go.ChangeShapes Go.WideShapes Go.ChangeAt Go.RowKit
set_option linter.unusedVariables false
namespace Fr
theorem take_cat (zs : List Int) (a n : Nat) : zs.take (a + n) = zs.take a ++ (zs.drop a).take n := List.take_add
theorem head4 {zs : List Int} (h : 4 ≤ zs.length) : zs.take 4 = [zs.getD 0 0, zs.getD 1 0, zs.getD 2 0, zs.getD 3 0] := by
  match zs, h with
  | a :: b :: c :: d :: r, _ => rfl
/-- of a right head: its body's frame is what stands there just if the sum is right -/
theorem seal_iff {zs : List Int} (hb : ∀ i, i < zs.length → 0 ≤ zs.getD i 0 ∧ zs.getD i 0 ≤ 255) (h4 : 4 ≤ zs.length) (hok : okHead zs) (hl : lenOf zs + 8 ≤ zs.length) :
    sealL ((zs.drop 4).take (lenOf zs)) = zs.take (8 + lenOf zs) ↔ (zs.drop (4 + lenOf zs)).take 4 = be4 (Crc.sum (zs.take (4 + lenOf zs))) := by
  have b0 := hb 0 (by omega)
  have b1 := hb 1 (by omega)
  have b2 := hb 2 (by omega)
  have b3 := hb 3 (by omega)
  have hlen : ((zs.drop 4).take (lenOf zs)).length = lenOf zs := by rw [List.length_take, List.length_drop]; omega
  have hhd : hd (lenOf zs) = zs.take 4 := by
    rw [head4 h4]
    obtain ⟨k1, k2, k3⟩ := hok
    unfold hd lenOf
    generalize zs.getD 0 0 = z0 at *
    generalize zs.getD 1 0 = z1 at *
    generalize zs.getD 2 0 = z2 at *
    generalize zs.getD 3 0 = z3 at *
    simp only [List.cons.injEq, and_true]
    omega
  unfold sealL
  rw [hlen, hhd, ← take_cat, show 8 + lenOf zs = (4 + lenOf zs) + 4 by omega, take_cat zs (4 + lenOf zs) 4]
  constructor
  · intro h
    exact (List.append_cancel_left h).symm
  · intro h
    rw [h]
theorem opened_yes8 {zs xs : List Int} {w w' : World} {v : Value} {N : Nat} (h : Opens zs xs (N + 8) 0) (ho : Own w' w.heap.size v xs) (hs : Sl .u8 w' v xs) (hb : Below w.heap.size w w') : Opened zs w (.returned (.tuple #[v, .int .i64 (8 + (N : Int)), .int .i64 0])) w' :=
  ⟨v, xs, N + 8, 0, by rw [show (8 + (N : Int)) = ((N + 8 : Nat) : Int) by omega], h, ho, hs, hb⟩
set_option maxHeartbeats 2000000 in
theorem ropen_any (v : Value) (zs : List Int) (w : World) (hs : Sl .u8 w v zs) (hbig8 : zs.length ≤ 140737488351232) :
    Calls Tryd.prog 13 #[v] w (Opened zs w) := by
  by_cases h4 : zs.length < 4
  · have HO := Lib.hid (Opens.short4 h4)
    obtain ⟨a, cap, rfl, -⟩ := id hs
    clear hs
    go_enter Tryd.func13, Tryd.ntmps13
    go_wp2
    go_ret3
    exact opened_no HO.out (Below.refl _ _)
  have h4' : 4 ≤ zs.length := by omega
  have HWF := Lib.hid hs.wf
  have HS := Lib.hid hs
  rcases Oc.cases8 hs with ⟨a, cap, rfl, hnil⟩ | ⟨b, off, cap, rfl, h0, hlc, hcm, hlt, hc⟩
  · subst hnil; simp at h4
  have c0 : w.cell? ⟨b, off, none⟩ = some (.int .u8 (zs.getD 0 0)) := hc 0 (by omega)
  have c1 := hc 1 (by omega)
  have c2 := hc 2 (by omega)
  have c3 := hc 3 (by omega)
  have bd : ∀ i, i < zs.length → 0 ≤ zs.getD i 0 ∧ zs.getD i 0 ≤ 255 := fun i hi => bounds_u8 (hs.wf _ (Oc.ugetD hi).1)
  obtain ⟨p0, q0⟩ := bd 0 (by omega)
  obtain ⟨p1, q1⟩ := bd 1 (by omega)
  obtain ⟨p2, q2⟩ := bd 2 (by omega)
  obtain ⟨p3, q3⟩ := bd 3 (by omega)
  have HIFF := Lib.hid (seal_iff bd h4')
  have hOK : okHead zs ↔ (zs.getD 0 0 + zs.getD 2 0 = 255 ∧ zs.getD 1 0 + zs.getD 3 0 = 255 ∧ zs.getD 2 0 * 256 + zs.getD 3 0 ≤ 8192) := Iff.rfl
  have hLN : lenOf zs = (zs.getD 2 0 * 256 + zs.getD 3 0).toNat := rfl
  have HNOK := Lib.hid (fun h => Opens.form h4' h : ¬ okHead zs → Opens zs [] 0 11)
  generalize zs.getD 0 0 = z0 at *
  generalize zs.getD 1 0 = z1 at *
  generalize zs.getD 2 0 = z2 at *
  generalize zs.getD 3 0 = z3 at *
  have g1 : (3 : Int) < (zs.length : Int) := by omega
  have g2 : (2 : Int) < (zs.length : Int) := by omega
  have g3 : (1 : Int) < (zs.length : Int) := by omega
  have g4 : (0 : Int) < (zs.length : Int) := by omega
  have s1 : IntKind.i64.wrap (256 * z2) = 256 * z2 := by rw [IntKind.wrap_i64]; omega
  have s2 : IntKind.i64.wrap (256 * z2 + z3) = 256 * z2 + z3 := by rw [IntKind.wrap_i64]; omega
  have s3 : IntKind.i64.wrap (z0 + z2) = z0 + z2 := by rw [IntKind.wrap_i64]; omega
  have s4 : IntKind.i64.wrap (z1 + z3) = z1 + z3 := by rw [IntKind.wrap_i64]; omega
  clear hs hc bd
  by_cases hA : z0 + z2 = 255
  · have eA : (z0 + z2 != 255) = false := by rw [hA]; rfl
    have eA2 : (z0 + z2 == 255) = true := beq_iff_eq.2 hA
    by_cases hB : z1 + z3 = 255
    · have eB : (z1 + z3 != 255) = false := by rw [hB]; rfl
      have eB2 : (z1 + z3 == 255) = true := beq_iff_eq.2 hB
      by_cases hbig : 8192 < 256 * z2 + z3
      · have HN := Lib.hid (HNOK.out (fun h => by have := (hOK.1 h).2.2; omega))
        clear hOK hLN hA hB
        go_enter Tryd.func13, Tryd.ntmps13
        go_wp2_with fail
        go_quiet (fail)
        go_wp2_with fail
        go_quiet (fail)
        go_wp2
        go_ret3
        first | exact opened_no HN.out (below_drewN _ _) | exact opened_no HN.out ((below_drewN _ _).trans (below_drewN _ _))
      · have HOK := Lib.hid (hOK.2 ⟨hA, hB, by omega⟩)
        have hbd : decide (8192 < 256 * z2 + z3) = false := decide_eq_false hbig
        obtain ⟨N, hN⟩ : ∃ N : Nat, 256 * z2 + z3 = N := ⟨(256 * z2 + z3).toNat, by omega⟩
        have hLN2 : lenOf zs = N := by rw [hLN]; omega
        have HLN := Lib.hid hLN2
        have HN8 := Lib.hid hN
        have hN8 : N ≤ 8192 := by omega
        have HIF2 := Lib.hid (HIFF.out HOK.out)
        clear hOK hLN hLN2 hbig hA hB hN
        by_cases hsh : zs.length < N + 8
        · have HN := Lib.hid (Opens.short h4' HOK.out (by rw [HLN.out]; exact hsh))
          go_enter Tryd.func13, Tryd.ntmps13
          go_wp2_with fail
          go_quiet (fail)
          go_wp2_with fail
          go_quiet (fail)
          rw [HN8.out]
          clear eA eA2 eB eB2 hbd s1 s2 s3 s4
          go_wp2
          go_ret3
          first | exact opened_no HN.out (below_drewN _ _) | exact opened_no HN.out ((below_drewN _ _).trans (below_drewN _ _))
        · have f1 : N + 8 ≤ zs.length := by omega
          have HMID := Lib.hid (fun (w' : World) (h : Sl .u8 w' (.slice (some ⟨b, off, none⟩) zs.length cap) zs) => sub_plain h 4 N (by omega))
          have HPRE := Lib.hid (fun (w' : World) (h : Sl .u8 w' (.slice (some ⟨b, off, none⟩) zs.length cap) zs) => h.take (8 + N) (by omega))
          have hml : ((zs.drop 4).take N).length = N := by rw [List.length_take, List.length_drop]; omega
          have HML := Lib.hid hml
          have hmw : ∀ z ∈ (zs.drop 4).take N, (Lit.int .u8 z).wf = true := fun z hz => HWF.out z (List.mem_of_mem_drop (List.mem_of_mem_take hz))
          have HMW := Lib.hid hmw
          have HPW := Lib.hid (fun z hz => HWF.out z (List.mem_of_mem_take hz) : ∀ z ∈ zs.take (8 + N), (Lit.int .u8 z).wf = true)
          clear hsh hml hmw
          go_enter Tryd.func13, Tryd.ntmps13
          go_wp2_with fail
          go_quiet (fail)
          go_wp2_with fail
          go_quiet (fail)
          rw [HN8.out]
          clear eA eA2 eB eB2 hbd s1 s2 s3 s4 c0 c1 c2 c3 g1 g2 g3 g4
          generalize hw1 : World.drewN (World.drewN w _) _ = w1
          have hb1 : Below w.heap.size w w1 := by rw [← hw1]; exact (below_drewN _ _).trans (below_drewN _ _)
          have HB1 := Lib.hid hb1
          have HS1 := Lib.hid (HS.out.below hb1 (Nat.le_refl _))
          have t1 : (4 + (N : Int)).toNat = 4 + N := by omega
          have t2 : 4 + N - 4 = N := by omega
          clear hb1 hw1
          go_wp2_with (at_builtin; refine app8 rfl (.const (.slice none 0 0)) (.tmp 57) rfl w1.heap.size _ [] rfl (Own.nil _ _) _ ((zs.drop 4).take N) rfl (HMID.out _ HS1.out) (by simp; omega) (Nat.le_refl _) ?_; intro v2 w2 hown2 hb2; rw [List.nil_append] at hown2; have HOW2 := Lib.hid hown2; have HS2 := Lib.hid (hown2.sl HMW.out); have HB2 := Lib.hid hb2; obtain ⟨a2, n2, c2, hv2⟩ := own_form8 hown2; subst hv2; clear hown2 hb2)
          refine (rseal_any _ _ _ HS2.out (by rw [HML.out]; exact hN8)).mono ?_
          rintro e w3 ⟨v3, rfl, hown3, hs3, hb3⟩
          obtain ⟨a3, n3, c3, hv3⟩ := own_form8 hown3
          subst hv3
          have HB3 := Lib.hid (HB2.out.trans (hb3.mono HB2.out.size))
          have hp3 := HPRE.out _ (HS1.out.below HB3.out (Nat.le_refl _))
          have r1 := run_str (hs3.below ((Below.refl _ _).drew : Below w3.heap.size w3 w3.drew) (Nat.le_refl _))
          have r2 := run_str (hp3.below ((Below.refl _ _).drew : Below w3.heap.size w3 w3.drew) (Nat.le_refl _))
          have HSTR := Lib.hid (str_eq (sealL_wf (by rw [HML.out]; exact hN8) HMW.out) HPW.out)
          have HOW3 := Lib.hid (HOW2.out.below hb3 (Nat.le_refl _))
          clear hown3 hs3 hb3 hp3
          have t3 : (8 + (N : Int)).toNat = 8 + N := by omega
          have t4 : 0 ≤ 8 + (N : Int) := by omega
          have t5 : 8 + (N : Int) ≤ (cap : Int) := by omega
          have t6 : IntKind.i64.wrap (8 + (N : Int)) = 8 + (N : Int) := by rw [IntKind.wrap_i64]; omega
          have hstr := HSTR.out
          clear HSTR
          cases hd : decide (sealL ((zs.drop 4).take N) = zs.take (8 + N)) with
          | false =>
            have HNN := Lib.hid (Opens.sum h4' HOK.out (by rw [HLN.out]; exact f1) (fun h => by have := HIF2.out (by rw [HLN.out]; exact f1); rw [HLN.out] at this; exact absurd (this.2 (by rw [HLN.out] at h; exact h)) (of_decide_eq_false hd)))
            rw [hd] at hstr
            have hstr2 : (!((strOfNums (sealL ((zs.drop 4).take N))).toList == (strOfNums (zs.take (8 + N))).toList)) = true := by rw [hstr]; rfl
            clear hd
            go_wp2_with fail
            go_region
            go_wp2
            go_ret3
            exact opened_no HNN.out (HB1.out.trans ((HB3.out.mono HB1.out.size).drew))
          | true =>
            have HNN := Lib.hid (Opens.ok h4' HOK.out (by rw [HLN.out]; exact f1) (by have := HIF2.out (by rw [HLN.out]; exact f1); rw [HLN.out] at this; rw [HLN.out]; exact this.1 (of_decide_eq_true hd)))
            have HNE : Hid (Opens zs ((zs.drop 4).take N) (N + 8) 0) := Lib.hid (by have := HNN.out; rwa [HLN.out] at this)
            rw [hd] at hstr
            have hstr2 : (!((strOfNums (sealL ((zs.drop 4).take N))).toList == (strOfNums (zs.take (8 + N))).toList)) = false := by rw [hstr]; rfl
            clear hd
            go_wp2_with fail
            go_region
            go_wp2
            go_ret3
            exact opened_yes8 HNE.out ((HOW3.out.below ((Below.refl _ _).drew : Below w3.heap.size w3 w3.drew) (Nat.le_refl _)).mono HB1.out.size) ((HOW3.out.below ((Below.refl _ _).drew : Below w3.heap.size w3 w3.drew) (Nat.le_refl _)).sl HMW.out) (HB1.out.trans ((HB3.out.mono HB1.out.size).drew))
    · have HN := Lib.hid (HNOK.out (fun h => hB (hOK.1 h).2.1))
      have eB : (z1 + z3 != 255) = true := bne_iff_ne.2 hB
      have eB2 : (z1 + z3 == 255) = false := beq_eq_false_iff_ne.2 hB
      clear hOK hLN hA hB
      go_enter Tryd.func13, Tryd.ntmps13
      go_wp2_with fail
      go_quiet (fail)
      go_wp2_with fail
      go_quiet (fail)
      go_wp2
      go_ret3
      first | exact opened_no HN.out (below_drewN _ _) | exact opened_no HN.out ((below_drewN _ _).trans (below_drewN _ _))
  · have HN := Lib.hid (HNOK.out (fun h => hA (hOK.1 h).1))
    have eA : (z0 + z2 != 255) = true := bne_iff_ne.2 hA
    have eA2 : (z0 + z2 == 255) = false := beq_eq_false_iff_ne.2 hA
    clear hOK hLN hA
    go_enter Tryd.func13, Tryd.ntmps13
    go_wp2_with fail
    go_quiet (fail)
    go_wp2_with fail
    go_quiet (fail)
    go_wp2
    go_ret3
    first | exact opened_no HN.out (below_drewN _ _) | exact opened_no HN.out ((below_drewN _ _).trans (below_drewN _ _))
end Fr
end Go.Proofs.YtkncjmppilhdlaaDoor
