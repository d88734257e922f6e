/- bytes.Equal and bytes.Clone. No condition. frame.Open. Condition: the table octet.steps. The document's Open. No condition. -/
import Derived.Test.YtbdjihmgdkailaaDoorS8
import Derived.Lib.Bytes
import Derived.Test.YtbdjihmgdkailaaDoorFrM
import Derived.Deep.QuietTactic
import Derived.BigQuiet
import Derived.Deep.RegionWith
import Derived.IntWalk
import Derived.BigRegion
namespace Go.Proofs.YtbdjihmgdkailaaDoor
open Go.ChangeShapes Go.WideShapes Go.ChangeAt Go.RowKit
set_option linter.unusedVariables false
set_option maxRecDepth 100000
namespace Fr
theorem bytes_inj : ∀ (xs ys : List Int), (∀ x ∈ xs, (Lit.int .u8 x).wf = true) → (∀ y ∈ ys, (Lit.int .u8 y).wf = true) → Lib.bytesOf xs = Lib.bytesOf ys → xs = ys
  | [], [], _, _, _ => rfl
  | [], y :: ys, _, _, h => by simp [Lib.bytesOf] at h
  | x :: xs, [], _, _, h => by simp [Lib.bytesOf] at h
  | x :: xs, y :: ys, hx, hy, h => by
    simp only [Lib.bytesOf, List.map_cons, List.cons.injEq] at h
    have b1 := bounds_u8 (hx x (by simp))
    have b2 := bounds_u8 (hy y (by simp))
    have e : x.toNat = y.toNat := by
      have h2 := congrArg UInt8.toNat h.1
      simp only [UInt8.toNat_ofNat'] at h2
      omega
    have e2 : x = y := by omega
    rw [e2, bytes_inj xs ys (fun z hz => hx z (by simp [hz])) (fun z hz => hy z (by simp [hz])) h.2]
theorem str_eq {xs ys : List Int} (hx : ∀ x ∈ xs, (Lit.int .u8 x).wf = true) (hy : ∀ y ∈ ys, (Lit.int .u8 y).wf = true) : ((strOfNums xs).toList == (strOfNums ys).toList) = decide (xs = ys) := by
  rw [Lib.strOfNums_toList, Lib.strOfNums_toList]
  by_cases h : xs = ys
  · subst h; simp
  · rw [decide_eq_false h]
    exact beq_eq_false_iff_ne.2 fun e => h (bytes_inj xs ys hx hy e)
theorem equal_any (v u : Value) (xs ys : List Int) (w : World) (hs : Sl .u8 w v xs) (hu : Sl .u8 w u ys) :
    Calls Tryd.prog 57 #[v, u] w fun e w' => e = .returned (.bool (decide (xs = ys))) ∧ w = w' := by
  have h1 := run_str hs
  have h2 := run_str hu
  have HE := Lib.hid (str_eq hs.wf hu.wf)
  clear hs hu
  go_enter Tryd.func57, Tryd.ntmps57
  go_wp2
  go_ret
  exact ⟨ret_bool HE.out, rfl⟩
def Cloned8 (zs : List Int) (w : World) (e : Ending) (w' : World) : Prop := ∃ u, e = .returned u ∧ Own w' w.heap.size u zs ∧ Sl .u8 w' u zs ∧ Below w.heap.size w w'
set_option maxHeartbeats 400000 in
theorem clone8_any (zs : List Int) (v : Value) (w : World) (h : Sl .u8 w v zs) (hb8 : zs.length ≤ 140737488351232) :
    Calls Tryd.prog 58 #[v] w (Cloned8 zs w) := by
  have HWF := Lib.hid h.wf
  have HS := Lib.hid (fun A => h.below ((Below.refl w.heap.size w).alloc (Nat.le_refl _) (.cells A 5)) (Nat.le_refl _))
  obtain ⟨a, cap, rfl, h1, h2, hwf, h4⟩ := h
  rcases h4 with ⟨rfl, rfl, hnil⟩ | ⟨b, off, sp, rfl, h5⟩
  · subst hnil
    clear HS
    have hq : ∀ w' : World, (binOp BinOp.eql 33 (.slice none 0 0) (.slice none 0 0)).run Tryd.prog w' = .ok (.bool true) w' := fun _ => by first | kernel_rfl | rfl
    go_enter Tryd.func58, Tryd.ntmps58
    go_wp2
    go_ret
    exact ⟨_, rfl, Own.nil _ _, (Own.nil w 0).sl (by simp), Below.refl _ _⟩
  · clear h5
    have hq : ∀ w' : World, (binOp BinOp.eql 33 (.slice (some ⟨b, off, sp⟩) zs.length cap) (.slice none 0 0)).run Tryd.prog w' = .ok (.bool false) w' := fun _ => by first | kernel_rfl | rfl
    go_enter Tryd.func58, Tryd.ntmps58
    go_wp2_with (at_builtin; (refine app8 rfl _ _ rfl w.heap.size _ [] rfl (OwnK.newAt (k := .u8) (e := 5) w w.heap.size rfl #[] [] rfl rfl (by decide) (Nat.le_refl _)) _ zs rfl (HS.out _) (by simp; omega) (by simp) ?_; intro v1 w1 hown1 hb1; rw [List.nil_append] at hown1))
    go_ret
    exact ⟨_, rfl, hown1, hown1.sl HWF.out, ((Below.refl _ _).alloc (Nat.le_refl _) _).trans hb1⟩
end Fr
end Go.Proofs.YtbdjihmgdkailaaDoor
namespace Go.Proofs.YtbdjihmgdkailaaDoor
open Go.ChangeShapes Go.WideShapes Go.ChangeAt Go.RowKit
set_option linter.unusedVariables false
set_option maxRecDepth 100000
namespace Fr
theorem quiet_mine {P : Program} {f : FuncId} {args : Array Value} {w : World} {n : Nat} {v : Value}
    (h : Calls P f args (w.drewN n) fun e w' => e = .returned v ∧ w.drewN n = w') : Calls P f args (w.drewN n) fun e w'' => e = .returned v ∧ ∃ m, w'' = w.drewN m :=
  h.mono fun _ _ ⟨he, hm⟩ => ⟨he, n, hm.symm⟩
theorem quiet_mine2 {P : Program} {f : FuncId} {args : Array Value} {w : World} {a n : Nat} {v : Value}
    (h : Calls P f args (w.drewN (a + n)) fun e w' => e = .returned v ∧ w.drewN (a + n) = w') : Calls P f args (w.drewN (a + n)) fun e w'' => e = .returned v ∧ ∃ m, w'' = w.drewN (a + m) :=
  h.mono fun _ _ ⟨he, hm⟩ => ⟨he, n, hm.symm⟩
theorem below_drewN {B : Nat} (w : World) (n : Nat) : Below B w (w.drewN n) := ⟨rfl, rfl, rfl, Nat.le_refl _, fun _ _ => rfl⟩
theorem number_any (h l : Int) (h0 : 0 ≤ h) (h1 : h ≤ 255) (l0 : 0 ≤ l) (l1 : l ≤ 255) (w : World) : Calls Tryd.prog 56 #[.int .u8 h, .int .u8 l] w fun e w' => e = .returned (.int .i64 (h * 256 + l)) ∧ w = w' := by
  have e := num_or h0 h1 l0 l1
  go_enter Tryd.func56, Tryd.ntmps56
  go_wp2
  go_ret
  exact ⟨rfl, rfl⟩
theorem inv_if {x : Int} (h0 : 0 ≤ x) (h1 : x ≤ 255) : bits BinOp.xor .u8 (if IntKind.u8.signed = true then -1 else IntKind.u8.max) x = 255 - x := by
  have h3 : (if IntKind.u8.signed = true then (-1 : Int) else IntKind.u8.max) = IntKind.u8.max := by decide
  rw [h3, inv_byte h0 h1]
theorem number_inv (h l : Int) (h0 : 0 ≤ h) (h1 : h ≤ 255) (l0 : 0 ≤ l) (l1 : l ≤ 255) (w : World) : Calls Tryd.prog 56 #[.int .u8 (bits BinOp.xor .u8 (if IntKind.u8.signed = true then -1 else IntKind.u8.max) h), .int .u8 (bits BinOp.xor .u8 (if IntKind.u8.signed = true then -1 else IntKind.u8.max) l)] w fun e w' => e = .returned (.int .i64 ((255 - h) * 256 + (255 - l))) ∧ w = w' := by
  rw [inv_if h0 h1, inv_if l0 l1]
  exact number_any _ _ (by omega) (by omega) (by omega) (by omega) w
theorem sub_plain {w : World} {b off len cap : Nat} {zs : List Int} (h : Sl .u8 w (.slice (some ⟨b, off, none⟩) len cap) zs) (i n : Nat) (hm : i + n ≤ zs.length) : Sl .u8 w (.slice (some ⟨b, off + i, none⟩) n (cap - i)) ((zs.drop i).take n) := by
  have := h.sub i n hm
  rwa [add_plain] at this
/-- what Open comes to: the body, how many bytes it takes, the error -/
def okHead (zs : List Int) : Prop := zs.getD 0 0 + zs.getD 2 0 = 255 ∧ zs.getD 1 0 + zs.getD 3 0 = 255 ∧ zs.getD 2 0 * 256 + zs.getD 3 0 ≤ 8192
def lenOf (zs : List Int) : Nat := (zs.getD 2 0 * 256 + zs.getD 3 0).toNat
inductive Opens (zs : List Int) : List Int → Nat → Int → Prop
  | short4 : zs.length < 4 → Opens zs [] 0 10
  | form : 4 ≤ zs.length → ¬ okHead zs → Opens zs [] 0 11
  | short : 4 ≤ zs.length → okHead zs → zs.length < lenOf zs + 8 → Opens zs [] 0 10
  | sum : 4 ≤ zs.length → okHead zs → lenOf zs + 8 ≤ zs.length → (zs.drop (4 + lenOf zs)).take 4 ≠ be4 (Crc.sum (zs.take (4 + lenOf zs))) → Opens zs [] 0 70
  | ok : 4 ≤ zs.length → okHead zs → lenOf zs + 8 ≤ zs.length → (zs.drop (4 + lenOf zs)).take 4 = be4 (Crc.sum (zs.take (4 + lenOf zs))) → Opens zs ((zs.drop 4).take (lenOf zs)) (lenOf zs + 8) 0
theorem Opens.eq {zs xs ys : List Int} {k j : Nat} {e f : Int} (h : Opens zs xs k e) (g : Opens zs ys j f) : xs = ys ∧ k = j ∧ e = f := by
  cases h <;> cases g <;> first | exact ⟨rfl, rfl, rfl⟩ | (exfalso; omega) | (exfalso; contradiction)
/-- what it hands back: the body, the call's own -/
def Opened (zs : List Int) (w : World) (e : Ending) (w' : World) : Prop := ∃ v xs k er, e = .returned (.tuple #[v, .int .i64 (k : Nat), .int .i64 er]) ∧ Opens zs xs k er ∧ Own w' w.heap.size v xs ∧ Sl .u8 w' v xs ∧ Below w.heap.size w w'
theorem opened_no {zs : List Int} {w w' : World} {er : Int} (h : Opens zs [] 0 er) (hb : Below w.heap.size w w') : Opened zs w (.returned (.tuple #[.slice none 0 0, .int .i64 0, .int .i64 er])) w' :=
  ⟨_, [], 0, er, rfl, h, Own.nil _ _, (Own.nil w' w.heap.size).sl (by simp), hb⟩
theorem opened_yes {zs xs : List Int} {w w' : World} {v : Value} {N : Nat} (h : Opens zs xs (N + 8) 0) (ho : Own w' w.heap.size v xs) (hs : Sl .u8 w' v xs) (hb : Below w.heap.size w w') : Opened zs w (.returned (.tuple #[v, .int .i64 (4 + (N : Int) + 4), .int .i64 0])) w' :=
  ⟨v, xs, N + 8, 0, by rw [show (4 + (N : Int) + 4) = ((N + 8 : Nat) : Int) by omega], h, ho, hs, hb⟩
set_option maxHeartbeats 1000000 in
theorem open_any (v : Value) (zs : List Int) (w : World) (hs : Sl .u8 w v zs) (ht : Oc.Tab w) :
    Calls Tryd.prog 27 #[v] w (Opened zs w) := by
  by_cases h4 : zs.length < 4
  · have HO := Lib.hid (Opens.short4 h4)
    obtain ⟨a, cap, rfl, -⟩ := id hs
    clear hs ht
    go_enter Tryd.func27, Tryd.ntmps27
    go_wp2
    go_ret3
    exact opened_no HO.out (Below.refl _ _)
  have h4' : 4 ≤ zs.length := by omega
  have HWF := Lib.hid hs.wf
  have HS := Lib.hid hs
  have HT := Lib.hid ht
  rcases Oc.cases8 hs with ⟨a, cap, rfl, hnil⟩ | ⟨b, off, cap, rfl, h0, hlc, hcm, hlt, hc⟩
  · subst hnil; simp at h4
  have c0 : w.cell? ⟨b, off, none⟩ = some (.int .u8 (zs.getD 0 0)) := hc 0 (by omega)
  have c1 := hc 1 (by omega)
  have c2 := hc 2 (by omega)
  have c3 := hc 3 (by omega)
  have bd : ∀ i, i < zs.length → 0 ≤ zs.getD i 0 ∧ zs.getD i 0 ≤ 255 := fun i hi => bounds_u8 (hs.wf _ (Oc.ugetD hi).1)
  obtain ⟨p0, q0⟩ := bd 0 (by omega)
  obtain ⟨p1, q1⟩ := bd 1 (by omega)
  obtain ⟨p2, q2⟩ := bd 2 (by omega)
  obtain ⟨p3, q3⟩ := bd 3 (by omega)
  have hOK : okHead zs ↔ (zs.getD 0 0 + zs.getD 2 0 = 255 ∧ zs.getD 1 0 + zs.getD 3 0 = 255 ∧ zs.getD 2 0 * 256 + zs.getD 3 0 ≤ 8192) := Iff.rfl
  have hLN : lenOf zs = (zs.getD 2 0 * 256 + zs.getD 3 0).toNat := rfl
  have HNOK := Lib.hid (fun h => Opens.form h4' h : ¬ okHead zs → Opens zs [] 0 11)
  generalize zs.getD 0 0 = z0 at *
  generalize zs.getD 1 0 = z1 at *
  generalize zs.getD 2 0 = z2 at *
  generalize zs.getD 3 0 = z3 at *
  have i0 := inv_byte p0 q0
  have i1 := inv_byte p1 q1
  have g1 : (3 : Int) < (zs.length : Int) := by omega
  have g2 : (2 : Int) < (zs.length : Int) := by omega
  have g3 : (1 : Int) < (zs.length : Int) := by omega
  have g4 : (0 : Int) < (zs.length : Int) := by omega
  clear hs ht hc bd
  by_cases hhd : z0 + z2 = 255 ∧ z1 + z3 = 255
  · have heq : (z2 * 256 + z3 == (255 - z0) * 256 + (255 - z1)) = true := beq_iff_eq.2 (by omega)
    have heq2 : (z2 * 256 + z3 != (255 - z0) * 256 + (255 - z1)) = false := by rw [bne, heq]; rfl
    by_cases hbig : 8192 < z2 * 256 + z3
    · have HN := Lib.hid (HNOK.out (fun h => by have := (hOK.1 h).2.2; omega))
      clear hOK hLN hhd
      go_enter Tryd.func27, Tryd.ntmps27
      go_wp2_with fail
      go_quiet ((go_at_call 56; exact quiet_mine (number_any _ _ p2 q2 p3 q3 _)))
      go_wp2_with fail
      go_quiet ((go_at_call 56; exact quiet_mine2 (number_inv _ _ p0 q0 p1 q1 _)))
      go_wp2
      go_ret3
      exact opened_no HN.out (below_drewN _ _)
    · have HOK := Lib.hid (hOK.2 ⟨hhd.1, hhd.2, by omega⟩)
      have hbg : z2 * 256 + z3 ≤ 8192 := by omega
      have hbd : decide (8192 < z2 * 256 + z3) = false := decide_eq_false hbig
      obtain ⟨N, hN⟩ : ∃ N : Nat, z2 * 256 + z3 = N := ⟨(z2 * 256 + z3).toNat, by omega⟩
      have hLN2 : lenOf zs = N := by rw [hLN, hN]; rfl
      have HLN := Lib.hid hLN2
      have HN8 := Lib.hid hN
      have hN8 : N ≤ 8192 := by omega
      clear hOK hLN hhd hLN2 hbig
      by_cases hsh : zs.length < N + 8
      · have HN := Lib.hid (Opens.short h4' HOK.out (by rw [HLN.out]; exact hsh))
        clear hN
        go_enter Tryd.func27, Tryd.ntmps27
        go_wp2_with fail
        go_quiet ((go_at_call 56; exact quiet_mine (number_any _ _ p2 q2 p3 q3 _)))
        go_wp2_with fail
        go_quiet ((go_at_call 56; exact quiet_mine2 (number_inv _ _ p0 q0 p1 q1 _)))
        rw [HN8.out]
        clear heq heq2 hbd
        go_wp2
        go_ret3
        exact opened_no HN.out (below_drewN _ _)
      · have f1 : N + 8 ≤ zs.length := by omega
        have HPRE := Lib.hid (fun (w' : World) (h : Sl .u8 w' (.slice (some ⟨b, off, none⟩) zs.length cap) zs) => h.take (4 + N) (by omega))
        have HPAT := Lib.hid (fun (w' : World) (h : Sl .u8 w' (.slice (some ⟨b, off, none⟩) zs.length cap) zs) => sub_plain h (4 + N) 4 (by omega))
        have HMID := Lib.hid (fun (w' : World) (h : Sl .u8 w' (.slice (some ⟨b, off, none⟩) zs.length cap) zs) => sub_plain h 4 N (by omega))
        clear hN hsh
        go_enter Tryd.func27, Tryd.ntmps27
        go_wp2_with fail
        go_quiet ((go_at_call 56; exact quiet_mine (number_any _ _ p2 q2 p3 q3 _)))
        go_wp2_with fail
        go_quiet ((go_at_call 56; exact quiet_mine2 (number_inv _ _ p0 q0 p1 q1 _)))
        rw [HN8.out]
        clear heq heq2 hbd c0 c1 c2 c3 i0 i1 g1 g2 g3 g4 hbg
        generalize hw1 : World.drewN w _ = w1
        have hb1 : Below w.heap.size w w1 := by rw [← hw1]; exact below_drewN _ _
        have HB1 := Lib.hid hb1
        have HS1 := Lib.hid (HS.out.below hb1 (Nat.le_refl _))
        have HT1 := Lib.hid (HT.out.below hb1 (Nat.le_refl _))
        have s1 : IntKind.i64.wrap (4 + (N : Int) + 4) = 4 + (N : Int) + 4 := by rw [IntKind.wrap_i64]; omega
        have s2 : (4 + (N : Int)).toNat = 4 + N := by omega
        have s3 : (4 + (N : Int) + 4).toNat = 4 + N + 4 := by omega
        have s4 : 0 ≤ 4 + (N : Int) := by omega
        have s5 : 4 + (N : Int) + 4 ≤ (cap : Int) := by omega
        have s6 : 4 + (N : Int) ≤ 4 + (N : Int) + 4 := by omega
        have s7 : 4 + (N : Int) ≤ (cap : Int) := by omega
        have s8 : 0 ≤ 4 + (N : Int) + 4 := by omega
        clear hb1 hw1
        go_wp2_with fail
        go_region_with (first
          | (go_at_call 37; refine (fsum_any _ (zs.take (4 + N)) _ (HPRE.out _ (HS1.out.below (below_drewN _ _) (Nat.le_refl _))) (HT1.out.below (below_drewN _ _) (Nat.le_refl _))).mono ?_; rintro e w3 ⟨v3, rfl, hown3, hs3, hb3⟩; obtain ⟨a3, n3, c3, hv3⟩ := own_form8 hown3; subst hv3)
          | (go_at_call 57; refine (equal_any _ _ _ _ _ (HPAT.out _ ((HS1.out.below (below_drewN _ _) (Nat.le_refl _)).below hb3 (Nat.le_refl _))) hs3).mono ?_; rintro e w4 ⟨rfl, rfl⟩))
        all_goals
          have hb13 : Below w1.heap.size w1 w3 := (below_drewN _ _).trans hb3
          have HB3 := Lib.hid (HB1.out.trans (hb13.mono HB1.out.size))
          have HM3 := Lib.hid (HMID.out _ (HS1.out.below hb13 (Nat.le_refl _)))
          have t1 : (4 + (N : Int) - 4) = (N : Int) := by omega
          have t2 : 4 + N - 4 = N := by omega
          clear hown3 hs3 hb3 hb13
          cases hd : decide ((zs.drop (4 + N)).take 4 = be4 (Crc.sum (zs.take (4 + N)))) with
          | false =>
            have HN := Lib.hid (Opens.sum h4' HOK.out (by rw [HLN.out]; exact f1) (by rw [HLN.out]; exact of_decide_eq_false hd))
            clear hd
            go_wp2
            go_ret3
            exact opened_no HN.out HB3.out
          | true =>
            have HN := Lib.hid (Opens.ok h4' HOK.out (by rw [HLN.out]; exact f1) (by rw [HLN.out]; exact of_decide_eq_true hd))
            clear hd
            go_wp2_with (go_at_call 58; refine (clone8_any _ _ _ HM3.out (by simp; omega)).mono ?_; rintro e w5 ⟨v5, rfl, hown5, hs5, hb5⟩; obtain ⟨a5, n5, c5, hv5⟩ := own_form8 hown5; subst hv5)
            go_ret3
            have HNE : Hid (Opens zs ((zs.drop 4).take N) (N + 8) 0) := Lib.hid (by have := HN.out; rwa [HLN.out] at this)
            exact opened_yes HNE.out (hown5.mono HB3.out.size) hs5 (HB3.out.trans (hb5.mono HB3.out.size))
  · have HN := Lib.hid (HNOK.out (fun h => hhd ⟨(hOK.1 h).1, (hOK.1 h).2.1⟩))
    have hne : (z2 * 256 + z3 == (255 - z0) * 256 + (255 - z1)) = false := beq_eq_false_iff_ne.2 (by omega)
    have hne2 : (z2 * 256 + z3 != (255 - z0) * 256 + (255 - z1)) = true := bne_iff_ne.2 (by omega)
    clear hOK hLN hhd
    go_enter Tryd.func27, Tryd.ntmps27
    go_wp2_with fail
    go_quiet ((go_at_call 56; exact quiet_mine (number_any _ _ p2 q2 p3 q3 _)))
    go_wp2_with fail
    go_quiet ((go_at_call 56; exact quiet_mine2 (number_inv _ _ p0 q0 p1 q1 _)))
    go_wp2
    go_ret3
    exact opened_no HN.out (below_drewN _ _)
end Fr
end Go.Proofs.YtbdjihmgdkailaaDoor
namespace Go.Proofs.YtbdjihmgdkailaaDoor
open Go.ChangeShapes Go.WideShapes Go.ChangeAt Go.RowKit
set_option linter.unusedVariables false
set_option maxRecDepth 100000
namespace Fr
theorem take_cat (zs : List Int) (a n : Nat) : zs.take (a + n) = zs.take a ++ (zs.drop a).take n := List.take_add
theorem head4 {zs : List Int} (h : 4 ≤ zs.length) : zs.take 4 = [zs.getD 0 0, zs.getD 1 0, zs.getD 2 0, zs.getD 3 0] := by
  match zs, h with
  | a :: b :: c :: d :: r, _ => rfl
/-- of a right head: its body's frame is what stands there just if the sum is right -/
theorem seal_iff {zs : List Int} (hb : ∀ i, i < zs.length → 0 ≤ zs.getD i 0 ∧ zs.getD i 0 ≤ 255) (h4 : 4 ≤ zs.length) (hok : okHead zs) (hl : lenOf zs + 8 ≤ zs.length) :
    sealL ((zs.drop 4).take (lenOf zs)) = zs.take (8 + lenOf zs) ↔ (zs.drop (4 + lenOf zs)).take 4 = be4 (Crc.sum (zs.take (4 + lenOf zs))) := by
  have b0 := hb 0 (by omega)
  have b1 := hb 1 (by omega)
  have b2 := hb 2 (by omega)
  have b3 := hb 3 (by omega)
  have hlen : ((zs.drop 4).take (lenOf zs)).length = lenOf zs := by rw [List.length_take, List.length_drop]; omega
  have hhd : hd (lenOf zs) = zs.take 4 := by
    rw [head4 h4]
    obtain ⟨k1, k2, k3⟩ := hok
    unfold hd lenOf
    generalize zs.getD 0 0 = z0 at *
    generalize zs.getD 1 0 = z1 at *
    generalize zs.getD 2 0 = z2 at *
    generalize zs.getD 3 0 = z3 at *
    simp only [List.cons.injEq, and_true]
    omega
  unfold sealL
  rw [hlen, hhd, ← take_cat, show 8 + lenOf zs = (4 + lenOf zs) + 4 by omega, take_cat zs (4 + lenOf zs) 4]
  constructor
  · intro h
    exact (List.append_cancel_left h).symm
  · intro h
    rw [h]
theorem opened_yes8 {zs xs : List Int} {w w' : World} {v : Value} {N : Nat} (h : Opens zs xs (N + 8) 0) (ho : Own w' w.heap.size v xs) (hs : Sl .u8 w' v xs) (hb : Below w.heap.size w w') : Opened zs w (.returned (.tuple #[v, .int .i64 (8 + (N : Int)), .int .i64 0])) w' :=
  ⟨v, xs, N + 8, 0, by rw [show (8 + (N : Int)) = ((N + 8 : Nat) : Int) by omega], h, ho, hs, hb⟩
end Fr
end Go.Proofs.YtbdjihmgdkailaaDoor
