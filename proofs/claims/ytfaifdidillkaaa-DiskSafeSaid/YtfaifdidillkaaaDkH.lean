/- Package disk: Power. No condition. -/
import Derived.Test.YtfaifdidillkaaaDkG
import Derived.Lib.SlBytesConst
import Derived.Laws.Cover3
namespace Go.Proofs.Ytfaifdidillkaaa
open Go.ChangeShapes Go.WideShapes Go.ChangeAt Go.RowKit Go.Deep
set_option linter.unusedVariables false
set_option maxRecDepth 100000
set_option linter.unusedSimpArgs false
namespace Dk
variable {w w' : World} {S : Nat → Prop} {p m : Nat} {V : ByteArray → Value} {on : Bool} {left : Int} {F : List Fl} {n : Nat}
theorem eq_nil_map (m : Nat) (w : World) : (binOp .eql mF (.map (some m)) (.map none)).run Try.prog w = .ok (.bool false) w := by
  simp [binOp, run_equal_map_nil w mF _ _ (some m) Try.underlying50]
def powS (s : St) : St := if s.on = true then s else ⟨true, -1, crashF [] s.F⟩
def crashS (s : St) (ks : List Int) : St := ⟨false, -1, crashF ks s.F⟩
theorem slr_nil (w : World) : SlR 1 inC w (.slice none 0 0) [] := ⟨none, 0, rfl, Nat.le_refl _, Nat.zero_le _, .inl ⟨rfl, rfl, rfl⟩⟩
set_option maxHeartbeats 8000000 in
theorem power_any (w : World) (h : DkV w S p m V on left F) (hs : OkF n F) (hn : n ≤ 1000000000) :
    Calls Try.prog 15 #[.pointer (some ⟨p, 0, none⟩)] w fun e w' => e = .returned (.tuple #[]) ∧ LeftS S p m w w' (powS ⟨on, left, F⟩) := by
  have H := Lib.hid h
  have HS := Lib.hid hs
  have HN := Lib.hid hn
  have c1 := h.c1
  clear h hs hn
  cases on
  · have HE : Hid (powS ⟨false, left, F⟩ = ⟨true, -1, crashF [] F⟩) := Lib.hid rfl
    go_enter Try.func15, Try.ntmps15
    go_wp2_with fail
    refine (crash_any (.slice none 0 0) [] w H.out HS.out HN.out (fun w' _ => slr_nil w')).mono ?_
    rintro e w2 ⟨rfl, hl2⟩
    have HL2 := Lib.hid hl2
    obtain ⟨⟨V2, hv2⟩, -⟩ := HL2.out
    have d0 := hv2.c0
    have dm : (binOp .eql mF (.map (some m)) (.map none)).run Try.prog w2 = .ok (.bool false) w2 := eq_nil_map m w2
    have d1 := hv2.c1
    have z1 := hv2.z 1
    have hv3 : DkV (w2.setCell ⟨p, 1, none⟩ (.bool true)) (Grow S w w2) p m V2 true (-1) (crashF [] F) := hv2.turn (fun j hj => by unfold dkV; match j, hj with
      | 0, _ => rfl
      | 1, _ => rfl
      | 2, _ => rfl)
    have HL3 := Lib.hid (HL2.out.trans (DkV.only_left hv3 (Only.setCell w2 ⟨p, 1, none⟩ _ rfl)))
    clear hl2 hv2 hv3 c1
    go_wp2_with fail
    go_end0
    exact ⟨rfl, by rw [HE.out]; exact HL3.out⟩
  · have HE : Hid (powS ⟨true, left, F⟩ = ⟨true, left, F⟩) := Lib.hid rfl
    go_enter Try.func15, Try.ntmps15
    go_wp2_with fail
    (try simp only [Exit.inBlock, Exit.then])
    refine bodyPost_ret (results_none rfl _ _ _) rfl ?_
    exact ⟨rfl, by rw [HE.out]; exact H.out.leftB (Below.refl _ _)⟩
/-! ### the example -/
theorem slr_lit {α : Type} {sz : Nat} {C : α → List Value} (hC : ∀ x, (C x).length = sz) {e : TypeId} {fr : Nat × Nat} (w : World) (g : Nat) (hg : w.heap.size = g) (cs : Array Value) (xs : List α) (n : Nat) (hn : xs.length = n) (hm : n ≤ maxLen) (h : cs = (xs.flatMap C).toArray) : SlR sz C (w.alloc (.cells cs e fr)) (.slice (some ⟨g, 0, none⟩) n n) xs := by
  subst h; subst hg; subst hn
  refine ⟨_, _, rfl, Nat.le_refl _, hm, .inr ⟨w.heap.size, 0, none, rfl, .inr ⟨rfl, by simp, fun i y hy j u hu => ?_⟩⟩⟩
  simp only [World.cell?, heap_alloc_new, Nat.zero_add]
  have := flat_at hC xs i j y u hy hu
  simpa using this
def nA : ByteArray := ⟨#[97]⟩
def nB : ByteArray := ⟨#[98]⟩
def F1 : List Fl := [⟨nA, [120, 121], 0⟩]
theorem ok1 : OkF 10 F1 := ⟨by unfold SrtF; decide, by decide, by decide, by decide, by decide, by decide⟩
def F2 : List Fl := [⟨nA, [120, 121], 2⟩]
theorem ok2 : OkF 10 F2 := ⟨by unfold SrtF; decide, by decide, by decide, by decide, by decide, by decide⟩
def F3 : List Fl := [⟨nA, [120, 121, 122], 2⟩]
theorem ok3 : OkF 10 F3 := ⟨by unfold SrtF; decide, by decide, by decide, by decide, by decide, by decide⟩
def F5 : List Fl := [⟨nA, [120, 121], 2⟩, ⟨nB, [112], 0⟩]
theorem ok5 : OkF 10 F5 := ⟨by unfold SrtF; decide, by decide, by decide, by decide, by decide, by decide⟩
def F6 : List Fl := [⟨nA, [120, 121], 2⟩, ⟨nB, [112], 1⟩]
theorem ok6 : OkF 10 F6 := ⟨by unfold SrtF; decide, by decide, by decide, by decide, by decide, by decide⟩
theorem s1 : appE ⟨true, -1, []⟩ nA [120, 121] = 0 ∧ appS ⟨true, -1, []⟩ nA [120, 121] = ⟨true, -1, F1⟩ := ⟨by kernel_rfl, by kernel_rfl⟩
theorem s2 : findE true F1 nA = 0 ∧ syncF true F1 nA = F2 := ⟨by kernel_rfl, by kernel_rfl⟩
theorem s3 : appE ⟨true, -1, F2⟩ nA [122] = 0 ∧ appS ⟨true, -1, F2⟩ nA [122] = ⟨true, -1, F3⟩ := ⟨by kernel_rfl, by kernel_rfl⟩
theorem s4 : looseL F3 nA = 1 := by kernel_rfl
theorem s5 : crashF [] F3 = F2 := by kernel_rfl
theorem s6 : powS ⟨false, -1, F2⟩ = ⟨true, -1, F2⟩ := by kernel_rfl
theorem s7 : findE true F2 nA = 0 ∧ readL true F2 nA = [120, 121] := ⟨by kernel_rfl, by kernel_rfl⟩
theorem s8 : armZ true (-1) 1 = 1 := by kernel_rfl
theorem s9 : appE ⟨true, 1, F2⟩ nB [112, 113] = 7 ∧ appS ⟨true, 1, F2⟩ nB [112, 113] = ⟨false, -1, F5⟩ := ⟨by kernel_rfl, by kernel_rfl⟩
theorem s10 : crashF [5] F5 = F6 := by kernel_rfl
theorem s11 : powS ⟨false, -1, F6⟩ = ⟨true, -1, F6⟩ := by kernel_rfl
theorem s12 : findE true F6 nB = 0 ∧ readL true F6 nB = [112] := ⟨by kernel_rfl, by kernel_rfl⟩
theorem slr_only {α : Type} {sz : Nat} {C : α → List Value} {w w' : World} {g n c : Nat} {xs : List α} (h : SlR sz C w (.slice (some ⟨g, 0, none⟩) n c) xs) (hb : w'.heap[g]? = w.heap[g]?) (hz : w.heap.size ≤ w'.heap.size) : SlR sz C w' (.slice (some ⟨g, 0, none⟩) n c) xs := by
  obtain ⟨a, cap, e, h1, h2, h3⟩ := h
  refine ⟨a, cap, e, h1, h2, ?_⟩
  simp only [Value.slice.injEq] at e
  obtain ⟨rfl, -, rfl⟩ := e
  rcases h3 with ⟨h3, -⟩ | ⟨b, off, sp, h3, h4⟩
  · cases h3
  · refine .inr ⟨b, off, sp, h3, ?_⟩
    simp only [Option.some.injEq, Addr.mk.injEq] at h3
    obtain ⟨rfl, rfl, rfl⟩ := h3
    rcases h4 with h4 | ⟨h5, h6, h7⟩
    · exact .inl h4
    · refine .inr ⟨rfl, Nat.lt_of_lt_of_le h6 hz, fun i x hx j u hu => ?_⟩
      rw [← h7 i x hx j u hu]
      unfold World.cell?
      rw [hb]
theorem own_sl {w : World} {B : Nat} {v : Value} {zs : List Int} (h : OwnR 1 byC TB w B v zs) (hw : ∀ z ∈ zs, (Lit.int .u8 z).wf = true) : Sl .u8 w v zs := by
  have h1 : Own w B v zs := by unfold OwnR at h; rw [flat_by] at h; exact h
  exact h1.sl hw
theorem str1 : strOfNums [120, 121] = ⟨#[120, 121]⟩ := by kernel_rfl
theorem str2 : strOfNums [112] = ⟨#[112]⟩ := by kernel_rfl
theorem slr_marked (w : World) (zs : List Int) (n : Nat) (hn : zs.length = n) (hm : n ≤ maxLen) (cs : Array Value) (h : cs = (zs.flatMap byC).toArray) (fr : Nat × Nat) : SlR 1 byC (w.alloc (.cells cs 5 fr)) (.slice (some ⟨w.heap.size, 0, none⟩) n n) zs := slr_lit byC_len w _ rfl cs zs n hn hm h
theorem a_small : nA.size ≤ maxLen := by decide
theorem b_small : nB.size ≤ maxLen := by decide
set_option maxHeartbeats 16000000 in
theorem live_any (w : World) : Calls Try.prog 6 #[] w fun e w' => e = .returned (.bool true) ∧ Below w.heap.size w w' := by
  have kc := fun (w : World) (C : Array Value) (n c : Nat) => Lib.run_convert_bytes_const (P := Try.prog) w 39 5 C n c Try.underlying39 Try.underlying5
  go_enter Try.func6, Try.ntmps6
  go_wp2_with fail
  refine (new_any w).mono ?_
  rintro e w2 ⟨p, m, V0, rfl, hv, hb⟩
  obtain ⟨S, hS⟩ : ∃ q, (fun k => w.heap.size ≤ k ∧ k < w2.heap.size) = q := ⟨_, rfl⟩
  have HSW : Hid (∀ k, S k → w.heap.size ≤ k) := Lib.hid (fun k hk => by rw [← hS] at hk; exact hk.1)
  rw [hS] at hv
  have H2 := Lib.hid hv
  have HB2 := Lib.hid hb
  clear hv hb hS
  have HL0 : Hid (Left S p m w2 w2 true (-1) []) := Lib.hid (H2.out.leftB (Below.refl _ _))
  have HV0 : Hid (DkV w2 (Grow S w2 w2) p m V0 true (-1) []) := Lib.hid H2.out.grow
  obtain ⟨W1, hW1⟩ : ∃ q, w2.alloc (.cells #[.int .u8 120, .int .u8 121] 5 (2, 2 + 1)) = q := ⟨_, rfl⟩
  have hbw1 : Below w2.heap.size w2 W1 := by rw [← hW1]; exact (Below.refl _ _).alloc (Nat.le_refl _) _
  have HR1 : Hid (SlR 1 byC W1 (.slice (some ⟨w2.heap.size, 0, none⟩) 2 2) [120, 121]) := Lib.hid (by rw [← hW1]; exact slr_marked w2 [120, 121] 2 rfl (by decide) _ rfl _)
  have HX1 := Lib.hid (HL0.out.trans (HV0.out.leftB hbw1))
  obtain ⟨⟨Vx1, hvx⟩, -⟩ := HX1.out
  have HY1 := Lib.hid hvx
  clear hvx hbw1
  go_wp2_with fail
  clear hW1
  refine (append_any (n := 10) nA _ [120, 121] W1 HY1.out (OkF.nil 10) a_small HR1.out (by decide) (by decide) (by unfold leftOk; decide)).mono ?_
  rintro e w3 ⟨rfl, hl⟩
  rw [s1.1]
  unfold LeftS at hl
  rw [s1.2] at hl
  have HL1 := Lib.hid (HX1.out.trans hl)
  clear hl
  obtain ⟨⟨V1, hv⟩, -⟩ := HL1.out
  have HV1 := Lib.hid hv
  clear hv
  go_wp2_with fail
  refine (sync_any nA w3 HV1.out ok1 a_small (by decide)).mono ?_
  rintro e w4 ⟨rfl, hl⟩
  rw [s2.1]
  rw [s2.2] at hl
  have HL2 := Lib.hid (HL1.out.trans hl)
  obtain ⟨⟨V2, hv⟩, -⟩ := HL2.out
  have HV2 := Lib.hid hv
  clear hv hl
  obtain ⟨W3, hW3⟩ : ∃ q, w4.alloc (.cells #[.int .u8 122] 5 (1, 1 + 1)) = q := ⟨_, rfl⟩
  have hbw3 : Below w4.heap.size w4 W3 := by rw [← hW3]; exact (Below.refl _ _).alloc (Nat.le_refl _) _
  have HR3 : Hid (SlR 1 byC W3 (.slice (some ⟨w4.heap.size, 0, none⟩) 1 1) [122]) := Lib.hid (by rw [← hW3]; exact slr_marked w4 [122] 1 rfl (by decide) _ rfl _)
  have HX3 := Lib.hid (HL2.out.trans (HV2.out.leftB hbw3))
  obtain ⟨⟨Vx3, hvx⟩, -⟩ := HX3.out
  have HY3 := Lib.hid hvx
  clear hvx hbw3
  go_wp2_with fail
  clear hW3
  refine (append_any (n := 10) nA _ [122] W3 HY3.out ok2 a_small HR3.out (by decide) (by decide) (by unfold leftOk; decide)).mono ?_
  rintro e w5 ⟨rfl, hl⟩
  rw [s3.1]
  unfold LeftS at hl
  rw [s3.2] at hl
  have HL3 := Lib.hid (HX3.out.trans hl)
  clear hl
  obtain ⟨⟨V3, hv⟩, -⟩ := HL3.out
  have HV3 := Lib.hid hv
  clear hv
  go_wp2_with fail
  refine (loose_any nA w5 HV3.out a_small ok3 (by decide)).mono ?_
  rintro e w6 ⟨rfl, hb⟩
  rw [s4]
  have HL4 := Lib.hid (HL3.out.trans (HV3.out.leftB hb))
  obtain ⟨⟨V4, hv⟩, -⟩ := HL4.out
  have HV4 := Lib.hid hv
  clear hv hb
  go_wp2_with fail
  refine (crash_any (.slice none 0 0) [] w6 HV4.out ok3 (by decide) (fun w' _ => slr_nil w')).mono ?_
  rintro e w7 ⟨rfl, hl⟩
  rw [s5] at hl
  have HL5 := Lib.hid (HL4.out.trans hl)
  obtain ⟨⟨V5, hv⟩, -⟩ := HL5.out
  have HV5 := Lib.hid hv
  clear hv hl
  go_wp2_with fail
  refine (on_any w7 HV5.out).mono ?_
  rintro e wq ⟨rfl, rfl⟩
  go_wp2_with fail
  refine (power_any _ HV5.out ok2 (by decide)).mono ?_
  rintro e w8 ⟨rfl, hl⟩
  unfold LeftS at hl
  rw [s6] at hl
  have HL7 := Lib.hid (HL5.out.trans hl)
  obtain ⟨⟨V7, hv⟩, -⟩ := HL7.out
  have HV7 := Lib.hid hv
  clear hv hl
  go_wp2_with fail
  refine (read_any nA w8 HV7.out ok2 a_small (by decide)).mono ?_
  rintro e w9 ⟨u, rfl, hu, hb⟩
  rw [s7.1]
  rw [s7.2] at hu
  have HB8 : Hid (Below w.heap.size w w8) := Lib.hid (HL7.out.2.below HB2.out HB2.out.size HSW.out)
  obtain ⟨S1, hS1⟩ : ∃ q, Grow S w2 w8 = q := ⟨_, rfl⟩
  have HS1 : Hid (∀ k, S1 k → w.heap.size ≤ k ∧ k < w8.heap.size) := Lib.hid (fun k hk => by
    rw [← hS1] at hk
    refine ⟨?_, HV7.out.low k hk⟩
    rcases hk with hk | hk
    · exact HSW.out k hk
    · exact Nat.le_trans HB2.out.size hk.1)
  have hv8 := HV7.out.below hb
  rw [hS1] at hv8
  have HU := Lib.hid hu
  have HB9 : Hid (Below w.heap.size w w9) := Lib.hid (HB8.out.trans (hb.mono HB8.out.size))
  have HL8 : Hid (Left S1 p m w9 w9 true (-1) F2) := Lib.hid (hv8.leftB (Below.refl _ _))
  have HV8 : Hid (DkV w9 (Grow S1 w9 w9) p m V7 true (-1) F2) := Lib.hid hv8.grow
  have HZ9 : Hid (w8.heap.size ≤ w9.heap.size) := Lib.hid hb.size
  obtain ⟨au, cu, hau⟩ := own_slice hu
  subst hau
  clear hu hb hv8 hS1
  clear HL0 HL1 HL2 HL3 HL4 HL5 HL7 HV0 HV1 HV2 HV3 HV4 HV5 HV7 HX1 HX3 HY1 HY3 HR1 HR3 H2 HB2 HSW
  go_wp2_with fail
  refine (arm_any 1 w9 HV8.out).mono ?_
  rintro e w10 ⟨rfl, hv, ho⟩
  rw [s8] at hv
  have HL9 := Lib.hid (HL8.out.trans (DkV.only_left hv ho))
  clear hv ho
  obtain ⟨⟨V9, hv⟩, -⟩ := HL9.out
  have HV9 := Lib.hid hv
  clear hv
  obtain ⟨W10, hW10⟩ : ∃ q, w10.alloc (.cells #[.int .u8 112, .int .u8 113] 5 (2, 2 + 1)) = q := ⟨_, rfl⟩
  have hbw10 : Below w10.heap.size w10 W10 := by rw [← hW10]; exact (Below.refl _ _).alloc (Nat.le_refl _) _
  have HR10 : Hid (SlR 1 byC W10 (.slice (some ⟨w10.heap.size, 0, none⟩) 2 2) [112, 113]) := Lib.hid (by rw [← hW10]; exact slr_marked w10 [112, 113] 2 rfl (by decide) _ rfl _)
  have HX10 := Lib.hid (HL9.out.trans (HV9.out.leftB hbw10))
  obtain ⟨⟨Vx10, hvx⟩, -⟩ := HX10.out
  have HY10 := Lib.hid hvx
  clear hvx hbw10
  go_wp2_with fail
  clear hW10
  refine (append_any (n := 10) nB _ [112, 113] W10 HY10.out ok2 b_small HR10.out (by decide) (by decide) (by unfold leftOk; decide)).mono ?_
  rintro e w11 ⟨rfl, hl⟩
  rw [s9.1]
  unfold LeftS at hl
  rw [s9.2] at hl
  have HL10 := Lib.hid (HX10.out.trans hl)
  clear hl
  obtain ⟨⟨V10, hv⟩, -⟩ := HL10.out
  have HV10 := Lib.hid hv
  clear hv
  obtain ⟨W11, hW11⟩ : ∃ q, w11.alloc (.cells #[.int .i64 5] 3) = q := ⟨_, rfl⟩
  have hbw11 : Below w11.heap.size w11 W11 := by rw [← hW11]; exact (Below.refl _ _).alloc (Nat.le_refl _) _
  have HXB : Hid (DkV W11 (Grow S1 w9 w11) p m V10 false (-1) F5) := Lib.hid (HV10.out.below hbw11)
  have HON : Hid (Only S1 w9 W11) := Lib.hid (HL10.out.2.trans (Below.only hbw11 S1))
  have HKS : Hid (∀ w', Only (Grow S1 w9 w11) W11 w' → SlR 1 inC w' (.slice (some ⟨w11.heap.size, 0, none⟩) 1 1) [5]) := Lib.hid (fun w' ho => by
    have h1 : SlR 1 inC W11 (.slice (some ⟨w11.heap.size, 0, none⟩) 1 1) [5] := by rw [← hW11]; exact slr_lit inC_len w11 _ rfl _ [5] 1 rfl (by decide) rfl
    have hlt : w11.heap.size < W11.heap.size := by rw [← hW11]; simp
    exact slr_only h1 (ho.2.2.2.2 _ hlt (fun q => by have := HV10.out.low _ q; omega)) ho.2.2.2.1)
  have HWS : Hid (w11.heap.size ≤ W11.heap.size) := Lib.hid hbw11.size
  clear hbw11
  go_wp2_with fail
  clear hW11
  refine (crash_any _ [5] W11 HXB.out ok5 (by decide) HKS.out).mono ?_
  rintro e w12 ⟨rfl, hl⟩
  rw [s10] at hl
  have HL11 : Hid (Left S1 p m w9 w12 false (-1) F6) := Lib.hid (Left.after HON.out (fun k hk => by
    rcases hk with hk | hk
    · exact .inl hk
    · exact .inr ⟨hk.1, Nat.lt_of_lt_of_le hk.2 HWS.out⟩) (fun k hk => Nat.lt_of_lt_of_le (HS1.out k hk).2 HZ9.out) hl)
  clear hl
  obtain ⟨⟨V11, hv⟩, -⟩ := HL11.out
  have HV11 := Lib.hid hv
  clear hv
  go_wp2_with fail
  refine (power_any _ HV11.out ok6 (by decide)).mono ?_
  rintro e w13 ⟨rfl, hl⟩
  unfold LeftS at hl
  rw [s11] at hl
  have HL12 := Lib.hid (HL11.out.trans hl)
  obtain ⟨⟨V12, hv⟩, -⟩ := HL12.out
  have HV12 := Lib.hid hv
  clear hv hl
  go_wp2_with fail
  refine (read_any nB w13 HV12.out ok6 b_small (by decide)).mono ?_
  rintro e w14 ⟨u2, rfl, hu2, hb⟩
  rw [s12.1]
  rw [s12.2] at hu2
  have HBE : Hid (Below w.heap.size w w14) := Lib.hid (by
    have h1 := HL12.out.2.below HB9.out HB9.out.size (fun k hk => (HS1.out k hk).1)
    exact h1.trans (hb.mono h1.size))
  have hu1 : OwnR 1 byC TB w14 w8.heap.size (.slice au 2 cu) [120, 121] := by
    have h1 : OwnR 1 byC TB w13 w8.heap.size (.slice au 2 cu) [120, 121] := own_keep HU.out (fun q hq hl => HL12.out.2.2.2.2.2 q hl (fun k => by have := (HS1.out q k).2; have := (World.ownsRow.lt HU.out q hq).1; omega))
    exact h1.below hb (Nat.le_refl _)
  obtain ⟨au2, cu2, hau2⟩ := own_slice hu2
  subst hau2
  have e1 := run_str (own_sl hu1 (by decide))
  have e2 := run_str (own_sl hu2 (by decide))
  rw [str1] at e1
  rw [str2] at e2
  have e3 : (convert 39 9 (.slice au2 1 cu2)).run Try.prog w14 = .ok (.string ⟨#[112]⟩) w14 := e2
  clear hu1 hu2 hb e2
  go_wp2_with fail
  go_ret
  exact ⟨rfl, HBE.out⟩
end Dk
end Go.Proofs.Ytfaifdidillkaaa
