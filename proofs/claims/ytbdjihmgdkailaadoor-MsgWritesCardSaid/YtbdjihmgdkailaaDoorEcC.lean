/- A snapshot's bytes by the document: its Encode. No condition. -/
import Derived.Test.YtbdjihmgdkailaaDoorEcZ
import Derived.Test.YtbdjihmgdkailaaDoorShR
import Derived.Deep.RegionHeld3
import Derived.Deep.CutRange
import Derived.Deep.CutBlock
import Derived.Deep.DeepCutAuto
import Derived.Deep.MidRow
namespace Go.Proofs.YtbdjihmgdkailaaDoor
open Go.ChangeShapes Go.WideShapes Go.ChangeAt Go.RowKit Go.Deep
set_option linter.unusedVariables false
set_option maxRecDepth 100000
namespace Sc
open Cm Nm Sh
theorem encN_one (n : Int) : encN [n] = numI n := by simp [encN]
theorem encN_cons (n : Int) (l : List Int) : encN (n :: l) = numI n ++ encN l := rfl
set_option maxHeartbeats 2000000 in
theorem rnumb_any (B : Nat) (vb : Value) (bs : List Int) (n : Int) (w : World) (hown : Own w B vb bs) (hB : B ≤ w.heap.size) (hn : 0 ≤ n ∧ n ≤ 18446744073709551615) (hb : bs.length ≤ 100000000) :
    Calls Tryd.prog 48 #[vb, .int .u64 n] w (Longr B (bs ++ numI n) w) := by
  have hl2 := numI_len (n := n) hn.1 hn.2
  have hlb : bs.length + (numI n).length ≤ 140737488355328 := by omega
  go_enter Tryd.func48, Tryd.ntmps48
  go_wp2_with fail
  refine (rnum_int n _ hn.1 hn.2).mono ?_
  rintro e w4 ⟨v4, rfl, hown4, hs4, hb4⟩
  have own4 : Own w4 B _ bs := hown.below hb4 (Nat.le_refl _)
  have HT4 := Lib.hid (ByT.of hb4)
  have HB4 := Lib.hid (hb4.mono hB)
  clear hown4 hb4 hown
  go_wp2_with (at_builtin; refine app8q rfl _ _ rfl B _ _ rfl own4 _ _ rfl hs4 hlb (by have := HB4.out.size; omega) ?_; intro v5 w5 hown5 hg5 hl5)
  have HT5 := Lib.hid (HT4.out.trans (ByT.grown own4 hg5))
  have HB5 := Lib.hid (HB4.out.trans (below_grown own4 (by have := HB4.out.size; omega) hg5))
  clear hg5 hl5 own4 hs4
  go_wp2_with fail
  go_ret
  exact ⟨_, rfl, hown5, HB5.out, HT5.out⟩
set_option maxHeartbeats 2000000 in
theorem rnodest_any (B : Nat) (vb vl : Value) (bs zs : List Int) (w : World) (hown : Own w B vb bs) (hB : B ≤ w.heap.size) (hS : ∀ w', Below B w w' → Sl .i64 w' vl zs)
    (hz : ∀ n ∈ zs, 0 ≤ n ∧ n ≤ 18446744073709551615) (hb : bs.length ≤ 100000000) (hl : zs.length ≤ 1000) :
    Calls Tryd.prog 47 #[vb, vl] w (Longr B (bs ++ numI zs.length ++ encN zs) w) := by
  have hs0 := hS w (Below.refl _ _)
  obtain ⟨an, capn, rfl, -⟩ := id hs0
  have HZ := Lib.hid hz
  have HS := Lib.hid hS
  have hln := numI_len (n := (zs.length : Int)) (by omega) (by omega)
  have hlb : bs.length + (numI (zs.length : Int)).length ≤ 140737488355328 := by omega
  clear hz hS hs0
  go_enter Tryd.func47, Tryd.ntmps47
  go_wp2_with fail
  refine (rnum_int (zs.length : Int) _ (by omega) (by omega)).mono ?_
  rintro e w1 ⟨v1, rfl, hown1, hs1, hb1⟩
  have own1 : Own w1 B _ bs := hown.below hb1 (Nat.le_refl _)
  have HT1 := Lib.hid (ByT.of hb1)
  have HB1 := Lib.hid (hb1.mono hB)
  clear hown1 hb1 hown
  go_wp2_with (at_builtin; refine app8q rfl _ _ rfl B _ _ rfl own1 _ _ rfl hs1 hlb (by have := HB1.out.size; omega) ?_; intro v2 w2 hown2 hg2 hl2)
  have HT2 := Lib.hid (HT1.out.trans (ByT.grown own1 hg2))
  have hbw : Below B w w2 := HB1.out.trans (below_grown own1 (by have := HB1.out.size; omega) hg2)
  have hown0 : Own w2 B v2 (bs ++ numI (zs.length : Int) ++ encN (zs.take 0)) := by rw [show encN (zs.take 0) = [] from rfl, List.append_nil]; exact hown2
  clear hown2 hg2 hl2 own1 hs1
  go_wp2_with fail
  go_loopw [0, 15] (fun b i wr => ∃ k : Nat, k ≤ zs.length ∧ i = .int .i64 k ∧ Own wr B b (bs ++ numI (zs.length : Int) ++ encN (zs.take k)) ∧ Below B w wr ∧ Hid (ByT w wr)) (fun _ i _ => zs.length - (intOf i).toNat)
  case atStart => exact ⟨0, Nat.zero_le _, rfl, hown0, hbw, HT2⟩
  case round =>
    clear hown0 hbw
    obtain ⟨k, hk, rfl, hown, hb, HT⟩ := hrel
    have hW := hb.size
    by_cases hlt3 : k < zs.length
    · have hS := HS.out _ hb
      obtain ⟨b, off, rfl, -, hcx⟩ := Sl.at hS hlt3
      have HTK := Lib.hid (Nd.take_get hlt3)
      obtain ⟨hv0, hv1⟩ := HZ.out _ (Nd.mem_get hlt3)
      have hl3 := (encN_len (zs.take k) fun n hn => HZ.out n (List.mem_of_mem_take hn)).1
      rw [List.length_take, Nat.min_eq_left hk] at hl3
      have hwz := Lib.hid (hS.wf _ (Nd.mem_get hlt3))
      generalize zs.getD k 0 = z at *
      have hl2 := numI_len (n := z) (by omega) (by omega)
      have hlb : (bs ++ numI (zs.length : Int) ++ encN (zs.take k)).length + (numI z).length ≤ 140737488355328 := by rw [List.length_append, List.length_append]; omega
      have HOO := Lib.hid (show bs ++ numI (zs.length : Int) ++ encN (zs.take (k + 1)) = (bs ++ numI (zs.length : Int) ++ encN (zs.take k)) ++ numI z by rw [HTK.out, encN_snoc, List.append_assoc, List.append_assoc, List.append_assoc])
      have hz9 : z ≤ 9223372036854775807 := by have := bounds_i64 hwz.out; omega
      clear hl2 hl3 hS
      go_wp2_with fail
      refine (rnum_int z _ (by omega) (by omega)).mono ?_
      rintro e w4 ⟨v4, rfl, hown4, hs4, hb4⟩
      have own4 : Own w4 B _ (bs ++ numI (zs.length : Int) ++ encN (zs.take k)) := hown.below hb4 (Nat.le_refl _)
      have HT4 := Lib.hid (HT.out.trans (ByT.of hb4))
      have HB4 := Lib.hid (hb.trans (hb4.mono (by omega)))
      clear hown4 hb4 hown HT
      go_wp2_with (at_builtin; refine app8q rfl _ _ rfl B _ _ rfl own4 _ _ rfl hs4 hlb (by have := HB4.out.size; omega) ?_; intro v5 w5 hown5 hg5 hl5)
      have HT5 := Lib.hid (HT4.out.trans (ByT.grown own4 hg5))
      have hb5 : Below B w w5 := HB4.out.trans (below_grown own4 (by have := HB4.out.size; omega) hg5)
      clear hg5 hl5 own4 hs4
      go_wp2_with fail
      go_roundw
      case rel => exact ⟨k + 1, by omega, by go_num, by rw [HOO.out]; exact hown5, hb5, HT5⟩
      case measure => simp [intOf]; omega
    · obtain rfl : k = zs.length := by omega
      rw [List.take_length] at hown
      go_wp2
      go_ret
      exact ⟨_, rfl, hown, hb, HT.out⟩
set_option maxHeartbeats 8000000 in
theorem rbytes_any (s : Sho) (v : Value) (w : World) (h : IsShot w v s) (ok : shotOk s) : Calls Tryd.prog 20 #[v] w (Longr w.heap.size (shotB s) w) := by
  obtain ⟨vn, vh, vl, rfl, hn, hh, hl, hwf⟩ := id h
  obtain ⟨a1, b1, rfl, -⟩ := id hn
  obtain ⟨a2, b2, rfl, h21, h22, h23⟩ := id hh
  obtain ⟨a3, b3, rfl, h31, h32, h33⟩ := id hl
  unfold maxLen at h22 h32
  obtain ⟨W0, hW0⟩ : ∃ q, w.alloc (.cells (sArr s (.slice a1 s.nodes.length b1) (.slice a2 s.led.held.length b2) (.slice a3 s.led.last.length b3)) 30) = q := ⟨_, rfl⟩
  have hb0 : Below w.heap.size w W0 := by rw [← hW0]; exact (Below.refl _ _).alloc (Nat.le_refl _) _
  have HS0 : Hid (W0.heap[w.heap.size]? = some (.cells (sArr s (.slice a1 s.nodes.length b1) (.slice a2 s.led.held.length b2) (.slice a3 s.led.last.length b3)) 30 (0, 0))) := Lib.hid (by rw [← hW0]; exact heap_alloc_new _ _)
  have HB0 := Lib.hid hb0
  have HI0 := Lib.hid (h.below hb0 (Nat.le_refl _))
  have HWF := Lib.hid hwf
  have HN := Lib.hid hn
  have HH := Lib.hid h23
  have HL := Lib.hid h33
  have HWH := Lib.hid hwf.2.2
  clear h hn hh hl hwf hb0 h23 h33
  have NM := nums_of HWF.out ok
  obtain ⟨q1, q2, ⟨q3, q4⟩, q5, q6, q7, q8, q9, q10⟩ := NM
  have Q4 := Lib.hid q4
  have Q8 := Lib.hid q8
  have Q10 := Lib.hid q10
  clear ok q4 q8 q10
  have p1 : IntKind.u64.wrap (s.nodes.length : Int) = (s.nodes.length : Int) := by (unfold IntKind.wrap; simp [IntKind.signed, IntKind.bits]; omega)
  have p2 : IntKind.u64.wrap s.led.limit = s.led.limit := by (unfold IntKind.wrap; simp [IntKind.signed, IntKind.bits]; omega)
  have p3 : IntKind.u64.wrap (s.led.held.length : Int) = (s.led.held.length : Int) := by (unfold IntKind.wrap; simp [IntKind.signed, IntKind.bits]; omega)
  have p4 : IntKind.u64.wrap (s.led.last.length : Int) = (s.led.last.length : Int) := by (unfold IntKind.wrap; simp [IntKind.signed, IntKind.bits]; omega)
  have hm1 := numI_len (n := s.index) q1.1 q1.2
  have hm2 := numI_len (n := s.term) q2.1 q2.2
  have hm3 := numI_len (n := (s.nodes.length : Int)) (by omega) (by omega)
  have hm4 := numI_len (n := s.led.limit) (by omega) (by omega)
  have hm5 := numI_len (n := s.led.next) q6.1 q6.2
  have hm6 := numI_len (n := (s.led.held.length : Int)) (by omega) (by omega)
  have hm7 := numI_len (n := (s.led.last.length : Int)) (by omega) (by omega)
  have HNS : Hid (∀ n ∈ heldsNs s.led.held, 0 ≤ n ∧ n ≤ 18446744073709551615) := Lib.hid (fun n hn => by
    obtain ⟨x, hx, hm⟩ := List.mem_flatMap.1 hn
    obtain ⟨q1, q2, q3, q4, q5⟩ := Q8.out x hx
    simp only [heldNs, List.mem_cons, List.not_mem_nil, or_false] at hm
    rcases hm with rfl | rfl | rfl | rfl | rfl <;> omega)
  have LNS : Hid (∀ n ∈ lastsNs s.led.last, 0 ≤ n ∧ n ≤ 18446744073709551615) := Lib.hid (fun n hn => by
    obtain ⟨x, hx, hm⟩ := List.mem_flatMap.1 hn
    obtain ⟨q1, q2, q3, q4, q5, q6⟩ := Q10.out x hx
    simp only [lastNs, List.mem_cons, List.not_mem_nil, or_false] at hm
    rcases hm with rfl | rfl | rfl | rfl | rfl | rfl <;> omega)
  have hlhd := (encN_len s.nodes fun n hn => by have := Q4.out n hn; omega).1
  have HT0 : Hid (ByT W0 W0) := Lib.hid (ByT.refl _)
  go_enter Tryd.func20, Tryd.ntmps20
  go_upto_region 1 with (fail)
  refine wp_region_held_drew (S := fun w' => w'.heap[w.heap.size]? = some (.cells (sArr s (.slice a1 s.nodes.length b1) (.slice a2 s.led.held.length b2) (.slice a3 s.led.last.length b3)) 30 (0, 0))) (by kernel_rfl) HS0.out (fun hHeld => ?_)
  refine wpAnyH_take (i := 1) (v := .pointer (some ⟨w.heap.size, 0, none⟩)) rfl (by kernel_rfl) (by kernel_rfl) (by kernel_rfl) (fun _ _ _ h => h) (Or.inl ⟨by kernel_rfl, ?_⟩) (by assumption) ?_
  · intro wx hSw
    clear hSw hHeld
    go_simp
    try first | with_reducible rfl | kernel_rfl
  simp only [Act.put, List.getElem_toArray, List.getElem_cons_succ, List.getElem_cons_zero, List.setIfInBounds_toArray, List.set_cons_succ, List.set_cons_zero]
  refine wpAnyH_take (i := 2) (v := (.int .u64 s.index)) rfl (by kernel_rfl) (by kernel_rfl) (by kernel_rfl) (fun _ _ _ h => h) (Or.inl ⟨by kernel_rfl, ?_⟩) (by assumption) ?_
  · intro wx hSw
    have cc : wx.cell? ⟨w.heap.size, 0, none⟩ = some (.int .u64 s.index) := (cell_of_row wx _ 0 _ _ _ hSw).trans rfl
    clear hSw hHeld
    go_simp
    try first | with_reducible rfl | kernel_rfl
  simp only [Act.put, List.getElem_toArray, List.getElem_cons_succ, List.getElem_cons_zero, List.setIfInBounds_toArray, List.set_cons_succ, List.set_cons_zero]
  refine wpAnyH_take (i := 4) (v := .pointer (some ⟨w.heap.size, 1, none⟩)) rfl (by kernel_rfl) (by kernel_rfl) (by kernel_rfl) (fun _ _ _ h => h) (Or.inl ⟨by kernel_rfl, ?_⟩) (by assumption) ?_
  · intro wx hSw
    clear hSw hHeld
    go_simp
    try first | with_reducible rfl | kernel_rfl
  simp only [Act.put, List.getElem_toArray, List.getElem_cons_succ, List.getElem_cons_zero, List.setIfInBounds_toArray, List.set_cons_succ, List.set_cons_zero]
  refine wpAnyH_take (i := 5) (v := (.int .u64 s.term)) rfl (by kernel_rfl) (by kernel_rfl) (by kernel_rfl) (fun _ _ _ h => h) (Or.inl ⟨by kernel_rfl, ?_⟩) (by assumption) ?_
  · intro wx hSw
    have cc : wx.cell? ⟨w.heap.size, 1, none⟩ = some (.int .u64 s.term) := (cell_of_row wx _ 1 _ _ _ hSw).trans rfl
    clear hSw hHeld
    go_simp
    try first | with_reducible rfl | kernel_rfl
  simp only [Act.put, List.getElem_toArray, List.getElem_cons_succ, List.getElem_cons_zero, List.setIfInBounds_toArray, List.set_cons_succ, List.set_cons_zero]
  refine wpAnyH_ready (rs := [0]) (by kernel_rfl) (by simp) ?_
  refine AllReadyH.cons rfl (fun K hK => ?_) AllReadyH.nil
  go_simp
  have hSa := ByT.alloc W0.drew (.cells #[.int .u8 83] 5) _ _ _ _ hHeld (by decide)
  have HOa : Hid (Own (W0.drew.alloc (.cells #[.int .u8 83] 5)) w.heap.size (.slice (some ⟨W0.drew.heap.size, 0, none⟩) 1 1) [83]) := Lib.hid (Own.lit W0.drew [83] HB0.out.size (by decide))
  have HBa : Hid (Below w.heap.size w (W0.drew.alloc (.cells #[.int .u8 83] 5))) := Lib.hid (HB0.out.drew.alloc HB0.out.size _)
  have HTa : Hid (ByT W0 (W0.drew.alloc (.cells #[.int .u8 83] 5))) := Lib.hid ((ByT.of (Below.refl _ _).drew).trans (ByT.alloc _ _))
  clear hHeld
  refine hK.out _ _ hSa (fun hHeld => ?_)
  clear hK K hSa
  refine wpAnyH_ready (rs := [3]) (by kernel_rfl) (by simp) ?_
  refine AllReadyH.cons rfl (fun K hK => ?_) AllReadyH.nil
  go_simp
  refine (rnumb_any w.heap.size _ ([83]) (s.index) _ HOa.out HBa.out.size q1 (by decide)).mono ?_
  rintro e wa0 ⟨va0, rfl, hoa0, hba0, hta0⟩
  have HOa0 := Lib.hid hoa0
  have HBa0 := Lib.hid (HBa.out.trans hba0)
  have HTa0 := Lib.hid (HTa.out.trans hta0)
  have hSa0 := hta0 _ _ _ _ hHeld (by decide)
  clear hoa0 hba0 hta0 hHeld
  refine hK.out _ _ hSa0 (fun hHeld => ?_)
  clear hK K hSa0
  refine wpAnyH_ready (rs := [6]) (by kernel_rfl) (by simp) ?_
  refine AllReadyH.cons rfl (fun K hK => ?_) AllReadyH.nil
  go_simp
  refine (rnumb_any w.heap.size va0 ([83] ++ numI (s.index)) (s.term) wa0 HOa0.out HBa0.out.size q2 (by simp only [List.length_append, List.length_cons, List.length_nil]; omega)).mono ?_
  rintro e wa1 ⟨va1, rfl, hoa1, hba1, hta1⟩
  have HOa1 := Lib.hid hoa1
  have HBa1 := Lib.hid (HBa0.out.trans hba1)
  have HTa1 := Lib.hid (HTa0.out.trans hta1)
  have hSa1 := hta1 _ _ _ _ hHeld (by decide)
  clear hoa1 hba1 hta1 hHeld
  refine hK.out _ _ hSa1 (fun hHeld => ?_)
  clear hK K hSa1
  refine wpAnyH_take (i := 7) (v := va1) rfl (by kernel_rfl) (by kernel_rfl) (by kernel_rfl) (fun _ _ _ h => h) (Or.inl ⟨by kernel_rfl, ?_⟩) (by assumption) ?_
  · intro wx hSw
    clear hSw hHeld
    go_simp
    try first | with_reducible rfl | kernel_rfl
  simp only [Act.put, List.getElem_toArray, List.getElem_cons_succ, List.getElem_cons_zero, List.setIfInBounds_toArray, List.set_cons_succ, List.set_cons_zero]
  refine wpAnyH_done (by kernel_rfl) ?_ _
  have HX2 := Lib.hid hHeld
  clear hHeld
  have s0 := (cell_of_row _ _ 0 _ _ _ HX2.out).trans rfl
  have s1 := (cell_of_row _ _ 1 _ _ _ HX2.out).trans rfl
  have s2 := (cell_of_row _ _ 2 _ _ _ HX2.out).trans rfl
  have s3 := (cell_of_row _ _ 3 _ _ _ HX2.out).trans rfl
  have s4 := (cell_of_row _ _ 4 _ _ _ HX2.out).trans rfl
  have s5 := (cell_of_row _ _ 5 _ _ _ HX2.out).trans rfl
  have s6 := (cell_of_row _ _ 6 _ _ _ HX2.out).trans rfl
  go_wp2_with fail
  refine (rnodest_any w.heap.size _ _ ([83] ++ numI (s.index) ++ numI (s.term)) s.nodes _ HOa1.out HBa1.out.size (fun w' hw' => HN.out.below (HBa1.out.trans hw') (Nat.le_refl _)) (fun n hn => by have := Q4.out n hn; omega) (by simp only [List.length_append, List.length_cons, List.length_nil]; omega) (by omega)).mono ?_
  rintro e wn ⟨vn, rfl, hon, hbn, htn⟩
  have HOn := Lib.hid hon
  have HBn := Lib.hid (HBa1.out.trans hbn)
  have HTn := Lib.hid (HTa1.out.trans htn)
  have HXn := Lib.hid (htn _ _ _ _ HX2.out (by decide))
  clear hon hbn htn s0 s1 s2 s3 s4 s5 s6 HX2
  go_upto_region 3 with (fail)
  have HOnd := Lib.hid (HOn.out.below ((Below.refl wn.heap.size wn).drew) (Nat.le_refl _))
  have HBnd := Lib.hid (HBn.out.drew)
  have HTnd := Lib.hid (HTn.out.trans (ByT.of (Below.refl _ _).drew))
  refine wp_region_held_drew (S := fun w' => w'.heap[w.heap.size]? = some (.cells (sArr s (.slice a1 s.nodes.length b1) (.slice a2 s.led.held.length b2) (.slice a3 s.led.last.length b3)) 30 (0, 0))) (by kernel_rfl) HXn.out (fun hHeld => ?_)
  refine wpAnyH_take (i := 0) (v := vn) rfl (by kernel_rfl) (by kernel_rfl) (by kernel_rfl) (fun _ _ _ h => h) (Or.inl ⟨by kernel_rfl, ?_⟩) (by assumption) ?_
  · intro wx hSw
    clear hSw hHeld
    go_simp
    try first | with_reducible rfl | kernel_rfl
  simp only [Act.put, List.getElem_toArray, List.getElem_cons_zero, List.setIfInBounds_toArray, List.set_cons_succ, List.set_cons_zero]
  refine wpAnyH_take (i := 1) (v := .pointer (some ⟨w.heap.size, 3, none⟩)) rfl (by kernel_rfl) (by kernel_rfl) (by kernel_rfl) (fun _ _ _ h => h) (Or.inl ⟨by kernel_rfl, ?_⟩) (by assumption) ?_
  · intro wx hSw
    clear hSw hHeld
    go_simp
    try first | with_reducible rfl | kernel_rfl
  simp only [Act.put, List.getElem_toArray, List.getElem_cons_succ, List.getElem_cons_zero, List.setIfInBounds_toArray, List.set_cons_succ, List.set_cons_zero]
  refine wpAnyH_take (i := 2) (v := .pointer (some ⟨w.heap.size, 3, none⟩)) rfl (by kernel_rfl) (by kernel_rfl) (by kernel_rfl) (fun _ _ _ h => h) (Or.inl ⟨by kernel_rfl, ?_⟩) (by assumption) ?_
  · intro wx hSw
    clear hSw hHeld
    go_simp
    try first | with_reducible rfl | kernel_rfl
  simp only [Act.put, List.getElem_toArray, List.getElem_cons_succ, List.getElem_cons_zero, List.setIfInBounds_toArray, List.set_cons_succ, List.set_cons_zero]
  refine wpAnyH_take (i := 3) (v := (.int .i64 s.led.limit)) rfl (by kernel_rfl) (by kernel_rfl) (by kernel_rfl) (fun _ _ _ h => h) (Or.inl ⟨by kernel_rfl, ?_⟩) (by assumption) ?_
  · intro wx hSw
    have cc : wx.cell? ⟨w.heap.size, 3, none⟩ = some (.int .i64 s.led.limit) := (cell_of_row wx _ 3 _ _ _ hSw).trans rfl
    clear hSw hHeld
    go_simp
    try first | with_reducible rfl | kernel_rfl
  simp only [Act.put, List.getElem_toArray, List.getElem_cons_succ, List.getElem_cons_zero, List.setIfInBounds_toArray, List.set_cons_succ, List.set_cons_zero]
  refine wpAnyH_take (i := 4) (v := (.int .u64 s.led.limit)) rfl (by kernel_rfl) (by kernel_rfl) (by kernel_rfl) (fun _ _ _ h => h) (Or.inl ⟨by kernel_rfl, ?_⟩) (by assumption) ?_
  · intro wx hSw
    clear hSw hHeld
    go_simp
    try first | with_reducible rfl | kernel_rfl
  simp only [Act.put, List.getElem_toArray, List.getElem_cons_succ, List.getElem_cons_zero, List.setIfInBounds_toArray, List.set_cons_succ, List.set_cons_zero]
  refine wpAnyH_take (i := 6) (v := .pointer (some ⟨w.heap.size, 3, none⟩)) rfl (by kernel_rfl) (by kernel_rfl) (by kernel_rfl) (fun _ _ _ h => h) (Or.inl ⟨by kernel_rfl, ?_⟩) (by assumption) ?_
  · intro wx hSw
    clear hSw hHeld
    go_simp
    try first | with_reducible rfl | kernel_rfl
  simp only [Act.put, List.getElem_toArray, List.getElem_cons_succ, List.getElem_cons_zero, List.setIfInBounds_toArray, List.set_cons_succ, List.set_cons_zero]
  refine wpAnyH_take (i := 7) (v := .pointer (some ⟨w.heap.size, 4, none⟩)) rfl (by kernel_rfl) (by kernel_rfl) (by kernel_rfl) (fun _ _ _ h => h) (Or.inl ⟨by kernel_rfl, ?_⟩) (by assumption) ?_
  · intro wx hSw
    clear hSw hHeld
    go_simp
    try first | with_reducible rfl | kernel_rfl
  simp only [Act.put, List.getElem_toArray, List.getElem_cons_succ, List.getElem_cons_zero, List.setIfInBounds_toArray, List.set_cons_succ, List.set_cons_zero]
  refine wpAnyH_take (i := 8) (v := (.int .u64 s.led.next)) rfl (by kernel_rfl) (by kernel_rfl) (by kernel_rfl) (fun _ _ _ h => h) (Or.inl ⟨by kernel_rfl, ?_⟩) (by assumption) ?_
  · intro wx hSw
    have cc : wx.cell? ⟨w.heap.size, 4, none⟩ = some (.int .u64 s.led.next) := (cell_of_row wx _ 4 _ _ _ hSw).trans rfl
    clear hSw hHeld
    go_simp
    try first | with_reducible rfl | kernel_rfl
  simp only [Act.put, List.getElem_toArray, List.getElem_cons_succ, List.getElem_cons_zero, List.setIfInBounds_toArray, List.set_cons_succ, List.set_cons_zero]
  refine wpAnyH_ready (rs := [5]) (by kernel_rfl) (by simp) ?_
  refine AllReadyH.cons rfl (fun K hK => ?_) AllReadyH.nil
  go_simp
  refine (rnumb_any w.heap.size _ ([83] ++ numI (s.index) ++ numI (s.term) ++ numI (s.nodes.length : Int) ++ encN s.nodes) (s.led.limit) wn.drew HOnd.out HBnd.out.size (by omega) (by simp only [List.length_append, List.length_cons, List.length_nil]; omega)).mono ?_
  rintro e wb0 ⟨vb0, rfl, hob0, hbb0, htb0⟩
  have HOb0 := Lib.hid hob0
  have HBb0 := Lib.hid (HBnd.out.trans hbb0)
  have HTb0 := Lib.hid (HTnd.out.trans htb0)
  have hSb0 := htb0 _ _ _ _ hHeld (by decide)
  clear hob0 hbb0 htb0 hHeld
  refine hK.out _ _ hSb0 (fun hHeld => ?_)
  clear hK K hSb0
  refine wpAnyH_ready (rs := [9]) (by kernel_rfl) (by simp) ?_
  refine AllReadyH.cons rfl (fun K hK => ?_) AllReadyH.nil
  go_simp
  refine (rnumb_any w.heap.size vb0 ([83] ++ numI (s.index) ++ numI (s.term) ++ numI (s.nodes.length : Int) ++ encN s.nodes ++ numI (s.led.limit)) (s.led.next) wb0 HOb0.out HBb0.out.size q6 (by simp only [List.length_append, List.length_cons, List.length_nil]; omega)).mono ?_
  rintro e wb1 ⟨vb1, rfl, hob1, hbb1, htb1⟩
  have HOb1 := Lib.hid hob1
  have HBb1 := Lib.hid (HBb0.out.trans hbb1)
  have HTb1 := Lib.hid (HTb0.out.trans htb1)
  have hSb1 := htb1 _ _ _ _ hHeld (by decide)
  clear hob1 hbb1 htb1 hHeld
  refine hK.out _ _ hSb1 (fun hHeld => ?_)
  clear hK K hSb1
  refine wpAnyH_take (i := 10) (v := vb1) rfl (by kernel_rfl) (by kernel_rfl) (by kernel_rfl) (fun _ _ _ h => h) (Or.inl ⟨by kernel_rfl, ?_⟩) (by assumption) ?_
  · intro wx hSw
    clear hSw hHeld
    go_simp
    try first | with_reducible rfl | kernel_rfl
  simp only [Act.put, List.getElem_toArray, List.getElem_cons_succ, List.getElem_cons_zero, List.setIfInBounds_toArray, List.set_cons_succ, List.set_cons_zero]
  refine wpAnyH_done (by kernel_rfl) ?_ _
  have HX3 := Lib.hid hHeld
  clear hHeld HXn HOnd HBnd HTnd HOn HBn HTn
  have s0 := (cell_of_row _ _ 0 _ _ _ HX3.out).trans rfl
  have s1 := (cell_of_row _ _ 1 _ _ _ HX3.out).trans rfl
  have s2 := (cell_of_row _ _ 2 _ _ _ HX3.out).trans rfl
  have s3 := (cell_of_row _ _ 3 _ _ _ HX3.out).trans rfl
  have s4 := (cell_of_row _ _ 4 _ _ _ HX3.out).trans rfl
  have s5 := (cell_of_row _ _ 5 _ _ _ HX3.out).trans rfl
  have s6 := (cell_of_row _ _ 6 _ _ _ HX3.out).trans rfl
  go_wp2_with fail
  refine (rnumb_any w.heap.size _ ([83] ++ numI (s.index) ++ numI (s.term) ++ numI (s.nodes.length : Int) ++ encN s.nodes ++ numI (s.led.limit) ++ numI (s.led.next)) (s.led.held.length : Int) _ HOb1.out HBb1.out.size (by omega) (by simp only [List.length_append, List.length_cons, List.length_nil]; omega)).mono ?_
  rintro e w4 ⟨v4, rfl, ho4, hb4, ht4⟩
  have HO4 := Lib.hid ho4
  have HB4 := Lib.hid (HBb1.out.trans hb4)
  have HX4 := Lib.hid (ht4 _ _ _ _ HX3.out (by decide))
  clear ho4 hb4 ht4 HX3 HOb1 HBb1 HTb1 HOb0 HBb0 HTb0
  clear s0 s1 s2 s3 s4 s5 s6
  have s0 := (cell_of_row _ _ 0 _ _ _ HX4.out).trans rfl
  have s1 := (cell_of_row _ _ 1 _ _ _ HX4.out).trans rfl
  have s2 := (cell_of_row _ _ 2 _ _ _ HX4.out).trans rfl
  have s3 := (cell_of_row _ _ 3 _ _ _ HX4.out).trans rfl
  have s4 := (cell_of_row _ _ 4 _ _ _ HX4.out).trans rfl
  have s5 := (cell_of_row _ _ 5 _ _ _ HX4.out).trans rfl
  have s6 := (cell_of_row _ _ 6 _ _ _ HX4.out).trans rfl
  go_wp2_with fail
  clear s0 s1 s2 s3 s4 s5 s6
  go_loopw [3, 40] (fun sv i wr => ∃ (k : Nat) (bv : Value), bv = sv ∧ k ≤ s.led.held.length ∧ i = .int .i64 k ∧ Hid (Own wr w.heap.size bv ([83] ++ numI (s.index) ++ numI (s.term) ++ numI (s.nodes.length : Int) ++ encN s.nodes ++ numI (s.led.limit) ++ numI (s.led.next) ++ numI (s.led.held.length : Int) ++ encN (heldsNs (s.led.held.take k)))) ∧ Hid (Below w.heap.size w wr) ∧ Hid (ByT w4 wr)) (fun _ i _ => s.led.held.length - (intOf i).toNat)
  case atStart => exact ⟨0, _, rfl, Nat.zero_le _, rfl, Lib.hid (by rw [show encN (heldsNs (s.led.held.take 0)) = [] from rfl, List.append_nil]; exact HO4.out), HB4, Lib.hid (ByT.refl _)⟩
  case round =>
    clear HO4 HB4
    obtain ⟨k, bv, rfl, hk, rfl, HO, HB, HT⟩ := hrel
    by_cases hlt : k < s.led.held.length
    · obtain ⟨b, off, hab, hbl, hcc⟩ := Ld.rows_open hlt HH.out
      subst hab
      have hrg : wr.rangeAt b (off + k * 5) (heldC s.led.held[k]) := fun jj u hu => by
        have q := (HB.out.cell (p := ⟨b, off + (k * 5 + jj), none⟩) hbl).trans (hcc k _ (List.getElem?_eq_getElem hlt) jj u hu)
        rw [Nat.add_assoc]
        exact q
      have HMEM := Lib.hid (List.getElem_mem hlt)
      have HTK : Hid (s.led.held.take (k + 1) = s.led.held.take k ++ [s.led.held[k]]) := Lib.hid (by rw [List.take_add_one, List.getElem?_eq_getElem hlt]; rfl)
      clear hcc hbl
      generalize s.led.held[k] = x at hrg HMEM HTK
      have hsE : (wr.alloc (.cells zHE 79)).heap[wr.heap.size]? = some (.cells zHE 79 (0, 0)) := heap_alloc_new _ _
      obtain ⟨W1, hW1⟩ : ∃ q, (wr.alloc (.cells zHE 79)).setRow wr.heap.size (heldC x).toArray = q := ⟨_, rfl⟩
      have hbE : Below wr.heap.size wr W1 := by rw [← hW1]; exact Ld.below_row ((Below.refl _ _).alloc (Nat.le_refl _) _) (Nat.le_refl _) _
      have HE1 : Hid (W1.heap[wr.heap.size]? = some (.cells (heldC x).toArray 79 (0, 0))) := Lib.hid (by rw [← hW1]; exact setRow_heap _ _ _ _ _ _ hsE)
      have HB1 := Lib.hid (HB.out.trans (hbE.mono HB.out.size))
      have HT1 := Lib.hid (HT.out.trans (ByT.of hbE))
      have HO1 : Hid (Own W1 w.heap.size bv _) := Lib.hid (HO.out.below hbE (Nat.le_refl _))
      obtain ⟨⟨t1, t2⟩, ⟨t3, t4⟩, ⟨t5, t6⟩, ⟨t7, t8⟩, ⟨t9, t10⟩⟩ := Q8.out x HMEM.out
      have p5 : IntKind.u64.wrap x.token = x.token := by (unfold IntKind.wrap; simp [IntKind.signed, IntKind.bits]; omega)
      have p6 : IntKind.u64.wrap x.node = x.node := by (unfold IntKind.wrap; simp [IntKind.signed, IntKind.bits]; omega)
      have hx0 := numI_len (n := x.token) (by omega) (by omega)
      have hx1 := numI_len (n := x.node) (by omega) (by omega)
      have hx2 := numI_len (n := x.boot) (by omega) (by omega)
      have hx3 := numI_len (n := x.serial) (by omega) (by omega)
      have hx4 := numI_len (n := x.stamp) (by omega) (by omega)
      have hl4 := (encN_len (heldsNs (s.led.held.take k)) fun n hn => HNS.out n (heldsNs_take hn)).1
      rw [heldsNs_len, List.length_take, Nat.min_eq_left hk] at hl4
      have hkz : (k : Int) < (s.led.held.length : Int) := by omega
      clear hbE
      go_upto_region 8 with (first
        | (with_reducible refine wpList_load_mid rfl 79 (.tmp 42) rfl b (off + k * 5) rfl (heldC x) _ hrg Tryd.underlying79 rfl (by kernel_rfl) ?_)
        | (with_reducible refine wpList_store_row rfl 79 (.tmp 5) (.tmp 43) rfl wr.heap.size (heldC x).toArray rfl rfl 79 _ hsE (by kernel_rfl) rfl (heldA_one _) ?_; rw [hW1]; clear hW1 hsE))
      have HO1d := Lib.hid (HO1.out.below ((Below.refl W1.heap.size W1).drew) (Nat.le_refl _))
      have HB1d := Lib.hid (HB1.out.drew)
      have HT1d := Lib.hid (HT1.out.trans (ByT.of (Below.refl _ _).drew))
      refine wp_region_held_drew (S := fun w' => w'.heap[wr.heap.size]? = some (.cells (heldC x).toArray 79 (0, 0))) (by kernel_rfl) HE1.out (fun hHeld => ?_)
      refine wpAnyH_take (i := 0) (v := bv) rfl (by kernel_rfl) (by kernel_rfl) (by kernel_rfl) (fun _ _ _ h => h) (Or.inl ⟨by kernel_rfl, ?_⟩) (by assumption) ?_
      · intro wx hSw
        clear hSw hHeld
        go_simp
        try first | with_reducible rfl | kernel_rfl
      simp only [Act.put, List.getElem_toArray, List.getElem_cons_zero, List.setIfInBounds_toArray, List.set_cons_succ, List.set_cons_zero]
      refine wpAnyH_take (i := 1) (v := .pointer (some ⟨wr.heap.size, 0, none⟩)) rfl (by kernel_rfl) (by kernel_rfl) (by kernel_rfl) (fun _ _ _ h => h) (Or.inl ⟨by kernel_rfl, ?_⟩) (by assumption) ?_
      · intro wx hSw
        clear hSw hHeld
        go_simp
        try first | with_reducible rfl | kernel_rfl
      simp only [Act.put, List.getElem_toArray, List.getElem_cons_succ, List.getElem_cons_zero, List.setIfInBounds_toArray, List.set_cons_succ, List.set_cons_zero]
      refine wpAnyH_take (i := 2) (v := (.int .i64 x.token)) rfl (by kernel_rfl) (by kernel_rfl) (by kernel_rfl) (fun _ _ _ h => h) (Or.inl ⟨by kernel_rfl, ?_⟩) (by assumption) ?_
      · intro wx hSw
        have cc : wx.cell? ⟨wr.heap.size, 0, none⟩ = some (.int .i64 x.token) := (cell_of_row wx _ 0 _ _ _ hSw).trans rfl
        clear hSw hHeld
        go_simp
        try first | with_reducible rfl | kernel_rfl
      simp only [Act.put, List.getElem_toArray, List.getElem_cons_succ, List.getElem_cons_zero, List.setIfInBounds_toArray, List.set_cons_succ, List.set_cons_zero]
      refine wpAnyH_take (i := 3) (v := (.int .u64 x.token)) rfl (by kernel_rfl) (by kernel_rfl) (by kernel_rfl) (fun _ _ _ h => h) (Or.inl ⟨by kernel_rfl, ?_⟩) (by assumption) ?_
      · intro wx hSw
        clear hSw hHeld
        go_simp
        try first | with_reducible rfl | kernel_rfl
      simp only [Act.put, List.getElem_toArray, List.getElem_cons_succ, List.getElem_cons_zero, List.setIfInBounds_toArray, List.set_cons_succ, List.set_cons_zero]
      refine wpAnyH_take (i := 5) (v := .pointer (some ⟨wr.heap.size, 1, none⟩)) rfl (by kernel_rfl) (by kernel_rfl) (by kernel_rfl) (fun _ _ _ h => h) (Or.inl ⟨by kernel_rfl, ?_⟩) (by assumption) ?_
      · intro wx hSw
        clear hSw hHeld
        go_simp
        try first | with_reducible rfl | kernel_rfl
      simp only [Act.put, List.getElem_toArray, List.getElem_cons_succ, List.getElem_cons_zero, List.setIfInBounds_toArray, List.set_cons_succ, List.set_cons_zero]
      refine wpAnyH_take (i := 6) (v := (.int .i64 x.node)) rfl (by kernel_rfl) (by kernel_rfl) (by kernel_rfl) (fun _ _ _ h => h) (Or.inl ⟨by kernel_rfl, ?_⟩) (by assumption) ?_
      · intro wx hSw
        have cc : wx.cell? ⟨wr.heap.size, 1, none⟩ = some (.int .i64 x.node) := (cell_of_row wx _ 1 _ _ _ hSw).trans rfl
        clear hSw hHeld
        go_simp
        try first | with_reducible rfl | kernel_rfl
      simp only [Act.put, List.getElem_toArray, List.getElem_cons_succ, List.getElem_cons_zero, List.setIfInBounds_toArray, List.set_cons_succ, List.set_cons_zero]
      refine wpAnyH_take (i := 7) (v := (.int .u64 x.node)) rfl (by kernel_rfl) (by kernel_rfl) (by kernel_rfl) (fun _ _ _ h => h) (Or.inl ⟨by kernel_rfl, ?_⟩) (by assumption) ?_
      · intro wx hSw
        clear hSw hHeld
        go_simp
        try first | with_reducible rfl | kernel_rfl
      simp only [Act.put, List.getElem_toArray, List.getElem_cons_succ, List.getElem_cons_zero, List.setIfInBounds_toArray, List.set_cons_succ, List.set_cons_zero]
      refine wpAnyH_take (i := 9) (v := .pointer (some ⟨wr.heap.size, 2, none⟩)) rfl (by kernel_rfl) (by kernel_rfl) (by kernel_rfl) (fun _ _ _ h => h) (Or.inl ⟨by kernel_rfl, ?_⟩) (by assumption) ?_
      · intro wx hSw
        clear hSw hHeld
        go_simp
        try first | with_reducible rfl | kernel_rfl
      simp only [Act.put, List.getElem_toArray, List.getElem_cons_succ, List.getElem_cons_zero, List.setIfInBounds_toArray, List.set_cons_succ, List.set_cons_zero]
      refine wpAnyH_take (i := 10) (v := (.int .u64 x.boot)) rfl (by kernel_rfl) (by kernel_rfl) (by kernel_rfl) (fun _ _ _ h => h) (Or.inl ⟨by kernel_rfl, ?_⟩) (by assumption) ?_
      · intro wx hSw
        have cc : wx.cell? ⟨wr.heap.size, 2, none⟩ = some (.int .u64 x.boot) := (cell_of_row wx _ 2 _ _ _ hSw).trans rfl
        clear hSw hHeld
        go_simp
        try first | with_reducible rfl | kernel_rfl
      simp only [Act.put, List.getElem_toArray, List.getElem_cons_succ, List.getElem_cons_zero, List.setIfInBounds_toArray, List.set_cons_succ, List.set_cons_zero]
      refine wpAnyH_take (i := 12) (v := .pointer (some ⟨wr.heap.size, 3, none⟩)) rfl (by kernel_rfl) (by kernel_rfl) (by kernel_rfl) (fun _ _ _ h => h) (Or.inl ⟨by kernel_rfl, ?_⟩) (by assumption) ?_
      · intro wx hSw
        clear hSw hHeld
        go_simp
        try first | with_reducible rfl | kernel_rfl
      simp only [Act.put, List.getElem_toArray, List.getElem_cons_succ, List.getElem_cons_zero, List.setIfInBounds_toArray, List.set_cons_succ, List.set_cons_zero]
      refine wpAnyH_take (i := 13) (v := (.int .u64 x.serial)) rfl (by kernel_rfl) (by kernel_rfl) (by kernel_rfl) (fun _ _ _ h => h) (Or.inl ⟨by kernel_rfl, ?_⟩) (by assumption) ?_
      · intro wx hSw
        have cc : wx.cell? ⟨wr.heap.size, 3, none⟩ = some (.int .u64 x.serial) := (cell_of_row wx _ 3 _ _ _ hSw).trans rfl
        clear hSw hHeld
        go_simp
        try first | with_reducible rfl | kernel_rfl
      simp only [Act.put, List.getElem_toArray, List.getElem_cons_succ, List.getElem_cons_zero, List.setIfInBounds_toArray, List.set_cons_succ, List.set_cons_zero]
      refine wpAnyH_take (i := 15) (v := .pointer (some ⟨wr.heap.size, 4, none⟩)) rfl (by kernel_rfl) (by kernel_rfl) (by kernel_rfl) (fun _ _ _ h => h) (Or.inl ⟨by kernel_rfl, ?_⟩) (by assumption) ?_
      · intro wx hSw
        clear hSw hHeld
        go_simp
        try first | with_reducible rfl | kernel_rfl
      simp only [Act.put, List.getElem_toArray, List.getElem_cons_succ, List.getElem_cons_zero, List.setIfInBounds_toArray, List.set_cons_succ, List.set_cons_zero]
      refine wpAnyH_take (i := 16) (v := (.int .u64 x.stamp)) rfl (by kernel_rfl) (by kernel_rfl) (by kernel_rfl) (fun _ _ _ h => h) (Or.inl ⟨by kernel_rfl, ?_⟩) (by assumption) ?_
      · intro wx hSw
        have cc : wx.cell? ⟨wr.heap.size, 4, none⟩ = some (.int .u64 x.stamp) := (cell_of_row wx _ 4 _ _ _ hSw).trans rfl
        clear hSw hHeld
        go_simp
        try first | with_reducible rfl | kernel_rfl
      simp only [Act.put, List.getElem_toArray, List.getElem_cons_succ, List.getElem_cons_zero, List.setIfInBounds_toArray, List.set_cons_succ, List.set_cons_zero]
      refine wpAnyH_ready (rs := [4]) (by kernel_rfl) (by simp) ?_
      refine AllReadyH.cons rfl (fun K hK => ?_) AllReadyH.nil
      go_simp
      refine (rnumb_any w.heap.size _ ([83] ++ numI (s.index) ++ numI (s.term) ++ numI (s.nodes.length : Int) ++ encN s.nodes ++ numI (s.led.limit) ++ numI (s.led.next) ++ numI (s.led.held.length : Int) ++ encN (heldsNs (s.led.held.take k))) (x.token) W1.drew HO1d.out HB1d.out.size (by omega) (by simp only [List.length_append, List.length_cons, List.length_nil]; omega)).mono ?_
      rintro e wh0 ⟨vh0, rfl, hoh0, hbh0, hth0⟩
      have HOh0 := Lib.hid hoh0
      have HBh0 := Lib.hid (HB1d.out.trans hbh0)
      have HTh0 := Lib.hid (HT1d.out.trans hth0)
      have hSh0 := hth0 _ _ _ _ hHeld (by decide)
      clear hoh0 hbh0 hth0 hHeld
      refine hK.out _ _ hSh0 (fun hHeld => ?_)
      clear hK K hSh0
      refine wpAnyH_ready (rs := [8]) (by kernel_rfl) (by simp) ?_
      refine AllReadyH.cons rfl (fun K hK => ?_) AllReadyH.nil
      go_simp
      refine (rnumb_any w.heap.size vh0 ([83] ++ numI (s.index) ++ numI (s.term) ++ numI (s.nodes.length : Int) ++ encN s.nodes ++ numI (s.led.limit) ++ numI (s.led.next) ++ numI (s.led.held.length : Int) ++ encN (heldsNs (s.led.held.take k)) ++ numI (x.token)) (x.node) wh0 HOh0.out HBh0.out.size (by omega) (by simp only [List.length_append, List.length_cons, List.length_nil]; omega)).mono ?_
      rintro e wh1 ⟨vh1, rfl, hoh1, hbh1, hth1⟩
      have HOh1 := Lib.hid hoh1
      have HBh1 := Lib.hid (HBh0.out.trans hbh1)
      have HTh1 := Lib.hid (HTh0.out.trans hth1)
      have hSh1 := hth1 _ _ _ _ hHeld (by decide)
      clear hoh1 hbh1 hth1 hHeld
      refine hK.out _ _ hSh1 (fun hHeld => ?_)
      clear hK K hSh1
      refine wpAnyH_ready (rs := [11]) (by kernel_rfl) (by simp) ?_
      refine AllReadyH.cons rfl (fun K hK => ?_) AllReadyH.nil
      go_simp
      refine (rnumb_any w.heap.size vh1 ([83] ++ numI (s.index) ++ numI (s.term) ++ numI (s.nodes.length : Int) ++ encN s.nodes ++ numI (s.led.limit) ++ numI (s.led.next) ++ numI (s.led.held.length : Int) ++ encN (heldsNs (s.led.held.take k)) ++ numI (x.token) ++ numI (x.node)) (x.boot) wh1 HOh1.out HBh1.out.size (by omega) (by simp only [List.length_append, List.length_cons, List.length_nil]; omega)).mono ?_
      rintro e wh2 ⟨vh2, rfl, hoh2, hbh2, hth2⟩
      have HOh2 := Lib.hid hoh2
      have HBh2 := Lib.hid (HBh1.out.trans hbh2)
      have HTh2 := Lib.hid (HTh1.out.trans hth2)
      have hSh2 := hth2 _ _ _ _ hHeld (by decide)
      clear hoh2 hbh2 hth2 hHeld
      refine hK.out _ _ hSh2 (fun hHeld => ?_)
      clear hK K hSh2
      refine wpAnyH_ready (rs := [14]) (by kernel_rfl) (by simp) ?_
      refine AllReadyH.cons rfl (fun K hK => ?_) AllReadyH.nil
      go_simp
      refine (rnumb_any w.heap.size vh2 ([83] ++ numI (s.index) ++ numI (s.term) ++ numI (s.nodes.length : Int) ++ encN s.nodes ++ numI (s.led.limit) ++ numI (s.led.next) ++ numI (s.led.held.length : Int) ++ encN (heldsNs (s.led.held.take k)) ++ numI (x.token) ++ numI (x.node) ++ numI (x.boot)) (x.serial) wh2 HOh2.out HBh2.out.size (by omega) (by simp only [List.length_append, List.length_cons, List.length_nil]; omega)).mono ?_
      rintro e wh3 ⟨vh3, rfl, hoh3, hbh3, hth3⟩
      have HOh3 := Lib.hid hoh3
      have HBh3 := Lib.hid (HBh2.out.trans hbh3)
      have HTh3 := Lib.hid (HTh2.out.trans hth3)
      have hSh3 := hth3 _ _ _ _ hHeld (by decide)
      clear hoh3 hbh3 hth3 hHeld
      refine hK.out _ _ hSh3 (fun hHeld => ?_)
      clear hK K hSh3
      refine wpAnyH_ready (rs := [17]) (by kernel_rfl) (by simp) ?_
      refine AllReadyH.cons rfl (fun K hK => ?_) AllReadyH.nil
      go_simp
      refine (rnumb_any w.heap.size vh3 ([83] ++ numI (s.index) ++ numI (s.term) ++ numI (s.nodes.length : Int) ++ encN s.nodes ++ numI (s.led.limit) ++ numI (s.led.next) ++ numI (s.led.held.length : Int) ++ encN (heldsNs (s.led.held.take k)) ++ numI (x.token) ++ numI (x.node) ++ numI (x.boot) ++ numI (x.serial)) (x.stamp) wh3 HOh3.out HBh3.out.size (by omega) (by simp only [List.length_append, List.length_cons, List.length_nil]; omega)).mono ?_
      rintro e wh4 ⟨vh4, rfl, hoh4, hbh4, hth4⟩
      have HOh4 := Lib.hid hoh4
      have HBh4 := Lib.hid (HBh3.out.trans hbh4)
      have HTh4 := Lib.hid (HTh3.out.trans hth4)
      have hSh4 := hth4 _ _ _ _ hHeld (by decide)
      clear hoh4 hbh4 hth4 hHeld
      refine hK.out _ _ hSh4 (fun hHeld => ?_)
      clear hK K hSh4
      refine wpAnyH_take (i := 18) (v := vh4) rfl (by kernel_rfl) (by kernel_rfl) (by kernel_rfl) (fun _ _ _ h => h) (Or.inl ⟨by kernel_rfl, ?_⟩) (by assumption) ?_
      · intro wx hSw
        clear hSw hHeld
        go_simp
        try first | with_reducible rfl | kernel_rfl
      simp only [Act.put, List.getElem_toArray, List.getElem_cons_succ, List.getElem_cons_zero, List.setIfInBounds_toArray, List.set_cons_succ, List.set_cons_zero]
      refine wpAnyH_done (by kernel_rfl) ?_ _
      have HO8 : Hid (Own wh4 w.heap.size vh4 ([83] ++ numI (s.index) ++ numI (s.term) ++ numI (s.nodes.length : Int) ++ encN s.nodes ++ numI (s.led.limit) ++ numI (s.led.next) ++ numI (s.led.held.length : Int) ++ encN (heldsNs (s.led.held.take (k + 1))))) := Lib.hid (by
        rw [HTK.out, heldsNs_snoc, encN_app, show encN (heldNs x) = numI x.token ++ (numI x.node ++ (numI x.boot ++ (numI x.serial ++ (numI x.stamp ++ [])))) from rfl, List.append_nil]
        simpa only [List.append_assoc] using HOh4.out)
      clear hHeld hx0 hx1 hx2 hx3 hx4
      go_wp2_with fail
      go_roundw
      case rel => exact ⟨k + 1, _, rfl, by omega, by go_num, HO8, HBh4, HTh4⟩
      case measure => simp [intOf]; omega
    · obtain rfl : k = s.led.held.length := by omega
      have HO9 : Hid (Own wr w.heap.size bv ([83] ++ numI (s.index) ++ numI (s.term) ++ numI (s.nodes.length : Int) ++ encN s.nodes ++ numI (s.led.limit) ++ numI (s.led.next) ++ numI (s.led.held.length : Int) ++ encN (heldsNs s.led.held))) := Lib.hid (by have q := HO.out; rwa [List.take_length] at q)
      obtain ⟨w9, hw9⟩ : ∃ q, q = wr := ⟨_, rfl⟩
      rw [← hw9] at HO9 HB HT ⊢
      have HB9 := HB
      have HX9 := Lib.hid (HT.out _ _ _ _ HX4.out (by decide))
      clear HO HB HT hw9 hlt HX4
      have s0 := (cell_of_row _ _ 0 _ _ _ HX9.out).trans rfl
      have s1 := (cell_of_row _ _ 1 _ _ _ HX9.out).trans rfl
      have s2 := (cell_of_row _ _ 2 _ _ _ HX9.out).trans rfl
      have s3 := (cell_of_row _ _ 3 _ _ _ HX9.out).trans rfl
      have s4 := (cell_of_row _ _ 4 _ _ _ HX9.out).trans rfl
      have s5 := (cell_of_row _ _ 5 _ _ _ HX9.out).trans rfl
      have s6 := (cell_of_row _ _ 6 _ _ _ HX9.out).trans rfl
      have hl4 := (encN_len (heldsNs s.led.held) fun n hn => HNS.out n hn).1
      rw [heldsNs_len] at hl4
      go_wp2_with fail
      refine (rnumb_any w.heap.size _ ([83] ++ numI (s.index) ++ numI (s.term) ++ numI (s.nodes.length : Int) ++ encN s.nodes ++ numI (s.led.limit) ++ numI (s.led.next) ++ numI (s.led.held.length : Int) ++ encN (heldsNs s.led.held)) (s.led.last.length : Int) _ HO9.out HB9.out.size (by omega) (by simp only [List.length_append, List.length_cons, List.length_nil]; omega)).mono ?_
      rintro e w10 ⟨v10, rfl, ho10, hb10, ht10⟩
      have HO10 := Lib.hid ho10
      have HB10 := Lib.hid (HB9.out.trans hb10)
      have HX10 := Lib.hid (ht10 _ _ _ _ HX9.out (by decide))
      clear ho10 hb10 ht10 HX9 HO9 HB9 s0 s1 s2 s3 s4 s5 s6
      have s0 := (cell_of_row _ _ 0 _ _ _ HX10.out).trans rfl
      have s1 := (cell_of_row _ _ 1 _ _ _ HX10.out).trans rfl
      have s2 := (cell_of_row _ _ 2 _ _ _ HX10.out).trans rfl
      have s3 := (cell_of_row _ _ 3 _ _ _ HX10.out).trans rfl
      have s4 := (cell_of_row _ _ 4 _ _ _ HX10.out).trans rfl
      have s5 := (cell_of_row _ _ 5 _ _ _ HX10.out).trans rfl
      have s6 := (cell_of_row _ _ 6 _ _ _ HX10.out).trans rfl
      go_wp2_with fail
      clear s0 s1 s2 s3 s4 s5 s6
      go_loopw [3, 74] (fun sv i wr => ∃ (k : Nat) (bv : Value), bv = sv ∧ k ≤ s.led.last.length ∧ i = .int .i64 k ∧ Hid (Own wr w.heap.size bv ([83] ++ numI (s.index) ++ numI (s.term) ++ numI (s.nodes.length : Int) ++ encN s.nodes ++ numI (s.led.limit) ++ numI (s.led.next) ++ numI (s.led.held.length : Int) ++ encN (heldsNs s.led.held) ++ numI (s.led.last.length : Int) ++ encN (lastsNs (s.led.last.take k)))) ∧ Hid (Below w.heap.size w wr) ∧ Hid (ByT w10 wr)) (fun _ i _ => s.led.last.length - (intOf i).toNat)
      case atStart => exact ⟨0, _, rfl, Nat.zero_le _, rfl, Lib.hid (by rw [show encN (lastsNs (s.led.last.take 0)) = [] from rfl, List.append_nil]; exact HO10.out), HB10, Lib.hid (ByT.refl _)⟩
      case round =>
        clear HO10 HB10
        obtain ⟨k, bv, rfl, hk, rfl, HO, HB, HT⟩ := hrel
        by_cases hlt : k < s.led.last.length
        · obtain ⟨b, off, hab, hbl, hcc⟩ := Ld.rows_open hlt HL.out
          subst hab
          have hrg : wr.rangeAt b (off + k * 6) (lastC s.led.last[k]) := fun jj u hu => by
            have q := (HB.out.cell (p := ⟨b, off + (k * 6 + jj), none⟩) hbl).trans (hcc k _ (List.getElem?_eq_getElem hlt) jj u hu)
            rw [Nat.add_assoc]
            exact q
          have HMEM := Lib.hid (List.getElem_mem hlt)
          have HTK : Hid (s.led.last.take (k + 1) = s.led.last.take k ++ [s.led.last[k]]) := Lib.hid (by rw [List.take_add_one, List.getElem?_eq_getElem hlt]; rfl)
          clear hcc hbl
          generalize s.led.last[k] = x at hrg HMEM HTK
          have hsE : (wr.alloc (.cells zLA 83)).heap[wr.heap.size]? = some (.cells zLA 83 (0, 0)) := heap_alloc_new _ _
          obtain ⟨W1, hW1⟩ : ∃ q, (wr.alloc (.cells zLA 83)).setRow wr.heap.size (lastC x).toArray = q := ⟨_, rfl⟩
          have hbE : Below wr.heap.size wr W1 := by rw [← hW1]; exact Ld.below_row ((Below.refl _ _).alloc (Nat.le_refl _) _) (Nat.le_refl _) _
          have HE1 : Hid (W1.heap[wr.heap.size]? = some (.cells (lastC x).toArray 83 (0, 0))) := Lib.hid (by rw [← hW1]; exact setRow_heap _ _ _ _ _ _ hsE)
          have HB1 := Lib.hid (HB.out.trans (hbE.mono HB.out.size))
          have HT1 := Lib.hid (HT.out.trans (ByT.of hbE))
          have HO1 : Hid (Own W1 w.heap.size bv _) := Lib.hid (HO.out.below hbE (Nat.le_refl _))
          obtain ⟨⟨t1, t2⟩, ⟨t3, t4⟩, ⟨t5, t6⟩, ⟨t7, t8⟩, ⟨t9, t10⟩, ⟨t11, t12⟩⟩ := Q10.out x HMEM.out
          have p5 : IntKind.u64.wrap x.node = x.node := by (unfold IntKind.wrap; simp [IntKind.signed, IntKind.bits]; omega)
          have p6 : IntKind.u64.wrap x.code = x.code := by (unfold IntKind.wrap; simp [IntKind.signed, IntKind.bits]; omega)
          have p7 : IntKind.u64.wrap x.token = x.token := by (unfold IntKind.wrap; simp [IntKind.signed, IntKind.bits]; omega)
          have hx0 := numI_len (n := x.node) (by omega) (by omega)
          have hx1 := numI_len (n := x.boot) (by omega) (by omega)
          have hx2 := numI_len (n := x.seq) (by omega) (by omega)
          have hx3 := numI_len (n := x.code) (by omega) (by omega)
          have hx4 := numI_len (n := x.token) (by omega) (by omega)
          have hx5 := numI_len (n := x.serial) (by omega) (by omega)
          have hl5 := (encN_len (lastsNs (s.led.last.take k)) fun n hn => LNS.out n (lastsNs_take hn)).1
          rw [lastsNs_len, List.length_take, Nat.min_eq_left hk] at hl5
          have hkz : (k : Int) < (s.led.last.length : Int) := by omega
          clear hbE
          go_upto_region 14 with (first
            | (with_reducible refine wpList_load_mid rfl 83 (.tmp 76) rfl b (off + k * 6) rfl (lastC x) _ hrg Tryd.underlying83 rfl (by kernel_rfl) ?_)
            | (with_reducible refine wpList_store_row rfl 83 (.tmp 7) (.tmp 77) rfl wr.heap.size (lastC x).toArray rfl rfl 83 _ hsE (by kernel_rfl) rfl (lastA_one _) ?_; rw [hW1]; clear hW1 hsE))
          have HO1d := Lib.hid (HO1.out.below ((Below.refl W1.heap.size W1).drew) (Nat.le_refl _))
          have HB1d := Lib.hid (HB1.out.drew)
          have HT1d := Lib.hid (HT1.out.trans (ByT.of (Below.refl _ _).drew))
          refine wp_region_held_drew (S := fun w' => w'.heap[wr.heap.size]? = some (.cells (lastC x).toArray 83 (0, 0))) (by kernel_rfl) HE1.out (fun hHeld => ?_)
          refine wpAnyH_take (i := 0) (v := bv) rfl (by kernel_rfl) (by kernel_rfl) (by kernel_rfl) (fun _ _ _ h => h) (Or.inl ⟨by kernel_rfl, ?_⟩) (by assumption) ?_
          · intro wx hSw
            clear hSw hHeld
            go_simp
            try first | with_reducible rfl | kernel_rfl
          simp only [Act.put, List.getElem_toArray, List.getElem_cons_zero, List.setIfInBounds_toArray, List.set_cons_succ, List.set_cons_zero]
          refine wpAnyH_take (i := 1) (v := .pointer (some ⟨wr.heap.size, 0, none⟩)) rfl (by kernel_rfl) (by kernel_rfl) (by kernel_rfl) (fun _ _ _ h => h) (Or.inl ⟨by kernel_rfl, ?_⟩) (by assumption) ?_
          · intro wx hSw
            clear hSw hHeld
            go_simp
            try first | with_reducible rfl | kernel_rfl
          simp only [Act.put, List.getElem_toArray, List.getElem_cons_succ, List.getElem_cons_zero, List.setIfInBounds_toArray, List.set_cons_succ, List.set_cons_zero]
          refine wpAnyH_take (i := 2) (v := (.int .i64 x.node)) rfl (by kernel_rfl) (by kernel_rfl) (by kernel_rfl) (fun _ _ _ h => h) (Or.inl ⟨by kernel_rfl, ?_⟩) (by assumption) ?_
          · intro wx hSw
            have cc : wx.cell? ⟨wr.heap.size, 0, none⟩ = some (.int .i64 x.node) := (cell_of_row wx _ 0 _ _ _ hSw).trans rfl
            clear hSw hHeld
            go_simp
            try first | with_reducible rfl | kernel_rfl
          simp only [Act.put, List.getElem_toArray, List.getElem_cons_succ, List.getElem_cons_zero, List.setIfInBounds_toArray, List.set_cons_succ, List.set_cons_zero]
          refine wpAnyH_take (i := 3) (v := (.int .u64 x.node)) rfl (by kernel_rfl) (by kernel_rfl) (by kernel_rfl) (fun _ _ _ h => h) (Or.inl ⟨by kernel_rfl, ?_⟩) (by assumption) ?_
          · intro wx hSw
            clear hSw hHeld
            go_simp
            try first | with_reducible rfl | kernel_rfl
          simp only [Act.put, List.getElem_toArray, List.getElem_cons_succ, List.getElem_cons_zero, List.setIfInBounds_toArray, List.set_cons_succ, List.set_cons_zero]
          refine wpAnyH_take (i := 5) (v := .pointer (some ⟨wr.heap.size, 1, none⟩)) rfl (by kernel_rfl) (by kernel_rfl) (by kernel_rfl) (fun _ _ _ h => h) (Or.inl ⟨by kernel_rfl, ?_⟩) (by assumption) ?_
          · intro wx hSw
            clear hSw hHeld
            go_simp
            try first | with_reducible rfl | kernel_rfl
          simp only [Act.put, List.getElem_toArray, List.getElem_cons_succ, List.getElem_cons_zero, List.setIfInBounds_toArray, List.set_cons_succ, List.set_cons_zero]
          refine wpAnyH_take (i := 6) (v := (.int .u64 x.boot)) rfl (by kernel_rfl) (by kernel_rfl) (by kernel_rfl) (fun _ _ _ h => h) (Or.inl ⟨by kernel_rfl, ?_⟩) (by assumption) ?_
          · intro wx hSw
            have cc : wx.cell? ⟨wr.heap.size, 1, none⟩ = some (.int .u64 x.boot) := (cell_of_row wx _ 1 _ _ _ hSw).trans rfl
            clear hSw hHeld
            go_simp
            try first | with_reducible rfl | kernel_rfl
          simp only [Act.put, List.getElem_toArray, List.getElem_cons_succ, List.getElem_cons_zero, List.setIfInBounds_toArray, List.set_cons_succ, List.set_cons_zero]
          refine wpAnyH_take (i := 8) (v := .pointer (some ⟨wr.heap.size, 2, none⟩)) rfl (by kernel_rfl) (by kernel_rfl) (by kernel_rfl) (fun _ _ _ h => h) (Or.inl ⟨by kernel_rfl, ?_⟩) (by assumption) ?_
          · intro wx hSw
            clear hSw hHeld
            go_simp
            try first | with_reducible rfl | kernel_rfl
          simp only [Act.put, List.getElem_toArray, List.getElem_cons_succ, List.getElem_cons_zero, List.setIfInBounds_toArray, List.set_cons_succ, List.set_cons_zero]
          refine wpAnyH_take (i := 9) (v := (.int .u64 x.seq)) rfl (by kernel_rfl) (by kernel_rfl) (by kernel_rfl) (fun _ _ _ h => h) (Or.inl ⟨by kernel_rfl, ?_⟩) (by assumption) ?_
          · intro wx hSw
            have cc : wx.cell? ⟨wr.heap.size, 2, none⟩ = some (.int .u64 x.seq) := (cell_of_row wx _ 2 _ _ _ hSw).trans rfl
            clear hSw hHeld
            go_simp
            try first | with_reducible rfl | kernel_rfl
          simp only [Act.put, List.getElem_toArray, List.getElem_cons_succ, List.getElem_cons_zero, List.setIfInBounds_toArray, List.set_cons_succ, List.set_cons_zero]
          refine wpAnyH_ready (rs := [4]) (by kernel_rfl) (by simp) ?_
          refine AllReadyH.cons rfl (fun K hK => ?_) AllReadyH.nil
          go_simp
          refine (rnumb_any w.heap.size _ ([83] ++ numI (s.index) ++ numI (s.term) ++ numI (s.nodes.length : Int) ++ encN s.nodes ++ numI (s.led.limit) ++ numI (s.led.next) ++ numI (s.led.held.length : Int) ++ encN (heldsNs s.led.held) ++ numI (s.led.last.length : Int) ++ encN (lastsNs (s.led.last.take k))) (x.node) W1.drew HO1d.out HB1d.out.size (by omega) (by simp only [List.length_append, List.length_cons, List.length_nil]; omega)).mono ?_
          rintro e wh0 ⟨vh0, rfl, hoh0, hbh0, hth0⟩
          have HOh0 := Lib.hid hoh0
          have HBh0 := Lib.hid (HB1d.out.trans hbh0)
          have HTh0 := Lib.hid (HT1d.out.trans hth0)
          have hSh0 := hth0 _ _ _ _ hHeld (by decide)
          clear hoh0 hbh0 hth0 hHeld
          refine hK.out _ _ hSh0 (fun hHeld => ?_)
          clear hK K hSh0
          refine wpAnyH_ready (rs := [7]) (by kernel_rfl) (by simp) ?_
          refine AllReadyH.cons rfl (fun K hK => ?_) AllReadyH.nil
          go_simp
          refine (rnumb_any w.heap.size vh0 ([83] ++ numI (s.index) ++ numI (s.term) ++ numI (s.nodes.length : Int) ++ encN s.nodes ++ numI (s.led.limit) ++ numI (s.led.next) ++ numI (s.led.held.length : Int) ++ encN (heldsNs s.led.held) ++ numI (s.led.last.length : Int) ++ encN (lastsNs (s.led.last.take k)) ++ numI (x.node)) (x.boot) wh0 HOh0.out HBh0.out.size (by omega) (by simp only [List.length_append, List.length_cons, List.length_nil]; omega)).mono ?_
          rintro e wh1 ⟨vh1, rfl, hoh1, hbh1, hth1⟩
          have HOh1 := Lib.hid hoh1
          have HBh1 := Lib.hid (HBh0.out.trans hbh1)
          have HTh1 := Lib.hid (HTh0.out.trans hth1)
          have hSh1 := hth1 _ _ _ _ hHeld (by decide)
          clear hoh1 hbh1 hth1 hHeld
          refine hK.out _ _ hSh1 (fun hHeld => ?_)
          clear hK K hSh1
          refine wpAnyH_ready (rs := [10]) (by kernel_rfl) (by simp) ?_
          refine AllReadyH.cons rfl (fun K hK => ?_) AllReadyH.nil
          go_simp
          refine (rnumb_any w.heap.size vh1 ([83] ++ numI (s.index) ++ numI (s.term) ++ numI (s.nodes.length : Int) ++ encN s.nodes ++ numI (s.led.limit) ++ numI (s.led.next) ++ numI (s.led.held.length : Int) ++ encN (heldsNs s.led.held) ++ numI (s.led.last.length : Int) ++ encN (lastsNs (s.led.last.take k)) ++ numI (x.node) ++ numI (x.boot)) (x.seq) wh1 HOh1.out HBh1.out.size (by omega) (by simp only [List.length_append, List.length_cons, List.length_nil]; omega)).mono ?_
          rintro e wh2 ⟨vh2, rfl, hoh2, hbh2, hth2⟩
          have HOh2 := Lib.hid hoh2
          have HBh2 := Lib.hid (HBh1.out.trans hbh2)
          have HTh2 := Lib.hid (HTh1.out.trans hth2)
          have hSh2 := hth2 _ _ _ _ hHeld (by decide)
          clear hoh2 hbh2 hth2 hHeld
          refine hK.out _ _ hSh2 (fun hHeld => ?_)
          clear hK K hSh2
          refine wpAnyH_take (i := 11) (v := vh2) rfl (by kernel_rfl) (by kernel_rfl) (by kernel_rfl) (fun _ _ _ h => h) (Or.inl ⟨by kernel_rfl, ?_⟩) (by assumption) ?_
          · intro wx hSw
            clear hSw hHeld
            go_simp
            try first | with_reducible rfl | kernel_rfl
          simp only [Act.put, List.getElem_toArray, List.getElem_cons_succ, List.getElem_cons_zero, List.setIfInBounds_toArray, List.set_cons_succ, List.set_cons_zero]
          refine wpAnyH_done (by kernel_rfl) ?_ _
          have HXl := Lib.hid hHeld
          clear hHeld
          go_upto_region 15 with (fail)
          have HOh2d := Lib.hid (HOh2.out.below ((Below.refl wh2.heap.size wh2).drew) (Nat.le_refl _))
          have HBh2d := Lib.hid (HBh2.out.drew)
          have HTh2d := Lib.hid (HTh2.out.trans (ByT.of (Below.refl _ _).drew))
          refine wp_region_held_drew (S := fun w' => w'.heap[wr.heap.size]? = some (.cells (lastC x).toArray 83 (0, 0))) (by kernel_rfl) HXl.out (fun hHeld => ?_)
          refine wpAnyH_take (i := 0) (v := vh2) rfl (by kernel_rfl) (by kernel_rfl) (by kernel_rfl) (fun _ _ _ h => h) (Or.inl ⟨by kernel_rfl, ?_⟩) (by assumption) ?_
          · intro wx hSw
            clear hSw hHeld
            go_simp
            try first | with_reducible rfl | kernel_rfl
          simp only [Act.put, List.getElem_toArray, List.getElem_cons_zero, List.setIfInBounds_toArray, List.set_cons_succ, List.set_cons_zero]
          refine wpAnyH_take (i := 1) (v := .pointer (some ⟨wr.heap.size, 3, none⟩)) rfl (by kernel_rfl) (by kernel_rfl) (by kernel_rfl) (fun _ _ _ h => h) (Or.inl ⟨by kernel_rfl, ?_⟩) (by assumption) ?_
          · intro wx hSw
            clear hSw hHeld
            go_simp
            try first | with_reducible rfl | kernel_rfl
          simp only [Act.put, List.getElem_toArray, List.getElem_cons_succ, List.getElem_cons_zero, List.setIfInBounds_toArray, List.set_cons_succ, List.set_cons_zero]
          refine wpAnyH_take (i := 2) (v := .pointer (some ⟨wr.heap.size, 3, none⟩)) rfl (by kernel_rfl) (by kernel_rfl) (by kernel_rfl) (fun _ _ _ h => h) (Or.inl ⟨by kernel_rfl, ?_⟩) (by assumption) ?_
          · intro wx hSw
            clear hSw hHeld
            go_simp
            try first | with_reducible rfl | kernel_rfl
          simp only [Act.put, List.getElem_toArray, List.getElem_cons_succ, List.getElem_cons_zero, List.setIfInBounds_toArray, List.set_cons_succ, List.set_cons_zero]
          refine wpAnyH_take (i := 3) (v := (.int .i64 x.code)) rfl (by kernel_rfl) (by kernel_rfl) (by kernel_rfl) (fun _ _ _ h => h) (Or.inl ⟨by kernel_rfl, ?_⟩) (by assumption) ?_
          · intro wx hSw
            have cc : wx.cell? ⟨wr.heap.size, 3, none⟩ = some (.int .i64 x.code) := (cell_of_row wx _ 3 _ _ _ hSw).trans rfl
            clear hSw hHeld
            go_simp
            try first | with_reducible rfl | kernel_rfl
          simp only [Act.put, List.getElem_toArray, List.getElem_cons_succ, List.getElem_cons_zero, List.setIfInBounds_toArray, List.set_cons_succ, List.set_cons_zero]
          refine wpAnyH_take (i := 4) (v := (.int .u64 x.code)) rfl (by kernel_rfl) (by kernel_rfl) (by kernel_rfl) (fun _ _ _ h => h) (Or.inl ⟨by kernel_rfl, ?_⟩) (by assumption) ?_
          · intro wx hSw
            clear hSw hHeld
            go_simp
            try first | with_reducible rfl | kernel_rfl
          simp only [Act.put, List.getElem_toArray, List.getElem_cons_succ, List.getElem_cons_zero, List.setIfInBounds_toArray, List.set_cons_succ, List.set_cons_zero]
          refine wpAnyH_take (i := 6) (v := .pointer (some ⟨wr.heap.size, 3, none⟩)) rfl (by kernel_rfl) (by kernel_rfl) (by kernel_rfl) (fun _ _ _ h => h) (Or.inl ⟨by kernel_rfl, ?_⟩) (by assumption) ?_
          · intro wx hSw
            clear hSw hHeld
            go_simp
            try first | with_reducible rfl | kernel_rfl
          simp only [Act.put, List.getElem_toArray, List.getElem_cons_succ, List.getElem_cons_zero, List.setIfInBounds_toArray, List.set_cons_succ, List.set_cons_zero]
          refine wpAnyH_take (i := 7) (v := .pointer (some ⟨wr.heap.size, 4, none⟩)) rfl (by kernel_rfl) (by kernel_rfl) (by kernel_rfl) (fun _ _ _ h => h) (Or.inl ⟨by kernel_rfl, ?_⟩) (by assumption) ?_
          · intro wx hSw
            clear hSw hHeld
            go_simp
            try first | with_reducible rfl | kernel_rfl
          simp only [Act.put, List.getElem_toArray, List.getElem_cons_succ, List.getElem_cons_zero, List.setIfInBounds_toArray, List.set_cons_succ, List.set_cons_zero]
          refine wpAnyH_take (i := 8) (v := (.int .i64 x.token)) rfl (by kernel_rfl) (by kernel_rfl) (by kernel_rfl) (fun _ _ _ h => h) (Or.inl ⟨by kernel_rfl, ?_⟩) (by assumption) ?_
          · intro wx hSw
            have cc : wx.cell? ⟨wr.heap.size, 4, none⟩ = some (.int .i64 x.token) := (cell_of_row wx _ 4 _ _ _ hSw).trans rfl
            clear hSw hHeld
            go_simp
            try first | with_reducible rfl | kernel_rfl
          simp only [Act.put, List.getElem_toArray, List.getElem_cons_succ, List.getElem_cons_zero, List.setIfInBounds_toArray, List.set_cons_succ, List.set_cons_zero]
          refine wpAnyH_take (i := 9) (v := (.int .u64 x.token)) rfl (by kernel_rfl) (by kernel_rfl) (by kernel_rfl) (fun _ _ _ h => h) (Or.inl ⟨by kernel_rfl, ?_⟩) (by assumption) ?_
          · intro wx hSw
            clear hSw hHeld
            go_simp
            try first | with_reducible rfl | kernel_rfl
          simp only [Act.put, List.getElem_toArray, List.getElem_cons_succ, List.getElem_cons_zero, List.setIfInBounds_toArray, List.set_cons_succ, List.set_cons_zero]
          refine wpAnyH_take (i := 11) (v := .pointer (some ⟨wr.heap.size, 3, none⟩)) rfl (by kernel_rfl) (by kernel_rfl) (by kernel_rfl) (fun _ _ _ h => h) (Or.inl ⟨by kernel_rfl, ?_⟩) (by assumption) ?_
          · intro wx hSw
            clear hSw hHeld
            go_simp
            try first | with_reducible rfl | kernel_rfl
          simp only [Act.put, List.getElem_toArray, List.getElem_cons_succ, List.getElem_cons_zero, List.setIfInBounds_toArray, List.set_cons_succ, List.set_cons_zero]
          refine wpAnyH_take (i := 12) (v := .pointer (some ⟨wr.heap.size, 5, none⟩)) rfl (by kernel_rfl) (by kernel_rfl) (by kernel_rfl) (fun _ _ _ h => h) (Or.inl ⟨by kernel_rfl, ?_⟩) (by assumption) ?_
          · intro wx hSw
            clear hSw hHeld
            go_simp
            try first | with_reducible rfl | kernel_rfl
          simp only [Act.put, List.getElem_toArray, List.getElem_cons_succ, List.getElem_cons_zero, List.setIfInBounds_toArray, List.set_cons_succ, List.set_cons_zero]
          refine wpAnyH_take (i := 13) (v := (.int .u64 x.serial)) rfl (by kernel_rfl) (by kernel_rfl) (by kernel_rfl) (fun _ _ _ h => h) (Or.inl ⟨by kernel_rfl, ?_⟩) (by assumption) ?_
          · intro wx hSw
            have cc : wx.cell? ⟨wr.heap.size, 5, none⟩ = some (.int .u64 x.serial) := (cell_of_row wx _ 5 _ _ _ hSw).trans rfl
            clear hSw hHeld
            go_simp
            try first | with_reducible rfl | kernel_rfl
          simp only [Act.put, List.getElem_toArray, List.getElem_cons_succ, List.getElem_cons_zero, List.setIfInBounds_toArray, List.set_cons_succ, List.set_cons_zero]
          refine wpAnyH_ready (rs := [5]) (by kernel_rfl) (by simp) ?_
          refine AllReadyH.cons rfl (fun K hK => ?_) AllReadyH.nil
          go_simp
          refine (rnumb_any w.heap.size _ ([83] ++ numI (s.index) ++ numI (s.term) ++ numI (s.nodes.length : Int) ++ encN s.nodes ++ numI (s.led.limit) ++ numI (s.led.next) ++ numI (s.led.held.length : Int) ++ encN (heldsNs s.led.held) ++ numI (s.led.last.length : Int) ++ encN (lastsNs (s.led.last.take k)) ++ numI (x.node) ++ numI (x.boot) ++ numI (x.seq)) (x.code) wh2.drew HOh2d.out HBh2d.out.size (by omega) (by simp only [List.length_append, List.length_cons, List.length_nil]; omega)).mono ?_
          rintro e wi0 ⟨vi0, rfl, hoi0, hbi0, hti0⟩
          have HOi0 := Lib.hid hoi0
          have HBi0 := Lib.hid (HBh2d.out.trans hbi0)
          have HTi0 := Lib.hid (HTh2d.out.trans hti0)
          have hSi0 := hti0 _ _ _ _ hHeld (by decide)
          clear hoi0 hbi0 hti0 hHeld
          refine hK.out _ _ hSi0 (fun hHeld => ?_)
          clear hK K hSi0
          refine wpAnyH_ready (rs := [10]) (by kernel_rfl) (by simp) ?_
          refine AllReadyH.cons rfl (fun K hK => ?_) AllReadyH.nil
          go_simp
          refine (rnumb_any w.heap.size vi0 ([83] ++ numI (s.index) ++ numI (s.term) ++ numI (s.nodes.length : Int) ++ encN s.nodes ++ numI (s.led.limit) ++ numI (s.led.next) ++ numI (s.led.held.length : Int) ++ encN (heldsNs s.led.held) ++ numI (s.led.last.length : Int) ++ encN (lastsNs (s.led.last.take k)) ++ numI (x.node) ++ numI (x.boot) ++ numI (x.seq) ++ numI (x.code)) (x.token) wi0 HOi0.out HBi0.out.size (by omega) (by simp only [List.length_append, List.length_cons, List.length_nil]; omega)).mono ?_
          rintro e wi1 ⟨vi1, rfl, hoi1, hbi1, hti1⟩
          have HOi1 := Lib.hid hoi1
          have HBi1 := Lib.hid (HBi0.out.trans hbi1)
          have HTi1 := Lib.hid (HTi0.out.trans hti1)
          have hSi1 := hti1 _ _ _ _ hHeld (by decide)
          clear hoi1 hbi1 hti1 hHeld
          refine hK.out _ _ hSi1 (fun hHeld => ?_)
          clear hK K hSi1
          refine wpAnyH_ready (rs := [14]) (by kernel_rfl) (by simp) ?_
          refine AllReadyH.cons rfl (fun K hK => ?_) AllReadyH.nil
          go_simp
          refine (rnumb_any w.heap.size vi1 ([83] ++ numI (s.index) ++ numI (s.term) ++ numI (s.nodes.length : Int) ++ encN s.nodes ++ numI (s.led.limit) ++ numI (s.led.next) ++ numI (s.led.held.length : Int) ++ encN (heldsNs s.led.held) ++ numI (s.led.last.length : Int) ++ encN (lastsNs (s.led.last.take k)) ++ numI (x.node) ++ numI (x.boot) ++ numI (x.seq) ++ numI (x.code) ++ numI (x.token)) (x.serial) wi1 HOi1.out HBi1.out.size (by omega) (by simp only [List.length_append, List.length_cons, List.length_nil]; omega)).mono ?_
          rintro e wi2 ⟨vi2, rfl, hoi2, hbi2, hti2⟩
          have HOi2 := Lib.hid hoi2
          have HBi2 := Lib.hid (HBi1.out.trans hbi2)
          have HTi2 := Lib.hid (HTi1.out.trans hti2)
          have hSi2 := hti2 _ _ _ _ hHeld (by decide)
          clear hoi2 hbi2 hti2 hHeld
          refine hK.out _ _ hSi2 (fun hHeld => ?_)
          clear hK K hSi2
          refine wpAnyH_take (i := 15) (v := vi2) rfl (by kernel_rfl) (by kernel_rfl) (by kernel_rfl) (fun _ _ _ h => h) (Or.inl ⟨by kernel_rfl, ?_⟩) (by assumption) ?_
          · intro wx hSw
            clear hSw hHeld
            go_simp
            try first | with_reducible rfl | kernel_rfl
          simp only [Act.put, List.getElem_toArray, List.getElem_cons_succ, List.getElem_cons_zero, List.setIfInBounds_toArray, List.set_cons_succ, List.set_cons_zero]
          refine wpAnyH_done (by kernel_rfl) ?_ _
          have HO8 : Hid (Own wi2 w.heap.size vi2 ([83] ++ numI (s.index) ++ numI (s.term) ++ numI (s.nodes.length : Int) ++ encN s.nodes ++ numI (s.led.limit) ++ numI (s.led.next) ++ numI (s.led.held.length : Int) ++ encN (heldsNs s.led.held) ++ numI (s.led.last.length : Int) ++ encN (lastsNs (s.led.last.take (k + 1))))) := Lib.hid (by
            rw [HTK.out, lastsNs_snoc, encN_app, show encN (lastNs x) = numI x.node ++ (numI x.boot ++ (numI x.seq ++ (numI x.code ++ (numI x.token ++ (numI x.serial ++ []))))) from rfl, List.append_nil]
            simpa only [List.append_assoc] using HOi2.out)
          clear hHeld hx0 hx1 hx2 hx3 hx4 hx5
          go_wp2_with fail
          go_roundw
          case rel => exact ⟨k + 1, _, rfl, by omega, by go_num, HO8, HBi2, HTi2⟩
          case measure => simp [intOf]; omega
        · obtain rfl : k = s.led.last.length := by omega
          have HOE : Hid (Own wr w.heap.size bv (shotB s)) := Lib.hid (by
            have q := HO.out
            rw [List.take_length] at q
            have e : [83] ++ numI (s.index) ++ numI (s.term) ++ numI (s.nodes.length : Int) ++ encN s.nodes ++ numI (s.led.limit) ++ numI (s.led.next) ++ numI (s.led.held.length : Int) ++ encN (heldsNs s.led.held) ++ numI (s.led.last.length : Int) ++ encN (lastsNs s.led.last) = shotB s := by
              unfold shotB shotNs ns1 ns3
              simp only [encN_app, encN_cons, List.append_assoc, List.cons_append, List.nil_append]
            rw [e] at q
            exact q)
          have HBE := Lib.hid HB.out
          have HTE := Lib.hid HT.out
          have hkz : ¬ ((s.led.last.length : Int) < (s.led.last.length : Int)) := by omega
          clear HO HB HT
          go_wp2_with fail
          go_ret
          exact ⟨_, rfl, HOE.out, HBE.out, ByT.of (HBE.out)⟩
end Sc
end Go.Proofs.YtbdjihmgdkailaaDoor
