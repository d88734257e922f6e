/- entry.length and entry.Decode. No condition. -/
import Derived.Test.YtngnhegmealokaaRkC
import Derived.Test.YtngnhegmealokaaCeD
namespace Go.Proofs.Ytngnhegmealokaa
open Go.ChangeShapes Go.WideShapes Go.ChangeAt Go.RowKit Go.Deep
set_option linter.unusedVariables false
set_option maxRecDepth 100000
namespace Rk
open Cm Sc Nm Rc Hd Nv Sh
abbrev zEA : Array Value := #[.int .u64 0, .int .i64 0, .int .i64 0, .int .i64 0, .slice none 0 0, .int .u64 0, .int .u64 0, .int .u64 0, .int .u64 0]
abbrev zCA : Array Value := #[.int .i64 0, .int .i64 0, .int .i64 0, .slice none 0 0, .int .u64 0, .int .u64 0, .int .u64 0, .int .u64 0]
theorem zEA_one : zEA.all (·.oneCell') = true := by simp [zEA, Value.oneCell']
theorem cArr_one (c : Cmd) (a : Option Addr) (i j : Nat) : (cArr c (.slice a i j)).all (·.oneCell') = true := by simp [Value.oneCell']
theorem entC_one (x : Ent) (a : Option Addr) (i j : Nat) : (entC (x, .slice a i j)).toArray.all (·.oneCell') = true := by simp [entC, Value.oneCell']
theorem zEnt_is (w : World) : IsEnt w (.agg zEA) zEntV := ⟨.slice none 0 0, rfl, Nm.sl_nil _ _, zEnt_wf⟩
theorem results_c3 {P : Program} {fn : Func} {p a b : Tmp} {ty : TypeId} (h : fn.results = #[.cell p ty, .tmp a, .tmp b]) (tmps : Array Value) (w : World) (g : Nat) (t : TypeId) (cs : Array Value) (fr : Nat × Nat) (d : TypeDesc)
    (hp : tmps.getD p undef = .pointer (some ⟨g, 0, none⟩)) (hg : w.heap[g]? = some (.cells cs t fr))
    (hu : P.underlying ty = some d) (hd : (match d with | .struct _ | .array _ _ => true | _ => false) = true) (hi : (P.info? ty).map (·.size) = some cs.size) {x y : Value} (hx : tmps.getD a undef = x) (hy : tmps.getD b undef = y) :
    (results fn tmps).run P w = .ok (.tuple #[.agg cs, x, y]) w := by
  subst hx
  subst hy
  have hp' : tmps[p]?.getD undef = .pointer (some ⟨g, 0, none⟩) := by simpa using hp
  simp [results, h, hp', asAddr, run_loadVar_row w g t ty cs fr d hg hu hd hi]
theorem decL_40 {zs : List Int} (h : (decL zs).2.2 = 40) : (decL zs).1 = zeroC := by
  unfold decL at h ⊢
  split
  · split
    · split
      · split
        · rename_i h1 h2 h3 h4
          rw [if_pos h1, if_pos h2, if_pos h3, if_pos h4] at h
          simp at h
        · rfl
      · rfl
    · rfl
  · rfl
theorem entD_err {zs : List Int} {n k : Nat} {e : Int} (h : Oc.rdL zs = (n, k, e)) (he : (e == 0) = false) : entD zs = (zEntV, 0, e) := by
  unfold entD; simp only [h]; rw [if_neg (by rw [he]; simp)]
theorem entD_40 {zs : List Int} {n k j : Nat} {c : Cmd} (h : Oc.rdL zs = (n, k, 0)) (hd : decL (zs.drop k) = (c, j, 40)) : entD zs = (⟨n, c⟩, k + lenC (zs.drop k), 0) := by
  have hc := decL_40 (zs := zs.drop k) (by rw [hd])
  rw [hd] at hc
  dsimp only at hc
  subst hc
  unfold entD; simp only [h, hd, beq_self_eq_true, if_true]
theorem entD_ok {zs : List Int} {n k j : Nat} {c : Cmd} (h : Oc.rdL zs = (n, k, 0)) (hd : decL (zs.drop k) = (c, j, 0)) : entD zs = (⟨n, c⟩, k + j, 0) := by
  unfold entD; simp only [h, hd, beq_self_eq_true, if_true]
  rw [if_neg (by decide)]
theorem entD_no {zs : List Int} {n k j : Nat} {c : Cmd} {e : Int} (h : Oc.rdL zs = (n, k, 0)) (hd : decL (zs.drop k) = (c, j, e)) (h4 : (e == 40) = false) (h0 : (e == 0) = false) : entD zs = (zEntV, 0, e) := by
  unfold entD; simp only [h, hd, beq_self_eq_true, if_true, h4, h0]
  simp
theorem lenF_10 {zs : List Int} {k : Nat} (hk : k < zs.length) (h : ((decL (zs.take k)).2.2 == 10) = true) : lenF zs (zs.length - k) k = lenF zs (zs.length - (k + 1)) (k + 1) := by
  rw [show zs.length - k = (zs.length - (k + 1)) + 1 by omega, lenF, if_pos h]
theorem lenF_no {zs : List Int} {k : Nat} (hk : k < zs.length) (h : ((decL (zs.take k)).2.2 == 10) = false) : lenF zs (zs.length - k) k = k := by
  rw [show zs.length - k = (zs.length - (k + 1)) + 1 by omega, lenF, if_neg (by rw [h]; simp)]
theorem lenF_end {zs : List Int} : lenF zs (zs.length - zs.length) zs.length = zs.length := by rw [Nat.sub_self]; rfl
set_option maxHeartbeats 4000000 in
theorem len_any (zs : List Int) (v : Value) (w : World) (hs : Sl .u8 w v zs) : Calls Try.prog 77 #[v] w fun e w' => e = .returned (.int .i64 (lenC zs)) ∧ Below w.heap.size w w' := by
  obtain ⟨a, cap, rfl, hlc, hcm, -⟩ := id hs
  unfold maxLen at hcm
  have HS := Lib.hid hs
  have hbw := Below.refl w.heap.size w
  clear hs
  go_enter Try.func77, Try.ntmps77
  go_wp2_with fail
  go_loopw [3] (fun i wr => ∃ k : Nat, k ≤ zs.length ∧ i = .int .i64 k ∧ Hid (lenF zs (zs.length - k) k = lenC zs) ∧ Hid (Below w.heap.size w wr)) (fun i _ => zs.length - (intOf i).toNat)
  case atStart => exact ⟨0, Nat.zero_le _, rfl, Lib.hid rfl, Lib.hid hbw⟩
  case round =>
    clear hbw
    obtain ⟨k, hk, rfl, HL, HB⟩ := hrel
    by_cases hlt : k < zs.length
    · have hst := (HS.out.below HB.out (Nat.le_refl _)).take k hk
      have hkc : (k : Int) ≤ (cap : Int) := by omega
      have hk0 : (k : Int) < (zs.length : Int) := by omega
      go_wp2_with fail
      refine (Cm.decode_any _ _ _ hst).mono ?_
      rintro e w3 ⟨vn, rfl, own3, -, hb3⟩
      rcases hd : decL (zs.take k) with ⟨c, j, ec⟩
      rw [hd] at own3
      dsimp only at own3
      have HD := Lib.hid hd
      obtain ⟨an, m3, cn, rfl⟩ := own_formx own3
      have hsC : (w3.alloc (.cells zCA 25)).heap[w3.heap.size]? = some (.cells zCA 25 (0, 0)) := heap_alloc_new _ _
      obtain ⟨W4, hW4⟩ : ∃ q, (w3.alloc (.cells zCA 25)).setRow w3.heap.size (cArr c (.slice an m3 cn)) = q := ⟨_, rfl⟩
      have HB4 : Hid (Below w.heap.size w W4) := Lib.hid (HB.out.trans ((hb3.trans (show Below wr.heap.size w3 W4 by rw [← hW4]; exact Ld.below_row ((Below.refl _ _).alloc hb3.size _) hb3.size _)).mono HB.out.size))
      clear hb3 hst hd own3
      cases he : (ec == 10) with
      | true =>
        have hne : (ec != 10) = false := by rw [bne, he]; rfl
        have HN := Lib.hid ((lenF_10 hlt (by rw [HD.out]; exact he)).symm.trans HL.out)
        clear he
        go_wp2_with (first | (with_reducible refine wpList_store_row rfl 25 (.tmp 4) (.tmp 16) rfl w3.heap.size (cArr c (.slice an m3 cn)) rfl rfl 25 _ hsC (by kernel_rfl) rfl (cArr_one _ _ _ _) ?_; rw [hW4]; clear hW4 hsC) | fail)
        go_roundw
        case rel => exact ⟨k + 1, by omega, by go_num, HN, HB4⟩
        case measure => simp [intOf]; omega
      | false =>
        have hne : (ec != 10) = true := by rw [bne, he]; rfl
        have HN := Lib.hid ((lenF_no hlt (by rw [HD.out]; exact he)).symm.trans HL.out)
        clear he
        go_wp2_with (first | (with_reducible refine wpList_store_row rfl 25 (.tmp 4) (.tmp 16) rfl w3.heap.size (cArr c (.slice an m3 cn)) rfl rfl 25 _ hsC (by kernel_rfl) rfl (cArr_one _ _ _ _) ?_; rw [hW4]; clear hW4 hsC) | fail)
        go_ret
        exact ⟨by rw [HN.out]; rfl, HB4.out⟩
    · obtain rfl : k = zs.length := by omega
      have HN := Lib.hid (lenF_end.symm.trans HL.out)
      go_wp2
      go_ret
      exact ⟨by rw [← HN.out]; rfl, HB.out⟩
def EntW (x : Ent) : Prop := x.wf ∧ ∀ n ∈ x.cmd.nodes, (Lit.int .i64 n).wf = true
theorem zEntV_w : EntW zEntV := ⟨zEnt_wf, by simp [zEntV]⟩
theorem u64_nat {n : Nat} (h : n < 18446744073709551616) : (Lit.int .u64 (n : Int)).wf = true := u64_wf ⟨by omega, by omega⟩
def EntDE (zs : List Int) (w : World) (e : Ending) (w' : World) : Prop := ∃ vn, e = .returned (.tuple #[.agg (entC ((entD zs).1, vn)).toArray, .int .i64 (entD zs).2.1, .int .i64 (entD zs).2.2]) ∧ OwnI w' w.heap.size vn (entD zs).1.cmd.nodes ∧ EntW (entD zs).1 ∧ Below w.heap.size w w'
theorem ent_zero {zs : List Int} {w w' : World} {z : Int} (h : entD zs = (zEntV, 0, z)) (hb : Below w.heap.size w w') : EntDE zs w (.returned (.tuple #[.agg zEA, .int .i64 0, .int .i64 z])) w' :=
  ⟨.slice none 0 0, by rw [h]; rfl, by rw [h]; exact OwnK.nil _ _ _ _, by rw [h]; exact zEntV_w, hb⟩
theorem ent_some {zs : List Int} {w w' : World} {x : Ent} {k : Nat} {vn : Value} {z : Int} (h : entD zs = (x, k, 0)) (hz : z = (k : Int)) (ho : OwnI w' w.heap.size vn x.cmd.nodes) (hw : EntW x) (hb : Below w.heap.size w w') : EntDE zs w (.returned (.tuple #[.agg (entC (x, vn)).toArray, .int .i64 z, .int .i64 0])) w' :=
  ⟨vn, by rw [h, hz], by rw [h]; exact ho, by rw [h]; exact hw, hb⟩
theorem entD_bd {zs : List Int} (hw : WfB zs) : (entD zs).2.1 ≤ zs.length := by
  rcases hr : Oc.rdL zs with ⟨n, k, er⟩
  have hk := rd_len hr
  rcases Oc.rd_err hr with hee | hee
  · subst hee
    rcases hc : decL (zs.drop k) with ⟨c, j, ec⟩
    by_cases h4 : ec = 40
    · subst h4
      rw [entD_40 hr hc]
      have := lenC_bd (zs.drop k)
      rw [List.length_drop] at this
      show k + lenC (zs.drop k) ≤ zs.length
      omega
    · by_cases h0 : ec = 0
      · subst h0
        rw [entD_ok hr hc]
        obtain ⟨-, hj, -⟩ := Cm.dec_back (fun m hm => hw m (List.mem_of_mem_drop hm)) hc
        rw [List.length_drop] at hj
        show k + j ≤ zs.length
        omega
      · rw [entD_no hr hc (beq_eq_false_iff_ne.2 h4) (beq_eq_false_iff_ne.2 h0)]
        exact Nat.zero_le _
  · rw [entD_err hr hee]
    exact Nat.zero_le _
set_option maxHeartbeats 2000000 in
theorem entdec_any (zs : List Int) (v : Value) (w : World) (hs : Sl .u8 w v zs) : Calls Try.prog 67 #[v] w (EntDE zs w) := by
  obtain ⟨a, cap, rfl, hlc, hcm, -⟩ := id hs
  unfold maxLen at hcm
  obtain ⟨W0, hW0⟩ : ∃ q, w.alloc (.cells zEA 27) = q := ⟨_, rfl⟩
  have hb0 : Below w.heap.size w W0 := by rw [← hW0]; exact (Below.refl _ _).alloc (Nat.le_refl _) _
  have HQ0 : Hid (W0.heap[w.heap.size]? = some (.cells zEA 27 (0, 0))) := Lib.hid (by rw [← hW0]; exact heap_alloc_new _ _)
  have HB0 := Lib.hid hb0
  have HSW := Lib.hid (hs.below hb0 (Nat.le_refl _))
  have HS := Lib.hid hs
  have HWB : Hid (WfB zs) := Lib.hid hs.wf
  rcases hrd : Oc.rdL zs with ⟨n, k, er⟩
  have HRD := Lib.hid hrd
  rcases Oc.rd_err hrd with hee | hee
  · subst hee
    obtain ⟨-, hk, hn64, -⟩ := Oc.rd_back hs.wf hrd
    have HN := Lib.hid hn64
    have hfk := from_k hs hk
    have f3 : (k : Int) ≤ (zs.length : Int) := by omega
    clear hs hb0 hrd hn64
    rcases hfk with ⟨rfl, rfl, rfl, rfl⟩ | ⟨b, off, sp, rfl, ⟨rfl, hzl, hsl⟩ | ⟨hcu, hsl⟩⟩
    · exfalso
      have := HRD.out
      unfold Oc.rdL at this
      simp at this
    · have HSD : Hid (∀ w', Below w.heap.size w w' → Sl .u8 w' (.slice (some ⟨b, off, sp⟩) 0 0) (zs.drop cap)) := Lib.hid (fun w' hb => hsl.below hb (Nat.le_refl _))
      have hz9 : zs.length - cap = 0 := by omega
      have hzz : (cap : Int) ≤ (zs.length : Int) := by omega
      clear hsl hzl
      go_enter Try.func67, Try.ntmps67
      go_wp2_with fail
      refine (read_q HRD.out HSW.out).mono ?_
      rintro E w2 ⟨rfl, rfl⟩
      go_wp2_with fail
      refine (Cm.decode_any _ _ _ (HSD.out _ HB0.out)).mono ?_
      rintro e w3 ⟨vn, rfl, own3, hi3, hb3⟩
      rcases hd : decL (zs.drop cap) with ⟨c, j, ec⟩
      rw [hd] at own3 hi3
      dsimp only at own3 hi3
      have HD := Lib.hid hd
      obtain ⟨vn', evn, hsl, hwc⟩ := hi3
      obtain rfl : vn' = vn := by simp only [cArr, Value.agg.injEq, Array.mk.injEq, List.cons.injEq, true_and, and_true] at evn; exact evn.symm
      obtain ⟨an, cn, rfl, -⟩ := id hsl
      have HWC : Hid (c.wf ∧ ∀ n ∈ c.nodes, (Lit.int .i64 n).wf = true) := Lib.hid ⟨hwc, hsl.wf⟩
      have hsC : (w3.alloc (.cells zCA 25)).heap[w3.heap.size]? = some (.cells zCA 25 (0, 0)) := heap_alloc_new _ _
      obtain ⟨W4, hW4⟩ : ∃ q, (w3.alloc (.cells zCA 25)).setRow w3.heap.size (cArr c (.slice an c.nodes.length cn)) = q := ⟨_, rfl⟩
      have hb4 : Below w3.heap.size w3 W4 := by rw [← hW4]; exact Ld.below_row ((Below.refl _ _).alloc (Nat.le_refl _) _) (Nat.le_refl _) _
      have HX4 : Hid (W4.heap[w3.heap.size]? = some (.cells (cArr c (.slice an c.nodes.length cn)) 25 (0, 0))) := Lib.hid (by rw [← hW4]; exact setRow_heap _ _ _ _ _ _ hsC)
      have hb04 : Below W0.heap.size W0 W4 := hb3.trans (hb4.mono hb3.size)
      have HB4 : Hid (Below w.heap.size w W4) := Lib.hid (HB0.out.trans (hb04.mono HB0.out.size))
      have HQ4 := Lib.hid ((hb04.block _ (row_lt HQ0.out)).trans HQ0.out)
      have HO4 : Hid (OwnI W4 w.heap.size (.slice an c.nodes.length cn) c.nodes) := Lib.hid (own_lowerx HB0.out.size (own_belowx hb4 own3))
      clear hb3 hb4 hb04 hd hsl hwc own3
      by_cases h4 : ec = 40
      · subst h4
        have HE := Lib.hid (entD_40 HRD.out HD.out)
        go_wp2_with (first | (with_reducible refine wpList_store_row rfl 25 (.tmp 8) (.tmp 25) rfl w3.heap.size (cArr c (.slice an c.nodes.length cn)) rfl rfl 25 _ hsC (by kernel_rfl) rfl (cArr_one _ _ _ _) ?_; rw [hW4]; clear hW4 hsC) | fail)
        refine (len_any _ _ _ (HSD.out _ HB4.out)).mono ?_
        rintro e w5 ⟨rfl, hb5⟩
        have HB5 := Lib.hid (HB4.out.trans (hb5.mono HB4.out.size))
        have HQ5 := Lib.hid ((hb5.block _ (row_lt HQ4.out)).trans HQ4.out)
        have HX5 := Lib.hid ((hb5.block _ (row_lt HX4.out)).trans HX4.out)
        have HO5 := Lib.hid (own_belowx hb5 HO4.out)
        have hlb := lenC_bd (zs.drop cap)
        rw [List.length_drop] at hlb
        clear hb5
        obtain ⟨m, hm⟩ : ∃ m, lenC (zs.drop cap) = m := ⟨_, rfl⟩
        rw [hm] at HE hlb ⊢
        clear hm
        obtain ⟨WZ, hWZ⟩ : ∃ q, w5.setRow w.heap.size (entC ((⟨(n : Int), c⟩ : Ent), .slice an c.nodes.length cn)).toArray = q := ⟨_, rfl⟩
        have HQZ : Hid (WZ.heap[w.heap.size]? = some (.cells (entC ((⟨(n : Int), c⟩ : Ent), .slice an c.nodes.length cn)).toArray 27 (0, 0))) := Lib.hid (by rw [← hWZ]; exact setRow_heap _ _ _ _ _ _ HQ5.out)
        have HFIN : Hid (EntDE zs w (.returned (.tuple #[.agg (entC ((⟨(n : Int), c⟩ : Ent), .slice an c.nodes.length cn)).toArray, .int .i64 ((cap : Int) + (m : Int)), .int .i64 0])) WZ) := Lib.hid (by
          have hx : Only (· = w.heap.size) w5 WZ := by rw [← hWZ]; exact only_row _ _ _
          have hb : ∀ q, q < w5.heap.size → q ≠ w.heap.size → WZ.heap[q]? = w5.heap[q]? := fun q hq hn => hx.2.2.2.2 q hq hn
          exact ent_some HE.out (by omega) (own_blk HO5.out (own_ty HO5.out HQ5.out (by decide)) hb) ⟨⟨u64_nat HN.out, HWC.out.1⟩, HWC.out.2⟩ (by rw [← hWZ]; exact Ld.below_row HB5.out (Nat.le_refl _) _))
        go_wp2_with (first
          | (with_reducible refine wpList_load_row rfl 25 (.tmp 8) rfl w3.heap.size rfl 25 (cArr c (.slice an c.nodes.length cn)) (0, 0) _ HX5.out Try.underlying25 rfl (by kernel_rfl) ?_)
          | (with_reducible refine wpList_store_row rfl 27 (.tmp 2) (.tmp 40) rfl w.heap.size (entC ((⟨(n : Int), c⟩ : Ent), .slice an c.nodes.length cn)).toArray rfl rfl 27 _ HQ5.out (by kernel_rfl) rfl (entC_one _ _ _ _) ?_; rw [hWZ]; clear hWZ))
        refine bodyPost_ret (v := .tuple #[.agg (entC ((⟨(n : Int), c⟩ : Ent), .slice an c.nodes.length cn)).toArray, .int .i64 ((cap : Int) + (m : Int)), .int .i64 0]) (results_c3 rfl _ _ w.heap.size 27 _ (0, 0) _ rfl HQZ.out Try.underlying27 rfl (by kernel_rfl) rfl rfl) rfl ?_
        exact HFIN.out
      · by_cases h0 : ec = 0
        · subst h0
          have HE := Lib.hid (entD_ok HRD.out HD.out)
          have hjj : j ≤ zs.length - cap := by
            obtain ⟨-, hj, -⟩ := Cm.dec_back (fun m hm => HWB.out m (List.mem_of_mem_drop hm)) HD.out
            rwa [List.length_drop] at hj
          clear h4
          obtain ⟨WZ, hWZ⟩ : ∃ q, W4.setRow w.heap.size (entC ((⟨(n : Int), c⟩ : Ent), .slice an c.nodes.length cn)).toArray = q := ⟨_, rfl⟩
          have HQZ : Hid (WZ.heap[w.heap.size]? = some (.cells (entC ((⟨(n : Int), c⟩ : Ent), .slice an c.nodes.length cn)).toArray 27 (0, 0))) := Lib.hid (by rw [← hWZ]; exact setRow_heap _ _ _ _ _ _ HQ4.out)
          have HFIN : Hid (EntDE zs w (.returned (.tuple #[.agg (entC ((⟨(n : Int), c⟩ : Ent), .slice an c.nodes.length cn)).toArray, .int .i64 ((cap : Int) + (j : Int)), .int .i64 0])) WZ) := Lib.hid (by
            have hx : Only (· = w.heap.size) W4 WZ := by rw [← hWZ]; exact only_row _ _ _
            have hb : ∀ q, q < W4.heap.size → q ≠ w.heap.size → WZ.heap[q]? = W4.heap[q]? := fun q hq hn => hx.2.2.2.2 q hq hn
            exact ent_some HE.out (by omega) (own_blk HO4.out (own_ty HO4.out HQ4.out (by decide)) hb) ⟨⟨u64_nat HN.out, HWC.out.1⟩, HWC.out.2⟩ (by rw [← hWZ]; exact Ld.below_row HB4.out (Nat.le_refl _) _))
          go_wp2_with (first
            | (with_reducible refine wpList_store_row rfl 25 (.tmp 8) (.tmp 25) rfl w3.heap.size (cArr c (.slice an c.nodes.length cn)) rfl rfl 25 _ hsC (by kernel_rfl) rfl (cArr_one _ _ _ _) ?_; rw [hW4]; clear hW4 hsC)
            | (with_reducible refine wpList_load_row rfl 25 (.tmp 8) rfl w3.heap.size rfl 25 (cArr c (.slice an c.nodes.length cn)) (0, 0) _ HX4.out Try.underlying25 rfl (by kernel_rfl) ?_)
            | (with_reducible refine wpList_store_row rfl 27 (.tmp 2) (.tmp 40) rfl w.heap.size (entC ((⟨(n : Int), c⟩ : Ent), .slice an c.nodes.length cn)).toArray rfl rfl 27 _ HQ4.out (by kernel_rfl) rfl (entC_one _ _ _ _) ?_; rw [hWZ]; clear hWZ))
          refine bodyPost_ret (v := .tuple #[.agg (entC ((⟨(n : Int), c⟩ : Ent), .slice an c.nodes.length cn)).toArray, .int .i64 ((cap : Int) + (j : Int)), .int .i64 0]) (results_c3 rfl _ _ w.heap.size 27 _ (0, 0) _ rfl HQZ.out Try.underlying27 rfl (by kernel_rfl) rfl rfl) rfl ?_
          exact HFIN.out
        · have n4 : (ec == 40) = false := beq_eq_false_iff_ne.2 h4
          have n0 : (ec != 0) = true := by rw [bne, beq_eq_false_iff_ne.2 h0]; rfl
          have HE := Lib.hid (entD_no HRD.out HD.out n4 (beq_eq_false_iff_ne.2 h0))
          clear h4 h0
          obtain ⟨WZ, hWZ⟩ : ∃ q, W4.setRow w.heap.size zEA = q := ⟨_, rfl⟩
          have HQZ : Hid (WZ.heap[w.heap.size]? = some (.cells zEA 27 (0, 0))) := Lib.hid (by rw [← hWZ]; exact setRow_heap _ _ _ _ _ _ HQ4.out)
          have HFIN : Hid (EntDE zs w (.returned (.tuple #[.agg zEA, .int .i64 0, .int .i64 ec])) WZ) := Lib.hid (ent_zero HE.out (by rw [← hWZ]; exact Ld.below_row HB4.out (Nat.le_refl _) _))
          go_wp2_with (first | (with_reducible refine wpList_store_row rfl 25 (.tmp 8) (.tmp 25) rfl w3.heap.size (cArr c (.slice an c.nodes.length cn)) rfl rfl 25 _ hsC (by kernel_rfl) rfl (cArr_one _ _ _ _) ?_; rw [hW4]; clear hW4 hsC) | (with_reducible refine wpList_store_row rfl 27 (.tmp 2) (.tmp 36) rfl w.heap.size zEA rfl rfl 27 _ HQ4.out (by kernel_rfl) rfl zEA_one ?_; rw [hWZ]; clear hWZ) | fail)
          refine bodyPost_ret (v := .tuple #[.agg zEA, .int .i64 0, .int .i64 ec]) (results_c3 rfl _ _ w.heap.size 27 _ (0, 0) _ rfl HQZ.out Try.underlying27 rfl (by kernel_rfl) rfl rfl) rfl ?_
          exact HFIN.out
    · have HSD : Hid (∀ w', Below w.heap.size w w' → Sl .u8 w' (.slice (some ((⟨b, off, sp⟩ : Addr).add k)) (zs.length - k) (cap - k)) (zs.drop k)) := Lib.hid (fun w' hb => hsl.below hb (Nat.le_refl _))
      have f4 : (k : Int) < (cap : Int) := by omega
      clear hsl
      go_enter Try.func67, Try.ntmps67
      go_wp2_with fail
      refine (read_q HRD.out HSW.out).mono ?_
      rintro E w2 ⟨rfl, rfl⟩
      go_wp2_with fail
      refine (Cm.decode_any _ _ _ (HSD.out _ HB0.out)).mono ?_
      rintro e w3 ⟨vn, rfl, own3, hi3, hb3⟩
      rcases hd : decL (zs.drop k) with ⟨c, j, ec⟩
      rw [hd] at own3 hi3
      dsimp only at own3 hi3
      have HD := Lib.hid hd
      obtain ⟨vn', evn, hsl, hwc⟩ := hi3
      obtain rfl : vn' = vn := by simp only [cArr, Value.agg.injEq, Array.mk.injEq, List.cons.injEq, true_and, and_true] at evn; exact evn.symm
      obtain ⟨an, cn, rfl, -⟩ := id hsl
      have HWC : Hid (c.wf ∧ ∀ n ∈ c.nodes, (Lit.int .i64 n).wf = true) := Lib.hid ⟨hwc, hsl.wf⟩
      have hsC : (w3.alloc (.cells zCA 25)).heap[w3.heap.size]? = some (.cells zCA 25 (0, 0)) := heap_alloc_new _ _
      obtain ⟨W4, hW4⟩ : ∃ q, (w3.alloc (.cells zCA 25)).setRow w3.heap.size (cArr c (.slice an c.nodes.length cn)) = q := ⟨_, rfl⟩
      have hb4 : Below w3.heap.size w3 W4 := by rw [← hW4]; exact Ld.below_row ((Below.refl _ _).alloc (Nat.le_refl _) _) (Nat.le_refl _) _
      have HX4 : Hid (W4.heap[w3.heap.size]? = some (.cells (cArr c (.slice an c.nodes.length cn)) 25 (0, 0))) := Lib.hid (by rw [← hW4]; exact setRow_heap _ _ _ _ _ _ hsC)
      have hb04 : Below W0.heap.size W0 W4 := hb3.trans (hb4.mono hb3.size)
      have HB4 : Hid (Below w.heap.size w W4) := Lib.hid (HB0.out.trans (hb04.mono HB0.out.size))
      have HQ4 := Lib.hid ((hb04.block _ (row_lt HQ0.out)).trans HQ0.out)
      have HO4 : Hid (OwnI W4 w.heap.size (.slice an c.nodes.length cn) c.nodes) := Lib.hid (own_lowerx HB0.out.size (own_belowx hb4 own3))
      clear hb3 hb4 hb04 hd hsl hwc own3
      by_cases h4 : ec = 40
      · subst h4
        have HE := Lib.hid (entD_40 HRD.out HD.out)
        go_wp2_with (first | (with_reducible refine wpList_store_row rfl 25 (.tmp 8) (.tmp 25) rfl w3.heap.size (cArr c (.slice an c.nodes.length cn)) rfl rfl 25 _ hsC (by kernel_rfl) rfl (cArr_one _ _ _ _) ?_; rw [hW4]; clear hW4 hsC) | fail)
        refine (len_any _ _ _ (HSD.out _ HB4.out)).mono ?_
        rintro e w5 ⟨rfl, hb5⟩
        have HB5 := Lib.hid (HB4.out.trans (hb5.mono HB4.out.size))
        have HQ5 := Lib.hid ((hb5.block _ (row_lt HQ4.out)).trans HQ4.out)
        have HX5 := Lib.hid ((hb5.block _ (row_lt HX4.out)).trans HX4.out)
        have HO5 := Lib.hid (own_belowx hb5 HO4.out)
        have hlb := lenC_bd (zs.drop k)
        rw [List.length_drop] at hlb
        clear hb5
        obtain ⟨m, hm⟩ : ∃ m, lenC (zs.drop k) = m := ⟨_, rfl⟩
        rw [hm] at HE hlb ⊢
        clear hm
        obtain ⟨WZ, hWZ⟩ : ∃ q, w5.setRow w.heap.size (entC ((⟨(n : Int), c⟩ : Ent), .slice an c.nodes.length cn)).toArray = q := ⟨_, rfl⟩
        have HQZ : Hid (WZ.heap[w.heap.size]? = some (.cells (entC ((⟨(n : Int), c⟩ : Ent), .slice an c.nodes.length cn)).toArray 27 (0, 0))) := Lib.hid (by rw [← hWZ]; exact setRow_heap _ _ _ _ _ _ HQ5.out)
        have HFIN : Hid (EntDE zs w (.returned (.tuple #[.agg (entC ((⟨(n : Int), c⟩ : Ent), .slice an c.nodes.length cn)).toArray, .int .i64 ((k : Int) + (m : Int)), .int .i64 0])) WZ) := Lib.hid (by
          have hx : Only (· = w.heap.size) w5 WZ := by rw [← hWZ]; exact only_row _ _ _
          have hb : ∀ q, q < w5.heap.size → q ≠ w.heap.size → WZ.heap[q]? = w5.heap[q]? := fun q hq hn => hx.2.2.2.2 q hq hn
          exact ent_some HE.out (by omega) (own_blk HO5.out (own_ty HO5.out HQ5.out (by decide)) hb) ⟨⟨u64_nat HN.out, HWC.out.1⟩, HWC.out.2⟩ (by rw [← hWZ]; exact Ld.below_row HB5.out (Nat.le_refl _) _))
        go_wp2_with (first
          | (with_reducible refine wpList_load_row rfl 25 (.tmp 8) rfl w3.heap.size rfl 25 (cArr c (.slice an c.nodes.length cn)) (0, 0) _ HX5.out Try.underlying25 rfl (by kernel_rfl) ?_)
          | (with_reducible refine wpList_store_row rfl 27 (.tmp 2) (.tmp 40) rfl w.heap.size (entC ((⟨(n : Int), c⟩ : Ent), .slice an c.nodes.length cn)).toArray rfl rfl 27 _ HQ5.out (by kernel_rfl) rfl (entC_one _ _ _ _) ?_; rw [hWZ]; clear hWZ))
        refine bodyPost_ret (v := .tuple #[.agg (entC ((⟨(n : Int), c⟩ : Ent), .slice an c.nodes.length cn)).toArray, .int .i64 ((k : Int) + (m : Int)), .int .i64 0]) (results_c3 rfl _ _ w.heap.size 27 _ (0, 0) _ rfl HQZ.out Try.underlying27 rfl (by kernel_rfl) rfl rfl) rfl ?_
        exact HFIN.out
      · by_cases h0 : ec = 0
        · subst h0
          have HE := Lib.hid (entD_ok HRD.out HD.out)
          have hjj : j ≤ zs.length - k := by
            obtain ⟨-, hj, -⟩ := Cm.dec_back (fun m hm => HWB.out m (List.mem_of_mem_drop hm)) HD.out
            rwa [List.length_drop] at hj
          clear h4
          obtain ⟨WZ, hWZ⟩ : ∃ q, W4.setRow w.heap.size (entC ((⟨(n : Int), c⟩ : Ent), .slice an c.nodes.length cn)).toArray = q := ⟨_, rfl⟩
          have HQZ : Hid (WZ.heap[w.heap.size]? = some (.cells (entC ((⟨(n : Int), c⟩ : Ent), .slice an c.nodes.length cn)).toArray 27 (0, 0))) := Lib.hid (by rw [← hWZ]; exact setRow_heap _ _ _ _ _ _ HQ4.out)
          have HFIN : Hid (EntDE zs w (.returned (.tuple #[.agg (entC ((⟨(n : Int), c⟩ : Ent), .slice an c.nodes.length cn)).toArray, .int .i64 ((k : Int) + (j : Int)), .int .i64 0])) WZ) := Lib.hid (by
            have hx : Only (· = w.heap.size) W4 WZ := by rw [← hWZ]; exact only_row _ _ _
            have hb : ∀ q, q < W4.heap.size → q ≠ w.heap.size → WZ.heap[q]? = W4.heap[q]? := fun q hq hn => hx.2.2.2.2 q hq hn
            exact ent_some HE.out (by omega) (own_blk HO4.out (own_ty HO4.out HQ4.out (by decide)) hb) ⟨⟨u64_nat HN.out, HWC.out.1⟩, HWC.out.2⟩ (by rw [← hWZ]; exact Ld.below_row HB4.out (Nat.le_refl _) _))
          go_wp2_with (first
            | (with_reducible refine wpList_store_row rfl 25 (.tmp 8) (.tmp 25) rfl w3.heap.size (cArr c (.slice an c.nodes.length cn)) rfl rfl 25 _ hsC (by kernel_rfl) rfl (cArr_one _ _ _ _) ?_; rw [hW4]; clear hW4 hsC)
            | (with_reducible refine wpList_load_row rfl 25 (.tmp 8) rfl w3.heap.size rfl 25 (cArr c (.slice an c.nodes.length cn)) (0, 0) _ HX4.out Try.underlying25 rfl (by kernel_rfl) ?_)
            | (with_reducible refine wpList_store_row rfl 27 (.tmp 2) (.tmp 40) rfl w.heap.size (entC ((⟨(n : Int), c⟩ : Ent), .slice an c.nodes.length cn)).toArray rfl rfl 27 _ HQ4.out (by kernel_rfl) rfl (entC_one _ _ _ _) ?_; rw [hWZ]; clear hWZ))
          refine bodyPost_ret (v := .tuple #[.agg (entC ((⟨(n : Int), c⟩ : Ent), .slice an c.nodes.length cn)).toArray, .int .i64 ((k : Int) + (j : Int)), .int .i64 0]) (results_c3 rfl _ _ w.heap.size 27 _ (0, 0) _ rfl HQZ.out Try.underlying27 rfl (by kernel_rfl) rfl rfl) rfl ?_
          exact HFIN.out
        · have n4 : (ec == 40) = false := beq_eq_false_iff_ne.2 h4
          have n0 : (ec != 0) = true := by rw [bne, beq_eq_false_iff_ne.2 h0]; rfl
          have HE := Lib.hid (entD_no HRD.out HD.out n4 (beq_eq_false_iff_ne.2 h0))
          clear h4 h0
          obtain ⟨WZ, hWZ⟩ : ∃ q, W4.setRow w.heap.size zEA = q := ⟨_, rfl⟩
          have HQZ : Hid (WZ.heap[w.heap.size]? = some (.cells zEA 27 (0, 0))) := Lib.hid (by rw [← hWZ]; exact setRow_heap _ _ _ _ _ _ HQ4.out)
          have HFIN : Hid (EntDE zs w (.returned (.tuple #[.agg zEA, .int .i64 0, .int .i64 ec])) WZ) := Lib.hid (ent_zero HE.out (by rw [← hWZ]; exact Ld.below_row HB4.out (Nat.le_refl _) _))
          go_wp2_with (first | (with_reducible refine wpList_store_row rfl 25 (.tmp 8) (.tmp 25) rfl w3.heap.size (cArr c (.slice an c.nodes.length cn)) rfl rfl 25 _ hsC (by kernel_rfl) rfl (cArr_one _ _ _ _) ?_; rw [hW4]; clear hW4 hsC) | (with_reducible refine wpList_store_row rfl 27 (.tmp 2) (.tmp 36) rfl w.heap.size zEA rfl rfl 27 _ HQ4.out (by kernel_rfl) rfl zEA_one ?_; rw [hWZ]; clear hWZ) | fail)
          refine bodyPost_ret (v := .tuple #[.agg zEA, .int .i64 0, .int .i64 ec]) (results_c3 rfl _ _ w.heap.size 27 _ (0, 0) _ rfl HQZ.out Try.underlying27 rfl (by kernel_rfl) rfl rfl) rfl ?_
          exact HFIN.out
  · have HE := Lib.hid (entD_err hrd hee)
    have hne : (er != 0) = true := by rw [bne, hee]; rfl
    clear hs hb0 hrd
    go_enter Try.func67, Try.ntmps67
    go_wp2_with fail
    refine (read_q HRD.out HSW.out).mono ?_
    rintro E w2 ⟨rfl, rfl⟩
    obtain ⟨WZ, hWZ⟩ : ∃ q, W0.setRow w.heap.size zEA = q := ⟨_, rfl⟩
    have HQZ : Hid (WZ.heap[w.heap.size]? = some (.cells zEA 27 (0, 0))) := Lib.hid (by rw [← hWZ]; exact setRow_heap _ _ _ _ _ _ HQ0.out)
    have HFIN : Hid (EntDE zs w (.returned (.tuple #[.agg zEA, .int .i64 0, .int .i64 er])) WZ) := Lib.hid (ent_zero HE.out (by rw [← hWZ]; exact Ld.below_row HB0.out (Nat.le_refl _) _))
    go_wp2_with (first | (with_reducible refine wpList_store_row rfl 27 (.tmp 2) (.tmp 18) rfl w.heap.size zEA rfl rfl 27 _ HQ0.out (by kernel_rfl) rfl zEA_one ?_; rw [hWZ]; clear hWZ) | fail)
    refine bodyPost_ret (v := .tuple #[.agg zEA, .int .i64 0, .int .i64 er]) (results_c3 rfl _ _ w.heap.size 27 _ (0, 0) _ rfl HQZ.out Try.underlying27 rfl (by kernel_rfl) rfl rfl) rfl ?_
    exact HFIN.out
end Rk
end Go.Proofs.Ytngnhegmealokaa
