/- What cmd.Decode hands back where there is a kind. No condition. -/
import Derived.Test.YtlpoljknohiihaaCmdG
import Derived.BigRegion
namespace Go.Proofs.Ytlpoljknohiihaa
open Go.ChangeShapes Go.WideShapes Go.ChangeAt Go.RowKit
set_option linter.unusedVariables false
namespace Cm

theorem OwnK.past {k : IntKind} {e : TypeId} {w w' : World} {B0 B : Nat} {S : Nat → Prop} {v : Value} {zs : List Int} (hown : OwnK k e w B0 v zs) (h : Past B S w w') (hB : w.heap.size ≤ B) (hS : ∀ g, S g → g < B0) : OwnK k e w' B0 v zs := by
  rcases hown.2 with h2 | ⟨q, cap, cur, e2, hk, hh, hr⟩
  · exact ⟨hown.1, .inl h2⟩
  · have hq := (Array.getElem?_eq_some_iff.1 hh).1
    exact ⟨hown.1, .inr ⟨q, cap, cur, e2, hk, (h.2.2.2.2 q (by omega) fun hs => by have := hS q hs; omega).trans hh, hr⟩⟩
theorem OwnK.mono {k : IntKind} {e : TypeId} {w : World} {B B' : Nat} {v : Value} {zs : List Int} (h : OwnK k e w B v zs) (hB : B' ≤ B) : OwnK k e w B' v zs := by
  refine ⟨h.1, ?_⟩
  rcases h.2 with h2 | ⟨g, cap, cur, h2, h3, h4⟩
  · exact .inl h2
  · exact .inr ⟨g, cap, cur, h2, by omega, h4⟩
theorem own_nil {w : World} {B : Nat} {zs : List Int} (h : OwnI w B (.slice none 0 0) zs) : zs = [] := by
  rcases h.2 with ⟨_, h0⟩ | ⟨q, cap, cur, e2, _⟩
  · exact List.eq_nil_of_length_eq_zero h0
  · cases e2
theorem putC_nodes (c : Cmd) {f : Nat} (n : Int) (hf : f ≤ 5) : (putC c f n).nodes = c.nodes := by
  rcases (show f = 0 ∨ f = 1 ∨ f = 2 ∨ f = 3 ∨ f = 4 ∨ f = 5 by omega) with rfl | rfl | rfl | rfl | rfl | rfl <;> rfl
theorem putC_wf {c : Cmd} {f : Nat} {n : Int} (h : c.wf) (hf : f ≤ 5) (h0 : 0 ≤ n) (h1 : n ≤ 18446744073709551615) (h2 : f = 0 ∨ f = 3 → n ≤ 65535) : (putC c f n).wf := by
  obtain ⟨w0, w1, w2, w3, w4, w5, w6⟩ := h
  have hu : (Lit.int .u64 n).wf = true := WalkArith.wf_u64 (by omega)
  rcases (show f = 0 ∨ f = 1 ∨ f = 2 ∨ f = 3 ∨ f = 4 ∨ f = 5 by omega) with rfl | rfl | rfl | rfl | rfl | rfl
  · exact ⟨w0, (by show (Lit.int .i64 n).wf = true; have := h2 (.inl rfl); exact WalkArith.wf_i64 (by omega)), w2, w3, w4, w5, w6⟩
  · exact ⟨w0, w1, w2, hu, w4, w5, w6⟩
  · exact ⟨w0, w1, w2, w3, hu, w5, w6⟩
  · exact ⟨w0, w1, (by show (Lit.int .i64 n).wf = true; have := h2 (.inr rfl); exact WalkArith.wf_i64 (by omega)), w3, w4, w5, w6⟩
  · exact ⟨w0, w1, w2, w3, w4, hu, w6⟩
  · exact ⟨w0, w1, w2, w3, w4, w5, hu⟩
theorem kindC_wf {k : Int} (h : 1 ≤ k ∧ k ≤ 6) : (kindC k).wf := by
  rcases (show k = 1 ∨ k = 2 ∨ k = 3 ∨ k = 4 ∨ k = 5 ∨ k = 6 by omega) with rfl | rfl | rfl | rfl | rfl | rfl <;> exact ⟨by decide, by decide, by decide, by decide, by decide, by decide, by decide⟩
theorem li_bd {zs : List Int} {u : Nat} (hu : u ≤ zs.length) : (li zs u).2.2 ≤ zs.length ∧ ∀ n ∈ (li zs u).1, 0 ≤ n ∧ n ≤ 65535 := by
  have h7 := nx_bd (m := 7) hu (by omega)
  unfold li
  split
  · have := st_bd h7.1 (nx zs u 7).1.toNat
    exact ⟨this.1, this.2.2⟩
  · exact ⟨h7.1, by simp⟩
theorem six_last {k : Int} {i : Nat} (h : i < (fieldsL k).length) (h6 : (fieldsL k).getD i 0 = 6) : i + 1 = (fieldsL k).length := by
  unfold fieldsL at *
  by_cases h1 : k = 2
  · rw [if_pos h1] at *; simp at h ⊢; omega
  · rw [if_neg h1] at *
    repeat' split at h
    all_goals
      simp only [*, if_true, if_false] at h h6 ⊢
      try (simp at h; done)
      try (rcases i with _ | _ | _ | _ | _ | i <;> simp at h h6 ⊢ <;> omega)
theorem rd1_num {zs : List Int} {c : Cmd} {f u : Nat} (hf : f ≤ 5) : rd1 zs c f u = (putC c f (nx zs u (mostF f)).1, (nx zs u (mostF f)).2.1, (nx zs u (mostF f)).2.2) := if_neg (by omega)
theorem rd1_six {zs : List Int} {c : Cmd} {u : Nat} : rd1 zs c 6 u = ({ c with nodes := (li zs u).1 }, (li zs u).2.1, (li zs u).2.2) := if_pos rfl
theorem rdF_ok {zs fs : List Int} {c : Cmd} {f : Int} {u : Nat} (h : ((rd1 zs c f.toNat u).2.1 == 0) = true) : rdF zs (f :: fs) c u = rdF zs fs (rd1 zs c f.toNat u).1 (rd1 zs c f.toNat u).2.2 := if_pos h
theorem rdF_no {zs fs : List Int} {c : Cmd} {f : Int} {u : Nat} (h : ((rd1 zs c f.toNat u).2.1 == 0) = false) : rdF zs (f :: fs) c u = rd1 zs c f.toNat u := by
  show (if _ then _ else _) = _
  rw [h]; rfl
theorem dec_read {zs : List Int} {n : Int} {u : Nat} (h : nx zs 0 18446744073709551615 = (n, 0, u)) (hk : kindB n = true) {er : Int} (he : (rdC zs n u).2.1 = er) (h2 : (er == 0) = false) : decL zs = (zeroC, 0, er) := by
  unfold decL
  rw [h]
  simp only [beq_self_eq_true, if_true, hk, he, h2, Bool.false_eq_true, if_false]
theorem dec_cmd {zs : List Int} {n : Int} {u u2 : Nat} {c : Cmd} (h : nx zs 0 18446744073709551615 = (n, 0, u)) (hk : kindB n = true) (hr : rdC zs n u = (c, 0, u2)) (hc : chkC c = false) : decL zs = (zeroC, 0, 40) := by
  unfold decL
  rw [h]
  simp only [beq_self_eq_true, if_true, hk, hr, hc, Bool.false_eq_true, if_false]
theorem dec_yes {zs : List Int} {n : Int} {u u2 : Nat} {c : Cmd} (h : nx zs 0 18446744073709551615 = (n, 0, u)) (hk : kindB n = true) (hr : rdC zs n u = (c, 0, u2)) (hc : chkC c = true) : decL zs = (c, u2, 0) := by
  unfold decL
  rw [h]
  simp only [beq_self_eq_true, if_true, hk, hr, hc]

theorem row8 {w : World} {g : Nat} {t : TypeId} {z0 z1 z2 z3 z4 z5 z6 z7 : Value} (v0 v1 v2 v3 v4 v5 v6 v7 : Value) (h : w.heap[g]? = some (.cells #[z0, z1, z2, z3, z4, z5, z6, z7] t (0, 0))) :
    ((((((((w.setCell ⟨g, 0, none⟩ v0).setCell ⟨g, 1, none⟩ v1).setCell ⟨g, 2, none⟩ v2).setCell ⟨g, 3, none⟩ v3).setCell ⟨g, 4, none⟩ v4).setCell ⟨g, 5, none⟩ v5).setCell ⟨g, 6, none⟩ v6).setCell ⟨g, 7, none⟩ v7).drew.heap[g]? = some (.cells #[v0, v1, v2, v3, v4, v5, v6, v7] t (0, 0)) := by
  generalize hw0 : w.setCell ⟨g, 0, none⟩ v0 = w0
  have h0 : w0.heap[g]? = some (.cells #[v0, z1, z2, z3, z4, z5, z6, z7] t (0, 0)) := by rw [← hw0]; exact heap_setCell_same _ g 0 _ _ v0 h
  generalize hw1 : w0.setCell ⟨g, 1, none⟩ v1 = w1
  have h1 : w1.heap[g]? = some (.cells #[v0, v1, z2, z3, z4, z5, z6, z7] t (0, 0)) := by rw [← hw1]; exact heap_setCell_same _ g 1 _ _ v1 h0
  generalize hw2 : w1.setCell ⟨g, 2, none⟩ v2 = w2
  have h2 : w2.heap[g]? = some (.cells #[v0, v1, v2, z3, z4, z5, z6, z7] t (0, 0)) := by rw [← hw2]; exact heap_setCell_same _ g 2 _ _ v2 h1
  generalize hw3 : w2.setCell ⟨g, 3, none⟩ v3 = w3
  have h3 : w3.heap[g]? = some (.cells #[v0, v1, v2, v3, z4, z5, z6, z7] t (0, 0)) := by rw [← hw3]; exact heap_setCell_same _ g 3 _ _ v3 h2
  generalize hw4 : w3.setCell ⟨g, 4, none⟩ v4 = w4
  have h4 : w4.heap[g]? = some (.cells #[v0, v1, v2, v3, v4, z5, z6, z7] t (0, 0)) := by rw [← hw4]; exact heap_setCell_same _ g 4 _ _ v4 h3
  generalize hw5 : w4.setCell ⟨g, 5, none⟩ v5 = w5
  have h5 : w5.heap[g]? = some (.cells #[v0, v1, v2, v3, v4, v5, z6, z7] t (0, 0)) := by rw [← hw5]; exact heap_setCell_same _ g 5 _ _ v5 h4
  generalize hw6 : w5.setCell ⟨g, 6, none⟩ v6 = w6
  have h6 : w6.heap[g]? = some (.cells #[v0, v1, v2, v3, v4, v5, v6, z7] t (0, 0)) := by rw [← hw6]; exact heap_setCell_same _ g 6 _ _ v6 h5
  generalize hw7 : w6.setCell ⟨g, 7, none⟩ v7 = w7
  have h7 : w7.heap[g]? = some (.cells #[v0, v1, v2, v3, v4, v5, v6, v7] t (0, 0)) := by rw [← hw7]; exact heap_setCell_same _ g 7 _ _ v7 h6
  exact h7
theorem pstep {a w : World} {B g i : Nat} {v : Value} (h : Past B (fun j => j = g) a w) : Past B (fun j => j = g) a (w.setCell ⟨g, i, none⟩ v) := h.trans (Past.setCell w ⟨g, i, none⟩ v rfl)
theorem prefl (w : World) (B g : Nat) : Past B (fun j => j = g) w w := ⟨rfl, rfl, rfl, Nat.le_refl _, fun _ _ _ => rfl⟩
theorem pdrew {a w : World} {B g : Nat} (h : Past B (fun j => j = g) a w) : Past B (fun j => j = g) a w.drew := ⟨h.1, h.2.1, h.2.2.1, h.2.2.2.1, h.2.2.2.2⟩
theorem past8 (w : World) (B g : Nat) (v0 v1 v2 v3 v4 v5 v6 v7 : Value) : Past B (fun j => j = g) w ((((((((w.setCell ⟨g, 0, none⟩ v0).setCell ⟨g, 1, none⟩ v1).setCell ⟨g, 2, none⟩ v2).setCell ⟨g, 3, none⟩ v3).setCell ⟨g, 4, none⟩ v4).setCell ⟨g, 5, none⟩ v5).setCell ⟨g, 6, none⟩ v6).setCell ⟨g, 7, none⟩ v7).drew := by
  have h0 := pstep (i := 0) (v := v0) (prefl w B g)
  have h1 := pstep (i := 1) (v := v1) h0
  have h2 := pstep (i := 2) (v := v2) h1
  have h3 := pstep (i := 3) (v := v3) h2
  have h4 := pstep (i := 4) (v := v4) h3
  have h5 := pstep (i := 5) (v := v5) h4
  have h6 := pstep (i := 6) (v := v6) h5
  have h7 := pstep (i := 7) (v := v7) h6
  exact pdrew h7
set_option maxHeartbeats 1600000 in
theorem decode_kind (v : Value) (zs : List Int) (w : World) (hs : Sl .u8 w v zs) {n : Int} {u : Nat} (hx : nx zs 0 18446744073709551615 = (n, 0, u)) (hk : kindB n = true) :
    Calls Try.prog 16 #[v] w (Dec zs w) := by
  obtain ⟨a, cap, rfl, -⟩ := id hs
  have HG := Lib.hid (begun w (.slice a zs.length cap))
  have hs0 := hs.below HG.out.below (Nat.le_refl _)
  have HS := Lib.hid (fun w' (hb : Below w.heap.size w w') => hs.below hb (Nat.le_refl _))
  have hbd := nx_bd (u := 0) (zs := zs) (m := 18446744073709551615) (Nat.zero_le _) (by omega)
  rw [hx] at hbd
  obtain ⟨b1, b2, b3⟩ := hbd
  have hk16 : 1 ≤ n ∧ n ≤ 6 := of_decide_eq_true hk
  obtain ⟨k1, k6⟩ := hk16
  have HX := Lib.hid hx
  have HK := Lib.hid hk
  clear hs hx hk
  go_enter Try.func16, Try.ntmps16
  go_wp2_with fail
  refine (next_any (w.heap.size + 1) _ zs 0 18446744073709551615 _ HG.out.reader hs0 (Nat.zero_le _)).mono ?_
  rintro e w1 ⟨rfl, hg1, ho1, hz1⟩
  have hr1 := (ho1.2.2.2.2 w.heap.size (by simp; omega) (by simp)).trans HG.out.result
  have hB1 : Below w.heap.size w w1 := ho1.below HG.out.below HG.out.below.size fun k hk => by omega
  have hz1' : w1.heap.size = w.heap.size + 2 := hz1.trans HG.out.size
  rw [HX.out] at hg1 ⊢
  clear ho1 hz1 hs0
  go_wp2_with (first
    | (go_at_call 18; refine (isKind_any n _ b2 b3).mono ?_; rintro e w2 ⟨rfl, rfl⟩; rw [HK.out]))
  have hc1 : Below w.heap.size w (w1.alloc (.cells (cArr (kindC n) (.slice none 0 0)) 25)) := hB1.alloc (by omega) _
  have hh1 : (w1.alloc (.cells (cArr (kindC n) (.slice none 0 0)) 25)).heap[w1.heap.size]? = some (.cells (cArr (kindC n) (.slice none 0 0)) 25 (0, 0)) := heap_alloc_new _ _
  have hg2 := (heap_alloc_old w1 (.cells (cArr (kindC n) (.slice none 0 0)) 25) (Array.getElem?_eq_some_iff.1 hg1).1).trans hg1
  have hr2 := (heap_alloc_old w1 (.cells (cArr (kindC n) (.slice none 0 0)) 25) (Array.getElem?_eq_some_iff.1 hr1).1).trans hr1
  refine (fields_own n _ ⟨k1, k6⟩).mono ?_
  rintro e w3 ⟨v3, rfl, hown3, hs3, hb3⟩
  have hz3 : w.heap.size + 3 ≤ w3.heap.size := by have := hb3.size; simp at this; omega
  have hB3 : Below w.heap.size w w3 := hc1.trans (hb3.mono hc1.size)
  have hg3 := (hb3.block (w.heap.size + 1) (by simp; omega)).trans hg2
  have hr3 := (hb3.block w.heap.size (by simp; omega)).trans hr2
  have hh3 := (hb3.block w1.heap.size (by simp)).trans hh1
  have hfo : OwnK .i64 42 w3 (w.heap.size + 3) v3 (fieldsL n) := OwnK.mono hown3 (by simp; omega)
  obtain ⟨hfl, hfb⟩ := fieldsL_bd n
  have HFB := Lib.hid hfb
  rw [hz1'] at hh3
  obtain ⟨a3, cap3, rfl, hn3⟩ := id hs3
  have HN3 := Lib.hid hn3
  clear hc1 hh1 hg2 hr2 hown3 hb3 hg1 hr1 hB1 hz1' hn3 hfb
  go_wp2_with fail
  go_loopw [34] (fun i wr => ∃ (k : Nat) (c : Cmd) (q : Nat) (vn : Value), k ≤ (fieldsL n).length ∧ i = .int .i64 k ∧ Hid (rdC zs n u = rdF zs ((fieldsL n).drop k) c q) ∧ Hid c.wf ∧ q ≤ zs.length ∧ wr.heap[w.heap.size + 1]? = some (.cells #[.slice a zs.length cap, .int .i64 q] 55 (0, 0)) ∧ wr.heap[w.heap.size + 2]? = some (.cells (cArr c vn) 25 (0, 0)) ∧ OwnI wr (w.heap.size + 3) vn c.nodes ∧ Hid (∀ x ∈ c.nodes, 0 ≤ x ∧ x ≤ 65535) ∧ (k < (fieldsL n).length → vn = .slice none 0 0) ∧ Past w3.heap.size (fun j => j = w.heap.size + 1 ∨ j = w.heap.size + 2) w3 wr) (fun i _ => (fieldsL n).length - (intOf i).toNat)
  case atStart => exact ⟨0, kindC n, u, .slice none 0 0, Nat.zero_le _, rfl, Lib.hid rfl, Lib.hid (kindC_wf ⟨k1, k6⟩), b1, hg3, hh3, OwnK.nil _ _ _ _, Lib.hid (by simp [kindC]), fun _ => rfl, ⟨rfl, rfl, rfl, Nat.le_refl _, fun _ _ _ => rfl⟩⟩
  case round =>
    obtain ⟨k, c, q, vn, hk, rfl, HO, HW, hq, hgr, hhr, hvn, HNB, hlast, hp⟩ := hrel
    have hsz := hp.2.2.2.1
    have hrr := (hp.2.2.2.2 w.heap.size (by omega) (by omega)).trans hr3
    have hBr : Below w.heap.size w wr := ⟨hp.1.trans hB3.os, hp.2.1.trans hB3.tape, hp.2.2.1.trans hB3.output, Nat.le_trans hB3.size hsz, fun j hj => (hp.2.2.2.2 j (by omega) (by omega)).trans (hB3.block j hj)⟩
    have hsr := (OwnK.past hfo hp (Nat.le_refl _) (fun g hg => by omega)).sl hs3.wf
    clear hg3 hh3 hr3
    by_cases hlt : k < (fieldsL n).length
    · obtain rfl := hlast hlt
      have hnn := own_nil hvn
      obtain ⟨b, off, rfl, -, hcx⟩ := Sl.at hsr hlt
      have hfb := HFB.out _ (Nd.mem_get hlt)
      have HD := Lib.hid (Nd.drop_get hlt)
      have H6 := Lib.hid (six_last hlt)
      generalize (fieldsL n).getD k 0 = z at *
      obtain ⟨f, rfl⟩ : ∃ f : Nat, z = f := ⟨z.toNat, by omega⟩
      have hfz : ((f : Int)).toNat = f := by omega
      have hO := HO.out
      rw [HD.out] at hO
      by_cases hf6 : f = 6
      · subst hf6
        have hkl := H6.out rfl
        have hlb := li_bd hq
        have hqb := hlb.1
        have HLB := Lib.hid hlb.2
        have h1 : rd1 zs c ((6 : Nat) : Int).toNat q = ({ c with nodes := (li zs q).1 }, (li zs q).2.1, (li zs q).2.2) := rd1_six
        have HCW : Hid ({ c with nodes := (li zs q).1 } : Cmd).wf := Lib.hid HW.out
        have HR := Lib.hid (readl_any (w.heap.size + 1) (w.heap.size + 2) (.slice a zs.length cap) c zs q wr hgr hhr (by omega) (fun w' hp' => HS.out w' (Only.below (show Only _ wr w' from hp') hBr hBr.size fun j hj => by omega)) hq)
        clear hlb
        cases he : ((li zs q).2.1 == 0) with
        | false =>
          have hne : ((li zs q).2.1 != 0) = true := by rw [bne, he]; rfl
          have hO2 : (rdC zs n u).2.1 = (li zs q).2.1 := by rw [hO, rdF_no (by rw [h1]; exact he), h1]
          have HDE := Lib.hid (dec_read HX.out HK.out hO2 he)
          clear hO2 hO h1 he hgr hhr
          go_wp2_with fail
          refine HR.out.mono ?_
          rintro e w4 ⟨rfl, hg4, ⟨vn4, hh4, hown4⟩, ho4⟩
          have hr4 := (ho4.2.2.2.2 w.heap.size (by omega) (by omega)).trans hrr
          have ho5 : Only (fun j => j = w.heap.size + 1 ∨ j = w.heap.size + 2) wr w4 := ho4
          have hB4 : Below w.heap.size w w4 := Only.below ho5 hBr hBr.size fun j hj => by omega
          generalize (li zs q).2.1 = er at *
          go_wp2_with (refine wpList_store_row rfl 25 (.tmp 2) (.tmp 42) rfl w.heap.size (cArr zeroC (.slice none 0 0)) rfl rfl 25 _ hr4 (by kernel_rfl) rfl (cArr_one _ _ _ _) ?_)
          refine bodyPost_ret (v := .tuple #[.agg (cArr zeroC (.slice none 0 0)), .int .i64 0, .int .i64 er]) (results_cell3 rfl _ _ w.heap.size 25 _ (0, 0) _ rfl (set_row hr4) Try.underlying25 rfl (by kernel_rfl) rfl rfl) rfl ?_
          exact dec_zero HDE.out (below_row hB4 (Nat.le_refl _) _)
        | true =>
          have hne : ((li zs q).2.1 != 0) = false := by rw [bne, he]; rfl
          have hO2 : rdC zs n u = rdF zs ((fieldsL n).drop (k + 1)) { c with nodes := (li zs q).1 } (li zs q).2.2 := by rw [hO, rdF_ok (by rw [h1]; exact he), h1]
          have HO2 := Lib.hid hO2
          clear hO2 hO h1 he hgr hhr
          go_wp2_with fail
          refine HR.out.mono ?_
          rintro e w4 ⟨rfl, hg4, ⟨vn4, hh4, hown4⟩, ho4⟩
          have ho5 : Only (fun j => j = w.heap.size + 1 ∨ j = w.heap.size + 2) wr w4 := ho4
          have hp4 := hp.trans (Past.of_only2 ho5 hsz fun j hj => hj)
          have hown5 : OwnI w4 (w.heap.size + 3) vn4 (li zs q).1 := OwnK.mono hown4 (by omega)
          generalize (li zs q).1 = x1 at *
          generalize (li zs q).2.1 = er at *
          generalize (li zs q).2.2 = q2 at *
          go_wp2_with fail
          go_roundw
          case rel => exact ⟨k + 1, { c with nodes := x1 }, q2, vn4, by omega, by go_num, HO2, HCW, hqb, hg4, hh4, hown5, HLB, fun hlt => absurd hlt (by omega), hp4⟩
          case measure => simp [intOf]; omega
      · have hf5 : f ≤ 5 := by omega
        have hb := nx_bd (m := mostF f) hq (by unfold mostF; split <;> omega)
        have hm18 : (nx zs q (mostF f)).1 ≤ 18446744073709551615 := by have := hb.2.2; unfold mostF at this ⊢; split at this <;> rename_i h1 <;> first | (rw [if_pos h1]; omega) | (rw [if_neg h1]; omega)
        have hm16 : f = 0 ∨ f = 3 → (nx zs q (mostF f)).1 ≤ 65535 := by intro h1; have := hb.2.2; unfold mostF at this ⊢; rw [if_pos h1] at this ⊢; exact this
        have HPW := Lib.hid (putC_wf HW.out hf5 hb.2.1 hm18 hm16)
        have hqb := hb.1
        have h1 : rd1 zs c (f : Int).toNat q = (putC c f (nx zs q (mostF f)).1, (nx zs q (mostF f)).2.1, (nx zs q (mostF f)).2.2) := by rw [hfz]; exact rd1_num hf5
        have hpn : (putC c f (nx zs q (mostF f)).1).nodes = [] := (putC_nodes c _ hf5).trans hnn
        have HPN := Lib.hid hpn
        clear hb hm18 hm16 hpn
        cases he : ((nx zs q (mostF f)).2.1 == 0) with
        | false =>
          have hne : ((nx zs q (mostF f)).2.1 != 0) = true := by rw [bne, he]; rfl
          have hO2 : (rdC zs n u).2.1 = (nx zs q (mostF f)).2.1 := by rw [hO, rdF_no (by rw [h1]; exact he), h1]
          have HDE := Lib.hid (dec_read HX.out HK.out hO2 he)
          have HR := Lib.hid (readf_any (w.heap.size + 1) (w.heap.size + 2) (.slice a zs.length cap) c f hf5 zs q wr hgr hhr (by omega) (HS.out _ hBr) hq)
          clear hO2 hO h1 he hgr hhr
          go_wp2_with fail
          refine HR.out.mono ?_
          rintro e w4 ⟨rfl, hg4, hh4, ho4⟩
          have hr4 := (ho4.2.2.2.2 w.heap.size (by omega) (by omega)).trans hrr
          have hB4 : Below w.heap.size w w4 := ho4.below hBr hBr.size fun j hj => by omega
          generalize (nx zs q (mostF f)).2.1 = er at *
          go_wp2_with (refine wpList_store_row rfl 25 (.tmp 2) (.tmp 42) rfl w.heap.size (cArr zeroC (.slice none 0 0)) rfl rfl 25 _ hr4 (by kernel_rfl) rfl (cArr_one _ _ _ _) ?_)
          refine bodyPost_ret (v := .tuple #[.agg (cArr zeroC (.slice none 0 0)), .int .i64 0, .int .i64 er]) (results_cell3 rfl _ _ w.heap.size 25 _ (0, 0) _ rfl (set_row hr4) Try.underlying25 rfl (by kernel_rfl) rfl rfl) rfl ?_
          exact dec_zero HDE.out (below_row hB4 (Nat.le_refl _) _)
        | true =>
          have hne : ((nx zs q (mostF f)).2.1 != 0) = false := by rw [bne, he]; rfl
          have hO2 : rdC zs n u = rdF zs ((fieldsL n).drop (k + 1)) (putC c f (nx zs q (mostF f)).1) (nx zs q (mostF f)).2.2 := by rw [hO, rdF_ok (by rw [h1]; exact he), h1]
          have HO2 := Lib.hid hO2
          have HR := Lib.hid (readf_any (w.heap.size + 1) (w.heap.size + 2) (.slice a zs.length cap) c f hf5 zs q wr hgr hhr (by omega) (HS.out _ hBr) hq)
          clear hO2 hO h1 he hgr hhr
          go_wp2_with fail
          refine HR.out.mono ?_
          rintro e w4 ⟨rfl, hg4, hh4, ho4⟩
          have hp4 := hp.trans (Past.of_only2 ho4 hsz fun j hj => hj)
          generalize (nx zs q (mostF f)).1 = x1 at *
          generalize (nx zs q (mostF f)).2.1 = er at *
          generalize (nx zs q (mostF f)).2.2 = q2 at *
          go_wp2_with fail
          go_roundw
          case rel => exact ⟨k + 1, _, q2, .slice none 0 0, by omega, by go_num, HO2, HPW, hqb, hg4, hh4, by rw [HPN.out]; exact OwnK.nil _ _ _ _, Lib.hid (by rw [HPN.out]; simp), fun _ => rfl, hp4⟩
          case measure => simp [intOf]; omega
    · obtain rfl : k = (fieldsL n).length := by omega
      have hO := HO.out
      rw [List.drop_length] at hO
      have hO2 : rdC zs n u = (c, 0, q) := hO
      have hslc := hvn.sl (fun x hx => by have := HNB.out x hx; exact WalkArith.wf_i64 (by omega))
      obtain ⟨an, capn, rfl, -⟩ := id hslc
      have hic : IsCmd wr (.agg (cArr c (.slice an c.nodes.length capn))) c := ⟨_, rfl, hslc, HW.out⟩
      have HIC := Lib.hid hic
      have HSLC := Lib.hid hslc
      have HVN := Lib.hid hvn
      clear hO hic hslc hvn hsr
      cases hck : chkC c with
      | false =>
        have HDE := Lib.hid (dec_cmd HX.out HK.out hO2 hck)
        have hce : cErr (chkC c) = 40 := by rw [hck]; rfl
        have HCE := Lib.hid hce
        clear hck hce hO2
        go_wp2_with (refine wpList_load_row rfl 25 (.tmp 8) rfl (w.heap.size + 2) rfl 25 (cArr c (.slice an c.nodes.length capn)) (0, 0) _ hhr Try.underlying25 rfl (by kernel_rfl) ?_)
        refine (check_any c _ _ HIC.out).mono ?_
        rintro e w5 ⟨rfl, hb5⟩
        rw [HCE.out]
        have hr5 := (hb5.block w.heap.size (by omega)).trans hrr
        have hB5 : Below w.heap.size w w5 := hBr.trans (hb5.mono hBr.size)
        go_wp2_with (refine wpList_store_row rfl 25 (.tmp 2) (.tmp 49) rfl w.heap.size (cArr zeroC (.slice none 0 0)) rfl rfl 25 _ hr5 (by kernel_rfl) rfl (cArr_one _ _ _ _) ?_)
        refine bodyPost_ret (v := .tuple #[.agg (cArr zeroC (.slice none 0 0)), .int .i64 0, .int .i64 40]) (results_cell3 rfl _ _ w.heap.size 25 _ (0, 0) _ rfl (set_row hr5) Try.underlying25 rfl (by kernel_rfl) rfl rfl) rfl ?_
        exact dec_zero HDE.out (below_row hB5 (Nat.le_refl _) _)
      | true =>
        have HDE := Lib.hid (dec_yes HX.out HK.out hO2 hck)
        have hce : cErr (chkC c) = 0 := by rw [hck]; rfl
        have HCE := Lib.hid hce
        clear hck hce hO2
        go_wp2_with (refine wpList_load_row rfl 25 (.tmp 8) rfl (w.heap.size + 2) rfl 25 (cArr c (.slice an c.nodes.length capn)) (0, 0) _ hhr Try.underlying25 rfl (by kernel_rfl) ?_)
        refine (check_any c _ _ HIC.out).mono ?_
        rintro e w5 ⟨rfl, hb5⟩
        rw [HCE.out]
        have hr5 := (hb5.block w.heap.size (by omega)).trans hrr
        have hg5 := (hb5.block (w.heap.size + 1) (by omega)).trans hgr
        have hh5 := (hb5.block (w.heap.size + 2) (by omega)).trans hhr
        have hB5 : Below w.heap.size w w5 := hBr.trans (hb5.mono hBr.size)
        have hV5 : OwnI w5 (w.heap.size + 3) (.slice an c.nodes.length capn) c.nodes := OwnK.below HVN.out hb5 (Nat.le_refl _)
        have HV5 := Lib.hid hV5
        have HR5 := Lib.hid hr5
        have hz5 := hb5.size
        clear hV5
        have d0 := cell_of_row w5 (w.heap.size + 2) 0 _ _ _ hh5
        have d1 := cell_of_row w5 (w.heap.size + 2) 1 _ _ _ hh5
        have d2 := cell_of_row w5 (w.heap.size + 2) 2 _ _ _ hh5
        have d3 := cell_of_row w5 (w.heap.size + 2) 3 _ _ _ hh5
        have d4 := cell_of_row w5 (w.heap.size + 2) 4 _ _ _ hh5
        have d5 := cell_of_row w5 (w.heap.size + 2) 5 _ _ _ hh5
        have d6 := cell_of_row w5 (w.heap.size + 2) 6 _ _ _ hh5
        have d7 := cell_of_row w5 (w.heap.size + 2) 7 _ _ _ hh5
        have r0 := cell_of_row w5 w.heap.size 0 _ _ _ hr5
        have z0 := frozen_of_row w5 w.heap.size 0 _ _ hr5
        have r1 := cell_of_row w5 w.heap.size 1 _ _ _ hr5
        have z1 := frozen_of_row w5 w.heap.size 1 _ _ hr5
        have r2 := cell_of_row w5 w.heap.size 2 _ _ _ hr5
        have z2 := frozen_of_row w5 w.heap.size 2 _ _ hr5
        have r3 := cell_of_row w5 w.heap.size 3 _ _ _ hr5
        have z3 := frozen_of_row w5 w.heap.size 3 _ _ hr5
        have r4 := cell_of_row w5 w.heap.size 4 _ _ _ hr5
        have z4 := frozen_of_row w5 w.heap.size 4 _ _ hr5
        have r5 := cell_of_row w5 w.heap.size 5 _ _ _ hr5
        have z5 := frozen_of_row w5 w.heap.size 5 _ _ hr5
        have r6 := cell_of_row w5 w.heap.size 6 _ _ _ hr5
        have z6 := frozen_of_row w5 w.heap.size 6 _ _ hr5
        have r7 := cell_of_row w5 w.heap.size 7 _ _ _ hr5
        have z7 := frozen_of_row w5 w.heap.size 7 _ _ hr5
        have e1 := cell_of_row w5 (w.heap.size + 1) 1 _ _ _ hg5
        simp only [cArr, zeroC, List.getElem?_toArray, List.getElem?_cons_zero, List.getElem?_cons_succ] at d0 d1 d2 d3 d4 d5 d6 d7 e1 r0 r1 r2 r3 r4 r5 r6 r7
        go_wp2_with fail
        go_region
        go_wp2
        have hrow := row8 (.int .i64 c.kind) (.int .i64 c.node) (.int .i64 c.token) (.slice an c.nodes.length capn) (.int .u64 c.boot) (.int .u64 c.seq) (.int .u64 c.serial) (.int .u64 c.stamp) HR5.out
        have hpast := past8 w5 w5.heap.size w.heap.size (.int .i64 c.kind) (.int .i64 c.node) (.int .i64 c.token) (.slice an c.nodes.length capn) (.int .u64 c.boot) (.int .u64 c.seq) (.int .u64 c.serial) (.int .u64 c.stamp)
        revert hrow hpast
        generalize ((((((((w5.setCell ⟨w.heap.size, 0, none⟩ (.int .i64 c.kind)).setCell ⟨w.heap.size, 1, none⟩ (.int .i64 c.node)).setCell ⟨w.heap.size, 2, none⟩ (.int .i64 c.token)).setCell ⟨w.heap.size, 3, none⟩ (.slice an c.nodes.length capn)).setCell ⟨w.heap.size, 4, none⟩ (.int .u64 c.boot)).setCell ⟨w.heap.size, 5, none⟩ (.int .u64 c.seq)).setCell ⟨w.heap.size, 6, none⟩ (.int .u64 c.serial)).setCell ⟨w.heap.size, 7, none⟩ (.int .u64 c.stamp)).drew = wf
        intro hrow hpast
        have honly : Only (fun j => j = w.heap.size) w5 wf := hpast
        have hBf : Below w.heap.size w wf := Only.below honly hB5 hB5.size fun j hj => by omega
        have hVf : OwnI wf (w.heap.size + 3) (.slice an c.nodes.length capn) c.nodes := OwnK.past HV5.out hpast (Nat.le_refl _) (fun g hg => by omega)
        refine bodyPost_ret (v := .tuple #[.agg (cArr c (.slice an c.nodes.length capn)), .int .i64 q, .int .i64 0]) (results_cell3 rfl _ _ w.heap.size 25 _ (0, 0) _ rfl hrow Try.underlying25 rfl (by kernel_rfl) rfl rfl) rfl ?_
        exact dec_some HDE.out (OwnK.sl hVf HSLC.out.wf) HW.out hBf
end Cm
end Go.Proofs.Ytlpoljknohiihaa
