/- The document's pool: Open. No condition. -/
import Derived.Test.YtlhojkopfpnhpaaPrD
namespace Go.Proofs.Ytlhojkopfpnhpaa
open Go.ChangeShapes Go.WideShapes Go.ChangeAt Go.RowKit Go.Deep
set_option linter.unusedVariables false
set_option maxRecDepth 100000
set_option linter.unusedSimpArgs false
namespace Pr
open Pl
variable {w w' : World} {B q : Nat} {vC vW : Value} {cs : List Cn} {ws : List Int}
theorem setS_ins (t z : Int) : setS (posC t cs) z (insC t 0 cs) = insC t z cs := by
  apply List.ext_getElem?
  intro i
  rw [setS_get, ins_get, ins_get]
  by_cases h1 : i < posC t cs
  · rw [if_neg (by omega), if_pos h1, if_pos h1]
  · by_cases h2 : i = posC t cs
    · rw [if_pos h2, if_neg h1, if_pos h2, if_neg h1, if_pos h2]; rfl
    · rw [if_neg h2, if_neg h1, if_neg h2, if_neg h1, if_neg h2]
theorem open_fin {w2 W6 : World} {v5 : Value} {cs' : List Cn} {ws' : List Int} (hb : Below w.heap.size w w2) (ho : Only (fun k => k = q ∨ vC.ownBlock = some k) w2 W6) (hv : ∀ k, v5.ownBlock = some k → w2.heap.size ≤ k) (h : RpC B q v5 cs' ws' W6 w') : RpC B q vC cs' ws' w w' := by
  obtain ⟨a, b, h1, h2, h3⟩ := h
  refine ⟨a, b, h1, Only.after ((Below.only hb _).trans ho) h2 (fun i hi ht => ?_), .inr (fun k hk => ?_)⟩
  · rcases ht with e | e
    · exact .inl e
    · have := hv i e; have := hb.size; omega
  · rcases h3 with e | e
    · rw [e] at hk; exact Nat.le_trans hb.size (hv k hk)
    · exact Nat.le_trans hb.size (Nat.le_trans ho.2.2.2.1 (e k hk))

set_option maxHeartbeats 4000000 in
theorem ropen_any (t : Int) (w : World) (h : RpAt w B q vC vW cs ws) (hB : B ≤ w.heap.size) (ok : OkP cs ws) (h8 : cs.length ≤ 8) (h4 : ws.length ≤ 4) :
    Calls Try.prog 7 #[.pointer (some ⟨q, 0, none⟩), .int .i64 t] w (ROp B q vC (openV t cs ws) (openE t cs) (openC t cs ws) (openW t cs ws) w) := by
  have HR := Lib.hid h
  have HB := Lib.hid hB
  have HTI := Lib.hid (tok_idx (t := t) ok.sorted)
  unfold openV openC openW
  by_cases h1 : t < 1
  · have e : openE t cs = 1 := by unfold openE; rw [if_pos (.inl h1)]
    rw [e, if_neg (by decide), if_neg (by decide), if_neg (by decide)]
    clear h ok e
    go_enter Try.func7, Try.ntmps7
    go_wp2
    go_ret2
    exact ⟨rfl, RpC.same HR.out (Below.refl _ _)⟩
  by_cases h2 : 65535 < t
  · have e : openE t cs = 1 := by unfold openE; rw [if_pos (.inr h2)]
    rw [e, if_neg (by decide), if_neg (by decide), if_neg (by decide)]
    clear h ok e
    go_enter Try.func7, Try.ntmps7
    go_wp2
    go_ret2
    exact ⟨rfl, RpC.same HR.out (Below.refl _ _)⟩
  by_cases hh : hasC t cs = true
  · have e : openE t cs = 3 := by unfold openE; rw [if_neg (by omega), if_pos hh]
    rw [e, if_neg (by decide), if_neg (by decide), if_neg (by decide)]
    have hti : 0 ≤ idxOf (tokQ t) cs := by rw [HTI.out, if_pos hh]; omega
    clear h ok e hh
    go_enter Try.func7, Try.ntmps7
    go_wp2_with (refine (rfind_any t _ HR.out h8).mono ?_; rintro e w2 ⟨rfl, hb⟩; have HB2 := Lib.hid hb; clear hb)
    go_ret2
    exact ⟨rfl, RpC.same HR.out HB2.out⟩
  have hh' : hasC t cs = false := by simpa using hh
  have HT : Hid (idxOf (tokQ t) cs = -1) := Lib.hid (by rw [HTI.out, if_neg hh])
  by_cases h8x : 8 ≤ cs.length
  · have e : openE t cs = 6 := by unfold openE; rw [if_neg (by omega), if_neg hh, if_pos h8x]
    rw [e, if_neg (by decide), if_neg (by decide), if_neg (by decide)]
    have hl8 : (8 : Int) ≤ (cs.length : Int) := by omega
    obtain ⟨ac, cc, rfl⟩ := own_slice h.2.1
    clear h ok e hh hh'
    go_enter Try.func7, Try.ntmps7
    go_wp2_with fail
    refine (rfind_any t _ HR.out h8).mono ?_
    rintro e w2 ⟨rfl, hb⟩
    rw [HT.out]
    have HB2 := Lib.hid hb
    have c0 := (HR.out.below hb).c0
    clear hb
    go_wp2
    go_ret2
    exact ⟨rfl, RpC.same HR.out HB2.out⟩
  · have e : openE t cs = 0 := by unfold openE; rw [if_neg (by omega), if_neg hh, if_neg h8x]
    rw [e, if_pos rfl, if_pos rfl, if_pos rfl]
    have HHH := Lib.hid hh'
    have HX := Lib.hid (show (insC t 0 cs)[posC t cs]? = some ⟨t, 0⟩ by rw [ins_get, if_neg (Nat.lt_irrefl _), if_pos rfl])
    have HINS : Hid (Sorted (insC t 0 cs)) := Lib.hid (ins_sorted ok.sorted hh')
    have HPL : Hid (∀ (j : Nat) (y : Cn), cs[j]? = some y → (j < posC t cs → y.tok < t) ∧ (posC t cs ≤ j → ¬ y.tok < t)) := Lib.hid (fun j y hy => ⟨fun hj => pos_lt hj hy, fun hj => by have := pos_gt ok.sorted hh' hj hy; omega⟩)
    have HLE := Lib.hid (pos_le t cs)
    have HIC : Hid (insC t 0 cs = (cs.take (posC t cs) ++ [⟨t, 0⟩]) ++ cs.drop (posC t cs)) := Lib.hid (by unfold insC; simp)
    have HIL := Lib.hid (ins_len t 0 cs)
    have HSI := Lib.hid (setS_ins (cs := cs) t (ws.headD 0))
    obtain ⟨k, hkp⟩ : ∃ k, posC t cs = k := ⟨_, rfl⟩
    rw [hkp] at HX HPL HLE HIC HSI
    obtain ⟨z, hz⟩ : ∃ z, ws.headD 0 = z := ⟨_, rfl⟩
    rw [hz] at HSI ⊢
    have HZ := Lib.hid hz
    obtain ⟨ac, cc, rfl⟩ := own_slice h.2.1
    have hcb : cs.length ≤ cc ∧ cc ≤ 9223372036854775807 := by
      obtain ⟨a2, c2, e, g1, g2, -⟩ := h.2.1.sl cnC_len
      simp only [Value.slice.injEq] at e
      obtain ⟨-, -, rfl⟩ := e
      exact ⟨g1, g2⟩
    obtain ⟨hcb1, hcb2⟩ := hcb
    have hl8 : ¬ (8 : Int) ≤ (cs.length : Int) := by omega
    clear h ok hh hh' hz hkp e h8x
    go_enter Try.func7, Try.ntmps7
    go_wp2_with fail
    refine (rfind_any t _ HR.out h8).mono ?_
    rintro e w2 ⟨rfl, hb⟩
    rw [HT.out]
    have HB2 := Lib.hid hb
    have HS2 : Hid (B ≤ w2.heap.size) := Lib.hid (Nat.le_trans HB.out hb.size)
    have HR2 := Lib.hid (HR.out.below hb)
    have c0 := HR2.out.c0
    clear hb
    go_wp2_with fail
    go_loop [6] (fun i => ∃ j : Nat, j ≤ k ∧ i = .int .i64 j) (fun i => k - (intOf i).toNat)
    case atStart => exact ⟨0, Nat.zero_le _, rfl⟩
    case round =>
      obtain ⟨j, hj, rfl⟩ := hrel
      have hkc : k ≤ cs.length := HLE.out
      by_cases hjk : j < k
      · have hji : (j : Int) < (cs.length : Int) := by omega
        obtain ⟨g, cap, e2⟩ := HR2.out.form (by omega)
        simp only [Value.slice.injEq] at e2
        obtain ⟨rfl, -, rfl⟩ := e2
        obtain ⟨y, hy⟩ : ∃ y, cs[j]? = some y := ⟨_, rgetD (by omega)⟩
        obtain ⟨y0, y1, -⟩ := HR2.out.row hy
        have hlt := (HPL.out j y hy).1 hjk
        clear hy
        go_wp2
        go_round
        case rel => exact ⟨j + 1, by omega, by go_num⟩
        case measure => simp [intOf]; omega
      · obtain rfl : j = k := by omega
        by_cases hjc : j < cs.length
        · have hji : (j : Int) < (cs.length : Int) := by omega
          obtain ⟨g, cap, e2⟩ := HR2.out.form (by omega)
          simp only [Value.slice.injEq] at e2
          obtain ⟨rfl, -, rfl⟩ := e2
          obtain ⟨y, hy⟩ : ∃ y, cs[j]? = some y := ⟨_, rgetD (by omega)⟩
          obtain ⟨y0, y1, -⟩ := HR2.out.row hy
          have hlt := (HPL.out j y hy).2 (Nat.le_refl _)
          have hsl := HR2.out.2.1.sl cnC_len
          have HTK := Lib.hid (hsl.takes j (by omega))
          have HDP := Lib.hid (hsl.drops j (by omega))
          have hne : ¬ cc = j := by omega
          have hne2 : ¬ j = cc := by omega
          clear hy hsl
          go_upto_region 10 with fail
          clear y0 y1
          have HTL : Hid ((cs.take j).length ≤ 8 ∧ (cs.take j ++ [(⟨t, 0⟩ : Cn)]).length ≤ 9 ∧ (cs.drop j).length ≤ 8) := Lib.hid (by simp only [List.length_append, List.length_take, List.length_drop, List.length_singleton]; omega)
          go_wp2_with (first
            | (at_builtin; refine appR cnC_len cnC_one Try.underlying27 rfl (by decide) info_rcn rfl _ _ rfl w2.heap.size (.slice none 0 0) ([] : List Cn) rfl (OwnR.nil _ _ _) (.slice (some ⟨g, 0, none⟩) j cc) (cs.take j) rfl HTK.out (by have := HTL.out.1; simp only [List.length_nil]; unfold maxLen; omega) (by have := HTL.out.1; simp only [List.length_nil]; omega) (Nat.le_refl _) ?_; intro v3 w3 own3 hb3; rw [List.nil_append] at own3; obtain ⟨n3, hn3⟩ : ∃ x, (cs.take j).length = x := ⟨_, rfl⟩; obtain ⟨a3, c3, hv3⟩ := own_slice own3; rw [hn3] at hv3; subst hv3; obtain ⟨W3, hW3⟩ : ∃ x, w3.alloc (.cells #[.int .i64 t, .int .i64 0] TC) = x := ⟨_, rfl⟩; have HN1 : Hid (SlR 2 cnC W3 (.slice (some ⟨w3.heap.size, 0, none⟩) 1 1) [(⟨t, 0⟩ : Cn)]) := Lib.hid (by rw [← hW3]; exact SlR.one cnC_len w3 _ rfl _ ⟨t, 0⟩ rfl); have hb3w : Below w2.heap.size w2 W3 := (by rw [← hW3]; exact hb3.alloc hb3.size _); have HS3 := Lib.hid hb3w.size; have HO3 : Hid (OwnR 2 cnC TC W3 w2.heap.size (.slice a3 n3 c3) (cs.take j)) := Lib.hid (by rw [← hW3]; exact own3.alloc _); have HB3 := Lib.hid hb3w; clear own3 hb3 hb3w)
            | (at_builtin; refine appR cnC_len cnC_one Try.underlying27 rfl (by decide) info_rcn rfl _ _ rfl w2.heap.size (.slice a3 n3 c3) (cs.take j) rfl HO3.out (.slice (some ⟨w3.heap.size, 0, none⟩) 1 1) [(⟨t, 0⟩ : Cn)] rfl HN1.out (by have := HTL.out.1; simp only [List.length_singleton]; unfold maxLen; omega) (by have := HTL.out.1; simp only [List.length_singleton]; omega) HS3.out ?_; intro v4 w4 own4 hb4; obtain ⟨n4, hn4⟩ : ∃ x, (cs.take j ++ [(⟨t, 0⟩ : Cn)]).length = x := ⟨_, rfl⟩; obtain ⟨a4, c4, hv4⟩ := own_slice own4; rw [hn4] at hv4; subst hv4; have hb4w := HB3.out.trans hb4; have HS4 := Lib.hid hb4w.size; have HO4 := Lib.hid own4; have HB4 := Lib.hid hb4w; have c4q := (HR2.out.below hb4w).c0; have HDP4 := Lib.hid (HDP.out.below hb4w (Nat.le_refl _)); clear own4 hb4 hb4w hn4)
            | (at_builtin; refine appR cnC_len cnC_one Try.underlying27 rfl (by decide) info_rcn rfl _ _ rfl w2.heap.size (.slice a4 n4 c4) (cs.take j ++ [(⟨t, 0⟩ : Cn)]) rfl HO4.out (.slice (some ⟨g, j * 2, none⟩) (cs.length - j) (cc - j)) (cs.drop j) rfl HDP4.out (by have := HTL.out; unfold maxLen; omega) (by have := HTL.out; omega) HS4.out ?_; intro v5 w5 own5 hb5; rw [← HIC.out] at own5; obtain ⟨n5, hn5⟩ : ∃ x, (insC t 0 cs).length = x := ⟨_, rfl⟩; obtain ⟨a5, c5, hv5⟩ := own_slice own5; rw [hn5] at hv5; subst hv5; have hb5w := HB4.out.trans hb5; have hpc := HR2.out.putC HS2.out own5 hb5w; have c5q := (HR2.out.below hb5w).c0; have f5q := (HR2.out.below hb5w).f 0; obtain ⟨W6, hW6⟩ : ∃ x, w5.setCell ⟨q, 0, none⟩ (.slice a5 n5 c5) = x := ⟨_, rfl⟩; rw [hW6] at hpc; have HPC := Lib.hid hpc; have HS6 : Hid (w2.heap.size ≤ W6.heap.size) := Lib.hid hpc.2.1.2.2.2.1; clear own5 hb5 hb5w hpc hn5)
            | (go_at_call 23; refine (rgive_any t _ HPC.out.1 (Nat.le_trans HS2.out HS6.out) (by rw [HIL.out]; omega) h4 HINS.out HX.out rfl).mono ?_; rintro e w7 ⟨rfl, hr⟩; rw [HZ.out] at hr ⊢; rw [HSI.out] at hr; have HR7 := Lib.hid hr; clear hr))
          go_ret2
          exact ⟨rfl, open_fin HB2.out HPC.out.2.1 HPC.out.2.2 HR7.out⟩
        · have hji : ¬ (j : Int) < (cs.length : Int) := by omega
          have hjl : j = cs.length := by omega
          rcases own_form HR2.out.2.1 with ⟨e2, hz0⟩ | ⟨g, cg, cur, e2, -⟩
          · simp only [Value.slice.injEq] at e2
            obtain ⟨rfl, -, rfl⟩ := e2
            have hcs : cs = [] := List.eq_nil_of_length_eq_zero hz0
            have hj0 : j = 0 := by omega
            have HTK : Hid (SlR 2 cnC w2 (.slice none 0 0) (cs.take j)) := Lib.hid (by rw [hcs]; simpa using SlR.nil w2)
            have HDP : Hid (SlR 2 cnC w2 (.slice none 0 0) (cs.drop j)) := Lib.hid (by rw [hcs]; simpa using SlR.nil w2)
            rw [hz0] at c0 hji
            have hcz := hz0
            go_upto_region 10 with fail
            clear hjl
            obtain rfl := hj0
            have hq0 : cs.length = 0 := hz0
            have HTL : Hid ((cs.take 0).length ≤ 8 ∧ (cs.take 0 ++ [(⟨t, 0⟩ : Cn)]).length ≤ 9 ∧ (cs.drop 0).length ≤ 8) := Lib.hid (by simp only [List.length_append, List.length_take, List.length_drop, List.length_singleton]; omega)
            go_wp2_with (first
              | (at_builtin; refine appR cnC_len cnC_one Try.underlying27 rfl (by decide) info_rcn rfl _ _ rfl w2.heap.size (.slice none 0 0) ([] : List Cn) rfl (OwnR.nil _ _ _) (.slice none 0 0) (cs.take 0) rfl HTK.out (by have := HTL.out.1; simp only [List.length_nil]; unfold maxLen; omega) (by have := HTL.out.1; simp only [List.length_nil]; omega) (Nat.le_refl _) ?_; intro v3 w3 own3 hb3; rw [List.nil_append] at own3; obtain ⟨n3, hn3⟩ : ∃ x, (cs.take 0).length = x := ⟨_, rfl⟩; obtain ⟨a3, c3, hv3⟩ := own_slice own3; rw [hn3] at hv3; subst hv3; obtain ⟨W3, hW3⟩ : ∃ x, w3.alloc (.cells #[.int .i64 t, .int .i64 0] TC) = x := ⟨_, rfl⟩; have HN1 : Hid (SlR 2 cnC W3 (.slice (some ⟨w3.heap.size, 0, none⟩) 1 1) [(⟨t, 0⟩ : Cn)]) := Lib.hid (by rw [← hW3]; exact SlR.one cnC_len w3 _ rfl _ ⟨t, 0⟩ rfl); have hb3w : Below w2.heap.size w2 W3 := (by rw [← hW3]; exact hb3.alloc hb3.size _); have HS3 := Lib.hid hb3w.size; have HO3 : Hid (OwnR 2 cnC TC W3 w2.heap.size (.slice a3 n3 c3) (cs.take 0)) := Lib.hid (by rw [← hW3]; exact own3.alloc _); have HB3 := Lib.hid hb3w; clear own3 hb3 hb3w)
              | (at_builtin; refine appR cnC_len cnC_one Try.underlying27 rfl (by decide) info_rcn rfl _ _ rfl w2.heap.size (.slice a3 n3 c3) (cs.take 0) rfl HO3.out (.slice (some ⟨w3.heap.size, 0, none⟩) 1 1) [(⟨t, 0⟩ : Cn)] rfl HN1.out (by have := HTL.out.1; simp only [List.length_singleton]; unfold maxLen; omega) (by have := HTL.out.1; simp only [List.length_singleton]; omega) HS3.out ?_; intro v4 w4 own4 hb4; obtain ⟨n4, hn4⟩ : ∃ x, (cs.take 0 ++ [(⟨t, 0⟩ : Cn)]).length = x := ⟨_, rfl⟩; obtain ⟨a4, c4, hv4⟩ := own_slice own4; rw [hn4] at hv4; subst hv4; have hb4w := HB3.out.trans hb4; have HS4 := Lib.hid hb4w.size; have HO4 := Lib.hid own4; have HB4 := Lib.hid hb4w; have c4q := (HR2.out.below hb4w).c0; have HDP4 := Lib.hid (HDP.out.below hb4w (Nat.le_refl _)); clear own4 hb4 hb4w hn4)
              | (at_builtin; refine appR cnC_len cnC_one Try.underlying27 rfl (by decide) info_rcn rfl _ _ rfl w2.heap.size (.slice a4 n4 c4) (cs.take 0 ++ [(⟨t, 0⟩ : Cn)]) rfl HO4.out (.slice none 0 0) (cs.drop 0) rfl HDP4.out (by have := HTL.out; unfold maxLen; omega) (by have := HTL.out; omega) HS4.out ?_; intro v5 w5 own5 hb5; rw [← HIC.out] at own5; obtain ⟨n5, hn5⟩ : ∃ x, (insC t 0 cs).length = x := ⟨_, rfl⟩; obtain ⟨a5, c5, hv5⟩ := own_slice own5; rw [hn5] at hv5; subst hv5; have hb5w := HB4.out.trans hb5; have hpc := HR2.out.putC HS2.out own5 hb5w; have c5q := (HR2.out.below hb5w).c0; have f5q := (HR2.out.below hb5w).f 0; obtain ⟨W6, hW6⟩ : ∃ x, w5.setCell ⟨q, 0, none⟩ (.slice a5 n5 c5) = x := ⟨_, rfl⟩; rw [hW6] at hpc; have HPC := Lib.hid hpc; have HS6 : Hid (w2.heap.size ≤ W6.heap.size) := Lib.hid hpc.2.1.2.2.2.1; clear own5 hb5 hb5w hpc hn5)
              | (go_at_call 23; refine (rgive_any t _ HPC.out.1 (Nat.le_trans HS2.out HS6.out) (by rw [HIL.out]; omega) h4 HINS.out HX.out rfl).mono ?_; rintro e w7 ⟨rfl, hr⟩; rw [HZ.out] at hr ⊢; rw [HSI.out] at hr; have HR7 := Lib.hid hr; clear hr))
            go_ret2
            exact ⟨rfl, open_fin HB2.out HPC.out.2.1 HPC.out.2.2 HR7.out⟩
          · simp only [Value.slice.injEq] at e2
            obtain ⟨rfl, -, rfl⟩ := e2
            have hjg : cs.length ≤ j := by omega
            clear hjl
            have hsl := HR2.out.2.1.sl cnC_len
            have HTK := Lib.hid (hsl.takes j (by omega))
            go_upto_region 10 with fail
            by_cases hc : cc = j
            · subst hc
              have HDP : Hid (SlR 2 cnC w2 (.slice (some ⟨g, 0, none⟩) 0 0) (cs.drop cc)) := Lib.hid (by rw [List.drop_of_length_le (by omega)]; exact SlR.none_left _ _)
              clear hsl
              have HTL : Hid ((cs.take cc).length ≤ 8 ∧ (cs.take cc ++ [(⟨t, 0⟩ : Cn)]).length ≤ 9 ∧ (cs.drop cc).length ≤ 8) := Lib.hid (by simp only [List.length_append, List.length_take, List.length_drop, List.length_singleton]; omega)
              go_wp2_with (first
                | (at_builtin; refine appR cnC_len cnC_one Try.underlying27 rfl (by decide) info_rcn rfl _ _ rfl w2.heap.size (.slice none 0 0) ([] : List Cn) rfl (OwnR.nil _ _ _) (.slice (some ⟨g, 0, none⟩) cc cc) (cs.take cc) rfl HTK.out (by have := HTL.out.1; simp only [List.length_nil]; unfold maxLen; omega) (by have := HTL.out.1; simp only [List.length_nil]; omega) (Nat.le_refl _) ?_; intro v3 w3 own3 hb3; rw [List.nil_append] at own3; obtain ⟨n3, hn3⟩ : ∃ x, (cs.take cc).length = x := ⟨_, rfl⟩; obtain ⟨a3, c3, hv3⟩ := own_slice own3; rw [hn3] at hv3; subst hv3; obtain ⟨W3, hW3⟩ : ∃ x, w3.alloc (.cells #[.int .i64 t, .int .i64 0] TC) = x := ⟨_, rfl⟩; have HN1 : Hid (SlR 2 cnC W3 (.slice (some ⟨w3.heap.size, 0, none⟩) 1 1) [(⟨t, 0⟩ : Cn)]) := Lib.hid (by rw [← hW3]; exact SlR.one cnC_len w3 _ rfl _ ⟨t, 0⟩ rfl); have hb3w : Below w2.heap.size w2 W3 := (by rw [← hW3]; exact hb3.alloc hb3.size _); have HS3 := Lib.hid hb3w.size; have HO3 : Hid (OwnR 2 cnC TC W3 w2.heap.size (.slice a3 n3 c3) (cs.take cc)) := Lib.hid (by rw [← hW3]; exact own3.alloc _); have HB3 := Lib.hid hb3w; clear own3 hb3 hb3w)
                | (at_builtin; refine appR cnC_len cnC_one Try.underlying27 rfl (by decide) info_rcn rfl _ _ rfl w2.heap.size (.slice a3 n3 c3) (cs.take cc) rfl HO3.out (.slice (some ⟨w3.heap.size, 0, none⟩) 1 1) [(⟨t, 0⟩ : Cn)] rfl HN1.out (by have := HTL.out.1; simp only [List.length_singleton]; unfold maxLen; omega) (by have := HTL.out.1; simp only [List.length_singleton]; omega) HS3.out ?_; intro v4 w4 own4 hb4; obtain ⟨n4, hn4⟩ : ∃ x, (cs.take cc ++ [(⟨t, 0⟩ : Cn)]).length = x := ⟨_, rfl⟩; obtain ⟨a4, c4, hv4⟩ := own_slice own4; rw [hn4] at hv4; subst hv4; have hb4w := HB3.out.trans hb4; have HS4 := Lib.hid hb4w.size; have HO4 := Lib.hid own4; have HB4 := Lib.hid hb4w; have c4q := (HR2.out.below hb4w).c0; have HDP4 := Lib.hid (HDP.out.below hb4w (Nat.le_refl _)); clear own4 hb4 hb4w hn4)
                | (at_builtin; refine appR cnC_len cnC_one Try.underlying27 rfl (by decide) info_rcn rfl _ _ rfl w2.heap.size (.slice a4 n4 c4) (cs.take cc ++ [(⟨t, 0⟩ : Cn)]) rfl HO4.out (.slice (some ⟨g, 0, none⟩) 0 0) (cs.drop cc) rfl HDP4.out (by have := HTL.out; unfold maxLen; omega) (by have := HTL.out; omega) HS4.out ?_; intro v5 w5 own5 hb5; rw [← HIC.out] at own5; obtain ⟨n5, hn5⟩ : ∃ x, (insC t 0 cs).length = x := ⟨_, rfl⟩; obtain ⟨a5, c5, hv5⟩ := own_slice own5; rw [hn5] at hv5; subst hv5; have hb5w := HB4.out.trans hb5; have hpc := HR2.out.putC HS2.out own5 hb5w; have c5q := (HR2.out.below hb5w).c0; have f5q := (HR2.out.below hb5w).f 0; obtain ⟨W6, hW6⟩ : ∃ x, w5.setCell ⟨q, 0, none⟩ (.slice a5 n5 c5) = x := ⟨_, rfl⟩; rw [hW6] at hpc; have HPC := Lib.hid hpc; have HS6 : Hid (w2.heap.size ≤ W6.heap.size) := Lib.hid hpc.2.1.2.2.2.1; clear own5 hb5 hb5w hpc hn5)
                | (go_at_call 23; refine (rgive_any t _ HPC.out.1 (Nat.le_trans HS2.out HS6.out) (by rw [HIL.out]; omega) h4 HINS.out HX.out rfl).mono ?_; rintro e w7 ⟨rfl, hr⟩; rw [HZ.out] at hr ⊢; rw [HSI.out] at hr; have HR7 := Lib.hid hr; clear hr))
              go_ret2
              exact ⟨rfl, open_fin HB2.out HPC.out.2.1 HPC.out.2.2 HR7.out⟩
            · have hne2 : ¬ j = cc := fun e => hc e.symm
              have HDP : Hid (SlR 2 cnC w2 (.slice (some ⟨g, j * 2, none⟩) 0 (cc - j)) (cs.drop j)) := Lib.hid (by have := hsl.drops j (by omega); rw [show cs.length - j = 0 by omega] at this; exact this)
              clear hsl
              have HTL : Hid ((cs.take j).length ≤ 8 ∧ (cs.take j ++ [(⟨t, 0⟩ : Cn)]).length ≤ 9 ∧ (cs.drop j).length ≤ 8) := Lib.hid (by simp only [List.length_append, List.length_take, List.length_drop, List.length_singleton]; omega)
              go_wp2_with (first
                | (at_builtin; refine appR cnC_len cnC_one Try.underlying27 rfl (by decide) info_rcn rfl _ _ rfl w2.heap.size (.slice none 0 0) ([] : List Cn) rfl (OwnR.nil _ _ _) (.slice (some ⟨g, 0, none⟩) j cc) (cs.take j) rfl HTK.out (by have := HTL.out.1; simp only [List.length_nil]; unfold maxLen; omega) (by have := HTL.out.1; simp only [List.length_nil]; omega) (Nat.le_refl _) ?_; intro v3 w3 own3 hb3; rw [List.nil_append] at own3; obtain ⟨n3, hn3⟩ : ∃ x, (cs.take j).length = x := ⟨_, rfl⟩; obtain ⟨a3, c3, hv3⟩ := own_slice own3; rw [hn3] at hv3; subst hv3; obtain ⟨W3, hW3⟩ : ∃ x, w3.alloc (.cells #[.int .i64 t, .int .i64 0] TC) = x := ⟨_, rfl⟩; have HN1 : Hid (SlR 2 cnC W3 (.slice (some ⟨w3.heap.size, 0, none⟩) 1 1) [(⟨t, 0⟩ : Cn)]) := Lib.hid (by rw [← hW3]; exact SlR.one cnC_len w3 _ rfl _ ⟨t, 0⟩ rfl); have hb3w : Below w2.heap.size w2 W3 := (by rw [← hW3]; exact hb3.alloc hb3.size _); have HS3 := Lib.hid hb3w.size; have HO3 : Hid (OwnR 2 cnC TC W3 w2.heap.size (.slice a3 n3 c3) (cs.take j)) := Lib.hid (by rw [← hW3]; exact own3.alloc _); have HB3 := Lib.hid hb3w; clear own3 hb3 hb3w)
                | (at_builtin; refine appR cnC_len cnC_one Try.underlying27 rfl (by decide) info_rcn rfl _ _ rfl w2.heap.size (.slice a3 n3 c3) (cs.take j) rfl HO3.out (.slice (some ⟨w3.heap.size, 0, none⟩) 1 1) [(⟨t, 0⟩ : Cn)] rfl HN1.out (by have := HTL.out.1; simp only [List.length_singleton]; unfold maxLen; omega) (by have := HTL.out.1; simp only [List.length_singleton]; omega) HS3.out ?_; intro v4 w4 own4 hb4; obtain ⟨n4, hn4⟩ : ∃ x, (cs.take j ++ [(⟨t, 0⟩ : Cn)]).length = x := ⟨_, rfl⟩; obtain ⟨a4, c4, hv4⟩ := own_slice own4; rw [hn4] at hv4; subst hv4; have hb4w := HB3.out.trans hb4; have HS4 := Lib.hid hb4w.size; have HO4 := Lib.hid own4; have HB4 := Lib.hid hb4w; have c4q := (HR2.out.below hb4w).c0; have HDP4 := Lib.hid (HDP.out.below hb4w (Nat.le_refl _)); clear own4 hb4 hb4w hn4)
                | (at_builtin; refine appR cnC_len cnC_one Try.underlying27 rfl (by decide) info_rcn rfl _ _ rfl w2.heap.size (.slice a4 n4 c4) (cs.take j ++ [(⟨t, 0⟩ : Cn)]) rfl HO4.out (.slice (some ⟨g, j * 2, none⟩) 0 (cc - j)) (cs.drop j) rfl HDP4.out (by have := HTL.out; unfold maxLen; omega) (by have := HTL.out; omega) HS4.out ?_; intro v5 w5 own5 hb5; rw [← HIC.out] at own5; obtain ⟨n5, hn5⟩ : ∃ x, (insC t 0 cs).length = x := ⟨_, rfl⟩; obtain ⟨a5, c5, hv5⟩ := own_slice own5; rw [hn5] at hv5; subst hv5; have hb5w := HB4.out.trans hb5; have hpc := HR2.out.putC HS2.out own5 hb5w; have c5q := (HR2.out.below hb5w).c0; have f5q := (HR2.out.below hb5w).f 0; obtain ⟨W6, hW6⟩ : ∃ x, w5.setCell ⟨q, 0, none⟩ (.slice a5 n5 c5) = x := ⟨_, rfl⟩; rw [hW6] at hpc; have HPC := Lib.hid hpc; have HS6 : Hid (w2.heap.size ≤ W6.heap.size) := Lib.hid hpc.2.1.2.2.2.1; clear own5 hb5 hb5w hpc hn5)
                | (go_at_call 23; refine (rgive_any t _ HPC.out.1 (Nat.le_trans HS2.out HS6.out) (by rw [HIL.out]; omega) h4 HINS.out HX.out rfl).mono ?_; rintro e w7 ⟨rfl, hr⟩; rw [HZ.out] at hr ⊢; rw [HSI.out] at hr; have HR7 := Lib.hid hr; clear hr))
              go_ret2
              exact ⟨rfl, open_fin HB2.out HPC.out.2.1 HPC.out.2.2 HR7.out⟩
end Pr
end Go.Proofs.Ytlhojkopfpnhpaa
