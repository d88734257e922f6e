/- The document's Fits. No condition. -/
import Derived.Test.YtcgciefoojlpoaaJfC
import Derived.Test.YtcgciefoojlpoaaJfE
namespace Go.Proofs.Ytcgciefoojlpoaa
open Go.ChangeShapes Go.WideShapes Go.ChangeAt Go.RowKit
set_option linter.unusedVariables false
set_option maxRecDepth 100000
namespace Jf
theorem tail_drop {α : Type} (l : List α) (m : Nat) : (l.drop m).tail = l.drop (m + 1) := by rw [List.tail_drop]
set_option maxHeartbeats 16000000 in
theorem rfits_any (sent : List Frm) (served : List ByteArray) (told : List Rep) (v0 v1 v2 : Value) (w : World) (h0 : IsFrms w v0 sent) (h1 : IsStrs w v1 served) (h2 : IsReps w v2 told) :
    Calls Try.prog 10 #[v0, v1, v2] w (GivesF (fitK sent told 0 false served) w) := by
  obtain ⟨a0, c0, rfl, hl0, hm0, hr0⟩ := h0.1
  obtain ⟨a1, c1, rfl, hl1, hm1, hr1⟩ := h1.1
  obtain ⟨a2, c2, rfl, hl2, hm2, hr2⟩ := h2.1
  unfold maxLen at hm0 hm1 hm2
  have HR0 := Lib.hid hr0
  have HR1 := Lib.hid hr1
  have HR2 := Lib.hid hr2
  clear h0 h1 h2 hr0 hr1 hr2
  go_enter Try.func10, Try.ntmps10
  go_wp2
  go_loopw [8, 9, 16] (fun wi n i wr => ∃ (k m : Nat) (wb : Bool), k ≤ told.length ∧ m ≤ served.length ∧ i = .int .i64 k ∧ n = .int .i64 m ∧ wi = .bool wb ∧ Hid (fitK sent told 0 false served = fitK sent told k wb (served.drop m)) ∧ Hid (Below w.heap.size w wr)) (fun _ _ i _ => told.length - (intOf i).toNat)
  case atStart => exact ⟨0, 0, false, Nat.zero_le _, Nat.zero_le _, rfl, rfl, rfl, Lib.hid rfl, Lib.hid (Below.refl _ _)⟩
  case round =>
    obtain ⟨k, m, wb, hk, hm, rfl, rfl, rfl, HF, HB⟩ := hrel
    by_cases hlt : k < told.length
    · obtain ⟨b, off, rfl, hbl, hc⟩ := rows_open hlt HR2.out
      have hce := fun j u hu => (HB.out.cell (p := ⟨b, off + (k * 3 + j), none⟩) hbl).trans (hc k _ (rgetD hlt) j u hu)
      have HEND : Hid (sent.length ≤ k → fitK sent told k wb (served.drop m) = ((k : Int), 6)) := Lib.hid (fun h => fitK_many hlt h)
      have HBAD : Hid (∀ h2 : k < sent.length, stepE wb sent[k] told[k] (served.drop m) ≠ 0 → fitK sent told k wb (served.drop m) = ((k : Int), stepE wb sent[k] told[k] (served.drop m))) := Lib.hid (fun h2 h3 => fitK_bad hlt h2 h3)
      have HGO : Hid (∀ h2 : k < sent.length, stepE wb sent[k] told[k] (served.drop m) = 0 → fitK sent told k wb (served.drop m) = fitK sent told (k + 1) (nxW wb told[k].kind) (stepR told[k] (served.drop m))) := Lib.hid (fun h2 h3 => fitK_go hlt h2 h3)
      clear hc
      generalize told[k] = r at *
      obtain ⟨x0, x1, x2⟩ := rep_cells hce
      have hkz : (k : Int) < (told.length : Int) := by omega
      clear hce
      by_cases hk2 : k < sent.length
      · obtain ⟨b0, off0, rfl, hbl0, hc0⟩ := rows_open hk2 HR0.out
        have hcf := fun j u hu => (HB.out.cell (p := ⟨b0, off0 + (k * 2 + j), none⟩) hbl0).trans (hc0 k _ (rgetD hk2) j u hu)
        have HBAD2 := Lib.hid (HBAD.out hk2)
        have HGO2 := Lib.hid (HGO.out hk2)
        clear hc0 HBAD HGO HEND
        generalize sent[k] = f at *
        obtain ⟨y0, y1⟩ := frm_cells hcf
        have hkz0 : (k : Int) < (sent.length : Int) := by omega
        clear hcf
        have hb4 : Below wr.heap.size wr (wr.alloc (.cells (rArr r) 52)) := (Below.refl _ _).alloc (Nat.le_refl _) _
        have HB4 := Lib.hid (HB.out.trans (hb4.mono HB.out.size))
        have hbl0' : b0 < wr.heap.size := Nat.lt_of_lt_of_le hbl0 HB.out.size
        have hq0 := (hb4.cell (p := ⟨b0, off0 + k * 2, none⟩) hbl0').trans y0
        have hq1 := (hb4.cell (p := ⟨b0, off0 + k * 2 + 1, none⟩) hbl0').trans y1
        have HC4 : Hid (∀ w', Below (wr.heap.size + 1) (wr.alloc (.cells (rArr r) 52)) w' → w'.cell? ⟨wr.heap.size, 0, none⟩ = some (.int .i64 r.kind) ∧ w'.cell? ⟨wr.heap.size, 1, none⟩ = some (.int .i64 r.node) ∧ w'.cell? ⟨wr.heap.size, 2, none⟩ = some (.string r.text) ∧ w'.cell? ⟨b0, off0 + k * 2, none⟩ = some (.int .u8 f.kind) ∧ w'.cell? ⟨b0, off0 + k * 2 + 1, none⟩ = some (.string f.text)) := Lib.hid (fun w' hb' => by
          obtain ⟨p0, p1, p2⟩ := cells3 ((hb'.block wr.heap.size (by omega)).trans (heap_alloc_new _ _))
          exact ⟨p0, p1, p2, (hb'.cell (p := ⟨b0, off0 + k * 2, none⟩) (by show b0 < _; omega)).trans hq0, (hb'.cell (p := ⟨b0, off0 + k * 2 + 1, none⟩) (by show b0 < _; omega)).trans hq1⟩)
        have hx4 : Below (wr.heap.size + 1) (wr.alloc (.cells (rArr r) 52)) (wr.alloc (.cells (rArr r) 52)) := Below.refl _ _
        obtain ⟨-, -, -, z3, z4⟩ := HC4.out _ hx4
        have HFRM : Hid (¬ frmOk f → stepE wb f r (served.drop m) = 90) := Lib.hid (fun h => stepE_frm h)
        clear hb4 hbl0' hq0 hq1 hx4
        go_wp2_with fail
        refine (rframe_any f _).mono ?_
        rintro e w2 ⟨t, rfl, ht, hb2⟩
        have hx2 : Below (wr.heap.size + 1) (wr.alloc (.cells (rArr r) 52)) w2 := by simpa using hb2
        have HX2 := Lib.hid hx2
        have HB2 := Lib.hid (HB4.out.trans (hb2.mono HB4.out.size))
        clear hb2 hx2 z3 z4 x0 x1 x2 y0 y1
        obtain ⟨z0, z1, z2, z3, z4⟩ := HC4.out _ HX2.out
        cases t with
        | false =>
          have hE := HFRM.out (fun q => by cases ht.2 q)
          have HFN : Hid (((k : Int), (90 : Int)) = fitK sent told 0 false served) := Lib.hid (by rw [HF.out, HBAD2.out (by rw [hE]; decide), hE])
          clear ht hE
          go_wp2
          go_ret2
          exact ⟨_, _, rfl, HFN.out, HB2.out⟩
        | true =>
          have OKF := Lib.hid (ht.1 rfl)
          clear ht z0 z1 z2 z3 z4
          go_wp2_with fail
          go_region_held (fun w' => w'.cell? ⟨wr.heap.size, 0, none⟩ = some (.int .i64 r.kind) ∧ w'.cell? ⟨wr.heap.size, 1, none⟩ = some (.int .i64 r.node) ∧ w'.cell? ⟨wr.heap.size, 2, none⟩ = some (.string r.text) ∧ w'.cell? ⟨b0, off0 + k * 2, none⟩ = some (.int .u8 f.kind) ∧ w'.cell? ⟨b0, off0 + k * 2 + 1, none⟩ = some (.string f.text)) (first | exact HC4.out _ HX5.out | exact HC4.out _ HX2.out.drew) ((go_at_call 24; refine (after_any wb f r _ (frm_kind OKF.out)).mono ?_; rintro e w5 ⟨ii, bb, rfl, hp5, hi5, hb5⟩; have HP5 := Lib.hid hp5; have HI5 := Lib.hid hi5; have HX5 := Lib.hid (HX2.out.drew.trans (hb5.mono (by have := HX2.out.drew.size; simpa using this))); have HB5 := Lib.hid (HB2.out.drew.trans (hb5.mono HB2.out.drew.size)); clear hb5 hp5 hi5))
          obtain ⟨z0, z1, z2, -, -⟩ := HC4.out _ HX5.out
          cases bb with
          | false =>
            have hE : stepE wb f r (served.drop m) = 1 := stepE_arg OKF.out (fun q => by cases HP5.out.2 q)
            have HFN : Hid (((k : Int), (1 : Int)) = fitK sent told 0 false served) := Lib.hid (by rw [HF.out, HBAD2.out (by rw [hE]; decide), hE])
            clear hE
            go_wp2
            go_ret2
            exact ⟨_, _, rfl, HFN.out, HB5.out⟩
          | true =>
            have HOO := Lib.hid (HP5.out.1 rfl)
            obtain rfl : ii = nxW wb r.kind := HI5.out rfl
            by_cases k2 : r.kind = 2
            · by_cases hms : m < served.length
              · obtain ⟨b1, off1, rfl, hbl1, hc1⟩ := rows_open hms HR1.out
                have s1 := (HB5.out.cell (p := ⟨b1, off1 + (m * 1 + 0), none⟩) hbl1).trans (hc1 m _ (rgetD hms) 0 _ rfl)
                simp only [Nat.mul_one, Nat.add_zero] at s1
                have HDR := Lib.hid (drop_cons hms)
                have hmz : (m : Int) < (served.length : Int) := by omega
                clear hc1
                generalize served[m] = s at *
                by_cases hst : s = r.text
                · have hE : stepE wb f r (served.drop m) = 0 := stepE_ok OKF.out HOO.out (fun q => q.2 (by rw [HDR.out, List.head?_cons, hst]))
                  have HFN : Hid (fitK sent told 0 false served = fitK sent told (k + 1) (nxW wb r.kind) (served.drop (m + 1))) := Lib.hid (by rw [HF.out, HGO2.out hE]; unfold stepR; rw [if_pos k2, tail_drop])
                  clear hE
                  subst hst
                  go_wp2
                  go_quiet (fail)
                  go_wp2
                  go_roundw
                  case rel => exact ⟨k + 1, m + 1, nxW wb r.kind, by omega, by omega, by go_num, by go_num, by rw [k2], Lib.hid HFN.out, Lib.hid (HB5.out.trans ⟨rfl, rfl, rfl, Nat.le_refl _, fun _ _ => rfl⟩)⟩
                  case measure => simp [intOf]; omega
                · have hE : stepE wb f r (served.drop m) = 220 := stepE_trace OKF.out HOO.out ⟨k2, fun q => hst (by rw [HDR.out, List.head?_cons] at q; exact Option.some.inj q)⟩
                  have HFN : Hid (((k : Int), (220 : Int)) = fitK sent told 0 false served) := Lib.hid (by rw [HF.out, HBAD2.out (by rw [hE]; decide), hE])
                  have hsn := str_ne hst
                  clear hE hst
                  go_wp2
                  go_quiet (fail)
                  go_wp2
                  go_ret2
                  exact ⟨_, _, rfl, HFN.out, HB5.out.trans ⟨rfl, rfl, rfl, Nat.le_refl _, fun _ _ => rfl⟩⟩
              · have hE : stepE wb f r (served.drop m) = 220 := stepE_trace OKF.out HOO.out ⟨k2, by rw [List.drop_eq_nil_of_le (by omega)]; simp⟩
                have HFN : Hid (((k : Int), (220 : Int)) = fitK sent told 0 false served) := Lib.hid (by rw [HF.out, HBAD2.out (by rw [hE]; decide), hE])
                have hmz : (served.length : Int) ≤ (m : Int) := by omega
                clear hE
                go_wp2
                go_quiet (fail)
                go_wp2
                go_ret2
                exact ⟨_, _, rfl, HFN.out, HB5.out.trans ⟨rfl, rfl, rfl, Nat.le_refl _, fun _ _ => rfl⟩⟩
            · have e2 : (r.kind == 2) = false := beq_eq_false_iff_ne.2 k2
              have hE : stepE wb f r (served.drop m) = 0 := stepE_ok OKF.out HOO.out (fun q => k2 q.1)
              have HFN : Hid (fitK sent told 0 false served = fitK sent told (k + 1) (nxW wb r.kind) (served.drop m)) := Lib.hid (by rw [HF.out, HGO2.out hE]; unfold stepR; rw [if_neg k2])
              clear hE k2
              go_wp2
              go_roundw
              case rel => exact ⟨k + 1, m, nxW wb r.kind, by omega, hm, by go_num, rfl, rfl, Lib.hid HFN.out, Lib.hid HB5.out⟩
              case measure => simp [intOf]; omega
      · have HFN : Hid (((k : Int), (6 : Int)) = fitK sent told 0 false served) := Lib.hid (HF.out.trans (HEND.out (by omega))).symm
        have hge : (sent.length : Int) ≤ (k : Int) := by omega
        go_wp2
        go_ret2
        exact ⟨_, _, rfl, HFN.out, HB.out.alloc HB.out.size _⟩
    · obtain rfl : k = told.length := by omega
      have HE : Hid (((-1 : Int), (0 : Int)) = fitK sent told 0 false served) := Lib.hid (by rw [HF.out, fitK_end])
      go_wp2
      go_ret2
      exact ⟨_, _, rfl, HE.out, HB.out⟩
end Jf
end Go.Proofs.Ytcgciefoojlpoaa
