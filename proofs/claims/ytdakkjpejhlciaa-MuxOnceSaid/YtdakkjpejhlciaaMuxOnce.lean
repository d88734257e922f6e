/- The law MuxOnce returns true for every list of frames, tail and ways: each frame is answered by one reply, in order, of a kind that fits it; a broken stream's last reply says so, and the session is closed. No condition. -/
import Derived.Test.YtdakkjpejhlciaaRd
import Derived.Test.YtdakkjpejhlciaaMuP
namespace Go.Proofs.Ytdakkjpejhlciaa.muxOnce
open Go.ChangeShapes Go.WideShapes Go.ChangeAt Go.RowKit
open Go.ChangeMaps (open_string shut_string)
set_option linter.unusedVariables false

theorem own : ownKnob Try.prog.godebug = none := by kernel_rfl
theorem laidOut : laidOutB Try.prog = true := by kernel_rfl

open Go.Proofs.Ytdakkjpejhlciaa.Mu Go.Proofs.Ytdakkjpejhlciaa.Mc Go.Proofs.Ytdakkjpejhlciaa.St
set_option linter.unusedSimpArgs false
theorem sb_nums {zs : List Int} (h : ∀ n ∈ zs, (Lit.int .u8 n).wf = true) : sb (strOfNums zs) = zs := by
  unfold sb
  rw [strOfNums_data, List.map_map]
  conv => rhs; rw [← List.map_id zs]
  apply List.map_congr_left
  intro x hx
  have := bounds_u8 (h x hx)
  simp
  omega
theorem bsz {B : Nat} {a w : World} (h : Below B a w) (e : a.heap.size = B) : B ≤ w.heap.size := e ▸ h.size
set_option maxRecDepth 100000 in
set_option maxHeartbeats 16000000 in
theorem walk (v0 : Value) (x0 : (List Frm)) (s1 : ByteArray) (v2 : Value) (x2 : (List Mu.Way)) (w : World) (w0 : IsFrms w v0 x0) (b0 : IsFrms.fits x0) (w1 : s1.size ≤ 140737488351232) (w2 : Mu.IsWays w v2 x2) (b2 : Mu.IsWays.fits x2) :
    Calls Try.prog 4 #[v0, .string s1, v2] w fun e w' => e = .returned (.bool true) ∧ Below w.heap.size w w' := by
  have HW2 := Lib.hid w2.1
  have HWF := Lib.hid w0
  have HL0 : Hid (x0.length ≤ 6000000000000) := Lib.hid (by have := b0; unfold IsFrms.fits at this; omega)
  have HS1 := Lib.hid w1
  clear b0 b2 w2 w1
  go_enter Try.func4, Try.ntmps4
  go_wp2_with fail
  refine (Mu.live_any _).mono ?_
  rintro e wa ⟨rfl, hb1⟩
  have HB1 := Lib.hid hb1
  have HW0 := Lib.hid (w0.below hb1 (Nat.le_refl _))
  clear hb1
  obtain ⟨a0, c0, e0, hl0, hm0, -⟩ := id w0.1
  subst e0
  unfold maxLen at hm0
  clear w0
  go_wp2_with fail
  refine (St.rbytes_big x0 _ _ HW0.out HL0.out).mono ?_
  rintro e wb (⟨hfit, rfl, hb2⟩ | ⟨hfit, rfl, hb2⟩)
  rotate_left
  · have HB2 := Lib.hid (HB1.out.trans (hb2.mono HB1.out.size))
    clear hfit hb2
    go_wp2_with fail
    refine (Mu.new_any _).mono ?_
    rintro e wc ⟨⟨p0, rfl, hn⟩, hb3⟩
    have HB3 := Lib.hid (HB2.out.trans (hb3.mono HB2.out.size))
    clear hn hb3
    go_wp2
    go_ret
    exact ⟨rfl, HB3.out⟩
  have HFIT := Lib.hid hfit
  have HB2 := Lib.hid (HB1.out.trans (hb2.mono HB1.out.size))
  obtain ⟨bs, hbs⟩ : ∃ q, strOfNums (x0.flatMap byteF) = q := ⟨_, rfl⟩
  rw [hbs]
  have HSB : Hid (sb bs = x0.flatMap byteF ∧ bs.size ≤ x0.length * 50) := Lib.hid (by
    have hw8 := St.bytes_wf x0 hfit
    rw [← hbs]
    exact ⟨sb_nums hw8, by rw [strOfNums_size]; exact bytes_len x0 hfit⟩)
  clear hfit hb2 hbs
  go_wp2_with fail
  refine (Mu.new_any _).mono ?_
  rintro e wc ⟨⟨p0, rfl, hn⟩, hb3⟩
  have HB3 := Lib.hid (HB2.out.trans (hb3.mono HB2.out.size))
  have HMU := Lib.hid (Mu.mu_start (g := 0) hn (fun k hk => hk.1) hb3 hb3.size)
  have HBB : Hid (w.heap.size ≤ wb.heap.size) := Lib.hid HB2.out.size
  have HWW : Hid (∀ w', Below wb.heap.size wb w' → SlR 3 Mu.wayC w' v2 x2) := Lib.hid (fun w' h => HW2.out.below (HB2.out.trans (h.mono HB2.out.size)) (Nat.le_refl _))
  clear hn hb3
  by_cases h100 : 100 < x0.length
  · have hli : (100 : Int) < (x0.length : Int) := by omega
    go_wp2
    go_ret
    exact ⟨rfl, HB3.out⟩
  have hli : ¬ (100 : Int) < (x0.length : Int) := by omega
  by_cases h200 : 200 < s1.size
  · have hlt : (200 : Int) < (s1.size : Int) := by omega
    go_wp2
    go_ret
    exact ⟨rfl, HB3.out⟩
  have hlt : ¬ (200 : Int) < (s1.size : Int) := by omega
  have HLL : Hid (x0.length ≤ 100 ∧ s1.size ≤ 200) := Lib.hid (by omega)
  have hns : ¬ 9223372036854775807 < bs.size + s1.size := by have := HSB.out.2; omega
  obtain ⟨all, hall⟩ : ∃ q, bs ++ s1 = q := ⟨_, rfl⟩
  have HAS : Hid (sb all = x0.flatMap byteF ++ sb s1 ∧ all.size ≤ 5200) := Lib.hid (by rw [← hall]; exact ⟨by rw [sb_app, HSB.out.1], by rw [ByteArray.size_append]; have := HSB.out.2; have := HLL.out; omega⟩)
  obtain ⟨T, hT⟩ : ∃ q, runV zero (sb all) = q := ⟨_, rfl⟩
  have HT := Lib.hid hT
  have HTF : Hid ((allF T).length ≤ 303) := Lib.hid (by
    rw [← hT, HAS.out.1]
    have := frames_few HFIT.out s1
    have := HLL.out
    omega)
  have HK3 : Hid (∀ f ∈ T.1, kind3 f) := Lib.hid (by rw [← hT]; exact run_kind3 _ _)
  clear h100 h200 hT
  obtain ⟨gx, hgx⟩ : ∃ q, wc.heap.size = q := ⟨_, rfl⟩
  obtain ⟨W3, hW3⟩ : ∃ q, wc.alloc (.cells #[.string ⟨#[]⟩, .bool false] 28) = q := ⟨_, rfl⟩
  have hb4 : Below wc.heap.size wc W3 := by rw [← hW3]; exact (Below.refl _ _).alloc (Nat.le_refl _) _
  have HX3 : Hid (XRd W3 gx zero) := Lib.hid ⟨⟨#[]⟩, by rw [← hW3, ← hgx]; exact heap_alloc_new _ _, rfl⟩
  have HB4 := Lib.hid hb4
  have HGX : Hid (wc.heap.size ≤ gx) := Lib.hid (Nat.le_of_eq hgx)
  clear hb4
  go_wp2_with (first | rw [hW3] | ((with_reducible refine (rfeed_any 0 gx zero all _ HX3.out ok_zero (Nat.zero_le _) (by have := HAS.out.2; omega)).mono ?_); rintro e w5 ⟨v5, rfl, x5, f5, o5⟩; rw [HT.out] at x5 o5; have HX5 := Lib.hid x5; have HF5 := Lib.hid f5; have HO5 := Lib.hid o5; clear x5 f5 o5))
  go_upto_region 8 with fail
  obtain ⟨gn, hgn⟩ : ∃ q, w5.heap.size = q := ⟨_, rfl⟩
  obtain ⟨W6, hW6⟩ : ∃ q, w5.alloc (.cells #[.int .i64 0] 3) = q := ⟨_, rfl⟩
  have hb6 : Below w5.heap.size w5 W6 := by rw [← hW6]; exact (Below.refl _ _).alloc (Nat.le_refl _) _
  have hr6 : W6.heap[gn]? = some (.cells #[.int .i64 0] 3 (0, 0)) := by rw [← hW6, ← hgn]; exact heap_alloc_new _ _
  have hB5 : Below wc.heap.size wc w5 := ⟨HF5.out.1.os.trans HB4.out.os, HF5.out.1.tape.trans HB4.out.tape, HF5.out.1.output.trans HB4.out.output, Nat.le_trans HB4.out.size HF5.out.1.size, fun k hk => (HF5.out.2 k (Nat.lt_of_lt_of_le hk HB4.out.size) (by have := HGX.out; omega) (by simp)).trans (HB4.out.block k hk)⟩
  obtain ⟨capb, V, hcv, hsl, hbv, hlv, hby⟩ := St.conv_row W6 all (by unfold maxLen; have := HAS.out.2; omega)
  obtain ⟨gb, hgb⟩ : ∃ q, W6.heap.size = q := ⟨_, rfl⟩
  rw [hgb] at hcv hsl hlv
  have hB6 : Below wc.heap.size wc W6 := hB5.trans (hb6.mono hB5.size)
  have hBV : Below wc.heap.size wc V := hB6.trans (hbv.mono hB6.size)
  have HO := Lib.hid ((HMU.out.more hBV).mono (O' := fun k => wc.heap.size ≤ k ∧ k < V.heap.size) (fun k hk => .inr hk))
  have HSL := Lib.hid hsl
  have hz5 : wc.heap.size ≤ w5.heap.size := hB5.size
  have hz6 := hb6.size
  have hzv := hbv.size
  have HOG : Hid ((wc.heap.size ≤ gn ∧ gn < V.heap.size) ∧ (wc.heap.size ≤ gb ∧ gb < V.heap.size) ∧ (wc.heap.size ≤ gx ∧ gx < w5.heap.size) ∧ w5.heap.size ≤ V.heap.size ∧ w5.heap.size = gn) := Lib.hid ⟨⟨by omega, by have := row_lt hr6; omega⟩, ⟨by omega, hlv⟩, ⟨HGX.out, HX5.out.lt⟩, by omega, hgn⟩
  have HV5 : Hid (∀ k, k < w5.heap.size → V.heap[k]? = w5.heap[k]?) := Lib.hid (fun k hk => (hbv.block k (by omega)).trans (hb6.block k hk))
  have HGV : Hid (V.heap[gn]? = some (.cells #[.int .i64 0] 3 (0, 0))) := Lib.hid ((hbv.block _ (row_lt hr6)).trans hr6)
  have HP1 : Hid (Calls Try.prog 9 #[.pointer (some ⟨p0, 0, none⟩), .slice (some ⟨gb, 0, none⟩) all.size capb] V fun e w' => e = .returned (.int .i64 0) ∧ MuO p0 (feedS fresh (sb all)) (fun k => wc.heap.size ≤ k ∧ k < V.heap.size) wb.heap.size wb w' ∧ ∀ k, (wc.heap.size ≤ k ∧ k < V.heap.size) → w'.heap[k]? = V.heap[k]?) := Lib.hid (HO.out.prog (r := .int .i64 (feedE fresh)) (fun S vr vq vo hv ho => Mu.feed_any (.slice (some ⟨gb, 0, none⟩) all.size capb) (sb all) V hv ok_fresh (by decide) (fun w' hw => HSL.out w' (hw.2.2.2.2 gb HOG.out.2.1.2 (ho gb HOG.out.2.1)) hw.2.2.2.1) (by rw [sb_length]; have := HAS.out.2; omega)))
  clear hsl hby hlv hbv hb6 hr6 hB5 hB6 hBV hz5 hz6 hzv
  go_wp2_with (first | rw [hW6])
  go_simp
  rename_i K9 k9
  refine k9 _ _ ?_
  clear k9 hcv
  go_wp2_with (first | ((with_reducible refine HP1.out.mono ?_); rintro e w7 ⟨rfl, h7, k7⟩; have H7 := Lib.hid h7; have K7 := Lib.hid k7; have HSV : Hid (SvR p0 gn (allF T) (fun k => wc.heap.size ≤ k ∧ k < V.heap.size) w7 wb.heap.size wb 0 (feedS fresh (sb all)) w7) := Lib.hid (by rw [← HT.out]; exact ⟨h7, fun _ _ _ => rfl, (inv_start (sb all)).1, (inv_start (sb all)).2.1, 0, Nat.le_refl _, (k7 gn HOG.out.1).trans HGV.out⟩); clear h7 k7))
  refine (serve_any v2 x2 _ (okF_all HK3.out) HTF.out HOG.out.1 HSV.out (by rw [(inv_start (sb all)).2.2, HT.out]; have := HTF.out; omega) HWW.out).mono ?_
  rintro e w9 ⟨v9, s9, rfl, o9, m9, k9, i9, q9, t9⟩
  have HO9 := Lib.hid o9
  have HM9 := Lib.hid m9
  have HK9 := Lib.hid k9
  have HS9 := Lib.hid (Mu.served HK3.out i9 q9 t9)
  clear o9 m9 k9 i9 q9 t9
  have HKK : Hid (∀ k, wc.heap.size ≤ k → k < w5.heap.size → w9.heap[k]? = w5.heap[k]?) := Lib.hid (fun k h1 h2 => (HK9.out k ⟨h1, by have := HOG.out.2.2.2.1; omega⟩ (by have := HOG.out.2.2.2.2; omega)).trans ((K7.out k ⟨h1, by have := HOG.out.2.2.2.1; omega⟩).trans (HV5.out k h2)))
  have HX9 := Lib.hid (HX5.out.same (HKK.out gx HOG.out.2.2.1.1 HOG.out.2.2.1.2))
  have HF9 : Hid (SlR 2 frmC w9 v5 T.1) := Lib.hid (OwnR.sl frmC_len (show OwnR 2 frmC 57 w9 W3.heap.size v5 T.1 from own_keep HO5.out (fun q hq hlt => HKK.out q (by have := (World.ownsRow.lt HO5.out q hq).1; have := HB4.out.size; omega) hlt)))
  obtain ⟨a5, c5, e5, g5, g6, -⟩ := id HF9.out
  subst e5
  obtain ⟨a9, n9, c9, e9⟩ := slice_any HO9.out
  obtain ⟨a8, c8, e8⟩ := own_slice HO9.out
  rw [e9] at e8
  simp only [Value.slice.injEq] at e8
  obtain ⟨rfl, rfl, rfl⟩ := e8
  subst e9
  obtain ⟨X9, hx9, -⟩ := id HX9.out
  have cx := (cells2 hx9).2.1
  clear hx9
  by_cases h3 : T.2.st = 3
  · have hln : s9.out.length = T.1.length + 1 := by have := HS9.out.1; rw [if_pos h3] at this; exact this
    have HLN := Lib.hid hln
    replace cx : w9.cell? ⟨gx, 1, none⟩ = some (.bool true) := by rw [cx]; simp [h3]
    have g5' : (T.1.length : Int) + 1 ≤ 400 := by have := HTF.out; rw [all_len] at this; split at this <;> omega
    obtain ⟨hst, rl, hrl, hk8⟩ := HS9.out.2.1 h3
    have HOPN : Hid (decide ((repsS s9).st ≠ 0) = false) := Lib.hid (by show decide (s9.st ≠ 0) = false; simp [hst])
    obtain ⟨b8, off8, e8, y8, -, -⟩ : ∃ b off, a9 = some ⟨b, off, none⟩ ∧ w9.cell? ⟨b, off + T.1.length * 3, none⟩ = some (.int .i64 rl.kind) ∧ w9.cell? ⟨b, off + T.1.length * 3 + 1, none⟩ = some (.int .i64 rl.node) ∧ w9.cell? ⟨b, off + T.1.length * 3 + 2, none⟩ = some (.string rl.text) := by
      rcases SlR.cases (HO9.out.sl repC_len) with ⟨a2, c2, e, hnil⟩ | ⟨b, off, c2, e, -, -, -, -, hc⟩
      · rw [hnil] at hln; simp at hln
      · simp only [Value.slice.injEq] at e
        exact ⟨b, off, e.1, rep_cells (hc _ rl hrl)⟩
    rw [hk8] at y8
    have he0 : ((T.1.length : Int) + 1 == 0) = false := beq_eq_false_iff_ne.2 (by omega)
    have hs1 : IntKind.i64.wrap ((T.1.length : Int) + 1 - 1) = (T.1.length : Int) := by rw [IntKind.wrap_i64]; omega
    have hs2 : (T.1.length : Int) + 1 - 1 = (T.1.length : Int) := by omega
    clear hrl hk8 hst
    subst e8
    rw [hln]
    clear h3 hln
    go_wp2_with (first | ((with_reducible refine HM9.out.open_.mono ?_); rintro e w' ⟨rfl, rfl⟩; rw [HOPN.out]))
    clear cx he0 hs1 hs2 y8
    go_loopw [102] (fun i wr => ∃ j : Nat, j ≤ T.1.length ∧ i = .int .i64 (j : Int) ∧ Hid (Below w9.heap.size w9 wr)) (fun i _ => T.1.length - (intOf i).toNat)
    case atStart => exact ⟨0, Nat.zero_le _, rfl, Lib.hid (Below.refl _ _)⟩
    case round =>
      obtain ⟨j, hj, rfl, HRJ⟩ := hrel
      by_cases hlt2 : j < T.1.length
      · have hjz : (j : Int) < (T.1.length : Int) := by omega
        have hjo : j < s9.out.length := by have := HLN.out; omega
        have hfit := HS9.out.2.2 j _ _ (List.getElem?_eq_getElem hlt2) (List.getElem?_eq_getElem hjo)
        obtain ⟨bf, of, ef, yf0, yf1⟩ : ∃ b off, a5 = some ⟨b, off, none⟩ ∧ wr.cell? ⟨b, off + j * 2, none⟩ = some (.int .u8 T.1[j].kind) ∧ wr.cell? ⟨b, off + j * 2 + 1, none⟩ = some (.string T.1[j].text) := by
          rcases SlR.cases (HF9.out.below HRJ.out (Nat.le_refl _)) with ⟨a2, c2, e, hnil⟩ | ⟨b, off, c2, e, -, -, -, -, hc⟩
          · rw [hnil] at hlt2; simp at hlt2
          · simp only [Value.slice.injEq] at e
            exact ⟨b, off, e.1, frm_cells (hc j _ (List.getElem?_eq_getElem hlt2))⟩
        obtain ⟨br, orr, er, yr0⟩ : ∃ b off, (some ⟨b8, off8, none⟩ : Option Addr) = some ⟨b, off, none⟩ ∧ ∀ o, (wr.alloc o).cell? ⟨b, off + j * 3, none⟩ = some (.int .i64 s9.out[j].kind) := by
          rcases SlR.cases (HO9.out.sl repC_len) with ⟨a2, c2, e, hnil⟩ | ⟨b, off, c2, e, -, -, -, -, hc⟩
          · rw [hnil] at hjo; simp at hjo
          · simp only [Value.slice.injEq] at e
            exact ⟨b, off, e.1, fun o => Go.cell_later (HRJ.out.alloc HRJ.out.size o) (rep_cells (hc j _ (List.getElem?_eq_getElem hjo))).1⟩
        have hjl : (j : Int) < (T.1.length + 1 : Int) := by omega
        have hjl2 : j < T.1.length + 1 := by omega
        generalize T.1[j] = f at *
        generalize s9.out[j] = r at *
        obtain ⟨fk, ft⟩ := f
        obtain ⟨rk, rn, rt⟩ := r
        simp only [] at hfit yf0 yf1 yr0
        have HBA := Lib.hid (fun o => HRJ.out.alloc HRJ.out.size o)
        subst ef
        simp only [Option.some.injEq, Addr.mk.injEq, and_true] at er; obtain ⟨rfl, rfl⟩ := er
        clear hjo
        rcases hfit with ⟨rfl, rfl | rfl | rfl | rfl⟩ | ⟨rfl, rfl | rfl | rfl⟩ | ⟨rfl, rfl | rfl | rfl⟩
        all_goals
          go_wp2_with fail
          go_roundw
          case rel => exact ⟨j + 1, by omega, by go_num, Lib.hid (HBA.out _)⟩
          case measure => simp [intOf]; omega
      · obtain rfl : j = T.1.length := by omega
        have hend : Below w.heap.size w wr := HB2.out.trans ((HM9.out.bel.1.trans (HRJ.out.mono HM9.out.bel.2)).mono HBB.out)
        have HEND := Lib.hid hend
        clear hend
        go_wp2
        go_ret
        exact ⟨rfl, HEND.out⟩
  · have hln : s9.out.length = T.1.length := by have := HS9.out.1; rw [if_neg h3] at this; exact this
    have HLN := Lib.hid hln
    replace cx : w9.cell? ⟨gx, 1, none⟩ = some (.bool false) := by rw [cx]; simp [h3]
    have g5' : (T.1.length : Int) + 1 ≤ 400 := by have := HTF.out; rw [all_len] at this; split at this <;> omega
    rw [hln]
    clear h3 hln
    go_wp2_with (first | ((with_reducible refine HM9.out.open_.mono ?_); rintro e w' ⟨rfl, rfl⟩; rw [HOPN.out]))
    clear cx 
    go_loopw [102] (fun i wr => ∃ j : Nat, j ≤ T.1.length ∧ i = .int .i64 (j : Int) ∧ Hid (Below w9.heap.size w9 wr)) (fun i _ => T.1.length - (intOf i).toNat)
    case atStart => exact ⟨0, Nat.zero_le _, rfl, Lib.hid (Below.refl _ _)⟩
    case round =>
      obtain ⟨j, hj, rfl, HRJ⟩ := hrel
      by_cases hlt2 : j < T.1.length
      · have hjz : (j : Int) < (T.1.length : Int) := by omega
        have hjo : j < s9.out.length := by have := HLN.out; omega
        have hfit := HS9.out.2.2 j _ _ (List.getElem?_eq_getElem hlt2) (List.getElem?_eq_getElem hjo)
        obtain ⟨bf, of, ef, yf0, yf1⟩ : ∃ b off, a5 = some ⟨b, off, none⟩ ∧ wr.cell? ⟨b, off + j * 2, none⟩ = some (.int .u8 T.1[j].kind) ∧ wr.cell? ⟨b, off + j * 2 + 1, none⟩ = some (.string T.1[j].text) := by
          rcases SlR.cases (HF9.out.below HRJ.out (Nat.le_refl _)) with ⟨a2, c2, e, hnil⟩ | ⟨b, off, c2, e, -, -, -, -, hc⟩
          · rw [hnil] at hlt2; simp at hlt2
          · simp only [Value.slice.injEq] at e
            exact ⟨b, off, e.1, frm_cells (hc j _ (List.getElem?_eq_getElem hlt2))⟩
        obtain ⟨br, orr, er, yr0⟩ : ∃ b off, a9 = some ⟨b, off, none⟩ ∧ ∀ o, (wr.alloc o).cell? ⟨b, off + j * 3, none⟩ = some (.int .i64 s9.out[j].kind) := by
          rcases SlR.cases (HO9.out.sl repC_len) with ⟨a2, c2, e, hnil⟩ | ⟨b, off, c2, e, -, -, -, -, hc⟩
          · rw [hnil] at hjo; simp at hjo
          · simp only [Value.slice.injEq] at e
            exact ⟨b, off, e.1, fun o => Go.cell_later (HRJ.out.alloc HRJ.out.size o) (rep_cells (hc j _ (List.getElem?_eq_getElem hjo))).1⟩
        have hjl : (j : Int) < (T.1.length : Int) := by omega
        have hjl2 : j < T.1.length := by omega
        generalize T.1[j] = f at *
        generalize s9.out[j] = r at *
        obtain ⟨fk, ft⟩ := f
        obtain ⟨rk, rn, rt⟩ := r
        simp only [] at hfit yf0 yf1 yr0
        have HBA := Lib.hid (fun o => HRJ.out.alloc HRJ.out.size o)
        subst ef
        subst er
        clear hjo
        rcases hfit with ⟨rfl, rfl | rfl | rfl | rfl⟩ | ⟨rfl, rfl | rfl | rfl⟩ | ⟨rfl, rfl | rfl | rfl⟩
        all_goals
          go_wp2_with fail
          go_roundw
          case rel => exact ⟨j + 1, by omega, by go_num, Lib.hid (HBA.out _)⟩
          case measure => simp [intOf]; omega
      · obtain rfl : j = T.1.length := by omega
        have hend : Below w.heap.size w wr := HB2.out.trans ((HM9.out.bel.1.trans (HRJ.out.mono HM9.out.bel.2)).mono HBB.out)
        have HEND := Lib.hid hend
        clear hend
        go_wp2
        go_ret
        exact ⟨rfl, HEND.out⟩

set_option maxRecDepth 100000 in
theorem contract (H : Type) (enc : TypeId × Value → H) (W : World) (base : Nat) (args : Array Value) (ds gs : List (DataW H)) (before : List MemPlace)
    (hval0 : ∀ (j : Nat) t v, Try.f4.params[j]? = some t → args[j]? = some v → Value.okWide Try.prog W .any base t v)
    (hW : DataW.Whole enc Try.prog Try.f4.params.toList Rows.muxOnceSpec.vars false W args.toList ds gs before)
    (hsz0 : (DataW.weightsEach Try.prog (Try.f4.params.toList ++ Rows.muxOnceSpec.plain.varTypes Try.prog) (ds ++ gs)).all (· ≤ reachBytes) = true) :
    Calls Try.prog 4 args W fun e W' => ∃ v, e = .returned v ∧ Rows.muxOnceSpec.post enc Try.prog Try.f4 false true false false W args v W' := by
  have hval : ∀ (j : Nat) t v, Try.f4.params[j]? = some t → args[j]? = some v → Value.okWide Try.prog W .any base t v := hval0
  have hW' := hW
  obtain ⟨p, q, hA0, hV, rfl, hfz, hnd⟩ := hW
  have hA : DataW.TrodAll enc Try.prog W 0 (fun _ => true) true Try.f4.params.toList args.toList ds p := hA0
  rw [Try.params4] at hA hval
  have hsz := hsz0
  rw [Try.params4] at hsz
  obtain ⟨v0, vs0, d0, ds0, p0, q0, hargs, rfl, rfl, h0, r0⟩ := trodAll_cons hA
  obtain ⟨v1, vs1, d1, ds1, p1, q1, rfl, rfl, rfl, h1, r1⟩ := trodAll_cons r0
  obtain ⟨v2, vs2, d2, ds2, p2, q2, rfl, rfl, rfl, h2, r2⟩ := trodAll_cons r1
  obtain ⟨rfl, rfl, rfl⟩ := trodAll_nil r2
  obtain rfl : args = #[v0, v1, v2] := by cases args; simp_all
  obtain ⟨rfl, rfl⟩ := trodVars_none hV
  clear hA0 hval0
  have k0 := h0
  have lt0 : ∀ x ∈ p0, x.block < W.heap.size := by obtain ⟨m, hm⟩ := k0; exact DataW.trod_lt m _ _ _ hm
  have k1 := h1
  have lt1 : ∀ x ∈ p1, x.block < W.heap.size := by obtain ⟨m, hm⟩ := k1; exact DataW.trod_lt m _ _ _ hm
  have k2 := h2
  have lt2 : ∀ x ∈ p2, x.block < W.heap.size := by obtain ⟨m, hm⟩ := k2; exact DataW.trod_lt m _ _ _ hm
  obtain ⟨x0, w0, -, s0⟩ := open_frms (hval 0 29 v0 rfl rfl) k0
  have b0 : IsFrms.fits x0 := s0 (wt_arg hsz (j := 0) rfl rfl)
  obtain ⟨s1, rfl, rfl, -, m1⟩ := open_string Try.underlying9 (hval 1 9 v1 rfl rfl) h1
  have w1 : s1.size ≤ 140737488351232 := str_sized (sized_string hsz (j := 1) rfl rfl)
  obtain ⟨x2, w2, -, s2⟩ := Mu.open_wayC (hval 2 48 v2 rfl rfl) k2
  have b2 : Mu.IsWays.fits x2 := s2 (wt_arg hsz (j := 2) rfl rfl)
  refine (walk v0 x0 s1 v2 x2 W w0 b0 w1 w2 b2).mono fun e W' ⟨he, bel⟩ => ?_
  subst he
  exact ⟨_, rfl, _, _, _, [], _, [], hW', trodAll_mk1 (shut_bool Try.underlying4 _), (trodAll_cons_mk (Below.trod laidOut (by kernel_rfl) (of_decide_eq_true (by kernel_rfl)) k0 bel lt0) (trodAll_cons_mk (Below.trod laidOut (by kernel_rfl) (of_decide_eq_true (by kernel_rfl)) k1 bel lt1) (trodAll_cons_mk (Below.trod laidOut (by kernel_rfl) (of_decide_eq_true (by kernel_rfl)) k2 bel lt2) trodAll_mk0))), rfl, bel.frame _, fun h => by cases h⟩

set_option maxRecDepth 100000 in
theorem lifted (os : Os) (started : os.Started) (H : Type) (enc : TypeId × Value → H) :
    ReturnsInHanded {} Try.checked os 4 .any (Rows.muxOnceSpec.pre6 enc Try.prog Try.f4 Rows.muxOnceRow.domain false) (Rows.muxOnceSpec.post enc Try.prog Try.f4 false true false false) := by
  refine returnsInHanded_of_change_sized (C := Try.checked) own started (by kernel_rfl) Try.func4
    (ChangeSpec.witness6 (enc := enc) (C := Try.checked) false ⟨#[], #[.slice none 0 0, .string ByteArray.empty, .slice none 0 0], []⟩ 8 (by kernel_rfl) (by kernel_rfl) (by kernel_rfl) (by kernel_rfl)) ?_
  intro W base args ds gs before hval0 hW hcnd hsz _
  exact contract H enc W base args ds gs before hval0 hW hsz

theorem proved : Rows.MuxOnceSaid :=
  OpenClaim.holds_of_wide 4 Try.f4 rfl rfl rfl rfl rfl rfl rfl ⟨rfl, rfl, rfl, rfl, rfl⟩ rfl rfl rfl rfl rfl (by kernel_rfl) Try.func4 (by kernel_rfl)
    (of_decide_eq_true (by kernel_rfl)) (by unfold Func.isWrapper; first | (rw [if_pos (by decide +kernel)]; kernel_rfl) | (rw [if_neg (by decide +kernel)]; exact ⟨rfl, rfl⟩))
    (fun os started H enc _ => lifted os started H enc)
end Go.Proofs.Ytdakkjpejhlciaa.muxOnce
