/- The law MuxAnswers returns true for every list of frames and ways: what was asked is the queries, in order; what was told as results is what was answered; no other reply has a text. No condition. -/
import Derived.Test.YtdakkjpejhlciaaRd
import Derived.Test.YtdakkjpejhlciaaMuR
namespace Go.Proofs.Ytdakkjpejhlciaa.muxAnswers
open Go.ChangeShapes Go.WideShapes Go.ChangeAt Go.RowKit
open Go.ChangeMaps (open_string shut_string)
set_option linter.unusedVariables false

theorem own : ownKnob Try.prog.godebug = none := by kernel_rfl
theorem laidOut : laidOutB Try.prog = true := by kernel_rfl

open Go.Proofs.Ytdakkjpejhlciaa.Mu Go.Proofs.Ytdakkjpejhlciaa.Mc Go.Proofs.Ytdakkjpejhlciaa.St
set_option linter.unusedSimpArgs false
theorem sb_nums {zs : List Int} (h : ∀ n ∈ zs, (Lit.int .u8 n).wf = true) : sb (strOfNums zs) = zs := by
  unfold sb
  rw [strOfNums_data, List.map_map]
  conv => rhs; rw [← List.map_id zs]
  apply List.map_congr_left
  intro x hx
  have := bounds_u8 (h x hx)
  simp
  omega
theorem ans_start {l : List Frm} (h : ∀ f ∈ l, fitF f) : Ans (qsF l) (feedS fresh (l.flatMap byteF)) [] [] ∧ headA (feedS fresh (l.flatMap byteF)) ∧ todo (feedS fresh (l.flatMap byteF)) = 3 * l.length ∧ Mu.Inv l (feedS fresh (l.flatMap byteF)) ∧ okF l := by
  have hr := run_bytes l h
  have hk : ∀ f ∈ l, kind3 f := by have := run_kind3 (l.flatMap byteF) zero; rw [hr] at this; exact this
  have ha : allF (runV zero (l.flatMap byteF)) = l := by rw [hr]; exact List.append_nil l
  have hf : feedS fresh (l.flatMap byteF) = { fresh with rd := zero, q := l } := by
    have e : feedS fresh (l.flatMap byteF) = { fresh with rd := (runV zero (l.flatMap byteF)).2, q := allF (runV zero (l.flatMap byteF)) } := rfl
    rw [e, ha, hr]
  obtain ⟨i1, i2, i3⟩ := inv_start (l.flatMap byteF)
  have ho := okF_all (T := runV zero (l.flatMap byteF)) (by rw [hr]; exact hk)
  rw [ha] at i1 i3 ho
  refine ⟨?_, ?_, i3, i1, ho⟩
  · rw [hf]
    exact ⟨rfl, rfl, (fun r hr => by cases hr), hk⟩
  · rw [hf]; exact .inl rfl
theorem qs_snoc (q : List Frm) (f : Frm) : Mu.qsF (q ++ [f]) = Mu.qsF q ++ (if f.kind = 81 then [f.text] else []) := by
  unfold Mu.qsF
  rw [List.filterMap_append]
  by_cases h : f.kind = 81 <;> simp [List.filterMap_cons, h]
theorem tx_at {w : World} {a : Option Addr} {n c j : Nat} {l : List ByteArray} {x : ByteArray} (h : SlR 1 Mu.txC w (.slice a n c) l) (hx : l[j]? = some x) : ∃ b off, a = some ⟨b, off, none⟩ ∧ w.cell? ⟨b, off + j, none⟩ = some (.string x) := by
  rcases SlR.cases h with ⟨a2, c2, e, hnil⟩ | ⟨b, off, c2, e, -, -, -, -, hc⟩
  · rw [hnil] at hx; simp at hx
  · simp only [Value.slice.injEq] at e
    refine ⟨b, off, e.1, ?_⟩
    have := hc j x hx 0 _ rfl
    simpa using this
set_option maxRecDepth 100000 in
set_option maxHeartbeats 16000000 in
theorem walk (v0 : Value) (x0 : (List Frm)) (v1 : Value) (x1 : (List Mu.Way)) (w : World) (w0 : IsFrms w v0 x0) (b0 : IsFrms.fits x0) (w1 : Mu.IsWays w v1 x1) (b1 : Mu.IsWays.fits x1) :
    Calls Try.prog 5 #[v0, v1] w fun e w' => e = .returned (.bool true) ∧ Below w.heap.size w w' := by
  have HW1 := Lib.hid w1.1
  have HWF := Lib.hid w0
  have HL0 : Hid (x0.length ≤ 6000000000000) := Lib.hid (by have := b0; unfold IsFrms.fits at this; omega)
  clear b0 b1 w1
  go_enter Try.func5, Try.ntmps5
  go_wp2_with fail
  refine (Mu.live_any _).mono ?_
  rintro e wa ⟨rfl, hb1⟩
  have HB1 := Lib.hid hb1
  have HW0 := Lib.hid (w0.below hb1 (Nat.le_refl _))
  clear hb1
  obtain ⟨a0, c0, e0, hl0, hm0, -⟩ := id w0.1
  subst e0
  unfold maxLen at hm0
  clear w0
  go_wp2_with fail
  refine (St.rbytes_big x0 _ _ HW0.out HL0.out).mono ?_
  rintro e wb (⟨hfit, rfl, hb2⟩ | ⟨hfit, rfl, hb2⟩)
  rotate_left
  · have HB2 := Lib.hid (HB1.out.trans (hb2.mono HB1.out.size))
    clear hfit hb2
    go_wp2_with fail
    refine (Mu.new_any _).mono ?_
    rintro e wc ⟨⟨p0, rfl, hn⟩, hb3⟩
    have HB3 := Lib.hid (HB2.out.trans (hb3.mono HB2.out.size))
    clear hn hb3
    go_wp2
    go_ret
    exact ⟨rfl, HB3.out⟩
  have HFIT := Lib.hid hfit
  have HB2 := Lib.hid (HB1.out.trans (hb2.mono HB1.out.size))
  obtain ⟨bs, hbs⟩ : ∃ q, strOfNums (x0.flatMap byteF) = q := ⟨_, rfl⟩
  rw [hbs]
  have HSB : Hid (sb bs = x0.flatMap byteF ∧ bs.size ≤ x0.length * 50) := Lib.hid (by
    have hw8 := St.bytes_wf x0 hfit
    rw [← hbs]
    exact ⟨sb_nums hw8, by rw [strOfNums_size]; exact bytes_len x0 hfit⟩)
  clear hfit hb2 hbs
  go_wp2_with fail
  refine (Mu.new_any _).mono ?_
  rintro e wc ⟨⟨p0, rfl, hn⟩, hb3⟩
  have HB3 := Lib.hid (HB2.out.trans (hb3.mono HB2.out.size))
  have HMU := Lib.hid (Mu.mu_start (g := 0) hn (fun k hk => hk.1) hb3 hb3.size)
  have HBB : Hid (w.heap.size ≤ wb.heap.size) := Lib.hid HB2.out.size
  have HWW : Hid (∀ w', Below wb.heap.size wb w' → SlR 3 Mu.wayC w' v1 x1) := Lib.hid (fun w' h => HW1.out.below (HB2.out.trans (h.mono HB2.out.size)) (Nat.le_refl _))
  clear hn hb3
  by_cases h100 : 100 < x0.length
  · have hli : (100 : Int) < (x0.length : Int) := by omega
    go_wp2
    go_ret
    exact ⟨rfl, HB3.out⟩
  have hli : ¬ (100 : Int) < (x0.length : Int) := by omega
  have HLL : Hid (x0.length ≤ 100) := Lib.hid (by omega)
  have HBZ : Hid (bs.size ≤ 5000) := Lib.hid (by have := HSB.out.2; omega)
  clear h100
  obtain ⟨capb, V, hcv, hsl, hbv, hlv, hby⟩ := St.conv_row wc bs (by unfold maxLen; have := HBZ.out; omega)
  obtain ⟨gb, hgb⟩ : ∃ q, wc.heap.size = q := ⟨_, rfl⟩
  rw [hgb] at hcv hsl hlv
  have HO := Lib.hid ((HMU.out.more hbv).mono (O' := fun k => wc.heap.size ≤ k ∧ k < V.heap.size) (fun k hk => .inr hk))
  have HSL := Lib.hid hsl
  have HOG : Hid (wc.heap.size ≤ gb ∧ gb < V.heap.size) := Lib.hid ⟨by omega, hlv⟩
  have HP1 : Hid (Calls Try.prog 9 #[.pointer (some ⟨p0, 0, none⟩), .slice (some ⟨gb, 0, none⟩) bs.size capb] V fun e w' => e = .returned (.int .i64 0) ∧ MuO p0 (feedS fresh (sb bs)) (fun k => wc.heap.size ≤ k ∧ k < V.heap.size) wb.heap.size wb w' ∧ ∀ k, (wc.heap.size ≤ k ∧ k < V.heap.size) → w'.heap[k]? = V.heap[k]?) := Lib.hid (HO.out.prog (r := .int .i64 (feedE fresh)) (fun S vr vq vo hv ho => Mu.feed_any (.slice (some ⟨gb, 0, none⟩) bs.size capb) (sb bs) V hv ok_fresh (by decide) (fun w' hw => HSL.out w' (hw.2.2.2.2 gb HOG.out.2 (ho gb HOG.out)) hw.2.2.2.1) (by rw [sb_length]; have := HBZ.out; omega)))
  clear hsl hby hlv hbv
  have hns : ¬ 9223372036854775807 < bs.size := by have := HBZ.out; omega
  go_wp2_with (first | ((with_reducible refine HP1.out.mono ?_); rintro e w7 ⟨rfl, h7, k7⟩))
  have HST := Lib.hid (ans_start HFIT.out)
  rw [HSB.out.1] at h7
  obtain ⟨s0, hs0⟩ : ∃ q, feedS fresh (x0.flatMap byteF) = q := ⟨_, rfl⟩
  rw [hs0] at h7 HST
  have HA0 : Hid (Mu.AskX p0 s0 [] [] (.slice none 0 0) (.slice none 0 0) wb.heap.size wb w7) := Lib.hid (by obtain ⟨S1, q1, q2, -, q4, q5⟩ := h7; exact ⟨S1, Mu.AskW.start q1 q2 q4 q5⟩)
  clear h7 k7 hs0
  have hvw : ∃ av cv, v1 = .slice av x1.length cv ∧ x1.length ≤ 9223372036854775807 := by
    obtain ⟨av, cv, e, h1, h2, -⟩ := HWW.out _ HA0.out.bel.1
    exact ⟨av, cv, e, by unfold maxLen at h2; omega⟩
  obtain ⟨av, cv, rfl, hwl⟩ := hvw
  go_wp2_with fail
  go_loopw [9, 10, 11, 49] (fun va vb vn i wr => ∃ (vA vB : Value) (k m : Nat) (s' : Mu.Ses) (xs ys : List ByteArray), vA = va ∧ vB = vb ∧ k + Mu.todo s' ≤ 300 ∧ m ≤ k ∧ vn = .int .i64 (m : Int) ∧ i = .int .i64 (k : Int) ∧ Hid (Mu.AskX p0 s' xs ys vA vB wb.heap.size wb wr) ∧ Hid (Mu.Ans (Mu.qsF x0) s' xs ys ∧ Mu.headA s' ∧ xs.length ≤ k ∧ ys.length = xs.length ∧ Mu.Inv x0 s')) (fun _ _ _ i _ => 1000 - (intOf i).toNat)
  case atStart => exact ⟨_, _, 0, 0, s0, [], [], rfl, rfl, by have := HST.out.2.2.1; have := HLL.out; omega, Nat.le_refl _, rfl, rfl, HA0, Lib.hid ⟨HST.out.1, HST.out.2.1, Nat.le_refl _, rfl, HST.out.2.2.2.1⟩⟩
  case round =>
    obtain ⟨vA, vB, k, m, s1', xs, ys, rfl, rfl, hk, hm, rfl, rfl, HAX, HIV⟩ := hrel
    clear HA0
    have hk2 : (k : Int) < 1000 := by omega
    have HN := Lib.hid (Mu.ans_next HIV.out.1 HIV.out.2.1)
    have HI2 := Lib.hid (Mu.inv_next HST.out.2.2.2.2 HIV.out.2.2.2.2 (by have := HIV.out.2.1; unfold Mu.headA at this; unfold Mu.headS Mu.takesS; omega)).1
    have HP := Lib.hid (HAX.out.prog (fun S vr vq vo hv => next_any _ hv (by have h1 := HIV.out.2.2.2.2.len; have h2 := HIV.out.2.2.2.2.q; have h3 := congrArg List.length h2; rw [List.length_drop] at h3; have := HLL.out; omega)))
    have HKT : Hid (k + Mu.todo s1' ≤ 300 ∧ m ≤ k) := Lib.hid ⟨hk, hm⟩
    obtain ⟨⟨⟨A, T⟩, s2⟩, hs2⟩ : ∃ q, nextV s1' = q := ⟨_, rfl⟩
    rw [hs2] at HN HP HI2
    simp only [] at HP HI2
    have HOL : Hid (s2.out.length ≤ 100) := Lib.hid (by have h1 := HI2.out.len; have := HLL.out; omega)
    clear hs2 hk hm HAX
    go_wp2_with fail
    refine HP.out.mono ?_
    rintro e w5 ⟨rfl, h5⟩
    have HA5 := Lib.hid h5
    clear h5
    rcases HN.out with ⟨hA, hq, hst, han⟩ | ⟨hA, hst, han, hd⟩ | ⟨hA, hst, han, hd⟩ | ⟨hA, hst, han, hd⟩
    · have HAN := Lib.hid han
      have HS2 := Lib.hid hst
      have HQ := Lib.hid hq
      simp only [] at hA
      subst hA
      clear han hst hq
      go_wp2_with (first | ((with_reducible refine HA5.out.replies.mono ?_); rintro e w9 ⟨v9, rfl, o9, hx9, hy9, hb9, hz9⟩; have HO9 := Lib.hid o9; have HX9 := Lib.hid hx9; have HY9 := Lib.hid hy9; have HB9 := Lib.hid (And.intro hb9 hz9); clear o9 hx9 hy9 hb9 hz9; obtain ⟨a9, c9, e9, l9, m9, -⟩ := id HO9.out; subst e9))
      have HXQ : Hid (xs = Mu.qsF x0) := Lib.hid (Mu.ans_end HAN.out HQ.out HS2.out)
      clear l9 m9
      go_loopw [15, 95] (fun vr i wq => ∃ (v : Value) (j : Nat), v = vr ∧ j ≤ s2.out.length ∧ i = .int .i64 (j : Int) ∧ Hid (OwnR 1 Mu.txC Mu.TN wq w9.heap.size v (Mu.rsO (s2.out.take j))) ∧ Hid (Below w9.heap.size w9 wq)) (fun _ i _ => s2.out.length - (intOf i).toNat)
      case atStart => exact ⟨_, 0, rfl, Nat.zero_le _, rfl, Lib.hid (OwnR.nil _ _ _), Lib.hid (Below.refl _ _)⟩
      case round =>
        obtain ⟨v, j, rfl, hj, rfl, HRO, HRJ⟩ := hrel
        by_cases hlt2 : j < s2.out.length
        · have hob : s2.out.length ≤ 100 := HOL.out
          have hjz : (j : Int) < (s2.out.length : Int) := by omega
          obtain ⟨b, off, rfl, y0, y1, y2⟩ : ∃ b off, a9 = some ⟨b, off, none⟩ ∧ wr.cell? ⟨b, off + j * 3, none⟩ = some (.int .i64 s2.out[j].kind) ∧ wr.cell? ⟨b, off + j * 3 + 1, none⟩ = some (.int .i64 s2.out[j].node) ∧ wr.cell? ⟨b, off + j * 3 + 2, none⟩ = some (.string s2.out[j].text) := by
            rcases SlR.cases (HO9.out.below HRJ.out (Nat.le_refl _)) with ⟨a2, c2, e, hnil⟩ | ⟨b, off, c2, e, -, -, -, -, hc⟩
            · rw [hnil] at hlt2; simp at hlt2
            · simp only [Value.slice.injEq] at e
              exact ⟨b, off, e.1, rep_cells (hc j _ (List.getElem?_eq_getElem hlt2))⟩
          have HTK : Hid (Mu.rsO (s2.out.take (j + 1)) = Mu.rsO (s2.out.take j) ++ (if s2.out[j].kind = 2 then [s2.out[j].text] else [])) := Lib.hid (by rw [List.take_succ_eq_append_getElem hlt2, Mu.rs_snoc])
          have HEM : Hid (s2.out[j].kind ≠ 2 → s2.out[j].text = emp) := Lib.hid (HAN.out.e _ (List.getElem_mem hlt2))
          have HLJ : Hid ((Mu.rsO (s2.out.take j)).length ≤ 100) := Lib.hid (by have h1 : (Mu.rsO (s2.out.take j)).length ≤ (s2.out.take j).length := List.length_filterMap_le _ _; have := HOL.out; rw [List.length_take] at h1; omega)
          generalize s2.out[j] = r at *
          obtain ⟨rk, rn, rt⟩ := r
          simp only [] at y0 y1 y2 HTK HEM
          obtain ⟨W8, hW8⟩ : ∃ q, wr.alloc (.cells #[.int .i64 rk, .int .i64 rn, .string rt] 34) = q := ⟨_, rfl⟩
          have HB8 : Hid (Below w9.heap.size w9 W8) := Lib.hid (by rw [← hW8]; exact HRJ.out.alloc HRJ.out.size _)
          have HO8 : Hid (OwnR 1 Mu.txC Mu.TN W8 w9.heap.size v (Mu.rsO (s2.out.take j))) := Lib.hid (by rw [← hW8]; exact HRO.out.alloc _)
          have hr8 : W8.heap[wr.heap.size]? = some (.cells #[.int .i64 rk, .int .i64 rn, .string rt] 34 (0, 0)) := by rw [← hW8]; exact heap_alloc_new _ _
          have z0 : W8.cell? ⟨wr.heap.size, 0, none⟩ = some (.int .i64 rk) := (cell_of_row _ _ _ _ _ _ hr8).trans rfl
          have z2 : W8.cell? ⟨wr.heap.size, 2, none⟩ = some (.string rt) := (cell_of_row _ _ _ _ _ _ hr8).trans rfl
          clear hr8
          by_cases h2 : rk = 2
          · subst h2
            rw [if_pos rfl] at HTK
            obtain ⟨W9, hW9⟩ : ∃ q, W8.alloc (.cells #[.string rt] Mu.TN) = q := ⟨_, rfl⟩
            have HB9x : Hid (Below w9.heap.size w9 W9) := Lib.hid (by rw [← hW9]; exact HB8.out.alloc HB8.out.size _)
            have HO9x : Hid (OwnR 1 Mu.txC Mu.TN W9 w9.heap.size v (Mu.rsO (s2.out.take j))) := Lib.hid (by rw [← hW9]; exact HO8.out.alloc _)
            have HN9x : Hid (SlR 1 Mu.txC W9 (.slice (some ⟨W8.heap.size, 0, none⟩) 1 1) [rt]) := Lib.hid (by rw [← hW9]; exact SlR.one Mu.txC_len W8 _ rfl _ rt rfl)
            clear HB8 HO8 HEM
            go_wp2_with (first | rw [hW8] | rw [hW9] | (at_builtin; refine appR Mu.txC_len Mu.txC_one Try.underlying59 rfl (by decide) Mu.info_tx rfl (.tmp 102) (.tmp 105) rfl w9.heap.size v (Mu.rsO (s2.out.take j)) rfl HO9x.out (.slice (some ⟨W8.heap.size, 0, none⟩) 1 1) [rt] rfl HN9x.out (by have := HLJ.out; simp only [List.length_singleton]; unfold maxLen; omega) (by have := HLJ.out; simp only [List.length_singleton]; omega) HB9x.out.size ?_; intro v7 w7 own7 bel7; have HO7 := Lib.hid own7; have HB7 := Lib.hid (HB9x.out.trans bel7); clear own7 bel7))
            go_roundw
            case rel => exact ⟨_, j + 1, rfl, by omega, by go_num, Lib.hid (by rw [HTK.out]; exact HO7.out), HB7⟩
            case measure => simp [intOf]; omega
          · have HRT := HEM.out h2
            rw [if_neg h2, List.append_nil] at HTK
            have hrt : (!rt.toList.isEmpty) = false := by rw [HRT]; first | rfl | decide | simp [St.emp]
            clear HRT HEM
            go_wp2_with (first | rw [hW8])
            go_roundw
            case rel => exact ⟨_, j + 1, rfl, by omega, by go_num, Lib.hid (by rw [HTK.out]; exact HO8.out), HB8⟩
            case measure => simp [intOf]; omega
        · obtain rfl : j = s2.out.length := by omega
          obtain ⟨wz, hwz⟩ : ∃ q, q = wr := ⟨_, rfl⟩
          subst hwz
          have HRS : Hid (OwnR 1 Mu.txC Mu.TN wz w9.heap.size v ys) := Lib.hid (by have h1 := HRO.out; rw [List.take_length, HAN.out.r] at h1; exact h1)
          have HWR : Hid (Below w.heap.size w wz) := Lib.hid (HB2.out.trans ((HB9.out.1.trans (HRJ.out.mono HB9.out.2)).mono HBB.out))
          have HXR : Hid (Mu.OwnT wz wb.heap.size vA xs) := Lib.hid (HX9.out.keep (fun q hq => HRJ.out.block q (HX9.out.lt q hq).2))
          have HYR : Hid (Mu.OwnT wz wb.heap.size vB ys) := Lib.hid (HY9.out.keep (fun q hq => HRJ.out.block q (HY9.out.lt q hq).2))
          have HXY : Hid (ys.length = xs.length ∧ xs.length ≤ k) := Lib.hid ⟨HIV.out.2.2.2.1, HIV.out.2.2.1⟩
          clear HRO HX9 HY9 HO9 HRJ HOL HAN HA5 HN HIV HI2 HQ HS2 HP
          go_wp2_with fail
          go_loopw [18, 113] (fun vr i wq => ∃ (v2 : Value) (j : Nat), v2 = vr ∧ j ≤ x0.length ∧ i = .int .i64 (j : Int) ∧ Hid (OwnR 1 Mu.txC Mu.TN wq wz.heap.size v2 (Mu.qsF (x0.take j))) ∧ Hid (Below wz.heap.size wz wq)) (fun _ i _ => x0.length - (intOf i).toNat)
          case atStart => exact ⟨_, 0, rfl, Nat.zero_le _, rfl, Lib.hid (OwnR.nil _ _ _), Lib.hid (Below.refl _ _)⟩
          case round =>
            obtain ⟨v2, j, rfl, hj, rfl, HRO, HRJ⟩ := hrel
            by_cases hlt2 : j < x0.length
            · have hjz : (j : Int) < (x0.length : Int) := by omega
              obtain ⟨b, off, rfl, y0, y1⟩ : ∃ b off, a0 = some ⟨b, off, none⟩ ∧ wr.cell? ⟨b, off + j * 2, none⟩ = some (.int .u8 x0[j].kind) ∧ wr.cell? ⟨b, off + j * 2 + 1, none⟩ = some (.string x0[j].text) := by
                rcases SlR.cases (HWF.out.1.below (HWR.out.trans (HRJ.out.mono HWR.out.size)) (Nat.le_refl _)) with ⟨a2, c2, e, hnil⟩ | ⟨b, off, c2, e, -, -, -, -, hc⟩
                · rw [hnil] at hlt2; simp at hlt2
                · simp only [Value.slice.injEq] at e
                  exact ⟨b, off, e.1, frm_cells (hc j _ (List.getElem?_eq_getElem hlt2))⟩
              have HTK : Hid (Mu.qsF (x0.take (j + 1)) = Mu.qsF (x0.take j) ++ (if x0[j].kind = 81 then [x0[j].text] else [])) := Lib.hid (by rw [List.take_succ_eq_append_getElem hlt2, qs_snoc])
              have HLJ : Hid ((Mu.qsF (x0.take j)).length ≤ 100) := Lib.hid (by have h1 : (Mu.qsF (x0.take j)).length ≤ (x0.take j).length := List.length_filterMap_le _ _; have := HLL.out; rw [List.length_take] at h1; omega)
              generalize x0[j] = r at *
              obtain ⟨fk, ft⟩ := r
              simp only [] at y0 y1 HTK
              obtain ⟨W8, hW8⟩ : ∃ q, wr.alloc (.cells #[.int .u8 fk, .string ft] 57) = q := ⟨_, rfl⟩
              have HB8 : Hid (Below wz.heap.size wz W8) := Lib.hid (by rw [← hW8]; exact HRJ.out.alloc HRJ.out.size _)
              have HO8 : Hid (OwnR 1 Mu.txC Mu.TN W8 wz.heap.size v2 (Mu.qsF (x0.take j))) := Lib.hid (by rw [← hW8]; exact HRO.out.alloc _)
              have hr8 : W8.heap[wr.heap.size]? = some (.cells #[.int .u8 fk, .string ft] 57 (0, 0)) := by rw [← hW8]; exact heap_alloc_new _ _
              have z0 : W8.cell? ⟨wr.heap.size, 0, none⟩ = some (.int .u8 fk) := (cell_of_row _ _ _ _ _ _ hr8).trans rfl
              have z2 : W8.cell? ⟨wr.heap.size, 1, none⟩ = some (.string ft) := (cell_of_row _ _ _ _ _ _ hr8).trans rfl
              clear hr8
              by_cases h2 : fk = 81
              · subst h2
                rw [if_pos rfl] at HTK
                obtain ⟨W9, hW9⟩ : ∃ q, W8.alloc (.cells #[.string ft] Mu.TN) = q := ⟨_, rfl⟩
                have HB9x : Hid (Below wz.heap.size wz W9) := Lib.hid (by rw [← hW9]; exact HB8.out.alloc HB8.out.size _)
                have HO9x : Hid (OwnR 1 Mu.txC Mu.TN W9 wz.heap.size v2 (Mu.qsF (x0.take j))) := Lib.hid (by rw [← hW9]; exact HO8.out.alloc _)
                have HN9x : Hid (SlR 1 Mu.txC W9 (.slice (some ⟨W8.heap.size, 0, none⟩) 1 1) [ft]) := Lib.hid (by rw [← hW9]; exact SlR.one Mu.txC_len W8 _ rfl _ ft rfl)
                clear HB8 HO8
                go_wp2_with (first | rw [hW8] | rw [hW9] | (at_builtin; refine appR Mu.txC_len Mu.txC_one Try.underlying59 rfl (by decide) Mu.info_tx rfl (.tmp 120) (.tmp 123) rfl wz.heap.size v2 (Mu.qsF (x0.take j)) rfl HO9x.out (.slice (some ⟨W8.heap.size, 0, none⟩) 1 1) [ft] rfl HN9x.out (by have := HLJ.out; simp only [List.length_singleton]; unfold maxLen; omega) (by have := HLJ.out; simp only [List.length_singleton]; omega) HB9x.out.size ?_; intro v7 w7 own7 bel7; have HO7 := Lib.hid own7; have HB7 := Lib.hid (HB9x.out.trans bel7); clear own7 bel7))
                go_roundw
                case rel => exact ⟨_, j + 1, rfl, by omega, by go_num, Lib.hid (by rw [HTK.out]; exact HO7.out), HB7⟩
                case measure => simp [intOf]; omega
              · rw [if_neg h2, List.append_nil] at HTK
                go_wp2_with (first | rw [hW8])
                go_roundw
                case rel => exact ⟨_, j + 1, rfl, by omega, by go_num, Lib.hid (by rw [HTK.out]; exact HO8.out), HB8⟩
                case measure => simp [intOf]; omega
            · obtain rfl : j = x0.length := by omega
              obtain ⟨wy, hwy⟩ : ∃ q, q = wr := ⟨_, rfl⟩
              subst hwy
              have HQS : Hid (OwnR 1 Mu.txC Mu.TN wy wz.heap.size v2 xs) := Lib.hid (by have h1 := HRO.out; rw [List.take_length, ← HXQ.out] at h1; exact h1)
              have HYS : Hid (SlR 1 Mu.txC wy v ys ∧ SlR 1 Mu.txC wy vA xs ∧ SlR 1 Mu.txC wy vB ys ∧ SlR 1 Mu.txC wy v2 xs) := Lib.hid ⟨(HRS.out.sl Mu.txC_len).below HRJ.out (Nat.le_refl _), (HXR.out.sl Mu.txC_len).below HRJ.out (Nat.le_refl _), (HYR.out.sl Mu.txC_len).below HRJ.out (Nat.le_refl _), HQS.out.sl Mu.txC_len⟩
              have HWY : Hid (Below w.heap.size w wy) := Lib.hid (HWR.out.trans (HRJ.out.mono HWR.out.size))
              clear HRO HRS HXR HYR HQS HRJ HXQ
              obtain ⟨a1, c1, rfl, -⟩ := id HYS.out.1
              obtain ⟨a2, c2, rfl, -⟩ := id HYS.out.2.1
              obtain ⟨a3, c3, rfl, -⟩ := id HYS.out.2.2.1
              obtain ⟨a4, c4, rfl, -⟩ := id HYS.out.2.2.2
              go_wp2_with fail
              go_loopw [140] (fun i wq => ∃ j : Nat, j ≤ xs.length ∧ i = .int .i64 (j : Int) ∧ Hid (Below wy.heap.size wy wq)) (fun i _ => xs.length - (intOf i).toNat)
              case atStart => exact ⟨0, Nat.zero_le _, rfl, Lib.hid (Below.refl _ _)⟩
              case round =>
                obtain ⟨j, hj, rfl, HRJ⟩ := hrel
                by_cases hlt2 : j < xs.length
                · have hxl : xs.length ≤ 1000 := by have := HXY.out.2; omega
                  have hjz : (j : Int) < (xs.length : Int) := by omega
                  obtain ⟨x, hx⟩ : ∃ x, xs[j]? = some x := ⟨_, List.getElem?_eq_getElem hlt2⟩
                  obtain ⟨y, hy⟩ : ∃ y, ys[j]? = some y := ⟨_, List.getElem?_eq_getElem (by have := HXY.out.1; omega)⟩
                  obtain ⟨b1, o1, rfl, l1⟩ := tx_at (HYS.out.1.below HRJ.out (Nat.le_refl _)) hy
                  obtain ⟨b2, o2, rfl, l2⟩ := tx_at (HYS.out.2.1.below HRJ.out (Nat.le_refl _)) hx
                  obtain ⟨b3, o3, rfl, l3⟩ := tx_at (HYS.out.2.2.1.below HRJ.out (Nat.le_refl _)) hy
                  obtain ⟨b4, o4, rfl, l4⟩ := tx_at (HYS.out.2.2.2.below HRJ.out (Nat.le_refl _)) hx
                  have HC4 : Hid (wr.drew.cell? ⟨b2, o2 + j, none⟩ = some (.string x) ∧ wr.drew.cell? ⟨b4, o4 + j, none⟩ = some (.string x) ∧ wr.drew.cell? ⟨b1, o1 + j, none⟩ = some (.string y) ∧ wr.drew.cell? ⟨b3, o3 + j, none⟩ = some (.string y)) := Lib.hid ⟨l2, l4, l1, l3⟩
                  have HJ : Hid (j < xs.length ∧ (j : Int) < (xs.length : Int) ∧ j < ys.length ∧ (j : Int) < (ys.length : Int)) := Lib.hid ⟨hlt2, hjz, by have := HXY.out.1; omega, by have := HXY.out.1; omega⟩
                  have HBD : Hid (Below wy.heap.size wy wr.drew) := Lib.hid HRJ.out.drew
                  clear hx hy l1 l2 l3 l4
                  go_upto_region 47 with fail
                  refine Wl.start 999 (fun _ => True) (fun u => u.cell? ⟨b2, o2 + j, none⟩ = some (.string x) ∧ u.cell? ⟨b4, o4 + j, none⟩ = some (.string x) ∧ u.cell? ⟨b1, o1 + j, none⟩ = some (.string y) ∧ u.cell? ⟨b3, o3 + j, none⟩ = some (.string y)) (by kernel_rfl) trivial HC4.out (fun hk => ?_)
                  refine Wl.take0 (i := 0) (v := .slice (some ⟨b2, o2, none⟩) xs.length c2) rfl (by kernel_rfl) (by kernel_rfl) (by kernel_rfl) (by kernel_rfl) (fun _ _ _ h => h) (.inl ⟨by kernel_rfl, ?_⟩) hk ?_
                  · intro wx hSw
                    clear hSw hk
                    go_simp
                    try first | with_reducible rfl | kernel_rfl
                  simp only [Act.put, List.getElem_toArray, List.getElem_cons_succ, List.getElem_cons_zero, List.setIfInBounds_toArray, List.set_cons_succ, List.set_cons_zero]
                  refine Wl.take0 (i := 1) (v := .int .i64 (j : Int)) rfl (by kernel_rfl) (by kernel_rfl) (by kernel_rfl) (by kernel_rfl) (fun _ _ _ h => h) (.inl ⟨by kernel_rfl, ?_⟩) hk ?_
                  · intro wx hSw
                    clear hSw hk
                    go_simp
                    try first | with_reducible rfl | kernel_rfl
                  simp only [Act.put, List.getElem_toArray, List.getElem_cons_succ, List.getElem_cons_zero, List.setIfInBounds_toArray, List.set_cons_succ, List.set_cons_zero]
                  refine Wl.take0 (i := 2) (v := .pointer (some ⟨b2, o2 + j, none⟩)) rfl (by kernel_rfl) (by kernel_rfl) (by kernel_rfl) (by kernel_rfl) (fun _ _ _ h => h) (.inl ⟨by kernel_rfl, ?_⟩) hk ?_
                  · intro wx hSw
                    have hjl := HJ.out.1
                    have hji := HJ.out.2.1
                    clear hSw hk
                    go_simp
                    try first | with_reducible rfl | kernel_rfl
                  simp only [Act.put, List.getElem_toArray, List.getElem_cons_succ, List.getElem_cons_zero, List.setIfInBounds_toArray, List.set_cons_succ, List.set_cons_zero]
                  refine Wl.take0 (i := 3) (v := .string x) rfl (by kernel_rfl) (by kernel_rfl) (by kernel_rfl) (by kernel_rfl) (fun _ _ _ h => h) (.inl ⟨by kernel_rfl, ?_⟩) hk ?_
                  · intro wx hSw
                    have cc := hSw.1
                    clear hSw hk
                    go_simp
                    try first | with_reducible rfl | kernel_rfl
                  simp only [Act.put, List.getElem_toArray, List.getElem_cons_succ, List.getElem_cons_zero, List.setIfInBounds_toArray, List.set_cons_succ, List.set_cons_zero]
                  refine Wl.take0 (i := 4) (v := .slice (some ⟨b4, o4, none⟩) xs.length c4) rfl (by kernel_rfl) (by kernel_rfl) (by kernel_rfl) (by kernel_rfl) (fun _ _ _ h => h) (.inl ⟨by kernel_rfl, ?_⟩) hk ?_
                  · intro wx hSw
                    clear hSw hk
                    go_simp
                    try first | with_reducible rfl | kernel_rfl
                  simp only [Act.put, List.getElem_toArray, List.getElem_cons_succ, List.getElem_cons_zero, List.setIfInBounds_toArray, List.set_cons_succ, List.set_cons_zero]
                  refine Wl.take0 (i := 5) (v := .int .i64 (j : Int)) rfl (by kernel_rfl) (by kernel_rfl) (by kernel_rfl) (by kernel_rfl) (fun _ _ _ h => h) (.inl ⟨by kernel_rfl, ?_⟩) hk ?_
                  · intro wx hSw
                    clear hSw hk
                    go_simp
                    try first | with_reducible rfl | kernel_rfl
                  simp only [Act.put, List.getElem_toArray, List.getElem_cons_succ, List.getElem_cons_zero, List.setIfInBounds_toArray, List.set_cons_succ, List.set_cons_zero]
                  refine Wl.take0 (i := 6) (v := .pointer (some ⟨b4, o4 + j, none⟩)) rfl (by kernel_rfl) (by kernel_rfl) (by kernel_rfl) (by kernel_rfl) (fun _ _ _ h => h) (.inl ⟨by kernel_rfl, ?_⟩) hk ?_
                  · intro wx hSw
                    have hjl := HJ.out.1
                    have hji := HJ.out.2.1
                    clear hSw hk
                    go_simp
                    try first | with_reducible rfl | kernel_rfl
                  simp only [Act.put, List.getElem_toArray, List.getElem_cons_succ, List.getElem_cons_zero, List.setIfInBounds_toArray, List.set_cons_succ, List.set_cons_zero]
                  refine Wl.take0 (i := 7) (v := .string x) rfl (by kernel_rfl) (by kernel_rfl) (by kernel_rfl) (by kernel_rfl) (fun _ _ _ h => h) (.inl ⟨by kernel_rfl, ?_⟩) hk ?_
                  · intro wx hSw
                    have cc := hSw.2.1
                    clear hSw hk
                    go_simp
                    try first | with_reducible rfl | kernel_rfl
                  simp only [Act.put, List.getElem_toArray, List.getElem_cons_succ, List.getElem_cons_zero, List.setIfInBounds_toArray, List.set_cons_succ, List.set_cons_zero]
                  refine Wl.take0 (i := 8) (v := .bool false) rfl (by kernel_rfl) (by kernel_rfl) (by kernel_rfl) (by kernel_rfl) (fun _ _ _ h => h) (.inl ⟨by kernel_rfl, ?_⟩) hk ?_
                  · intro wx hSw
                    clear hSw hk
                    go_simp
                    try first | with_reducible rfl | kernel_rfl
                  simp only [Act.put, List.getElem_toArray, List.getElem_cons_succ, List.getElem_cons_zero, List.setIfInBounds_toArray, List.set_cons_succ, List.set_cons_zero]
                  refine Wl.take0 (i := 9) (v := .bool false) rfl (by kernel_rfl) (by kernel_rfl) (by kernel_rfl) (by kernel_rfl) (fun _ _ _ h => h) (.inl ⟨by kernel_rfl, ?_⟩) hk ?_
                  · intro wx hSw
                    clear hSw hk
                    go_simp
                    try first | with_reducible rfl | kernel_rfl
                  simp only [Act.put, List.getElem_toArray, List.getElem_cons_succ, List.getElem_cons_zero, List.setIfInBounds_toArray, List.set_cons_succ, List.set_cons_zero]
                  refine Wl.take0 (i := 10) (v := .slice (some ⟨b1, o1, none⟩) ys.length c1) rfl (by kernel_rfl) (by kernel_rfl) (by kernel_rfl) (by kernel_rfl) (fun _ _ _ h => h) (.inl ⟨by kernel_rfl, ?_⟩) hk ?_
                  · intro wx hSw
                    clear hSw hk
                    go_simp
                    try first | with_reducible rfl | kernel_rfl
                  simp only [Act.put, List.getElem_toArray, List.getElem_cons_succ, List.getElem_cons_zero, List.setIfInBounds_toArray, List.set_cons_succ, List.set_cons_zero]
                  refine Wl.take0 (i := 11) (v := .int .i64 (j : Int)) rfl (by kernel_rfl) (by kernel_rfl) (by kernel_rfl) (by kernel_rfl) (fun _ _ _ h => h) (.inl ⟨by kernel_rfl, ?_⟩) hk ?_
                  · intro wx hSw
                    clear hSw hk
                    go_simp
                    try first | with_reducible rfl | kernel_rfl
                  simp only [Act.put, List.getElem_toArray, List.getElem_cons_succ, List.getElem_cons_zero, List.setIfInBounds_toArray, List.set_cons_succ, List.set_cons_zero]
                  refine Wl.take0 (i := 12) (v := .pointer (some ⟨b1, o1 + j, none⟩)) rfl (by kernel_rfl) (by kernel_rfl) (by kernel_rfl) (by kernel_rfl) (fun _ _ _ h => h) (.inl ⟨by kernel_rfl, ?_⟩) hk ?_
                  · intro wx hSw
                    have hjl := HJ.out.2.2.1
                    have hji := HJ.out.2.2.2
                    clear hSw hk
                    go_simp
                    try first | with_reducible rfl | kernel_rfl
                  simp only [Act.put, List.getElem_toArray, List.getElem_cons_succ, List.getElem_cons_zero, List.setIfInBounds_toArray, List.set_cons_succ, List.set_cons_zero]
                  refine Wl.take0 (i := 13) (v := .string y) rfl (by kernel_rfl) (by kernel_rfl) (by kernel_rfl) (by kernel_rfl) (fun _ _ _ h => h) (.inl ⟨by kernel_rfl, ?_⟩) hk ?_
                  · intro wx hSw
                    have cc := hSw.2.2.1
                    clear hSw hk
                    go_simp
                    try first | with_reducible rfl | kernel_rfl
                  simp only [Act.put, List.getElem_toArray, List.getElem_cons_succ, List.getElem_cons_zero, List.setIfInBounds_toArray, List.set_cons_succ, List.set_cons_zero]
                  refine Wl.take0 (i := 14) (v := .slice (some ⟨b3, o3, none⟩) ys.length c3) rfl (by kernel_rfl) (by kernel_rfl) (by kernel_rfl) (by kernel_rfl) (fun _ _ _ h => h) (.inl ⟨by kernel_rfl, ?_⟩) hk ?_
                  · intro wx hSw
                    clear hSw hk
                    go_simp
                    try first | with_reducible rfl | kernel_rfl
                  simp only [Act.put, List.getElem_toArray, List.getElem_cons_succ, List.getElem_cons_zero, List.setIfInBounds_toArray, List.set_cons_succ, List.set_cons_zero]
                  refine Wl.take0 (i := 15) (v := .int .i64 (j : Int)) rfl (by kernel_rfl) (by kernel_rfl) (by kernel_rfl) (by kernel_rfl) (fun _ _ _ h => h) (.inl ⟨by kernel_rfl, ?_⟩) hk ?_
                  · intro wx hSw
                    clear hSw hk
                    go_simp
                    try first | with_reducible rfl | kernel_rfl
                  simp only [Act.put, List.getElem_toArray, List.getElem_cons_succ, List.getElem_cons_zero, List.setIfInBounds_toArray, List.set_cons_succ, List.set_cons_zero]
                  refine Wl.take0 (i := 16) (v := .pointer (some ⟨b3, o3 + j, none⟩)) rfl (by kernel_rfl) (by kernel_rfl) (by kernel_rfl) (by kernel_rfl) (fun _ _ _ h => h) (.inl ⟨by kernel_rfl, ?_⟩) hk ?_
                  · intro wx hSw
                    have hjl := HJ.out.2.2.1
                    have hji := HJ.out.2.2.2
                    clear hSw hk
                    go_simp
                    try first | with_reducible rfl | kernel_rfl
                  simp only [Act.put, List.getElem_toArray, List.getElem_cons_succ, List.getElem_cons_zero, List.setIfInBounds_toArray, List.set_cons_succ, List.set_cons_zero]
                  refine Wl.take0 (i := 17) (v := .string y) rfl (by kernel_rfl) (by kernel_rfl) (by kernel_rfl) (by kernel_rfl) (fun _ _ _ h => h) (.inl ⟨by kernel_rfl, ?_⟩) hk ?_
                  · intro wx hSw
                    have cc := hSw.2.2.2
                    clear hSw hk
                    go_simp
                    try first | with_reducible rfl | kernel_rfl
                  simp only [Act.put, List.getElem_toArray, List.getElem_cons_succ, List.getElem_cons_zero, List.setIfInBounds_toArray, List.set_cons_succ, List.set_cons_zero]
                  refine Wl.take0 (i := 18) (v := .bool false) rfl (by kernel_rfl) (by kernel_rfl) (by kernel_rfl) (by kernel_rfl) (fun _ _ _ h => h) (.inl ⟨by kernel_rfl, ?_⟩) hk ?_
                  · intro wx hSw
                    clear hSw hk
                    go_simp
                    try first | with_reducible rfl | kernel_rfl
                  simp only [Act.put, List.getElem_toArray, List.getElem_cons_succ, List.getElem_cons_zero, List.setIfInBounds_toArray, List.set_cons_succ, List.set_cons_zero]
                  refine Wl.take0 (i := 19) (v := .bool false) rfl (by kernel_rfl) (by kernel_rfl) (by kernel_rfl) (by kernel_rfl) (fun _ _ _ h => h) (.inl ⟨by kernel_rfl, ?_⟩) hk ?_
                  · intro wx hSw
                    clear hSw hk
                    go_simp
                    try first | with_reducible rfl | kernel_rfl
                  simp only [Act.put, List.getElem_toArray, List.getElem_cons_succ, List.getElem_cons_zero, List.setIfInBounds_toArray, List.set_cons_succ, List.set_cons_zero]
                  refine Wl.done (by kernel_rfl) ?_ _
                  clear hk
                  obtain ⟨wd, hwd⟩ : ∃ z, wr.drew = z := ⟨_, rfl⟩
                  rw [hwd] at HBD ⊢
                  clear hwd HC4
                  go_wp2_with fail
                  go_roundw
                  case rel => exact ⟨j + 1, by omega, by go_num, HBD⟩
                  case measure => simp [intOf]; omega
                · obtain rfl : j = xs.length := by omega
                  have HEND : Hid (Below w.heap.size w wr) := Lib.hid (HWY.out.trans (HRJ.out.mono HWY.out.size))
                  go_wp2
                  go_ret
                  exact ⟨rfl, HEND.out⟩
    · have HAN := Lib.hid han
      have HS2 := Lib.hid hst
      have HD := Lib.hid hd
      simp only [] at hA
      subst hA
      clear han hst hd
      go_wp2_with (first | ((with_reducible refine (HA5.out.prog (fun S vr vq vo hv => got2 _ hv HS2.out (by have := HOL.out; omega))).mono ?_); rintro e w9 ⟨rfl, h9⟩; have HA9 := Lib.hid h9; clear h9))
      obtain ⟨g1, g2, g3⟩ := Mu.ans_got HAN.out HS2.out
      obtain ⟨i1, -, -⟩ := Mu.inv_got HI2.out HS2.out
      go_roundw
      case rel => exact ⟨_, _, k + 1, m, gotS s2, xs, ys, rfl, rfl, by have := HKT.out; have h3 : 3 * s2.q.length + 3 ≤ Mu.todo s1' := HD.out; have h4 : Mu.todo (gotS s2) ≤ 3 * s2.q.length + 2 := g3; omega, by have := HKT.out.2; omega, rfl, by go_num, HA9, Lib.hid ⟨g1, g2, Nat.le_succ_of_le HIV.out.2.2.1, HIV.out.2.2.2.1, i1⟩⟩
      case measure => simp [intOf]; omega
    · have HAN := Lib.hid han
      have HS2 := Lib.hid hst
      have HD := Lib.hid hd
      simp only [] at hA
      subst hA
      clear han hst hd
      obtain ⟨W6, hW6⟩ : ∃ q, w5.alloc (.cells #[.string T] Mu.TN) = q := ⟨_, rfl⟩
      have HA6 : Hid (Mu.AskX p0 s2 xs ys vA vB wb.heap.size wb W6) := Lib.hid (by rw [← hW6]; exact HA5.out.below ((Below.refl _ _).alloc (Nat.le_refl _) _))
      have HN6 : Hid (SlR 1 Mu.txC W6 (.slice (some ⟨w5.heap.size, 0, none⟩) 1 1) [T]) := Lib.hid (by rw [← hW6]; exact SlR.one Mu.txC_len w5 _ rfl _ T rfl)
      go_upto_region 19 with (first | rw [hW6] | (at_builtin; refine appQue Mu.txC_len Try.underlying59 rfl (by decide) Mu.info_tx rfl _ _ rfl rfl HA6.out.own.1 (.slice (some ⟨w5.heap.size, 0, none⟩) 1 1) rfl HN6.out (fun x _ => Mu.txC_one x) (by have := HIV.out.2.2.1; simp only [List.length_singleton]; unfold maxLen; omega) (by have := HIV.out.2.2.1; simp only [List.length_singleton]; omega) HA6.out.bel.2 ?_; intro v7 w7 own7 gr7 ob7; have HA7 := Lib.hid (HA6.out.grow own7 gr7 ob7); clear own7 gr7 ob7))
      have hwm : IntKind.i64.wrap ((m : Int) + 1) = (m : Int) + 1 := by rw [IntKind.wrap_i64]; have := HKT.out; omega
      rcases Nat.eq_zero_or_pos x1.length with h0 | h0
      · have hwz : ¬ (0 : Int) < (x1.length : Int) := by omega
        clear h0
        obtain ⟨W8, hW8⟩ : ∃ q, w7.alloc (.cells #[.string T] Mu.TN) = q := ⟨_, rfl⟩
        have HA8 : Hid (Mu.AskX p0 s2 ys (xs ++ [T]) vB v7 wb.heap.size wb W8) := Lib.hid (by rw [← hW8]; exact (HA7.out.below ((Below.refl _ _).alloc (Nat.le_refl _) _)).swap)
        have HN8 : Hid (SlR 1 Mu.txC W8 (.slice (some ⟨w7.heap.size, 0, none⟩) 1 1) [T]) := Lib.hid (by rw [← hW8]; exact SlR.one Mu.txC_len w7 _ rfl _ T rfl)
        go_wp2_with (first | rw [hW8] | (at_builtin; refine appQue Mu.txC_len Try.underlying59 rfl (by decide) Mu.info_tx rfl _ _ rfl rfl HA8.out.own.1 (.slice (some ⟨w7.heap.size, 0, none⟩) 1 1) rfl HN8.out (fun x _ => Mu.txC_one x) (by have := HIV.out.2.2.2.1; have := HIV.out.2.2.1; simp only [List.length_singleton]; unfold maxLen; omega) (by have := HIV.out.2.2.2.1; have := HIV.out.2.2.1; simp only [List.length_singleton]; omega) HA8.out.bel.2 ?_; intro v9 w9 own9 gr9 ob9; have HA9 := Lib.hid (HA8.out.grow own9 gr9 ob9); clear own9 gr9 ob9) | ((with_reducible refine (HA9.out.prog (fun S vr vq vo hv => ans5 T _ hv HS2.out (by have := HOL.out; omega))).mono ?_); rintro e w10 ⟨rfl, h10⟩; have HA10 := Lib.hid h10; clear h10))
        obtain ⟨g1, g2, g3⟩ := Mu.ans_ans HAN.out HS2.out T
        obtain ⟨i1, -, -⟩ := Mu.inv_ans HI2.out HS2.out T
        go_roundw
        case rel => exact ⟨_, _, k + 1, m + 1, ansS s2 T, xs ++ [T], ys ++ [T], rfl, rfl, by have := HKT.out; have h3 : 3 * s2.q.length + 2 ≤ Mu.todo s1' := HD.out; have h4 : Mu.todo (ansS s2 T) ≤ 3 * s2.q.length + 1 := g3; omega, by have := HKT.out.2; omega, by go_num, by go_num, Lib.hid HA10.out.swap, Lib.hid ⟨g1, g2, by have := HIV.out.2.2.1; rw [List.length_append]; exact Nat.succ_le_succ this, by have := HIV.out.2.2.2.1; simp only [List.length_append, List.length_singleton]; omega, i1⟩⟩
        case measure => simp [intOf]; omega
      · have hwz : (0 : Int) < (x1.length : Int) := by omega
        have hix : m % x1.length < x1.length := Nat.mod_lt _ h0
        obtain ⟨ix, hixe⟩ : ∃ q, m % x1.length = q := ⟨_, rfl⟩
        rw [hixe] at hix
        have hrm : (m : Int).tmod (x1.length : Int) = (ix : Int) := by rw [← hixe]; exact (Int.ofNat_tmod m x1.length).symm
        have hixi : (ix : Int) < (x1.length : Int) := by omega
        have hm0 : 0 ≤ (m : Int) := by omega
        obtain ⟨x, hx⟩ : ∃ x, x1[ix]? = some x := ⟨_, List.getElem?_eq_getElem hix⟩
        obtain ⟨b, off, rfl, y2⟩ : ∃ b off, av = some ⟨b, off, none⟩ ∧ w7.cell? ⟨b, off + ix * 3 + 2, none⟩ = some (.string x.text) := by
          rcases SlR.cases (HWW.out w7 HA7.out.bel.1) with ⟨a2, c2, e, hnil⟩ | ⟨b, off, c2, e, -, -, -, -, hc⟩
          · rw [hnil] at h0; cases h0
          · simp only [Value.slice.injEq] at e
            exact ⟨b, off, e.1, (Mu.way_cells (hc ix x hx)).2.2⟩
        obtain ⟨tx, htx⟩ : ∃ b : ByteArray, x.text = b := ⟨_, rfl⟩
        rw [htx] at y2
        clear htx hx hixe h0
        obtain ⟨W8, hW8⟩ : ∃ q, w7.alloc (.cells #[.string tx] Mu.TN) = q := ⟨_, rfl⟩
        have HA8 : Hid (Mu.AskX p0 s2 ys (xs ++ [T]) vB v7 wb.heap.size wb W8) := Lib.hid (by rw [← hW8]; exact (HA7.out.below ((Below.refl _ _).alloc (Nat.le_refl _) _)).swap)
        have HN8 : Hid (SlR 1 Mu.txC W8 (.slice (some ⟨w7.heap.size, 0, none⟩) 1 1) [tx]) := Lib.hid (by rw [← hW8]; exact SlR.one Mu.txC_len w7 _ rfl _ tx rfl)
        go_wp2_with (first | rw [hW8] | (at_builtin; refine appQue Mu.txC_len Try.underlying59 rfl (by decide) Mu.info_tx rfl _ _ rfl rfl HA8.out.own.1 (.slice (some ⟨w7.heap.size, 0, none⟩) 1 1) rfl HN8.out (fun x _ => Mu.txC_one x) (by have := HIV.out.2.2.2.1; have := HIV.out.2.2.1; simp only [List.length_singleton]; unfold maxLen; omega) (by have := HIV.out.2.2.2.1; have := HIV.out.2.2.1; simp only [List.length_singleton]; omega) HA8.out.bel.2 ?_; intro v9 w9 own9 gr9 ob9; have HA9 := Lib.hid (HA8.out.grow own9 gr9 ob9); clear own9 gr9 ob9) | ((with_reducible refine (HA9.out.prog (fun S vr vq vo hv => ans5 tx _ hv HS2.out (by have := HOL.out; omega))).mono ?_); rintro e w10 ⟨rfl, h10⟩; have HA10 := Lib.hid h10; clear h10))
        obtain ⟨g1, g2, g3⟩ := Mu.ans_ans HAN.out HS2.out tx
        obtain ⟨i1, -, -⟩ := Mu.inv_ans HI2.out HS2.out tx
        go_roundw
        case rel => exact ⟨_, _, k + 1, m + 1, ansS s2 tx, xs ++ [T], ys ++ [tx], rfl, rfl, by have := HKT.out; have h3 : 3 * s2.q.length + 2 ≤ Mu.todo s1' := HD.out; have h4 : Mu.todo (ansS s2 tx) ≤ 3 * s2.q.length + 1 := g3; omega, by have := HKT.out.2; omega, by go_num, by go_num, Lib.hid HA10.out.swap, Lib.hid ⟨g1, g2, by have := HIV.out.2.2.1; rw [List.length_append]; exact Nat.succ_le_succ this, by have := HIV.out.2.2.2.1; simp only [List.length_append, List.length_singleton]; omega, i1⟩⟩
        case measure => simp [intOf]; omega
    · have HAN := Lib.hid han
      have HS2 := Lib.hid hst
      have HD := Lib.hid hd
      simp only [] at hA
      subst hA
      clear han hst hd
      go_wp2_with fail
      have g3 : Mu.todo s2 = 3 * s2.q.length := by unfold Mu.todo; have h1 : s2.st = 1 := HS2.out; rw [if_neg (by omega), if_neg (by omega)]; rfl
      go_roundw
      case rel => exact ⟨_, _, k + 1, m, s2, xs, ys, rfl, rfl, by have := HKT.out; have h3 : 3 * s2.q.length + 1 ≤ Mu.todo s1' := HD.out; have h4 := g3; omega, by have := HKT.out.2; omega, rfl, by go_num, HA5, Lib.hid ⟨HAN.out, .inl HS2.out, Nat.le_succ_of_le HIV.out.2.2.1, HIV.out.2.2.2.1, HI2.out⟩⟩
      case measure => simp [intOf]; omega

set_option maxRecDepth 100000 in
theorem contract (H : Type) (enc : TypeId × Value → H) (W : World) (base : Nat) (args : Array Value) (ds gs : List (DataW H)) (before : List MemPlace)
    (hval0 : ∀ (j : Nat) t v, Try.f5.params[j]? = some t → args[j]? = some v → Value.okWide Try.prog W .any base t v)
    (hW : DataW.Whole enc Try.prog Try.f5.params.toList Rows.muxAnswersSpec.vars false W args.toList ds gs before)
    (hsz0 : (DataW.weightsEach Try.prog (Try.f5.params.toList ++ Rows.muxAnswersSpec.plain.varTypes Try.prog) (ds ++ gs)).all (· ≤ reachBytes) = true) :
    Calls Try.prog 5 args W fun e W' => ∃ v, e = .returned v ∧ Rows.muxAnswersSpec.post enc Try.prog Try.f5 false true false false W args v W' := by
  have hval : ∀ (j : Nat) t v, Try.f5.params[j]? = some t → args[j]? = some v → Value.okWide Try.prog W .any base t v := hval0
  have hW' := hW
  obtain ⟨p, q, hA0, hV, rfl, hfz, hnd⟩ := hW
  have hA : DataW.TrodAll enc Try.prog W 0 (fun _ => true) true Try.f5.params.toList args.toList ds p := hA0
  rw [Try.params5] at hA hval
  have hsz := hsz0
  rw [Try.params5] at hsz
  obtain ⟨v0, vs0, d0, ds0, p0, q0, hargs, rfl, rfl, h0, r0⟩ := trodAll_cons hA
  obtain ⟨v1, vs1, d1, ds1, p1, q1, rfl, rfl, rfl, h1, r1⟩ := trodAll_cons r0
  obtain ⟨rfl, rfl, rfl⟩ := trodAll_nil r1
  obtain rfl : args = #[v0, v1] := by cases args; simp_all
  obtain ⟨rfl, rfl⟩ := trodVars_none hV
  clear hA0 hval0
  have k0 := h0
  have lt0 : ∀ x ∈ p0, x.block < W.heap.size := by obtain ⟨m, hm⟩ := k0; exact DataW.trod_lt m _ _ _ hm
  have k1 := h1
  have lt1 : ∀ x ∈ p1, x.block < W.heap.size := by obtain ⟨m, hm⟩ := k1; exact DataW.trod_lt m _ _ _ hm
  obtain ⟨x0, w0, -, s0⟩ := open_frms (hval 0 29 v0 rfl rfl) k0
  have b0 : IsFrms.fits x0 := s0 (wt_arg hsz (j := 0) rfl rfl)
  obtain ⟨x1, w1, -, s1⟩ := Mu.open_wayC (hval 1 48 v1 rfl rfl) k1
  have b1 : Mu.IsWays.fits x1 := s1 (wt_arg hsz (j := 1) rfl rfl)
  refine (walk v0 x0 v1 x1 W w0 b0 w1 b1).mono fun e W' ⟨he, bel⟩ => ?_
  subst he
  exact ⟨_, rfl, _, _, _, [], _, [], hW', trodAll_mk1 (shut_bool Try.underlying4 _), (trodAll_cons_mk (Below.trod laidOut (by kernel_rfl) (of_decide_eq_true (by kernel_rfl)) k0 bel lt0) (trodAll_cons_mk (Below.trod laidOut (by kernel_rfl) (of_decide_eq_true (by kernel_rfl)) k1 bel lt1) trodAll_mk0)), rfl, bel.frame _, fun h => by cases h⟩

set_option maxRecDepth 100000 in
theorem lifted (os : Os) (started : os.Started) (H : Type) (enc : TypeId × Value → H) :
    ReturnsInHanded {} Try.checked os 5 .any (Rows.muxAnswersSpec.pre6 enc Try.prog Try.f5 Rows.muxAnswersRow.domain false) (Rows.muxAnswersSpec.post enc Try.prog Try.f5 false true false false) := by
  refine returnsInHanded_of_change_sized (C := Try.checked) own started (by kernel_rfl) Try.func5
    (ChangeSpec.witness6 (enc := enc) (C := Try.checked) false ⟨#[], #[.slice none 0 0, .slice none 0 0], []⟩ 8 (by kernel_rfl) (by kernel_rfl) (by kernel_rfl) (by kernel_rfl)) ?_
  intro W base args ds gs before hval0 hW hcnd hsz _
  exact contract H enc W base args ds gs before hval0 hW hsz

theorem proved : Rows.MuxAnswersSaid :=
  OpenClaim.holds_of_wide 5 Try.f5 rfl rfl rfl rfl rfl rfl rfl ⟨rfl, rfl, rfl, rfl, rfl⟩ rfl rfl rfl rfl rfl (by kernel_rfl) Try.func5 (by kernel_rfl)
    (of_decide_eq_true (by kernel_rfl)) (by unfold Func.isWrapper; first | (rw [if_pos (by decide +kernel)]; kernel_rfl) | (rw [if_neg (by decide +kernel)]; exact ⟨rfl, rfl⟩))
    (fun os started H enc _ => lifted os started H enc)
end Go.Proofs.Ytdakkjpejhlciaa.muxAnswers
