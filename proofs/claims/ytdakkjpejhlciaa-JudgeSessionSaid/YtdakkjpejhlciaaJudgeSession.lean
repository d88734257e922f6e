/- The law JudgeSession returns true for every list of frames, ways and texts: what the document's session is told, whatever befalls it, fits what it was sent, by package judge's own answer. No condition. -/
import Derived.Test.YtdakkjpejhlciaaRd
import Derived.Test.YtdakkjpejhlciaaJsX
import Derived.Test.YtdakkjpejhlciaaJfX
namespace Go.Proofs.Ytdakkjpejhlciaa.judgeSession
open Go.ChangeShapes Go.WideShapes Go.ChangeAt Go.RowKit
open Go.ChangeMaps (open_string shut_string)
set_option linter.unusedVariables false

theorem own : ownKnob Try.prog.godebug = none := by kernel_rfl
theorem laidOut : laidOutB Try.prog = true := by kernel_rfl

open Go.Proofs.Ytdakkjpejhlciaa.Mu Go.Proofs.Ytdakkjpejhlciaa.Mc Go.Proofs.Ytdakkjpejhlciaa.St Go.Proofs.Ytdakkjpejhlciaa.Js
set_option linter.unusedSimpArgs false
theorem sb_nums {zs : List Int} (h : ∀ n ∈ zs, (Lit.int .u8 n).wf = true) : sb (strOfNums zs) = zs := by
  unfold sb
  rw [strOfNums_data, List.map_map]
  conv => rhs; rw [← List.map_id zs]
  apply List.map_congr_left
  intro x hx
  have := bounds_u8 (h x hx)
  simp
  omega
theorem stx_ne {a b : Int} (h : a = b) (hb : b ≠ 0) : Mv.stX a = b - 1 := by subst h; unfold Mv.stX; rw [if_neg hb]
theorem okT {n : Nat} {s : Ses} (h : okS n 0 s) (h2 : s.st = 2) (h0 : s.out = []) : okS n 1 (({ s with st := 1, tx := St.emp } : Ses).tell (rep 4)) := by
  have ht : turns (rep 4) := .inl ⟨rfl, rfl, rfl⟩
  have := ok_turn h (rep 4)
  unfold turnS at this
  rw [if_pos ht, if_pos h2] at this
  exact this
theorem str_at {w : World} {a : Option Addr} {n c j : Nat} {l : List ByteArray} {x : ByteArray} (h : SlR 1 strC w (.slice a n c) l) (hx : l[j]? = some x) : ∃ b off, a = some ⟨b, off, none⟩ ∧ w.cell? ⟨b, off + j, none⟩ = some (.string x) := by
  rcases SlR.cases h with ⟨a2, c2, e, hnil⟩ | ⟨b, off, c2, e, -, -, -, -, hc⟩
  · rw [hnil] at hx; simp at hx
  · simp only [Value.slice.injEq] at e
    refine ⟨b, off, e.1, ?_⟩
    have := hc j x hx 0 _ rfl
    simpa using this
theorem sl_at {w : World} {a : Option Addr} {n c j : Nat} {l : List Int} (h : Sl .i64 w (.slice a n c) l) (hj : j < l.length) : ∃ z b off, a = some ⟨b, off, none⟩ ∧ w.cell? ⟨b, off + j, none⟩ = some (.int .i64 z) := by
  obtain ⟨a2, c2, e, -, -, -, h4⟩ := h
  simp only [Value.slice.injEq] at e
  obtain ⟨rfl, -, -⟩ := e
  rcases h4 with ⟨-, -, rfl⟩ | ⟨b, off, sp, rfl, rfl | ⟨rfl, -, hc⟩⟩
  · simp at hj
  · simp at hj
  · exact ⟨_, b, off, rfl, hc j hj⟩
set_option maxRecDepth 100000 in
set_option maxHeartbeats 32000000 in
theorem walk (v0 : Value) (x0 : (List Frm)) (v1 : Value) (z1 : List Int) (v2 : Value) (x2 : (List ByteArray)) (w : World) (w0 : IsFrms w v0 x0) (b0 : IsFrms.fits x0) (w1 : Sl .i64 w v1 z1) (b1 : z1.length * 8 ≤ 140737488351232) (w2 : IsStrs w v2 x2) :
    Calls Try.prog 6 #[v0, v1, v2] w fun e w' => e = .returned (.bool true) ∧ Below w.heap.size w w' := by
  have HWF := Lib.hid w0
  have HWY := Lib.hid w1
  have HWS := Lib.hid w2
  have HL0 : Hid (x0.length ≤ 6000000000000) := Lib.hid (by have := b0; unfold IsFrms.fits at this; omega)
  obtain ⟨a0, c0, rfl, hl0, hm0, -⟩ := id w0.1
  obtain ⟨a1, c1, rfl, hl1, hm1, hz1, hr1⟩ := id w1
  obtain ⟨a2, c2, rfl, hl2, hm2, -⟩ := id w2.1
  unfold maxLen at hm0 hm1 hm2
  clear b0 w0 w1 w2 hz1 hr1
  go_enter Try.func6, Try.ntmps6
  go_wp2_with fail
  refine (Jf.lfits_any _).mono ?_
  rintro e wa ⟨rfl, hb1⟩
  have HB1 := Lib.hid hb1
  clear hb1
  go_wp2_with fail
  refine (St.rbytes_big x0 _ _ (HWF.out.below HB1.out (Nat.le_refl _)) HL0.out).mono ?_
  rintro e wb (⟨hfit, rfl, hb2⟩ | ⟨hfit, rfl, hb2⟩)
  rotate_left
  · have HB2 := Lib.hid (HB1.out.trans (hb2.mono HB1.out.size))
    clear hfit hb2
    go_wp2
    go_ret
    exact ⟨rfl, HB2.out⟩
  have HFIT := Lib.hid hfit
  have HB2 := Lib.hid (HB1.out.trans (hb2.mono HB1.out.size))
  obtain ⟨bs, hbs⟩ : ∃ q, strOfNums (x0.flatMap byteF) = q := ⟨_, rfl⟩
  rw [hbs]
  have HSB : Hid (sb bs = x0.flatMap byteF ∧ bs.size ≤ x0.length * 50) := Lib.hid (by
    have hw8 := St.bytes_wf x0 hfit
    rw [← hbs]
    exact ⟨sb_nums hw8, by rw [strOfNums_size]; exact bytes_len x0 hfit⟩)
  clear hfit hb2 hbs
  by_cases h60 : 60 < x0.length
  · have hli : (60 : Int) < (x0.length : Int) := by omega
    go_wp2
    go_ret
    exact ⟨rfl, HB2.out⟩
  have hli : ¬ (60 : Int) < (x0.length : Int) := by omega
  by_cases h200 : 200 < z1.length
  · have hlt : (200 : Int) < (z1.length : Int) := by omega
    go_wp2
    go_ret
    exact ⟨rfl, HB2.out⟩
  have hlt : ¬ (200 : Int) < (z1.length : Int) := by omega
  have HLL : Hid (x0.length ≤ 60) := Lib.hid (by omega)
  clear h60 h200
  have HW0 : Hid (∀ w', Below wb.heap.size wb w' → IsFrms w' (.slice a0 x0.length c0) x0) := Lib.hid (fun w' h => HWF.out.below (HB2.out.trans (h.mono HB2.out.size)) (Nat.le_refl _))
  have HW1 : Hid (∀ w', Below wb.heap.size wb w' → Sl .i64 w' (.slice a1 z1.length c1) z1) := Lib.hid (fun w' h => HWY.out.below (HB2.out.trans (h.mono HB2.out.size)) (Nat.le_refl _))
  have HW2 : Hid (∀ w', Below wb.heap.size wb w' → SlR 1 strC w' (.slice a2 x2.length c2) x2) := Lib.hid (fun w' h => HWS.out.1.below (HB2.out.trans (h.mono HB2.out.size)) (Nat.le_refl _))
  have HX2 : Hid (∀ x ∈ x2, x.size ≤ maxLen) := Lib.hid HWS.out.2
  obtain ⟨gx, hgx⟩ : ∃ q, wb.heap.size = q := ⟨_, rfl⟩
  obtain ⟨W3, hW3⟩ : ∃ q, wb.alloc (.cells #[.string ⟨#[]⟩, .bool false, .slice none 0 0, .int .i64 0, .bool false, .string ⟨#[]⟩, .slice none 0 0] 32) = q := ⟨_, rfl⟩
  have HX3 : Hid (JsX gx Mu.fresh [] [] (.slice none 0 0) (.slice none 0 0) wb.heap.size wb W3) := Lib.hid ⟨_, JsW.start (Mu.x_fresh (by rw [← hW3, ← hgx]; exact heap_alloc_new _ _)) (fun k hk => by rw [hk, hgx]; exact Nat.le_refl _) (by rw [← hW3]; exact (Below.refl _ _).alloc (Nat.le_refl _) _) (by rw [← hW3]; simp)⟩
  have HP1 := Lib.hid (HX3.out.doc (fun S vq vo b bd al tx hm => xfeed0 bs _ S hm (by have := HSB.out.2; have := HLL.out; omega)))
  have HST := Lib.hid (feed_ji HFIT.out)
  rw [HSB.out.1] at HP1
  obtain ⟨s0, hs0⟩ : ∃ q, feedS fresh (x0.flatMap byteF) = q := ⟨_, rfl⟩
  rw [hs0] at HP1 HST
  have HS0 : Hid (s0.out = []) := Lib.hid (by rw [← hs0]; unfold feedS; split; rfl; split <;> rfl)
  clear hs0 HX3
  go_wp2_with (first | rw [hW3] | ((with_reducible refine HP1.out.mono ?_); rintro e w7 ⟨rfl, h7⟩; have HX7 := Lib.hid h7; clear h7))
  clear hW3 hgx
  go_loopw [11, 12, 13, 43] (fun va vb vn i wr => ∃ (vT vS : Value) (k m : Nat) (s : Mu.Ses) (ts : List Rep) (sv : List ByteArray), vT = va ∧ vS = vb ∧ k ≤ 300 ∧ m ≤ k ∧ vn = .int .i64 (m : Int) ∧ i = .int .i64 (k : Int) ∧ Hid (JsX gx s ts sv vT vS wb.heap.size wb wr) ∧ Hid (JI x0 ts sv s ∧ okS 3001 0 s ∧ s.out = [] ∧ (∀ r ∈ ts, repM r) ∧ (∀ x ∈ sv, x.size ≤ maxLen) ∧ True)) (fun _ _ _ i _ => 300 - (intOf i).toNat)
  case atStart => exact ⟨_, _, 0, 0, s0, [], [], rfl, rfl, Nat.zero_le _, Nat.le_refl _, rfl, rfl, HX7, Lib.hid ⟨HST.out.1, HST.out.2.2.mono (by have := HLL.out; omega) (Nat.le_refl _), HS0.out, (fun r hr => by cases hr), (fun r hr => by cases hr), trivial⟩⟩
  case round =>
    obtain ⟨vT, vS, k, m, s, ts, sv, rfl, rfl, hk, hm, rfl, rfl, HXR, HIV⟩ := hrel
    clear HX7 HP1
    have HKM : Hid (m ≤ k ∧ k ≤ 300) := Lib.hid ⟨hm, hk⟩
    have HOM : Hid (outM s) := Lib.hid (fun r hr => by rw [HIV.out.2.2.1] at hr; cases hr)
    have HTM : Hid (∀ r ∈ ts, repM r) := Lib.hid HIV.out.2.2.2.1
    by_cases hlt3 : k < 300
    · have hk2 : (k : Int) < 300 := by omega
      have cst := HXR.out.state
      clear hm
      rcases Nat.eq_zero_or_pos z1.length with hzw | hzw
      · have hzwi : ¬ (0 : Int) < (z1.length : Int) := by omega
        obtain ⟨way, hway⟩ : ∃ q : Int, q = 0 := ⟨_, rfl⟩
        clear hzw hway way
        go_upto_region 16 with fail
        clear hzwi
        by_cases h2 : s.st = 2
        · replace cst : wr.cell? ⟨gx, 3, none⟩ = some (.int .i64 1) := by rw [stx_ne h2 (by decide)] at cst; exact cst
          have HH2 := Lib.hid h2
          · skip
            have HT := Lib.hid (HXR.out.doc (fun S vq vo b bd al tx hm => Mv.got_any _ hm (by rw [HIV.out.2.2.1]; exact Nat.zero_le _)))
            clear HXR h2
            go_wp2_with (first | ((with_reducible refine HT.out.mono ?_); rintro e w5 ⟨rfl, h5⟩; have H5 := Lib.hid h5; clear h5))
            have HX := Lib.hid (H5.out)
            have HJ : Hid (JI x0 ts sv (Mu.gotS s) ∧ outM (Mu.gotS s) ∧ okS 3001 1 (Mu.gotS s)) := Lib.hid ⟨ji_got HIV.out.1, om_got HOM.out, Mu.ok_got HIV.out.2.1⟩
            have HS9 : Hid (∀ x ∈ sv, x.size ≤ maxLen) := Lib.hid (HIV.out.2.2.2.2.1)
            have HL9 := Lib.hid HJ.out.1.len
            have HN9 := Lib.hid (HX.out.doc (fun S vq vo b bd al tx hm => Mv.next_any (n := 3001) (m := 1) _ hm HJ.out.2.2 (by have := HL9.out.2.1; have := HLL.out; omega)))
            have HJ2 : Hid (JI x0 ts sv (Mu.nextV (Mu.gotS s)).2 ∧ outM (Mu.nextV (Mu.gotS s)).2 ∧ okS 3001 3002 (Mu.nextV (Mu.gotS s)).2) := Lib.hid ⟨ji_next HJ.out.1, om_next HJ.out.2.1, (Mu.ok_next HJ.out.2.2).mono (Nat.le_refl _) (by decide)⟩
            clear HX
            obtain ⟨⟨⟨A, TX⟩, s9⟩, hs9⟩ : ∃ q, Mu.nextV (Mu.gotS s) = q := ⟨_, rfl⟩
            rw [hs9] at HN9 HJ2
            simp only [] at HN9 HJ2
            clear hs9 HJ
            go_wp2_with (first | ((with_reducible refine HN9.out.mono ?_); rintro e wn ⟨rfl, hxn⟩; have HXN := Lib.hid hxn; clear hxn) | ((with_reducible refine HXN.out.replies.mono ?_); rintro e wp ⟨vp, rfl, hvp, hxp⟩; have HVP := Lib.hid hvp; have HXP := Lib.hid hxp; clear hxp; obtain ⟨ap, cp, rfl, -⟩ := hvp) | (at_builtin; refine appQue repC_len Try.underlying30 rfl (by decide) Mu.info_rep rfl (.tmp 103) (.tmp 105) rfl rfl HXP.out.own.1 (.slice ap s9.out.length cp) rfl HVP.out (fun x _ => repC_one x) (by have := HJ2.out.1.len.1; have := HLL.out; unfold maxLen; omega) (by have := HJ2.out.1.len.1; have := HLL.out; omega) HXP.out.bel.2 ?_; intro vq wq ownq grq obq; have HXQ := Lib.hid (HXP.out.growT ownq grq obq); clear ownq grq obq))
            have HJ3 : Hid (JI x0 (ts ++ s9.out) sv (repsS s9) ∧ okS 3001 0 (repsS s9) ∧ ∀ r ∈ ts ++ s9.out, repM r) := Lib.hid ⟨HJ2.out.1.flush, Mu.ok_reps HJ2.out.2.2, fun r hr => by rcases List.mem_append.1 hr with g | g; exact HTM.out r g; exact HJ2.out.2.1 r g⟩
            have HFT := Lib.hid (HJ3.out.1.fits rfl)
            refine (Jf.fits_any x0 (sv) (ts ++ s9.out) _ _ _ _ (HW0.out _ HXQ.out.bel.1) ⟨OwnQ.sl (C := Mu.txC) Mu.txC_len HXQ.out.own.2, HS9.out⟩ ⟨HXQ.out.own.1.sl repC_len, fun r hr => repM_wf (HJ3.out.2.2 r hr)⟩).mono ?_
            rintro e wz ⟨zi, ze, rfl, hpz, hbz⟩
            rw [HFT.out] at hpz
            simp only [Prod.mk.injEq] at hpz
            obtain ⟨rfl, rfl⟩ := hpz
            have HXZ := Lib.hid (HXQ.out.below hbz)
            clear hbz
            go_wp2_with fail
            go_roundw
            case rel => exact ⟨_, _, k + 1, m, repsS s9, ts ++ s9.out, sv, rfl, rfl, by omega, by have := HKM.out; omega, rfl, by go_num, HXZ, Lib.hid ⟨HJ3.out.1, HJ3.out.2.1, rfl, HJ3.out.2.2, HS9.out, HIV.out.2.2.2.2.2⟩⟩
            case measure => simp [intOf]; omega
        by_cases h5 : s.st = 5
        · replace cst : wr.cell? ⟨gx, 3, none⟩ = some (.int .i64 4) := by rw [stx_ne h5 (by decide)] at cst; exact cst
          have HH5 := Lib.hid h5
          · skip
            have hwm : IntKind.i64.wrap ((m : Int) + 1) = (m : Int) + 1 := by rw [IntKind.wrap_i64]; have := HKM.out; omega
            clear h2 h5
            rcases Nat.eq_zero_or_pos x2.length with hz | hz
            · have hzi : ¬ (0 : Int) < (x2.length : Int) := by omega
              clear hz
              have HT := Lib.hid (HXR.out.doc (fun S vq vo b bd al tx hm => xans5 ⟨#[]⟩ _ S hm HH5.out (by rw [HIV.out.2.2.1]; exact Nat.zero_le _)))
              clear HXR
              go_upto_region 29 with (first | ((with_reducible refine HT.out.mono ?_); rintro e w5 ⟨rfl, h5⟩; have H5 := Lib.hid h5; clear h5))
              obtain ⟨W6, hW6⟩ : ∃ q, w5.alloc (.cells #[.string ⟨#[]⟩] Mu.TN) = q := ⟨_, rfl⟩
              have HA6 := Lib.hid (show JsX gx (Mu.ansS s ⟨#[]⟩) ts sv vT vS wb.heap.size wb W6 by rw [← hW6]; exact H5.out.below ((Below.refl _ _).alloc (Nat.le_refl _) _))
              have HN6 : Hid (SlR 1 Mu.txC W6 (.slice (some ⟨w5.heap.size, 0, none⟩) 1 1) [⟨#[]⟩]) := Lib.hid (by rw [← hW6]; exact SlR.one Mu.txC_len w5 _ rfl _ ⟨#[]⟩ rfl)
              clear H5
              go_upto_region 33 with (first | rw [hW6] | (at_builtin; refine appQue Mu.txC_len Try.underlying59 rfl (by decide) Mu.info_tx rfl (.tmp 91) (.tmp 93) rfl rfl HA6.out.own.2 (.slice (some ⟨w5.heap.size, 0, none⟩) 1 1) rfl HN6.out (fun x _ => Mu.txC_one x) (by have := HIV.out.1.len.2.2; have := HLL.out; simp only [List.length_singleton]; unfold maxLen; omega) (by have := HIV.out.1.len.2.2; have := HLL.out; simp only [List.length_singleton]; omega) HA6.out.bel.2 ?_; intro v7 w7 own7 gr7 ob7; have HA7 := Lib.hid (HA6.out.growS own7 gr7 ob7); clear own7 gr7 ob7))
              have HX := Lib.hid (HA7.out)
              have HJ : Hid (JI x0 ts (sv ++ [⟨#[]⟩]) (Mu.ansS s ⟨#[]⟩) ∧ outM (Mu.ansS s ⟨#[]⟩) ∧ okS 3001 1 (Mu.ansS s ⟨#[]⟩)) := Lib.hid ⟨ji_ans HIV.out.1 HH5.out ⟨#[]⟩, om_ans HOM.out (Nat.zero_le _), Mu.ok_ans HIV.out.2.1 ⟨#[]⟩⟩
              have HS9 : Hid (∀ x ∈ (sv ++ [⟨#[]⟩]), x.size ≤ maxLen) := Lib.hid (fun x hx => by rcases List.mem_append.1 hx with g | g; exact HIV.out.2.2.2.2.1 x g; simp only [List.mem_singleton] at g; subst g; exact Nat.zero_le _)
              have HL9 := Lib.hid HJ.out.1.len
              have HN9 := Lib.hid (HX.out.doc (fun S vq vo b bd al tx hm => Mv.next_any (n := 3001) (m := 1) _ hm HJ.out.2.2 (by have := HL9.out.2.1; have := HLL.out; omega)))
              have HJ2 : Hid (JI x0 ts (sv ++ [⟨#[]⟩]) (Mu.nextV (Mu.ansS s ⟨#[]⟩)).2 ∧ outM (Mu.nextV (Mu.ansS s ⟨#[]⟩)).2 ∧ okS 3001 3002 (Mu.nextV (Mu.ansS s ⟨#[]⟩)).2) := Lib.hid ⟨ji_next HJ.out.1, om_next HJ.out.2.1, (Mu.ok_next HJ.out.2.2).mono (Nat.le_refl _) (by decide)⟩
              clear HX
              obtain ⟨⟨⟨A, TX⟩, s9⟩, hs9⟩ : ∃ q, Mu.nextV (Mu.ansS s ⟨#[]⟩) = q := ⟨_, rfl⟩
              rw [hs9] at HN9 HJ2
              simp only [] at HN9 HJ2
              clear hs9 HJ
              go_wp2_with (first | ((with_reducible refine HN9.out.mono ?_); rintro e wn ⟨rfl, hxn⟩; have HXN := Lib.hid hxn; clear hxn) | ((with_reducible refine HXN.out.replies.mono ?_); rintro e wp ⟨vp, rfl, hvp, hxp⟩; have HVP := Lib.hid hvp; have HXP := Lib.hid hxp; clear hxp; obtain ⟨ap, cp, rfl, -⟩ := hvp) | (at_builtin; refine appQue repC_len Try.underlying30 rfl (by decide) Mu.info_rep rfl (.tmp 103) (.tmp 105) rfl rfl HXP.out.own.1 (.slice ap s9.out.length cp) rfl HVP.out (fun x _ => repC_one x) (by have := HJ2.out.1.len.1; have := HLL.out; unfold maxLen; omega) (by have := HJ2.out.1.len.1; have := HLL.out; omega) HXP.out.bel.2 ?_; intro vq wq ownq grq obq; have HXQ := Lib.hid (HXP.out.growT ownq grq obq); clear ownq grq obq))
              have HJ3 : Hid (JI x0 (ts ++ s9.out) (sv ++ [⟨#[]⟩]) (repsS s9) ∧ okS 3001 0 (repsS s9) ∧ ∀ r ∈ ts ++ s9.out, repM r) := Lib.hid ⟨HJ2.out.1.flush, Mu.ok_reps HJ2.out.2.2, fun r hr => by rcases List.mem_append.1 hr with g | g; exact HTM.out r g; exact HJ2.out.2.1 r g⟩
              have HFT := Lib.hid (HJ3.out.1.fits rfl)
              refine (Jf.fits_any x0 ((sv ++ [⟨#[]⟩])) (ts ++ s9.out) _ _ _ _ (HW0.out _ HXQ.out.bel.1) ⟨OwnQ.sl (C := Mu.txC) Mu.txC_len HXQ.out.own.2, HS9.out⟩ ⟨HXQ.out.own.1.sl repC_len, fun r hr => repM_wf (HJ3.out.2.2 r hr)⟩).mono ?_
              rintro e wz ⟨zi, ze, rfl, hpz, hbz⟩
              rw [HFT.out] at hpz
              simp only [Prod.mk.injEq] at hpz
              obtain ⟨rfl, rfl⟩ := hpz
              have HXZ := Lib.hid (HXQ.out.below hbz)
              clear hbz
              go_wp2_with fail
              go_roundw
              case rel => exact ⟨_, _, k + 1, (m + 1), repsS s9, ts ++ s9.out, (sv ++ [⟨#[]⟩]), rfl, rfl, by omega, by have := HKM.out; omega, rfl, by go_num, HXZ, Lib.hid ⟨HJ3.out.1, HJ3.out.2.1, rfl, HJ3.out.2.2, HS9.out, trivial⟩⟩
              case measure => simp [intOf]; omega
            · have hzi : (0 : Int) < (x2.length : Int) := by omega
              have hix : m % x2.length < x2.length := Nat.mod_lt _ hz
              obtain ⟨ix, hixe⟩ : ∃ q, m % x2.length = q := ⟨_, rfl⟩
              rw [hixe] at hix
              have hrm : (m : Int).tmod (x2.length : Int) = (ix : Int) := by rw [← hixe]; exact (Int.ofNat_tmod m x2.length).symm
              have hixi : (ix : Int) < (x2.length : Int) := by omega
              have hm0 : 0 ≤ (m : Int) := by omega
              obtain ⟨t, ht⟩ : ∃ x, x2[ix]? = some x := ⟨_, List.getElem?_eq_getElem hix⟩
              obtain ⟨b, off, rfl, y2⟩ := str_at (HW2.out _ HXR.out.bel.1) ht
              have HTZ : Hid (t.size ≤ maxLen) := Lib.hid (HX2.out t (List.mem_of_getElem? ht))
              clear ht hixe hz
              have HT := Lib.hid (HXR.out.doc (fun S vq vo b bd al tx hm => xans5 t _ S hm HH5.out (by rw [HIV.out.2.2.1]; exact Nat.zero_le _)))
              clear HXR
              go_upto_region 29 with (first | ((with_reducible refine HT.out.mono ?_); rintro e w5 ⟨rfl, h5⟩; have H5 := Lib.hid h5; clear h5))
              obtain ⟨W6, hW6⟩ : ∃ q, w5.alloc (.cells #[.string t] Mu.TN) = q := ⟨_, rfl⟩
              have HA6 := Lib.hid (show JsX gx (Mu.ansS s t) ts sv vT vS wb.heap.size wb W6 by rw [← hW6]; exact H5.out.below ((Below.refl _ _).alloc (Nat.le_refl _) _))
              have HN6 : Hid (SlR 1 Mu.txC W6 (.slice (some ⟨w5.heap.size, 0, none⟩) 1 1) [t]) := Lib.hid (by rw [← hW6]; exact SlR.one Mu.txC_len w5 _ rfl _ t rfl)
              clear H5
              go_upto_region 33 with (first | rw [hW6] | (at_builtin; refine appQue Mu.txC_len Try.underlying59 rfl (by decide) Mu.info_tx rfl (.tmp 91) (.tmp 93) rfl rfl HA6.out.own.2 (.slice (some ⟨w5.heap.size, 0, none⟩) 1 1) rfl HN6.out (fun x _ => Mu.txC_one x) (by have := HIV.out.1.len.2.2; have := HLL.out; simp only [List.length_singleton]; unfold maxLen; omega) (by have := HIV.out.1.len.2.2; have := HLL.out; simp only [List.length_singleton]; omega) HA6.out.bel.2 ?_; intro v7 w7 own7 gr7 ob7; have HA7 := Lib.hid (HA6.out.growS own7 gr7 ob7); clear own7 gr7 ob7))
              have HX := Lib.hid (HA7.out)
              have HJ : Hid (JI x0 ts (sv ++ [t]) (Mu.ansS s t) ∧ outM (Mu.ansS s t) ∧ okS 3001 1 (Mu.ansS s t)) := Lib.hid ⟨ji_ans HIV.out.1 HH5.out t, om_ans HOM.out (HTZ.out), Mu.ok_ans HIV.out.2.1 t⟩
              have HS9 : Hid (∀ x ∈ (sv ++ [t]), x.size ≤ maxLen) := Lib.hid (fun x hx => by rcases List.mem_append.1 hx with g | g; exact HIV.out.2.2.2.2.1 x g; simp only [List.mem_singleton] at g; subst g; exact HTZ.out)
              have HL9 := Lib.hid HJ.out.1.len
              have HN9 := Lib.hid (HX.out.doc (fun S vq vo b bd al tx hm => Mv.next_any (n := 3001) (m := 1) _ hm HJ.out.2.2 (by have := HL9.out.2.1; have := HLL.out; omega)))
              have HJ2 : Hid (JI x0 ts (sv ++ [t]) (Mu.nextV (Mu.ansS s t)).2 ∧ outM (Mu.nextV (Mu.ansS s t)).2 ∧ okS 3001 3002 (Mu.nextV (Mu.ansS s t)).2) := Lib.hid ⟨ji_next HJ.out.1, om_next HJ.out.2.1, (Mu.ok_next HJ.out.2.2).mono (Nat.le_refl _) (by decide)⟩
              clear HX
              obtain ⟨⟨⟨A, TX⟩, s9⟩, hs9⟩ : ∃ q, Mu.nextV (Mu.ansS s t) = q := ⟨_, rfl⟩
              rw [hs9] at HN9 HJ2
              simp only [] at HN9 HJ2
              clear hs9 HJ
              go_wp2_with (first | ((with_reducible refine HN9.out.mono ?_); rintro e wn ⟨rfl, hxn⟩; have HXN := Lib.hid hxn; clear hxn) | ((with_reducible refine HXN.out.replies.mono ?_); rintro e wp ⟨vp, rfl, hvp, hxp⟩; have HVP := Lib.hid hvp; have HXP := Lib.hid hxp; clear hxp; obtain ⟨ap, cp, rfl, -⟩ := hvp) | (at_builtin; refine appQue repC_len Try.underlying30 rfl (by decide) Mu.info_rep rfl (.tmp 103) (.tmp 105) rfl rfl HXP.out.own.1 (.slice ap s9.out.length cp) rfl HVP.out (fun x _ => repC_one x) (by have := HJ2.out.1.len.1; have := HLL.out; unfold maxLen; omega) (by have := HJ2.out.1.len.1; have := HLL.out; omega) HXP.out.bel.2 ?_; intro vq wq ownq grq obq; have HXQ := Lib.hid (HXP.out.growT ownq grq obq); clear ownq grq obq))
              have HJ3 : Hid (JI x0 (ts ++ s9.out) (sv ++ [t]) (repsS s9) ∧ okS 3001 0 (repsS s9) ∧ ∀ r ∈ ts ++ s9.out, repM r) := Lib.hid ⟨HJ2.out.1.flush, Mu.ok_reps HJ2.out.2.2, fun r hr => by rcases List.mem_append.1 hr with g | g; exact HTM.out r g; exact HJ2.out.2.1 r g⟩
              have HFT := Lib.hid (HJ3.out.1.fits rfl)
              refine (Jf.fits_any x0 ((sv ++ [t])) (ts ++ s9.out) _ _ _ _ (HW0.out _ HXQ.out.bel.1) ⟨OwnQ.sl (C := Mu.txC) Mu.txC_len HXQ.out.own.2, HS9.out⟩ ⟨HXQ.out.own.1.sl repC_len, fun r hr => repM_wf (HJ3.out.2.2 r hr)⟩).mono ?_
              rintro e wz ⟨zi, ze, rfl, hpz, hbz⟩
              rw [HFT.out] at hpz
              simp only [Prod.mk.injEq] at hpz
              obtain ⟨rfl, rfl⟩ := hpz
              have HXZ := Lib.hid (HXQ.out.below hbz)
              clear hbz
              go_wp2_with fail
              go_roundw
              case rel => exact ⟨_, _, k + 1, (m + 1), repsS s9, ts ++ s9.out, (sv ++ [t]), rfl, rfl, by omega, by have := HKM.out; omega, rfl, by go_num, HXZ, Lib.hid ⟨HJ3.out.1, HJ3.out.2.1, rfl, HJ3.out.2.2, HS9.out, trivial⟩⟩
              case measure => simp [intOf]; omega
        by_cases h3 : s.st = 3
        · replace cst : wr.cell? ⟨gx, 3, none⟩ = some (.int .i64 2) := by rw [stx_ne h3 (by decide)] at cst; exact cst
          have HH3 := Lib.hid h3
          · skip
            clear h2 h5 h3
            go_upto_region 33 with fail
            have HX := Lib.hid (HXR.out)
            have HJ : Hid (JI x0 ts sv (s) ∧ outM (s) ∧ okS 3001 1 (s)) := Lib.hid ⟨HIV.out.1, HOM.out, HIV.out.2.1.mono (Nat.le_refl _) (Nat.zero_le _)⟩
            have HS9 : Hid (∀ x ∈ sv, x.size ≤ maxLen) := Lib.hid (HIV.out.2.2.2.2.1)
            have HL9 := Lib.hid HJ.out.1.len
            have HN9 := Lib.hid (HX.out.doc (fun S vq vo b bd al tx hm => Mv.next_any (n := 3001) (m := 1) _ hm HJ.out.2.2 (by have := HL9.out.2.1; have := HLL.out; omega)))
            have HJ2 : Hid (JI x0 ts sv (Mu.nextV (s)).2 ∧ outM (Mu.nextV (s)).2 ∧ okS 3001 3002 (Mu.nextV (s)).2) := Lib.hid ⟨ji_next HJ.out.1, om_next HJ.out.2.1, (Mu.ok_next HJ.out.2.2).mono (Nat.le_refl _) (by decide)⟩
            clear HX
            obtain ⟨⟨⟨A, TX⟩, s9⟩, hs9⟩ : ∃ q, Mu.nextV (s) = q := ⟨_, rfl⟩
            rw [hs9] at HN9 HJ2
            simp only [] at HN9 HJ2
            clear hs9 HJ
            go_wp2_with (first | ((with_reducible refine HN9.out.mono ?_); rintro e wn ⟨rfl, hxn⟩; have HXN := Lib.hid hxn; clear hxn) | ((with_reducible refine HXN.out.replies.mono ?_); rintro e wp ⟨vp, rfl, hvp, hxp⟩; have HVP := Lib.hid hvp; have HXP := Lib.hid hxp; clear hxp; obtain ⟨ap, cp, rfl, -⟩ := hvp) | (at_builtin; refine appQue repC_len Try.underlying30 rfl (by decide) Mu.info_rep rfl (.tmp 103) (.tmp 105) rfl rfl HXP.out.own.1 (.slice ap s9.out.length cp) rfl HVP.out (fun x _ => repC_one x) (by have := HJ2.out.1.len.1; have := HLL.out; unfold maxLen; omega) (by have := HJ2.out.1.len.1; have := HLL.out; omega) HXP.out.bel.2 ?_; intro vq wq ownq grq obq; have HXQ := Lib.hid (HXP.out.growT ownq grq obq); clear ownq grq obq))
            have HJ3 : Hid (JI x0 (ts ++ s9.out) sv (repsS s9) ∧ okS 3001 0 (repsS s9) ∧ ∀ r ∈ ts ++ s9.out, repM r) := Lib.hid ⟨HJ2.out.1.flush, Mu.ok_reps HJ2.out.2.2, fun r hr => by rcases List.mem_append.1 hr with g | g; exact HTM.out r g; exact HJ2.out.2.1 r g⟩
            have HFT := Lib.hid (HJ3.out.1.fits rfl)
            refine (Jf.fits_any x0 (sv) (ts ++ s9.out) _ _ _ _ (HW0.out _ HXQ.out.bel.1) ⟨OwnQ.sl (C := Mu.txC) Mu.txC_len HXQ.out.own.2, HS9.out⟩ ⟨HXQ.out.own.1.sl repC_len, fun r hr => repM_wf (HJ3.out.2.2 r hr)⟩).mono ?_
            rintro e wz ⟨zi, ze, rfl, hpz, hbz⟩
            rw [HFT.out] at hpz
            simp only [Prod.mk.injEq] at hpz
            obtain ⟨rfl, rfl⟩ := hpz
            have HXZ := Lib.hid (HXQ.out.below hbz)
            clear hbz
            go_wp2_with fail
            go_roundw
            case rel => exact ⟨_, _, k + 1, m, repsS s9, ts ++ s9.out, sv, rfl, rfl, by omega, by have := HKM.out; omega, rfl, by go_num, HXZ, Lib.hid ⟨HJ3.out.1, HJ3.out.2.1, rfl, HJ3.out.2.2, HS9.out, HIV.out.2.2.2.2.2⟩⟩
            case measure => simp [intOf]; omega
        have hq1 : (Mv.stX s.st == 1) = false := beq_eq_false_iff_ne.2 (by unfold Mv.stX; split <;> omega)
        have hq4 : (Mv.stX s.st == 4) = false := beq_eq_false_iff_ne.2 (by unfold Mv.stX; split <;> omega)
        have hq2 : (Mv.stX s.st == 2) = false := beq_eq_false_iff_ne.2 (by unfold Mv.stX; split <;> omega)
        generalize Mv.stX s.st = zst at *
        clear h2 h5 h3
        go_upto_region 33 with fail
        have HX := Lib.hid (HXR.out)
        have HJ : Hid (JI x0 ts sv (s) ∧ outM (s) ∧ okS 3001 1 (s)) := Lib.hid ⟨HIV.out.1, HOM.out, HIV.out.2.1.mono (Nat.le_refl _) (Nat.zero_le _)⟩
        have HS9 : Hid (∀ x ∈ sv, x.size ≤ maxLen) := Lib.hid (HIV.out.2.2.2.2.1)
        have HL9 := Lib.hid HJ.out.1.len
        have HN9 := Lib.hid (HX.out.doc (fun S vq vo b bd al tx hm => Mv.next_any (n := 3001) (m := 1) _ hm HJ.out.2.2 (by have := HL9.out.2.1; have := HLL.out; omega)))
        have HJ2 : Hid (JI x0 ts sv (Mu.nextV (s)).2 ∧ outM (Mu.nextV (s)).2 ∧ okS 3001 3002 (Mu.nextV (s)).2) := Lib.hid ⟨ji_next HJ.out.1, om_next HJ.out.2.1, (Mu.ok_next HJ.out.2.2).mono (Nat.le_refl _) (by decide)⟩
        clear HX
        obtain ⟨⟨⟨A, TX⟩, s9⟩, hs9⟩ : ∃ q, Mu.nextV (s) = q := ⟨_, rfl⟩
        rw [hs9] at HN9 HJ2
        simp only [] at HN9 HJ2
        clear hs9 HJ
        go_wp2_with (first | ((with_reducible refine HN9.out.mono ?_); rintro e wn ⟨rfl, hxn⟩; have HXN := Lib.hid hxn; clear hxn) | ((with_reducible refine HXN.out.replies.mono ?_); rintro e wp ⟨vp, rfl, hvp, hxp⟩; have HVP := Lib.hid hvp; have HXP := Lib.hid hxp; clear hxp; obtain ⟨ap, cp, rfl, -⟩ := hvp) | (at_builtin; refine appQue repC_len Try.underlying30 rfl (by decide) Mu.info_rep rfl (.tmp 103) (.tmp 105) rfl rfl HXP.out.own.1 (.slice ap s9.out.length cp) rfl HVP.out (fun x _ => repC_one x) (by have := HJ2.out.1.len.1; have := HLL.out; unfold maxLen; omega) (by have := HJ2.out.1.len.1; have := HLL.out; omega) HXP.out.bel.2 ?_; intro vq wq ownq grq obq; have HXQ := Lib.hid (HXP.out.growT ownq grq obq); clear ownq grq obq))
        have HJ3 : Hid (JI x0 (ts ++ s9.out) sv (repsS s9) ∧ okS 3001 0 (repsS s9) ∧ ∀ r ∈ ts ++ s9.out, repM r) := Lib.hid ⟨HJ2.out.1.flush, Mu.ok_reps HJ2.out.2.2, fun r hr => by rcases List.mem_append.1 hr with g | g; exact HTM.out r g; exact HJ2.out.2.1 r g⟩
        have HFT := Lib.hid (HJ3.out.1.fits rfl)
        refine (Jf.fits_any x0 (sv) (ts ++ s9.out) _ _ _ _ (HW0.out _ HXQ.out.bel.1) ⟨OwnQ.sl (C := Mu.txC) Mu.txC_len HXQ.out.own.2, HS9.out⟩ ⟨HXQ.out.own.1.sl repC_len, fun r hr => repM_wf (HJ3.out.2.2 r hr)⟩).mono ?_
        rintro e wz ⟨zi, ze, rfl, hpz, hbz⟩
        rw [HFT.out] at hpz
        simp only [Prod.mk.injEq] at hpz
        obtain ⟨rfl, rfl⟩ := hpz
        have HXZ := Lib.hid (HXQ.out.below hbz)
        clear hbz
        go_wp2_with fail
        go_roundw
        case rel => exact ⟨_, _, k + 1, m, repsS s9, ts ++ s9.out, sv, rfl, rfl, by omega, by have := HKM.out; omega, rfl, by go_num, HXZ, Lib.hid ⟨HJ3.out.1, HJ3.out.2.1, rfl, HJ3.out.2.2, HS9.out, HIV.out.2.2.2.2.2⟩⟩
        case measure => simp [intOf]; omega
      · have hzwi : (0 : Int) < (z1.length : Int) := by omega
        have hix : k % z1.length < z1.length := Nat.mod_lt _ hzw
        obtain ⟨ix, hixe⟩ : ∃ q, k % z1.length = q := ⟨_, rfl⟩
        rw [hixe] at hix
        have hrm : (k : Int).tmod (z1.length : Int) = (ix : Int) := by rw [← hixe]; exact (Int.ofNat_tmod k z1.length).symm
        have hixi : (ix : Int) < (z1.length : Int) := by omega
        have hk0 : 0 ≤ (k : Int) := by omega
        obtain ⟨way, b, off, rfl, y2⟩ := sl_at (HW1.out _ HXR.out.bel.1) hix
        clear hixe hzw
        go_upto_region 16 with fail
        clear hzwi hix hrm hixi hk0 y2
        by_cases h2 : s.st = 2
        · replace cst : wr.cell? ⟨gx, 3, none⟩ = some (.int .i64 1) := by rw [stx_ne h2 (by decide)] at cst; exact cst
          have HH2 := Lib.hid h2
          by_cases hw1 : way = 1
          · subst hw1
            have HT := Lib.hid (HXR.out.doc (fun S vq vo b bd al tx hm => xturn4 _ S hm HH2.out (by rw [HIV.out.2.2.1]; exact Nat.zero_le _)))
            clear HXR h2
            go_wp2_with (first | ((with_reducible refine HT.out.mono ?_); rintro e w5 ⟨rfl, h5⟩; have H5 := Lib.hid h5; clear h5))
            have HX := Lib.hid (H5.out)
            have HJ : Hid (JI x0 ts sv (({ s with st := 1, tx := St.emp } : Mu.Ses).tell (Mu.rep 4)) ∧ outM (({ s with st := 1, tx := St.emp } : Mu.Ses).tell (Mu.rep 4)) ∧ okS 3001 1 (({ s with st := 1, tx := St.emp } : Mu.Ses).tell (Mu.rep 4))) := Lib.hid ⟨ji_turn HIV.out.1 HH2.out, outM.tell HOM.out (repM_rep 4 (by decide) (by decide)) rfl, okT HIV.out.2.1 HH2.out HIV.out.2.2.1⟩
            have HS9 : Hid (∀ x ∈ sv, x.size ≤ maxLen) := Lib.hid (HIV.out.2.2.2.2.1)
            have HL9 := Lib.hid HJ.out.1.len
            have HN9 := Lib.hid (HX.out.doc (fun S vq vo b bd al tx hm => Mv.next_any (n := 3001) (m := 1) _ hm HJ.out.2.2 (by have := HL9.out.2.1; have := HLL.out; omega)))
            have HJ2 : Hid (JI x0 ts sv (Mu.nextV (({ s with st := 1, tx := St.emp } : Mu.Ses).tell (Mu.rep 4))).2 ∧ outM (Mu.nextV (({ s with st := 1, tx := St.emp } : Mu.Ses).tell (Mu.rep 4))).2 ∧ okS 3001 3002 (Mu.nextV (({ s with st := 1, tx := St.emp } : Mu.Ses).tell (Mu.rep 4))).2) := Lib.hid ⟨ji_next HJ.out.1, om_next HJ.out.2.1, (Mu.ok_next HJ.out.2.2).mono (Nat.le_refl _) (by decide)⟩
            clear HX
            obtain ⟨⟨⟨A, TX⟩, s9⟩, hs9⟩ : ∃ q, Mu.nextV (({ s with st := 1, tx := St.emp } : Mu.Ses).tell (Mu.rep 4)) = q := ⟨_, rfl⟩
            rw [hs9] at HN9 HJ2
            simp only [] at HN9 HJ2
            clear hs9 HJ
            go_wp2_with (first | ((with_reducible refine HN9.out.mono ?_); rintro e wn ⟨rfl, hxn⟩; have HXN := Lib.hid hxn; clear hxn) | ((with_reducible refine HXN.out.replies.mono ?_); rintro e wp ⟨vp, rfl, hvp, hxp⟩; have HVP := Lib.hid hvp; have HXP := Lib.hid hxp; clear hxp; obtain ⟨ap, cp, rfl, -⟩ := hvp) | (at_builtin; refine appQue repC_len Try.underlying30 rfl (by decide) Mu.info_rep rfl (.tmp 103) (.tmp 105) rfl rfl HXP.out.own.1 (.slice ap s9.out.length cp) rfl HVP.out (fun x _ => repC_one x) (by have := HJ2.out.1.len.1; have := HLL.out; unfold maxLen; omega) (by have := HJ2.out.1.len.1; have := HLL.out; omega) HXP.out.bel.2 ?_; intro vq wq ownq grq obq; have HXQ := Lib.hid (HXP.out.growT ownq grq obq); clear ownq grq obq))
            have HJ3 : Hid (JI x0 (ts ++ s9.out) sv (repsS s9) ∧ okS 3001 0 (repsS s9) ∧ ∀ r ∈ ts ++ s9.out, repM r) := Lib.hid ⟨HJ2.out.1.flush, Mu.ok_reps HJ2.out.2.2, fun r hr => by rcases List.mem_append.1 hr with g | g; exact HTM.out r g; exact HJ2.out.2.1 r g⟩
            have HFT := Lib.hid (HJ3.out.1.fits rfl)
            refine (Jf.fits_any x0 (sv) (ts ++ s9.out) _ _ _ _ (HW0.out _ HXQ.out.bel.1) ⟨OwnQ.sl (C := Mu.txC) Mu.txC_len HXQ.out.own.2, HS9.out⟩ ⟨HXQ.out.own.1.sl repC_len, fun r hr => repM_wf (HJ3.out.2.2 r hr)⟩).mono ?_
            rintro e wz ⟨zi, ze, rfl, hpz, hbz⟩
            rw [HFT.out] at hpz
            simp only [Prod.mk.injEq] at hpz
            obtain ⟨rfl, rfl⟩ := hpz
            have HXZ := Lib.hid (HXQ.out.below hbz)
            clear hbz
            go_wp2_with fail
            go_roundw
            case rel => exact ⟨_, _, k + 1, m, repsS s9, ts ++ s9.out, sv, rfl, rfl, by omega, by have := HKM.out; omega, rfl, by go_num, HXZ, Lib.hid ⟨HJ3.out.1, HJ3.out.2.1, rfl, HJ3.out.2.2, HS9.out, HIV.out.2.2.2.2.2⟩⟩
            case measure => simp [intOf]; omega
          · have hwb : (way == 1) = false := beq_eq_false_iff_ne.2 hw1
            clear hw1
            have HT := Lib.hid (HXR.out.doc (fun S vq vo b bd al tx hm => Mv.got_any _ hm (by rw [HIV.out.2.2.1]; exact Nat.zero_le _)))
            clear HXR h2
            go_wp2_with (first | ((with_reducible refine HT.out.mono ?_); rintro e w5 ⟨rfl, h5⟩; have H5 := Lib.hid h5; clear h5))
            have HX := Lib.hid (H5.out)
            have HJ : Hid (JI x0 ts sv (Mu.gotS s) ∧ outM (Mu.gotS s) ∧ okS 3001 1 (Mu.gotS s)) := Lib.hid ⟨ji_got HIV.out.1, om_got HOM.out, Mu.ok_got HIV.out.2.1⟩
            have HS9 : Hid (∀ x ∈ sv, x.size ≤ maxLen) := Lib.hid (HIV.out.2.2.2.2.1)
            have HL9 := Lib.hid HJ.out.1.len
            have HN9 := Lib.hid (HX.out.doc (fun S vq vo b bd al tx hm => Mv.next_any (n := 3001) (m := 1) _ hm HJ.out.2.2 (by have := HL9.out.2.1; have := HLL.out; omega)))
            have HJ2 : Hid (JI x0 ts sv (Mu.nextV (Mu.gotS s)).2 ∧ outM (Mu.nextV (Mu.gotS s)).2 ∧ okS 3001 3002 (Mu.nextV (Mu.gotS s)).2) := Lib.hid ⟨ji_next HJ.out.1, om_next HJ.out.2.1, (Mu.ok_next HJ.out.2.2).mono (Nat.le_refl _) (by decide)⟩
            clear HX
            obtain ⟨⟨⟨A, TX⟩, s9⟩, hs9⟩ : ∃ q, Mu.nextV (Mu.gotS s) = q := ⟨_, rfl⟩
            rw [hs9] at HN9 HJ2
            simp only [] at HN9 HJ2
            clear hs9 HJ
            go_wp2_with (first | ((with_reducible refine HN9.out.mono ?_); rintro e wn ⟨rfl, hxn⟩; have HXN := Lib.hid hxn; clear hxn) | ((with_reducible refine HXN.out.replies.mono ?_); rintro e wp ⟨vp, rfl, hvp, hxp⟩; have HVP := Lib.hid hvp; have HXP := Lib.hid hxp; clear hxp; obtain ⟨ap, cp, rfl, -⟩ := hvp) | (at_builtin; refine appQue repC_len Try.underlying30 rfl (by decide) Mu.info_rep rfl (.tmp 103) (.tmp 105) rfl rfl HXP.out.own.1 (.slice ap s9.out.length cp) rfl HVP.out (fun x _ => repC_one x) (by have := HJ2.out.1.len.1; have := HLL.out; unfold maxLen; omega) (by have := HJ2.out.1.len.1; have := HLL.out; omega) HXP.out.bel.2 ?_; intro vq wq ownq grq obq; have HXQ := Lib.hid (HXP.out.growT ownq grq obq); clear ownq grq obq))
            have HJ3 : Hid (JI x0 (ts ++ s9.out) sv (repsS s9) ∧ okS 3001 0 (repsS s9) ∧ ∀ r ∈ ts ++ s9.out, repM r) := Lib.hid ⟨HJ2.out.1.flush, Mu.ok_reps HJ2.out.2.2, fun r hr => by rcases List.mem_append.1 hr with g | g; exact HTM.out r g; exact HJ2.out.2.1 r g⟩
            have HFT := Lib.hid (HJ3.out.1.fits rfl)
            refine (Jf.fits_any x0 (sv) (ts ++ s9.out) _ _ _ _ (HW0.out _ HXQ.out.bel.1) ⟨OwnQ.sl (C := Mu.txC) Mu.txC_len HXQ.out.own.2, HS9.out⟩ ⟨HXQ.out.own.1.sl repC_len, fun r hr => repM_wf (HJ3.out.2.2 r hr)⟩).mono ?_
            rintro e wz ⟨zi, ze, rfl, hpz, hbz⟩
            rw [HFT.out] at hpz
            simp only [Prod.mk.injEq] at hpz
            obtain ⟨rfl, rfl⟩ := hpz
            have HXZ := Lib.hid (HXQ.out.below hbz)
            clear hbz
            go_wp2_with fail
            go_roundw
            case rel => exact ⟨_, _, k + 1, m, repsS s9, ts ++ s9.out, sv, rfl, rfl, by omega, by have := HKM.out; omega, rfl, by go_num, HXZ, Lib.hid ⟨HJ3.out.1, HJ3.out.2.1, rfl, HJ3.out.2.2, HS9.out, HIV.out.2.2.2.2.2⟩⟩
            case measure => simp [intOf]; omega
        by_cases h5 : s.st = 5
        · replace cst : wr.cell? ⟨gx, 3, none⟩ = some (.int .i64 4) := by rw [stx_ne h5 (by decide)] at cst; exact cst
          have HH5 := Lib.hid h5
          by_cases hw2 : way = 2
          · subst hw2
            have HT := Lib.hid (HXR.out.doc (fun S vq vo b bd al tx hm => Mv.lost_any _ hm (by rw [HIV.out.2.2.1]; exact Nat.zero_le _)))
            clear HXR h2 h5
            go_wp2_with (first | ((with_reducible refine HT.out.mono ?_); rintro e w5 ⟨rfl, h5⟩; have H5 := Lib.hid h5; clear h5))
            have HX := Lib.hid (H5.out)
            have HJ : Hid (JI x0 ts sv (Mu.lostS s) ∧ outM (Mu.lostS s) ∧ okS 3001 1 (Mu.lostS s)) := Lib.hid ⟨ji_lost HIV.out.1, om_lost HOM.out, Mu.ok_lost HIV.out.2.1⟩
            have HS9 : Hid (∀ x ∈ sv, x.size ≤ maxLen) := Lib.hid (HIV.out.2.2.2.2.1)
            have HL9 := Lib.hid HJ.out.1.len
            have HN9 := Lib.hid (HX.out.doc (fun S vq vo b bd al tx hm => Mv.next_any (n := 3001) (m := 1) _ hm HJ.out.2.2 (by have := HL9.out.2.1; have := HLL.out; omega)))
            have HJ2 : Hid (JI x0 ts sv (Mu.nextV (Mu.lostS s)).2 ∧ outM (Mu.nextV (Mu.lostS s)).2 ∧ okS 3001 3002 (Mu.nextV (Mu.lostS s)).2) := Lib.hid ⟨ji_next HJ.out.1, om_next HJ.out.2.1, (Mu.ok_next HJ.out.2.2).mono (Nat.le_refl _) (by decide)⟩
            clear HX
            obtain ⟨⟨⟨A, TX⟩, s9⟩, hs9⟩ : ∃ q, Mu.nextV (Mu.lostS s) = q := ⟨_, rfl⟩
            rw [hs9] at HN9 HJ2
            simp only [] at HN9 HJ2
            clear hs9 HJ
            go_wp2_with (first | ((with_reducible refine HN9.out.mono ?_); rintro e wn ⟨rfl, hxn⟩; have HXN := Lib.hid hxn; clear hxn) | ((with_reducible refine HXN.out.replies.mono ?_); rintro e wp ⟨vp, rfl, hvp, hxp⟩; have HVP := Lib.hid hvp; have HXP := Lib.hid hxp; clear hxp; obtain ⟨ap, cp, rfl, -⟩ := hvp) | (at_builtin; refine appQue repC_len Try.underlying30 rfl (by decide) Mu.info_rep rfl (.tmp 103) (.tmp 105) rfl rfl HXP.out.own.1 (.slice ap s9.out.length cp) rfl HVP.out (fun x _ => repC_one x) (by have := HJ2.out.1.len.1; have := HLL.out; unfold maxLen; omega) (by have := HJ2.out.1.len.1; have := HLL.out; omega) HXP.out.bel.2 ?_; intro vq wq ownq grq obq; have HXQ := Lib.hid (HXP.out.growT ownq grq obq); clear ownq grq obq))
            have HJ3 : Hid (JI x0 (ts ++ s9.out) sv (repsS s9) ∧ okS 3001 0 (repsS s9) ∧ ∀ r ∈ ts ++ s9.out, repM r) := Lib.hid ⟨HJ2.out.1.flush, Mu.ok_reps HJ2.out.2.2, fun r hr => by rcases List.mem_append.1 hr with g | g; exact HTM.out r g; exact HJ2.out.2.1 r g⟩
            have HFT := Lib.hid (HJ3.out.1.fits rfl)
            refine (Jf.fits_any x0 (sv) (ts ++ s9.out) _ _ _ _ (HW0.out _ HXQ.out.bel.1) ⟨OwnQ.sl (C := Mu.txC) Mu.txC_len HXQ.out.own.2, HS9.out⟩ ⟨HXQ.out.own.1.sl repC_len, fun r hr => repM_wf (HJ3.out.2.2 r hr)⟩).mono ?_
            rintro e wz ⟨zi, ze, rfl, hpz, hbz⟩
            rw [HFT.out] at hpz
            simp only [Prod.mk.injEq] at hpz
            obtain ⟨rfl, rfl⟩ := hpz
            have HXZ := Lib.hid (HXQ.out.below hbz)
            clear hbz
            go_wp2_with fail
            go_roundw
            case rel => exact ⟨_, _, k + 1, m, repsS s9, ts ++ s9.out, sv, rfl, rfl, by omega, by have := HKM.out; omega, rfl, by go_num, HXZ, Lib.hid ⟨HJ3.out.1, HJ3.out.2.1, rfl, HJ3.out.2.2, HS9.out, HIV.out.2.2.2.2.2⟩⟩
            case measure => simp [intOf]; omega
          · have hwb : (way == 2) = false := beq_eq_false_iff_ne.2 hw2
            clear hw2
            have hwm : IntKind.i64.wrap ((m : Int) + 1) = (m : Int) + 1 := by rw [IntKind.wrap_i64]; have := HKM.out; omega
            clear h2 h5
            rcases Nat.eq_zero_or_pos x2.length with hz | hz
            · have hzi : ¬ (0 : Int) < (x2.length : Int) := by omega
              clear hz
              have HT := Lib.hid (HXR.out.doc (fun S vq vo b bd al tx hm => xans5 ⟨#[]⟩ _ S hm HH5.out (by rw [HIV.out.2.2.1]; exact Nat.zero_le _)))
              clear HXR
              go_upto_region 29 with (first | ((with_reducible refine HT.out.mono ?_); rintro e w5 ⟨rfl, h5⟩; have H5 := Lib.hid h5; clear h5))
              obtain ⟨W6, hW6⟩ : ∃ q, w5.alloc (.cells #[.string ⟨#[]⟩] Mu.TN) = q := ⟨_, rfl⟩
              have HA6 := Lib.hid (show JsX gx (Mu.ansS s ⟨#[]⟩) ts sv vT vS wb.heap.size wb W6 by rw [← hW6]; exact H5.out.below ((Below.refl _ _).alloc (Nat.le_refl _) _))
              have HN6 : Hid (SlR 1 Mu.txC W6 (.slice (some ⟨w5.heap.size, 0, none⟩) 1 1) [⟨#[]⟩]) := Lib.hid (by rw [← hW6]; exact SlR.one Mu.txC_len w5 _ rfl _ ⟨#[]⟩ rfl)
              clear H5
              go_upto_region 33 with (first | rw [hW6] | (at_builtin; refine appQue Mu.txC_len Try.underlying59 rfl (by decide) Mu.info_tx rfl (.tmp 91) (.tmp 93) rfl rfl HA6.out.own.2 (.slice (some ⟨w5.heap.size, 0, none⟩) 1 1) rfl HN6.out (fun x _ => Mu.txC_one x) (by have := HIV.out.1.len.2.2; have := HLL.out; simp only [List.length_singleton]; unfold maxLen; omega) (by have := HIV.out.1.len.2.2; have := HLL.out; simp only [List.length_singleton]; omega) HA6.out.bel.2 ?_; intro v7 w7 own7 gr7 ob7; have HA7 := Lib.hid (HA6.out.growS own7 gr7 ob7); clear own7 gr7 ob7))
              have HX := Lib.hid (HA7.out)
              have HJ : Hid (JI x0 ts (sv ++ [⟨#[]⟩]) (Mu.ansS s ⟨#[]⟩) ∧ outM (Mu.ansS s ⟨#[]⟩) ∧ okS 3001 1 (Mu.ansS s ⟨#[]⟩)) := Lib.hid ⟨ji_ans HIV.out.1 HH5.out ⟨#[]⟩, om_ans HOM.out (Nat.zero_le _), Mu.ok_ans HIV.out.2.1 ⟨#[]⟩⟩
              have HS9 : Hid (∀ x ∈ (sv ++ [⟨#[]⟩]), x.size ≤ maxLen) := Lib.hid (fun x hx => by rcases List.mem_append.1 hx with g | g; exact HIV.out.2.2.2.2.1 x g; simp only [List.mem_singleton] at g; subst g; exact Nat.zero_le _)
              have HL9 := Lib.hid HJ.out.1.len
              have HN9 := Lib.hid (HX.out.doc (fun S vq vo b bd al tx hm => Mv.next_any (n := 3001) (m := 1) _ hm HJ.out.2.2 (by have := HL9.out.2.1; have := HLL.out; omega)))
              have HJ2 : Hid (JI x0 ts (sv ++ [⟨#[]⟩]) (Mu.nextV (Mu.ansS s ⟨#[]⟩)).2 ∧ outM (Mu.nextV (Mu.ansS s ⟨#[]⟩)).2 ∧ okS 3001 3002 (Mu.nextV (Mu.ansS s ⟨#[]⟩)).2) := Lib.hid ⟨ji_next HJ.out.1, om_next HJ.out.2.1, (Mu.ok_next HJ.out.2.2).mono (Nat.le_refl _) (by decide)⟩
              clear HX
              obtain ⟨⟨⟨A, TX⟩, s9⟩, hs9⟩ : ∃ q, Mu.nextV (Mu.ansS s ⟨#[]⟩) = q := ⟨_, rfl⟩
              rw [hs9] at HN9 HJ2
              simp only [] at HN9 HJ2
              clear hs9 HJ
              go_wp2_with (first | ((with_reducible refine HN9.out.mono ?_); rintro e wn ⟨rfl, hxn⟩; have HXN := Lib.hid hxn; clear hxn) | ((with_reducible refine HXN.out.replies.mono ?_); rintro e wp ⟨vp, rfl, hvp, hxp⟩; have HVP := Lib.hid hvp; have HXP := Lib.hid hxp; clear hxp; obtain ⟨ap, cp, rfl, -⟩ := hvp) | (at_builtin; refine appQue repC_len Try.underlying30 rfl (by decide) Mu.info_rep rfl (.tmp 103) (.tmp 105) rfl rfl HXP.out.own.1 (.slice ap s9.out.length cp) rfl HVP.out (fun x _ => repC_one x) (by have := HJ2.out.1.len.1; have := HLL.out; unfold maxLen; omega) (by have := HJ2.out.1.len.1; have := HLL.out; omega) HXP.out.bel.2 ?_; intro vq wq ownq grq obq; have HXQ := Lib.hid (HXP.out.growT ownq grq obq); clear ownq grq obq))
              have HJ3 : Hid (JI x0 (ts ++ s9.out) (sv ++ [⟨#[]⟩]) (repsS s9) ∧ okS 3001 0 (repsS s9) ∧ ∀ r ∈ ts ++ s9.out, repM r) := Lib.hid ⟨HJ2.out.1.flush, Mu.ok_reps HJ2.out.2.2, fun r hr => by rcases List.mem_append.1 hr with g | g; exact HTM.out r g; exact HJ2.out.2.1 r g⟩
              have HFT := Lib.hid (HJ3.out.1.fits rfl)
              refine (Jf.fits_any x0 ((sv ++ [⟨#[]⟩])) (ts ++ s9.out) _ _ _ _ (HW0.out _ HXQ.out.bel.1) ⟨OwnQ.sl (C := Mu.txC) Mu.txC_len HXQ.out.own.2, HS9.out⟩ ⟨HXQ.out.own.1.sl repC_len, fun r hr => repM_wf (HJ3.out.2.2 r hr)⟩).mono ?_
              rintro e wz ⟨zi, ze, rfl, hpz, hbz⟩
              rw [HFT.out] at hpz
              simp only [Prod.mk.injEq] at hpz
              obtain ⟨rfl, rfl⟩ := hpz
              have HXZ := Lib.hid (HXQ.out.below hbz)
              clear hbz
              go_wp2_with fail
              go_roundw
              case rel => exact ⟨_, _, k + 1, (m + 1), repsS s9, ts ++ s9.out, (sv ++ [⟨#[]⟩]), rfl, rfl, by omega, by have := HKM.out; omega, rfl, by go_num, HXZ, Lib.hid ⟨HJ3.out.1, HJ3.out.2.1, rfl, HJ3.out.2.2, HS9.out, trivial⟩⟩
              case measure => simp [intOf]; omega
            · have hzi : (0 : Int) < (x2.length : Int) := by omega
              have hix : m % x2.length < x2.length := Nat.mod_lt _ hz
              obtain ⟨ix, hixe⟩ : ∃ q, m % x2.length = q := ⟨_, rfl⟩
              rw [hixe] at hix
              have hrm : (m : Int).tmod (x2.length : Int) = (ix : Int) := by rw [← hixe]; exact (Int.ofNat_tmod m x2.length).symm
              have hixi : (ix : Int) < (x2.length : Int) := by omega
              have hm0 : 0 ≤ (m : Int) := by omega
              obtain ⟨t, ht⟩ : ∃ x, x2[ix]? = some x := ⟨_, List.getElem?_eq_getElem hix⟩
              obtain ⟨b, off, rfl, y2⟩ := str_at (HW2.out _ HXR.out.bel.1) ht
              have HTZ : Hid (t.size ≤ maxLen) := Lib.hid (HX2.out t (List.mem_of_getElem? ht))
              clear ht hixe hz
              have HT := Lib.hid (HXR.out.doc (fun S vq vo b bd al tx hm => xans5 t _ S hm HH5.out (by rw [HIV.out.2.2.1]; exact Nat.zero_le _)))
              clear HXR
              go_upto_region 29 with (first | ((with_reducible refine HT.out.mono ?_); rintro e w5 ⟨rfl, h5⟩; have H5 := Lib.hid h5; clear h5))
              obtain ⟨W6, hW6⟩ : ∃ q, w5.alloc (.cells #[.string t] Mu.TN) = q := ⟨_, rfl⟩
              have HA6 := Lib.hid (show JsX gx (Mu.ansS s t) ts sv vT vS wb.heap.size wb W6 by rw [← hW6]; exact H5.out.below ((Below.refl _ _).alloc (Nat.le_refl _) _))
              have HN6 : Hid (SlR 1 Mu.txC W6 (.slice (some ⟨w5.heap.size, 0, none⟩) 1 1) [t]) := Lib.hid (by rw [← hW6]; exact SlR.one Mu.txC_len w5 _ rfl _ t rfl)
              clear H5
              go_upto_region 33 with (first | rw [hW6] | (at_builtin; refine appQue Mu.txC_len Try.underlying59 rfl (by decide) Mu.info_tx rfl (.tmp 91) (.tmp 93) rfl rfl HA6.out.own.2 (.slice (some ⟨w5.heap.size, 0, none⟩) 1 1) rfl HN6.out (fun x _ => Mu.txC_one x) (by have := HIV.out.1.len.2.2; have := HLL.out; simp only [List.length_singleton]; unfold maxLen; omega) (by have := HIV.out.1.len.2.2; have := HLL.out; simp only [List.length_singleton]; omega) HA6.out.bel.2 ?_; intro v7 w7 own7 gr7 ob7; have HA7 := Lib.hid (HA6.out.growS own7 gr7 ob7); clear own7 gr7 ob7))
              have HX := Lib.hid (HA7.out)
              have HJ : Hid (JI x0 ts (sv ++ [t]) (Mu.ansS s t) ∧ outM (Mu.ansS s t) ∧ okS 3001 1 (Mu.ansS s t)) := Lib.hid ⟨ji_ans HIV.out.1 HH5.out t, om_ans HOM.out (HTZ.out), Mu.ok_ans HIV.out.2.1 t⟩
              have HS9 : Hid (∀ x ∈ (sv ++ [t]), x.size ≤ maxLen) := Lib.hid (fun x hx => by rcases List.mem_append.1 hx with g | g; exact HIV.out.2.2.2.2.1 x g; simp only [List.mem_singleton] at g; subst g; exact HTZ.out)
              have HL9 := Lib.hid HJ.out.1.len
              have HN9 := Lib.hid (HX.out.doc (fun S vq vo b bd al tx hm => Mv.next_any (n := 3001) (m := 1) _ hm HJ.out.2.2 (by have := HL9.out.2.1; have := HLL.out; omega)))
              have HJ2 : Hid (JI x0 ts (sv ++ [t]) (Mu.nextV (Mu.ansS s t)).2 ∧ outM (Mu.nextV (Mu.ansS s t)).2 ∧ okS 3001 3002 (Mu.nextV (Mu.ansS s t)).2) := Lib.hid ⟨ji_next HJ.out.1, om_next HJ.out.2.1, (Mu.ok_next HJ.out.2.2).mono (Nat.le_refl _) (by decide)⟩
              clear HX
              obtain ⟨⟨⟨A, TX⟩, s9⟩, hs9⟩ : ∃ q, Mu.nextV (Mu.ansS s t) = q := ⟨_, rfl⟩
              rw [hs9] at HN9 HJ2
              simp only [] at HN9 HJ2
              clear hs9 HJ
              go_wp2_with (first | ((with_reducible refine HN9.out.mono ?_); rintro e wn ⟨rfl, hxn⟩; have HXN := Lib.hid hxn; clear hxn) | ((with_reducible refine HXN.out.replies.mono ?_); rintro e wp ⟨vp, rfl, hvp, hxp⟩; have HVP := Lib.hid hvp; have HXP := Lib.hid hxp; clear hxp; obtain ⟨ap, cp, rfl, -⟩ := hvp) | (at_builtin; refine appQue repC_len Try.underlying30 rfl (by decide) Mu.info_rep rfl (.tmp 103) (.tmp 105) rfl rfl HXP.out.own.1 (.slice ap s9.out.length cp) rfl HVP.out (fun x _ => repC_one x) (by have := HJ2.out.1.len.1; have := HLL.out; unfold maxLen; omega) (by have := HJ2.out.1.len.1; have := HLL.out; omega) HXP.out.bel.2 ?_; intro vq wq ownq grq obq; have HXQ := Lib.hid (HXP.out.growT ownq grq obq); clear ownq grq obq))
              have HJ3 : Hid (JI x0 (ts ++ s9.out) (sv ++ [t]) (repsS s9) ∧ okS 3001 0 (repsS s9) ∧ ∀ r ∈ ts ++ s9.out, repM r) := Lib.hid ⟨HJ2.out.1.flush, Mu.ok_reps HJ2.out.2.2, fun r hr => by rcases List.mem_append.1 hr with g | g; exact HTM.out r g; exact HJ2.out.2.1 r g⟩
              have HFT := Lib.hid (HJ3.out.1.fits rfl)
              refine (Jf.fits_any x0 ((sv ++ [t])) (ts ++ s9.out) _ _ _ _ (HW0.out _ HXQ.out.bel.1) ⟨OwnQ.sl (C := Mu.txC) Mu.txC_len HXQ.out.own.2, HS9.out⟩ ⟨HXQ.out.own.1.sl repC_len, fun r hr => repM_wf (HJ3.out.2.2 r hr)⟩).mono ?_
              rintro e wz ⟨zi, ze, rfl, hpz, hbz⟩
              rw [HFT.out] at hpz
              simp only [Prod.mk.injEq] at hpz
              obtain ⟨rfl, rfl⟩ := hpz
              have HXZ := Lib.hid (HXQ.out.below hbz)
              clear hbz
              go_wp2_with fail
              go_roundw
              case rel => exact ⟨_, _, k + 1, (m + 1), repsS s9, ts ++ s9.out, (sv ++ [t]), rfl, rfl, by omega, by have := HKM.out; omega, rfl, by go_num, HXZ, Lib.hid ⟨HJ3.out.1, HJ3.out.2.1, rfl, HJ3.out.2.2, HS9.out, trivial⟩⟩
              case measure => simp [intOf]; omega
        by_cases h3 : s.st = 3
        · replace cst : wr.cell? ⟨gx, 3, none⟩ = some (.int .i64 2) := by rw [stx_ne h3 (by decide)] at cst; exact cst
          have HH3 := Lib.hid h3
          by_cases hw3 : way = 3
          · subst hw3
            have HT := Lib.hid (HXR.out.doc (fun S vq vo b bd al tx hm => Mv.lost_any _ hm (by rw [HIV.out.2.2.1]; exact Nat.zero_le _)))
            clear HXR h2 h5 h3
            go_wp2_with (first | ((with_reducible refine HT.out.mono ?_); rintro e w5 ⟨rfl, h5⟩; have H5 := Lib.hid h5; clear h5))
            have HX := Lib.hid (H5.out)
            have HJ : Hid (JI x0 ts sv (Mu.lostS s) ∧ outM (Mu.lostS s) ∧ okS 3001 1 (Mu.lostS s)) := Lib.hid ⟨ji_lost HIV.out.1, om_lost HOM.out, Mu.ok_lost HIV.out.2.1⟩
            have HS9 : Hid (∀ x ∈ sv, x.size ≤ maxLen) := Lib.hid (HIV.out.2.2.2.2.1)
            have HL9 := Lib.hid HJ.out.1.len
            have HN9 := Lib.hid (HX.out.doc (fun S vq vo b bd al tx hm => Mv.next_any (n := 3001) (m := 1) _ hm HJ.out.2.2 (by have := HL9.out.2.1; have := HLL.out; omega)))
            have HJ2 : Hid (JI x0 ts sv (Mu.nextV (Mu.lostS s)).2 ∧ outM (Mu.nextV (Mu.lostS s)).2 ∧ okS 3001 3002 (Mu.nextV (Mu.lostS s)).2) := Lib.hid ⟨ji_next HJ.out.1, om_next HJ.out.2.1, (Mu.ok_next HJ.out.2.2).mono (Nat.le_refl _) (by decide)⟩
            clear HX
            obtain ⟨⟨⟨A, TX⟩, s9⟩, hs9⟩ : ∃ q, Mu.nextV (Mu.lostS s) = q := ⟨_, rfl⟩
            rw [hs9] at HN9 HJ2
            simp only [] at HN9 HJ2
            clear hs9 HJ
            go_wp2_with (first | ((with_reducible refine HN9.out.mono ?_); rintro e wn ⟨rfl, hxn⟩; have HXN := Lib.hid hxn; clear hxn) | ((with_reducible refine HXN.out.replies.mono ?_); rintro e wp ⟨vp, rfl, hvp, hxp⟩; have HVP := Lib.hid hvp; have HXP := Lib.hid hxp; clear hxp; obtain ⟨ap, cp, rfl, -⟩ := hvp) | (at_builtin; refine appQue repC_len Try.underlying30 rfl (by decide) Mu.info_rep rfl (.tmp 103) (.tmp 105) rfl rfl HXP.out.own.1 (.slice ap s9.out.length cp) rfl HVP.out (fun x _ => repC_one x) (by have := HJ2.out.1.len.1; have := HLL.out; unfold maxLen; omega) (by have := HJ2.out.1.len.1; have := HLL.out; omega) HXP.out.bel.2 ?_; intro vq wq ownq grq obq; have HXQ := Lib.hid (HXP.out.growT ownq grq obq); clear ownq grq obq))
            have HJ3 : Hid (JI x0 (ts ++ s9.out) sv (repsS s9) ∧ okS 3001 0 (repsS s9) ∧ ∀ r ∈ ts ++ s9.out, repM r) := Lib.hid ⟨HJ2.out.1.flush, Mu.ok_reps HJ2.out.2.2, fun r hr => by rcases List.mem_append.1 hr with g | g; exact HTM.out r g; exact HJ2.out.2.1 r g⟩
            have HFT := Lib.hid (HJ3.out.1.fits rfl)
            refine (Jf.fits_any x0 (sv) (ts ++ s9.out) _ _ _ _ (HW0.out _ HXQ.out.bel.1) ⟨OwnQ.sl (C := Mu.txC) Mu.txC_len HXQ.out.own.2, HS9.out⟩ ⟨HXQ.out.own.1.sl repC_len, fun r hr => repM_wf (HJ3.out.2.2 r hr)⟩).mono ?_
            rintro e wz ⟨zi, ze, rfl, hpz, hbz⟩
            rw [HFT.out] at hpz
            simp only [Prod.mk.injEq] at hpz
            obtain ⟨rfl, rfl⟩ := hpz
            have HXZ := Lib.hid (HXQ.out.below hbz)
            clear hbz
            go_wp2_with fail
            go_roundw
            case rel => exact ⟨_, _, k + 1, m, repsS s9, ts ++ s9.out, sv, rfl, rfl, by omega, by have := HKM.out; omega, rfl, by go_num, HXZ, Lib.hid ⟨HJ3.out.1, HJ3.out.2.1, rfl, HJ3.out.2.2, HS9.out, HIV.out.2.2.2.2.2⟩⟩
            case measure => simp [intOf]; omega
          · have hwb : (way == 3) = false := beq_eq_false_iff_ne.2 hw3
            clear hw3
            clear h2 h5 h3
            go_upto_region 33 with fail
            have HX := Lib.hid (HXR.out)
            have HJ : Hid (JI x0 ts sv (s) ∧ outM (s) ∧ okS 3001 1 (s)) := Lib.hid ⟨HIV.out.1, HOM.out, HIV.out.2.1.mono (Nat.le_refl _) (Nat.zero_le _)⟩
            have HS9 : Hid (∀ x ∈ sv, x.size ≤ maxLen) := Lib.hid (HIV.out.2.2.2.2.1)
            have HL9 := Lib.hid HJ.out.1.len
            have HN9 := Lib.hid (HX.out.doc (fun S vq vo b bd al tx hm => Mv.next_any (n := 3001) (m := 1) _ hm HJ.out.2.2 (by have := HL9.out.2.1; have := HLL.out; omega)))
            have HJ2 : Hid (JI x0 ts sv (Mu.nextV (s)).2 ∧ outM (Mu.nextV (s)).2 ∧ okS 3001 3002 (Mu.nextV (s)).2) := Lib.hid ⟨ji_next HJ.out.1, om_next HJ.out.2.1, (Mu.ok_next HJ.out.2.2).mono (Nat.le_refl _) (by decide)⟩
            clear HX
            obtain ⟨⟨⟨A, TX⟩, s9⟩, hs9⟩ : ∃ q, Mu.nextV (s) = q := ⟨_, rfl⟩
            rw [hs9] at HN9 HJ2
            simp only [] at HN9 HJ2
            clear hs9 HJ
            go_wp2_with (first | ((with_reducible refine HN9.out.mono ?_); rintro e wn ⟨rfl, hxn⟩; have HXN := Lib.hid hxn; clear hxn) | ((with_reducible refine HXN.out.replies.mono ?_); rintro e wp ⟨vp, rfl, hvp, hxp⟩; have HVP := Lib.hid hvp; have HXP := Lib.hid hxp; clear hxp; obtain ⟨ap, cp, rfl, -⟩ := hvp) | (at_builtin; refine appQue repC_len Try.underlying30 rfl (by decide) Mu.info_rep rfl (.tmp 103) (.tmp 105) rfl rfl HXP.out.own.1 (.slice ap s9.out.length cp) rfl HVP.out (fun x _ => repC_one x) (by have := HJ2.out.1.len.1; have := HLL.out; unfold maxLen; omega) (by have := HJ2.out.1.len.1; have := HLL.out; omega) HXP.out.bel.2 ?_; intro vq wq ownq grq obq; have HXQ := Lib.hid (HXP.out.growT ownq grq obq); clear ownq grq obq))
            have HJ3 : Hid (JI x0 (ts ++ s9.out) sv (repsS s9) ∧ okS 3001 0 (repsS s9) ∧ ∀ r ∈ ts ++ s9.out, repM r) := Lib.hid ⟨HJ2.out.1.flush, Mu.ok_reps HJ2.out.2.2, fun r hr => by rcases List.mem_append.1 hr with g | g; exact HTM.out r g; exact HJ2.out.2.1 r g⟩
            have HFT := Lib.hid (HJ3.out.1.fits rfl)
            refine (Jf.fits_any x0 (sv) (ts ++ s9.out) _ _ _ _ (HW0.out _ HXQ.out.bel.1) ⟨OwnQ.sl (C := Mu.txC) Mu.txC_len HXQ.out.own.2, HS9.out⟩ ⟨HXQ.out.own.1.sl repC_len, fun r hr => repM_wf (HJ3.out.2.2 r hr)⟩).mono ?_
            rintro e wz ⟨zi, ze, rfl, hpz, hbz⟩
            rw [HFT.out] at hpz
            simp only [Prod.mk.injEq] at hpz
            obtain ⟨rfl, rfl⟩ := hpz
            have HXZ := Lib.hid (HXQ.out.below hbz)
            clear hbz
            go_wp2_with fail
            go_roundw
            case rel => exact ⟨_, _, k + 1, m, repsS s9, ts ++ s9.out, sv, rfl, rfl, by omega, by have := HKM.out; omega, rfl, by go_num, HXZ, Lib.hid ⟨HJ3.out.1, HJ3.out.2.1, rfl, HJ3.out.2.2, HS9.out, HIV.out.2.2.2.2.2⟩⟩
            case measure => simp [intOf]; omega
        have hq1 : (Mv.stX s.st == 1) = false := beq_eq_false_iff_ne.2 (by unfold Mv.stX; split <;> omega)
        have hq4 : (Mv.stX s.st == 4) = false := beq_eq_false_iff_ne.2 (by unfold Mv.stX; split <;> omega)
        have hq2 : (Mv.stX s.st == 2) = false := beq_eq_false_iff_ne.2 (by unfold Mv.stX; split <;> omega)
        generalize Mv.stX s.st = zst at *
        clear h2 h5 h3
        go_upto_region 33 with fail
        have HX := Lib.hid (HXR.out)
        have HJ : Hid (JI x0 ts sv (s) ∧ outM (s) ∧ okS 3001 1 (s)) := Lib.hid ⟨HIV.out.1, HOM.out, HIV.out.2.1.mono (Nat.le_refl _) (Nat.zero_le _)⟩
        have HS9 : Hid (∀ x ∈ sv, x.size ≤ maxLen) := Lib.hid (HIV.out.2.2.2.2.1)
        have HL9 := Lib.hid HJ.out.1.len
        have HN9 := Lib.hid (HX.out.doc (fun S vq vo b bd al tx hm => Mv.next_any (n := 3001) (m := 1) _ hm HJ.out.2.2 (by have := HL9.out.2.1; have := HLL.out; omega)))
        have HJ2 : Hid (JI x0 ts sv (Mu.nextV (s)).2 ∧ outM (Mu.nextV (s)).2 ∧ okS 3001 3002 (Mu.nextV (s)).2) := Lib.hid ⟨ji_next HJ.out.1, om_next HJ.out.2.1, (Mu.ok_next HJ.out.2.2).mono (Nat.le_refl _) (by decide)⟩
        clear HX
        obtain ⟨⟨⟨A, TX⟩, s9⟩, hs9⟩ : ∃ q, Mu.nextV (s) = q := ⟨_, rfl⟩
        rw [hs9] at HN9 HJ2
        simp only [] at HN9 HJ2
        clear hs9 HJ
        go_wp2_with (first | ((with_reducible refine HN9.out.mono ?_); rintro e wn ⟨rfl, hxn⟩; have HXN := Lib.hid hxn; clear hxn) | ((with_reducible refine HXN.out.replies.mono ?_); rintro e wp ⟨vp, rfl, hvp, hxp⟩; have HVP := Lib.hid hvp; have HXP := Lib.hid hxp; clear hxp; obtain ⟨ap, cp, rfl, -⟩ := hvp) | (at_builtin; refine appQue repC_len Try.underlying30 rfl (by decide) Mu.info_rep rfl (.tmp 103) (.tmp 105) rfl rfl HXP.out.own.1 (.slice ap s9.out.length cp) rfl HVP.out (fun x _ => repC_one x) (by have := HJ2.out.1.len.1; have := HLL.out; unfold maxLen; omega) (by have := HJ2.out.1.len.1; have := HLL.out; omega) HXP.out.bel.2 ?_; intro vq wq ownq grq obq; have HXQ := Lib.hid (HXP.out.growT ownq grq obq); clear ownq grq obq))
        have HJ3 : Hid (JI x0 (ts ++ s9.out) sv (repsS s9) ∧ okS 3001 0 (repsS s9) ∧ ∀ r ∈ ts ++ s9.out, repM r) := Lib.hid ⟨HJ2.out.1.flush, Mu.ok_reps HJ2.out.2.2, fun r hr => by rcases List.mem_append.1 hr with g | g; exact HTM.out r g; exact HJ2.out.2.1 r g⟩
        have HFT := Lib.hid (HJ3.out.1.fits rfl)
        refine (Jf.fits_any x0 (sv) (ts ++ s9.out) _ _ _ _ (HW0.out _ HXQ.out.bel.1) ⟨OwnQ.sl (C := Mu.txC) Mu.txC_len HXQ.out.own.2, HS9.out⟩ ⟨HXQ.out.own.1.sl repC_len, fun r hr => repM_wf (HJ3.out.2.2 r hr)⟩).mono ?_
        rintro e wz ⟨zi, ze, rfl, hpz, hbz⟩
        rw [HFT.out] at hpz
        simp only [Prod.mk.injEq] at hpz
        obtain ⟨rfl, rfl⟩ := hpz
        have HXZ := Lib.hid (HXQ.out.below hbz)
        clear hbz
        go_wp2_with fail
        go_roundw
        case rel => exact ⟨_, _, k + 1, m, repsS s9, ts ++ s9.out, sv, rfl, rfl, by omega, by have := HKM.out; omega, rfl, by go_num, HXZ, Lib.hid ⟨HJ3.out.1, HJ3.out.2.1, rfl, HJ3.out.2.2, HS9.out, HIV.out.2.2.2.2.2⟩⟩
        case measure => simp [intOf]; omega
    · obtain rfl : k = 300 := by omega
      have HEND : Hid (Below w.heap.size w wr) := Lib.hid (HB2.out.trans (HXR.out.bel.1.mono HB2.out.size))
      clear HXR HIV HOM HTM
      go_wp2
      go_ret
      exact ⟨rfl, HEND.out⟩

set_option maxRecDepth 100000 in
theorem contract (H : Type) (enc : TypeId × Value → H) (W : World) (base : Nat) (args : Array Value) (ds gs : List (DataW H)) (before : List MemPlace)
    (hval0 : ∀ (j : Nat) t v, Try.f6.params[j]? = some t → args[j]? = some v → Value.okWide Try.prog W .any base t v)
    (hW : DataW.Whole enc Try.prog Try.f6.params.toList Rows.judgeSessionSpec.vars false W args.toList ds gs before)
    (hsz0 : (DataW.weightsEach Try.prog (Try.f6.params.toList ++ Rows.judgeSessionSpec.plain.varTypes Try.prog) (ds ++ gs)).all (· ≤ reachBytes) = true) :
    Calls Try.prog 6 args W fun e W' => ∃ v, e = .returned v ∧ Rows.judgeSessionSpec.post enc Try.prog Try.f6 false true false false W args v W' := by
  have hval : ∀ (j : Nat) t v, Try.f6.params[j]? = some t → args[j]? = some v → Value.okWide Try.prog W .any base t v := hval0
  have hW' := hW
  obtain ⟨p, q, hA0, hV, rfl, hfz, hnd⟩ := hW
  have hA : DataW.TrodAll enc Try.prog W 0 (fun _ => true) true Try.f6.params.toList args.toList ds p := hA0
  rw [Try.params6] at hA hval
  have hsz := hsz0
  rw [Try.params6] at hsz
  obtain ⟨v0, vs0, d0, ds0, p0, q0, hargs, rfl, rfl, h0, r0⟩ := trodAll_cons hA
  obtain ⟨v1, vs1, d1, ds1, p1, q1, rfl, rfl, rfl, h1, r1⟩ := trodAll_cons r0
  obtain ⟨v2, vs2, d2, ds2, p2, q2, rfl, rfl, rfl, h2, r2⟩ := trodAll_cons r1
  obtain ⟨rfl, rfl, rfl⟩ := trodAll_nil r2
  obtain rfl : args = #[v0, v1, v2] := by cases args; simp_all
  obtain ⟨rfl, rfl⟩ := trodVars_none hV
  clear hA0 hval0
  have k0 := h0
  have lt0 : ∀ x ∈ p0, x.block < W.heap.size := by obtain ⟨m, hm⟩ := k0; exact DataW.trod_lt m _ _ _ hm
  have k1 := h1
  have lt1 : ∀ x ∈ p1, x.block < W.heap.size := by obtain ⟨m, hm⟩ := k1; exact DataW.trod_lt m _ _ _ hm
  have k2 := h2
  have lt2 : ∀ x ∈ p2, x.block < W.heap.size := by obtain ⟨m, hm⟩ := k2; exact DataW.trod_lt m _ _ _ hm
  obtain ⟨x0, w0, -, s0⟩ := open_frms (hval 0 29 v0 rfl rfl) k0
  have b0 : IsFrms.fits x0 := s0 (wt_arg hsz (j := 0) rfl rfl)
  obtain ⟨z1, w1, u10, b10⟩ := open_sl Try.underlying63 Try.underlying3 (by kernel_rfl) (okWide_slice Try.underlying63 (hval 1 63 v1 rfl rfl)).choose_spec.choose_spec.choose_spec k1
  have b1 : z1.length * 8 ≤ 140737488351232 := by
    have := b10 hsz (j := 1) rfl rfl
    rw [show Try.prog.bytesOf 3 = 8 from by kernel_rfl] at this
    simpa [reachBytes] using this
  obtain ⟨x2, w2, -⟩ := open_strs (hval 2 59 v2 rfl rfl) k2
  refine (walk v0 x0 v1 z1 v2 x2 W w0 b0 w1 b1 w2).mono fun e W' ⟨he, bel⟩ => ?_
  subst he
  exact ⟨_, rfl, _, _, _, [], _, [], hW', trodAll_mk1 (shut_bool Try.underlying4 _), (trodAll_cons_mk (Below.trod laidOut (by kernel_rfl) (of_decide_eq_true (by kernel_rfl)) k0 bel lt0) (trodAll_cons_mk (Below.trod laidOut (by kernel_rfl) (of_decide_eq_true (by kernel_rfl)) k1 bel lt1) (trodAll_cons_mk (Below.trod laidOut (by kernel_rfl) (of_decide_eq_true (by kernel_rfl)) k2 bel lt2) trodAll_mk0))), rfl, bel.frame _, fun h => by cases h⟩

set_option maxRecDepth 100000 in
theorem lifted (os : Os) (started : os.Started) (H : Type) (enc : TypeId × Value → H) :
    ReturnsInHanded {} Try.checked os 6 .any (Rows.judgeSessionSpec.pre6 enc Try.prog Try.f6 Rows.judgeSessionRow.domain false) (Rows.judgeSessionSpec.post enc Try.prog Try.f6 false true false false) := by
  refine returnsInHanded_of_change_sized (C := Try.checked) own started (by kernel_rfl) Try.func6
    (ChangeSpec.witness6 (enc := enc) (C := Try.checked) false ⟨#[], #[.slice none 0 0, .slice none 0 0, .slice none 0 0], []⟩ 8 (by kernel_rfl) (by kernel_rfl) (by kernel_rfl) (by kernel_rfl)) ?_
  intro W base args ds gs before hval0 hW hcnd hsz _
  exact contract H enc W base args ds gs before hval0 hW hsz

theorem proved : Rows.JudgeSessionSaid :=
  OpenClaim.holds_of_wide 6 Try.f6 rfl rfl rfl rfl rfl rfl rfl ⟨rfl, rfl, rfl, rfl, rfl⟩ rfl rfl rfl rfl rfl (by kernel_rfl) Try.func6 (by kernel_rfl)
    (of_decide_eq_true (by kernel_rfl)) (by unfold Func.isWrapper; first | (rw [if_pos (by decide +kernel)]; kernel_rfl) | (rw [if_neg (by decide +kernel)]; exact ⟨rfl, rfl⟩))
    (fun os started H enc _ => lifted os started H enc)
end Go.Proofs.Ytdakkjpejhlciaa.judgeSession
