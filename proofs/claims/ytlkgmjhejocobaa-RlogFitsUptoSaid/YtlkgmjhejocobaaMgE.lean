/- What the document's Merge answers. No condition but the bounds of what may last. -/
import Derived.Test.YtlkgmjhejocobaaMgD
import Derived.Test.YtlkgmjhejocobaaMyJ
import Derived.Test.YtlkgmjhejocobaaHdR
namespace Go.Proofs.Ytlkgmjhejocobaa
open Go.ChangeShapes Go.WideShapes Go.ChangeAt Go.RowKit Go.Deep
set_option linter.unusedVariables false
set_option maxRecDepth 100000
namespace Mg
open Hd Rc Rl Nv Vc
abbrev zHM : Array Value := #[.int .u64 0, .int .u64 0, .int .i64 0, .int .u64 0, .int .u64 0, .slice none 0 0, .int .i64 0, .int .u64 0, .slice none 0 0, .slice none 0 0, .slice none 0 0]
theorem box_keep2 {w w' : World} {o : Obj} {B g : Nat} {v : Value} {rows : List RRow} {cs : Array Value} {t : TypeId} {fr : Nat × Nat} (h : w.heap[g]? = some (.cells cs t fr)) (own : OwnR 21 recC 49 w B v rows) (hg : (w.alloc o).grownBy w' v.ownBlock) (hne : 49 ≠ t) : w'.heap[g]? = some (.cells cs t fr) := by
  have hl := lt_of_row h
  have h1 : (w.alloc o).heap[g]? = some (.cells cs t fr) := (((Below.refl w.heap.size w).alloc (Nat.le_refl _) o).block g hl).trans h
  rw [hg.block g (lt_of_row h1) (fun e => own_ty_ne own h hne g e.symm rfl)]
  exact h1
set_option maxHeartbeats 8000000 in
theorem rmerge_any (h : Har) (vv : Value) (i t0 c : Int) (l0 : List Ent) (lv : Value) (w : World) (hh : IsHard w vv h) (hf : IsHard.fits h) (hNh : h.log.length ≤ 4294967296) (hl : IsLog w lv l0) (hlf : ∀ x ∈ l0, IsCmd.fits x.cmd) (hN : l0.length ≤ 4294967296) (hi0 : 0 ≤ i) (hi1 : i ≤ 18446744073709551615) (hc0 : 0 ≤ c) (hc1 : c ≤ 18446744073709551615) : Calls Try.prog 36 #[vv, .int .u64 i, .int .u64 t0, .int .u64 c, lv] w (Mrg h i t0 c l0 w) := by
  obtain ⟨vn, vh, vl, vg, rfl, hn, hhe, hll, hg, hwf⟩ := id hh
  obtain ⟨g1, q1, rfl, -⟩ := id hn
  obtain ⟨g2, q2, rfl, -⟩ := id hhe
  obtain ⟨g3, q3, rfl, -⟩ := id hll
  obtain ⟨g4, q4, rfl, -⟩ := IsLog.len hg
  obtain ⟨rows0, a, cap, rfl, hrl, hlc, hcm, hrc, -, -⟩ := log_rows hl
  have hb0 : Below w.heap.size w (w.alloc (.cells (hArr h (.slice g1 h.shot.nodes.length q1) (.slice g2 h.shot.led.held.length q2) (.slice g3 h.shot.led.last.length q3) (.slice g4 h.log.length q4)) 43)) := (Below.refl _ _).alloc (Nat.le_refl _) _
  have HA0 : Hid ((w.alloc (.cells (hArr h (.slice g1 h.shot.nodes.length q1) (.slice g2 h.shot.led.held.length q2) (.slice g3 h.shot.led.last.length q3) (.slice g4 h.log.length q4)) 43)).heap[w.heap.size]? = some (.cells (hArr h (.slice g1 h.shot.nodes.length q1) (.slice g2 h.shot.led.held.length q2) (.slice g3 h.shot.led.last.length q3) (.slice g4 h.log.length q4)) 43 (0, 0))) := Lib.hid (heap_alloc_new _ _)
  have HB0 := Lib.hid hb0
  have HIH := Lib.hid hh
  have HIL := Lib.hid hl
  have HRC := Lib.hid hrc
  have HRL := Lib.hid hrl
  have HLF := Lib.hid hlf
  have HNL := Lib.hid hN
  have HNH := Lib.hid hNh
  have HF := Lib.hid hf
  have HWF := Lib.hid (IsHard.harW hh).1
  clear hh hn hhe hll hg hwf hrc hl hlf hb0 hrl hN hNh hf
  go_enter Try.func36, Try.ntmps36
  go_wp2_with (first | (with_reducible refine wpList_load_row rfl 43 (.tmp 5) rfl w.heap.size rfl 43 (hArr h (.slice g1 h.shot.nodes.length q1) (.slice g2 h.shot.led.held.length q2) (.slice g3 h.shot.led.last.length q3) (.slice g4 h.log.length q4)) (0, 0) _ HA0.out Try.underlying43 rfl (by kernel_rfl) ?_) | fail)
  refine (good_any h _ _ (HIH.out.below HB0.out (Nat.le_refl _))).mono ?_
  rintro e w1 ⟨b1, rfl, ht1, hb1⟩
  have HB1 := Lib.hid (HB0.out.trans (hb1.mono HB0.out.size))
  have HA1 := Lib.hid ((hb1.block _ (lt_of_row HA0.out)).trans HA0.out)
  have HI1 := Lib.hid (HIH.out.below HB1.out (Nat.le_refl _))
  have HIL1 := Lib.hid (HIL.out.below HB1.out (Nat.le_refl _))
  clear hb1
  cases b1 with
  | false =>
    have HM := Lib.hid (merge_bad (fun q => by cases ht1.2 q) i t0 c l0)
    clear ht1
    go_wp2_with fail
    go_ret2
    exact mrg_of HM.out (IsRecs.nil _) HB1.out
  | true =>
    have HOK := Lib.hid (ht1.1 rfl)
    have HFT := Lib.hid (fit_of HWF.out HOK.out)
    have hs0 : 0 ≤ h.shot.index := HFT.out.1
    have hs1 : h.shot.index ≤ 4611686018427387904 := by have := HFT.out.2; omega
    have a3 := (cell_of_row w1 _ 3 _ _ _ HA1.out).trans rfl
    clear ht1
    go_upto_if 34 with (fail)
    go_cut [1, 4] (fun s1 s4 wx => ∃ (o : Nat) (l2 : List Ent) (a2 : Option Addr) (c2 : Nat), s1 = .int .u64 (h.shot.index + (o : Int)) ∧ s4 = .slice a2 l2.length c2 ∧ Hid (IsLog w (.slice a2 l2.length c2) l2 ∧ o ≤ h.log.length ∧ mergeV h i t0 c l0 = tailV h o c l2 ∧ l2.length ≤ l0.length ∧ ∀ x ∈ l2, x ∈ l0) ∧ Hid (wx.heap[w.heap.size]? = some (.cells (hArr h (.slice g1 h.shot.nodes.length q1) (.slice g2 h.shot.led.held.length q2) (.slice g3 h.shot.led.last.length q3) (.slice g4 h.log.length q4)) 43 (0, 0))) ∧ Hid (Below w.heap.size w wx))
    case first =>
      by_cases ci : i < h.shot.index
      · have HCI := Lib.hid ci
        by_cases ck : (l0.length : Int) ≤ h.shot.index - i
        · have HMV : Hid (mergeV h i t0 c l0 = (1, [])) := Lib.hid (by
            rw [merge_low HOK.out HCI.out, List.drop_eq_nil_of_le (by omega)]
            exact tail_yes (out := []) (part_low (by simp)) trivial)
          go_wp2_with fail
          go_ret2
          exact mrg_of HMV.out (IsRecs.nil _) HB1.out
        · obtain ⟨K, hK⟩ : ∃ K : Nat, h.shot.index - i = (K : Int) := ⟨(h.shot.index - i).toNat, by omega⟩
          have hKl : K < l0.length := by omega
          have HMV : Hid (mergeV h i t0 c l0 = tailV h 0 c (l0.drop K)) := Lib.hid (by rw [merge_low HOK.out HCI.out, show (h.shot.index - i).toNat = K by omega])
          rw [hK] at ck
          rcases HRC.out with ⟨rfl, rfl, hr0⟩ | ⟨b, off, sp, rfl, hr0⟩
          · exfalso
            have := HRL.out
            rw [hr0] at this
            simp at this
            omega
          · have hc2 : (K : Int) < (cap : Int) := by omega
            have HVL : Hid (IsLog w (.slice (some (Addr.add ⟨b, off, sp⟩ (K * 9))) (l0.length - K) (cap - K)) (l0.drop K) ∧ (l0.drop K).length = (l0.length - K)) := Lib.hid (by
              exact ⟨log_drop HIL.out (by omega) (by unfold maxLen; omega), by rw [List.length_drop]⟩)
            clear hr0
            go_wp2_with fail
            go_meet
            exact ⟨0, l0.drop K, (some (Addr.add ⟨b, off, sp⟩ (K * 9))), (cap - K), by simp, by rw [HVL.out.2], Lib.hid ⟨by rw [HVL.out.2]; exact HVL.out.1, Nat.zero_le _, HMV.out, by rw [List.length_drop]; omega, fun x hx => List.mem_of_mem_drop hx⟩, HA1, HB1⟩
      · have HCI : Hid (h.shot.index ≤ i) := Lib.hid (Int.not_lt.1 ci)
        go_wp2_with (first | (with_reducible refine wpList_load_row rfl 43 (.tmp 5) rfl w.heap.size rfl 43 (hArr h (.slice g1 h.shot.nodes.length q1) (.slice g2 h.shot.led.held.length q2) (.slice g3 h.shot.led.last.length q3) (.slice g4 h.log.length q4)) (0, 0) _ HA1.out Try.underlying43 rfl (by kernel_rfl) ?_) | fail)
        refine (rtermAt_any h _ i _ HI1.out HFT.out hi0 hi1).mono ?_
        rintro e w2 ⟨rfl, hb2⟩
        have HB2 := Lib.hid (HB1.out.trans (hb2.mono HB1.out.size))
        have HA2 := Lib.hid ((hb2.block _ (lt_of_row HA1.out)).trans HA1.out)
        have HL2 := Lib.hid (HIL1.out.below hb2 (Nat.le_refl _))
        clear hb2
        obtain ⟨T, hT⟩ : ∃ q, termP h i = q := ⟨_, rfl⟩
        rw [hT]
        obtain ⟨u, b⟩ := T
        have HT := Lib.hid hT
        clear hT
        cases b with
        | false =>
          have HM := Lib.hid (merge_lacks HOK.out (t := t0) (c := c) (l := l0) (Int.not_lt.2 HCI.out) (by rw [HT.out]; simp))
          go_wp2_with fail
          go_ret2
          exact mrg_of HM.out (IsRecs.nil _) HB2.out
        | true =>
          by_cases e : u = t0
          · have HM := Lib.hid (merge_at HOK.out (t := t0) (c := c) (l := l0) (Int.not_lt.2 HCI.out) (by rw [HT.out, e]))
            have n2 : (u != t0) = false := by rw [bne, beq_iff_eq.2 e]; rfl
            have hin := term_in2 (h := h) (i := i) (by rw [HT.out])
            have HOO : Hid (h.shot.index + (((i - h.shot.index).toNat : Nat) : Int) = i ∧ (i - h.shot.index).toNat ≤ h.log.length) := Lib.hid (by unfold lastI at hin; omega)
            have HCI2 := HCI
            clear e hin
            go_wp2_with fail
            go_meet
            exact ⟨(i - h.shot.index).toNat, l0, a, cap, by rw [HOO.out.1], rfl, Lib.hid ⟨HIL.out, HOO.out.2, HM.out, Nat.le_refl _, fun x hx => hx⟩, HA2, HB2⟩
          · have HM := Lib.hid (merge_lacks HOK.out (t := t0) (c := c) (l := l0) (Int.not_lt.2 HCI.out) (by rw [HT.out]; simpa using e))
            have n2 : (u != t0) = true := by rw [bne, beq_eq_false_iff_ne.2 e]; rfl
            clear e
            go_wp2_with fail
            go_ret2
            exact mrg_of HM.out (IsRecs.nil _) HB2.out
    case rest =>
      obtain ⟨o, l, a2, c2, rfl, rfl, HP, HA3, HB3⟩ := hcut
      obtain ⟨hil, ho, hmv, hll, hlm⟩ := HP.out
      have HI3 := Lib.hid (HIH.out.below HB3.out (Nat.le_refl _))
      have HMV := Lib.hid hmv
      have HLF2 : Hid (∀ x ∈ l, IsCmd.fits x.cmd) := Lib.hid (fun x hx => HLF.out x (hlm x hx))
      have HNL2 : Hid (l.length ≤ 4294967296) := Lib.hid (by have := HNL.out; omega)
      have hft := HFT.out
      clear hlm hll hmv HP HRC HRL HIL HIL1
      obtain ⟨rows0, a9, cap9, e9, hrl9, hlc9, hcm9, hrc9, hes9, hget9⟩ := log_rows hil
      simp only [Value.slice.injEq] at e9
      obtain ⟨rfl, -, rfl⟩ := e9
      have HRL2 := Lib.hid hrl9
      have HRC20 := Lib.hid hrc9
      have HES20 := Lib.hid hes9
      have HGET2 := Lib.hid hget9
      clear hil hrc9 hes9 hget9
      obtain ⟨F, hFN⟩ : ∃ q, freshN (lgO h o) l = q := ⟨_, rfl⟩
      have HFN := Lib.hid hFN
      have hFL := (fresh_le (lgO h o) l).1
      rw [hFN] at hFL
      have FST : Hid (∀ k x, k ≤ F → l[k]? = some x → (k + 1 ≤ F ↔ ∃ a, (lgO h o)[k]? = some a ∧ a.term = x.term)) := Lib.hid (fun k x hk hx => by subst hFN; exact fresh_step hk hx)
      have FMS : Hid (∀ k x, k ≤ F → l[k]? = some x → (∀ a, (lgO h o)[k]? = some a → a.term ≠ x.term) → F = k) := Lib.hid (fun k x hk hx hn => by
        have q := FST.out k x hk hx
        rcases Nat.lt_or_ge k F with g | g
        · obtain ⟨a, h1, h2⟩ := q.1 g
          exact absurd h2 (hn a h1)
        · omega)
      have TPY : Hid (∀ k (hk : o + k < h.log.length), termP h (h.shot.index + (o : Int) + (k : Int) + 1) = (h.log[o + k].term, true)) := Lib.hid (fun k hk => by
        have q := term_plc (h := h) hk
        rwa [show h.shot.index + (o : Int) + 1 + (k : Int) = h.shot.index + (o : Int) + (k : Int) + 1 by omega] at q)
      have TPN : Hid (∀ k, h.log.length ≤ o + k → termP h (h.shot.index + (o : Int) + (k : Int) + 1) = (0, false)) := Lib.hid (fun k hk => by
        have q := term_pln (h := h) hk
        rwa [show h.shot.index + (o : Int) + 1 + (k : Int) = h.shot.index + (o : Int) + (k : Int) + 1 by omega] at q)
      have PLC : Hid (∀ k : Nat, k < l.length → IntKind.u64.wrap (h.shot.index + (o : Int) + (k : Int)) = h.shot.index + (o : Int) + (k : Int) ∧ IntKind.u64.wrap (h.shot.index + (o : Int) + (k : Int) + 1) = h.shot.index + (o : Int) + (k : Int) + 1 ∧ 0 ≤ h.shot.index + (o : Int) + (k : Int) + 1 ∧ h.shot.index + (o : Int) + (k : Int) + 1 ≤ 18446744073709551615) := Lib.hid (fun k hk => by
        obtain ⟨f0, f1⟩ := hft
        have := HNL2.out
        refine ⟨?_, ?_, by omega, by omega⟩
        · unfold IntKind.wrap
          simp [IntKind.signed, IntKind.bits]
          omega
        · unfold IntKind.wrap
          simp [IntKind.signed, IntKind.bits]
          omega)
      have BADN : Hid (F < l.length → o + F < h.log.length → h.shot.index + (o : Int) + (F : Int) + 1 ≤ c → partV h o c l l.length = none) := Lib.hid (fun h1 h2 h3 => part_none (by omega) (by rw [hFN]; exact h2) (by rw [hFN]; exact h3))
      have hlz : l.length ≤ 4294967296 := HNL2.out
      clear hft hFN ho
      go_wp2_with (first | (with_reducible refine wpList_load_row rfl 43 (.tmp 5) rfl w.heap.size rfl 43 (hArr h (.slice g1 h.shot.nodes.length q1) (.slice g2 h.shot.led.held.length q2) (.slice g3 h.shot.led.last.length q3) (.slice g4 h.log.length q4)) (0, 0) _ HA3.out Try.underlying43 rfl (by kernel_rfl) ?_) | fail)
      refine (rlast_any h _ _ HI3.out hs1).mono ?_
      rintro e w4 ⟨rfl, hb4⟩
      have HB4 := Lib.hid (HB3.out.trans (hb4.mono HB3.out.size))
      have HA4 := Lib.hid ((hb4.block _ (lt_of_row HA3.out)).trans HA3.out)
      have HRC2 := HRC20
      have HES2 := HES20
      clear hb4
      go_wp2_with fail
      go_loopw [15, 68] (fun s i wr => ∃ (k : Nat) (rows : List RRow), k ≤ l.length ∧ i = .int .i64 k ∧ OwnR 21 recC 49 wr w.heap.size s rows ∧ Hid (∀ r ∈ rows, RecO wr w.heap.size r) ∧ Hid (partV h o c l k = some (rows.map Prod.fst)) ∧ Hid (k ≤ F ∧ rows = [] ∨ F < k ∧ 0 < rows.length) ∧ Hid (wr.heap[w.heap.size]? = some (.cells (hArr h (.slice g1 h.shot.nodes.length q1) (.slice g2 h.shot.led.held.length q2) (.slice g3 h.shot.led.last.length q3) (.slice g4 h.log.length q4)) 43 (0, 0))) ∧ Hid (Below w.heap.size w wr)) (fun _ i _ => l.length - (intOf i).toNat)
      case atStart => exact ⟨0, [], Nat.zero_le _, rfl, OwnR.nil _ _ _, Lib.hid (fun r hr => by simp at hr), Lib.hid (part_low (Nat.zero_le _)), Lib.hid (.inl ⟨Nat.zero_le _, rfl⟩), HA4, HB4⟩
      case round =>
        obtain ⟨k, rows, hk, rfl, hown, HRO, HPV, HKF, HA, HB⟩ := hrel
        by_cases hlt : k < l.length
        · have hrl0 := HRL2.out
          obtain ⟨sa, scap, rfl, sl1, sl2, -⟩ := hown.sl recC_len
          have HLR : Hid (rows.length ≤ l.length + 1) := Lib.hid (by
            have q := (part_out HPV.out HLF2.out).1
            rw [List.length_map] at q
            exact q)
          unfold maxLen at sl2
          obtain ⟨b, off, hab, hbl, hcc⟩ := Ld.rows_open (show k < rows0.length by omega) HRC2.out
          subst hab
          have hkl : k < rows0.length := by omega
          have hrg : wr.rangeAt b (off + k * 9) (entC rows0[k]) := fun jj u hu => by
            have q := ((HB.out).cell (p := ⟨b, off + ((k) * 9 + jj), none⟩) hbl).trans (hcc (k) _ (Ld.rgetD hkl) jj u hu)
            have e : (off + k * 9) + jj = off + ((k) * 9 + jj) := by omega
            rw [e]
            exact q
          have hxe := HES2.out rows0[k] (List.getElem_mem hkl)
          have hxg : l[k]? = some rows0[k].1 := HGET2.out (k) hkl
          clear hcc hbl
          generalize rows0[k] = rk at hrg hxe hxg
          obtain ⟨x, vx⟩ := rk
          dsimp only at hxe hxg
          obtain ⟨hxs, hxw⟩ := hxe
          obtain ⟨ax, cx, rfl, -⟩ := id hxs
          have hsE : (wr.alloc (.cells zEA 47)).heap[wr.heap.size]? = some (.cells zEA 47 (0, 0)) := heap_alloc_new _ _
          obtain ⟨W1, hW1⟩ : ∃ q, (wr.alloc (.cells zEA 47)).setRow wr.heap.size (entC (x, .slice ax x.cmd.nodes.length cx)).toArray = q := ⟨_, rfl⟩
          have hbE : Below wr.heap.size wr W1 := by rw [← hW1]; exact Ld.below_row ((Below.refl _ _).alloc (Nat.le_refl _) _) (Nat.le_refl _) _
          have HE1 : Hid (W1.heap[wr.heap.size]? = some (.cells (entC (x, .slice ax x.cmd.nodes.length cx)).toArray 47 (0, 0))) := Lib.hid (by rw [← hW1]; exact setRow_heap _ _ _ _ _ _ hsE)
          have HB1 := Lib.hid (HB.out.trans (hbE.mono HB.out.size))
          have HXG := Lib.hid hxg
          have HXW := Lib.hid hxw
          have HA1x := Lib.hid ((hbE.block _ (lt_of_row HA.out)).trans HA.out)
          have HI1x := Lib.hid (HIH.out.below HB1.out (Nat.le_refl _))
          have HXS := Lib.hid hxs
          have HXF : Hid (IsRec.fits (addR (h.shot.index + (o : Int) + (k : Int) + 1) x)) := Lib.hid ⟨HLF2.out x (List.mem_of_getElem? hxg), ⟨by simp [addR, zShoV], by simp [addR, zShoV], by simp [addR, zShoV]⟩⟩
          have hkz : (k : Int) < (l.length : Int) := by omega
          have PX := Lib.hid (PLC.out k hlt)
          obtain ⟨p1, p2, p3, p4⟩ := PLC.out k hlt
          have HO1 := Lib.hid (owns_below hbE hown)
          have HD1 : Hid (∀ r ∈ rows, RecO W1 w.heap.size r) := Lib.hid (fun r hr => (HRO.out r hr).map fun e sz u n xs _ q => owns_below hbE q)
          clear hbE hxs hxw hxg hown hrl0 HRO HA
          have hrg0 := hrg
          clear hrg
          rcases HKF.out with ⟨hkF, hr0⟩ | ⟨hkF, hr0⟩
          · subst hr0
            have HPV0 := HPV
            clear HKF
            go_wp2_with (first
              | (with_reducible refine wpList_load_mid rfl 47 (.tmp 71) rfl b (off + k * 9) rfl (entC (x, .slice ax x.cmd.nodes.length cx)) _ hrg0 Try.underlying47 rfl (by kernel_rfl) ?_)
              | (with_reducible refine wpList_store_row rfl 47 (.tmp 18) (.tmp 72) rfl wr.heap.size (entC (x, .slice ax x.cmd.nodes.length cx)).toArray rfl rfl 47 _ hsE (by kernel_rfl) rfl (ent_all _ _ _ _) ?_; rw [hW1]; clear hW1 hsE)
              | (with_reducible refine wpList_load_row rfl 43 (.tmp 5) rfl w.heap.size rfl 43 (hArr h (.slice g1 h.shot.nodes.length q1) (.slice g2 h.shot.led.held.length q2) (.slice g3 h.shot.led.last.length q3) (.slice g4 h.log.length q4)) (0, 0) _ HA1x.out Try.underlying43 rfl (by kernel_rfl) ?_))
            refine (rtermAt_any h _ (h.shot.index + (o : Int) + (k : Int) + 1) _ HI1x.out HFT.out p3 p4).mono ?_
            rintro e w2 ⟨rfl, hb2⟩
            have HB2 := Lib.hid (HB1.out.trans (hb2.mono HB1.out.size))
            have HA2 := Lib.hid ((hb2.block _ (lt_of_row HA1x.out)).trans HA1x.out)
            have HE2 := Lib.hid ((hb2.block _ (lt_of_row HE1.out)).trans HE1.out)
            have x0 := (cell_of_row w2 _ 0 _ _ _ HE2.out).trans rfl
            have HO2 := Lib.hid (owns_below hb2 HO1.out)
            have HD2 : Hid (∀ r ∈ ([] : List RRow), RecO w2 w.heap.size r) := Lib.hid (fun r hr => by simp at hr)
            clear hb2
            by_cases c1 : o + k < h.log.length
            · rw [TPY.out k c1]
              obtain ⟨t, ht⟩ : ∃ q, h.log[o + k].term = q := ⟨_, rfl⟩
              rw [ht]
              by_cases c2 : t = x.term
              · have n2 : (t == x.term) = true := beq_iff_eq.2 c2
                have HK1 : Hid (k + 1 ≤ F) := Lib.hid (FST.out k x hkF HXG.out |>.2 ⟨h.log[o + k], (List.getElem?_drop).trans (List.getElem?_eq_getElem c1), ht.trans c2⟩)
                have HP1 : Hid (partV h o c l (k + 1) = some (([] : List RRow).map Prod.fst)) := Lib.hid (part_low (by rw [HFN.out]; exact HK1.out))
                clear c2 ht
                go_wp2_with fail
                go_roundw
                case rel => exact ⟨k + 1, [], by omega, by go_num, HO2.out, HD2, HP1, Lib.hid (.inl ⟨HK1.out, rfl⟩), HA2, HB2⟩
                case measure => simp [intOf]; omega
              · have n2 : (t == x.term) = false := beq_eq_false_iff_ne.2 c2
                have hFk : F = k := FMS.out k x hkF HXG.out (fun a ha => by
                  rw [List.getElem?_drop, List.getElem?_eq_getElem c1] at ha
                  obtain rfl := Option.some.inj ha
                  rw [ht]; exact c2)
                subst hFk
                clear ht c2
                have c4 : h.shot.index + (o : Int) + (F : Int) + 1 ≤ h.shot.index + (h.log.length : Int) := by omega
                by_cases c3 : h.shot.index + (o : Int) + (F : Int) + 1 ≤ c
                · have HNO : Hid (mergeV h i t0 c l0 = (3, [])) := Lib.hid (HMV.out.trans (tail_none (BADN.out hlt c1 c3)))
                  go_wp2_with fail
                  go_ret2
                  exact mrg_of HNO.out (IsRecs.nil _) HB2.out
                · have HNB : Hid (¬ (o + freshN (lgO h o) l < h.log.length ∧ plc h o (freshN (lgO h o) l) ≤ c)) := Lib.hid (fun q => c3 (by have := q.2; rw [HFN.out] at this; unfold plc at this; omega))
                  have HCV : Hid (headV h o F = [cutR (h.shot.index + (o : Int) + (F : Int) + 1)]) := Lib.hid (by unfold headV; rw [if_pos c1])
                  have HPN : Hid (partV h o c l (F + 1) = some ([cutR (h.shot.index + (o : Int) + (F : Int) + 1)] ++ [addR (h.shot.index + (o : Int) + (F : Int) + 1) x])) := Lib.hid (by
                    have q := part_first (h := h) (o := o) (c := c) (l := l) (x := x) (by rw [HFN.out]; exact HXG.out) HNB.out
                    rw [HFN.out, HCV.out] at q
                    exact q)
                  have HKF1 : Hid (F < F + 1) := Lib.hid (Nat.lt_succ_self _)
                  go_wp2_with (at_builtin; refine appRL recC_len Try.underlying57 rfl (by decide) info_rec rfl _ _ rfl w.heap.size _ ([] : List RRow) rfl ?own31 _ [(cutR (h.shot.index + (o : Int) + (F : Int) + 1), .slice none 0 0, .slice none 0 0, .slice none 0 0, .slice none 0 0)] rfl ?sl31 ?one31 ?len31 ?mem31 ?base31 ?next31)
                  case own31 => exact HO2.out.alloc _
                  case sl31 => exact SlR.one recC_len _ w2.heap.size rfl _ _ rfl
                  case one31 => first | exact rec_one _ _ _ _ _ _ _ _ _ _ _ _ _ | exact fun u hu => rec_one _ _ _ _ _ _ _ _ _ _ _ _ _ _ (List.mem_singleton.2 rfl) u hu
                  case len31 => (unfold maxLen; simp <;> omega)
                  case mem31 => (simp <;> omega)
                  case base31 => (have := HB2.out.size; simp; omega)
                  intro v3 w3 own3 hg3
                  have HX3 := Lib.hid (Below.ownA HB2.out HB2.out.size HO2.out hg3)
                  obtain ⟨rows3, own3', rec3, map3⟩ := rows_app (o := _) HO2.out (fun r hr => by simp at hr) (rec_nil _ rfl rfl (cutR_wf p3 p4)) hg3 own3
                  have HA3 : Hid (w3.heap[w.heap.size]? = some (.cells (hArr h (.slice g1 h.shot.nodes.length q1) (.slice g2 h.shot.led.held.length q2) (.slice g3 h.shot.led.last.length q3) (.slice g4 h.log.length q4)) 43 (0, 0))) := Lib.hid (box_keep2 HA2.out HO2.out hg3 (by decide))
                  have HE3 := Lib.hid (box_keep2 HE2.out HO2.out hg3 (by decide))
                  have HO3 := Lib.hid own3'
                  have HD3 := Lib.hid rec3
                  have HLR : Hid (rows3.length ≤ 1) := Lib.hid (by have q := congrArg List.length map3; simp at q; omega)
                  have HPN2 : Hid (partV h o c l (F + 1) = some (rows3.map Prod.fst ++ [addR (h.shot.index + (o : Int) + (F : Int) + 1) x])) := Lib.hid (by rw [map3]; exact HPN.out)
                  clear hg3 own3 own3' rec3 map3
                  have HIR : Hid (IsRec w3 (.agg (rArr (addR (h.shot.index + (o : Int) + (F : Int) + 1) x) (.slice ax x.cmd.nodes.length cx) (.slice none 0 0) (.slice none 0 0) (.slice none 0 0))) (addR (h.shot.index + (o : Int) + (F : Int) + 1) x)) := Lib.hid ⟨_, _, _, _, rfl, ⟨HXS.out.below HX3.out (Nat.le_refl _), Cm.sl_nil _ _, SlR.nil _, SlR.nil _⟩, addR_wf PX.out.2.2.1 PX.out.2.2.2 HXW.out⟩
                  go_wp2_with (first | (with_reducible refine wpList_load_row rfl 47 (.tmp 18) rfl wr.heap.size rfl 47 (entC (x, .slice ax x.cmd.nodes.length cx)).toArray (0, 0) _ HE3.out Try.underlying47 rfl (by kernel_rfl) ?_))
                  refine (copyrec_any (addR (h.shot.index + (o : Int) + (F : Int) + 1) x) _ _ HIR.out HXF.out).mono ?_
                  rintro e w6 ⟨p1, n1, p2, n2, p3, n3, p4, n4, rfl, ro, hb6⟩
                  have HB6 := Lib.hid (HX3.out.trans (hb6.mono HX3.out.size))
                  have HA6 := Lib.hid ((hb6.block _ (lt_of_row HA3.out)).trans HA3.out)
                  have own6 := owns_below hb6 HO3.out
                  have HR6 : Hid (∀ r ∈ rows3, RecO w6 w.heap.size r) := Lib.hid (fun r hr => (HD3.out r hr).map fun e sz u n xs _ q => owns_below hb6 q)
                  have HRX : Hid (RecO w6 w.heap.size (addR (h.shot.index + (o : Int) + (F : Int) + 1) x, .slice p1 x.cmd.nodes.length n1, .slice p2 0 n2, .slice p3 0 n3, .slice p4 0 n4)) := Lib.hid (RecO.map ro fun e sz u n xs _ q => owns_lower HX3.out.size q)
                  clear ro hb6
                  go_wp2_with (at_builtin; refine appRL recC_len Try.underlying57 rfl (by decide) info_rec rfl _ _ rfl w.heap.size _ rows3 rfl ?own51 _ [(addR (h.shot.index + (o : Int) + (F : Int) + 1) x, .slice p1 x.cmd.nodes.length n1, .slice p2 0 n2, .slice p3 0 n3, .slice p4 0 n4)] rfl ?sl51 ?one51 ?len51 ?mem51 ?base51 ?next51)
                  case own51 => exact own6.alloc _
                  case sl51 => exact SlR.one recC_len _ w6.heap.size rfl _ _ rfl
                  case one51 => first | exact rec_one _ _ _ _ _ _ _ _ _ _ _ _ _ | exact fun u hu => rec_one _ _ _ _ _ _ _ _ _ _ _ _ _ _ (List.mem_singleton.2 rfl) u hu
                  case len51 => (have := HNL2.out; have := HLR.out; unfold maxLen; simp <;> omega)
                  case mem51 => (have := HNL2.out; have := HLR.out; simp <;> omega)
                  case base51 => (have := HB6.out.size; simp; omega)
                  intro v7 w7 own7 hg7
                  obtain ⟨rows7, own7', rec7, map7⟩ := rows_app own6 HR6.out (HRX.out.map fun e sz u n xs _ q => q.alloc _) hg7 own7
                  have HX7 := Lib.hid (Below.ownA HB6.out HB6.out.size own6 hg7)
                  have HA7 : Hid (w7.heap[w.heap.size]? = some (.cells (hArr h (.slice g1 h.shot.nodes.length q1) (.slice g2 h.shot.led.held.length q2) (.slice g3 h.shot.led.last.length q3) (.slice g4 h.log.length q4)) 43 (0, 0))) := Lib.hid (box_keep2 HA6.out own6 hg7 (by decide))
                  have HP7 : Hid (partV h o c l (F + 1) = some (rows7.map Prod.fst)) := Lib.hid (by rw [map7]; exact HPN2.out)
                  have HC7 : Hid (F + 1 ≤ F ∧ rows7 = [] ∨ F < F + 1 ∧ 0 < rows7.length) := Lib.hid (.inr ⟨HKF1.out, by have q := congrArg List.length map7; rw [List.length_map, List.length_append] at q; simp at q; omega⟩)
                  have HR7 := Lib.hid rec7
                  have HW7 := Lib.hid own7'
                  clear map7 own7 own7' rec7 own6 hg7
                  go_wp2_with fail
                  go_roundw
                  case rel => exact ⟨F + 1, rows7, by omega, by go_num, HW7.out, HR7, HP7, HC7, HA7, HX7⟩
                  case measure => simp [intOf]; omega
            · rw [TPN.out k (by omega)]
              have hFk : F = k := FMS.out k x hkF HXG.out (fun a ha => by
                rw [List.getElem?_drop, List.getElem?_eq_none (by omega)] at ha
                cases ha)
              subst hFk
              have c4 : ¬ (h.shot.index + (o : Int) + (F : Int) + 1 ≤ h.shot.index + (h.log.length : Int)) := by omega
              have HNB : Hid (¬ (o + freshN (lgO h o) l < h.log.length ∧ plc h o (freshN (lgO h o) l) ≤ c)) := Lib.hid (fun q => c1 (by have := q.1; rw [HFN.out] at this; exact this))
              have HPN2 : Hid (partV h o c l (F + 1) = some (([] : List RRow).map Prod.fst ++ [addR (h.shot.index + (o : Int) + (F : Int) + 1) x])) := Lib.hid (by
                have q := part_first (h := h) (o := o) (c := c) (l := l) (x := x) (by rw [HFN.out]; exact HXG.out) HNB.out
                rw [HFN.out] at q
                have q2 : headV h o F = [] := by unfold headV; rw [if_neg c1]
                rw [q2] at q
                exact q)
              have HKF1 : Hid (F < F + 1) := Lib.hid (Nat.lt_succ_self _)
              have HIR : Hid (IsRec w2 (.agg (rArr (addR (h.shot.index + (o : Int) + (F : Int) + 1) x) (.slice ax x.cmd.nodes.length cx) (.slice none 0 0) (.slice none 0 0) (.slice none 0 0))) (addR (h.shot.index + (o : Int) + (F : Int) + 1) x)) := Lib.hid ⟨_, _, _, _, rfl, ⟨HXS.out.below HB2.out (Nat.le_refl _), Cm.sl_nil _ _, SlR.nil _, SlR.nil _⟩, addR_wf PX.out.2.2.1 PX.out.2.2.2 HXW.out⟩
              go_wp2_with (first | (with_reducible refine wpList_load_row rfl 47 (.tmp 18) rfl wr.heap.size rfl 47 (entC (x, .slice ax x.cmd.nodes.length cx)).toArray (0, 0) _ HE2.out Try.underlying47 rfl (by kernel_rfl) ?_))
              refine (copyrec_any (addR (h.shot.index + (o : Int) + (F : Int) + 1) x) _ _ HIR.out HXF.out).mono ?_
              rintro e w6 ⟨p1, n1, p2, n2, p3, n3, p4, n4, rfl, ro, hb6⟩
              have HB6 := Lib.hid (HB2.out.trans (hb6.mono HB2.out.size))
              have HA6 := Lib.hid ((hb6.block _ (lt_of_row HA2.out)).trans HA2.out)
              have own6 := owns_below hb6 HO2.out
              have HR6 : Hid (∀ r ∈ ([] : List RRow), RecO w6 w.heap.size r) := Lib.hid (fun r hr => (HD2.out r hr).map fun e sz u n xs _ q => owns_below hb6 q)
              have HRX : Hid (RecO w6 w.heap.size (addR (h.shot.index + (o : Int) + (F : Int) + 1) x, .slice p1 x.cmd.nodes.length n1, .slice p2 0 n2, .slice p3 0 n3, .slice p4 0 n4)) := Lib.hid (RecO.map ro fun e sz u n xs _ q => owns_lower HB2.out.size q)
              clear ro hb6
              go_wp2_with (at_builtin; refine appRL recC_len Try.underlying57 rfl (by decide) info_rec rfl _ _ rfl w.heap.size _ ([] : List RRow) rfl ?own61 _ [(addR (h.shot.index + (o : Int) + (F : Int) + 1) x, .slice p1 x.cmd.nodes.length n1, .slice p2 0 n2, .slice p3 0 n3, .slice p4 0 n4)] rfl ?sl61 ?one61 ?len61 ?mem61 ?base61 ?next61)
              case own61 => exact own6.alloc _
              case sl61 => exact SlR.one recC_len _ w6.heap.size rfl _ _ rfl
              case one61 => first | exact rec_one _ _ _ _ _ _ _ _ _ _ _ _ _ | exact fun u hu => rec_one _ _ _ _ _ _ _ _ _ _ _ _ _ _ (List.mem_singleton.2 rfl) u hu
              case len61 => (have := HNL2.out; have := HLR.out; unfold maxLen; simp <;> omega)
              case mem61 => (have := HNL2.out; have := HLR.out; simp <;> omega)
              case base61 => (have := HB6.out.size; simp; omega)
              intro v7 w7 own7 hg7
              obtain ⟨rows7, own7', rec7, map7⟩ := rows_app own6 HR6.out (HRX.out.map fun e sz u n xs _ q => q.alloc _) hg7 own7
              have HX7 := Lib.hid (Below.ownA HB6.out HB6.out.size own6 hg7)
              have HA7 : Hid (w7.heap[w.heap.size]? = some (.cells (hArr h (.slice g1 h.shot.nodes.length q1) (.slice g2 h.shot.led.held.length q2) (.slice g3 h.shot.led.last.length q3) (.slice g4 h.log.length q4)) 43 (0, 0))) := Lib.hid (box_keep2 HA6.out own6 hg7 (by decide))
              have HP7 : Hid (partV h o c l (F + 1) = some (rows7.map Prod.fst)) := Lib.hid (by rw [map7]; exact HPN2.out)
              have HC7 : Hid (F + 1 ≤ F ∧ rows7 = [] ∨ F < F + 1 ∧ 0 < rows7.length) := Lib.hid (.inr ⟨HKF1.out, by have q := congrArg List.length map7; rw [List.length_map, List.length_append] at q; simp at q; omega⟩)
              have HR7 := Lib.hid rec7
              have HW7 := Lib.hid own7'
              clear map7 own7 own7' rec7 own6 hg7
              go_wp2_with fail
              go_roundw
              case rel => exact ⟨F + 1, rows7, by omega, by go_num, HW7.out, HR7, HP7, HC7, HA7, HX7⟩
              case measure => simp [intOf]; omega
          · have n0 : ((rows.length : Int) == 0) = false := by
              have : (rows.length : Int) ≠ 0 := by omega
              simpa using this
            have HPN2 : Hid (partV h o c l (k + 1) = some (rows.map Prod.fst ++ [addR (h.shot.index + (o : Int) + (k : Int) + 1) x])) := Lib.hid (by
              have q := part_next (h := h) (o := o) (c := c) (l := l) (x := x) (by rw [HFN.out]; exact hkF) HXG.out HPV.out
              have e : plc h o k = h.shot.index + (o : Int) + (k : Int) + 1 := rfl
              rw [e] at q
              exact q)
            have HKF1 : Hid (F < k + 1) := Lib.hid (by omega)
            have hrn : rows.length ≠ 0 := by omega
            clear HKF hr0
            have HIR : Hid (IsRec W1 (.agg (rArr (addR (h.shot.index + (o : Int) + (k : Int) + 1) x) (.slice ax x.cmd.nodes.length cx) (.slice none 0 0) (.slice none 0 0) (.slice none 0 0))) (addR (h.shot.index + (o : Int) + (k : Int) + 1) x)) := Lib.hid ⟨_, _, _, _, rfl, ⟨HXS.out.below HB1.out (Nat.le_refl _), Cm.sl_nil _ _, SlR.nil _, SlR.nil _⟩, addR_wf PX.out.2.2.1 PX.out.2.2.2 HXW.out⟩
            go_wp2_with (first
              | (with_reducible refine wpList_load_mid rfl 47 (.tmp 71) rfl b (off + k * 9) rfl (entC (x, .slice ax x.cmd.nodes.length cx)) _ hrg0 Try.underlying47 rfl (by kernel_rfl) ?_)
              | (with_reducible refine wpList_store_row rfl 47 (.tmp 18) (.tmp 72) rfl wr.heap.size (entC (x, .slice ax x.cmd.nodes.length cx)).toArray rfl rfl 47 _ hsE (by kernel_rfl) rfl (ent_all _ _ _ _) ?_; rw [hW1]; clear hW1 hsE)
              | (with_reducible refine wpList_load_row rfl 47 (.tmp 18) rfl wr.heap.size rfl 47 (entC (x, .slice ax x.cmd.nodes.length cx)).toArray (0, 0) _ HE1.out Try.underlying47 rfl (by kernel_rfl) ?_))
            refine (copyrec_any (addR (h.shot.index + (o : Int) + (k : Int) + 1) x) _ _ HIR.out HXF.out).mono ?_
            rintro e w6 ⟨p1, n1, p2, n2, p3, n3, p4, n4, rfl, ro, hb6⟩
            have HB6 := Lib.hid (HB1.out.trans (hb6.mono HB1.out.size))
            have HA6 := Lib.hid ((hb6.block _ (lt_of_row HA1x.out)).trans HA1x.out)
            have own6 := owns_below hb6 HO1.out
            have HR6 : Hid (∀ r ∈ rows, RecO w6 w.heap.size r) := Lib.hid (fun r hr => (HD1.out r hr).map fun e sz u n xs _ q => owns_below hb6 q)
            have HRX : Hid (RecO w6 w.heap.size (addR (h.shot.index + (o : Int) + (k : Int) + 1) x, .slice p1 x.cmd.nodes.length n1, .slice p2 0 n2, .slice p3 0 n3, .slice p4 0 n4)) := Lib.hid (RecO.map ro fun e sz u n xs _ q => owns_lower HB1.out.size q)
            clear ro hb6
            go_wp2_with (at_builtin; refine appRL recC_len Try.underlying57 rfl (by decide) info_rec rfl _ _ rfl w.heap.size _ rows rfl ?own71 _ [(addR (h.shot.index + (o : Int) + (k : Int) + 1) x, .slice p1 x.cmd.nodes.length n1, .slice p2 0 n2, .slice p3 0 n3, .slice p4 0 n4)] rfl ?sl71 ?one71 ?len71 ?mem71 ?base71 ?next71)
            case own71 => exact own6.alloc _
            case sl71 => exact SlR.one recC_len _ w6.heap.size rfl _ _ rfl
            case one71 => first | exact rec_one _ _ _ _ _ _ _ _ _ _ _ _ _ | exact fun u hu => rec_one _ _ _ _ _ _ _ _ _ _ _ _ _ _ (List.mem_singleton.2 rfl) u hu
            case len71 => (have := HNL2.out; have := HLR.out; unfold maxLen; simp <;> omega)
            case mem71 => (have := HNL2.out; have := HLR.out; simp <;> omega)
            case base71 => (have := HB6.out.size; simp; omega)
            intro v7 w7 own7 hg7
            obtain ⟨rows7, own7', rec7, map7⟩ := rows_app own6 HR6.out (HRX.out.map fun e sz u n xs _ q => q.alloc _) hg7 own7
            have HX7 := Lib.hid (Below.ownA HB6.out HB6.out.size own6 hg7)
            have HA7 : Hid (w7.heap[w.heap.size]? = some (.cells (hArr h (.slice g1 h.shot.nodes.length q1) (.slice g2 h.shot.led.held.length q2) (.slice g3 h.shot.led.last.length q3) (.slice g4 h.log.length q4)) 43 (0, 0))) := Lib.hid (box_keep2 HA6.out own6 hg7 (by decide))
            have HP7 : Hid (partV h o c l (k + 1) = some (rows7.map Prod.fst)) := Lib.hid (by rw [map7]; exact HPN2.out)
            have HC7 : Hid (k + 1 ≤ F ∧ rows7 = [] ∨ F < k + 1 ∧ 0 < rows7.length) := Lib.hid (.inr ⟨HKF1.out, by have q := congrArg List.length map7; rw [List.length_map, List.length_append] at q; simp at q; omega⟩)
            have HR7 := Lib.hid rec7
            have HW7 := Lib.hid own7'
            clear map7 own7 own7' rec7 own6 hg7
            go_wp2_with fail
            go_roundw
            case rel => exact ⟨k + 1, rows7, by omega, by go_num, HW7.out, HR7, HP7, HC7, HA7, HX7⟩
            case measure => simp [intOf]; omega
        · obtain rfl : k = l.length := by omega
          have HOUT : Hid (partV h o c l l.length = some (rows.map Prod.fst)) := HPV
          obtain ⟨hlen, hfit⟩ := part_out HPV.out HLF2.out
          have HR21 : Rows21 wr w.heap.size _ (rows.map Prod.fst) := ⟨rows, hown, HRO.out, rfl⟩
          have HRES := Lib.hid HR21.recs
          obtain ⟨rowz, ⟨ra, rcap, rfl, rlc, rcm, rrc⟩, rrw, rmap⟩ := HR21.recs
          generalize rows.map Prod.fst = L at *
          unfold maxLen at rcm
          have hrl : rowz.length = L.length := by rw [← rmap, List.length_map]
          have HFR : Hid (∀ r ∈ rowz, IsRec.fits r.1) := Lib.hid (fun r hr => hfit _ (by rw [← rmap]; exact List.mem_map.2 ⟨r, hr, rfl⟩))
          have HRC3 := Lib.hid rrc
          have HRW3 := Lib.hid rrw
          have HMAP := Lib.hid rmap
          have HLB : Hid ((h.log.length + rowz.length) * 88 ≤ 140737488351232) := Lib.hid (by have := HNL2.out; have := HNH.out; omega)
          obtain ⟨WX, hWX⟩ : ∃ q, (wr.alloc (.cells zHM 43)).setRow wr.heap.size (hArr h (.slice g1 h.shot.nodes.length q1) (.slice g2 h.shot.led.held.length q2) (.slice g3 h.shot.led.last.length q3) (.slice g4 h.log.length q4)) = q := ⟨_, rfl⟩
          have hsX : (wr.alloc (.cells zHM 43)).heap[wr.heap.size]? = some (.cells zHM 43 (0, 0)) := heap_alloc_new _ _
          have hbX : Below wr.heap.size wr WX := by rw [← hWX]; exact Ld.below_row ((Below.refl _ _).alloc (Nat.le_refl _) _) (Nat.le_refl _) _
          have HX0 : Hid (WX.heap[wr.heap.size]? = some (.cells (hArr h (.slice g1 h.shot.nodes.length q1) (.slice g2 h.shot.led.held.length q2) (.slice g3 h.shot.led.last.length q3) (.slice g4 h.log.length q4)) 43 (0, 0))) := Lib.hid (by rw [← hWX]; exact setRow_heap _ _ _ _ _ _ hsX)
          have HBX := Lib.hid (HB.out.trans (hbX.mono HB.out.size))
          have HBAX := Lib.hid hbX
          have HIX0 := Lib.hid (HIH.out.below HBX.out (Nat.le_refl _))
          have HRES2 := Lib.hid (HRES.out.below hbX (Nat.le_refl _))
          have HNX : Hid (FitsN h.log.length h) := Lib.hid ⟨HF.out.1, Nat.le_refl _, HF.out.2.2⟩
          clear hbX rrc rrw rmap hlen hfit HRO hown HR21 hrl HPV HKF
          go_wp2_with (first
            | (with_reducible refine wpList_load_row rfl 43 (.tmp 5) rfl w.heap.size rfl 43 (hArr h (.slice g1 h.shot.nodes.length q1) (.slice g2 h.shot.led.held.length q2) (.slice g3 h.shot.led.last.length q3) (.slice g4 h.log.length q4)) (0, 0) _ HA.out Try.underlying43 rfl (by kernel_rfl) ?_)
            | (with_reducible refine wpList_store_row rfl 43 (.tmp 22) (.tmp 116) rfl wr.heap.size (hArr h (.slice g1 h.shot.nodes.length q1) (.slice g2 h.shot.led.held.length q2) (.slice g3 h.shot.led.last.length q3) (.slice g4 h.log.length q4)) rfl rfl 43 _ hsX (by kernel_rfl) rfl (hArr_one _ _ _ _ _ _ _ _ _ _ _ _ _) ?_; rw [hWX]; clear hWX hsX))
          obtain ⟨gx, hgx⟩ : ∃ q, wr.heap.size = q := ⟨_, rfl⟩
          rw [hgx] at HX0 ⊢
          have HGX : Hid (w.heap.size ≤ gx ∧ gx < WX.heap.size) := Lib.hid ⟨by have := HB.out.size; omega, lt_of_row HX0.out⟩
          have HRC4 : Hid (∀ k (hk : k < rowz.length), ∃ b off, ra = some ⟨b, off, none⟩ ∧ b < wr.heap.size ∧ ∀ j u, (recC rowz[k])[j]? = some u → wr.cell? ⟨b, off + (k * 21 + j), none⟩ = some u) := Lib.hid (fun k hk => by
            obtain ⟨b, off, e1, e2, e3⟩ := Ld.rows_open hk HRC3.out
            exact ⟨b, off, e1, e2, fun j u hu => e3 k _ (Ld.rgetD hk) j u hu⟩)
          obtain ⟨WA, hWA⟩ : ∃ q, q = wr := ⟨_, rfl⟩
          rw [← hWA] at HRC4 HRW3 HRES hgx
          have HBA : Hid (Below gx WA WX) := Lib.hid (by rw [← hgx, hWA]; exact HBAX.out)
          go_loopw [119] (fun i wr => ∃ (k : Nat) (hc : Har) (a1 : Option Addr) (c1 : Nat) (a2 : Option Addr) (c2 : Nat) (a3 : Option Addr) (c3 : Nat) (a4 : Option Addr) (c4 : Nat), k ≤ rowz.length ∧ i = .int .i64 k ∧ Hid (wr.heap[gx]? = some (.cells (hArr hc (.slice a1 hc.shot.nodes.length c1) (.slice a2 hc.shot.led.held.length c2) (.slice a3 hc.shot.led.last.length c3) (.slice a4 hc.log.length c4)) 43 (0, 0))) ∧ Hid (IsHard wr (.agg (hArr hc (.slice a1 hc.shot.nodes.length c1) (.slice a2 hc.shot.led.held.length c2) (.slice a3 hc.shot.led.last.length c3) (.slice a4 hc.log.length c4))) hc) ∧ Hid (FitsN (h.log.length + k) hc) ∧ Hid (stepsOk h L ↔ stepsOk hc (L.drop k)) ∧ Hid (Below gx WX wr)) (fun i _ => rowz.length - (intOf i).toNat)
          case atStart => exact ⟨0, h, g1, q1, g2, q2, g3, q3, g4, q4, Nat.zero_le _, by rfl, HX0, HIX0, HNX, Lib.hid Iff.rfl, Lib.hid (Below.refl _ _)⟩
          case round =>
            obtain ⟨k, hc, a1, c1, a2, c2, a3, c3, a4, c4, hk, rfl, HA9, HI9, HFN9, HIF, HB9⟩ := hrel
            have HBW : Hid (Below w.heap.size w wr) := Lib.hid (HBX.out.trans (HB9.out.mono HGX.out.1))
            by_cases hlt : k < rowz.length
            · obtain ⟨b, off, hab, hbl, hcc⟩ := HRC4.out k hlt
              subst hab
              have hrg : wr.rangeAt b (off + k * 21) (recC rowz[k]) := rec_rangeG fun j u hu => ((HBA.out.trans HB9.out).cell (p := ⟨b, off + (k * 21 + j), none⟩) (by rw [← hgx]; exact hbl)).trans (hcc j u hu)
              have hkw := HRW3.out rowz[k] (List.getElem_mem hlt)
              have hkf := HFR.out rowz[k] (List.getElem_mem hlt)
              have hxg : L[k]? = some rowz[k].1 := by rw [← HMAP.out, List.getElem?_map, List.getElem?_eq_getElem hlt]; rfl
              clear hcc hbl
              generalize rowz[k] = r at hrg hkw hkf hxg
              obtain ⟨x, vc, vn, vh, vl⟩ := r
              obtain ⟨⟨t1, t2, t3, t4⟩, hxw⟩ := hkw
              dsimp only at t1 t2 t3 t4 hxw hkf hxg
              obtain ⟨p1, n1, rfl, -⟩ := id t1
              obtain ⟨p2, n2, rfl, -⟩ := id t2
              obtain ⟨p3, n3, rfl, -⟩ := id t3
              obtain ⟨p4, n4, rfl, -⟩ := id t4
              have hst : (wr.alloc (.cells zR 49)).heap[wr.heap.size]? = some (.cells zR 49 (0, 0)) := heap_alloc_new _ _
              obtain ⟨WR, hWR⟩ : ∃ q, (wr.alloc (.cells zR 49)).setRow wr.heap.size (rArr x (.slice p1 x.ent.cmd.nodes.length n1) (.slice p2 x.shot.nodes.length n2) (.slice p3 x.shot.led.held.length n3) (.slice p4 x.shot.led.last.length n4)) = q := ⟨_, rfl⟩
              have hbx : Below wr.heap.size wr WR := by rw [← hWR]; exact Ld.below_row ((Below.refl _ _).alloc (Nat.le_refl _) _) (Nat.le_refl _) _
              have HRR : Hid (WR.heap[wr.heap.size]? = some (.cells (rArr x (.slice p1 x.ent.cmd.nodes.length n1) (.slice p2 x.shot.nodes.length n2) (.slice p3 x.shot.led.held.length n3) (.slice p4 x.shot.led.last.length n4)) 49 (0, 0))) := Lib.hid (by rw [← hWR]; exact setRow_heap _ _ _ _ _ _ hst)
              have HAX := Lib.hid ((hbx.block _ (lt_of_row HA9.out)).trans HA9.out)
              have HBX9 := Lib.hid (HB9.out.trans (hbx.mono (Nat.le_trans (Nat.le_of_lt HGX.out.2) HB9.out.size)))
              have HIX := Lib.hid (HI9.out.below hbx (Nat.le_refl _))
              have HRX : Hid (IsRec WR (.agg (rArr x (.slice p1 x.ent.cmd.nodes.length n1) (.slice p2 x.shot.nodes.length n2) (.slice p3 x.shot.led.held.length n3) (.slice p4 x.shot.led.last.length n4))) x) := Lib.hid ⟨_, _, _, _, rfl, RecL.below (r := x) ⟨t1, t2, t3, t4⟩ ((HBA.out.mono (Nat.le_refl _)).trans HBX9.out) (Nat.le_of_eq hgx), hxw⟩
              have HKF9 := Lib.hid hkf
              have HDR := Lib.hid (drop_at hxg)
              have hkz : (k : Int) < (rowz.length : Int) := by omega
              clear t1 t2 t3 t4 hxw hbx hkf hxg
              go_wp2_with (first
                | (refine wpList_load_mid rfl 49 (.tmp 121) rfl b (off + k * 21) rfl (rArr x (.slice p1 x.ent.cmd.nodes.length n1) (.slice p2 x.shot.nodes.length n2) (.slice p3 x.shot.led.held.length n3) (.slice p4 x.shot.led.last.length n4)).toList _ hrg Try.underlying49 rfl (by kernel_rfl) ?_)
                | (with_reducible refine wpList_store_row rfl 49 (.tmp 24) (.tmp 122) rfl wr.heap.size (rArr x (.slice p1 x.ent.cmd.nodes.length n1) (.slice p2 x.shot.nodes.length n2) (.slice p3 x.shot.led.held.length n3) (.slice p4 x.shot.led.last.length n4)) rfl rfl 49 _ hst (by kernel_rfl) rfl (rArr_one _ _ _ _ _ _ _ _ _ _ _ _ _) ?_; rw [hWR]; clear hWR hst)
                | (with_reducible refine wpList_load_row rfl 43 (.tmp 22) rfl gx rfl 43 (hArr hc (.slice a1 hc.shot.nodes.length c1) (.slice a2 hc.shot.led.held.length c2) (.slice a3 hc.shot.led.last.length c3) (.slice a4 hc.log.length c4)) (0, 0) _ HAX.out Try.underlying43 rfl (by kernel_rfl) ?_)
                | (with_reducible refine wpList_load_row rfl 49 (.tmp 24) rfl wr.heap.size rfl 49 (rArr x (.slice p1 x.ent.cmd.nodes.length n1) (.slice p2 x.shot.nodes.length n2) (.slice p3 x.shot.led.held.length n3) (.slice p4 x.shot.led.last.length n4)) (0, 0) _ HRR.out Try.underlying49 rfl (by kernel_rfl) ?_))
              refine (rdo_any hc _ x _ _ HIX.out (HFN9.out.fits (by have := HLB.out; omega)) HRX.out HKF9.out).mono ?_
              rintro e w2 ⟨z, h2, un, uh, ul, ug, rfl, hz, own, hw, hb2⟩
              obtain ⟨d1, e1, d2, e2, d3, e3, d4, e4, rfl, rfl, rfl, rfl⟩ := OwnH.forms own hw
              have HZ := Lib.hid hz
              have HAN := Lib.hid ((hb2.block _ (lt_of_row HAX.out)).trans HAX.out)
              have hsY : (w2.alloc (.cells zHM 43)).heap[w2.heap.size]? = some (.cells zHM 43 (0, 0)) := heap_alloc_new _ _
              obtain ⟨WY, hWY⟩ : ∃ q, (w2.alloc (.cells zHM 43)).setRow w2.heap.size (hArr h2 (.slice d1 h2.shot.nodes.length e1) (.slice d2 h2.shot.led.held.length e2) (.slice d3 h2.shot.led.last.length e3) (.slice d4 h2.log.length e4)) = q := ⟨_, rfl⟩
              have hbY : Below w2.heap.size w2 WY := by rw [← hWY]; exact Ld.below_row ((Below.refl _ _).alloc (Nat.le_refl _) _) (Nat.le_refl _) _
              have HY0 : Hid (WY.heap[w2.heap.size]? = some (.cells (hArr h2 (.slice d1 h2.shot.nodes.length e1) (.slice d2 h2.shot.led.held.length e2) (.slice d3 h2.shot.led.last.length e3) (.slice d4 h2.log.length e4)) 43 (0, 0))) := Lib.hid (by rw [← hWY]; exact setRow_heap _ _ _ _ _ _ hsY)
              have han := (hbY.block _ (lt_of_row HAN.out)).trans HAN.out
              have HAY := Lib.hid han
              obtain ⟨WF, hWF⟩ : ∃ q, WY.setRow gx (hArr h2 (.slice d1 h2.shot.nodes.length e1) (.slice d2 h2.shot.led.held.length e2) (.slice d3 h2.shot.led.last.length e3) (.slice d4 h2.log.length e4)) = q := ⟨_, rfl⟩
              have HAF : Hid (WF.heap[gx]? = some (.cells (hArr h2 (.slice d1 h2.shot.nodes.length e1) (.slice d2 h2.shot.led.held.length e2) (.slice d3 h2.shot.led.last.length e3) (.slice d4 h2.log.length e4)) 43 (0, 0))) := Lib.hid (by rw [← hWF]; exact setRow_heap _ _ _ _ _ _ han)
              have HIFF : Hid (IsHard WF (.agg (hArr h2 (.slice d1 h2.shot.nodes.length e1) (.slice d2 h2.shot.led.held.length e2) (.slice d3 h2.shot.led.last.length e3) (.slice d4 h2.log.length e4))) h2) := Lib.hid (OwnH.hard (by rw [← hWF]; exact (own.map fun e sz v n xs q => owns_below hbY q).map fun e sz v n xs q => owns_row q (lt_of_row HAX.out)) hw)
              have HBY : Hid (Below gx WX WY) := Lib.hid ((HBX9.out.trans (hb2.mono (Nat.le_trans (Nat.le_of_lt HGX.out.2) HBX9.out.size))).trans (hbY.mono (Nat.le_trans (Nat.le_trans (Nat.le_of_lt HGX.out.2) HBX9.out.size) hb2.size)))
              have HBF : Hid (Below gx WX WF) := Lib.hid (by rw [← hWF]; exact Ld.below_row HBY.out (Nat.le_refl _) _)
              clear hz own hw hb2 han hrg hbY
              rcases HZ.out with ⟨rfl, hcan, he⟩ | ⟨rfl, hno, he⟩
              · have HFN2 : Hid (FitsN (h.log.length + (k + 1)) h2) := Lib.hid (by rw [he]; exact doH_fits HFN9.out HKF9.out)
                have HIF2 : Hid (stepsOk h L ↔ stepsOk h2 (L.drop (k + 1))) := Lib.hid (by rw [he]; refine HIF.out.trans ?_; rw [HDR.out]; exact ⟨fun g => g.2, fun g => ⟨hcan, g⟩⟩)
                clear HZ hcan he
                go_wp2_with (first
                  | (with_reducible refine wpList_store_row rfl 43 (.tmp 25) (.tmp 127) rfl w2.heap.size (hArr h2 (.slice d1 h2.shot.nodes.length e1) (.slice d2 h2.shot.led.held.length e2) (.slice d3 h2.shot.led.last.length e3) (.slice d4 h2.log.length e4)) rfl rfl 43 _ hsY (by kernel_rfl) rfl (hArr_one _ _ _ _ _ _ _ _ _ _ _ _ _) ?_; rw [hWY]; clear hWY hsY)
                  | (with_reducible refine wpList_load_row rfl 43 (.tmp 25) rfl w2.heap.size rfl 43 (hArr h2 (.slice d1 h2.shot.nodes.length e1) (.slice d2 h2.shot.led.held.length e2) (.slice d3 h2.shot.led.last.length e3) (.slice d4 h2.log.length e4)) (0, 0) _ HY0.out Try.underlying43 rfl (by kernel_rfl) ?_)
                  | (with_reducible refine wpList_store_row rfl 43 (.tmp 22) (.tmp 131) rfl gx (hArr h2 (.slice d1 h2.shot.nodes.length e1) (.slice d2 h2.shot.led.held.length e2) (.slice d3 h2.shot.led.last.length e3) (.slice d4 h2.log.length e4)) rfl rfl 43 _ HAY.out (by kernel_rfl) rfl (hArr_one _ _ _ _ _ _ _ _ _ _ _ _ _) ?_; rw [hWF]; clear hWF))
                go_roundw
                case rel => exact ⟨k + 1, h2, d1, e1, d2, e2, d3, e3, d4, e4, by omega, by go_num, HAF, HIFF, HFN2, HIF2, HBF⟩
                case measure => simp [intOf]; omega
              · have HNO : Hid (mergeV h i t0 c l0 = (3, [])) := Lib.hid (HMV.out.trans (tail_no HOUT.out (fun g => by have q := HIF.out.1 g; rw [HDR.out] at q; exact hno q.1)))
                have HBE : Hid (Below w.heap.size w WY) := Lib.hid (HBX.out.trans (HBY.out.mono HGX.out.1))
                clear HZ hno he
                go_wp2_with (first
                  | (with_reducible refine wpList_store_row rfl 43 (.tmp 25) (.tmp 127) rfl w2.heap.size (hArr h2 (.slice d1 h2.shot.nodes.length e1) (.slice d2 h2.shot.led.held.length e2) (.slice d3 h2.shot.led.last.length e3) (.slice d4 h2.log.length e4)) rfl rfl 43 _ hsY (by kernel_rfl) rfl (hArr_one _ _ _ _ _ _ _ _ _ _ _ _ _) ?_; rw [hWY]; clear hWY hsY) | fail)
                go_ret2
                exact mrg_of HNO.out (IsRecs.nil _) HBE.out
            · obtain rfl : k = rowz.length := by omega
              have HYS : Hid (mergeV h i t0 c l0 = (1, L)) := Lib.hid (HMV.out.trans (tail_yes HOUT.out (HIF.out.2 (by
                have hz : L.drop rowz.length = [] := List.drop_eq_nil_of_le (by rw [← HMAP.out, List.length_map]; exact Nat.le_refl _)
                rw [hz]
                trivial))))
              have HRF := Lib.hid (HRES.out.below (HBA.out.trans HB9.out) (Nat.le_of_eq hgx))
              go_wp2
              go_ret2
              exact mrg_of HYS.out HRF.out HBW.out
end Mg
end Go.Proofs.Ytlkgmjhejocobaa
