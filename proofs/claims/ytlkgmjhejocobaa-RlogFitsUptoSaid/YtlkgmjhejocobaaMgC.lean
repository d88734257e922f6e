/- The records that a merge wants: rlog.changes. No condition but the bounds of what may last. -/
import Derived.Test.YtlkgmjhejocobaaMgB
import Derived.Test.YtlkgmjhejocobaaRlA
import Derived.Test.YtlkgmjhejocobaaVcM
import Derived.Deep.MidRow
import Derived.Deep.CutRange
import Derived.Deep.CutBlock
import Derived.Deep.DeepCutAuto
namespace Go.Proofs.Ytlkgmjhejocobaa
open Go.ChangeShapes Go.WideShapes Go.ChangeAt Go.RowKit Go.Deep
set_option linter.unusedVariables false
set_option maxRecDepth 100000
namespace Mg
open Hd Rc Rl Nv Vc
abbrev zEA : Array Value := #[.int .u64 0, .int .i64 0, .int .i64 0, .int .i64 0, .slice none 0 0, .int .u64 0, .int .u64 0, .int .u64 0, .int .u64 0]
def cutV (h : Har) (o : Nat) (l : List Ent) : List RecR := if freshN (lgO h o) l < l.length then headV h o (freshN (lgO h o) l) else []
theorem chg_out {h : Har} {o F : Nat} {c : Int} {l : List Ent} (hf : freshN (lgO h o) l = F) (hF : F = l.length ∨ ¬ (o + F < h.log.length ∧ plc h o F ≤ c)) : partV h o c l l.length = some (cutV h o l ++ adds (plc h o F) ((l.drop F).take (l.length - F))) := by
  have hle := (fresh_le (lgO h o) l).1
  by_cases e : F = l.length
  · rw [part_low (by omega)]
    unfold cutV
    rw [if_neg (by omega), List.drop_eq_nil_of_le (by omega)]
    simp [adds]
  · have hn := hF.resolve_left e
    rw [part_some (by omega) (by rw [hf]; exact hn)]
    unfold cutV
    rw [if_pos (by omega), hf]
theorem cutV_len (h : Har) (o : Nat) (l : List Ent) : (cutV h o l).length ≤ 1 := by
  unfold cutV headV
  split
  · split <;> simp
  · simp
theorem adds_len : ∀ (p : Int) (l : List Ent), (adds p l).length = l.length
  | _, [] => rfl
  | p, x :: l => by simp [adds, adds_len (p + 1) l]
theorem rec_nil {w : World} {B : Nat} (x : RecR) (h : x.ent.cmd.nodes = []) (hs : x.shot = zShoV) (hw : x.wf) : RecO w B (x, .slice none 0 0, .slice none 0 0, .slice none 0 0, .slice none 0 0) :=
  ⟨⟨by rw [h]; exact OwnK.nil .i64 3 w B, by rw [hs]; exact OwnK.nil .i64 3 w B, by rw [hs]; exact OwnR.nil _ _ _, by rw [hs]; exact OwnR.nil _ _ _⟩, by rw [h]; simp, by rw [hs]; simp [zShoV], hw⟩
theorem cutR_wf {i : Int} (h0 : 0 ≤ i) (h1 : i ≤ 18446744073709551615) : (cutR i).wf := ⟨by simp [cutR]; decide, by simp [cutR]; decide, by simp [cutR]; decide, by simp [cutR]; decide, (WalkArith.wf_u64 ⟨h0, by omega⟩ : (Lit.int .u64 i).wf = true), zEnt_wf, zSho_wf⟩
theorem addR_wf {i : Int} {x : Ent} (h0 : 0 ≤ i) (h1 : i ≤ 18446744073709551615) (hx : x.wf) : (addR i x).wf := ⟨by simp [addR]; decide, by simp [addR]; decide, by simp [addR]; decide, by simp [addR]; decide, (WalkArith.wf_u64 ⟨h0, by omega⟩ : (Lit.int .u64 i).wf = true), hx, zSho_wf⟩
theorem rows_app {w1 w2 : World} {o : Obj} {B : Nat} {v v2 : Value} {rows : List RRow} {x : RRow} (own : OwnR 21 recC 49 w1 B v rows) (h2 : ∀ r ∈ rows, RecO w1 B r) (hx : RecO (w1.alloc o) B x) (hg : (w1.alloc o).grownBy w2 v.ownBlock) (own2 : OwnR 21 recC 49 w2 B v2 (rows ++ [x])) : Rows21 w2 B v2 (rows.map Prod.fst ++ [x.1]) :=
  rows_step (own.alloc _) (fun r hr => (h2 r hr).map fun e sz u n xs _ q => q.alloc _) hx hg own2
theorem term_plc {h : Har} {o k : Nat} (hk : o + k < h.log.length) : termP h (h.shot.index + (o : Int) + 1 + (k : Int)) = (h.log[o + k].term, true) := by
  refine termP_log (by omega) (by unfold lastI; omega) ?_
  rw [show (h.shot.index + (o : Int) + 1 + (k : Int) - h.shot.index).toNat - 1 = o + k by omega, List.getElem?_eq_getElem hk]
theorem term_pln {h : Har} {o k : Nat} (hk : h.log.length ≤ o + k) : termP h (h.shot.index + (o : Int) + 1 + (k : Int)) = (0, false) :=
  termP_none (by omega) (by unfold lastI; omega)
/-- what changes answers: the records, or that one that is committed would go -/
def Chg (h : Har) (o : Nat) (c : Int) (l : List Ent) (w : World) (e : Ending) (w' : World) : Prop := ∃ v b out, e = .returned (.tuple #[v, .bool b]) ∧ ((b = true ∧ partV h o c l l.length = some out) ∨ (b = false ∧ partV h o c l l.length = none ∧ out = [])) ∧ Rows21 w' w.heap.size v out ∧ Below w.heap.size w w'
set_option maxHeartbeats 8000000 in
theorem changes_any (h : Har) (vv : Value) (o : Nat) (c : Int) (l : List Ent) (lv : Value) (w : World) (hh : IsHard w vv h) (ok : hardOk h) (ho : o ≤ h.log.length) (hl : IsLog w lv l) (hlf : ∀ x ∈ l, IsCmd.fits x.cmd) (hN : l.length ≤ 4294967296) (hc0 : 0 ≤ c) (hc1 : c ≤ 18446744073709551615) : Calls Try.prog 71 #[vv, .int .u64 (h.shot.index + (o : Int)), .int .u64 c, lv] w (Chg h o c l w) := by
  have hft := fit_of (IsHard.harW hh).1 ok
  obtain ⟨vn, vh, vl, vg, rfl, hn, hhe, hll, hg, hwf⟩ := id hh
  obtain ⟨g1, q1, rfl, -⟩ := id hn
  obtain ⟨g2, q2, rfl, -⟩ := id hhe
  obtain ⟨g3, q3, rfl, -⟩ := id hll
  obtain ⟨g4, q4, rfl, -⟩ := IsLog.len hg
  obtain ⟨rows0, a, cap, rfl, hrl, hlc, hcm, hrc, hes, hget⟩ := log_rows hl
  have hb0 : Below w.heap.size w (w.alloc (.cells (hArr h (.slice g1 h.shot.nodes.length q1) (.slice g2 h.shot.led.held.length q2) (.slice g3 h.shot.led.last.length q3) (.slice g4 h.log.length q4)) 43)) := (Below.refl _ _).alloc (Nat.le_refl _) _
  have HA0 : Hid ((w.alloc (.cells (hArr h (.slice g1 h.shot.nodes.length q1) (.slice g2 h.shot.led.held.length q2) (.slice g3 h.shot.led.last.length q3) (.slice g4 h.log.length q4)) 43)).heap[w.heap.size]? = some (.cells (hArr h (.slice g1 h.shot.nodes.length q1) (.slice g2 h.shot.led.held.length q2) (.slice g3 h.shot.led.last.length q3) (.slice g4 h.log.length q4)) 43 (0, 0))) := Lib.hid (heap_alloc_new _ _)
  have HB0 := Lib.hid hb0
  have HIH := Lib.hid hh
  have HRC := Lib.hid hrc
  have HES := Lib.hid hes
  have HGET := Lib.hid hget
  have HRL := Lib.hid hrl
  have HLF := Lib.hid hlf
  have HNL := Lib.hid hN
  have HFT := Lib.hid hft
  obtain ⟨F, hFN⟩ : ∃ q, freshN (lgO h o) l = q := ⟨_, rfl⟩
  have HFN := Lib.hid hFN
  have hFL := (fresh_le (lgO h o) l).1
  rw [hFN] at hFL
  have FLE := Lib.hid hFL
  have FST : Hid (∀ k x, k ≤ F → l[k]? = some x → (k + 1 ≤ F ↔ ∃ a, (lgO h o)[k]? = some a ∧ a.term = x.term)) := Lib.hid (fun k x hk hx => by subst hFN; exact fresh_step hk hx)
  have FMS : Hid (∀ k x, k ≤ F → l[k]? = some x → (∀ a, (lgO h o)[k]? = some a → a.term ≠ x.term) → F = k) := Lib.hid (fun k x hk hx hn => by
    have q := FST.out k x hk hx
    rcases Nat.lt_or_ge k F with g | g
    · obtain ⟨a, h1, h2⟩ := q.1 g
      exact absurd h2 (hn a h1)
    · omega)
  have TPY : Hid (∀ k (hk : o + k < h.log.length), termP h (h.shot.index + (o : Int) + 1 + (k : Int)) = (h.log[o + k].term, true)) := Lib.hid (fun k hk => term_plc hk)
  have TPN : Hid (∀ k, h.log.length ≤ o + k → termP h (h.shot.index + (o : Int) + 1 + (k : Int)) = (0, false)) := Lib.hid (fun k hk => term_pln hk)
  have PLC : Hid (∀ k : Nat, k < l.length → IntKind.u64.wrap (k : Int) = (k : Int) ∧ IntKind.u64.wrap (h.shot.index + (o : Int) + 1 + (k : Int)) = h.shot.index + (o : Int) + 1 + (k : Int) ∧ 0 ≤ h.shot.index + (o : Int) + 1 + (k : Int) ∧ h.shot.index + (o : Int) + 1 + (k : Int) ≤ 18446744073709551615) := Lib.hid (fun k hk => by
    obtain ⟨f0, f1⟩ := hft
    refine ⟨?_, ?_, by omega, by omega⟩
    · unfold IntKind.wrap
      simp [IntKind.signed, IntKind.bits]
      omega
    · unfold IntKind.wrap
      simp [IntKind.signed, IntKind.bits]
      omega)
  have BADN : Hid (F < l.length → o + F < h.log.length → h.shot.index + (o : Int) + 1 + (F : Int) ≤ c → partV h o c l l.length = none) := Lib.hid (fun h1 h2 h3 => part_none (by omega) (by rw [hFN]; exact h2) (by rw [hFN]; unfold plc; omega))
  have CUTY : Hid (F < l.length → o + F < h.log.length → cutV h o l = [cutR (h.shot.index + (o : Int) + 1 + (F : Int))]) := Lib.hid (fun h1 h2 => by
    unfold cutV
    rw [hFN, if_pos h1]
    unfold headV
    rw [if_pos h2]
    congr 2
    unfold plc
    omega)
  have CUTN : Hid (h.log.length ≤ o + F → cutV h o l = []) := Lib.hid (fun h1 => by
    unfold cutV
    rw [hFN]
    split
    · unfold headV
      rw [if_neg (by omega)]
    · rfl)
  have CUTE : Hid (F = l.length → cutV h o l = []) := Lib.hid (fun h1 => by
    unfold cutV
    rw [hFN, if_neg (by omega)])
  have hbx0 : 0 ≤ h.shot.index + (o : Int) := by have := hft.1; omega
  have hbx1 : h.shot.index + (o : Int) ≤ 4611686018427387904 := by have := hft.2; omega
  clear hh hn hhe hll hg hwf hrc hes hget hl hlf hb0 hft hFN hFL ok ho hrl
  go_enter Try.func71, Try.ntmps71
  go_wp2_with fail
  go_step3
  go_wp2_with fail
  go_step3
  go_upto_block 0 with fail
  go_cut [10, 11] (fun s10 s11 wx => ∃ sv, sv = s10 ∧ s11 = .int .i64 F ∧ Hid (Rows21 wx w.heap.size sv (cutV h o l)) ∧ (F = l.length ∨ ¬ (o + F < h.log.length ∧ plc h o F ≤ c)) ∧ Hid (Below w.heap.size w wx))
  case first =>
    go_wp2_with fail
    go_loopw [10, 11, 24] (fun s t i wr => ∃ k : Nat, k ≤ l.length ∧ k ≤ F ∧ i = .int .i64 k ∧ s = .slice none 0 0 ∧ t = .int .i64 l.length ∧ Hid (wr.heap[w.heap.size]? = some (.cells (hArr h (.slice g1 h.shot.nodes.length q1) (.slice g2 h.shot.led.held.length q2) (.slice g3 h.shot.led.last.length q3) (.slice g4 h.log.length q4)) 43 (0, 0))) ∧ Hid (Below w.heap.size w wr)) (fun _ _ i _ => l.length - (intOf i).toNat)
    case atStart => exact ⟨0, Nat.zero_le _, Nat.zero_le _, rfl, rfl, rfl, HA0, HB0⟩
    case round =>
      obtain ⟨k, hk, hkF, rfl, rfl, rfl, HA, HB⟩ := hrel
      by_cases hlt : k < l.length
      · have hrl0 := HRL.out
        obtain ⟨b, off, hab, hbl, hcc⟩ := Ld.rows_open (show k < rows0.length by omega) HRC.out
        subst hab
        have hkl : k < rows0.length := by omega
        have hrg : wr.rangeAt b (off + k * 9) (entC rows0[k]) := fun jj u hu => by
          have q := (HB.out.cell (p := ⟨b, off + ((k) * 9 + jj), none⟩) hbl).trans (hcc (k) _ (Ld.rgetD hkl) jj u hu)
          have e : (off + k * 9) + jj = off + ((k) * 9 + jj) := by omega
          rw [e]
          exact q
        have hxe := HES.out rows0[k] (List.getElem_mem hkl)
        have hxg : l[k]? = some rows0[k].1 := HGET.out (k) hkl
        clear hcc hbl
        generalize rows0[k] = rk at hrg hxe hxg
        obtain ⟨x, vx⟩ := rk
        dsimp only at hxe hxg
        obtain ⟨hxs, hxw⟩ := hxe
        obtain ⟨ax, cx, rfl, -⟩ := id hxs
        have hsE : (wr.alloc (.cells zEA 47)).heap[wr.heap.size]? = some (.cells zEA 47 (0, 0)) := heap_alloc_new _ _
        obtain ⟨W1, hW1⟩ : ∃ q, (wr.alloc (.cells zEA 47)).setRow wr.heap.size (entC (x, .slice ax x.cmd.nodes.length cx)).toArray = q := ⟨_, rfl⟩
        have hbE : Below wr.heap.size wr W1 := by rw [← hW1]; exact Ld.below_row ((Below.refl _ _).alloc (Nat.le_refl _) _) (Nat.le_refl _) _
        have HE1 : Hid (W1.heap[wr.heap.size]? = some (.cells (entC (x, .slice ax x.cmd.nodes.length cx)).toArray 47 (0, 0))) := Lib.hid (by rw [← hW1]; exact setRow_heap _ _ _ _ _ _ hsE)
        have HB1 := Lib.hid (HB.out.trans (hbE.mono HB.out.size))
        have HXG := Lib.hid hxg
        have HXW := Lib.hid hxw
        have HA1 := Lib.hid ((hbE.block _ (lt_of_row HA.out)).trans HA.out)
        have HI1 := Lib.hid (HIH.out.below HB1.out (Nat.le_refl _))
        have hkz : (k : Int) < (l.length : Int) := by omega
        obtain ⟨p1, p2, p3, p4⟩ := PLC.out k hlt
        clear hbE hxs hxw hxg hrl0
        go_wp2_with (first
          | (with_reducible refine wpList_load_mid rfl 47 (.tmp 27) rfl b (off + k * 9) rfl (entC (x, .slice ax x.cmd.nodes.length cx)) _ hrg Try.underlying47 rfl (by kernel_rfl) ?_)
          | (with_reducible refine wpList_store_row rfl 47 (.tmp 13) (.tmp 28) rfl wr.heap.size (entC (x, .slice ax x.cmd.nodes.length cx)).toArray rfl rfl 47 _ hsE (by kernel_rfl) rfl (ent_all _ _ _ _) ?_; rw [hW1]; clear hW1 hsE)
          | (with_reducible refine wpList_load_row rfl 43 (.tmp 4) rfl w.heap.size rfl 43 (hArr h (.slice g1 h.shot.nodes.length q1) (.slice g2 h.shot.led.held.length q2) (.slice g3 h.shot.led.last.length q3) (.slice g4 h.log.length q4)) (0, 0) _ HA1.out Try.underlying43 rfl (by kernel_rfl) ?_))
        refine (termAt_any h _ (h.shot.index + (o : Int) + 1 + (k : Int)) _ HI1.out HFT.out p3 p4).mono ?_
        rintro e w2 ⟨rfl, hb2⟩
        have HB2 := Lib.hid (HB1.out.trans (hb2.mono HB1.out.size))
        have HA2 := Lib.hid ((hb2.block _ (lt_of_row HA1.out)).trans HA1.out)
        have hE2 := (hb2.block _ (lt_of_row HE1.out)).trans HE1.out
        have x0 := (cell_of_row w2 _ 0 _ _ _ hE2).trans rfl
        clear hb2 hE2 hrg
        by_cases c1 : o + k < h.log.length
        · rw [TPY.out k c1]
          obtain ⟨t, ht⟩ : ∃ q, h.log[o + k].term = q := ⟨_, rfl⟩
          rw [ht]
          by_cases c2 : t = x.term
          · have n2 : (t != x.term) = false := by rw [bne, beq_iff_eq.2 c2]; rfl
            have HK1 : Hid (k + 1 ≤ F) := Lib.hid (FST.out k x hkF HXG.out |>.2 ⟨h.log[o + k], (List.getElem?_drop).trans (List.getElem?_eq_getElem c1), ht.trans c2⟩)
            clear c2 ht
            go_wp2_with fail
            go_roundw
            case rel => exact ⟨k + 1, by omega, HK1.out, by go_num, rfl, rfl, HA2, HB2⟩
            case measure => simp [intOf]; omega
          · have n2 : (t != x.term) = true := by rw [bne, beq_eq_false_iff_ne.2 c2]; rfl
            have hFk : F = k := FMS.out k x hkF HXG.out (fun a ha => by
              rw [List.getElem?_drop, List.getElem?_eq_getElem c1] at ha
              obtain rfl := Option.some.inj ha
              rw [ht]; exact c2)
            subst hFk
            clear ht
            by_cases c3 : h.shot.index + (o : Int) + 1 + (F : Int) ≤ c
            · have HNO : Hid (partV h o c l l.length = none) := Lib.hid (BADN.out hlt c1 c3)
              clear c2
              go_wp2_with fail
              go_ret2
              exact ⟨_, false, [], rfl, .inr ⟨rfl, HNO.out, rfl⟩, Rows21.nil _ _, HB2.out⟩
            · have HNB : Hid (¬ (o + F < h.log.length ∧ plc h o F ≤ c)) := Lib.hid (fun q => c3 (by have := q.2; unfold plc at this; omega))
              have HCV : Hid (cutV h o l = [cutR (h.shot.index + (o : Int) + 1 + (F : Int))]) := Lib.hid (CUTY.out hlt c1)
              have ownN : OwnR 21 recC 49 w2 w.heap.size (.slice none 0 0) ([] : List RRow) := OwnR.nil _ _ _
              obtain ⟨vN, hvN⟩ : ∃ q, q = Value.slice none 0 0 := ⟨_, rfl⟩
              rw [← hvN] at ownN ⊢
              clear hvN c2
              go_wp2_with (at_builtin; refine appRL recC_len Try.underlying57 rfl (by decide) info_rec rfl _ _ rfl w.heap.size vN [] rfl ?own31 _ [(cutR (h.shot.index + (o : Int) + 1 + (F : Int)), .slice none 0 0, .slice none 0 0, .slice none 0 0, .slice none 0 0)] rfl ?sl31 ?one31 ?len31 ?mem31 ?base31 ?next31)
              case own31 => exact ownN.alloc _
              case sl31 => exact SlR.one recC_len _ w2.heap.size rfl _ _ rfl
              case one31 => first | exact rec_one _ _ _ _ _ _ _ _ _ _ _ _ _ | exact fun u hu => rec_one _ _ _ _ _ _ _ _ _ _ _ _ _ _ (List.mem_singleton.2 rfl) u hu
              case len31 => (unfold maxLen; simp)
              case mem31 => simp
              case base31 => (have := HB2.out.size; simp; omega)
              intro v3 w3 own3 hg3
              have HX3 := Lib.hid (Below.ownA HB2.out HB2.out.size ownN hg3)
              have HR3 := Lib.hid (rows_app (o := _) ownN (fun r hr => by simp at hr) (rec_nil _ rfl rfl (cutR_wf p3 p4)) hg3 own3)
              have HR4 : Hid (Rows21 w3 w.heap.size v3 (cutV h o l)) := Lib.hid (by rw [HCV.out]; exact HR3.out)
              clear hg3 own3 ownN
              go_wp2_with fail
              go_meet
              exact ⟨_, rfl, rfl, HR4, .inr HNB.out, HX3⟩
        · rw [TPN.out k (by omega)]
          have hFk : F = k := FMS.out k x hkF HXG.out (fun a ha => by
            rw [List.getElem?_drop, List.getElem?_eq_none (by omega)] at ha
            cases ha)
          subst hFk
          have HNB : Hid (¬ (o + F < h.log.length ∧ plc h o F ≤ c)) := Lib.hid (fun q => c1 q.1)
          have HCV : Hid (cutV h o l = []) := Lib.hid (CUTN.out (by omega))
          have HR4 : Hid (Rows21 w2 w.heap.size (.slice none 0 0) (cutV h o l)) := Lib.hid (by rw [HCV.out]; exact Rows21.nil _ _)
          go_wp2_with fail
          go_meet
          exact ⟨_, rfl, rfl, HR4, .inr HNB.out, HB2⟩
      · obtain rfl : k = l.length := by omega
        have hFk : F = l.length := by have := FLE.out; omega
        subst hFk
        have HCV : Hid (cutV h o l = []) := Lib.hid (CUTE.out rfl)
        have HR4 : Hid (Rows21 wr w.heap.size (.slice none 0 0) (cutV h o l)) := Lib.hid (by rw [HCV.out]; exact Rows21.nil _ _)
        go_wp2_with fail
        go_meet
        exact ⟨_, rfl, rfl, HR4, by simp, HB⟩
  case rest =>
    obtain ⟨sv, rfl, rfl, HRS, hend, HBC⟩ := hcut
    have HEND := Lib.hid hend
    clear hend
    have hFL := FLE.out
    rcases HRC.out with ⟨rfl, rfl, hr0⟩ | ⟨b, off, sp, rfl, hr0⟩
    · have hl0 : l.length = 0 := by have := HRL.out; rw [hr0] at this; simp at this; omega
      obtain rfl : F = 0 := by omega
      clear hr0
      have hz : ¬ ((0 : Int) < (l.length : Int)) := by omega
      have HLZ : Hid (l.drop 0 = []) := Lib.hid (List.drop_eq_nil_of_le (by omega))
      have HOUT := Lib.hid (chg_out (c := c) (HFN.out) HEND.out)
      have HR5 : Hid (Rows21 wc w.heap.size sv (cutV h o l ++ adds (plc h o 0) ((l.drop 0).take (l.length - 0)))) := Lib.hid (by rw [HLZ.out]; simpa [adds] using HRS.out)
      go_wp2_with fail
      go_loopw [10, 63] (fun s i wr => i = .int .i64 0 ∧ s = sv ∧ wr = wc) (fun _ i _ => 0)
      case atStart => exact ⟨rfl, rfl, rfl⟩
      case round =>
        obtain ⟨rfl, rfl, rfl⟩ := hrel
        go_wp2_with fail
        go_ret2
        exact ⟨_, true, _, rfl, .inl ⟨rfl, HOUT.out⟩, HR5.out, HBC.out⟩
    · by_cases hF : F < l.length
      · have hFz : (F : Int) ≤ (l.length : Int) := by omega
        have hFc : (F : Int) < (cap : Int) := by omega
        obtain rfl : sp = none := by
          rcases hr0 with h0 | ⟨h0, -⟩
          · exfalso
            have := HRL.out
            rw [h0] at this
            simp at this
            omega
          · exact h0
        clear hr0
        obtain ⟨rowsS, ownS, hdS, hmS⟩ := HRS.out
        have HDS := Lib.hid hdS
        have HMS := Lib.hid hmS
        have HOUT := Lib.hid (chg_out (c := c) (HFN.out) HEND.out)
        clear hdS hmS
        go_wp2_with fail
        go_loopw [10, 63] (fun s i wr => ∃ (j : Nat) (rows : List RRow), F + j ≤ l.length ∧ i = .int .i64 j ∧ OwnR 21 recC 49 wr w.heap.size s rows ∧ Hid ((∀ r ∈ rows, RecO wr w.heap.size r) ∧ rows.map Prod.fst = cutV h o l ++ adds (plc h o F) ((l.drop F).take j)) ∧ Hid (Below w.heap.size w wr)) (fun _ i _ => l.length - F - (intOf i).toNat)
        case atStart => exact ⟨0, rowsS, by omega, rfl, ownS, Lib.hid ⟨HDS.out, by rw [HMS.out]; simp [adds]⟩, HBC⟩
        case round =>
          obtain ⟨j, rows, hj, rfl, hown, HDD, HB⟩ := hrel
          by_cases hlt : F + j < l.length
          · have hrl0 := HRL.out
            obtain ⟨b2, off2, hab, hbl, hcc⟩ := Ld.rows_open (show (F + j) < rows0.length by omega) HRC.out
            simp only [Option.some.injEq, Addr.mk.injEq, and_true] at hab
            obtain ⟨rfl, rfl⟩ := hab
            have hkl : (F + j) < rows0.length := by omega
            have hrg : wr.rangeAt b (off + F * 9 + j * 9) (entC rows0[(F + j)]) := fun jj u hu => by
              have q := (HB.out.cell (p := ⟨b, off + (((F + j)) * 9 + jj), none⟩) hbl).trans (hcc ((F + j)) _ (Ld.rgetD hkl) jj u hu)
              have e : (off + F * 9 + j * 9) + jj = off + (((F + j)) * 9 + jj) := by omega
              rw [e]
              exact q
            have hxe := HES.out rows0[(F + j)] (List.getElem_mem hkl)
            have hxg : l[(F + j)]? = some rows0[(F + j)].1 := HGET.out ((F + j)) hkl
            clear hcc hbl
            generalize rows0[(F + j)] = rk at hrg hxe hxg
            obtain ⟨x, vx⟩ := rk
            dsimp only at hxe hxg
            obtain ⟨hxs, hxw⟩ := hxe
            obtain ⟨ax, cx, rfl, -⟩ := id hxs
            have hsE : (wr.alloc (.cells zEA 47)).heap[wr.heap.size]? = some (.cells zEA 47 (0, 0)) := heap_alloc_new _ _
            obtain ⟨W1, hW1⟩ : ∃ q, (wr.alloc (.cells zEA 47)).setRow wr.heap.size (entC (x, .slice ax x.cmd.nodes.length cx)).toArray = q := ⟨_, rfl⟩
            have hbE : Below wr.heap.size wr W1 := by rw [← hW1]; exact Ld.below_row ((Below.refl _ _).alloc (Nat.le_refl _) _) (Nat.le_refl _) _
            have HE1 : Hid (W1.heap[wr.heap.size]? = some (.cells (entC (x, .slice ax x.cmd.nodes.length cx)).toArray 47 (0, 0))) := Lib.hid (by rw [← hW1]; exact setRow_heap _ _ _ _ _ _ hsE)
            have HB1 := Lib.hid (HB.out.trans (hbE.mono HB.out.size))
            have HXG := Lib.hid hxg
            have HXW := Lib.hid hxw
            have hfx := HLF.out x (List.mem_of_getElem? hxg)
            have hjz : (j : Int) < ((l.length - F : Nat) : Int) := by omega
            have hjz2 : (j : Int) < (l.length : Int) - (F : Int) := by omega
            obtain ⟨p1, p2, p3, p4⟩ := PLC.out (F + j) hlt
            have p1' : IntKind.u64.wrap ((F : Int) + (j : Int)) = (F : Int) + (j : Int) := by have q := p1; push_cast at q; exact q
            have p2' : IntKind.u64.wrap (h.shot.index + (o : Int) + 1 + ((F : Int) + (j : Int))) = h.shot.index + (o : Int) + 1 + ((F : Int) + (j : Int)) := by have q := p2; push_cast at q; exact q
            have hrlen : rows.length ≤ l.length + 1 := by
              have q1 := congrArg List.length HDD.out.2
              have q2 := cutV_len h o l
              have q3 := adds_len (plc h o F) ((l.drop F).take j)
              rw [List.length_map, List.length_append, q3, List.length_take, List.length_drop] at q1
              omega
            have HIE : Hid (Hd.IsEnt W1 (.agg (entC (x, .slice ax x.cmd.nodes.length cx)).toArray) x) := Lib.hid ⟨_, rfl, (hxs.below HB.out (Nat.le_refl _)).below hbE (Nat.le_refl _), hxw⟩
            have HSW := Lib.hid (hxs.wf)
            have HS1 : Hid (w.heap.size ≤ W1.heap.size) := Lib.hid HB1.out.size
            have HO1 := Lib.hid (owns_below hbE hown)
            have HD1 : Hid (∀ r ∈ rows, RecO W1 w.heap.size r) := Lib.hid (fun r hr => (HDD.out.1 r hr).map fun e sz u n xs _ q => owns_below hbE q)
            clear hbE hxs hxw hxg hown hrl0
            go_wp2_with (first
              | (with_reducible refine wpList_load_mid rfl 47 (.tmp 66) rfl b (off + F * 9 + j * 9) rfl (entC (x, .slice ax x.cmd.nodes.length cx)) _ hrg Try.underlying47 rfl (by kernel_rfl) ?_)
              | (with_reducible refine wpList_store_row rfl 47 (.tmp 18) (.tmp 67) rfl wr.heap.size (entC (x, .slice ax x.cmd.nodes.length cx)).toArray rfl rfl 47 _ hsE (by kernel_rfl) rfl (ent_all _ _ _ _) ?_; rw [hW1]; clear hW1 hsE)
              | (with_reducible refine wpList_load_row rfl 47 (.tmp 18) rfl wr.heap.size rfl 47 (entC (x, .slice ax x.cmd.nodes.length cx)).toArray (0, 0) _ HE1.out Try.underlying47 rfl (by kernel_rfl) ?_))
            refine (Vc.ent_own x _ _ HIE.out hfx).mono ?_
            rintro e w6 ⟨vn6, rfl, o6, hb6⟩
            obtain ⟨a6, c6, rfl, -⟩ := o6.sl HSW.out
            have ho6 : OwnK .i64 3 w6 w.heap.size (.slice a6 x.cmd.nodes.length c6) x.cmd.nodes := OwnK.lower o6 HS1.out
            have own6 := owns_below hb6 HO1.out
            have HD6 : Hid (∀ r ∈ rows, RecO w6 w.heap.size r) := Lib.hid (fun r hr => (HD1.out r hr).map fun e sz u n xs _ q => owns_below hb6 q)
            have HB6 := Lib.hid (HB1.out.trans (hb6.mono HB1.out.size))
            have HO6 := Lib.hid ho6
            clear o6 hb6 ho6 hrg
            go_wp2_with (at_builtin; refine appRL recC_len Try.underlying57 rfl (by decide) info_rec rfl _ _ rfl w.heap.size _ rows rfl ?own41 _ [(addR (h.shot.index + (o : Int) + 1 + ((F : Int) + (j : Int))) x, .slice a6 x.cmd.nodes.length c6, .slice none 0 0, .slice none 0 0, .slice none 0 0)] rfl ?sl41 ?one41 ?len41 ?mem41 ?base41 ?next41)
            case own41 => exact own6.alloc _
            case sl41 => exact SlR.one recC_len _ w6.heap.size rfl _ _ rfl
            case one41 => first | exact rec_one _ _ _ _ _ _ _ _ _ _ _ _ _ | exact fun u hu => rec_one _ _ _ _ _ _ _ _ _ _ _ _ _ _ (List.mem_singleton.2 rfl) u hu
            case len41 => (have := HNL.out; unfold maxLen; simp; omega)
            case mem41 => (have := HNL.out; simp; omega)
            case base41 => (have := HB6.out.size; simp; omega)
            intro v7 w7 own7 hg7
            have hro : RecO w6 w.heap.size (addR (h.shot.index + (o : Int) + 1 + ((F : Int) + (j : Int))) x, .slice a6 x.cmd.nodes.length c6, .slice none 0 0, .slice none 0 0, .slice none 0 0) := ⟨⟨HO6.out, OwnK.nil .i64 3 _ _, OwnR.nil _ _ _, OwnR.nil _ _ _⟩, HSW.out, by simp [addR, zShoV], addR_wf (by have q := p3; push_cast at q; exact q) (by have q := p4; push_cast at q; exact q) HXW.out⟩
            obtain ⟨rows7, own7', rec7, map7⟩ := rows_app own6 HD6.out (hro.map fun e sz u n xs _ q => q.alloc _) hg7 own7
            have HX7 := Lib.hid (Below.ownA HB6.out HB6.out.size own6 hg7)
            have HM7 : Hid (rows7.map Prod.fst = cutV h o l ++ adds (plc h o F) ((l.drop F).take (j + 1))) := Lib.hid (by
              rw [map7, HDD.out.2, List.take_add_one, List.getElem?_drop, HXG.out, List.append_assoc]
              simp only [Option.toList_some]
              rw [adds_snoc, List.length_take, List.length_drop, Nat.min_eq_left (by omega)]
              congr 3
              show _ = addR (h.shot.index + (o : Int) + (F : Int) + 1 + (j : Int)) x
              congr 1
              omega)
            have HR7 := Lib.hid rec7
            have HW7 := Lib.hid own7'
            clear map7 own7 own7' rec7 own6 hro hg7
            go_wp2_with fail
            go_roundw
            case rel => exact ⟨j + 1, rows7, by omega, by go_num, HW7.out, Lib.hid ⟨HR7.out, HM7.out⟩, HX7⟩
            case measure => simp [intOf]; omega
          · obtain rfl : j = l.length - F := by omega
            have HRF : Hid (Rows21 wr w.heap.size _ (cutV h o l ++ adds (plc h o F) ((l.drop F).take (l.length - F)))) := Lib.hid ⟨rows, hown, HDD.out.1, HDD.out.2⟩
            have hjz3 : ¬ (((l.length - F : Nat) : Int) < (l.length : Int) - (F : Int)) := by omega
            have HBF := Lib.hid HB.out
            clear hown HDD HB
            go_wp2_with fail
            go_ret2
            exact ⟨_, true, _, rfl, .inl ⟨rfl, HOUT.out⟩, HRF.out, HBF.out⟩
      · have hFe : F = l.length := by omega
        have hFz : (F : Int) = (l.length : Int) := by omega
        clear hr0
        by_cases hc : cap = F
        · obtain rfl : F = cap := hc.symm
          have HLZ : Hid (l.drop F = []) := Lib.hid (List.drop_eq_nil_of_le (by omega))
          have HOUT := Lib.hid (chg_out (c := c) (HFN.out) HEND.out)
          have HR5 : Hid (Rows21 wc w.heap.size sv (cutV h o l ++ adds (plc h o F) ((l.drop F).take (l.length - F)))) := Lib.hid (by rw [HLZ.out]; simpa [adds] using HRS.out)
          go_wp2_with fail
          go_loopw [10, 63] (fun s i wr => i = .int .i64 0 ∧ s = sv ∧ wr = wc) (fun _ i _ => 0)
          case atStart => exact ⟨rfl, rfl, rfl⟩
          case round =>
            obtain ⟨rfl, rfl, rfl⟩ := hrel
            go_wp2_with fail
            go_ret2
            exact ⟨_, true, _, rfl, .inl ⟨rfl, HOUT.out⟩, HR5.out, HBC.out⟩
        · have hFc : (F : Int) < (cap : Int) := by omega
          have HLZ : Hid (l.drop F = []) := Lib.hid (List.drop_eq_nil_of_le (by omega))
          have HOUT := Lib.hid (chg_out (c := c) (HFN.out) HEND.out)
          have HR5 : Hid (Rows21 wc w.heap.size sv (cutV h o l ++ adds (plc h o F) ((l.drop F).take (l.length - F)))) := Lib.hid (by rw [HLZ.out]; simpa [adds] using HRS.out)
          go_wp2_with fail
          go_loopw [10, 63] (fun s i wr => i = .int .i64 0 ∧ s = sv ∧ wr = wc) (fun _ i _ => 0)
          case atStart => exact ⟨rfl, rfl, rfl⟩
          case round =>
            obtain ⟨rfl, rfl, rfl⟩ := hrel
            go_wp2_with fail
            go_ret2
            exact ⟨_, true, _, rfl, .inl ⟨rfl, HOUT.out⟩, HR5.out, HBC.out⟩
end Mg
end Go.Proofs.Ytlkgmjhejocobaa
