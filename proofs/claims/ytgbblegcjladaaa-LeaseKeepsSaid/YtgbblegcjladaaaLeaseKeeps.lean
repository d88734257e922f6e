/- The law LeaseKeeps returns true for every lease and list of calls: whatever a keeper sees, it tells just what the document's own answer tells, and it keeps nothing of what it was shown. No condition. -/
import Derived.Test.YtgbblegcjladaaaBse
import Derived.Test.YtgbblegcjladaaaLsH
import Derived.Test.YtgbblegcjladaaaSmS
import Derived.Test.YtgbblegcjladaaaLcG
import Derived.Test.YtgbblegcjladaaaWl
namespace Go.Proofs.Ytgbblegcjladaaa.leaseKeeps
open Go.ChangeShapes Go.WideShapes Go.ChangeAt Go.RowKit
open Go.ChangeMaps (open_string shut_string)
set_option linter.unusedVariables false

theorem own : ownKnob Try.prog.godebug = none := by kernel_rfl
theorem laidOut : laidOutB Try.prog = true := by kernel_rfl

open Go.Proofs.Ytgbblegcjladaaa.Ls Go.Proofs.Ytgbblegcjladaaa.Mc Go.Proofs.Ytgbblegcjladaaa.La
set_option linter.unusedSimpArgs false
def KO (O : Nat → Prop) (w w' : World) : Prop := ∀ k, O k → w'.heap[k]? = w.heap[k]?
theorem goes_up {w wa wr : World} (h1 : Below w.heap.size w wa) (h2 : Below wa.heap.size wa wr) : Below w.heap.size w wr := h1.trans (h2.mono h1.size)
theorem due_wf {n now : Int} {L : List Ls.Row} (h : OkL L) {z : KR} (hz : z ∈ dueK n now L) : z.wf := by
  obtain ⟨x, hx, rfl⟩ := List.mem_map.1 hz
  exact keyR_wf (h.wf x (List.mem_filter.1 hx).1)
set_option maxRecDepth 100000 in
set_option maxHeartbeats 64000000 in
theorem walk (a0 : Int) (v1 : Value) (x1 : (List SRow)) (w : World) (w0 : (Lit.int .i64 a0).wf = true) (w1 : IsSees w v1 x1) (b1 : IsSees.fits x1) :
    Calls Try.prog 3 #[.int .i64 a0, v1] w fun e w' => e = .returned (.bool true) ∧ Below w.heap.size w w' := by
  have HW1 := Lib.hid w1
  have HFT := Lib.hid b1
  obtain ⟨a1, c1, rfl, hl1, hm1, -⟩ := id w1.1
  unfold maxLen at hm1
  clear w1 b1
  go_enter Try.func3, Try.ntmps3
  go_upto_region 2 with (first | ((with_reducible refine (keeps_any _).mono ?_); rintro e wa ⟨rfl, hba⟩; have HBA := Lib.hid hba; clear hba))
  go_wp2_with fail
  refine (new_any a0 wa).mono ?_
  rintro e w2 (⟨hn1, hn2, ⟨p, rfl, hk, hp⟩, hb2⟩ | ⟨hno, rfl, rfl⟩)
  rotate_left
  · go_wp2_with fail
    refine (rnew_any a0 _).mono ?_
    rintro e w3 (⟨hn1, hn2, -, -⟩ | ⟨-, rfl, rfl⟩)
    · exact absurd ⟨hn1, hn2⟩ hno
    · clear hno
      go_wp2
      go_ret
      exact ⟨rfl, HBA.out⟩
  have HNN : Hid (1 ≤ a0 ∧ a0 ≤ 1073741824) := Lib.hid ⟨hn1, hn2⟩
  have HKP := Lib.hid (And.intro hk (And.intro hp hb2))
  clear hn1 hn2 hk hp hb2
  go_wp2_with fail
  refine (rnew_any a0 _).mono ?_
  rintro e w3 (⟨-, -, ⟨q, rfl, hk, hp⟩, hb3⟩ | ⟨hno, -⟩)
  rotate_left
  · exact absurd HNN.out hno
  obtain ⟨B, hB⟩ : ∃ z, wa.heap.size = z := ⟨_, rfl⟩
  have H3 : Hid (Two p q a0 [] [] (fun _ => False) B wa w3) := Lib.hid (by
    rw [← hB]
    refine ⟨_, _, (goodK p a0 []).below ⟨_, _, HKP.out.1⟩ hb3, ⟨_, hk⟩, fun k e1 e2 => ?_, fun k e => e ▸ HKP.out.2.1, fun k e => e ▸ Nat.le_trans HKP.out.2.2.size hp, fun k e => e.elim, HKP.out.2.2.trans (hb3.mono HKP.out.2.2.size), Nat.le_trans HKP.out.2.2.size hb3.size⟩
    have := row_lt HKP.out.1.row
    omega)
  have HBW : Hid (∀ w', Below B wa w' → Below w.heap.size w w') := Lib.hid (fun w' h => goes_up HBA.out (hB ▸ h))
  have HAR : Hid (∀ w', Below B wa w' → IsSees w' (.slice a1 x1.length c1) x1) := Lib.hid (fun w' h => HW1.out.below (HBW.out w' h) (Nat.le_refl _))
  clear hk hp hb3 hB HKP
  by_cases h100 : 100 < x1.length
  · have hli : (100 : Int) < (x1.length : Int) := by omega
    have HEND := Lib.hid (HBW.out w3 H3.out.bel.1)
    go_wp2
    go_ret
    exact ⟨rfl, HEND.out⟩
  have hli : ¬ (100 : Int) < (x1.length : Int) := by omega
  clear h100
  go_wp2_with fail
  go_loopw [6, 46] (fun k6 i wr => ∃ (j p : Nat) (L : List Ls.Row), j ≤ x1.length ∧ i = .int .i64 (j : Int) ∧ k6 = .pointer (some ⟨p, 0, none⟩) ∧ Hid (Two p q a0 L L (fun _ => False) B wa wr ∧ OkL L ∧ L.length ≤ 64)) (fun _ i _ => x1.length - (intOf i).toNat)
  case atStart => exact ⟨0, p, [], Nat.zero_le _, rfl, rfl, Lib.hid ⟨H3.out, OkL.nil, Nat.zero_le _⟩⟩
  case round =>
    obtain ⟨j, p, L, hj, rfl, rfl, HR⟩ := hrel
    clear H3
    by_cases hlt : j < x1.length
    · have hlti : (j : Int) < (x1.length : Int) := by omega
      obtain ⟨r, hr⟩ : ∃ r, x1[j]? = some r := ⟨_, List.getElem?_eq_getElem hlt⟩
      have hrm := List.mem_of_getElem? hr
      have hrw := (HAR.out wr HR.out.1.bel.1).2 _ hrm
      obtain ⟨ah, ch, hvh, -⟩ := id hrw.1
      obtain ⟨al, cl, hvl, -⟩ := id hrw.2.1
      have HRW : Hid (∀ w', Below B wa w' → r.ok w') := Lib.hid (fun w' h => (HAR.out w' h).2 _ hrm)
      have HLF : Hid (IsLed.fits r.x.led) := Lib.hid (HFT.out _ hrm)
      obtain ⟨b, off, rfl, y0, y1, y2, y3, y4, y5⟩ : ∃ b off, a1 = some ⟨b, off, none⟩ ∧ wr.cell? ⟨b, off + j * 6, none⟩ = some (.int .i64 r.x.kind) ∧ wr.cell? ⟨b, off + j * 6 + 1, none⟩ = some (.int .i64 r.x.now) ∧ wr.cell? ⟨b, off + j * 6 + 2, none⟩ = some (.int .i64 r.x.led.limit) ∧ wr.cell? ⟨b, off + j * 6 + 3, none⟩ = some (.int .u64 r.x.led.next) ∧ wr.cell? ⟨b, off + j * 6 + 4, none⟩ = some (r.vh) ∧ wr.cell? ⟨b, off + j * 6 + 5, none⟩ = some (r.vl) := by
        rcases SlR.cases (HAR.out wr HR.out.1.bel.1).1 with ⟨a9, c9, e, hnil⟩ | ⟨b, off, c9, e, -, -, -, -, hc⟩
        · rw [hnil] at hlt; simp at hlt
        · simp only [Value.slice.injEq] at e
          exact ⟨b, off, e.1, sr_cells (hc j _ hr)⟩
      obtain ⟨g2, hg2⟩ : ∃ z, wr.heap.size = z := ⟨_, rfl⟩
      obtain ⟨W4, hW4⟩ : ∃ z, wr.alloc (.cells #[.int .i64 0, .int .i64 0, .int .i64 0, .int .u64 0, .slice none 0 0, .slice none 0 0] 37) = z := ⟨_, rfl⟩
      have hb4 : Below wr.heap.size wr W4 := by rw [← hW4]; exact (Below.refl _ _).alloc (Nat.le_refl _) _
      have hr4 : W4.heap[g2]? = some (.cells #[.int .i64 0, .int .i64 0, .int .i64 0, .int .u64 0, .slice none 0 0, .slice none 0 0] 37 (0, 0)) := by rw [← hW4, ← hg2]; exact heap_alloc_new _ _
      obtain ⟨W5, hW5⟩ : ∃ z, W4.setRow g2 (srA r) = z := ⟨_, rfl⟩
      have hb5 : Below wr.heap.size wr W5 := by rw [← hW5]; exact Ld.below_row hb4 (by omega) _
      have hr5 : W5.heap[g2]? = some (.cells (srA r) 37 (0, 0)) := by rw [← hW5]; exact setRow_heap _ _ _ _ _ _ hr4
      have e0 : W5.cell? ⟨g2, 0, none⟩ = some (.int .i64 r.x.kind) := (cell_of_row _ _ 0 _ _ _ hr5).trans rfl; have e1 : W5.cell? ⟨g2, 1, none⟩ = some (.int .i64 r.x.now) := (cell_of_row _ _ 1 _ _ _ hr5).trans rfl; have e2 : W5.cell? ⟨g2, 2, none⟩ = some (.int .i64 r.x.led.limit) := (cell_of_row _ _ 2 _ _ _ hr5).trans rfl; have e3 : W5.cell? ⟨g2, 3, none⟩ = some (.int .u64 r.x.led.next) := (cell_of_row _ _ 3 _ _ _ hr5).trans rfl; have e4 : W5.cell? ⟨g2, 4, none⟩ = some (r.vh) := (cell_of_row _ _ 4 _ _ _ hr5).trans rfl; have e5 : W5.cell? ⟨g2, 5, none⟩ = some (r.vl) := (cell_of_row _ _ 5 _ _ _ hr5).trans rfl
      have HR5 := Lib.hid hr5
      have HGE : Hid (wr.heap.size ≤ g2) := Lib.hid (Nat.le_of_eq hg2)
      have HB5 := Lib.hid hb5
      have HT5 := Lib.hid (TwoO.below (goodK p a0 L) (goodQ q a0 L) HR.out.1 hb5)
      have HIS : Hid (∀ w', Below B wa w' → IsLed w' (.agg (lArr r.x.led r.vh r.vl)) r.x.led) := Lib.hid (fun w' h => ⟨_, _, rfl, (HRW.out w' h).1, (HRW.out w' h).2.1, (HRW.out w' h).2.2⟩)
      clear hr hrm hrw hr5 hb5 hb4
      have hone : (srA r).all (·.oneCell') = true := by simp [srA, hvh, hvl, Value.oneCell']
      clear hvh hvl
      go_upto_region 11 with (first | rw [hW4] | ((with_reducible refine wpList_store_row rfl 37 (.tmp 11) (.tmp 49) rfl g2 (srA r) rfl rfl 37 #[.int .i64 0, .int .i64 0, .int .i64 0, .int .u64 0, .slice none 0 0, .slice none 0 0] hr4 (by kernel_rfl) rfl hone ?_); rw [hW5]))
      clear y0 y1 y2 y3 y4 y5 hW4 hW5 hg2 hr4 hone
      go_wp2_with fail
      refine (Ld.rcheck_any r.x.led _ W5 (HIS.out W5 HT5.out.bel.1)).mono ?_
      rintro e w6 ⟨zc, rfl, hz, hb6⟩
      have HB6 : Hid (Below wr.heap.size wr w6) := Lib.hid (HB5.out.trans (hb6.mono HB5.out.size))
      have HT6 := Lib.hid (TwoO.below (goodK p a0 L) (goodQ q a0 L) HT5.out hb6)
      have hr6 := (hb6.block _ (row_lt HR5.out)).trans HR5.out
      have HR6 := Lib.hid hr6
      clear e0 e1 e2 e3 e4 e5 hb6
      rcases hz with ⟨rfl, hok⟩ | ⟨rfl, hno⟩
      rotate_left
      · clear hno hr6
        go_wp2_with fail
        go_roundw
        case rel => exact ⟨j + 1, p, L, by omega, by go_num, rfl, Lib.hid ⟨HT6.out, HR.out.2⟩⟩
        case measure => simp [intOf]; omega
      have HLED : Hid (LedP r.x.led ∧ r.x.led.wf) := Lib.hid ⟨led_iff.1 hok, (HRW.out w6 HT6.out.bel.1).2.2⟩
      have HLA := Lib.hid (leda_of HLED.out.1 HLED.out.2)
      have HHL : Hid (r.x.led.held.length ≤ 64) := Lib.hid HLED.out.1.2.2.2.1
      have e0 : w6.cell? ⟨g2, 0, none⟩ = some (.int .i64 r.x.kind) := (cell_of_row _ _ 0 _ _ _ hr6).trans rfl; have e1 : w6.cell? ⟨g2, 1, none⟩ = some (.int .i64 r.x.now) := (cell_of_row _ _ 1 _ _ _ hr6).trans rfl; have e2 : w6.cell? ⟨g2, 2, none⟩ = some (.int .i64 r.x.led.limit) := (cell_of_row _ _ 2 _ _ _ hr6).trans rfl; have e3 : w6.cell? ⟨g2, 3, none⟩ = some (.int .u64 r.x.led.next) := (cell_of_row _ _ 3 _ _ _ hr6).trans rfl; have e4 : w6.cell? ⟨g2, 4, none⟩ = some (r.vh) := (cell_of_row _ _ 4 _ _ _ hr6).trans rfl; have e5 : w6.cell? ⟨g2, 5, none⟩ = some (r.vl) := (cell_of_row _ _ 5 _ _ _ hr6).trans rfl
      clear hok hr6
      go_wp2_with fail
      refine (Ld.copy_own r.x.led _ w6 (HIS.out w6 HT6.out.bel.1) HLF.out).mono ?_
      rintro e w7 ⟨vh7, vl7, rfl, oh7, ol7, -, hb7⟩
      obtain ⟨ah7, ch7, rfl⟩ := own_slice oh7
      obtain ⟨al7, cl7, rfl⟩ := own_slice ol7
      clear e0 e1 e2 e3 e4 e5
      obtain ⟨gm, hgm⟩ : ∃ z, w7.heap.size = z := ⟨_, rfl⟩
      obtain ⟨W8, hW8⟩ : ∃ z, w7.alloc (.cells (lArr r.x.led (.slice ah7 r.x.led.held.length ch7) (.slice al7 r.x.led.last.length cl7)) 35) = z := ⟨_, rfl⟩
      have hb8 : Below w7.heap.size w7 W8 := by rw [← hW8]; exact (Below.refl _ _).alloc (Nat.le_refl _) _
      have hr8 : W8.heap[gm]? = some (.cells (lArr r.x.led (.slice ah7 r.x.led.held.length ch7) (.slice al7 r.x.led.last.length cl7)) 35 (0, 0)) := by rw [← hW8, ← hgm]; exact heap_alloc_new _ _
      have hz6 := HB6.out.size
      have hb68 : Below w6.heap.size w6 W8 := hb7.trans (hb8.mono hb7.size)
      obtain ⟨OW, hOW⟩ : ∃ O : Nat → Prop, O = (fun k => False ∨ (wr.heap.size ≤ k ∧ k < W8.heap.size)) := ⟨_, rfl⟩
      have HT8 : Hid (Two p q a0 L L OW B wa W8) := Lib.hid (by rw [hOW]; exact TwoO.more (goodK p a0 L) (goodQ q a0 L) HR.out.1 (HB6.out.trans (hb68.mono hz6)))
      have oh8 : OwnR 5 heldC 47 W8 w6.heap.size (.slice ah7 r.x.led.held.length ch7) r.x.led.held := own_keep oh7 (fun k _ hk => hb8.block k hk)
      have ol8 : OwnR 6 lastC 103 W8 w6.heap.size (.slice al7 r.x.led.last.length cl7) r.x.led.last := own_keep ol7 (fun k _ hk => hb8.block k hk)
      have hin : ∀ k, wr.heap.size ≤ k → k < W8.heap.size → OW k := fun k h1 h2 => by rw [hOW]; exact .inr ⟨h1, h2⟩
      have HK8 : Hid (KO OW W8 W8) := Lib.hid (fun _ _ => rfl)
      have HOH : Hid (∀ w' : World, (∀ k, OW k → w'.heap[k]? = W8.heap[k]?) → OwnR 5 heldC 47 w' w6.heap.size (.slice ah7 r.x.led.held.length ch7) r.x.led.held) := Lib.hid (fun w' h => own_keep oh8 (fun k hk hl => h k (hin k (Nat.le_trans hz6 (World.ownsRow.lt oh8 k hk).1) hl)))
      have HOW : Hid (∀ w' : World, (∀ k, OW k → w'.heap[k]? = W8.heap[k]?) → SlR 5 heldC w' (.slice ah7 r.x.led.held.length ch7) r.x.led.held ∧ SlR 6 lastC w' (.slice al7 r.x.led.last.length cl7) r.x.led.last) := Lib.hid (fun w' h => ⟨(HOH.out w' h).sl heldC_len, OwnR.sl lastC_len (show OwnR 6 lastC _ _ _ _ _ from own_keep ol8 (fun k hk hl => h k (hin k (Nat.le_trans hz6 (World.ownsRow.lt ol8 k hk).1) hl)))⟩)
      have HGM : Hid (∀ w' : World, (∀ k, OW k → w'.heap[k]? = W8.heap[k]?) → w'.heap[gm]? = some (.cells (lArr r.x.led (.slice ah7 r.x.led.held.length ch7) (.slice al7 r.x.led.last.length cl7)) 35 (0, 0))) := Lib.hid (fun w' h => (h gm (hin gm (by have := hb7.size; omega) (row_lt hr8))).trans hr8)
      have HG2 : Hid (∀ w' : World, (∀ k, OW k → w'.heap[k]? = W8.heap[k]?) → w'.heap[g2]? = some (.cells (srA r) 37 (0, 0))) := Lib.hid (fun w' h => by
        have e8 := (hb68.block g2 (row_lt HR6.out)).trans HR6.out
        have hg2 : wr.heap.size ≤ g2 := HGE.out
        exact (h g2 (hin g2 hg2 (row_lt e8))).trans e8)
      have HOB : Hid (∀ k, (Value.slice ah7 r.x.led.held.length ch7).ownBlock = some k → OW k) := Lib.hid (fun k hk => hin k (Nat.le_trans hz6 (World.ownsRow.lt oh8 k hk).1) (World.ownsRow.lt oh8 k hk).2)
      clear oh7 ol7 hb7 hb8 hr8 hz6 hb68 oh8 ol8 hin hOW
      go_upto_region 13 with (first | rw [hW8])
      clear hW8 hgm HT5 HT6 HR5 HR6 HB5 HB6
      by_cases hk0 : r.x.kind = 0
      · have hkb : (r.x.kind == 0) = true := beq_iff_eq.2 hk0
        have HC1 := Lib.hid (HT8.out.leads1 r.x.now HLA.out (vh := .slice ah7 r.x.led.held.length ch7) (vl := .slice al7 r.x.led.last.length cl7) (fun w9 h9 => (HOW.out w9 (fun k hk => (h9 k hk).trans (HK8.out k hk))).1))
        have HL9 : Hid (OkL (seesV r.x.now [] r.x.led.held) ∧ (seesV r.x.now [] r.x.led.held).length ≤ 64) := Lib.hid ⟨OkL.nil.sees r.x.now HLA.out.wf HLA.out.nd, by rw [sees_len]; exact HHL.out⟩
        have g0 : W8.cell? ⟨g2, 0, none⟩ = some (.int .i64 r.x.kind) := (cell_of_row _ _ 0 _ _ _ (HG2.out W8 HK8.out)).trans rfl
        have g1 : W8.cell? ⟨g2, 1, none⟩ = some (.int .i64 r.x.now) := (cell_of_row _ _ 1 _ _ _ (HG2.out W8 HK8.out)).trans rfl
        have g2c : W8.cell? ⟨g2, 2, none⟩ = some (.int .i64 r.x.led.limit) := (cell_of_row _ _ 2 _ _ _ (HG2.out W8 HK8.out)).trans rfl
        have g3 : W8.cell? ⟨g2, 3, none⟩ = some (.int .u64 r.x.led.next) := (cell_of_row _ _ 3 _ _ _ (HG2.out W8 HK8.out)).trans rfl
        have g4 : W8.cell? ⟨g2, 4, none⟩ = some (r.vh) := (cell_of_row _ _ 4 _ _ _ (HG2.out W8 HK8.out)).trans rfl
        have g5 : W8.cell? ⟨g2, 5, none⟩ = some (r.vl) := (cell_of_row _ _ 5 _ _ _ (HG2.out W8 HK8.out)).trans rfl
        have m0 : W8.cell? ⟨gm, 0, none⟩ = some (.int .i64 r.x.led.limit) := (cell_of_row _ _ 0 _ _ _ (HGM.out W8 HK8.out)).trans rfl
        have m1 : W8.cell? ⟨gm, 1, none⟩ = some (.int .u64 r.x.led.next) := (cell_of_row _ _ 1 _ _ _ (HGM.out W8 HK8.out)).trans rfl
        have m2 : W8.cell? ⟨gm, 2, none⟩ = some (.slice ah7 r.x.led.held.length ch7) := (cell_of_row _ _ 2 _ _ _ (HGM.out W8 HK8.out)).trans rfl
        have m3 : W8.cell? ⟨gm, 3, none⟩ = some (.slice al7 r.x.led.last.length cl7) := (cell_of_row _ _ 3 _ _ _ (HGM.out W8 HK8.out)).trans rfl
        clear hk0
        go_upto_region 16 with (first | ((with_reducible refine HC1.out.mono ?_); rintro e w9 ⟨rfl, h9, k9⟩; have H9 := Lib.hid h9; have HK9 : Hid (∀ k, OW k → w9.heap[k]? = W8.heap[k]?) := Lib.hid k9; clear h9 k9))
        clear g0 g1 g2c g3 g4 g5 m0 m1 m2 m3
        have HC2 := Lib.hid (H9.out.leads2 r.x.now HLA.out (vh := r.vh) (vl := r.vl) (fun w9 h9 => (HRW.out w9 h9).1))
        have g0 : w9.cell? ⟨g2, 0, none⟩ = some (.int .i64 r.x.kind) := (cell_of_row _ _ 0 _ _ _ (HG2.out w9 HK9.out)).trans rfl
        have g1 : w9.cell? ⟨g2, 1, none⟩ = some (.int .i64 r.x.now) := (cell_of_row _ _ 1 _ _ _ (HG2.out w9 HK9.out)).trans rfl
        have g2c : w9.cell? ⟨g2, 2, none⟩ = some (.int .i64 r.x.led.limit) := (cell_of_row _ _ 2 _ _ _ (HG2.out w9 HK9.out)).trans rfl
        have g3 : w9.cell? ⟨g2, 3, none⟩ = some (.int .u64 r.x.led.next) := (cell_of_row _ _ 3 _ _ _ (HG2.out w9 HK9.out)).trans rfl
        have g4 : w9.cell? ⟨g2, 4, none⟩ = some (r.vh) := (cell_of_row _ _ 4 _ _ _ (HG2.out w9 HK9.out)).trans rfl
        have g5 : w9.cell? ⟨g2, 5, none⟩ = some (r.vl) := (cell_of_row _ _ 5 _ _ _ (HG2.out w9 HK9.out)).trans rfl
        have m0 : w9.cell? ⟨gm, 0, none⟩ = some (.int .i64 r.x.led.limit) := (cell_of_row _ _ 0 _ _ _ (HGM.out w9 HK9.out)).trans rfl
        have m1 : w9.cell? ⟨gm, 1, none⟩ = some (.int .u64 r.x.led.next) := (cell_of_row _ _ 1 _ _ _ (HGM.out w9 HK9.out)).trans rfl
        have m2 : w9.cell? ⟨gm, 2, none⟩ = some (.slice ah7 r.x.led.held.length ch7) := (cell_of_row _ _ 2 _ _ _ (HGM.out w9 HK9.out)).trans rfl
        have m3 : w9.cell? ⟨gm, 3, none⟩ = some (.slice al7 r.x.led.last.length cl7) := (cell_of_row _ _ 3 _ _ _ (HGM.out w9 HK9.out)).trans rfl
        go_upto_region 30 with (first | ((with_reducible refine HC2.out.mono ?_); rintro e w10 ⟨rfl, h10, k10⟩; have H10 := Lib.hid h10; have HK10 : Hid (∀ k, OW k → w10.heap[k]? = W8.heap[k]?) := Lib.hid (fun k hk => (k10 k hk).trans (HK9.out k hk)); clear h10 k10))
        clear g0 g1 g2c g3 g4 g5 m0 m1 m2 m3
        have g0 : w10.cell? ⟨g2, 0, none⟩ = some (.int .i64 r.x.kind) := (cell_of_row _ _ 0 _ _ _ (HG2.out w10 HK10.out)).trans rfl
        have g1 : w10.cell? ⟨g2, 1, none⟩ = some (.int .i64 r.x.now) := (cell_of_row _ _ 1 _ _ _ (HG2.out w10 HK10.out)).trans rfl
        have g2c : w10.cell? ⟨g2, 2, none⟩ = some (.int .i64 r.x.led.limit) := (cell_of_row _ _ 2 _ _ _ (HG2.out w10 HK10.out)).trans rfl
        have g3 : w10.cell? ⟨g2, 3, none⟩ = some (.int .u64 r.x.led.next) := (cell_of_row _ _ 3 _ _ _ (HG2.out w10 HK10.out)).trans rfl
        have g4 : w10.cell? ⟨g2, 4, none⟩ = some (r.vh) := (cell_of_row _ _ 4 _ _ _ (HG2.out w10 HK10.out)).trans rfl
        have g5 : w10.cell? ⟨g2, 5, none⟩ = some (r.vl) := (cell_of_row _ _ 5 _ _ _ (HG2.out w10 HK10.out)).trans rfl
        have m0 : w10.cell? ⟨gm, 0, none⟩ = some (.int .i64 r.x.led.limit) := (cell_of_row _ _ 0 _ _ _ (HGM.out w10 HK10.out)).trans rfl
        have m1 : w10.cell? ⟨gm, 1, none⟩ = some (.int .u64 r.x.led.next) := (cell_of_row _ _ 1 _ _ _ (HGM.out w10 HK10.out)).trans rfl
        have m2 : w10.cell? ⟨gm, 2, none⟩ = some (.slice ah7 r.x.led.held.length ch7) := (cell_of_row _ _ 2 _ _ _ (HGM.out w10 HK10.out)).trans rfl
        have m3 : w10.cell? ⟨gm, 3, none⟩ = some (.slice al7 r.x.led.last.length cl7) := (cell_of_row _ _ 3 _ _ _ (HGM.out w10 HK10.out)).trans rfl
        go_upto_region 30 with fail
        have HLI : Hid (IsLed w10 (.agg (lArr r.x.led r.vh r.vl)) r.x.led) := Lib.hid ⟨_, _, rfl, (HRW.out w10 H10.out.bel.1).1, (HRW.out w10 H10.out.bel.1).2.1, HLED.out.2⟩
        have HLO : Hid (IsLed w10 (.agg (lArr r.x.led (.slice ah7 r.x.led.held.length ch7) (.slice al7 r.x.led.last.length cl7))) r.x.led) := Lib.hid ⟨_, _, rfl, (HOW.out w10 HK10.out).1, (HOW.out w10 HK10.out).2, HLED.out.2⟩
        go_wp2_with (first | ((with_reducible refine (Ld.same_any r.x.led _ _ w10 HLO.out HLI.out).mono ?_); rintro e wsm ⟨rfl, hbsm⟩; have HSM := Lib.hid (TwoO.below (goodK p a0 _) (goodQ q a0 _) H10.out hbsm); have HKS : Hid (∀ k, OW k → wsm.heap[k]? = W8.heap[k]?) := Lib.hid (fun k hk => (hbsm.block k (H10.out.lt hk)).trans (HK10.out k hk)); clear hbsm; clear g0 g1 g2c g3 g4 g5 m0 m1 m2 m3; have m2 : wsm.cell? ⟨gm, 2, none⟩ = some (.slice ah7 r.x.led.held.length ch7) := (cell_of_row _ _ 2 _ _ _ (HGM.out wsm HKS.out)).trans rfl))
        clear m2
        go_loopw [119] (fun i wq => ∃ (jj : Nat) (xs : List Held), jj ≤ r.x.led.held.length ∧ i = .int .i64 (jj : Int) ∧ Hid (Two p q a0 (seesV r.x.now [] r.x.led.held) (seesV r.x.now [] r.x.led.held) OW B wa wq ∧ wq.heap[gm]? = some (.cells (lArr r.x.led (.slice ah7 r.x.led.held.length ch7) (.slice al7 r.x.led.last.length cl7)) 35 (0, 0)) ∧ OwnR 5 heldC 47 wq w6.heap.size (.slice ah7 r.x.led.held.length ch7) xs ∧ xs.length = r.x.led.held.length)) (fun i _ => r.x.led.held.length - (intOf i).toNat)
        case atStart => exact ⟨0, r.x.led.held, Nat.zero_le _, rfl, Lib.hid ⟨HSM.out, HGM.out wsm HKS.out, HOH.out wsm HKS.out, rfl⟩⟩
        case round =>
          obtain ⟨jj, xs, hjj, rfl, HQ⟩ := hrel
          clear HSM HKS
          have hbn : r.x.led.held.length ≤ 64 := HHL.out
          by_cases hltq : jj < r.x.led.held.length
          · have hltqi : (jj : Int) < (r.x.led.held.length : Int) := by omega
            obtain ⟨y, hy⟩ : ∃ y, xs[jj]? = some y := ⟨_, List.getElem?_eq_getElem (by rw [HQ.out.2.2.2]; exact hltq)⟩
            obtain ⟨bh, cur, rfl, hbh, hB⟩ : ∃ b cur, ah7 = some ⟨b, 0, none⟩ ∧ wr.heap[b]? = some (.cells cur 47 (0, 0)) ∧ w6.heap.size ≤ b := by
              rcases own_form HQ.out.2.2.1 with ⟨-, h0⟩ | ⟨b, c, cur, e1, e2, e3⟩
              · rw [HQ.out.2.2.2] at h0; omega
              · simp only [Value.slice.injEq] at e1
                exact ⟨b, cur, e1.1, e2, e3⟩
            have hOb : OW bh := HOB.out bh rfl
            have hset := own_set heldC_len HQ.out.2.2.1 hy (x' := { y with stamp := 99 }) (i := 4) (by decide) (u := .int .u64 99) rfl
            have hne : bh ≠ gm := own_ty HQ.out.2.2.1 HQ.out.2.1 (by decide) bh rfl
            have hcy : wr.cell? ⟨bh, jj * 5 + 4, none⟩ = some (.int .u64 y.stamp) := by
              rcases SlR.cases (HQ.out.2.2.1.sl heldC_len) with ⟨a9, c9, e, hnil⟩ | ⟨b, off, c9, e, -, -, -, -, hc⟩
              · have := congrArg List.length hnil; rw [HQ.out.2.2.2, List.length_nil] at this; omega
              · simp only [Value.slice.injEq, Option.some.injEq, Addr.mk.injEq, and_true] at e
                obtain ⟨⟨rfl, rfl⟩, -, -⟩ := e
                have h4 := (Ld.held_cells (hc jj y hy)).2.2.2.2
                simp only [Nat.zero_add] at h4
                exact h4
            have hfz : wr.frozen? ⟨bh, jj * 5 + 4, none⟩ = false := frozen_of_row wr _ _ _ _ hbh
            have m2 : wr.cell? ⟨gm, 2, none⟩ = some (.slice (some ⟨bh, 0, none⟩) r.x.led.held.length ch7) := (cell_of_row _ _ 2 _ _ _ HQ.out.2.1).trans rfl
            obtain ⟨W9, hW9⟩ : ∃ z, wr.setCell ⟨bh, jj * 5 + 4, none⟩ (.int .u64 99) = z := ⟨_, rfl⟩
            have HQ9 : Hid (Two p q a0 (seesV r.x.now [] r.x.led.held) (seesV r.x.now [] r.x.led.held) OW B wa W9 ∧ W9.heap[gm]? = some (.cells (lArr r.x.led (.slice (some ⟨bh, 0, none⟩) r.x.led.held.length ch7) (.slice al7 r.x.led.last.length cl7)) 35 (0, 0)) ∧ OwnR 5 heldC 47 W9 w6.heap.size (.slice (some ⟨bh, 0, none⟩) r.x.led.held.length ch7) (xs.set jj { y with stamp := 99 }) ∧ (xs.set jj { y with stamp := 99 }).length = r.x.led.held.length) := Lib.hid (by
              rw [← hW9]
              exact ⟨TwoO.only (goodK p a0 _) (goodQ q a0 _) HQ.out.1 (Only.setCell wr ⟨bh, jj * 5 + 4, none⟩ _ hOb), (heap_setCell_other wr ⟨bh, jj * 5 + 4, none⟩ gm _ hne.symm).trans HQ.out.2.1, hset, by rw [List.length_set]; exact HQ.out.2.2.2⟩)
            clear hy hbh hB hOb hset hne
            go_wp2_with (first | rw [hW9])
            go_roundw
            case rel => exact ⟨jj + 1, _, by omega, by go_num, HQ9⟩
            case measure => simp [intOf]; omega
          · have hltqi : ¬ (jj : Int) < (r.x.led.held.length : Int) := by omega
            clear hltq hbn
            have HEQ := Lib.hid (TwoO.mono HQ.out.1 (O' := fun _ => False) (fun k hk => hk.elim))
            clear HQ
            go_wp2_with fail
            go_roundw
            case rel => exact ⟨j + 1, p, seesV r.x.now [] r.x.led.held, by omega, by go_num, rfl, Lib.hid ⟨HEQ.out, HL9.out⟩⟩
            case measure => simp [intOf]; omega
      by_cases hk1 : r.x.kind = 1
      · have hkb : (r.x.kind == 1) = true := beq_iff_eq.2 hk1
        have hkb0 : (r.x.kind == 0) = false := beq_eq_false_iff_ne.2 hk0
        have HC1 := Lib.hid (HT8.out.sees1 HR.out.2.1 r.x.now HLA.out (vh := .slice ah7 r.x.led.held.length ch7) (vl := .slice al7 r.x.led.last.length cl7) (fun w9 h9 => (HOW.out w9 (fun k hk => (h9 k hk).trans (HK8.out k hk))).1))
        have HL9 : Hid (OkL (seesV r.x.now L r.x.led.held) ∧ (seesV r.x.now L r.x.led.held).length ≤ 64) := Lib.hid ⟨HR.out.2.1.sees r.x.now HLA.out.wf HLA.out.nd, by rw [sees_len]; exact HHL.out⟩
        have g0 : W8.cell? ⟨g2, 0, none⟩ = some (.int .i64 r.x.kind) := (cell_of_row _ _ 0 _ _ _ (HG2.out W8 HK8.out)).trans rfl
        have g1 : W8.cell? ⟨g2, 1, none⟩ = some (.int .i64 r.x.now) := (cell_of_row _ _ 1 _ _ _ (HG2.out W8 HK8.out)).trans rfl
        have g2c : W8.cell? ⟨g2, 2, none⟩ = some (.int .i64 r.x.led.limit) := (cell_of_row _ _ 2 _ _ _ (HG2.out W8 HK8.out)).trans rfl
        have g3 : W8.cell? ⟨g2, 3, none⟩ = some (.int .u64 r.x.led.next) := (cell_of_row _ _ 3 _ _ _ (HG2.out W8 HK8.out)).trans rfl
        have g4 : W8.cell? ⟨g2, 4, none⟩ = some (r.vh) := (cell_of_row _ _ 4 _ _ _ (HG2.out W8 HK8.out)).trans rfl
        have g5 : W8.cell? ⟨g2, 5, none⟩ = some (r.vl) := (cell_of_row _ _ 5 _ _ _ (HG2.out W8 HK8.out)).trans rfl
        have m0 : W8.cell? ⟨gm, 0, none⟩ = some (.int .i64 r.x.led.limit) := (cell_of_row _ _ 0 _ _ _ (HGM.out W8 HK8.out)).trans rfl
        have m1 : W8.cell? ⟨gm, 1, none⟩ = some (.int .u64 r.x.led.next) := (cell_of_row _ _ 1 _ _ _ (HGM.out W8 HK8.out)).trans rfl
        have m2 : W8.cell? ⟨gm, 2, none⟩ = some (.slice ah7 r.x.led.held.length ch7) := (cell_of_row _ _ 2 _ _ _ (HGM.out W8 HK8.out)).trans rfl
        have m3 : W8.cell? ⟨gm, 3, none⟩ = some (.slice al7 r.x.led.last.length cl7) := (cell_of_row _ _ 3 _ _ _ (HGM.out W8 HK8.out)).trans rfl
        clear hk1
        go_upto_region 19 with (first | ((with_reducible refine HC1.out.mono ?_); rintro e w9 ⟨rfl, h9, k9⟩; have H9 := Lib.hid h9; have HK9 : Hid (∀ k, OW k → w9.heap[k]? = W8.heap[k]?) := Lib.hid k9; clear h9 k9))
        clear g0 g1 g2c g3 g4 g5 m0 m1 m2 m3
        have HC2 := Lib.hid (H9.out.sees2 HR.out.2.1 (by have := HR.out.2.2; omega) r.x.now HLA.out (vh := r.vh) (vl := r.vl) (fun w9 h9 => (HRW.out w9 h9).1))
        have g0 : w9.cell? ⟨g2, 0, none⟩ = some (.int .i64 r.x.kind) := (cell_of_row _ _ 0 _ _ _ (HG2.out w9 HK9.out)).trans rfl
        have g1 : w9.cell? ⟨g2, 1, none⟩ = some (.int .i64 r.x.now) := (cell_of_row _ _ 1 _ _ _ (HG2.out w9 HK9.out)).trans rfl
        have g2c : w9.cell? ⟨g2, 2, none⟩ = some (.int .i64 r.x.led.limit) := (cell_of_row _ _ 2 _ _ _ (HG2.out w9 HK9.out)).trans rfl
        have g3 : w9.cell? ⟨g2, 3, none⟩ = some (.int .u64 r.x.led.next) := (cell_of_row _ _ 3 _ _ _ (HG2.out w9 HK9.out)).trans rfl
        have g4 : w9.cell? ⟨g2, 4, none⟩ = some (r.vh) := (cell_of_row _ _ 4 _ _ _ (HG2.out w9 HK9.out)).trans rfl
        have g5 : w9.cell? ⟨g2, 5, none⟩ = some (r.vl) := (cell_of_row _ _ 5 _ _ _ (HG2.out w9 HK9.out)).trans rfl
        have m0 : w9.cell? ⟨gm, 0, none⟩ = some (.int .i64 r.x.led.limit) := (cell_of_row _ _ 0 _ _ _ (HGM.out w9 HK9.out)).trans rfl
        have m1 : w9.cell? ⟨gm, 1, none⟩ = some (.int .u64 r.x.led.next) := (cell_of_row _ _ 1 _ _ _ (HGM.out w9 HK9.out)).trans rfl
        have m2 : w9.cell? ⟨gm, 2, none⟩ = some (.slice ah7 r.x.led.held.length ch7) := (cell_of_row _ _ 2 _ _ _ (HGM.out w9 HK9.out)).trans rfl
        have m3 : w9.cell? ⟨gm, 3, none⟩ = some (.slice al7 r.x.led.last.length cl7) := (cell_of_row _ _ 3 _ _ _ (HGM.out w9 HK9.out)).trans rfl
        go_upto_region 30 with (first | ((with_reducible refine HC2.out.mono ?_); rintro e w10 ⟨rfl, h10, k10⟩; have H10 := Lib.hid h10; have HK10 : Hid (∀ k, OW k → w10.heap[k]? = W8.heap[k]?) := Lib.hid (fun k hk => (k10 k hk).trans (HK9.out k hk)); clear h10 k10))
        clear g0 g1 g2c g3 g4 g5 m0 m1 m2 m3
        have g0 : w10.cell? ⟨g2, 0, none⟩ = some (.int .i64 r.x.kind) := (cell_of_row _ _ 0 _ _ _ (HG2.out w10 HK10.out)).trans rfl
        have g1 : w10.cell? ⟨g2, 1, none⟩ = some (.int .i64 r.x.now) := (cell_of_row _ _ 1 _ _ _ (HG2.out w10 HK10.out)).trans rfl
        have g2c : w10.cell? ⟨g2, 2, none⟩ = some (.int .i64 r.x.led.limit) := (cell_of_row _ _ 2 _ _ _ (HG2.out w10 HK10.out)).trans rfl
        have g3 : w10.cell? ⟨g2, 3, none⟩ = some (.int .u64 r.x.led.next) := (cell_of_row _ _ 3 _ _ _ (HG2.out w10 HK10.out)).trans rfl
        have g4 : w10.cell? ⟨g2, 4, none⟩ = some (r.vh) := (cell_of_row _ _ 4 _ _ _ (HG2.out w10 HK10.out)).trans rfl
        have g5 : w10.cell? ⟨g2, 5, none⟩ = some (r.vl) := (cell_of_row _ _ 5 _ _ _ (HG2.out w10 HK10.out)).trans rfl
        have m0 : w10.cell? ⟨gm, 0, none⟩ = some (.int .i64 r.x.led.limit) := (cell_of_row _ _ 0 _ _ _ (HGM.out w10 HK10.out)).trans rfl
        have m1 : w10.cell? ⟨gm, 1, none⟩ = some (.int .u64 r.x.led.next) := (cell_of_row _ _ 1 _ _ _ (HGM.out w10 HK10.out)).trans rfl
        have m2 : w10.cell? ⟨gm, 2, none⟩ = some (.slice ah7 r.x.led.held.length ch7) := (cell_of_row _ _ 2 _ _ _ (HGM.out w10 HK10.out)).trans rfl
        have m3 : w10.cell? ⟨gm, 3, none⟩ = some (.slice al7 r.x.led.last.length cl7) := (cell_of_row _ _ 3 _ _ _ (HGM.out w10 HK10.out)).trans rfl
        go_upto_region 30 with fail
        have HLI : Hid (IsLed w10 (.agg (lArr r.x.led r.vh r.vl)) r.x.led) := Lib.hid ⟨_, _, rfl, (HRW.out w10 H10.out.bel.1).1, (HRW.out w10 H10.out.bel.1).2.1, HLED.out.2⟩
        have HLO : Hid (IsLed w10 (.agg (lArr r.x.led (.slice ah7 r.x.led.held.length ch7) (.slice al7 r.x.led.last.length cl7))) r.x.led) := Lib.hid ⟨_, _, rfl, (HOW.out w10 HK10.out).1, (HOW.out w10 HK10.out).2, HLED.out.2⟩
        go_wp2_with (first | ((with_reducible refine (Ld.same_any r.x.led _ _ w10 HLO.out HLI.out).mono ?_); rintro e wsm ⟨rfl, hbsm⟩; have HSM := Lib.hid (TwoO.below (goodK p a0 _) (goodQ q a0 _) H10.out hbsm); have HKS : Hid (∀ k, OW k → wsm.heap[k]? = W8.heap[k]?) := Lib.hid (fun k hk => (hbsm.block k (H10.out.lt hk)).trans (HK10.out k hk)); clear hbsm; clear g0 g1 g2c g3 g4 g5 m0 m1 m2 m3; have m2 : wsm.cell? ⟨gm, 2, none⟩ = some (.slice ah7 r.x.led.held.length ch7) := (cell_of_row _ _ 2 _ _ _ (HGM.out wsm HKS.out)).trans rfl))
        clear m2
        go_loopw [119] (fun i wq => ∃ (jj : Nat) (xs : List Held), jj ≤ r.x.led.held.length ∧ i = .int .i64 (jj : Int) ∧ Hid (Two p q a0 (seesV r.x.now L r.x.led.held) (seesV r.x.now L r.x.led.held) OW B wa wq ∧ wq.heap[gm]? = some (.cells (lArr r.x.led (.slice ah7 r.x.led.held.length ch7) (.slice al7 r.x.led.last.length cl7)) 35 (0, 0)) ∧ OwnR 5 heldC 47 wq w6.heap.size (.slice ah7 r.x.led.held.length ch7) xs ∧ xs.length = r.x.led.held.length)) (fun i _ => r.x.led.held.length - (intOf i).toNat)
        case atStart => exact ⟨0, r.x.led.held, Nat.zero_le _, rfl, Lib.hid ⟨HSM.out, HGM.out wsm HKS.out, HOH.out wsm HKS.out, rfl⟩⟩
        case round =>
          obtain ⟨jj, xs, hjj, rfl, HQ⟩ := hrel
          clear HSM HKS
          have hbn : r.x.led.held.length ≤ 64 := HHL.out
          by_cases hltq : jj < r.x.led.held.length
          · have hltqi : (jj : Int) < (r.x.led.held.length : Int) := by omega
            obtain ⟨y, hy⟩ : ∃ y, xs[jj]? = some y := ⟨_, List.getElem?_eq_getElem (by rw [HQ.out.2.2.2]; exact hltq)⟩
            obtain ⟨bh, cur, rfl, hbh, hB⟩ : ∃ b cur, ah7 = some ⟨b, 0, none⟩ ∧ wr.heap[b]? = some (.cells cur 47 (0, 0)) ∧ w6.heap.size ≤ b := by
              rcases own_form HQ.out.2.2.1 with ⟨-, h0⟩ | ⟨b, c, cur, e1, e2, e3⟩
              · rw [HQ.out.2.2.2] at h0; omega
              · simp only [Value.slice.injEq] at e1
                exact ⟨b, cur, e1.1, e2, e3⟩
            have hOb : OW bh := HOB.out bh rfl
            have hset := own_set heldC_len HQ.out.2.2.1 hy (x' := { y with stamp := 99 }) (i := 4) (by decide) (u := .int .u64 99) rfl
            have hne : bh ≠ gm := own_ty HQ.out.2.2.1 HQ.out.2.1 (by decide) bh rfl
            have hcy : wr.cell? ⟨bh, jj * 5 + 4, none⟩ = some (.int .u64 y.stamp) := by
              rcases SlR.cases (HQ.out.2.2.1.sl heldC_len) with ⟨a9, c9, e, hnil⟩ | ⟨b, off, c9, e, -, -, -, -, hc⟩
              · have := congrArg List.length hnil; rw [HQ.out.2.2.2, List.length_nil] at this; omega
              · simp only [Value.slice.injEq, Option.some.injEq, Addr.mk.injEq, and_true] at e
                obtain ⟨⟨rfl, rfl⟩, -, -⟩ := e
                have h4 := (Ld.held_cells (hc jj y hy)).2.2.2.2
                simp only [Nat.zero_add] at h4
                exact h4
            have hfz : wr.frozen? ⟨bh, jj * 5 + 4, none⟩ = false := frozen_of_row wr _ _ _ _ hbh
            have m2 : wr.cell? ⟨gm, 2, none⟩ = some (.slice (some ⟨bh, 0, none⟩) r.x.led.held.length ch7) := (cell_of_row _ _ 2 _ _ _ HQ.out.2.1).trans rfl
            obtain ⟨W9, hW9⟩ : ∃ z, wr.setCell ⟨bh, jj * 5 + 4, none⟩ (.int .u64 99) = z := ⟨_, rfl⟩
            have HQ9 : Hid (Two p q a0 (seesV r.x.now L r.x.led.held) (seesV r.x.now L r.x.led.held) OW B wa W9 ∧ W9.heap[gm]? = some (.cells (lArr r.x.led (.slice (some ⟨bh, 0, none⟩) r.x.led.held.length ch7) (.slice al7 r.x.led.last.length cl7)) 35 (0, 0)) ∧ OwnR 5 heldC 47 W9 w6.heap.size (.slice (some ⟨bh, 0, none⟩) r.x.led.held.length ch7) (xs.set jj { y with stamp := 99 }) ∧ (xs.set jj { y with stamp := 99 }).length = r.x.led.held.length) := Lib.hid (by
              rw [← hW9]
              exact ⟨TwoO.only (goodK p a0 _) (goodQ q a0 _) HQ.out.1 (Only.setCell wr ⟨bh, jj * 5 + 4, none⟩ _ hOb), (heap_setCell_other wr ⟨bh, jj * 5 + 4, none⟩ gm _ hne.symm).trans HQ.out.2.1, hset, by rw [List.length_set]; exact HQ.out.2.2.2⟩)
            clear hy hbh hB hOb hset hne
            go_wp2_with (first | rw [hW9])
            go_roundw
            case rel => exact ⟨jj + 1, _, by omega, by go_num, HQ9⟩
            case measure => simp [intOf]; omega
          · have hltqi : ¬ (jj : Int) < (r.x.led.held.length : Int) := by omega
            clear hltq hbn
            have HEQ := Lib.hid (TwoO.mono HQ.out.1 (O' := fun _ => False) (fun k hk => hk.elim))
            clear HQ
            go_wp2_with fail
            go_roundw
            case rel => exact ⟨j + 1, p, seesV r.x.now L r.x.led.held, by omega, by go_num, rfl, Lib.hid ⟨HEQ.out, HL9.out⟩⟩
            case measure => simp [intOf]; omega
      by_cases hk2 : r.x.kind = 2
      · have hkb : (r.x.kind == 2) = true := beq_iff_eq.2 hk2
        have hkb0 : (r.x.kind == 0) = false := beq_eq_false_iff_ne.2 hk0
        have hkb1 : (r.x.kind == 1) = false := beq_eq_false_iff_ne.2 hk1
        have HTd : Hid (Two p q a0 L L OW B wa W8.drew) := Lib.hid (TwoO.drew (goodK p a0 _) (goodQ q a0 _) HT8.out)
        have HCd : Hid (W8.drew.cell? ⟨g2, 1, none⟩ = some (.int .i64 r.x.now)) := Lib.hid ((cell_of_row W8 _ 1 _ _ _ (HG2.out W8 HK8.out)).trans rfl)
        have HL9 : Hid (OkL (doneV a0 r.x.now L) ∧ (doneV a0 r.x.now L).length ≤ 64) := Lib.hid ⟨HR.out.2.1.done a0 r.x.now, by rw [done_len]; exact HR.out.2.2⟩
        have g0 : W8.cell? ⟨g2, 0, none⟩ = some (.int .i64 r.x.kind) := (cell_of_row _ _ 0 _ _ _ (HG2.out W8 HK8.out)).trans rfl
        have g1 : W8.cell? ⟨g2, 1, none⟩ = some (.int .i64 r.x.now) := (cell_of_row _ _ 1 _ _ _ (HG2.out W8 HK8.out)).trans rfl
        have g2c : W8.cell? ⟨g2, 2, none⟩ = some (.int .i64 r.x.led.limit) := (cell_of_row _ _ 2 _ _ _ (HG2.out W8 HK8.out)).trans rfl
        have g3 : W8.cell? ⟨g2, 3, none⟩ = some (.int .u64 r.x.led.next) := (cell_of_row _ _ 3 _ _ _ (HG2.out W8 HK8.out)).trans rfl
        have g4 : W8.cell? ⟨g2, 4, none⟩ = some (r.vh) := (cell_of_row _ _ 4 _ _ _ (HG2.out W8 HK8.out)).trans rfl
        have g5 : W8.cell? ⟨g2, 5, none⟩ = some (r.vl) := (cell_of_row _ _ 5 _ _ _ (HG2.out W8 HK8.out)).trans rfl
        have m0 : W8.cell? ⟨gm, 0, none⟩ = some (.int .i64 r.x.led.limit) := (cell_of_row _ _ 0 _ _ _ (HGM.out W8 HK8.out)).trans rfl
        have m1 : W8.cell? ⟨gm, 1, none⟩ = some (.int .u64 r.x.led.next) := (cell_of_row _ _ 1 _ _ _ (HGM.out W8 HK8.out)).trans rfl
        have m2 : W8.cell? ⟨gm, 2, none⟩ = some (.slice ah7 r.x.led.held.length ch7) := (cell_of_row _ _ 2 _ _ _ (HGM.out W8 HK8.out)).trans rfl
        have m3 : W8.cell? ⟨gm, 3, none⟩ = some (.slice al7 r.x.led.last.length cl7) := (cell_of_row _ _ 3 _ _ _ (HGM.out W8 HK8.out)).trans rfl
        clear hk2
        go_upto_region 21 with fail
        clear g0 g1 g2c g3 g4 g5 m0 m1 m2 m3
        refine Wl.start 999 (fun _ => True) (fun u => u.cell? ⟨g2, 1, none⟩ = some (.int .i64 r.x.now)) (by kernel_rfl) trivial HCd.out (fun hk => ?_)
        refine Wl.take0 (i := 0) (v := .pointer (some ⟨p, 0, none⟩)) rfl (by kernel_rfl) (by kernel_rfl) (by kernel_rfl) (by kernel_rfl) (fun _ _ _ h => h) (.inl ⟨by kernel_rfl, ?_⟩) hk ?_
        · intro wx hSw
          clear hSw hk
          go_simp
          try first | with_reducible rfl | kernel_rfl
        simp only [Act.put, List.getElem_toArray, List.getElem_cons_succ, List.getElem_cons_zero, List.setIfInBounds_toArray, List.set_cons_succ, List.set_cons_zero]
        refine Wl.take0 (i := 1) (v := .pointer (some ⟨g2, 1, none⟩)) rfl (by kernel_rfl) (by kernel_rfl) (by kernel_rfl) (by kernel_rfl) (fun _ _ _ h => h) (.inl ⟨by kernel_rfl, ?_⟩) hk ?_
        · intro wx hSw
          clear hSw hk
          go_simp
          try first | with_reducible rfl | kernel_rfl
        simp only [Act.put, List.getElem_toArray, List.getElem_cons_succ, List.getElem_cons_zero, List.setIfInBounds_toArray, List.set_cons_succ, List.set_cons_zero]
        refine Wl.take0 (i := 2) (v := .int .i64 r.x.now) rfl (by kernel_rfl) (by kernel_rfl) (by kernel_rfl) (by kernel_rfl) (fun _ _ _ h => h) (.inl ⟨by kernel_rfl, ?_⟩) hk ?_
        · intro wx hSw
          have cc := hSw
          clear hSw hk
          go_simp
          try first | with_reducible rfl | kernel_rfl
        simp only [Act.put, List.getElem_toArray, List.getElem_cons_succ, List.getElem_cons_zero, List.setIfInBounds_toArray, List.set_cons_succ, List.set_cons_zero]
        refine Wl.take0 (i := 4) (v := .pointer (some ⟨q, 0, none⟩)) rfl (by kernel_rfl) (by kernel_rfl) (by kernel_rfl) (by kernel_rfl) (fun _ _ _ h => h) (.inl ⟨by kernel_rfl, ?_⟩) hk ?_
        · intro wx hSw
          clear hSw hk
          go_simp
          try first | with_reducible rfl | kernel_rfl
        simp only [Act.put, List.getElem_toArray, List.getElem_cons_succ, List.getElem_cons_zero, List.setIfInBounds_toArray, List.set_cons_succ, List.set_cons_zero]
        refine Wl.take0 (i := 5) (v := .pointer (some ⟨g2, 1, none⟩)) rfl (by kernel_rfl) (by kernel_rfl) (by kernel_rfl) (by kernel_rfl) (fun _ _ _ h => h) (.inl ⟨by kernel_rfl, ?_⟩) hk ?_
        · intro wx hSw
          clear hSw hk
          go_simp
          try first | with_reducible rfl | kernel_rfl
        simp only [Act.put, List.getElem_toArray, List.getElem_cons_succ, List.getElem_cons_zero, List.setIfInBounds_toArray, List.set_cons_succ, List.set_cons_zero]
        refine Wl.take0 (i := 6) (v := .int .i64 r.x.now) rfl (by kernel_rfl) (by kernel_rfl) (by kernel_rfl) (by kernel_rfl) (fun _ _ _ h => h) (.inl ⟨by kernel_rfl, ?_⟩) hk ?_
        · intro wx hSw
          have cc := hSw
          clear hSw hk
          go_simp
          try first | with_reducible rfl | kernel_rfl
        simp only [Act.put, List.getElem_toArray, List.getElem_cons_succ, List.getElem_cons_zero, List.setIfInBounds_toArray, List.set_cons_succ, List.set_cons_zero]
        refine Wl.one (i := 3) (by kernel_rfl) rfl (fun K hK => ?_)
        go_simp
        refine (HTd.out.due1 HR.out.2.1 HNN.out (by have := HR.out.2.2; omega) r.x.now).mono ?_
        rintro e w9 ⟨v9, rfl, o9, h9, k9⟩
        have H9 := Lib.hid h9
        have O9 := Lib.hid o9
        have HK9 : Hid (∀ k, OW k → w9.heap[k]? = W8.heap[k]?) := Lib.hid k9
        have HC9 : Hid (w9.cell? ⟨g2, 1, none⟩ = some (.int .i64 r.x.now)) := Lib.hid ((cell_of_row _ _ 1 _ _ _ (HG2.out w9 HK9.out)).trans rfl)
        clear h9 o9 k9
        refine hK.out _ _ (Wl.Kn.on trivial HC9.out) (fun hk => ?_)
        clear hK K
        refine Wl.one (i := 7) (by kernel_rfl) rfl (fun K hK => ?_)
        go_simp
        refine (H9.out.due2 HR.out.2.1 HNN.out (by have := HR.out.2.2; omega) r.x.now).mono ?_
        rintro e w10 ⟨v10, rfl, o10, h10, k10⟩
        have H10 := Lib.hid h10
        have O10 := Lib.hid o10
        have HK10 : Hid (∀ k, OW k → w10.heap[k]? = W8.heap[k]?) := Lib.hid (fun k hk => (k10 k (.inl hk)).trans (HK9.out k hk))
        have O9b : Hid (OwnR 8 rcC TCm w10 W8.heap.size v9 (dueK a0 r.x.now L)) := Lib.hid (own_keep O9.out (fun k hk hl => k10 k (.inr ⟨(World.ownsRow.lt O9.out k hk).1, hl⟩)))
        have HC10 : Hid (w10.cell? ⟨g2, 1, none⟩ = some (.int .i64 r.x.now)) := Lib.hid ((cell_of_row _ _ 1 _ _ _ (HG2.out w10 HK10.out)).trans rfl)
        clear h10 o10 k10
        refine hK.out _ _ (Wl.Kn.on trivial HC10.out) (fun hk => ?_)
        clear hK K
        refine Wl.one (i := 8) (by kernel_rfl) rfl (fun K hK => ?_)
        go_simp
        refine (sameCmds_any (dueK a0 r.x.now L) _ _ w10 (O9b.out.sl rcC_len) (O10.out.sl rcC_len) (fun z hz => due_wf HR.out.2.1 hz)).mono ?_
        rintro e w11 ⟨rfl, hb11⟩
        have H11 : Hid (Two p q a0 (doneV a0 r.x.now L) (doneV a0 r.x.now L) OW B wa w11) := Lib.hid (TwoO.mono (TwoO.below (goodK p a0 _) (goodQ q a0 _) H10.out hb11) (O' := OW) (fun k hk => .inl (.inl hk)))
        have HK11 : Hid (∀ k, OW k → w11.heap[k]? = W8.heap[k]?) := Lib.hid (fun k hk => (hb11.block k (H10.out.lt (.inl (.inl hk)))).trans (HK10.out k hk))
        have HC11 : Hid (w11.cell? ⟨g2, 1, none⟩ = some (.int .i64 r.x.now)) := Lib.hid ((cell_of_row _ _ 1 _ _ _ (HG2.out w11 HK11.out)).trans rfl)
        clear hb11
        refine hK.out _ _ (Wl.Kn.on trivial HC11.out) (fun hk => ?_)
        clear hK K
        refine Wl.take0 (i := 9) (v := .bool false) rfl (by kernel_rfl) (by kernel_rfl) (by kernel_rfl) (by kernel_rfl) (fun _ _ _ h => h) (.inl ⟨by kernel_rfl, ?_⟩) hk ?_
        · intro wx hSw
          clear hSw hk
          go_simp
          try first | with_reducible rfl | kernel_rfl
        simp only [Act.put, List.getElem_toArray, List.getElem_cons_succ, List.getElem_cons_zero, List.setIfInBounds_toArray, List.set_cons_succ, List.set_cons_zero]
        refine Wl.done (by kernel_rfl) ?_ _
        clear hk
        clear H9 H10 HC9 HC10 HC11 O9 O10 O9b HTd HCd
        have g0 : w11.cell? ⟨g2, 0, none⟩ = some (.int .i64 r.x.kind) := (cell_of_row _ _ 0 _ _ _ (HG2.out w11 HK11.out)).trans rfl
        have g1 : w11.cell? ⟨g2, 1, none⟩ = some (.int .i64 r.x.now) := (cell_of_row _ _ 1 _ _ _ (HG2.out w11 HK11.out)).trans rfl
        have g2c : w11.cell? ⟨g2, 2, none⟩ = some (.int .i64 r.x.led.limit) := (cell_of_row _ _ 2 _ _ _ (HG2.out w11 HK11.out)).trans rfl
        have g3 : w11.cell? ⟨g2, 3, none⟩ = some (.int .u64 r.x.led.next) := (cell_of_row _ _ 3 _ _ _ (HG2.out w11 HK11.out)).trans rfl
        have g4 : w11.cell? ⟨g2, 4, none⟩ = some (r.vh) := (cell_of_row _ _ 4 _ _ _ (HG2.out w11 HK11.out)).trans rfl
        have g5 : w11.cell? ⟨g2, 5, none⟩ = some (r.vl) := (cell_of_row _ _ 5 _ _ _ (HG2.out w11 HK11.out)).trans rfl
        have m0 : w11.cell? ⟨gm, 0, none⟩ = some (.int .i64 r.x.led.limit) := (cell_of_row _ _ 0 _ _ _ (HGM.out w11 HK11.out)).trans rfl
        have m1 : w11.cell? ⟨gm, 1, none⟩ = some (.int .u64 r.x.led.next) := (cell_of_row _ _ 1 _ _ _ (HGM.out w11 HK11.out)).trans rfl
        have m2 : w11.cell? ⟨gm, 2, none⟩ = some (.slice ah7 r.x.led.held.length ch7) := (cell_of_row _ _ 2 _ _ _ (HGM.out w11 HK11.out)).trans rfl
        have m3 : w11.cell? ⟨gm, 3, none⟩ = some (.slice al7 r.x.led.last.length cl7) := (cell_of_row _ _ 3 _ _ _ (HGM.out w11 HK11.out)).trans rfl
        go_upto_region 30 with fail
        have HLI : Hid (IsLed w11 (.agg (lArr r.x.led r.vh r.vl)) r.x.led) := Lib.hid ⟨_, _, rfl, (HRW.out w11 H11.out.bel.1).1, (HRW.out w11 H11.out.bel.1).2.1, HLED.out.2⟩
        have HLO : Hid (IsLed w11 (.agg (lArr r.x.led (.slice ah7 r.x.led.held.length ch7) (.slice al7 r.x.led.last.length cl7))) r.x.led) := Lib.hid ⟨_, _, rfl, (HOW.out w11 HK11.out).1, (HOW.out w11 HK11.out).2, HLED.out.2⟩
        go_wp2_with (first | ((with_reducible refine (Ld.same_any r.x.led _ _ w11 HLO.out HLI.out).mono ?_); rintro e wsm ⟨rfl, hbsm⟩; have HSM := Lib.hid (TwoO.below (goodK p a0 _) (goodQ q a0 _) H11.out hbsm); have HKS : Hid (∀ k, OW k → wsm.heap[k]? = W8.heap[k]?) := Lib.hid (fun k hk => (hbsm.block k (H11.out.lt hk)).trans (HK11.out k hk)); clear hbsm; clear g0 g1 g2c g3 g4 g5 m0 m1 m2 m3; have m2 : wsm.cell? ⟨gm, 2, none⟩ = some (.slice ah7 r.x.led.held.length ch7) := (cell_of_row _ _ 2 _ _ _ (HGM.out wsm HKS.out)).trans rfl))
        clear m2
        go_loopw [119] (fun i wq => ∃ (jj : Nat) (xs : List Held), jj ≤ r.x.led.held.length ∧ i = .int .i64 (jj : Int) ∧ Hid (Two p q a0 (doneV a0 r.x.now L) (doneV a0 r.x.now L) OW B wa wq ∧ wq.heap[gm]? = some (.cells (lArr r.x.led (.slice ah7 r.x.led.held.length ch7) (.slice al7 r.x.led.last.length cl7)) 35 (0, 0)) ∧ OwnR 5 heldC 47 wq w6.heap.size (.slice ah7 r.x.led.held.length ch7) xs ∧ xs.length = r.x.led.held.length)) (fun i _ => r.x.led.held.length - (intOf i).toNat)
        case atStart => exact ⟨0, r.x.led.held, Nat.zero_le _, rfl, Lib.hid ⟨HSM.out, HGM.out wsm HKS.out, HOH.out wsm HKS.out, rfl⟩⟩
        case round =>
          obtain ⟨jj, xs, hjj, rfl, HQ⟩ := hrel
          clear HSM HKS
          have hbn : r.x.led.held.length ≤ 64 := HHL.out
          by_cases hltq : jj < r.x.led.held.length
          · have hltqi : (jj : Int) < (r.x.led.held.length : Int) := by omega
            obtain ⟨y, hy⟩ : ∃ y, xs[jj]? = some y := ⟨_, List.getElem?_eq_getElem (by rw [HQ.out.2.2.2]; exact hltq)⟩
            obtain ⟨bh, cur, rfl, hbh, hB⟩ : ∃ b cur, ah7 = some ⟨b, 0, none⟩ ∧ wr.heap[b]? = some (.cells cur 47 (0, 0)) ∧ w6.heap.size ≤ b := by
              rcases own_form HQ.out.2.2.1 with ⟨-, h0⟩ | ⟨b, c, cur, e1, e2, e3⟩
              · rw [HQ.out.2.2.2] at h0; omega
              · simp only [Value.slice.injEq] at e1
                exact ⟨b, cur, e1.1, e2, e3⟩
            have hOb : OW bh := HOB.out bh rfl
            have hset := own_set heldC_len HQ.out.2.2.1 hy (x' := { y with stamp := 99 }) (i := 4) (by decide) (u := .int .u64 99) rfl
            have hne : bh ≠ gm := own_ty HQ.out.2.2.1 HQ.out.2.1 (by decide) bh rfl
            have hcy : wr.cell? ⟨bh, jj * 5 + 4, none⟩ = some (.int .u64 y.stamp) := by
              rcases SlR.cases (HQ.out.2.2.1.sl heldC_len) with ⟨a9, c9, e, hnil⟩ | ⟨b, off, c9, e, -, -, -, -, hc⟩
              · have := congrArg List.length hnil; rw [HQ.out.2.2.2, List.length_nil] at this; omega
              · simp only [Value.slice.injEq, Option.some.injEq, Addr.mk.injEq, and_true] at e
                obtain ⟨⟨rfl, rfl⟩, -, -⟩ := e
                have h4 := (Ld.held_cells (hc jj y hy)).2.2.2.2
                simp only [Nat.zero_add] at h4
                exact h4
            have hfz : wr.frozen? ⟨bh, jj * 5 + 4, none⟩ = false := frozen_of_row wr _ _ _ _ hbh
            have m2 : wr.cell? ⟨gm, 2, none⟩ = some (.slice (some ⟨bh, 0, none⟩) r.x.led.held.length ch7) := (cell_of_row _ _ 2 _ _ _ HQ.out.2.1).trans rfl
            obtain ⟨W9, hW9⟩ : ∃ z, wr.setCell ⟨bh, jj * 5 + 4, none⟩ (.int .u64 99) = z := ⟨_, rfl⟩
            have HQ9 : Hid (Two p q a0 (doneV a0 r.x.now L) (doneV a0 r.x.now L) OW B wa W9 ∧ W9.heap[gm]? = some (.cells (lArr r.x.led (.slice (some ⟨bh, 0, none⟩) r.x.led.held.length ch7) (.slice al7 r.x.led.last.length cl7)) 35 (0, 0)) ∧ OwnR 5 heldC 47 W9 w6.heap.size (.slice (some ⟨bh, 0, none⟩) r.x.led.held.length ch7) (xs.set jj { y with stamp := 99 }) ∧ (xs.set jj { y with stamp := 99 }).length = r.x.led.held.length) := Lib.hid (by
              rw [← hW9]
              exact ⟨TwoO.only (goodK p a0 _) (goodQ q a0 _) HQ.out.1 (Only.setCell wr ⟨bh, jj * 5 + 4, none⟩ _ hOb), (heap_setCell_other wr ⟨bh, jj * 5 + 4, none⟩ gm _ hne.symm).trans HQ.out.2.1, hset, by rw [List.length_set]; exact HQ.out.2.2.2⟩)
            clear hy hbh hB hOb hset hne
            go_wp2_with (first | rw [hW9])
            go_roundw
            case rel => exact ⟨jj + 1, _, by omega, by go_num, HQ9⟩
            case measure => simp [intOf]; omega
          · have hltqi : ¬ (jj : Int) < (r.x.led.held.length : Int) := by omega
            clear hltq hbn
            have HEQ := Lib.hid (TwoO.mono HQ.out.1 (O' := fun _ => False) (fun k hk => hk.elim))
            clear HQ
            go_wp2_with fail
            go_roundw
            case rel => exact ⟨j + 1, p, doneV a0 r.x.now L, by omega, by go_num, rfl, Lib.hid ⟨HEQ.out, HL9.out⟩⟩
            case measure => simp [intOf]; omega
      by_cases hk3 : r.x.kind = 3
      · have hkb : (r.x.kind == 3) = true := beq_iff_eq.2 hk3
        have hkb0 : (r.x.kind == 0) = false := beq_eq_false_iff_ne.2 hk0
        have hkb1 : (r.x.kind == 1) = false := beq_eq_false_iff_ne.2 hk1
        have hkb2 : (r.x.kind == 2) = false := beq_eq_false_iff_ne.2 hk2
        have HC1 := Lib.hid (HT8.out.clone (by have := HR.out.2.2; omega))
        have HL9 : Hid (OkL L ∧ L.length ≤ 64) := Lib.hid HR.out.2
        have g0 : W8.cell? ⟨g2, 0, none⟩ = some (.int .i64 r.x.kind) := (cell_of_row _ _ 0 _ _ _ (HG2.out W8 HK8.out)).trans rfl
        have g1 : W8.cell? ⟨g2, 1, none⟩ = some (.int .i64 r.x.now) := (cell_of_row _ _ 1 _ _ _ (HG2.out W8 HK8.out)).trans rfl
        have g2c : W8.cell? ⟨g2, 2, none⟩ = some (.int .i64 r.x.led.limit) := (cell_of_row _ _ 2 _ _ _ (HG2.out W8 HK8.out)).trans rfl
        have g3 : W8.cell? ⟨g2, 3, none⟩ = some (.int .u64 r.x.led.next) := (cell_of_row _ _ 3 _ _ _ (HG2.out W8 HK8.out)).trans rfl
        have g4 : W8.cell? ⟨g2, 4, none⟩ = some (r.vh) := (cell_of_row _ _ 4 _ _ _ (HG2.out W8 HK8.out)).trans rfl
        have g5 : W8.cell? ⟨g2, 5, none⟩ = some (r.vl) := (cell_of_row _ _ 5 _ _ _ (HG2.out W8 HK8.out)).trans rfl
        have m0 : W8.cell? ⟨gm, 0, none⟩ = some (.int .i64 r.x.led.limit) := (cell_of_row _ _ 0 _ _ _ (HGM.out W8 HK8.out)).trans rfl
        have m1 : W8.cell? ⟨gm, 1, none⟩ = some (.int .u64 r.x.led.next) := (cell_of_row _ _ 1 _ _ _ (HGM.out W8 HK8.out)).trans rfl
        have m2 : W8.cell? ⟨gm, 2, none⟩ = some (.slice ah7 r.x.led.held.length ch7) := (cell_of_row _ _ 2 _ _ _ (HGM.out W8 HK8.out)).trans rfl
        have m3 : W8.cell? ⟨gm, 3, none⟩ = some (.slice al7 r.x.led.last.length cl7) := (cell_of_row _ _ 3 _ _ _ (HGM.out W8 HK8.out)).trans rfl
        clear hk3
        go_upto_region 27 with (first | ((with_reducible refine HC1.out.mono ?_); rintro e w9 ⟨cp, rfl, h9, k9⟩; have H9 := Lib.hid h9; have HK9 : Hid (∀ k, OW k → w9.heap[k]? = W8.heap[k]?) := Lib.hid k9; clear h9 k9))
        clear g0 g1 g2c g3 g4 g5 m0 m1 m2 m3
        have HC2 := Lib.hid (H9.out.leads r.x.now HLA.out (vh := .slice ah7 r.x.led.held.length ch7) (vl := .slice al7 r.x.led.last.length cl7) (fun w9 h9 => (HOW.out w9 (fun k hk => (h9 k hk).trans (HK9.out k hk))).1))
        have g0 : w9.cell? ⟨g2, 0, none⟩ = some (.int .i64 r.x.kind) := (cell_of_row _ _ 0 _ _ _ (HG2.out w9 HK9.out)).trans rfl
        have g1 : w9.cell? ⟨g2, 1, none⟩ = some (.int .i64 r.x.now) := (cell_of_row _ _ 1 _ _ _ (HG2.out w9 HK9.out)).trans rfl
        have g2c : w9.cell? ⟨g2, 2, none⟩ = some (.int .i64 r.x.led.limit) := (cell_of_row _ _ 2 _ _ _ (HG2.out w9 HK9.out)).trans rfl
        have g3 : w9.cell? ⟨g2, 3, none⟩ = some (.int .u64 r.x.led.next) := (cell_of_row _ _ 3 _ _ _ (HG2.out w9 HK9.out)).trans rfl
        have g4 : w9.cell? ⟨g2, 4, none⟩ = some (r.vh) := (cell_of_row _ _ 4 _ _ _ (HG2.out w9 HK9.out)).trans rfl
        have g5 : w9.cell? ⟨g2, 5, none⟩ = some (r.vl) := (cell_of_row _ _ 5 _ _ _ (HG2.out w9 HK9.out)).trans rfl
        have m0 : w9.cell? ⟨gm, 0, none⟩ = some (.int .i64 r.x.led.limit) := (cell_of_row _ _ 0 _ _ _ (HGM.out w9 HK9.out)).trans rfl
        have m1 : w9.cell? ⟨gm, 1, none⟩ = some (.int .u64 r.x.led.next) := (cell_of_row _ _ 1 _ _ _ (HGM.out w9 HK9.out)).trans rfl
        have m2 : w9.cell? ⟨gm, 2, none⟩ = some (.slice ah7 r.x.led.held.length ch7) := (cell_of_row _ _ 2 _ _ _ (HGM.out w9 HK9.out)).trans rfl
        have m3 : w9.cell? ⟨gm, 3, none⟩ = some (.slice al7 r.x.led.last.length cl7) := (cell_of_row _ _ 3 _ _ _ (HGM.out w9 HK9.out)).trans rfl
        go_upto_region 28 with (first | ((with_reducible refine HC2.out.mono ?_); rintro e w10 ⟨rfl, h10, k10⟩; have H10 := Lib.hid h10; have HK10 : Hid (∀ k, OW k → w10.heap[k]? = W8.heap[k]?) := Lib.hid (fun k hk => (k10 k hk).trans (HK9.out k hk)); clear h10 k10))
        clear g0 g1 g2c g3 g4 g5 m0 m1 m2 m3
        have HC3 := Lib.hid (H10.out.due (OkL.nil.sees r.x.now HLA.out.wf HLA.out.nd) HNN.out (by rw [sees_len]; have := HHL.out; omega) 4611686018427387904)
        go_upto_region 30 with (first | ((with_reducible refine HC3.out.mono ?_); rintro e w11 ⟨⟨vd, rfl⟩, h11, k11⟩; have H11 := Lib.hid h11; have HK11 : Hid (∀ k, OW k → w11.heap[k]? = W8.heap[k]?) := Lib.hid (fun k hk => (k11 k hk).trans (HK10.out k hk)); clear h11 k11))
        have g0 : w11.cell? ⟨g2, 0, none⟩ = some (.int .i64 r.x.kind) := (cell_of_row _ _ 0 _ _ _ (HG2.out w11 HK11.out)).trans rfl
        have g1 : w11.cell? ⟨g2, 1, none⟩ = some (.int .i64 r.x.now) := (cell_of_row _ _ 1 _ _ _ (HG2.out w11 HK11.out)).trans rfl
        have g2c : w11.cell? ⟨g2, 2, none⟩ = some (.int .i64 r.x.led.limit) := (cell_of_row _ _ 2 _ _ _ (HG2.out w11 HK11.out)).trans rfl
        have g3 : w11.cell? ⟨g2, 3, none⟩ = some (.int .u64 r.x.led.next) := (cell_of_row _ _ 3 _ _ _ (HG2.out w11 HK11.out)).trans rfl
        have g4 : w11.cell? ⟨g2, 4, none⟩ = some (r.vh) := (cell_of_row _ _ 4 _ _ _ (HG2.out w11 HK11.out)).trans rfl
        have g5 : w11.cell? ⟨g2, 5, none⟩ = some (r.vl) := (cell_of_row _ _ 5 _ _ _ (HG2.out w11 HK11.out)).trans rfl
        have m0 : w11.cell? ⟨gm, 0, none⟩ = some (.int .i64 r.x.led.limit) := (cell_of_row _ _ 0 _ _ _ (HGM.out w11 HK11.out)).trans rfl
        have m1 : w11.cell? ⟨gm, 1, none⟩ = some (.int .u64 r.x.led.next) := (cell_of_row _ _ 1 _ _ _ (HGM.out w11 HK11.out)).trans rfl
        have m2 : w11.cell? ⟨gm, 2, none⟩ = some (.slice ah7 r.x.led.held.length ch7) := (cell_of_row _ _ 2 _ _ _ (HGM.out w11 HK11.out)).trans rfl
        have m3 : w11.cell? ⟨gm, 3, none⟩ = some (.slice al7 r.x.led.last.length cl7) := (cell_of_row _ _ 3 _ _ _ (HGM.out w11 HK11.out)).trans rfl
        go_upto_region 30 with fail
        have HLI : Hid (IsLed w11 (.agg (lArr r.x.led r.vh r.vl)) r.x.led) := Lib.hid ⟨_, _, rfl, (HRW.out w11 H11.out.bel.1).1, (HRW.out w11 H11.out.bel.1).2.1, HLED.out.2⟩
        have HLO : Hid (IsLed w11 (.agg (lArr r.x.led (.slice ah7 r.x.led.held.length ch7) (.slice al7 r.x.led.last.length cl7))) r.x.led) := Lib.hid ⟨_, _, rfl, (HOW.out w11 HK11.out).1, (HOW.out w11 HK11.out).2, HLED.out.2⟩
        go_wp2_with (first | ((with_reducible refine (Ld.same_any r.x.led _ _ w11 HLO.out HLI.out).mono ?_); rintro e wsm ⟨rfl, hbsm⟩; have HSM := Lib.hid (TwoO.below (goodK cp a0 _) (goodQ q a0 _) H11.out hbsm); have HKS : Hid (∀ k, OW k → wsm.heap[k]? = W8.heap[k]?) := Lib.hid (fun k hk => (hbsm.block k (H11.out.lt hk)).trans (HK11.out k hk)); clear hbsm; clear g0 g1 g2c g3 g4 g5 m0 m1 m2 m3; have m2 : wsm.cell? ⟨gm, 2, none⟩ = some (.slice ah7 r.x.led.held.length ch7) := (cell_of_row _ _ 2 _ _ _ (HGM.out wsm HKS.out)).trans rfl))
        clear m2
        go_loopw [119] (fun i wq => ∃ (jj : Nat) (xs : List Held), jj ≤ r.x.led.held.length ∧ i = .int .i64 (jj : Int) ∧ Hid (Two cp q a0 (L) (L) OW B wa wq ∧ wq.heap[gm]? = some (.cells (lArr r.x.led (.slice ah7 r.x.led.held.length ch7) (.slice al7 r.x.led.last.length cl7)) 35 (0, 0)) ∧ OwnR 5 heldC 47 wq w6.heap.size (.slice ah7 r.x.led.held.length ch7) xs ∧ xs.length = r.x.led.held.length)) (fun i _ => r.x.led.held.length - (intOf i).toNat)
        case atStart => exact ⟨0, r.x.led.held, Nat.zero_le _, rfl, Lib.hid ⟨HSM.out, HGM.out wsm HKS.out, HOH.out wsm HKS.out, rfl⟩⟩
        case round =>
          obtain ⟨jj, xs, hjj, rfl, HQ⟩ := hrel
          clear HSM HKS
          have hbn : r.x.led.held.length ≤ 64 := HHL.out
          by_cases hltq : jj < r.x.led.held.length
          · have hltqi : (jj : Int) < (r.x.led.held.length : Int) := by omega
            obtain ⟨y, hy⟩ : ∃ y, xs[jj]? = some y := ⟨_, List.getElem?_eq_getElem (by rw [HQ.out.2.2.2]; exact hltq)⟩
            obtain ⟨bh, cur, rfl, hbh, hB⟩ : ∃ b cur, ah7 = some ⟨b, 0, none⟩ ∧ wr.heap[b]? = some (.cells cur 47 (0, 0)) ∧ w6.heap.size ≤ b := by
              rcases own_form HQ.out.2.2.1 with ⟨-, h0⟩ | ⟨b, c, cur, e1, e2, e3⟩
              · rw [HQ.out.2.2.2] at h0; omega
              · simp only [Value.slice.injEq] at e1
                exact ⟨b, cur, e1.1, e2, e3⟩
            have hOb : OW bh := HOB.out bh rfl
            have hset := own_set heldC_len HQ.out.2.2.1 hy (x' := { y with stamp := 99 }) (i := 4) (by decide) (u := .int .u64 99) rfl
            have hne : bh ≠ gm := own_ty HQ.out.2.2.1 HQ.out.2.1 (by decide) bh rfl
            have hcy : wr.cell? ⟨bh, jj * 5 + 4, none⟩ = some (.int .u64 y.stamp) := by
              rcases SlR.cases (HQ.out.2.2.1.sl heldC_len) with ⟨a9, c9, e, hnil⟩ | ⟨b, off, c9, e, -, -, -, -, hc⟩
              · have := congrArg List.length hnil; rw [HQ.out.2.2.2, List.length_nil] at this; omega
              · simp only [Value.slice.injEq, Option.some.injEq, Addr.mk.injEq, and_true] at e
                obtain ⟨⟨rfl, rfl⟩, -, -⟩ := e
                have h4 := (Ld.held_cells (hc jj y hy)).2.2.2.2
                simp only [Nat.zero_add] at h4
                exact h4
            have hfz : wr.frozen? ⟨bh, jj * 5 + 4, none⟩ = false := frozen_of_row wr _ _ _ _ hbh
            have m2 : wr.cell? ⟨gm, 2, none⟩ = some (.slice (some ⟨bh, 0, none⟩) r.x.led.held.length ch7) := (cell_of_row _ _ 2 _ _ _ HQ.out.2.1).trans rfl
            obtain ⟨W9, hW9⟩ : ∃ z, wr.setCell ⟨bh, jj * 5 + 4, none⟩ (.int .u64 99) = z := ⟨_, rfl⟩
            have HQ9 : Hid (Two cp q a0 (L) (L) OW B wa W9 ∧ W9.heap[gm]? = some (.cells (lArr r.x.led (.slice (some ⟨bh, 0, none⟩) r.x.led.held.length ch7) (.slice al7 r.x.led.last.length cl7)) 35 (0, 0)) ∧ OwnR 5 heldC 47 W9 w6.heap.size (.slice (some ⟨bh, 0, none⟩) r.x.led.held.length ch7) (xs.set jj { y with stamp := 99 }) ∧ (xs.set jj { y with stamp := 99 }).length = r.x.led.held.length) := Lib.hid (by
              rw [← hW9]
              exact ⟨TwoO.only (goodK cp a0 _) (goodQ q a0 _) HQ.out.1 (Only.setCell wr ⟨bh, jj * 5 + 4, none⟩ _ hOb), (heap_setCell_other wr ⟨bh, jj * 5 + 4, none⟩ gm _ hne.symm).trans HQ.out.2.1, hset, by rw [List.length_set]; exact HQ.out.2.2.2⟩)
            clear hy hbh hB hOb hset hne
            go_wp2_with (first | rw [hW9])
            go_roundw
            case rel => exact ⟨jj + 1, _, by omega, by go_num, HQ9⟩
            case measure => simp [intOf]; omega
          · have hltqi : ¬ (jj : Int) < (r.x.led.held.length : Int) := by omega
            clear hltq hbn
            have HEQ := Lib.hid (TwoO.mono HQ.out.1 (O' := fun _ => False) (fun k hk => hk.elim))
            clear HQ
            go_wp2_with fail
            go_roundw
            case rel => exact ⟨j + 1, cp, L, by omega, by go_num, rfl, Lib.hid ⟨HEQ.out, HL9.out⟩⟩
            case measure => simp [intOf]; omega
      have hkb0 : (r.x.kind == 0) = false := beq_eq_false_iff_ne.2 hk0
      have hkb1 : (r.x.kind == 1) = false := beq_eq_false_iff_ne.2 hk1
      have hkb2 : (r.x.kind == 2) = false := beq_eq_false_iff_ne.2 hk2
      have hkb3 : (r.x.kind == 3) = false := beq_eq_false_iff_ne.2 hk3
      have HL9 : Hid (OkL L ∧ L.length ≤ 64) := Lib.hid HR.out.2
      clear hk0 hk1 hk2 hk3
      have g0 : W8.cell? ⟨g2, 0, none⟩ = some (.int .i64 r.x.kind) := (cell_of_row _ _ 0 _ _ _ (HG2.out W8 HK8.out)).trans rfl
      have g1 : W8.cell? ⟨g2, 1, none⟩ = some (.int .i64 r.x.now) := (cell_of_row _ _ 1 _ _ _ (HG2.out W8 HK8.out)).trans rfl
      have g2c : W8.cell? ⟨g2, 2, none⟩ = some (.int .i64 r.x.led.limit) := (cell_of_row _ _ 2 _ _ _ (HG2.out W8 HK8.out)).trans rfl
      have g3 : W8.cell? ⟨g2, 3, none⟩ = some (.int .u64 r.x.led.next) := (cell_of_row _ _ 3 _ _ _ (HG2.out W8 HK8.out)).trans rfl
      have g4 : W8.cell? ⟨g2, 4, none⟩ = some (r.vh) := (cell_of_row _ _ 4 _ _ _ (HG2.out W8 HK8.out)).trans rfl
      have g5 : W8.cell? ⟨g2, 5, none⟩ = some (r.vl) := (cell_of_row _ _ 5 _ _ _ (HG2.out W8 HK8.out)).trans rfl
      have m0 : W8.cell? ⟨gm, 0, none⟩ = some (.int .i64 r.x.led.limit) := (cell_of_row _ _ 0 _ _ _ (HGM.out W8 HK8.out)).trans rfl
      have m1 : W8.cell? ⟨gm, 1, none⟩ = some (.int .u64 r.x.led.next) := (cell_of_row _ _ 1 _ _ _ (HGM.out W8 HK8.out)).trans rfl
      have m2 : W8.cell? ⟨gm, 2, none⟩ = some (.slice ah7 r.x.led.held.length ch7) := (cell_of_row _ _ 2 _ _ _ (HGM.out W8 HK8.out)).trans rfl
      have m3 : W8.cell? ⟨gm, 3, none⟩ = some (.slice al7 r.x.led.last.length cl7) := (cell_of_row _ _ 3 _ _ _ (HGM.out W8 HK8.out)).trans rfl
      go_upto_region 30 with fail
      have HLI : Hid (IsLed W8 (.agg (lArr r.x.led r.vh r.vl)) r.x.led) := Lib.hid ⟨_, _, rfl, (HRW.out W8 HT8.out.bel.1).1, (HRW.out W8 HT8.out.bel.1).2.1, HLED.out.2⟩
      have HLO : Hid (IsLed W8 (.agg (lArr r.x.led (.slice ah7 r.x.led.held.length ch7) (.slice al7 r.x.led.last.length cl7))) r.x.led) := Lib.hid ⟨_, _, rfl, (HOW.out W8 HK8.out).1, (HOW.out W8 HK8.out).2, HLED.out.2⟩
      go_wp2_with (first | ((with_reducible refine (Ld.same_any r.x.led _ _ W8 HLO.out HLI.out).mono ?_); rintro e wsm ⟨rfl, hbsm⟩; have HSM := Lib.hid (TwoO.below (goodK p a0 _) (goodQ q a0 _) HT8.out hbsm); have HKS : Hid (∀ k, OW k → wsm.heap[k]? = W8.heap[k]?) := Lib.hid (fun k hk => (hbsm.block k (HT8.out.lt hk)).trans (HK8.out k hk)); clear hbsm; clear g0 g1 g2c g3 g4 g5 m0 m1 m2 m3; have m2 : wsm.cell? ⟨gm, 2, none⟩ = some (.slice ah7 r.x.led.held.length ch7) := (cell_of_row _ _ 2 _ _ _ (HGM.out wsm HKS.out)).trans rfl))
      clear m2
      go_loopw [119] (fun i wq => ∃ (jj : Nat) (xs : List Held), jj ≤ r.x.led.held.length ∧ i = .int .i64 (jj : Int) ∧ Hid (Two p q a0 (L) (L) OW B wa wq ∧ wq.heap[gm]? = some (.cells (lArr r.x.led (.slice ah7 r.x.led.held.length ch7) (.slice al7 r.x.led.last.length cl7)) 35 (0, 0)) ∧ OwnR 5 heldC 47 wq w6.heap.size (.slice ah7 r.x.led.held.length ch7) xs ∧ xs.length = r.x.led.held.length)) (fun i _ => r.x.led.held.length - (intOf i).toNat)
      case atStart => exact ⟨0, r.x.led.held, Nat.zero_le _, rfl, Lib.hid ⟨HSM.out, HGM.out wsm HKS.out, HOH.out wsm HKS.out, rfl⟩⟩
      case round =>
        obtain ⟨jj, xs, hjj, rfl, HQ⟩ := hrel
        clear HSM HKS
        have hbn : r.x.led.held.length ≤ 64 := HHL.out
        by_cases hltq : jj < r.x.led.held.length
        · have hltqi : (jj : Int) < (r.x.led.held.length : Int) := by omega
          obtain ⟨y, hy⟩ : ∃ y, xs[jj]? = some y := ⟨_, List.getElem?_eq_getElem (by rw [HQ.out.2.2.2]; exact hltq)⟩
          obtain ⟨bh, cur, rfl, hbh, hB⟩ : ∃ b cur, ah7 = some ⟨b, 0, none⟩ ∧ wr.heap[b]? = some (.cells cur 47 (0, 0)) ∧ w6.heap.size ≤ b := by
            rcases own_form HQ.out.2.2.1 with ⟨-, h0⟩ | ⟨b, c, cur, e1, e2, e3⟩
            · rw [HQ.out.2.2.2] at h0; omega
            · simp only [Value.slice.injEq] at e1
              exact ⟨b, cur, e1.1, e2, e3⟩
          have hOb : OW bh := HOB.out bh rfl
          have hset := own_set heldC_len HQ.out.2.2.1 hy (x' := { y with stamp := 99 }) (i := 4) (by decide) (u := .int .u64 99) rfl
          have hne : bh ≠ gm := own_ty HQ.out.2.2.1 HQ.out.2.1 (by decide) bh rfl
          have hcy : wr.cell? ⟨bh, jj * 5 + 4, none⟩ = some (.int .u64 y.stamp) := by
            rcases SlR.cases (HQ.out.2.2.1.sl heldC_len) with ⟨a9, c9, e, hnil⟩ | ⟨b, off, c9, e, -, -, -, -, hc⟩
            · have := congrArg List.length hnil; rw [HQ.out.2.2.2, List.length_nil] at this; omega
            · simp only [Value.slice.injEq, Option.some.injEq, Addr.mk.injEq, and_true] at e
              obtain ⟨⟨rfl, rfl⟩, -, -⟩ := e
              have h4 := (Ld.held_cells (hc jj y hy)).2.2.2.2
              simp only [Nat.zero_add] at h4
              exact h4
          have hfz : wr.frozen? ⟨bh, jj * 5 + 4, none⟩ = false := frozen_of_row wr _ _ _ _ hbh
          have m2 : wr.cell? ⟨gm, 2, none⟩ = some (.slice (some ⟨bh, 0, none⟩) r.x.led.held.length ch7) := (cell_of_row _ _ 2 _ _ _ HQ.out.2.1).trans rfl
          obtain ⟨W9, hW9⟩ : ∃ z, wr.setCell ⟨bh, jj * 5 + 4, none⟩ (.int .u64 99) = z := ⟨_, rfl⟩
          have HQ9 : Hid (Two p q a0 (L) (L) OW B wa W9 ∧ W9.heap[gm]? = some (.cells (lArr r.x.led (.slice (some ⟨bh, 0, none⟩) r.x.led.held.length ch7) (.slice al7 r.x.led.last.length cl7)) 35 (0, 0)) ∧ OwnR 5 heldC 47 W9 w6.heap.size (.slice (some ⟨bh, 0, none⟩) r.x.led.held.length ch7) (xs.set jj { y with stamp := 99 }) ∧ (xs.set jj { y with stamp := 99 }).length = r.x.led.held.length) := Lib.hid (by
            rw [← hW9]
            exact ⟨TwoO.only (goodK p a0 _) (goodQ q a0 _) HQ.out.1 (Only.setCell wr ⟨bh, jj * 5 + 4, none⟩ _ hOb), (heap_setCell_other wr ⟨bh, jj * 5 + 4, none⟩ gm _ hne.symm).trans HQ.out.2.1, hset, by rw [List.length_set]; exact HQ.out.2.2.2⟩)
          clear hy hbh hB hOb hset hne
          go_wp2_with (first | rw [hW9])
          go_roundw
          case rel => exact ⟨jj + 1, _, by omega, by go_num, HQ9⟩
          case measure => simp [intOf]; omega
        · have hltqi : ¬ (jj : Int) < (r.x.led.held.length : Int) := by omega
          clear hltq hbn
          have HEQ := Lib.hid (TwoO.mono HQ.out.1 (O' := fun _ => False) (fun k hk => hk.elim))
          clear HQ
          go_wp2_with fail
          go_roundw
          case rel => exact ⟨j + 1, p, L, by omega, by go_num, rfl, Lib.hid ⟨HEQ.out, HL9.out⟩⟩
          case measure => simp [intOf]; omega
    · obtain rfl : j = x1.length := by omega
      have HEND := Lib.hid (HBW.out wr HR.out.1.bel.1)
      clear HR
      go_wp2
      go_ret
      exact ⟨rfl, HEND.out⟩

set_option maxRecDepth 100000 in
theorem contract (H : Type) (enc : TypeId × Value → H) (W : World) (base : Nat) (args : Array Value) (ds gs : List (DataW H)) (before : List MemPlace)
    (hval0 : ∀ (j : Nat) t v, Try.f3.params[j]? = some t → args[j]? = some v → Value.okWide Try.prog W .any base t v)
    (hW : DataW.Whole enc Try.prog Try.f3.params.toList Rows.leaseKeepsSpec.vars false W args.toList ds gs before)
    (hsz0 : (DataW.weightsEach Try.prog (Try.f3.params.toList ++ Rows.leaseKeepsSpec.plain.varTypes Try.prog) (ds ++ gs)).all (· ≤ reachBytes) = true) :
    Calls Try.prog 3 args W fun e W' => ∃ v, e = .returned v ∧ Rows.leaseKeepsSpec.post enc Try.prog Try.f3 false true false false W args v W' := by
  have hval : ∀ (j : Nat) t v, Try.f3.params[j]? = some t → args[j]? = some v → Value.okWide Try.prog W .any base t v := hval0
  have hW' := hW
  obtain ⟨p, q, hA0, hV, rfl, hfz, hnd⟩ := hW
  have hA : DataW.TrodAll enc Try.prog W 0 (fun _ => true) true Try.f3.params.toList args.toList ds p := hA0
  rw [Try.params3] at hA hval
  have hsz := hsz0
  rw [Try.params3] at hsz
  obtain ⟨v0, vs0, d0, ds0, p0, q0, hargs, rfl, rfl, h0, r0⟩ := trodAll_cons hA
  obtain ⟨v1, vs1, d1, ds1, p1, q1, rfl, rfl, rfl, h1, r1⟩ := trodAll_cons r0
  obtain ⟨rfl, rfl, rfl⟩ := trodAll_nil r1
  obtain rfl : args = #[v0, v1] := by cases args; simp_all
  obtain ⟨rfl, rfl⟩ := trodVars_none hV
  clear hA0 hval0
  have k0 := h0
  have lt0 : ∀ x ∈ p0, x.block < W.heap.size := by obtain ⟨m, hm⟩ := k0; exact DataW.trod_lt m _ _ _ hm
  have k1 := h1
  have lt1 : ∀ x ∈ p1, x.block < W.heap.size := by obtain ⟨m, hm⟩ := k1; exact DataW.trod_lt m _ _ _ hm
  obtain ⟨a0, rfl, -, -, w0⟩ := open_int Try.underlying2 (hval 0 2 v0 rfl rfl) h0
  obtain ⟨x1, w1, -, s1⟩ := open_sees (hval 1 22 v1 rfl rfl) k1
  have b1 : IsSees.fits x1 := s1 (wt_arg hsz (j := 1) rfl rfl)
  refine (walk a0 v1 x1 W w0 w1 b1).mono fun e W' ⟨he, bel⟩ => ?_
  subst he
  exact ⟨_, rfl, _, _, _, [], _, [], hW', trodAll_mk1 (shut_bool Try.underlying4 _), (trodAll_cons_mk (Below.trod laidOut (by kernel_rfl) (of_decide_eq_true (by kernel_rfl)) k0 bel lt0) (trodAll_cons_mk (Below.trod laidOut (by kernel_rfl) (of_decide_eq_true (by kernel_rfl)) k1 bel lt1) trodAll_mk0)), rfl, bel.frame _, fun h => by cases h⟩

set_option maxRecDepth 100000 in
theorem lifted (os : Os) (started : os.Started) (H : Type) (enc : TypeId × Value → H) :
    ReturnsInHanded {} Try.checked os 3 .any (Rows.leaseKeepsSpec.pre6 enc Try.prog Try.f3 Rows.leaseKeepsRow.domain false) (Rows.leaseKeepsSpec.post enc Try.prog Try.f3 false true false false) := by
  refine returnsInHanded_of_change_sized (C := Try.checked) own started (by kernel_rfl) Try.func3
    (ChangeSpec.witness6 (enc := enc) (C := Try.checked) false ⟨#[], #[.int .i64 0, .slice none 0 0], []⟩ 8 (by kernel_rfl) (by kernel_rfl) (by kernel_rfl) (by kernel_rfl)) ?_
  intro W base args ds gs before hval0 hW hcnd hsz _
  exact contract H enc W base args ds gs before hval0 hW hsz

theorem proved : Rows.LeaseKeepsSaid :=
  OpenClaim.holds_of_wide 3 Try.f3 rfl rfl rfl rfl rfl rfl rfl ⟨rfl, rfl, rfl, rfl, rfl⟩ rfl rfl rfl rfl rfl (by kernel_rfl) Try.func3 (by kernel_rfl)
    (of_decide_eq_true (by kernel_rfl)) (by unfold Func.isWrapper; first | (rw [if_pos (by decide +kernel)]; kernel_rfl) | (rw [if_neg (by decide +kernel)]; exact ⟨rfl, rfl⟩))
    (fun os started H enc _ => lifted os started H enc)
end Go.Proofs.Ytgbblegcjladaaa.leaseKeeps
