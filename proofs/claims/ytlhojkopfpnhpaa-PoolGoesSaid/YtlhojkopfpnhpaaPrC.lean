/- The document's pool: Free, Leave, Want. No condition. -/
import Derived.Test.YtlhojkopfpnhpaaPrB
import Derived.Deep.RegionLawGrows
namespace Go.Proofs.Ytlhojkopfpnhpaa
open Go.ChangeShapes Go.WideShapes Go.ChangeAt Go.RowKit Go.Deep
set_option linter.unusedVariables false
set_option maxRecDepth 100000
set_option linter.unusedSimpArgs false
namespace Pr
open Pl
variable {w w' : World} {B q : Nat} {vC vW : Value} {cs : List Cn} {ws : List Int}
theorem RpC.from_ {cs' : List Cn} {ws' : List Int} {w2 : World} (h : RpC B q vC cs' ws' w2 w') (hb : Below w.heap.size w w2) : RpC B q vC cs' ws' w w' := by
  obtain ⟨a, b, h1, h2, h3⟩ := h
  exact ⟨a, b, h1, (Below.only hb _).trans h2, h3.imp id (fun g k hk => Nat.le_trans hb.size (g k hk))⟩
def ROp (B q : Nat) (vC : Value) (z r : Int) (cs' : List Cn) (ws' : List Int) (w : World) (e : Ending) (w' : World) : Prop := e = .returned (.tuple #[.int .i64 z, .int .i64 r]) ∧ RpC B q vC cs' ws' w w'
theorem has_nz {s : Int} (ok : OkP cs ws) : (ofI s cs = -1 ∧ hasT s cs = 0) ∨ ∃ (k : Nat) (x : Cn), cs[k]? = some x ∧ x.sess = s ∧ s ≠ 0 ∧ ofI s cs = (k : Int) ∧ hasT s cs = x.tok ∧ x.tok ≠ 0 := by
  rcases of_cases s cs with ⟨k, x, hx, e, h0, eo⟩ | ⟨eo, -⟩
  · refine .inr ⟨k, x, hx, e, h0, eo, ?_, by have := ok.tok _ _ hx; omega⟩
    rw [← e]
    exact has_eq ok hx (by rw [e]; exact h0)
  · exact .inl ⟨eo, by unfold hasT; rw [eo, if_pos (by decide)]⟩
theorem slr_new (w : World) (z : Int) : SlR 1 intC (w.alloc (.cells #[.int .i64 z] 3)) (.slice (some ⟨w.heap.size, 0, none⟩) 1 1) [z] := by
  refine ⟨_, _, rfl, Nat.le_refl _, by decide, .inr ⟨_, _, _, rfl, .inr ⟨rfl, row_lt (heap_alloc_new w _), ?_⟩⟩⟩
  intro i x hx j u hu
  match i, hx with
  | 0, hx =>
    simp only [List.getElem?_cons_zero, Option.some.injEq] at hx
    subst hx
    match j, hu with
    | 0, hu => simp only [intC, List.getElem?_cons_zero, Option.some.injEq] at hu; subst hu; exact cell_new w _ _
    | j + 1, hu => simp at hu
  | i + 1, hx => simp at hx

theorem rfree_any (s : Int) (w : World) (h : RpAt w B q vC vW cs ws) (hB : B ≤ w.heap.size) (ok : OkP cs ws) (h8 : cs.length ≤ 8) (h4 : ws.length ≤ 4) :
    Calls Try.prog 13 #[.pointer (some ⟨q, 0, none⟩), .int .i64 s] w (ROp B q vC (freeV s cs ws) (freeE s cs) (freeC s cs ws) (freeW s cs ws) w) := by
  have HR := Lib.hid h
  have HOK := Lib.hid ok
  have HB := Lib.hid hB
  rcases has_nz (s := s) ok with ⟨eo, et⟩ | ⟨k, x, hx, -, -, eo, et, hn⟩
  · unfold freeV freeE freeC freeW
    rw [eo, if_pos (by decide), if_pos (by decide), if_pos (by decide), if_pos (by decide)]
    have HT := Lib.hid et
    clear h ok et eo
    go_enter Try.func13, Try.ntmps13
    go_wp2_with (refine (rhas_any s _ HR.out h8).mono ?_; rintro e w2 ⟨rfl, hb⟩; rw [HT.out]; have HB2 := Lib.hid hb; clear hb)
    go_ret2
    exact ⟨rfl, RpC.same HR.out HB2.out⟩
  · unfold freeV freeE freeC freeW
    rw [eo, if_neg (by omega), if_neg (by omega), if_neg (by omega), if_neg (by omega), Int.toNat_natCast]
    obtain ⟨z, hz⟩ : ∃ x, ws.headD 0 = x := ⟨_, rfl⟩
    rw [hz]
    have HZ := Lib.hid hz
    clear hz
    have HT := Lib.hid et
    have HX := Lib.hid hx
    have hn2 : (x.tok == 0) = false := by simpa using hn
    clear h ok et eo hx hn
    go_enter Try.func13, Try.ntmps13
    go_wp2_with fail
    refine (rhas_any s _ HR.out h8).mono ?_
    rintro e w2 ⟨rfl, hb⟩
    rw [HT.out]
    have HB2 := Lib.hid hb
    have HR2 := Lib.hid (HR.out.below hb)
    have HS2 : Hid (B ≤ w2.heap.size) := Lib.hid (Nat.le_trans HB.out hb.size)
    clear hb
    go_wp2_with fail
    refine (rgive_any x.tok _ HR2.out HS2.out h8 h4 HOK.out.sorted HX.out rfl).mono ?_
    rintro e w3 ⟨rfl, hr⟩
    rw [HZ.out] at hr ⊢
    have HR3 := Lib.hid (hr.from_ HB2.out)
    clear hr
    go_wp2
    go_ret2
    exact ⟨rfl, HR3.out⟩
set_option maxHeartbeats 2000000 in
theorem rleave_any (s : Int) (w : World) (h : RpAt w B q vC vW cs ws) (hB : B ≤ w.heap.size) (ok : OkP cs ws) (h8 : cs.length ≤ 8) (h4 : ws.length ≤ 4) :
    Calls Try.prog 15 #[.pointer (some ⟨q, 0, none⟩), .int .i64 s] w (ROp B q vC (leaveV s cs ws) (leaveE s cs ws) (leaveC s cs ws) (leaveW s cs ws) w) := by
  have HR := Lib.hid h
  have HOK := Lib.hid ok
  have HB := Lib.hid hB
  unfold leaveE leaveV leaveC leaveW
  by_cases hm : s ∈ ws
  · rw [if_pos hm, if_pos hm, if_pos hm, if_pos hm]
    have HM := Lib.hid (decide_eq_true hm)
    have HER : Hid (ws.erase s = ws.filter (fun z => z != s)) := Lib.hid (ok.wnd.erase_eq_filter s)
    rw [HER.out]
    have c1 := h.c1
    have f1 := h.f 1
    obtain ⟨aw, cw, rfl⟩ := own_slice h.2.2.1
    clear h ok hm hB
    go_enter Try.func15, Try.ntmps15
    go_wp2_with (refine (rwaits_any s _ HR.out h4).mono ?_; rintro e w2 ⟨rfl, hw2⟩; rw [hw2, HM.out]; clear hw2)
    go_loopw [6, 23] (fun r i wr => ∃ j : Nat, j ≤ ws.length ∧ i = .int .i64 j ∧ Hid (OwnR 1 intC 3 wr w.heap.size r ((ws.take j).filter (fun z => z != s))) ∧ Hid (Below w.heap.size w wr)) (fun _ i _ => ws.length - (intOf i).toNat)
    case atStart => exact ⟨0, Nat.zero_le _, rfl, Lib.hid (OwnR.nil _ _ _), Lib.hid (Below.refl _ _)⟩
    case round =>
      obtain ⟨j, hj, rfl, HO, HBL⟩ := hrel
      by_cases hjl : j < ws.length
      · have hji : (j : Int) < (ws.length : Int) := by omega
        obtain ⟨b2, off2, cp2, e2, -, -, -, hb2l, hcs2⟩ : ∃ b off cp, Value.slice aw ws.length cw = .slice (some ⟨b, off, none⟩) ws.length cp ∧ 0 < ws.length ∧ ws.length ≤ cp ∧ cp ≤ 9223372036854775807 ∧ b < w.heap.size ∧ ∀ i x, ws[i]? = some x → ∀ j u, (intC x)[j]? = some u → w.cell? ⟨b, off + (i * 1 + j), none⟩ = some u := by
          rcases SlR.cases (HR.out.2.2.1.sl intC_len) with ⟨a2, c2, e, hnil⟩ | h
          · rw [hnil] at hjl; simp at hjl
          · exact h
        simp only [Value.slice.injEq] at e2
        obtain ⟨rfl, -, rfl⟩ := e2
        obtain ⟨z, hz⟩ : ∃ z, ws[j]? = some z := ⟨_, rgetD hjl⟩
        have y0 : wr.cell? ⟨b2, off2 + j, none⟩ = some (.int .i64 z) := (HBL.out.cell (p := ⟨b2, off2 + j, none⟩) hb2l).trans (by simpa using hcs2 j _ hz 0 _ rfl)
        have ht : ws.take (j + 1) = ws.take j ++ [z] := by rw [List.take_add_one, hz]; rfl
        by_cases hzs : z = s
        · have hz2 : (z != s) = false := by simpa using hzs
          have HO2 : Hid (∀ {wv : World} {r : Value}, OwnR 1 intC 3 wv w.heap.size r ((ws.take j).filter (fun z => z != s)) → OwnR 1 intC 3 wv w.heap.size r ((ws.take (j + 1)).filter (fun z => z != s))) := Lib.hid (fun g => by rw [ht, List.filter_append]; simpa [hz2] using g)
          clear hzs hcs2 hz ht hb2l c1 f1
          go_wp2
          go_roundw
          case rel => exact ⟨j + 1, by omega, by go_num, Lib.hid (HO2.out HO.out), HBL⟩
          case measure => simp [intOf]; omega
        · have hz2 : (z != s) = true := by simpa using hzs
          have HO2 : Hid (∀ {wv : World} {r : Value}, OwnR 1 intC 3 wv w.heap.size r ((ws.take j).filter (fun z => z != s) ++ [z]) → OwnR 1 intC 3 wv w.heap.size r ((ws.take (j + 1)).filter (fun z => z != s))) := Lib.hid (fun g => by rw [ht, List.filter_append]; simpa [hz2] using g)
          have HFL : Hid (((ws.take j).filter (fun z => z != s)).length ≤ 4) := Lib.hid (Nat.le_trans (List.length_filter_le _ _) (by rw [List.length_take]; omega))
          have HSZ : Hid (w.heap.size ≤ (wr.alloc (.cells #[.int .i64 z] 3)).heap.size) := Lib.hid (by have := HBL.out.size; have := ((Below.refl wr.heap.size wr).alloc (Nat.le_refl _) (.cells #[.int .i64 z] 3)).size; omega)
          clear hzs hcs2 hz ht hb2l c1 f1
          go_wp2_with (at_builtin; refine appR intC_len intC_one Try.underlying28 rfl (by decide) info_in1 rfl _ _ rfl w.heap.size _ _ rfl (HO.out.alloc _) _ [z] rfl (slr_new wr z) (by have := HFL.out; simp only [List.length_singleton]; unfold maxLen; omega) (by have := HFL.out; simp only [List.length_singleton]; omega) HSZ.out ?_; intro v2 w2 own2 hb2; have HO3 := Lib.hid (HO2.out own2); have HB3 := Lib.hid (((HBL.out.alloc HBL.out.size _).trans hb2)); clear own2 hb2)
          go_roundw
          case rel => exact ⟨j + 1, by omega, by go_num, HO3, HB3⟩
          case measure => simp [intOf]; omega
      · obtain rfl : j = ws.length := by omega
        rename_i r0
        have ho := HO.out
        rw [List.take_length] at ho
        obtain ⟨n6, hn6⟩ : ∃ x, (ws.filter (fun z => z != s)).length = x := ⟨_, rfl⟩
        obtain ⟨a6, c6, hv6⟩ := own_slice ho
        rw [hn6] at hv6
        subst hv6
        have hpw := HR.out.putW HB.out ho HBL.out
        have hr := HR.out.below HBL.out
        have d1 := hr.c1
        have g1 := hr.f 1
        obtain ⟨W3, hW3⟩ : ∃ x, wr.setCell ⟨q, 1, none⟩ (.slice a6 n6 c6) = x := ⟨_, rfl⟩
        rw [hW3] at hpw
        have HFF : Hid (RpC B q vC cs (ws.filter (fun z => z != s)) w W3) := Lib.hid ⟨_, _, hpw.1, hpw.2, .inl rfl⟩
        clear ho hpw hr c1 f1
        go_wp2
        go_ret2
        exact ⟨rfl, HFF.out⟩
  · rw [if_neg hm, if_neg hm, if_neg hm, if_neg hm]
    have HM := Lib.hid (decide_eq_false hm)
    clear h ok hm hB
    go_enter Try.func15, Try.ntmps15
    go_wp2_with (first
      | (go_at_call 27; refine (rwaits_any s _ HR.out h4).mono ?_; rintro e w2 ⟨rfl, hw2⟩; rw [hw2, HM.out]; clear hw2)
      | (go_at_call 13; refine (rfree_any s _ HR.out HB.out HOK.out h8 h4).mono ?_; rintro e w3 ⟨rfl, hr⟩; have HR3 := Lib.hid hr; clear hr))
    go_ret2
    exact ⟨rfl, HR3.out⟩

set_option maxHeartbeats 4000000 in
theorem rwant_any (s : Int) (w : World) (h : RpAt w B q vC vW cs ws) (hB : B ≤ w.heap.size) (ok : OkP cs ws) (h8 : cs.length ≤ 8) (h4 : ws.length ≤ 4) :
    Calls Try.prog 11 #[.pointer (some ⟨q, 0, none⟩), .int .i64 s] w (ROp B q vC (wantV s cs ws) (wantE s cs ws) (wantC s cs ws) (wantW s cs ws) w) := by
  have HR := Lib.hid h
  have HOK := Lib.hid ok
  have HB := Lib.hid hB
  by_cases h1 : s < 1
  · have e : wantE s cs ws = 1 := by unfold wantE; rw [if_pos (.inl h1)]
    obtain ⟨e1, e2, e3⟩ := want_bad e (by decide)
    rw [e1, e2, e3, e]
    clear h ok e e1 e2 e3
    go_enter Try.func11, Try.ntmps11
    go_wp2
    go_ret2
    exact ⟨rfl, RpC.same HR.out (Below.refl _ _)⟩
  by_cases h2 : 6 < s
  · have e : wantE s cs ws = 1 := by unfold wantE; rw [if_pos (.inr h2)]
    obtain ⟨e1, e2, e3⟩ := want_bad e (by decide)
    rw [e1, e2, e3, e]
    clear h ok e e1 e2 e3
    go_enter Try.func11, Try.ntmps11
    go_wp2
    go_ret2
    exact ⟨rfl, RpC.same HR.out (Below.refl _ _)⟩
  rcases has_nz (s := s) ok with ⟨eo, et⟩ | ⟨k, x, hx, -, -, eo, et, hn⟩
  rotate_left
  · have e : wantE s cs ws = 3 := by unfold wantE; rw [if_neg (by omega), if_pos (.inl (by omega))]
    obtain ⟨e1, e2, e3⟩ := want_bad e (by decide)
    rw [e1, e2, e3, e]
    have HT := Lib.hid et
    have hn2 : (x.tok != 0) = true := by simpa using hn
    clear h ok e e1 e2 e3 et eo hx hn
    go_enter Try.func11, Try.ntmps11
    go_wp2_with (refine (rhas_any s _ HR.out h8).mono ?_; rintro e w2 ⟨rfl, hb⟩; rw [HT.out]; have HB2 := Lib.hid hb; clear hb)
    go_ret2
    exact ⟨rfl, RpC.same HR.out HB2.out⟩
  have HT := Lib.hid et
  by_cases hm : s ∈ ws
  · have e : wantE s cs ws = 3 := by unfold wantE; rw [if_neg (by omega), if_pos (.inr hm)]
    obtain ⟨e1, e2, e3⟩ := want_bad e (by decide)
    rw [e1, e2, e3, e]
    have HM := Lib.hid (decide_eq_true hm)
    clear h ok e e1 e2 e3 et eo hm
    go_enter Try.func11, Try.ntmps11
    go_wp2_with (first
      | (go_at_call 17; refine (rhas_any s _ HR.out h8).mono ?_; rintro e w2 ⟨rfl, hb⟩; rw [HT.out]; have HB2 := Lib.hid hb; have HR2 := Lib.hid (HR.out.below hb); clear hb)
      | (go_at_call 27; refine (rwaits_any s _ HR2.out h4).mono ?_; rintro e w3 ⟨rfl, hw3⟩; rw [hw3, HM.out]; clear hw3))
    go_ret2
    exact ⟨rfl, RpC.same HR.out HB2.out⟩
  have HM := Lib.hid (decide_eq_false hm)
  obtain ⟨ac, cc, rfl⟩ := own_slice h.2.1
  have c0x := h.c0
  rcases idx_cases (sessQ 0) cs with ⟨k, x, hx, hk, hq, ha, ei⟩ | ⟨ha, ei⟩
  · have e : wantE s cs ws = 0 := by unfold wantE; rw [if_neg (by omega), if_neg (by rintro (q | q); omega; exact hm q), if_pos (by omega)]
    have e1 : wantV s cs ws = x.tok := by unfold wantV; rw [if_pos ⟨e, by omega⟩, ei, Int.toNat_natCast, hx]; rfl
    have e2 : wantC s cs ws = setS k s cs := by unfold wantC; rw [if_pos ⟨e, by omega⟩, ei, Int.toNat_natCast]
    have e3 : wantW s cs ws = ws := by unfold wantW; rw [if_neg (fun q => q.2 (by omega))]
    rw [e1, e2, e3, e]
    obtain ⟨tk, ss⟩ := x
    have hs0 : ss = 0 := by simpa [sessQ] using hq
    have hz0 : (ss == 0) = true := by simpa using hs0
    clear hs0
    have HX := Lib.hid hx
    have HNI : Hid (∀ (j : Nat) (y : Cn), j < k → cs[j]? = some y → y.sess ≠ 0) := Lib.hid (fun j y hj hy e => by have := ha j y hj hy; simp [sessQ, e] at this)
    clear h ok e e1 e2 e3 et eo hm hx ei hq ha
    go_enter Try.func11, Try.ntmps11
    go_wp2_with fail
    refine (rhas_any s _ HR.out h8).mono ?_
    rintro e w2 ⟨rfl, hb⟩
    rw [HT.out]
    have HB2 := Lib.hid hb
    have HR2 := Lib.hid (HR.out.below hb)
    have c0 := HR2.out.c0
    clear hb c0x
    go_wp2_with (go_at_call 27; refine (rwaits_any s _ HR2.out h4).mono ?_; rintro e w3 ⟨rfl, hw3⟩; rw [hw3, HM.out]; clear hw3)
    clear c0
    go_loopw [28] (fun i wr => ∃ j : Nat, j ≤ k ∧ i = .int .i64 j ∧ Hid (Below w.heap.size w wr)) (fun i _ => cs.length - (intOf i).toNat)
    case atStart => exact ⟨0, Nat.zero_le _, rfl, HB2⟩
    case round =>
      obtain ⟨j, hj, rfl, HBL⟩ := hrel
      by_cases hjl : j < k
      · have hjc : j < cs.length := by omega
        have hji : (j : Int) < (cs.length : Int) := by omega
        obtain ⟨b2, off2, cp2, e2, -, -, -, hb2l, hcs2⟩ : ∃ b off cp, Value.slice ac cs.length cc = .slice (some ⟨b, off, none⟩) cs.length cp ∧ 0 < cs.length ∧ cs.length ≤ cp ∧ cp ≤ 9223372036854775807 ∧ b < w.heap.size ∧ ∀ i x, cs[i]? = some x → ∀ j u, (cnC x)[j]? = some u → w.cell? ⟨b, off + (i * 2 + j), none⟩ = some u := by
          rcases SlR.cases (HR.out.2.1.sl cnC_len) with ⟨a2, c2, e, hnil⟩ | h
          · rw [hnil] at hjc; simp at hjc
          · exact h
        simp only [Value.slice.injEq] at e2
        obtain ⟨rfl, -, rfl⟩ := e2
        obtain ⟨y, hy⟩ : ∃ y, cs[j]? = some y := ⟨_, rgetD hjc⟩
        obtain ⟨x0, x1⟩ := cn_cells (fun j2 u hu => (HBL.out.cell (p := ⟨b2, off2 + (j * 2 + j2), none⟩) hb2l).trans (hcs2 j y hy j2 u hu))
        have hy0 : (y.sess == 0) = false := by have := HNI.out j y (by omega) hy; simpa using this
        obtain ⟨W1, hW1⟩ : ∃ x, wr.alloc (.cells #[.int .i64 y.tok, .int .i64 y.sess] TC) = x := ⟨_, rfl⟩
        have hb1 : Below wr.heap.size wr W1 := by rw [← hW1]; exact (Below.refl _ _).alloc (Nat.le_refl _) _
        have hg1 : W1.heap[wr.heap.size]? = some (.cells #[.int .i64 y.tok, .int .i64 y.sess] TC (0, 0)) := by rw [← hW1]; exact heap_alloc_new _ _
        have d1 : W1.cell? ⟨wr.heap.size, 1, none⟩ = some (.int .i64 y.sess) := (cell_of_row W1 _ 1 _ _ _ hg1).trans rfl
        have HB3 := Lib.hid (HBL.out.trans (hb1.mono HBL.out.size))
        clear hb1 hg1 hcs2 hy
        go_wp2
        go_roundw
        case rel => exact ⟨j + 1, by omega, by go_num, HB3⟩
        case measure => simp [intOf]; omega
      · obtain rfl : j = k := by omega
        have hjc : j < cs.length := (List.getElem?_eq_some_iff.1 HX.out).1
        have hji : (j : Int) < (cs.length : Int) := by omega
        obtain ⟨g, cap, e2⟩ := HR.out.form (by omega)
        simp only [Value.slice.injEq] at e2
        obtain ⟨rfl, -, rfl⟩ := e2
        have hrr := HR.out.below HBL.out
        obtain ⟨x0, x1, -⟩ := hrr.row HX.out
        obtain ⟨W1, hW1⟩ : ∃ x, wr.alloc (.cells #[.int .i64 tk, .int .i64 ss] TC) = x := ⟨_, rfl⟩
        have hb1 : Below wr.heap.size wr W1 := by rw [← hW1]; exact (Below.refl _ _).alloc (Nat.le_refl _) _
        have hg1 : W1.heap[wr.heap.size]? = some (.cells #[.int .i64 tk, .int .i64 ss] TC (0, 0)) := by rw [← hW1]; exact heap_alloc_new _ _
        have HR1 := Lib.hid (hrr.below hb1)
        have hgl : g < wr.heap.size := by
          rcases own_form hrr.2.1 with ⟨e, -⟩ | ⟨g2, c2, cur, e, hg, -⟩
          · cases e
          · simp only [Value.slice.injEq, Option.some.injEq, Addr.mk.injEq] at e
            obtain ⟨⟨rfl, -⟩, -⟩ := e
            exact row_lt hg
        clear hrr
        go_upto_region 8 with fail
        clear hW1 x0 x1
        obtain ⟨z0, z1, zf⟩ := HR1.out.row HX.out
        have c9 := HR1.out.c0
        have d0 : W1.cell? ⟨wr.heap.size, 0, none⟩ = some (.int .i64 tk) := (cell_of_row W1 _ 0 _ _ _ hg1).trans rfl
        have d1 : W1.cell? ⟨wr.heap.size, 1, none⟩ = some (.int .i64 ss) := (cell_of_row W1 _ 1 _ _ _ hg1).trans rfl
        obtain ⟨W2, hW2⟩ : ∃ x, W1.setCell ⟨g, j * 2 + 1, none⟩ (.int .i64 s) = x := ⟨_, rfl⟩
        have hr2 := HR1.out.give rfl j s
        rw [hW2] at hr2
        have HFF : Hid (RpC B q (.slice (some ⟨g, 0, none⟩) cs.length cc) (setS j s cs) ws w W2) := Lib.hid ⟨_, _, hr2, by rw [← hW2]; exact ((Below.only HBL.out _).trans (Below.only hb1 _)).set g _ _ (.inr rfl), .inl rfl⟩
        have e0 : W2.cell? ⟨wr.heap.size, 0, none⟩ = some (.int .i64 tk) := by
          rw [← hW2, ← d0]
          exact World.cell?_setCell_other _ _ _ _ (by simp)
        clear hr2 hb1 hg1
        go_wp2
        go_ret2
        exact ⟨rfl, HFF.out⟩
  · have HNI : Hid (∀ (j : Nat) (y : Cn), j < cs.length → cs[j]? = some y → y.sess ≠ 0) := Lib.hid (fun j y hj hy e => by have := ha j y hj hy; simp [sessQ, e] at this)
    obtain ⟨aw, cw, rfl⟩ := own_slice h.2.2.1
    by_cases h4x : 4 ≤ ws.length
    · have e : wantE s cs ws = 180 := by unfold wantE; rw [if_neg (by omega), if_neg (by rintro (q | q); omega; exact hm q), if_neg (by omega), if_pos h4x]
      obtain ⟨e1, e2, e3⟩ := want_bad e (by decide)
      rw [e1, e2, e3, e]
      have h4i : (4 : Int) ≤ (ws.length : Int) := by omega
      clear h ok e e1 e2 e3 et eo hm ei ha
      go_enter Try.func11, Try.ntmps11
      go_wp2_with fail
      refine (rhas_any s _ HR.out h8).mono ?_
      rintro e w2 ⟨rfl, hb⟩
      rw [HT.out]
      have HB2 := Lib.hid hb
      have HR2 := Lib.hid (HR.out.below hb)
      have c0 := HR2.out.c0
      clear hb c0x
      go_wp2_with (go_at_call 27; refine (rwaits_any s _ HR2.out h4).mono ?_; rintro e w3 ⟨rfl, hw3⟩; rw [hw3, HM.out]; clear hw3)
      clear c0
      go_loopw [28] (fun i wr => ∃ j : Nat, j ≤ cs.length ∧ i = .int .i64 j ∧ Hid (Below w.heap.size w wr)) (fun i _ => cs.length - (intOf i).toNat)
      case atStart => exact ⟨0, Nat.zero_le _, rfl, HB2⟩
      case round =>
        obtain ⟨j, hj, rfl, HBL⟩ := hrel
        by_cases hjl : j < cs.length
        · have hjc : j < cs.length := by omega
          have hji : (j : Int) < (cs.length : Int) := by omega
          obtain ⟨b2, off2, cp2, e2, -, -, -, hb2l, hcs2⟩ : ∃ b off cp, Value.slice ac cs.length cc = .slice (some ⟨b, off, none⟩) cs.length cp ∧ 0 < cs.length ∧ cs.length ≤ cp ∧ cp ≤ 9223372036854775807 ∧ b < w.heap.size ∧ ∀ i x, cs[i]? = some x → ∀ j u, (cnC x)[j]? = some u → w.cell? ⟨b, off + (i * 2 + j), none⟩ = some u := by
            rcases SlR.cases (HR.out.2.1.sl cnC_len) with ⟨a2, c2, e, hnil⟩ | h
            · rw [hnil] at hjc; simp at hjc
            · exact h
          simp only [Value.slice.injEq] at e2
          obtain ⟨rfl, -, rfl⟩ := e2
          obtain ⟨y, hy⟩ : ∃ y, cs[j]? = some y := ⟨_, rgetD hjc⟩
          obtain ⟨x0, x1⟩ := cn_cells (fun j2 u hu => (HBL.out.cell (p := ⟨b2, off2 + (j * 2 + j2), none⟩) hb2l).trans (hcs2 j y hy j2 u hu))
          have hy0 : (y.sess == 0) = false := by have := HNI.out j y (by omega) hy; simpa using this
          obtain ⟨W1, hW1⟩ : ∃ x, wr.alloc (.cells #[.int .i64 y.tok, .int .i64 y.sess] TC) = x := ⟨_, rfl⟩
          have hb1 : Below wr.heap.size wr W1 := by rw [← hW1]; exact (Below.refl _ _).alloc (Nat.le_refl _) _
          have hg1 : W1.heap[wr.heap.size]? = some (.cells #[.int .i64 y.tok, .int .i64 y.sess] TC (0, 0)) := by rw [← hW1]; exact heap_alloc_new _ _
          have d1 : W1.cell? ⟨wr.heap.size, 1, none⟩ = some (.int .i64 y.sess) := (cell_of_row W1 _ 1 _ _ _ hg1).trans rfl
          have HB3 := Lib.hid (HBL.out.trans (hb1.mono HBL.out.size))
          clear hb1 hg1 hcs2 hy
          go_wp2
          go_roundw
          case rel => exact ⟨j + 1, by omega, by go_num, HB3⟩
          case measure => simp [intOf]; omega
        · obtain rfl : j = cs.length := by omega
          have HRR := Lib.hid (HR.out.below HBL.out)
          have c1 := HRR.out.c1
          go_wp2
          go_ret2
          exact ⟨rfl, RpC.same HR.out HBL.out⟩
    · have e : wantE s cs ws = 0 := by unfold wantE; rw [if_neg (by omega), if_neg (by rintro (q | q); omega; exact hm q), if_neg (by omega), if_neg h4x]
      have hn : ¬ idleP s cs ws := fun q => by have := q.2; omega
      have e1 : wantV s cs ws = 0 := if_neg hn
      have e2 : wantC s cs ws = cs := if_neg hn
      have e3 : wantW s cs ws = ws ++ [s] := if_pos ⟨e, by omega⟩
      rw [e1, e2, e3, e]
      have h4i : ¬ (4 : Int) ≤ (ws.length : Int) := by omega
      clear h ok e e1 e2 e3 et eo hm ei hn ha
      go_enter Try.func11, Try.ntmps11
      go_wp2_with fail
      refine (rhas_any s _ HR.out h8).mono ?_
      rintro e w2 ⟨rfl, hb⟩
      rw [HT.out]
      have HB2 := Lib.hid hb
      have HR2 := Lib.hid (HR.out.below hb)
      have c0 := HR2.out.c0
      clear hb c0x
      go_wp2_with (go_at_call 27; refine (rwaits_any s _ HR2.out h4).mono ?_; rintro e w3 ⟨rfl, hw3⟩; rw [hw3, HM.out]; clear hw3)
      clear c0
      go_loopw [28] (fun i wr => ∃ j : Nat, j ≤ cs.length ∧ i = .int .i64 j ∧ Hid (Below w.heap.size w wr)) (fun i _ => cs.length - (intOf i).toNat)
      case atStart => exact ⟨0, Nat.zero_le _, rfl, HB2⟩
      case round =>
        obtain ⟨j, hj, rfl, HBL⟩ := hrel
        by_cases hjl : j < cs.length
        · have hjc : j < cs.length := by omega
          have hji : (j : Int) < (cs.length : Int) := by omega
          obtain ⟨b2, off2, cp2, e2, -, -, -, hb2l, hcs2⟩ : ∃ b off cp, Value.slice ac cs.length cc = .slice (some ⟨b, off, none⟩) cs.length cp ∧ 0 < cs.length ∧ cs.length ≤ cp ∧ cp ≤ 9223372036854775807 ∧ b < w.heap.size ∧ ∀ i x, cs[i]? = some x → ∀ j u, (cnC x)[j]? = some u → w.cell? ⟨b, off + (i * 2 + j), none⟩ = some u := by
            rcases SlR.cases (HR.out.2.1.sl cnC_len) with ⟨a2, c2, e, hnil⟩ | h
            · rw [hnil] at hjc; simp at hjc
            · exact h
          simp only [Value.slice.injEq] at e2
          obtain ⟨rfl, -, rfl⟩ := e2
          obtain ⟨y, hy⟩ : ∃ y, cs[j]? = some y := ⟨_, rgetD hjc⟩
          obtain ⟨x0, x1⟩ := cn_cells (fun j2 u hu => (HBL.out.cell (p := ⟨b2, off2 + (j * 2 + j2), none⟩) hb2l).trans (hcs2 j y hy j2 u hu))
          have hy0 : (y.sess == 0) = false := by have := HNI.out j y (by omega) hy; simpa using this
          obtain ⟨W1, hW1⟩ : ∃ x, wr.alloc (.cells #[.int .i64 y.tok, .int .i64 y.sess] TC) = x := ⟨_, rfl⟩
          have hb1 : Below wr.heap.size wr W1 := by rw [← hW1]; exact (Below.refl _ _).alloc (Nat.le_refl _) _
          have hg1 : W1.heap[wr.heap.size]? = some (.cells #[.int .i64 y.tok, .int .i64 y.sess] TC (0, 0)) := by rw [← hW1]; exact heap_alloc_new _ _
          have d1 : W1.cell? ⟨wr.heap.size, 1, none⟩ = some (.int .i64 y.sess) := (cell_of_row W1 _ 1 _ _ _ hg1).trans rfl
          have HB3 := Lib.hid (HBL.out.trans (hb1.mono HBL.out.size))
          clear hb1 hg1 hcs2 hy
          go_wp2
          go_roundw
          case rel => exact ⟨j + 1, by omega, by go_num, HB3⟩
          case measure => simp [intOf]; omega
        · obtain rfl : j = cs.length := by omega
          have HRR := Lib.hid (HR.out.below HBL.out)
          have c1 := HRR.out.c1
          go_upto_region 14 with fail
          clear c1
          obtain ⟨gn, hgn⟩ : ∃ x, wr.drew.heap.size = x := ⟨_, rfl⟩
          obtain ⟨W5, hW5⟩ : ∃ x, wr.drew.alloc (.cells #[.int .i64 s] 3) = x := ⟨_, rfl⟩
          have hb5 : Below wr.heap.size wr W5 := by rw [← hW5]; exact (((Below.refl wr.heap.size wr).drew).alloc (Nat.le_refl _) _)
          have HR5 := Lib.hid (HRR.out.below hb5)
          have HQ4 : Hid (wr.drew.cell? ⟨q, 1, none⟩ = some (.slice aw ws.length cw)) := Lib.hid HRR.out.drew.c1
          have HQ5 : Hid (W5.cell? ⟨q, 1, none⟩ = some (.slice aw ws.length cw)) := Lib.hid HR5.out.c1
          have HB5 : Hid (B ≤ W5.heap.size) := Lib.hid (by have := HB.out; have := HBL.out.size; have := hb5.size; omega)
          have HNW : Hid (∀ j u, [Value.int .i64 s][j]? = some u → W5.cell? ((⟨gn, 0, none⟩ : Addr).add j) = some u) := Lib.hid (news_one (by rw [← hW5, ← hgn]; exact cell_new wr.drew _ _))
          obtain ⟨II, HII⟩ : ∃ II, Hid (Try.prog.info? 3 = some II ∧ II.zero = some (.int .i64 0) ∧ II.size = 1 ∧ II.bytes = 8) := by
            obtain ⟨i0, hi, hz0, hz1, hz2⟩ := info_parts info_in1
            exact ⟨i0, Lib.hid ⟨hi, hz0, hz1, hz2⟩⟩
          have hsl := HR5.out.2.2.1.sl intC_len
          have hwc : ws.length ≤ cw ∧ cw ≤ 9223372036854775807 := by
            obtain ⟨a2, c2, e, g1, g2, -⟩ := id hsl
            simp only [Value.slice.injEq] at e
            obtain ⟨-, -, rfl⟩ := e
            exact ⟨g1, g2⟩
          obtain ⟨hwc1, hwc2⟩ := hwc
          have HNO : Hid (aw = none → ws.length = 0 ∧ ws.length = 0) := Lib.hid (fun e => by
            rcases own_form HR5.out.2.2.1 with ⟨-, e2⟩ | ⟨g2, c2, cur, e2, -⟩
            · exact ⟨e2, e2⟩
            · rw [e] at e2; cases e2)
          have HOL : Hid (∀ b, aw = some b → ∀ j u, (ws.flatMap intC)[j]? = some u → W5.cell? (b.add j) = some u) := Lib.hid (fun b e j u hu => by
            rcases hsl.src intC_len with ⟨e2, -, hz⟩ | ⟨ad, c, e2, hc⟩
            · rw [hz] at hu; simp at hu
            · simp only [Value.slice.injEq] at e2
              rw [e] at e2
              obtain ⟨e3, -⟩ := e2
              cases e3
              exact hc j u hu)
          clear hb5 hsl
          refine Wl.start 21 (fun u => u.cell? ⟨q, 1, none⟩ = some (.slice aw ws.length cw)) (fun _ => True) (by kernel_rfl) HQ4.out trivial (fun hk => ?_)
          refine Wl.take (i := 0) (v := .pointer (some ⟨q, 0, none⟩)) [19, 20, 21] rfl (by kernel_rfl) (by kernel_rfl) (by kernel_rfl) (by kernel_rfl) (by kernel_rfl) (fun _ _ _ h => h) (.inl ⟨by kernel_rfl, ?_⟩) hk ?_
          · intro wx hSw
            clear hSw hk
            go_simp
            try first | with_reducible rfl | kernel_rfl
          simp only [Act.put, List.getElem_toArray, List.getElem_cons_succ, List.getElem_cons_zero, List.setIfInBounds_toArray, List.set_cons_succ, List.set_cons_zero]
          refine Wl.take (i := 1) (v := .pointer (some ⟨q, 0, none⟩)) [2, 3, 4, 15, 18, 19, 20, 21] rfl (by kernel_rfl) (by kernel_rfl) (by kernel_rfl) (by kernel_rfl) (by kernel_rfl) (fun _ _ _ h => h) (.inl ⟨by kernel_rfl, ?_⟩) hk ?_
          · intro wx hSw
            clear hSw hk
            go_simp
            try first | with_reducible rfl | kernel_rfl
          simp only [Act.put, List.getElem_toArray, List.getElem_cons_succ, List.getElem_cons_zero, List.setIfInBounds_toArray, List.set_cons_succ, List.set_cons_zero]
          refine Wl.take (i := 2) (v := .pointer (some ⟨q, 0, none⟩)) [3, 4, 15, 18, 19, 20, 21] rfl (by kernel_rfl) (by kernel_rfl) (by kernel_rfl) (by kernel_rfl) (by kernel_rfl) (fun _ _ _ h => h) (.inl ⟨by kernel_rfl, ?_⟩) hk ?_
          · intro wx hSw
            clear hSw hk
            go_simp
            try first | with_reducible rfl | kernel_rfl
          simp only [Act.put, List.getElem_toArray, List.getElem_cons_succ, List.getElem_cons_zero, List.setIfInBounds_toArray, List.set_cons_succ, List.set_cons_zero]
          refine Wl.take (i := 3) (v := .pointer (some ⟨q, 1, none⟩)) [4, 15, 18, 19, 20, 21] rfl (by kernel_rfl) (by kernel_rfl) (by kernel_rfl) (by kernel_rfl) (by kernel_rfl) (fun _ _ _ h => h) (.inl ⟨by kernel_rfl, ?_⟩) hk ?_
          · intro wx hSw
            clear hSw hk
            go_simp
            try first | with_reducible rfl | kernel_rfl
          simp only [Act.put, List.getElem_toArray, List.getElem_cons_succ, List.getElem_cons_zero, List.setIfInBounds_toArray, List.set_cons_succ, List.set_cons_zero]
          refine Wl.take (i := 4) (v := .slice aw ws.length cw) [15, 18, 19, 20, 21] rfl (by kernel_rfl) (by kernel_rfl) (by kernel_rfl) (by kernel_rfl) (by kernel_rfl) (fun _ _ _ h => h) (.inl ⟨by kernel_rfl, ?_⟩) hk ?_
          · intro wx hSw
            have cc := hSw.1
            clear hSw hk
            go_simp
            try first | with_reducible rfl | kernel_rfl
          simp only [Act.put, List.getElem_toArray, List.getElem_cons_succ, List.getElem_cons_zero, List.setIfInBounds_toArray, List.set_cons_succ, List.set_cons_zero]
          refine Wl.take (i := 5) (v := .pointer (some ⟨q, 0, none⟩)) [6, 7, 8, 9, 15, 18, 19, 20, 21] rfl (by kernel_rfl) (by kernel_rfl) (by kernel_rfl) (by kernel_rfl) (by kernel_rfl) (fun _ _ _ h => h) (.inl ⟨by kernel_rfl, ?_⟩) hk ?_
          · intro wx hSw
            clear hSw hk
            go_simp
            try first | with_reducible rfl | kernel_rfl
          simp only [Act.put, List.getElem_toArray, List.getElem_cons_succ, List.getElem_cons_zero, List.setIfInBounds_toArray, List.set_cons_succ, List.set_cons_zero]
          refine Wl.take (i := 6) (v := .pointer (some ⟨q, 0, none⟩)) [7, 8, 9, 15, 18, 19, 20, 21] rfl (by kernel_rfl) (by kernel_rfl) (by kernel_rfl) (by kernel_rfl) (by kernel_rfl) (fun _ _ _ h => h) (.inl ⟨by kernel_rfl, ?_⟩) hk ?_
          · intro wx hSw
            clear hSw hk
            go_simp
            try first | with_reducible rfl | kernel_rfl
          simp only [Act.put, List.getElem_toArray, List.getElem_cons_succ, List.getElem_cons_zero, List.setIfInBounds_toArray, List.set_cons_succ, List.set_cons_zero]
          refine Wl.take (i := 7) (v := .pointer (some ⟨q, 1, none⟩)) [8, 9, 15, 18, 19, 20, 21] rfl (by kernel_rfl) (by kernel_rfl) (by kernel_rfl) (by kernel_rfl) (by kernel_rfl) (fun _ _ _ h => h) (.inl ⟨by kernel_rfl, ?_⟩) hk ?_
          · intro wx hSw
            clear hSw hk
            go_simp
            try first | with_reducible rfl | kernel_rfl
          simp only [Act.put, List.getElem_toArray, List.getElem_cons_succ, List.getElem_cons_zero, List.setIfInBounds_toArray, List.set_cons_succ, List.set_cons_zero]
          refine Wl.take (i := 8) (v := .slice aw ws.length cw) [9, 15, 18, 19, 20, 21] rfl (by kernel_rfl) (by kernel_rfl) (by kernel_rfl) (by kernel_rfl) (by kernel_rfl) (fun _ _ _ h => h) (.inl ⟨by kernel_rfl, ?_⟩) hk ?_
          · intro wx hSw
            have cc := hSw.1
            clear hSw hk
            go_simp
            try first | with_reducible rfl | kernel_rfl
          simp only [Act.put, List.getElem_toArray, List.getElem_cons_succ, List.getElem_cons_zero, List.setIfInBounds_toArray, List.set_cons_succ, List.set_cons_zero]
          refine Wl.take (i := 9) (v := .int .i64 (ws.length : Int)) [15, 18, 19, 20, 21] rfl (by kernel_rfl) (by kernel_rfl) (by kernel_rfl) (by kernel_rfl) (by kernel_rfl) (fun _ _ _ h => h) (.inl ⟨by kernel_rfl, ?_⟩) hk ?_
          · intro wx hSw
            clear hSw hk
            go_simp
            try first | with_reducible rfl | kernel_rfl
          simp only [Act.put, List.getElem_toArray, List.getElem_cons_succ, List.getElem_cons_zero, List.setIfInBounds_toArray, List.set_cons_succ, List.set_cons_zero]
          refine Wl.take (i := 10) (v := .pointer (some ⟨q, 0, none⟩)) [11, 12, 13, 14, 15, 18, 19, 20, 21] rfl (by kernel_rfl) (by kernel_rfl) (by kernel_rfl) (by kernel_rfl) (by kernel_rfl) (fun _ _ _ h => h) (.inl ⟨by kernel_rfl, ?_⟩) hk ?_
          · intro wx hSw
            clear hSw hk
            go_simp
            try first | with_reducible rfl | kernel_rfl
          simp only [Act.put, List.getElem_toArray, List.getElem_cons_succ, List.getElem_cons_zero, List.setIfInBounds_toArray, List.set_cons_succ, List.set_cons_zero]
          refine Wl.take (i := 11) (v := .pointer (some ⟨q, 0, none⟩)) [12, 13, 14, 15, 18, 19, 20, 21] rfl (by kernel_rfl) (by kernel_rfl) (by kernel_rfl) (by kernel_rfl) (by kernel_rfl) (fun _ _ _ h => h) (.inl ⟨by kernel_rfl, ?_⟩) hk ?_
          · intro wx hSw
            clear hSw hk
            go_simp
            try first | with_reducible rfl | kernel_rfl
          simp only [Act.put, List.getElem_toArray, List.getElem_cons_succ, List.getElem_cons_zero, List.setIfInBounds_toArray, List.set_cons_succ, List.set_cons_zero]
          refine Wl.take (i := 12) (v := .pointer (some ⟨q, 1, none⟩)) [13, 14, 15, 18, 19, 20, 21] rfl (by kernel_rfl) (by kernel_rfl) (by kernel_rfl) (by kernel_rfl) (by kernel_rfl) (fun _ _ _ h => h) (.inl ⟨by kernel_rfl, ?_⟩) hk ?_
          · intro wx hSw
            clear hSw hk
            go_simp
            try first | with_reducible rfl | kernel_rfl
          simp only [Act.put, List.getElem_toArray, List.getElem_cons_succ, List.getElem_cons_zero, List.setIfInBounds_toArray, List.set_cons_succ, List.set_cons_zero]
          refine Wl.take (i := 13) (v := .slice aw ws.length cw) [14, 15, 18, 19, 20, 21] rfl (by kernel_rfl) (by kernel_rfl) (by kernel_rfl) (by kernel_rfl) (by kernel_rfl) (fun _ _ _ h => h) (.inl ⟨by kernel_rfl, ?_⟩) hk ?_
          · intro wx hSw
            have cc := hSw.1
            clear hSw hk
            go_simp
            try first | with_reducible rfl | kernel_rfl
          simp only [Act.put, List.getElem_toArray, List.getElem_cons_succ, List.getElem_cons_zero, List.setIfInBounds_toArray, List.set_cons_succ, List.set_cons_zero]
          refine Wl.take (i := 14) (v := .int .i64 (ws.length : Int)) [15, 18, 19, 20, 21] rfl (by kernel_rfl) (by kernel_rfl) (by kernel_rfl) (by kernel_rfl) (by kernel_rfl) (fun _ _ _ h => h) (.inl ⟨by kernel_rfl, ?_⟩) hk ?_
          · intro wx hSw
            clear hSw hk
            go_simp
            try first | with_reducible rfl | kernel_rfl
          simp only [Act.put, List.getElem_toArray, List.getElem_cons_succ, List.getElem_cons_zero, List.setIfInBounds_toArray, List.set_cons_succ, List.set_cons_zero]
          refine Wl.take (i := 15) (v := .slice aw ws.length ws.length) [18, 19, 20, 21] rfl (by kernel_rfl) (by kernel_rfl) (by kernel_rfl) (by kernel_rfl) (by kernel_rfl) (fun _ _ _ h => h) (.inl ⟨by kernel_rfl, ?_⟩) hk ?_
          · intro wx hSw
            have hw1 : (ws.length : Int) ≤ (cw : Int) := by omega
            obtain ⟨m, hm⟩ : ∃ m, ws.length = m := ⟨_, rfl⟩
            rw [hm] at hw1 ⊢
            rcases Nat.eq_zero_or_pos m with h0 | h0
            · subst h0
              clear hSw hk hm
              go_simp
              try first | with_reducible rfl | kernel_rfl
            have hm0 : ¬ m = 0 := by omega
            have hwa : aw.map (fun x : Addr => x.add 0) = aw := by
              rcases aw with _ | ⟨b, o, sp⟩
              · rfl
              · cases sp <;> simp [Addr.add]
            clear hSw hk
            go_simp
            try first | with_reducible rfl | kernel_rfl
          simp only [Act.put, List.getElem_toArray, List.getElem_cons_succ, List.getElem_cons_zero, List.setIfInBounds_toArray, List.set_cons_succ, List.set_cons_zero]
          refine Wl.take (i := 16) (v := .int .i64 s) [17, 18, 19, 20, 21] rfl (by kernel_rfl) (by kernel_rfl) (by kernel_rfl) (by kernel_rfl) (by kernel_rfl) (fun _ _ _ h => h) (.inl ⟨by kernel_rfl, ?_⟩) hk ?_
          · intro wx hSw
            clear hSw hk
            go_simp
            try first | with_reducible rfl | kernel_rfl
          simp only [Act.put, List.getElem_toArray, List.getElem_cons_succ, List.getElem_cons_zero, List.setIfInBounds_toArray, List.set_cons_succ, List.set_cons_zero]
          refine Wl.one (i := 17) (by kernel_rfl) rfl (fun K hK => ?_)
          go_simp
          try rw [hW5]
          refine hK.out _ _ (Wl.Kn.on HQ5.out trivial) (fun hk => ?_)
          clear hK K
          refine Wl.one (i := 18) (by kernel_rfl) rfl (fun K hK => ?_)
          refine step_append_grows rfl (.tmp 68) (.tmp 70) 28 rfl 3 II (.int .i64 0) 1 8 Try.underlying28 HII.out.1 HII.out.2.1 HII.out.2.2.1 HII.out.2.2.2 rfl (by decide) aw ws.length ws.length (ws.flatMap intC) rfl HNO.out (by rw [flat_len intC_len]) HOL.out ⟨gn, 0, none⟩ 1 1 [.int .i64 s] rfl rfl HNW.out (one_int _ _) (by omega) (by unfold maxLen; omega) (by omega) ?_
          intro v4 w4 own4 hgr4
          have own4x : OwnR 1 intC 3 w4 W5.heap.size v4 (ws ++ [s]) := by
            unfold OwnR
            rw [List.flatMap_append, List.length_append]
            exact own4
          obtain ⟨n4, hn4⟩ : ∃ x, (ws ++ [s]).length = x := ⟨_, rfl⟩
          obtain ⟨a4, c4, hv4⟩ := own_slice own4x
          rw [hn4] at hv4
          subst hv4
          have hb4 : Below W5.heap.size W5 w4 := ⟨hgr4.os, hgr4.tape, hgr4.output, hgr4.size, fun k hk => hgr4.block k hk (fun e => by cases e)⟩
          have hpw := HR5.out.putW HB5.out own4x hb4
          have hr4 := HR5.out.below hb4
          have ck := hr4.c1
          have fk := hr4.f 1
          obtain ⟨W6, hW6⟩ : ∃ x, w4.setCell ⟨q, 1, none⟩ (.slice a4 n4 c4) = x := ⟨_, rfl⟩
          rw [hW6] at hpw
          have HFF := Lib.hid hpw
          clear own4 own4x hgr4 hb4 hpw hr4
          refine hK.out _ _ (Wl.Kn.on ck trivial) (fun hk => ?_)
          clear hK K
          refine Wl.take (i := 19) (v := .pointer (some ⟨q, 0, none⟩)) [20, 21] rfl (by kernel_rfl) (by kernel_rfl) (by kernel_rfl) (by kernel_rfl) (by kernel_rfl) (fun _ _ _ h => h) (.inl ⟨by kernel_rfl, ?_⟩) hk ?_
          · intro wx hSw
            clear hSw hk
            go_simp
            try first | with_reducible rfl | kernel_rfl
          simp only [Act.put, List.getElem_toArray, List.getElem_cons_succ, List.getElem_cons_zero, List.setIfInBounds_toArray, List.set_cons_succ, List.set_cons_zero]
          refine Wl.take (i := 20) (v := .pointer (some ⟨q, 1, none⟩)) [21] rfl (by kernel_rfl) (by kernel_rfl) (by kernel_rfl) (by kernel_rfl) (by kernel_rfl) (fun _ _ _ h => h) (.inl ⟨by kernel_rfl, ?_⟩) hk ?_
          · intro wx hSw
            clear hSw hk
            go_simp
            try first | with_reducible rfl | kernel_rfl
          simp only [Act.put, List.getElem_toArray, List.getElem_cons_succ, List.getElem_cons_zero, List.setIfInBounds_toArray, List.set_cons_succ, List.set_cons_zero]
          refine Wl.one (i := 21) (by kernel_rfl) rfl (fun K hK => ?_)
          go_simp
          try rw [hW6]
          refine hK.out _ _ (Wl.Kn.off (by kernel_rfl) trivial) (fun hk => ?_)
          clear hK K
          refine Wl.done (by kernel_rfl) ?_ _
          clear hk
          go_wp2
          go_ret2
          exact ⟨rfl, _, _, HFF.out.1, (Below.only (HBL.out.trans (show Below w.heap.size wr W5 from by rw [← hW5]; exact (((Below.refl w.heap.size wr).drew).alloc HBL.out.size _))) _).trans HFF.out.2, .inl rfl⟩
end Pr
end Go.Proofs.Ytlhojkopfpnhpaa
