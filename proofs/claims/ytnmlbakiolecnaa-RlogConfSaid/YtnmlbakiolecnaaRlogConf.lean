/- The law RlogConf returns true for all that may be read as what lasts, and any number: package rlog's Conf answers what the document's own answer is, its nodes are the caller's own, what lasts stays what it was, and the chapter's example holds. No condition. -/
import Derived.Test.YtnmlbakiolecnaaSl
import Derived.Test.YtnmlbakiolecnaaRlC
import Derived.Test.YtnmlbakiolecnaaRlG
import Derived.Test.YtnmlbakiolecnaaHdE
import Derived.Test.YtnmlbakiolecnaaHdS
import Derived.Deep.QuietTactic
import Derived.BigQuiet
namespace Go.Proofs.Ytnmlbakiolecnaa.rlogConf
open Go.ChangeShapes Go.WideShapes Go.ChangeAt Go.RowKit
open Go.ChangeMaps (open_string shut_string)
set_option linter.unusedVariables false

theorem own : ownKnob Try.prog.godebug = none := by kernel_rfl
theorem laidOut : laidOutB Try.prog = true := by kernel_rfl

abbrev Rl.zArr : Array Value := #[.int .u64 0, .int .u64 0, .int .i64 0, .int .u64 0, .int .u64 0, .slice none 0 0, .int .i64 0, .int .u64 0, .slice none 0 0, .slice none 0 0, .slice none 0 0]
theorem Rl.cf_wf {w : World} {v : Value} {h : Har} {u : Int} (hh : IsHard w v h) : ∀ k, ∀ n ∈ (Rl.cfP h u k).2, (Lit.int .i64 n).wf = true
  | 0 => by
    obtain ⟨vn, vh, vl, vg, -, hn, -, -, -, -⟩ := hh
    exact hn.wf
  | k + 1 => by
    cases hx : h.log[k]? with
    | none => rw [Rl.cfP, hx]; exact Rl.cf_wf hh k
    | some x =>
      by_cases c : h.shot.index + k + 1 ≤ u ∧ x.cmd.kind = 2
      · rw [Rl.cf_yes hx c.1 c.2]
        obtain ⟨vn, vh, vl, vg, -, -, -, -, hg, -⟩ := hh
        obtain ⟨rows, a, cap, -, hrl, -, -, -, hents, hget⟩ := Hd.log_rows hg
        have hk : k < rows.length := by have := (List.getElem?_eq_some_iff.1 hx).1; omega
        have hq := (hget k hk).symm.trans hx
        simp only [Option.some.injEq] at hq
        subst hq
        exact (hents _ (List.getElem_mem hk)).1.wf
      · rw [Rl.cf_no hx c]; exact Rl.cf_wf hh k
theorem Rl.conf_wf {w : World} {v : Value} {h : Har} {u : Int} (hh : IsHard w v h) : ∀ n ∈ (Rl.confV h u).2, (Lit.int .i64 n).wf = true := by
  by_cases ok : Hd.hardOk h
  · rw [Rl.confV_yes ok]; exact Rl.cf_wf hh _
  · rw [Rl.confV_no ok]; intro n hn; simp at hn
theorem Rl.exH_conf : Rl.confV Rl.exH 9 = (5, [1]) := by rw [Rl.confV_yes Rl.exH_ok]; decide
theorem Rl.exH_fits : IsHard.fits Rl.exH := by
  refine ⟨⟨by decide, by decide, by decide⟩, by decide, fun x hx => ?_⟩
  simp only [Rl.exH, List.mem_cons, List.not_mem_nil, or_false] at hx
  rcases hx with rfl | rfl <;> exact (by decide : (0 : Nat) * 8 ≤ 140737488351232)
theorem store_own {w : World} {B g n cap : Nat} {xs : List Int} (h : OwnI w B (.slice (some ⟨g, 0, none⟩) n cap) xs) (j : Nat) (z : Int) :
    OwnI (w.setCell ⟨g, j, none⟩ (.int .i64 z)) B (.slice (some ⟨g, 0, none⟩) n cap) (xs.set j z) := by
  have hn : n = xs.length := by
    have := h.2
    rcases this with ⟨h', _⟩ | ⟨g', cap', cur, h', _⟩
    · simp at h'
    · simp at h'; exact h'.2.1
  subst hn
  have h1 := (World.ownsRow.stored h j (.int .i64 z)).1
  unfold OwnI OwnK
  rw [List.length_set, List.map_set]
  exact h1
set_option maxHeartbeats 4000000 in
theorem walk (v0 : Value) (x0 : Har) (a1 : Int) (w : World) (w0 : IsHard w v0 x0) (b0 : IsHard.fits x0) (w1 : (Lit.int .u64 a1).wf = true) :
    Calls Try.prog 12 #[v0, .int .u64 a1] w fun e w' => e = .returned (.bool true) ∧ Below w.heap.size w w' := by
  obtain ⟨vn, vh, vl, vg, rfl, hn, hhe, hl, hg, hwf⟩ := id w0
  have hb0 : Below w.heap.size w (w.alloc (.cells (hArr x0 vn vh vl vg) 32)) := (Below.refl _ _).alloc (Nat.le_refl _) _
  have hh0 : (w.alloc (.cells (hArr x0 vn vh vl vg) 32)).heap[w.heap.size]? = some (.cells (hArr x0 vn vh vl vg) 32 (0, 0)) := heap_alloc_new _ _
  have HI0 := Lib.hid (w0.below hb0 (Nat.le_refl _))
  have HB0 := Lib.hid hb0
  have HF := Lib.hid b0
  have HH0 := Lib.hid hh0
  have HNWF := Lib.hid (Rl.conf_wf (u := a1) w0)
  have B1 := Lib.hid (bounds_u64 w1)
  clear w1
  clear w0 hn hhe hl hg hwf b0 hb0 hh0
  go_enter Try.func12, Try.ntmps12
  go_wp2_with fail
  refine (Hd.copy_any x0 _ _ HI0.out HF.out).mono ?_
  rintro e w1 ⟨v1, rfl, hi1, hb1⟩
  obtain ⟨cn, ch, cl, cg, rfl, hs0, hs1, hs2, hs3, -⟩ := id hi1
  obtain ⟨s0, k0, rfl, -⟩ := id hs0
  obtain ⟨s1, k1, rfl, -⟩ := id hs1
  obtain ⟨s2, k2, rfl, -⟩ := id hs2
  obtain ⟨s3, k3, rfl, -, -⟩ := Hd.IsLog.len hs3
  have hA1 := (hb1.block w.heap.size (by simp)).trans HH0.out
  have hz1 : w.heap.size < w1.heap.size := by have := hb1.size; simp at this; omega
  have hst : (w1.alloc (.cells Rl.zArr 32)).heap[w1.heap.size]? = some (.cells Rl.zArr 32 (0, 0)) := heap_alloc_new _ _
  have hq0 : Below w1.heap.size w1 (w1.alloc (.cells Rl.zArr 32)) := (Below.refl _ _).alloc (Nat.le_refl _) _
  have hq1 : Below w1.heap.size w1 ((w1.alloc (.cells Rl.zArr 32)).setRow w1.heap.size (hArr x0 (.slice s0 x0.shot.nodes.length k0) (.slice s1 x0.shot.led.held.length k1) (.slice s2 x0.shot.led.last.length k2) (.slice s3 x0.log.length k3))) := Ld.below_row hq0 (Nat.le_refl _) _
  have HB1 := Lib.hid ((HB0.out.trans (hb1.mono HB0.out.size)).trans (hq1.mono (Nat.le_of_lt hz1)))
  have HO1 := Lib.hid (hi1.below hq1 (Nat.le_refl _))
  have HI1 := Lib.hid ((HI0.out.below hb1 (Nat.le_refl _)).below hq1 (Nat.le_refl _))
  have HA1 := Lib.hid ((hq1.block w.heap.size hz1).trans hA1)
  have HC1 := Lib.hid (setRow_heap _ _ _ (hArr x0 (.slice s0 x0.shot.nodes.length k0) (.slice s1 x0.shot.led.held.length k1) (.slice s2 x0.shot.led.last.length k2) (.slice s3 x0.log.length k3)) _ _ hst)
  obtain ⟨q0, q1, q2, q3, q4, q5, q6, q7, q8, q9, q10⟩ := Hd.cells11 HC1.out
  clear hi1 hb1 hA1 hq0 hq1 hz1 hs0 hs1 hs2 hs3
  generalize hW2 : (w1.alloc (.cells Rl.zArr 32)).setRow w1.heap.size (hArr x0 (.slice s0 x0.shot.nodes.length k0) (.slice s1 x0.shot.led.held.length k1) (.slice s2 x0.shot.led.last.length k2) (.slice s3 x0.log.length k3)) = W2 at HB1 HO1 HI1 HA1 HC1 q0 q1 q2 q3 q4 q5 q6 q7 q8 q9 q10
  go_wp2_with (refine wpList_store_row rfl 32 (.tmp 5) (.tmp 15) rfl w1.heap.size (hArr x0 (.slice s0 x0.shot.nodes.length k0) (.slice s1 x0.shot.led.held.length k1) (.slice s2 x0.shot.led.last.length k2) (.slice s3 x0.log.length k3)) rfl rfl 32 _ hst (by kernel_rfl) rfl (Hd.hArr_one _ _ _ _ _ _ _ _ _ _ _ _ _) ?_; rw [hW2]; clear hW2 hst)
  refine (Rl.conf_any x0 _ a1 _ HO1.out HF.out B1.out.1 B1.out.2).mono ?_
  rintro e w3 ⟨v3, rfl, own3, hb3⟩
  have HA3 := Lib.hid ((hb3.block w.heap.size (Hd.lt_of_row HA1.out)).trans HA1.out)
  have HI3 := Lib.hid (HI1.out.below hb3 (Nat.le_refl _))
  have HO3 := Lib.hid own3
  have HB3 := Lib.hid hb3
  clear q0 q1 q2 q3 q4 q5 q6 q7 q8 q9 q10
  obtain ⟨p0, p1, p2, p3, p4, p5, p6, p7, p8, p9, p10⟩ := Hd.cells11 HA3.out
  clear own3 hb3
  go_wp2_with fail
  refine (Rl.rconf_any x0 _ a1 _ HI3.out HF.out B1.out.1 B1.out.2).mono ?_
  rintro e w4 ⟨v4, rfl, own4, hb4⟩
  have HO4 := Lib.hid (HO3.out.below hb4 (Nat.le_refl _))
  have HP4 := Lib.hid own4
  have HB4 := Lib.hid (HB3.out.trans (hb4.mono HB3.out.size))
  clear own4 hb4 p0 p1 p2 p3 p4 p5 p6 p7 p8 p9 p10
  generalize Rl.confV x0 a1 = cv at *
  obtain ⟨ci, cn⟩ := cv
  simp only [] at HNWF HO3 HO4 HP4
  go_wp2_with fail
  refine (Sh.nodes_same _ _ cn _ (HO4.out.sl HNWF.out) (HP4.out.sl HNWF.out)).mono ?_
  rintro e w5 ⟨rfl, hb5⟩
  have HO5 := Lib.hid (HO4.out.below hb5 (Nat.le_refl _))
  have HB5 := Lib.hid (HB4.out.trans (hb5.mono HB4.out.size))
  clear hb5
  obtain ⟨a7, c7, rfl, hc71, hc72, -⟩ := HO5.out.sl HNWF.out
  unfold maxLen at hc72
  go_wp2
  go_loopw [11, 38] (fun _ i wr => ∃ k : Nat, ∃ xs : List Int, k ≤ cn.length ∧ i = .int .i64 k ∧ xs.length = cn.length ∧ OwnI wr W2.heap.size (.slice a7 cn.length c7) xs ∧ Below W2.heap.size W2 wr) (fun _ i _ => cn.length - (intOf i).toNat)
  case atStart => exact ⟨0, cn, Nat.zero_le _, rfl, rfl, HO5.out, HB5.out⟩
  case round =>
    obtain ⟨k, xs, hk, rfl, hxl, hown, hb⟩ := hrel
    by_cases hlt : k < cn.length
    · have hxk : k < xs.length := by omega
      obtain ⟨g, rfl⟩ : ∃ g, a7 = some ⟨g, 0, none⟩ := by
        rcases hown.2 with ⟨h1, h2⟩ | ⟨g, cap, cur, h1, _⟩
        · omega
        · simp only [Value.slice.injEq] at h1
          exact ⟨g, h1.1⟩
      have hg := (World.ownsRow.lt hown g rfl).1
      have hcell : wr.cell? ⟨g, k, none⟩ = some (.int .i64 (xs.getD k 0)) := by
        have h := World.ownsRow.cells hown (g := g) rfl k (.int .i64 (xs.getD k 0)) (by simp [List.getElem?_map, List.getElem?_eq_getElem hxk, List.getD])
        rw [add_plain, Nat.zero_add] at h
        exact h
      have hfz : wr.frozen? ⟨g, k, none⟩ = false := by
        have h : wr.ownsRow W2.heap.size 3 1 (.slice (some ⟨g, 0, none⟩) xs.length c7) xs.length (xs.map (Value.int .i64)) := by rw [hxl]; have := hown; unfold OwnI OwnK at this; rw [hxl] at this; exact this
        exact h.frozenAt k
      have hst := store_own hown k 99
      have hbst := hb.setCell (p := ⟨g, k, none⟩) hg (.int .i64 99)
      have HX := Lib.hid hxl
      clear hown hxl
      go_wp2
      go_roundw
      case rel => exact ⟨k + 1, xs.set k 99, by omega, by go_num, by rw [List.length_set]; exact HX.out, hst, hbst⟩
      case measure => simp [intOf]; omega
    · obtain rfl : k = cn.length := by omega
      have HBr := Lib.hid (HB1.out.trans (hb.mono HB1.out.size))
      have HOr := Lib.hid (HO1.out.below hb (Nat.le_refl _))
      have HIr := Lib.hid (HI1.out.below hb (Nat.le_refl _))
      have HAr := Lib.hid ((hb.block w.heap.size (Hd.lt_of_row HA1.out)).trans HA1.out)
      have HCr := Lib.hid ((hb.block w1.heap.size (Hd.lt_of_row HC1.out)).trans HC1.out)
      clear hown hxl hb
      go_wp2_with fail
      refine (Rl.example_any _).mono ?_
      rintro e w6 ⟨ve, rfl, hex, hb6⟩
      go_wp2_with fail
      refine (Rl.conf_any Rl.exH _ 9 _ hex Rl.exH_fits (by decide) (by decide)).mono ?_
      rintro e w7 ⟨v7, rfl, -, hb7⟩
      rw [Rl.exH_conf]
      have hb67 := hb6.trans (hb7.mono hb6.size)
      have HB7 := Lib.hid (HBr.out.trans (hb67.mono HBr.out.size))
      have HO7 := Lib.hid (HOr.out.below hb67 (Nat.le_refl _))
      have HI7 := Lib.hid (HIr.out.below hb67 (Nat.le_refl _))
      obtain ⟨p0, p1, p2, p3, p4, p5, p6, p7, p8, p9, p10⟩ := Hd.cells11 ((hb67.block w.heap.size (Hd.lt_of_row HAr.out)).trans HAr.out)
      obtain ⟨q0, q1, q2, q3, q4, q5, q6, q7, q8, q9, q10⟩ := Hd.cells11 ((hb67.block w1.heap.size (Hd.lt_of_row HCr.out)).trans HCr.out)
      clear hex hb6 hb7 hb67
      go_wp2_with fail
      refine (Hd.same_any x0 _ _ _ HO7.out HI7.out).mono ?_
      rintro e w8 ⟨rfl, hb8⟩
      go_wp2
      go_ret
      exact ⟨rfl, HB7.out.trans (hb8.mono HB7.out.size)⟩

set_option maxRecDepth 100000 in
theorem contract (H : Type) (enc : TypeId × Value → H) (W : World) (base : Nat) (args : Array Value) (ds gs : List (DataW H)) (before : List MemPlace)
    (hval0 : ∀ (j : Nat) t v, Try.f12.params[j]? = some t → args[j]? = some v → Value.okWide Try.prog W .any base t v)
    (hW : DataW.Whole enc Try.prog Try.f12.params.toList Rows.rlogConfSpec.vars false W args.toList ds gs before)
    (hsz0 : (DataW.weightsEach Try.prog (Try.f12.params.toList ++ Rows.rlogConfSpec.plain.varTypes Try.prog) (ds ++ gs)).all (· ≤ reachBytes) = true) :
    Calls Try.prog 12 args W fun e W' => ∃ v, e = .returned v ∧ Rows.rlogConfSpec.post enc Try.prog Try.f12 false true false false W args v W' := by
  have hval : ∀ (j : Nat) t v, Try.f12.params[j]? = some t → args[j]? = some v → Value.okWide Try.prog W .any base t v := hval0
  have hW' := hW
  obtain ⟨p, q, hA0, hV, rfl, hfz, hnd⟩ := hW
  have hA : DataW.TrodAll enc Try.prog W 0 (fun _ => true) true Try.f12.params.toList args.toList ds p := hA0
  rw [Try.params12] at hA hval
  have hsz := hsz0
  rw [Try.params12] at hsz
  obtain ⟨v0, vs0, d0, ds0, p0, q0, hargs, rfl, rfl, h0, r0⟩ := trodAll_cons hA
  obtain ⟨v1, vs1, d1, ds1, p1, q1, rfl, rfl, rfl, h1, r1⟩ := trodAll_cons r0
  obtain ⟨rfl, rfl, rfl⟩ := trodAll_nil r1
  obtain rfl : args = #[v0, v1] := by cases args; simp_all
  obtain ⟨rfl, rfl⟩ := trodVars_none hV
  clear hA0 hval0
  have k0 := h0
  have lt0 : ∀ x ∈ p0, x.block < W.heap.size := by obtain ⟨m, hm⟩ := k0; exact DataW.trod_lt m _ _ _ hm
  have k1 := h1
  have lt1 : ∀ x ∈ p1, x.block < W.heap.size := by obtain ⟨m, hm⟩ := k1; exact DataW.trod_lt m _ _ _ hm
  obtain ⟨x0, w0, -, s0⟩ := open_hard (hval 0 32 v0 rfl rfl) k0
  have b0 : IsHard.fits x0 := s0 (wt_arg hsz (j := 0) rfl rfl)
  obtain ⟨a1, rfl, -, -, w1⟩ := open_int Try.underlying22 (hval 1 22 v1 rfl rfl) h1
  refine (walk v0 x0 a1 W w0 b0 w1).mono fun e W' ⟨he, bel⟩ => ?_
  subst he
  exact ⟨_, rfl, _, _, _, [], _, [], hW', trodAll_mk1 (shut_bool Try.underlying4 _), (trodAll_cons_mk (Below.trod laidOut (by kernel_rfl) (of_decide_eq_true (by kernel_rfl)) k0 bel lt0) (trodAll_cons_mk (Below.trod laidOut (by kernel_rfl) (of_decide_eq_true (by kernel_rfl)) k1 bel lt1) trodAll_mk0)), rfl, bel.frame _, fun h => by cases h⟩

set_option maxRecDepth 100000 in
theorem lifted (os : Os) (started : os.Started) (H : Type) (enc : TypeId × Value → H) :
    ReturnsInHanded {} Try.checked os 12 .any (Rows.rlogConfSpec.pre6 enc Try.prog Try.f12 Rows.rlogConfRow.domain false) (Rows.rlogConfSpec.post enc Try.prog Try.f12 false true false false) := by
  refine returnsInHanded_of_change_sized (C := Try.checked) own started (by kernel_rfl) Try.func12
    (ChangeSpec.witness6 (enc := enc) (C := Try.checked) false ⟨#[], #[.agg #[.int .u64 0, .int .u64 0, .int .i64 0, .int .u64 0, .int .u64 0, .slice none 0 0, .int .i64 0, .int .u64 0, .slice none 0 0, .slice none 0 0, .slice none 0 0], .int .u64 0], []⟩ 8 (by kernel_rfl) (by kernel_rfl) (by kernel_rfl) (by kernel_rfl)) ?_
  intro W base args ds gs before hval0 hW hcnd hsz _
  exact contract H enc W base args ds gs before hval0 hW hsz

theorem proved : Rows.RlogConfSaid :=
  OpenClaim.holds_of_wide 12 Try.f12 rfl rfl rfl rfl rfl rfl rfl ⟨rfl, rfl, rfl, rfl, rfl⟩ rfl rfl rfl rfl rfl (by kernel_rfl) Try.func12 (by kernel_rfl)
    (of_decide_eq_true (by kernel_rfl)) (by unfold Func.isWrapper; first | (rw [if_pos (by decide +kernel)]; kernel_rfl) | (rw [if_neg (by decide +kernel)]; exact ⟨rfl, rfl⟩))
    (fun os started H enc _ => lifted os started H enc)
end Go.Proofs.Ytnmlbakiolecnaa.rlogConf
