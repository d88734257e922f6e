/- The law NodesOthers returns true for every list and number: package nodes' Others answers what the document's own answer is, its answer is the caller's own, and the list stays as it was. No condition. -/
import Derived.Test.YtlbadhkdkbghbaaSl
import Derived.Test.YtlbadhkdkbghbaaNodO
namespace Go.Proofs.Ytlbadhkdkbghbaa.nodesOthers
open Go.ChangeShapes Go.WideShapes Go.ChangeAt Go.RowKit
open Go.ChangeMaps (open_string shut_string)
set_option linter.unusedVariables false

theorem own : ownKnob Try.prog.godebug = none := by kernel_rfl
theorem laidOut : laidOutB Try.prog = true := by kernel_rfl

theorem oth45 : Nd.oth 5 [4, 5] = [4] := by decide

/-- what stands behind the loop -/
def Rest (w : World) (zs : List Int) (v2 : Value) (l : Value) (wr : World) : Prop := Below w.heap.size w wr ∧ Sl .i64 wr v2 zs ∧ Sl .i64 wr l zs

theorem store_own {w : World} {B g n cap : Nat} {xs : List Int} (h : OwnI w B (.slice (some ⟨g, 0, none⟩) n cap) xs) (j : Nat) (z : Int) :
    OwnI (w.setCell ⟨g, j, none⟩ (.int .i64 z)) B (.slice (some ⟨g, 0, none⟩) n cap) (xs.set j z) := by
  have hn : n = xs.length := by
    have := h.2
    rcases this with ⟨h', _⟩ | ⟨g', cap', cur, h', _⟩
    · simp at h'
    · simp at h'; exact h'.2.1
  subst hn
  have h1 := (World.ownsRow.stored h j (.int .i64 z)).1
  unfold OwnI OwnK
  rw [List.length_set, List.map_set]
  exact h1
set_option maxHeartbeats 400000 in
theorem walk (v0 : Value) (z0 : List Int) (a1 : Int) (w : World) (w0 : Sl .i64 w v0 z0) (b0 : z0.length * 8 ≤ 140737488351232) (w1 : (Lit.int .i64 a1).wf = true) :
    Calls Try.prog 5 #[v0, .int .i64 a1] w fun e w' => e = .returned (.bool true) ∧ Below w.heap.size w w' := by
  have k45 := Lib.hid oth45
  go_enter Try.func5, Try.ntmps5
  go_wp2_with (at_builtin; refine copyI rfl _ rfl w.heap.size _ _ rfl w0 b0 (Nat.le_refl _) ?_; intro v2 u2 hown2 hs2 hb2; have hw2 := w0.below hb2 (Nat.le_refl _))
  refine (Nd.others_any _ _ _ _ hs2 b0).mono ?_
  rintro e u3 ⟨v3, rfl, hown3, hs3, hb3⟩
  have hw3 := hw2.below hb3 (Nat.le_refl _)
  have hs3o := hs2.below hb3 (Nat.le_refl _)
  go_wp2_with fail
  refine (Nd.rothers_any _ _ _ _ hw3 b0).mono ?_
  rintro e u4 ⟨v4, rfl, hown4, hs4, hb4⟩
  have hs34 := hs3.below hb4 (Nat.le_refl _)
  have hw4 := hw3.below hb4 (Nat.le_refl _)
  have hs4o := hs3o.below hb4 (Nat.le_refl _)
  have hown34 := hown3.below hb4 (Nat.le_refl _)
  go_wp2_with fail
  refine (Nd.same_any _ _ _ _ _ hs34 hs4).mono ?_
  rintro e u5 ⟨rfl, hb5⟩
  have hw5 := hw4.below hb5 (Nat.le_refl _)
  have hs5o := hs4o.below hb5 (Nat.le_refl _)
  have hown5 := hown34.below hb5 (Nat.le_refl _)
  have hB5 : Below w.heap.size w u5 := ((hb2.trans (hb3.mono hb2.size)).trans (hb4.mono (Nat.le_trans hb2.size hb3.size))).trans (hb5.mono (Nat.le_trans hb2.size (Nat.le_trans hb3.size hb4.size)))
  have hsz : u2.heap.size ≤ u5.heap.size := Nat.le_trans hb3.size (Nat.le_trans hb4.size hb5.size)
  have hs2' := hs2
  have hw2' := hw2
  have hB25 : Below u2.heap.size u2 u5 := (hb3.trans (hb4.mono hb3.size)).trans (hb5.mono (Nat.le_trans hb3.size hb4.size))
  have hz2 := hb2.size
  clear hb3 hb4 hb5 hs34 hw4 hs4o hown34 hs3 hs3o hw3 hown3 hs4 hown4 hw5 hs5o
  have hL := Nd.oth_le a1 z0
  have htail : ∀ wr, Below u2.heap.size u2 wr → Below w.heap.size w wr ∧ Sl .i64 wr v2 z0 ∧ Sl .i64 wr v0 z0 := fun wr hb => ⟨hb2.trans (hb.mono hz2), hs2'.below hb (Nat.le_refl _), hw2'.below hb (Nat.le_refl _)⟩
  have HT := Lib.hid htail
  clear htail
  have hl63 := w0.len
  unfold maxLen at hl63
  rcases hown5.2 with ⟨rfl, h0⟩ | ⟨g, cap, cur, rfl, hg, hh, hle, hcm, hsz5, htk⟩
  · clear hown5
    go_wp2
    refine wp_loop_rounds 1 ?_
    rw [rounds_succ]
    obtain ⟨hBf, hsf, hlf⟩ := HT.out _ hB25
    go_wp2_with fail
    have hl := Sl.new (k := .i64) (e := 3) (fr := (0, 0)) (n := 2) (c := 2) u5 #[Value.int .i64 4, Value.int .i64 5] [4, 5] rfl rfl (by decide) (by decide) (by decide)
    refine (Nd.others_any _ _ _ _ hl (by decide)).mono ?_
    rintro e u6 ⟨v6, rfl, hown6, hs6, hb6⟩
    rw [k45.out] at hs6
    obtain ⟨a6, cap6, hv6, -⟩ := hs6
    subst hv6
    have hb6' : Below u5.heap.size u5 u6 := ((Below.refl _ _).alloc (Nat.le_refl _) _).trans (hb6.mono (by simp))
    go_wp2_with fail
    refine (Nd.same_any _ _ _ _ _ (hsf.below hb6' (Nat.le_refl _)) (hlf.below hb6' (Nat.le_refl _))).mono ?_
    rintro e u7 ⟨rfl, hb7⟩
    go_wp2
    go_ret
    exact ⟨rfl, (hBf.trans (hb6'.mono hBf.size)).trans (hb7.mono (Nat.le_trans hBf.size hb6'.size))⟩
  · have hown5' : OwnI u5 u2.heap.size (.slice (some ⟨g, 0, none⟩) (Nd.oth a1 z0).length cap) (Nd.oth a1 z0) := hown5
    clear hown5 hh hsz5 htk
    generalize hoth : Nd.oth a1 z0 = l5 at *
    clear hoth
    go_wp2
    go_loopw [8, 21] (fun _ i wr => ∃ k : Nat, ∃ xs : List Int, k ≤ l5.length ∧ i = .int .i64 k ∧ xs.length = l5.length ∧ OwnI wr u2.heap.size (.slice (some ⟨g, 0, none⟩) l5.length cap) xs ∧ Below u2.heap.size u2 wr) (fun _ i _ => l5.length - (intOf i).toNat)
    case atStart => exact ⟨0, l5, Nat.zero_le _, rfl, rfl, hown5', hB25⟩
    case round =>
      obtain ⟨k, xs, hk, rfl, hxl, hown, hb⟩ := hrel
      clear hown5'
      by_cases hlt : k < l5.length
      · have hxk : k < xs.length := by omega
        have hcell : wr.cell? ⟨g, k, none⟩ = some (.int .i64 (xs.getD k 0)) := by
          have h := World.ownsRow.cells hown (g := g) rfl k (.int .i64 (xs.getD k 0)) (by simp [List.getElem?_map, List.getElem?_eq_getElem hxk, List.getD])
          rw [add_plain, Nat.zero_add] at h
          exact h
        have hfz : wr.frozen? ⟨g, k, none⟩ = false := by
          have h : wr.ownsRow u2.heap.size 3 1 (.slice (some ⟨g, 0, none⟩) xs.length cap) xs.length (xs.map (Value.int .i64)) := by rw [hxl]; have := hown; unfold OwnI OwnK at this; rw [hxl] at this; exact this
          exact h.frozenAt k
        have hst := store_own hown k 99
        have hbst := hb.setCell (p := ⟨g, k, none⟩) hg (.int .i64 99)
        have HX := Lib.hid hxl
        clear hown hxl
        go_wp2
        go_roundw
        case rel => exact ⟨k + 1, xs.set k 99, by omega, by go_num, by rw [List.length_set]; exact HX.out, hst, hbst⟩
        case measure => simp [intOf]; omega
      · obtain rfl : k = l5.length := by omega
        obtain ⟨hBf, hsf, hlf⟩ := HT.out _ hb
        clear hown hxl
        go_wp2_with fail
        have hl := Sl.new (k := .i64) (e := 3) (fr := (0, 0)) (n := 2) (c := 2) wr #[Value.int .i64 4, Value.int .i64 5] [4, 5] rfl rfl (by decide) (by decide) (by decide)
        refine (Nd.others_any _ _ _ _ hl (by decide)).mono ?_
        rintro e u6 ⟨v6, rfl, hown6, hs6, hb6⟩
        rw [k45.out] at hs6
        obtain ⟨a6, cap6, hv6, -⟩ := hs6
        subst hv6
        have hb6' : Below wr.heap.size wr u6 := ((Below.refl _ _).alloc (Nat.le_refl _) _).trans (hb6.mono (by simp))
        go_wp2_with fail
        refine (Nd.same_any _ _ _ _ _ (hsf.below hb6' (Nat.le_refl _)) (hlf.below hb6' (Nat.le_refl _))).mono ?_
        rintro e u7 ⟨rfl, hb7⟩
        go_wp2
        go_ret
        exact ⟨rfl, (hBf.trans (hb6'.mono hBf.size)).trans (hb7.mono (Nat.le_trans hBf.size hb6'.size))⟩

set_option maxRecDepth 100000 in
theorem contract (H : Type) (enc : TypeId × Value → H) (W : World) (base : Nat) (args : Array Value) (ds gs : List (DataW H)) (before : List MemPlace)
    (hval0 : ∀ (j : Nat) t v, Try.f5.params[j]? = some t → args[j]? = some v → Value.okWide Try.prog W .any base t v)
    (hW : DataW.Whole enc Try.prog Try.f5.params.toList Rows.nodesOthersSpec.vars false W args.toList ds gs before)
    (hsz0 : (DataW.weightsEach Try.prog (Try.f5.params.toList ++ Rows.nodesOthersSpec.plain.varTypes Try.prog) (ds ++ gs)).all (· ≤ reachBytes) = true) :
    Calls Try.prog 5 args W fun e W' => ∃ v, e = .returned v ∧ Rows.nodesOthersSpec.post enc Try.prog Try.f5 false true false false W args v W' := by
  have hval : ∀ (j : Nat) t v, Try.f5.params[j]? = some t → args[j]? = some v → Value.okWide Try.prog W .any base t v := hval0
  have hW' := hW
  obtain ⟨p, q, hA0, hV, rfl, hfz, hnd⟩ := hW
  have hA : DataW.TrodAll enc Try.prog W 0 (fun _ => true) true Try.f5.params.toList args.toList ds p := hA0
  rw [Try.params5] at hA hval
  have hsz := hsz0
  rw [Try.params5] at hsz
  obtain ⟨v0, vs0, d0, ds0, p0, q0, hargs, rfl, rfl, h0, r0⟩ := trodAll_cons hA
  obtain ⟨v1, vs1, d1, ds1, p1, q1, rfl, rfl, rfl, h1, r1⟩ := trodAll_cons r0
  obtain ⟨rfl, rfl, rfl⟩ := trodAll_nil r1
  obtain rfl : args = #[v0, v1] := by cases args; simp_all
  obtain ⟨rfl, rfl⟩ := trodVars_none hV
  clear hA0 hval0
  have k0 := h0
  have lt0 : ∀ x ∈ p0, x.block < W.heap.size := by obtain ⟨m, hm⟩ := k0; exact DataW.trod_lt m _ _ _ hm
  have k1 := h1
  have lt1 : ∀ x ∈ p1, x.block < W.heap.size := by obtain ⟨m, hm⟩ := k1; exact DataW.trod_lt m _ _ _ hm
  obtain ⟨z0, w0, u00, b00⟩ := open_sl Try.underlying22 Try.underlying3 (by kernel_rfl) (okWide_slice Try.underlying22 (hval 0 22 v0 rfl rfl)).choose_spec.choose_spec.choose_spec k0
  have b0 : z0.length * 8 ≤ 140737488351232 := by
    have := b00 hsz (j := 0) rfl rfl
    rw [show Try.prog.bytesOf 3 = 8 from by kernel_rfl] at this
    simpa [reachBytes] using this
  obtain ⟨a1, rfl, -, -, w1⟩ := open_int Try.underlying3 (hval 1 3 v1 rfl rfl) h1
  refine (walk v0 z0 a1 W w0 b0 w1).mono fun e W' ⟨he, bel⟩ => ?_
  subst he
  exact ⟨_, rfl, _, _, _, [], _, [], hW', trodAll_mk1 (shut_bool Try.underlying4 _), (trodAll_cons_mk (Below.trod laidOut (by kernel_rfl) (of_decide_eq_true (by kernel_rfl)) k0 bel lt0) (trodAll_cons_mk (Below.trod laidOut (by kernel_rfl) (of_decide_eq_true (by kernel_rfl)) k1 bel lt1) trodAll_mk0)), rfl, bel.frame _, fun h => by cases h⟩

set_option maxRecDepth 100000 in
theorem lifted (os : Os) (started : os.Started) (H : Type) (enc : TypeId × Value → H) :
    ReturnsInHanded {} Try.checked os 5 .any (Rows.nodesOthersSpec.pre6 enc Try.prog Try.f5 Rows.nodesOthersRow.domain false) (Rows.nodesOthersSpec.post enc Try.prog Try.f5 false true false false) := by
  refine returnsInHanded_of_change_sized (C := Try.checked) own started (by kernel_rfl) Try.func5
    (ChangeSpec.witness6 (enc := enc) (C := Try.checked) false ⟨#[], #[.slice none 0 0, .int .i64 0], []⟩ 8 (by kernel_rfl) (by kernel_rfl) (by kernel_rfl) (by kernel_rfl)) ?_
  intro W base args ds gs before hval0 hW hcnd hsz _
  exact contract H enc W base args ds gs before hval0 hW hsz

theorem proved : Rows.NodesOthersSaid :=
  OpenClaim.holds_of_wide 5 Try.f5 rfl rfl rfl rfl rfl rfl rfl ⟨rfl, rfl, rfl, rfl, rfl⟩ rfl rfl rfl rfl rfl (by kernel_rfl) Try.func5 (by kernel_rfl)
    (of_decide_eq_true (by kernel_rfl)) (by unfold Func.isWrapper; first | (rw [if_pos (by decide +kernel)]; kernel_rfl) | (rw [if_neg (by decide +kernel)]; exact ⟨rfl, rfl⟩))
    (fun os started H enc _ => lifted os started H enc)
end Go.Proofs.Ytlbadhkdkbghbaa.nodesOthers
