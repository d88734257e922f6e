/- The law CmdReads returns true for whatever bytes: package cmd's Decode reads them as a command, or refuses them, as the document's own answer does, and leaves them as they were. No condition. -/
import Derived.Test.YtlpoljknohiihaaSl
import Derived.Test.YtlpoljknohiihaaCmdZe
import Derived.Lib.SlBytesConst
namespace Go.Proofs.Ytlpoljknohiihaa.cmdReads
open Go.ChangeShapes Go.WideShapes Go.ChangeAt Go.RowKit
open Go.ChangeMaps (open_string shut_string)
set_option linter.unusedVariables false

theorem own : ownKnob Try.prog.godebug = none := by kernel_rfl
theorem laidOut : laidOutB Try.prog = true := by kernel_rfl

theorem dec11 : Cm.decL [1, 1] = (⟨1, 0, 0, [], 0, 0, 0, 0⟩, 2, 0) := by
  have h := Cm.dec_enc (c := ⟨1, 0, 0, [], 0, 0, 0, 0⟩) ⟨by decide, by decide, by decide, by decide, by decide, by decide, by decide⟩ (by decide) []
  have e : Cm.encL ⟨1, 0, 0, [], 0, 0, 0, 0⟩ = [1, 1] := by
    have h1 : Cm.encL ⟨1, 0, 0, [], 0, 0, 0, 0⟩ = Cm.numI 1 ++ [] ++ [] := rfl
    rw [h1, Cm.numI_small (by omega) (by omega)]; rfl
  rw [e] at h
  exact h
set_option maxHeartbeats 400000 in
theorem walk (v0 : Value) (z0 : List Int) (w : World) (w0 : Sl .u8 w v0 z0) (b0 : z0.length * 1 ≤ 140737488351232) :
    Calls Try.prog 5 #[v0] w fun e w' => e = .returned (.bool true) ∧ Below w.heap.size w w' := by
  have hb : z0.length ≤ 140737488355328 := by omega
  have h0 : ([] : List Int).length + z0.length ≤ 140737488355328 := by simp; omega
  have HD := Lib.hid dec11
  clear b0
  go_enter Try.func5, Try.ntmps5
  go_wp2_with (first
    | (at_builtin; refine app8 rfl (.const (.slice none 0 0)) _ rfl w.heap.size _ _ rfl (Own.nil _ _) _ _ rfl w0 h0 (Nat.le_refl _) ?_; intro v2 u2 hown2 hb2; rw [List.nil_append] at hown2; have hs2 := hown2.sl w0.wf; have hw2 := w0.below hb2 (Nat.le_refl _)))
  refine (Cm.decode_any _ _ _ hs2).mono ?_
  rintro e u3 ⟨v3, rfl, hi3, hb3⟩
  have HS2 := Lib.hid (fun w' (hb : Below u2.heap.size u2 w') => hs2.below hb (Nat.le_refl _))
  have HW2 := Lib.hid (fun w' (hb : Below u2.heap.size u2 w') => hw2.below hb (Nat.le_refl _))
  clear hs2 hw2 hown2 w0
  rcases hd : Cm.decL z0 with ⟨c, k, er⟩
  rw [hd] at hi3
  have HDD := Lib.hid hd
  clear hd
  obtain ⟨vn3, rfl, hsl3, hwf3⟩ := id hi3
  obtain ⟨a3, p3, rfl, -⟩ := id hsl3
  have hb4 : Below u2.heap.size u2 (u3.alloc (.cells (Cm.cArr c (.slice a3 c.nodes.length p3)) 25)) := hb3.alloc hb3.size _
  have hi4 := hi3.below ((Below.refl _ _).alloc (Nat.le_refl _) _ : Below u3.heap.size u3 (u3.alloc (.cells (Cm.cArr c (.slice a3 c.nodes.length p3)) 25))) (Nat.le_refl _)
  have hg4 : (u3.alloc (.cells (Cm.cArr c (.slice a3 c.nodes.length p3)) 25)).heap[u3.heap.size]? = some (.cells (Cm.cArr c (.slice a3 c.nodes.length p3)) 25 (0, 0)) := heap_alloc_new _ _
  clear hsl3 hi3
  go_wp2_with fail
  refine (Cm.rdec_any _ _ _ (HW2.out _ hb4)).mono ?_
  rintro e u5 ⟨v5, rfl, hi5, hb5⟩
  rw [HDD.out] at hi5 ⊢
  obtain ⟨vn5, rfl, hsl5, hwf5⟩ := id hi5
  obtain ⟨a5, p5, rfl, -⟩ := id hsl5
  have hb05 : Below u2.heap.size u2 u5 := hb4.trans (hb5.mono hb4.size)
  have hz5 : u3.heap.size < u5.heap.size := by have := hb5.size; simp at this; omega
  have hg5 := (hb5.block u3.heap.size (by simp)).trans hg4
  have hi45 := hi4.below hb5 (Nat.le_refl _)
  have hb6' : Below u5.heap.size u5 (u5.alloc (.cells (Cm.cArr c (.slice a5 c.nodes.length p5)) 25)) := (Below.refl _ _).alloc (Nat.le_refl _) _
  have hb6 : Below u2.heap.size u2 (u5.alloc (.cells (Cm.cArr c (.slice a5 c.nodes.length p5)) 25)) := hb05.trans (hb6'.mono hb05.size)
  have hg6 := (hb6'.block u3.heap.size hz5).trans hg5
  have hh6 : (u5.alloc (.cells (Cm.cArr c (.slice a5 c.nodes.length p5)) 25)).heap[u5.heap.size]? = some (.cells (Cm.cArr c (.slice a5 c.nodes.length p5)) 25 (0, 0)) := heap_alloc_new _ _
  have hi46 := hi45.below hb6' (Nat.le_refl _)
  have hi56 := hi5.below hb6' (Nat.le_refl _)
  clear hsl5 hi5 hi45 hi4 hb5 hb4 hb05 hg5 hg4 hb6' hb3
  have kc := Lib.run_convert_bytes_const (P := Try.prog) (u5.alloc (.cells (Cm.cArr c (.slice a5 c.nodes.length p5)) 25)) 31 5 #[Value.int .u8 1, Value.int .u8 1] 2 2 Try.underlying31 Try.underlying5
  have hz6 : (u5.alloc (.cells (Cm.cArr c (.slice a5 c.nodes.length p5)) 25)).heap.size = u5.heap.size + 1 := by simp
  rw [hz6] at kc
  go_wp2_with fail
  clear kc hz6
  have hl7 := Sl.newAt (k := .u8) (e := 5) (fr := (2, 3)) (n := 2) (c := 2) (u5.alloc (.cells (Cm.cArr c (.slice a5 c.nodes.length p5)) 25)) (u5.heap.size + 1) (by simp) #[Value.int .u8 1, Value.int .u8 1] [1, 1] rfl rfl (by decide) (by decide) (by decide)
  refine (Cm.decode_any _ _ _ hl7).mono ?_
  rintro e u7 ⟨v7, rfl, hi7, hb7⟩
  rw [HD.out] at hi7 ⊢
  obtain ⟨vn7, rfl, hsl7, hwf7⟩ := id hi7
  obtain ⟨a7, p7, rfl, -⟩ := id hsl7
  have hbl : Below (u5.alloc (.cells (Cm.cArr c (.slice a5 c.nodes.length p5)) 25)).heap.size (u5.alloc (.cells (Cm.cArr c (.slice a5 c.nodes.length p5)) 25)) u7 := ((Below.refl _ _).alloc (Nat.le_refl _) _).trans (hb7.mono (by simp))
  have hz7 := hbl.size
  have hz8 : u5.heap.size < u7.heap.size := by simp at hz7; omega
  have hg7 := (hbl.block u3.heap.size (by simp; omega)).trans hg6
  have hh7 := (hbl.block u5.heap.size (by simp)).trans hh6
  have hb07 : Below u2.heap.size u2 u7 := hb6.trans (hbl.mono hb6.size)
  have hi47 := hi46.below hbl (Nat.le_refl _)
  have hi57 := hi56.below hbl (Nat.le_refl _)
  have hb8' : Below u7.heap.size u7 (u7.alloc (.cells (Cm.cArr (⟨1, 0, 0, [], 0, 0, 0, 0⟩ : Cmd) (.slice a7 0 p7)) 25)) := (Below.refl _ _).alloc (Nat.le_refl _) _
  have hb08 := hb07.trans (hb8'.mono hb07.size)
  have hg8 := (hb8'.block u3.heap.size (by omega)).trans hg7
  have hh8 := (hb8'.block u5.heap.size hz8).trans hh7
  have hi48 := hi47.below hb8' (Nat.le_refl _)
  have hi58 := hi57.below hb8' (Nat.le_refl _)
  have hq1 := fun w' (hb : Below u2.heap.size u2 w') => run_str (HS2.out w' hb)
  have hq2 := fun w' (hb : Below u2.heap.size u2 w') => run_str (HW2.out w' hb)
  have HQ1 := Lib.hid hq1
  have HQ2 := Lib.hid hq2
  clear hq1 hq2 hl7 hi7 hsl7 hwf7 hb7 hbl hz7 hg7 hh7 hb07 hi47 hi57 hb8' hg6 hh6 hi46 hi56 hb6
  go_wp2_with (first
    | (refine wpList_load_rowG rfl 25 (.tmp 4) rfl u3.heap.size rfl 25 (Cm.cArr c (.slice a3 c.nodes.length p3)) (0, 0) _ hg8 Try.underlying25 rfl (by kernel_rfl) ?_)
    | (refine wpList_load_rowG rfl 25 (.tmp 7) rfl u5.heap.size rfl 25 (Cm.cArr c (.slice a5 c.nodes.length p5)) (0, 0) _ hh8 Try.underlying25 rfl (by kernel_rfl) ?_)
    | (go_at_call 12; refine (Cm.same_true c _ _ _ hi48 hi58).mono ?_; rintro e u9 ⟨rfl, hb9⟩; have hb09 := hb08.trans (hb9.mono hb08.size); have hs1 := HQ1.out _ hb09; have hs2 := HQ2.out _ hb09))
  go_ret
  exact ⟨rfl, hb2.trans (hb09.mono hb2.size)⟩

set_option maxRecDepth 100000 in
theorem contract (H : Type) (enc : TypeId × Value → H) (W : World) (base : Nat) (args : Array Value) (ds gs : List (DataW H)) (before : List MemPlace)
    (hval0 : ∀ (j : Nat) t v, Try.f5.params[j]? = some t → args[j]? = some v → Value.okWide Try.prog W .any base t v)
    (hW : DataW.Whole enc Try.prog Try.f5.params.toList Rows.cmdReadsSpec.vars false W args.toList ds gs before)
    (hsz0 : (DataW.weightsEach Try.prog (Try.f5.params.toList ++ Rows.cmdReadsSpec.plain.varTypes Try.prog) (ds ++ gs)).all (· ≤ reachBytes) = true) :
    Calls Try.prog 5 args W fun e W' => ∃ v, e = .returned v ∧ Rows.cmdReadsSpec.post enc Try.prog Try.f5 false true false false W args v W' := by
  have hval : ∀ (j : Nat) t v, Try.f5.params[j]? = some t → args[j]? = some v → Value.okWide Try.prog W .any base t v := hval0
  have hW' := hW
  obtain ⟨p, q, hA0, hV, rfl, hfz, hnd⟩ := hW
  have hA : DataW.TrodAll enc Try.prog W 0 (fun _ => true) true Try.f5.params.toList args.toList ds p := hA0
  rw [Try.params5] at hA hval
  have hsz := hsz0
  rw [Try.params5] at hsz
  obtain ⟨v0, vs0, d0, ds0, p0, q0, hargs, rfl, rfl, h0, r0⟩ := trodAll_cons hA
  obtain ⟨rfl, rfl, rfl⟩ := trodAll_nil r0
  obtain rfl : args = #[v0] := by cases args; simp_all
  obtain ⟨rfl, rfl⟩ := trodVars_none hV
  clear hA0 hval0
  have k0 := h0
  have lt0 : ∀ x ∈ p0, x.block < W.heap.size := by obtain ⟨m, hm⟩ := k0; exact DataW.trod_lt m _ _ _ hm
  obtain ⟨z0, w0, u00, b00⟩ := open_sl Try.underlying31 Try.underlying5 (by kernel_rfl) (okWide_slice Try.underlying31 (hval 0 31 v0 rfl rfl)).choose_spec.choose_spec.choose_spec k0
  have b0 : z0.length * 1 ≤ 140737488351232 := by
    have := b00 hsz (j := 0) rfl rfl
    rw [show Try.prog.bytesOf 5 = 1 from by kernel_rfl] at this
    simpa [reachBytes] using this
  refine (walk v0 z0 W w0 b0).mono fun e W' ⟨he, bel⟩ => ?_
  subst he
  exact ⟨_, rfl, _, _, _, [], _, [], hW', trodAll_mk1 (shut_bool Try.underlying4 _), (trodAll_cons_mk (Below.trod laidOut (by kernel_rfl) (of_decide_eq_true (by kernel_rfl)) k0 bel lt0) trodAll_mk0), rfl, bel.frame _, fun h => by cases h⟩

set_option maxRecDepth 100000 in
theorem lifted (os : Os) (started : os.Started) (H : Type) (enc : TypeId × Value → H) :
    ReturnsInHanded {} Try.checked os 5 .any (Rows.cmdReadsSpec.pre6 enc Try.prog Try.f5 Rows.cmdReadsRow.domain false) (Rows.cmdReadsSpec.post enc Try.prog Try.f5 false true false false) := by
  refine returnsInHanded_of_change_sized (C := Try.checked) own started (by kernel_rfl) Try.func5
    (ChangeSpec.witness6 (enc := enc) (C := Try.checked) false ⟨#[], #[.slice none 0 0], []⟩ 8 (by kernel_rfl) (by kernel_rfl) (by kernel_rfl) (by kernel_rfl)) ?_
  intro W base args ds gs before hval0 hW hcnd hsz _
  exact contract H enc W base args ds gs before hval0 hW hsz

theorem proved : Rows.CmdReadsSaid :=
  OpenClaim.holds_of_wide 5 Try.f5 rfl rfl rfl rfl rfl rfl rfl ⟨rfl, rfl, rfl, rfl, rfl⟩ rfl rfl rfl rfl rfl (by kernel_rfl) Try.func5 (by kernel_rfl)
    (of_decide_eq_true (by kernel_rfl)) (by unfold Func.isWrapper; first | (rw [if_pos (by decide +kernel)]; kernel_rfl) | (rw [if_neg (by decide +kernel)]; exact ⟨rfl, rfl⟩))
    (fun os started H enc _ => lifted os started H enc)
end Go.Proofs.Ytlpoljknohiihaa.cmdReads
