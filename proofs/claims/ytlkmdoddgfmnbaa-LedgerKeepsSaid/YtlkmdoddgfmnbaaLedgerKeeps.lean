/- The law LedgerKeeps returns true for every limit and every list of commands: what package ledger makes of a new ledger by them may be, as its own Check says. No condition. -/
import Derived.Test.YtlkmdoddgfmnbaaSl
import Derived.Test.YtlkmdoddgfmnbaaLwA
namespace Go.Proofs.Ytlkmdoddgfmnbaa.ledgerKeeps
open Go.ChangeShapes Go.WideShapes Go.ChangeAt Go.RowKit
open Go.ChangeMaps (open_string shut_string)
set_option linter.unusedVariables false

theorem own : ownKnob Try.prog.godebug = none := by kernel_rfl
theorem laidOut : laidOutB Try.prog = true := by kernel_rfl

set_option maxHeartbeats 400000 in
theorem walk (a0 : Int) (v1 : Value) (x1 : (List Ent)) (w : World) (w0 : (Lit.int .i64 a0).wf = true) (w1 : IsLog w v1 x1) :
    Calls Try.prog 4 #[.int .i64 a0, v1] w fun e w' => e = .returned (.bool true) ∧ Below w.heap.size w w' := by
  have HW1 := Lib.hid w1
  have HW0 := Lib.hid w0
  clear w0 w1
  go_enter Try.func4, Try.ntmps4
  go_wp2_with fail
  refine (La.play_any a0 v1 x1 _ HW0.out HW1.out).mono ?_
  rintro e W1 ⟨m, vh, vl, rfl, hi, hok, -, hb1⟩
  obtain ⟨vh', vl', e', s1, s2, hwf⟩ := id hi
  obtain ⟨rfl, rfl⟩ : vh = vh' ∧ vl = vl' := by simpa using e'
  obtain ⟨c1, k1, rfl, -⟩ := id s1
  obtain ⟨c2, k2, rfl, -⟩ := id s2
  have hs : (W1.alloc (.cells Ld.zArr 26)).heap[W1.heap.size]? = some (.cells Ld.zArr 26 (0, 0)) := heap_alloc_new _ _
  have hb2 : Below W1.heap.size W1 ((W1.alloc (.cells Ld.zArr 26)).setRow W1.heap.size (lArr m (.slice c1 m.held.length k1) (.slice c2 m.last.length k2))) := Ld.below_row ((Below.refl _ _).alloc (Nat.le_refl _) _) (Nat.le_refl _) _
  have hR2 := setRow_heap _ _ _ (lArr m (.slice c1 m.held.length k1) (.slice c2 m.last.length k2)) _ _ hs
  obtain ⟨W2, hW2⟩ : ∃ q, (W1.alloc (.cells Ld.zArr 26)).setRow W1.heap.size (lArr m (.slice c1 m.held.length k1) (.slice c2 m.last.length k2)) = q := ⟨_, rfl⟩
  rw [hW2] at hb2 hR2
  have HS := Lib.hid hs
  have HR2 := Lib.hid hR2
  have HI2 := Lib.hid (hi.below hb2 (Nat.le_refl _))
  have HB2 := Lib.hid (hb1.trans (hb2.mono hb1.size))
  have HOK := Lib.hid hok
  clear hi s1 s2 e' hs hb2 hR2 hb1 hok hwf
  go_wp2_with ((with_reducible refine wpList_store_row rfl 26 (.tmp 5) (.tmp 11) rfl W1.heap.size (lArr m (.slice c1 m.held.length k1) (.slice c2 m.last.length k2)) rfl rfl 26 _ HS.out (by kernel_rfl) rfl (Ld.lArr_one _ _ _ _ _ _ _) ?_))
  refine (La.grants_any _).mono ?_
  rintro e W3 ⟨rfl, hb3⟩
  have hR3 := (hb3.block W1.heap.size ((Array.getElem?_eq_some_iff.1 HR2.out).1)).trans HR2.out
  obtain ⟨y0, y1, y2, y3⟩ := La.led_cells hR3
  have HI3 := Lib.hid (HI2.out.below hb3 (Nat.le_refl _))
  have HB3 := Lib.hid (HB2.out.trans (hb3.mono HB2.out.size))
  clear hR3 hb3
  go_wp2_with fail
  refine (Ld.check_any m _ _ HI3.out).mono ?_
  rintro e W4 ⟨z, rfl, hz, hb4⟩
  obtain rfl : z = 0 := by
    rcases hz with h | h
    · exact h.1
    · exact absurd (La.led_iff.2 HOK.out) h.2
  have HB4 := Lib.hid (HB3.out.trans (hb4.mono HB3.out.size))
  clear hz hb4 y0 y1 y2 y3
  go_wp2
  go_ret
  exact ⟨rfl, HB4.out⟩

set_option maxRecDepth 100000 in
theorem contract (H : Type) (enc : TypeId × Value → H) (W : World) (base : Nat) (args : Array Value) (ds gs : List (DataW H)) (before : List MemPlace)
    (hval0 : ∀ (j : Nat) t v, Try.f4.params[j]? = some t → args[j]? = some v → Value.okWide Try.prog W .any base t v)
    (hW : DataW.Whole enc Try.prog Try.f4.params.toList Rows.ledgerKeepsSpec.vars false W args.toList ds gs before)
    (hsz0 : (DataW.weightsEach Try.prog (Try.f4.params.toList ++ Rows.ledgerKeepsSpec.plain.varTypes Try.prog) (ds ++ gs)).all (· ≤ reachBytes) = true) :
    Calls Try.prog 4 args W fun e W' => ∃ v, e = .returned v ∧ Rows.ledgerKeepsSpec.post enc Try.prog Try.f4 false true false false W args v W' := by
  have hval : ∀ (j : Nat) t v, Try.f4.params[j]? = some t → args[j]? = some v → Value.okWide Try.prog W .any base t v := hval0
  have hW' := hW
  obtain ⟨p, q, hA0, hV, rfl, hfz, hnd⟩ := hW
  have hA : DataW.TrodAll enc Try.prog W 0 (fun _ => true) true Try.f4.params.toList args.toList ds p := hA0
  rw [Try.params4] at hA hval
  have hsz := hsz0
  rw [Try.params4] at hsz
  obtain ⟨v0, vs0, d0, ds0, p0, q0, hargs, rfl, rfl, h0, r0⟩ := trodAll_cons hA
  obtain ⟨v1, vs1, d1, ds1, p1, q1, rfl, rfl, rfl, h1, r1⟩ := trodAll_cons r0
  obtain ⟨rfl, rfl, rfl⟩ := trodAll_nil r1
  obtain rfl : args = #[v0, v1] := by cases args; simp_all
  obtain ⟨rfl, rfl⟩ := trodVars_none hV
  clear hA0 hval0
  have k0 := h0
  have lt0 : ∀ x ∈ p0, x.block < W.heap.size := by obtain ⟨m, hm⟩ := k0; exact DataW.trod_lt m _ _ _ hm
  have k1 := h1
  have lt1 : ∀ x ∈ p1, x.block < W.heap.size := by obtain ⟨m, hm⟩ := k1; exact DataW.trod_lt m _ _ _ hm
  obtain ⟨a0, rfl, -, -, w0⟩ := open_int Try.underlying3 (hval 0 3 v0 rfl rfl) h0
  obtain ⟨x1, w1, -⟩ := open_ops (hval 1 43 v1 rfl rfl) k1
  refine (walk a0 v1 x1 W w0 w1).mono fun e W' ⟨he, bel⟩ => ?_
  subst he
  exact ⟨_, rfl, _, _, _, [], _, [], hW', trodAll_mk1 (shut_bool Try.underlying4 _), (trodAll_cons_mk (Below.trod laidOut (by kernel_rfl) (of_decide_eq_true (by kernel_rfl)) k0 bel lt0) (trodAll_cons_mk (Below.trod laidOut (by kernel_rfl) (of_decide_eq_true (by kernel_rfl)) k1 bel lt1) trodAll_mk0)), rfl, bel.frame _, fun h => by cases h⟩

set_option maxRecDepth 100000 in
theorem lifted (os : Os) (started : os.Started) (H : Type) (enc : TypeId × Value → H) :
    ReturnsInHanded {} Try.checked os 4 .any (Rows.ledgerKeepsSpec.pre6 enc Try.prog Try.f4 Rows.ledgerKeepsRow.domain false) (Rows.ledgerKeepsSpec.post enc Try.prog Try.f4 false true false false) := by
  refine returnsInHanded_of_change_sized (C := Try.checked) own started (by kernel_rfl) Try.func4
    (ChangeSpec.witness6 (enc := enc) (C := Try.checked) false ⟨#[], #[.int .i64 0, .slice none 0 0], []⟩ 8 (by kernel_rfl) (by kernel_rfl) (by kernel_rfl) (by kernel_rfl)) ?_
  intro W base args ds gs before hval0 hW hcnd hsz _
  exact contract H enc W base args ds gs before hval0 hW hsz

theorem proved : Rows.LedgerKeepsSaid :=
  OpenClaim.holds_of_wide 4 Try.f4 rfl rfl rfl rfl rfl rfl rfl ⟨rfl, rfl, rfl, rfl, rfl⟩ rfl rfl rfl rfl rfl (by kernel_rfl) Try.func4 (by kernel_rfl)
    (of_decide_eq_true (by kernel_rfl)) (by unfold Func.isWrapper; first | (rw [if_pos (by decide +kernel)]; kernel_rfl) | (rw [if_neg (by decide +kernel)]; exact ⟨rfl, rfl⟩))
    (fun os started H enc _ => lifted os started H enc)
end Go.Proofs.Ytlkmdoddgfmnbaa.ledgerKeeps
