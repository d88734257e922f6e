/- The law LedgerMakes returns true for every limit: package ledger's New makes the ledger, or refuses, as the document's own answer does. No condition. -/
import Derived.Test.YtjggbiijglmleaaSl
import Derived.Test.YtjggbiijglmleaaLedA
import Derived.Test.YtjggbiijglmleaaRd
namespace Go.Proofs.Ytjggbiijglmleaa.ledgerMakes
open Go.ChangeShapes Go.WideShapes Go.ChangeAt Go.RowKit
open Go.ChangeMaps (open_string shut_string)
set_option linter.unusedVariables false

theorem own : ownKnob Try.prog.godebug = none := by kernel_rfl
theorem laidOut : laidOutB Try.prog = true := by kernel_rfl

set_option maxHeartbeats 400000 in
theorem walk (a0 : Int) (w : World) (w0 : (Lit.int .i64 a0).wf = true) :
    Calls Try.prog 3 #[.int .i64 a0] w fun e w' => e = .returned (.bool true) ∧ Below w.heap.size w w' := by
  go_enter Try.func3, Try.ntmps3
  go_wp2_with fail
  refine (Ld.new_any a0 _).mono ?_
  rintro e w1 ⟨rfl, hb1⟩
  generalize hl : Ld.newL a0 = l at *
  generalize hn : Ld.newN a0 = n at *
  generalize he : Ld.newE a0 = er at *
  have HL := Lib.hid hl
  have HN := Lib.hid hn
  have HE := Lib.hid he
  clear hl hn he
  have hB2 : Below w.heap.size w (w1.alloc (.cells (Ld.nilA l n) 26)) := hb1.alloc hb1.size _
  have hg2 : (w1.alloc (.cells (Ld.nilA l n) 26)).heap[w1.heap.size]? = some (.cells (Ld.nilA l n) 26 (0, 0)) := heap_alloc_new _ _
  go_wp2_with fail
  refine (Ld.rnew_any a0 _).mono ?_
  rintro e w3 ⟨rfl, hb3⟩
  rw [HL.out, HN.out, HE.out]
  have hg3 := (hb3.block w1.heap.size (by simp)).trans hg2
  have hz3 : w1.heap.size < w3.heap.size := by have := hb3.size; simp at this; omega
  have hB3 : Below w.heap.size w w3 := hB2.trans (hb3.mono hB2.size)
  have hB4 : Below w.heap.size w (w3.alloc (.cells (Ld.nilA l n) 26)) := hB3.alloc hB3.size _
  have hh4 : (w3.alloc (.cells (Ld.nilA l n) 26)).heap[w3.heap.size]? = some (.cells (Ld.nilA l n) 26 (0, 0)) := heap_alloc_new _ _
  have hg4 : (w3.alloc (.cells (Ld.nilA l n) 26)).heap[w1.heap.size]? = some (.cells (Ld.nilA l n) 26 (0, 0)) := (heap_alloc_old _ _ hz3).trans hg3
  go_wp2_with fail
  refine (Ld.made_any _).mono ?_
  rintro e w5 ⟨rfl, hb5⟩
  have hh5 := (hb5.block w3.heap.size (by simp)).trans hh4
  have hg5 := (hb5.block w1.heap.size (by simp; omega)).trans hg4
  have hB5 : Below w.heap.size w w5 := hB4.trans (hb5.mono hB4.size)
  clear hb1 hB2 hg2 hb3 hg3 hB3 hB4 hh4 hg4 hb5
  go_wp2_with (first
    | (refine wpList_load_rowG rfl 26 (.tmp 3) rfl w1.heap.size rfl 26 (Ld.nilA l n) (0, 0) _ hg5 Try.underlying26 rfl (by kernel_rfl) ?_)
    | (refine wpList_load_rowG rfl 26 (.tmp 5) rfl w3.heap.size rfl 26 (Ld.nilA l n) (0, 0) _ hh5 Try.underlying26 rfl (by kernel_rfl) ?_)
    | (go_at_call 14; refine (Ld.same_nil l n _).mono ?_; rintro e w6 ⟨rfl, hb6⟩))
  go_ret
  exact ⟨rfl, hB5.trans (hb6.mono hB5.size)⟩

set_option maxRecDepth 100000 in
theorem contract (H : Type) (enc : TypeId × Value → H) (W : World) (base : Nat) (args : Array Value) (ds gs : List (DataW H)) (before : List MemPlace)
    (hval0 : ∀ (j : Nat) t v, Try.f3.params[j]? = some t → args[j]? = some v → Value.okWide Try.prog W .any base t v)
    (hW : DataW.Whole enc Try.prog Try.f3.params.toList Rows.ledgerMakesSpec.vars false W args.toList ds gs before)
    (hsz0 : (DataW.weightsEach Try.prog (Try.f3.params.toList ++ Rows.ledgerMakesSpec.plain.varTypes Try.prog) (ds ++ gs)).all (· ≤ reachBytes) = true) :
    Calls Try.prog 3 args W fun e W' => ∃ v, e = .returned v ∧ Rows.ledgerMakesSpec.post enc Try.prog Try.f3 false true false false W args v W' := by
  have hval : ∀ (j : Nat) t v, Try.f3.params[j]? = some t → args[j]? = some v → Value.okWide Try.prog W .any base t v := hval0
  have hW' := hW
  obtain ⟨p, q, hA0, hV, rfl, hfz, hnd⟩ := hW
  have hA : DataW.TrodAll enc Try.prog W 0 (fun _ => true) true Try.f3.params.toList args.toList ds p := hA0
  rw [Try.params3] at hA hval
  have hsz := hsz0
  rw [Try.params3] at hsz
  obtain ⟨v0, vs0, d0, ds0, p0, q0, hargs, rfl, rfl, h0, r0⟩ := trodAll_cons hA
  obtain ⟨rfl, rfl, rfl⟩ := trodAll_nil r0
  obtain rfl : args = #[v0] := by cases args; simp_all
  obtain ⟨rfl, rfl⟩ := trodVars_none hV
  clear hA0 hval0
  have k0 := h0
  have lt0 : ∀ x ∈ p0, x.block < W.heap.size := by obtain ⟨m, hm⟩ := k0; exact DataW.trod_lt m _ _ _ hm
  obtain ⟨a0, rfl, -, -, w0⟩ := open_int Try.underlying3 (hval 0 3 v0 rfl rfl) h0
  refine (walk a0 W w0).mono fun e W' ⟨he, bel⟩ => ?_
  subst he
  exact ⟨_, rfl, _, _, _, [], _, [], hW', trodAll_mk1 (shut_bool Try.underlying4 _), (trodAll_cons_mk (Below.trod laidOut (by kernel_rfl) (of_decide_eq_true (by kernel_rfl)) k0 bel lt0) trodAll_mk0), rfl, bel.frame _, fun h => by cases h⟩

set_option maxRecDepth 100000 in
theorem lifted (os : Os) (started : os.Started) (H : Type) (enc : TypeId × Value → H) :
    ReturnsInHanded {} Try.checked os 3 .any (Rows.ledgerMakesSpec.pre6 enc Try.prog Try.f3 Rows.ledgerMakesRow.domain false) (Rows.ledgerMakesSpec.post enc Try.prog Try.f3 false true false false) := by
  refine returnsInHanded_of_change_sized (C := Try.checked) own started (by kernel_rfl) Try.func3
    (ChangeSpec.witness6 (enc := enc) (C := Try.checked) false ⟨#[], #[.int .i64 0], []⟩ 8 (by kernel_rfl) (by kernel_rfl) (by kernel_rfl) (by kernel_rfl)) ?_
  intro W base args ds gs before hval0 hW hcnd hsz _
  exact contract H enc W base args ds gs before hval0 hW hsz

theorem proved : Rows.LedgerMakesSaid :=
  OpenClaim.holds_of_wide 3 Try.f3 rfl rfl rfl rfl rfl rfl rfl ⟨rfl, rfl, rfl, rfl, rfl⟩ rfl rfl rfl rfl rfl (by kernel_rfl) Try.func3 (by kernel_rfl)
    (of_decide_eq_true (by kernel_rfl)) (by unfold Func.isWrapper; first | (rw [if_pos (by decide +kernel)]; kernel_rfl) | (rw [if_neg (by decide +kernel)]; exact ⟨rfl, rfl⟩))
    (fun os started H enc _ => lifted os started H enc)
end Go.Proofs.Ytjggbiijglmleaa.ledgerMakes
