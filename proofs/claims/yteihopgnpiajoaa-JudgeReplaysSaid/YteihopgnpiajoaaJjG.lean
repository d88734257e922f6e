/- The law's example of Judge. No condition. -/
import Derived.Test.YteihopgnpiajoaaJjF
namespace Go.Proofs.Yteihopgnpiajoaa
open Go.ChangeShapes Go.WideShapes Go.ChangeAt Go.RowKit Go.Deep
set_option linter.unusedVariables false
set_option maxRecDepth 100000
set_option linter.unusedSimpArgs false
/-- a literal's row -/
theorem SlR.lit {α : Type} {sz : Nat} {C : α → List Value} (hC : ∀ x, (C x).length = sz) {e : TypeId} {fr : Nat × Nat} (w : World) (g : Nat) (hg : w.heap.size = g) (cs : Array Value) (xs : List α) (n : Nat) (hn : xs.length = n) (hm : n ≤ maxLen) (h : cs = (xs.flatMap C).toArray) : SlR sz C (w.alloc (.cells cs e fr)) (.slice (some ⟨g, 0, none⟩) n n) xs := by
  subst h; subst hg; subst hn
  refine ⟨_, _, rfl, Nat.le_refl _, hm, .inr ⟨w.heap.size, 0, none, rfl, .inr ⟨rfl, by simp, fun i y hy j u hu => ?_⟩⟩⟩
  simp only [World.cell?, heap_alloc_new, Nat.zero_add]
  have := flat_at hC xs i j y u hy hu
  simpa using this
namespace Jj
variable {w w' : World}
theorem wf_small (s : Sx) (h : (-9 ≤ s.kind ∧ s.kind ≤ 9) ∧ (-9 ≤ s.node ∧ s.node ≤ 9) ∧ (-9 ≤ s.tok ∧ s.tok ≤ 9)) : s.wf := by
  unfold Sx.wf
  simp [Lit.wf, IntKind.min, IntKind.max, IntKind.signed, IntKind.bits]
  omega
theorem ex1 : JudP 2 [⟨1, 1, 1⟩, ⟨1, 2, 1⟩] 1 220 := .inr ⟨1, ⟨1, 2, 1⟩, rfl, fun j s hj hs => by
  match j, hj with
  | 0, _ => simp only [List.getElem?_cons_zero, Option.some.injEq] at hs; subst hs; decide, by decide, by decide, rfl⟩
theorem ex2 : JudP 2 [⟨1, 1, 1⟩, ⟨3, 1, 0⟩, ⟨1, 2, 1⟩] (-1) 0 := .inl ⟨rfl, rfl, fun j s hj hs => by
  match j, hj with
  | 0, _ => simp only [List.getElem?_cons_zero, Option.some.injEq] at hs; subst hs; decide
  | 1, _ => simp only [List.getElem?_cons_succ, List.getElem?_cons_zero, Option.some.injEq] at hs; subst hs; decide
  | 2, _ => simp only [List.getElem?_cons_succ, List.getElem?_cons_zero, Option.some.injEq] at hs; subst hs; decide⟩
theorem judges_any (w : World) : Calls Try.prog 7 #[] w fun e w' => e = .returned (.bool true) ∧ Below w.heap.size w w' := by
  have h2 : Mp.okI 2 := by unfold Mp.okI; decide
  obtain ⟨W1, hW1⟩ : ∃ q, w.alloc (.cells #[.int .i64 1, .int .i64 1, .int .i64 1, .int .i64 1, .int .i64 2, .int .i64 1] TS) = q := ⟨_, rfl⟩
  have HV1 : Hid (SlR 3 sxC W1 (.slice (some ⟨w.heap.size, 0, none⟩) 2 2) [⟨1, 1, 1⟩, ⟨1, 2, 1⟩]) := Lib.hid (by rw [← hW1]; exact SlR.lit sxC_len w _ rfl _ _ 2 rfl (by decide) rfl)
  have HB1 : Hid (Below w.heap.size w W1) := Lib.hid (by rw [← hW1]; exact (Below.refl _ _).alloc (Nat.le_refl _) _)
  go_enter Try.func7, Try.ntmps7
  go_wp2_with fail
  clear hW1
  refine (judge_any _ HV1.out (fun x hx => wf_small x (by simp only [List.mem_cons, List.not_mem_nil, or_false] at hx; rcases hx with rfl | rfl <;> decide)) h2).mono ?_
  rintro e w2 ⟨i, ee, rfl, hj, hb⟩
  obtain ⟨rfl, rfl⟩ := hj.uniq ex1
  have HB2 : Hid (Below w.heap.size w w2) := Lib.hid (HB1.out.trans (hb.mono HB1.out.size))
  clear hj hb
  obtain ⟨W3, hW3⟩ : ∃ q, w2.alloc (.cells #[.int .i64 1, .int .i64 1, .int .i64 1, .int .i64 3, .int .i64 1, .int .i64 0, .int .i64 1, .int .i64 2, .int .i64 1] TS) = q := ⟨_, rfl⟩
  have HV3 : Hid (SlR 3 sxC W3 (.slice (some ⟨w2.heap.size, 0, none⟩) 3 3) [⟨1, 1, 1⟩, ⟨3, 1, 0⟩, ⟨1, 2, 1⟩]) := Lib.hid (by rw [← hW3]; exact SlR.lit sxC_len w2 _ rfl _ _ 3 rfl (by decide) rfl)
  have HB3 : Hid (Below w.heap.size w W3) := Lib.hid (by rw [← hW3]; exact HB2.out.alloc HB2.out.size _)
  go_wp2_with fail
  clear hW3
  refine (judge_any _ HV3.out (fun x hx => wf_small x (by simp only [List.mem_cons, List.not_mem_nil, or_false] at hx; rcases hx with rfl | rfl | rfl <;> decide)) h2).mono ?_
  rintro e w4 ⟨i, ee, rfl, hj, hb⟩
  obtain ⟨rfl, rfl⟩ := hj.uniq ex2
  have HB4 : Hid (Below w.heap.size w w4) := Lib.hid (HB3.out.trans (hb.mono HB3.out.size))
  clear hj hb
  go_wp2_with fail
  go_ret
  exact ⟨rfl, HB4.out⟩
end Jj
end Go.Proofs.Yteihopgnpiajoaa
