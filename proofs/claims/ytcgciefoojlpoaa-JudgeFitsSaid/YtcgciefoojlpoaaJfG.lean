/- The chapter's examples of Fits. No condition. -/
import Derived.Test.YtcgciefoojlpoaaJfF
import Derived.Test.YtcgciefoojlpoaaLit
namespace Go.Proofs.Ytcgciefoojlpoaa
open Go.ChangeShapes Go.WideShapes Go.ChangeAt Go.RowKit
set_option linter.unusedVariables false
set_option maxRecDepth 100000
namespace Jf
abbrev exF : List Frm := [⟨66, ⟨#[]⟩⟩, ⟨81, ⟨#[120]⟩⟩]
abbrev exS : List ByteArray := [⟨#[121]⟩]
abbrev exR (c : UInt8) : List Rep := [⟨1, 0, ⟨#[]⟩⟩, ⟨2, 0, ⟨#[c]⟩⟩]
theorem ex_frms (w : World) (g : Nat) (hg : w.heap.size = g) : IsFrms (w.alloc (.cells #[.int .u8 66, .string ⟨#[]⟩, .int .u8 81, .string ⟨#[120]⟩] 42)) (.slice (some ⟨g, 0, none⟩) 2 2) exF :=
  ⟨SlR.lit frmC_len w g hg _ exF 2 rfl rfl (by decide), by
    intro x hx
    simp only [exF, List.mem_cons, List.not_mem_nil, or_false] at hx
    rcases hx with rfl | rfl <;> exact ⟨by decide, by decide⟩⟩
theorem ex_strs (w : World) (g : Nat) (hg : w.heap.size = g) : IsStrs (w.alloc (.cells #[.string ⟨#[121]⟩] 9)) (.slice (some ⟨g, 0, none⟩) 1 1) exS :=
  ⟨SlR.lit strC_len w g hg _ exS 1 rfl rfl (by decide), by
    intro x hx
    simp only [exS, List.mem_cons, List.not_mem_nil, or_false] at hx
    rcases hx with rfl; decide⟩
theorem ex_reps (c : UInt8) (w : World) (g : Nat) (hg : w.heap.size = g) : IsReps (w.alloc (.cells #[.int .i64 1, .int .i64 0, .string ⟨#[]⟩, .int .i64 2, .int .i64 0, .string ⟨#[c]⟩] 52)) (.slice (some ⟨g, 0, none⟩) 2 2) (exR c) :=
  ⟨SlR.lit repC_len w g hg _ (exR c) 2 rfl rfl (by decide), by
    intro x hx
    simp only [exR, List.mem_cons, List.not_mem_nil, or_false] at hx
    rcases hx with rfl | rfl
    · exact ⟨by decide, by decide, by decide⟩
    · exact ⟨by show (Lit.int .i64 2).wf = true; decide, by show (Lit.int .i64 0).wf = true; decide, by show 1 ≤ maxLen; decide⟩⟩
theorem ex_step0 (c : UInt8) : stepE false ⟨66, ⟨#[]⟩⟩ ⟨1, 0, ⟨#[]⟩⟩ exS = 0 :=
  stepE_ok (.inl ⟨.inl rfl, rfl⟩) ⟨.inl ⟨rfl, .inl rfl⟩, ⟨fun _ => rfl, .inr ⟨by show (1 : Int) ≠ 5; decide, rfl⟩⟩⟩ (fun q => by have := q.1; revert this; show (1 : Int) = 2 → False; decide)
theorem ex_ok1 (c : UInt8) : okW true 81 2 ∧ repFits ⟨2, 0, ⟨#[c]⟩⟩ := ⟨.inr (.inl ⟨rfl, .inl rfl⟩), ⟨fun q => absurd rfl q, .inr ⟨by show (2 : Int) ≠ 5; decide, rfl⟩⟩⟩
theorem ex_f1 : frmOk ⟨81, ⟨#[120]⟩⟩ := .inr ⟨rfl, by decide⟩
theorem ex_y : fitK exF (exR 121) 0 false exS = (-1, 0) := by
  unfold fitK
  show fitV (⟨66, ⟨#[]⟩⟩ :: _) (⟨1, 0, ⟨#[]⟩⟩ :: _) _ _ _ = _
  rw [fit_go (ex_step0 121)]
  show fitV (⟨81, ⟨#[120]⟩⟩ :: _) (⟨2, 0, ⟨#[121]⟩⟩ :: _) _ true exS = _
  rw [fit_go (stepE_ok ex_f1 (ex_ok1 121) (fun q => q.2 rfl))]
  exact fit_end
theorem ex_z : fitK exF (exR 122) 0 false exS = (1, 220) := by
  unfold fitK
  show fitV (⟨66, ⟨#[]⟩⟩ :: _) (⟨1, 0, ⟨#[]⟩⟩ :: _) _ _ _ = _
  rw [fit_go (ex_step0 122)]
  show fitV (⟨81, ⟨#[120]⟩⟩ :: _) (⟨2, 0, ⟨#[122]⟩⟩ :: _) _ true exS = _
  have h : stepE true ⟨81, ⟨#[120]⟩⟩ ⟨2, 0, ⟨#[122]⟩⟩ exS = 220 := stepE_trace ex_f1 (ex_ok1 122) ⟨rfl, by
    intro q
    have q2 := congrArg (fun o : Option ByteArray => o.map ByteArray.data) q
    simp [exS] at q2⟩
  rw [fit_bad (by rw [h]; decide), h]
  rfl
set_option maxHeartbeats 4000000 in
theorem lfits_any (w : World) : Calls Try.prog 8 #[] w fun e w' => e = .returned (.bool true) ∧ Below w.heap.size w w' := by
  have HF := Lib.hid (fun w => ex_frms w w.heap.size rfl)
  have HS := Lib.hid (fun w => ex_strs w w.heap.size rfl)
  have HR := Lib.hid (fun c w => ex_reps c w w.heap.size rfl)
  have EY := Lib.hid ex_y
  have EZ := Lib.hid ex_z
  have HA : Hid (∀ (w : World) (o : Obj), Below w.heap.size w (w.alloc o)) := Lib.hid (fun w o => (Below.refl _ _).alloc (Nat.le_refl _) _)
  go_enter Try.func8, Try.ntmps8
  go_wp2_with fail
  refine (fits_any exF exS (exR 121) _ _ _ _ (((ex_frms w _ rfl).below (HA.out _ _) (Nat.le_refl _)).below (HA.out _ _) (Nat.le_refl _)) ((ex_strs _ (w.heap.size + 1) (by simp)).below (HA.out _ _) (Nat.le_refl _)) (ex_reps 121 _ (w.heap.size + 2) (by simp))).mono ?_
  rintro e w4 ⟨i, n, rfl, hp, hb4⟩
  rw [EY.out] at hp
  obtain ⟨rfl, rfl⟩ := Prod.mk.inj hp
  have HB4 := Lib.hid ((((HA.out w _).trans ((HA.out _ _).mono (HA.out w _).size)).trans ((HA.out _ _).mono ((HA.out w _).trans ((HA.out _ _).mono (HA.out w _).size)).size)).trans (hb4.mono (by simp; omega)))
  have HF4 := Lib.hid ((((ex_frms w _ rfl).below (HA.out _ _) (Nat.le_refl _)).below (HA.out _ _) (Nat.le_refl _)).below hb4 (Nat.le_refl _))
  clear hb4 hp
  go_wp2_with fail
  refine (fits_any exF exS (exR 122) _ _ _ _ (((HF4.out).below (HA.out _ _) (Nat.le_refl _)).below (HA.out _ _) (Nat.le_refl _)) ((ex_strs _ w4.heap.size rfl).below (HA.out _ _) (Nat.le_refl _)) (ex_reps 122 _ (w4.heap.size + 1) (by simp))).mono ?_
  rintro e w6 ⟨i, n, rfl, hp, hb6⟩
  rw [EZ.out] at hp
  obtain ⟨rfl, rfl⟩ := Prod.mk.inj hp
  have HB6 := Lib.hid (HB4.out.trans (((HA.out _ _).trans ((HA.out _ _).mono (HA.out _ _).size)).trans (hb6.mono (by simp; omega)) |>.mono HB4.out.size))
  clear hb6 hp
  go_wp2
  go_ret
  exact ⟨rfl, HB6.out⟩
end Jf
end Go.Proofs.Ytcgciefoojlpoaa
