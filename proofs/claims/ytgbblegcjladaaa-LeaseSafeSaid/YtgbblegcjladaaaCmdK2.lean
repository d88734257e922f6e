/- The document's own Check of a command, way by way. No condition. -/
import Derived.Test.YtgbblegcjladaaaCmB
import Derived.Deep.QuietTactic
import Derived.BigQuiet
namespace Go.Proofs.Ytgbblegcjladaaa
open Go.ChangeShapes Go.WideShapes Go.ChangeAt Go.RowKit
set_option linter.unusedVariables false
set_option maxRecDepth 100000
namespace Cm

set_option maxHeartbeats 4000000 in
theorem rk_2 (c : Cmd) (a : Option Addr) (cap : Nat) (w : World) (hlen : c.nodes.length ≤ 9223372036854775807) (hb1 : c.node ≤ 9223372036854775807) (hb2 : c.token ≤ 9223372036854775807) (hsl1 : Sl .i64 (w.alloc (.cells #[.int .i64 c.kind, .int .i64 c.node, .int .i64 c.token, .slice a c.nodes.length cap, .int .u64 c.boot, .int .u64 c.seq, .int .u64 c.serial, .int .u64 c.stamp] 58)) (.slice a c.nodes.length cap) c.nodes) (k0 : kindB c.kind = true) (n0 : decide (c.node < 0) = false) (m0 : decide (c.token < 0) = false) (r1 : rightB (hasB (fieldS c.kind) 110) (IntKind.u64.wrap c.node) 7 = true) (r2 : rightB (hasB (fieldS c.kind) 116) (IntKind.u64.wrap c.token) 65535 = false) :
    Calls Try.prog 59 #[.agg #[.int .i64 c.kind, .int .i64 c.node, .int .i64 c.token, .slice a c.nodes.length cap, .int .u64 c.boot, .int .u64 c.seq, .int .u64 c.serial, .int .u64 c.stamp]] w fun e w' => e = .returned (.int .i64 40) ∧ Below w.heap.size w w' := by
  have HS := Lib.hid hsl1
  clear hsl1
  go_enter Try.func59, Try.ntmps59
  go_wp2_with (go_at_call 71; refine (rfields_any _ _).mono ?_; rintro e w1 ⟨rfl, rfl⟩)
  simp only [List.append_eq, List.cons_append, List.nil_append]
  go_quiet (first | (go_at_call 73; exact quiet_mine (rhas_any _ _ (fieldS_small _) _)) | (go_at_call 72; exact quiet_mine (rright_any _ _ _ _)))
  go_wp2_with (first | (go_at_call 73; refine (rhas_any _ _ (fieldS_small _) _).mono ?_; rintro e w1 ⟨rfl, rfl⟩) | (go_at_call 74; refine (Nd.rcheck_any _ _ _ (HS.out.below (Nd.below_drewN _ _) (Nat.le_refl _))).mono ?_; rintro e w1 ⟨rfl, rfl⟩))
  go_ret
  exact ⟨rfl, ((Below.refl _ _).alloc (Nat.le_refl _) _).trans (Nd.below_drewN _ _)⟩

set_option maxHeartbeats 4000000 in
theorem rk_3 (c : Cmd) (a : Option Addr) (cap : Nat) (w : World) (hlen : c.nodes.length ≤ 9223372036854775807) (hb1 : c.node ≤ 9223372036854775807) (hb2 : c.token ≤ 9223372036854775807) (hsl1 : Sl .i64 (w.alloc (.cells #[.int .i64 c.kind, .int .i64 c.node, .int .i64 c.token, .slice a c.nodes.length cap, .int .u64 c.boot, .int .u64 c.seq, .int .u64 c.serial, .int .u64 c.stamp] 58)) (.slice a c.nodes.length cap) c.nodes) (k0 : kindB c.kind = true) (n0 : decide (c.node < 0) = false) (m0 : decide (c.token < 0) = false) (r1 : rightB (hasB (fieldS c.kind) 110) (IntKind.u64.wrap c.node) 7 = true) (r2 : rightB (hasB (fieldS c.kind) 116) (IntKind.u64.wrap c.token) 65535 = true) (r3 : rightB (hasB (fieldS c.kind) 98) c.boot 18446744073709551615 = false) :
    Calls Try.prog 59 #[.agg #[.int .i64 c.kind, .int .i64 c.node, .int .i64 c.token, .slice a c.nodes.length cap, .int .u64 c.boot, .int .u64 c.seq, .int .u64 c.serial, .int .u64 c.stamp]] w fun e w' => e = .returned (.int .i64 40) ∧ Below w.heap.size w w' := by
  have HS := Lib.hid hsl1
  clear hsl1
  go_enter Try.func59, Try.ntmps59
  go_wp2_with (go_at_call 71; refine (rfields_any _ _).mono ?_; rintro e w1 ⟨rfl, rfl⟩)
  simp only [List.append_eq, List.cons_append, List.nil_append]
  go_quiet (first | (go_at_call 73; exact quiet_mine (rhas_any _ _ (fieldS_small _) _)) | (go_at_call 72; exact quiet_mine (rright_any _ _ _ _)))
  go_wp2_with (first | (go_at_call 73; refine (rhas_any _ _ (fieldS_small _) _).mono ?_; rintro e w1 ⟨rfl, rfl⟩) | (go_at_call 74; refine (Nd.rcheck_any _ _ _ (HS.out.below (Nd.below_drewN _ _) (Nat.le_refl _))).mono ?_; rintro e w1 ⟨rfl, rfl⟩))
  go_ret
  exact ⟨rfl, ((Below.refl _ _).alloc (Nat.le_refl _) _).trans (Nd.below_drewN _ _)⟩

set_option maxHeartbeats 4000000 in
theorem rk_4 (c : Cmd) (a : Option Addr) (cap : Nat) (w : World) (hlen : c.nodes.length ≤ 9223372036854775807) (hb1 : c.node ≤ 9223372036854775807) (hb2 : c.token ≤ 9223372036854775807) (hsl1 : Sl .i64 (w.alloc (.cells #[.int .i64 c.kind, .int .i64 c.node, .int .i64 c.token, .slice a c.nodes.length cap, .int .u64 c.boot, .int .u64 c.seq, .int .u64 c.serial, .int .u64 c.stamp] 58)) (.slice a c.nodes.length cap) c.nodes) (k0 : kindB c.kind = true) (n0 : decide (c.node < 0) = false) (m0 : decide (c.token < 0) = false) (r1 : rightB (hasB (fieldS c.kind) 110) (IntKind.u64.wrap c.node) 7 = true) (r2 : rightB (hasB (fieldS c.kind) 116) (IntKind.u64.wrap c.token) 65535 = true) (r3 : rightB (hasB (fieldS c.kind) 98) c.boot 18446744073709551615 = true) (r4 : rightB (hasB (fieldS c.kind) 113) c.seq 18446744073709551615 = false) :
    Calls Try.prog 59 #[.agg #[.int .i64 c.kind, .int .i64 c.node, .int .i64 c.token, .slice a c.nodes.length cap, .int .u64 c.boot, .int .u64 c.seq, .int .u64 c.serial, .int .u64 c.stamp]] w fun e w' => e = .returned (.int .i64 40) ∧ Below w.heap.size w w' := by
  have HS := Lib.hid hsl1
  clear hsl1
  go_enter Try.func59, Try.ntmps59
  go_wp2_with (go_at_call 71; refine (rfields_any _ _).mono ?_; rintro e w1 ⟨rfl, rfl⟩)
  simp only [List.append_eq, List.cons_append, List.nil_append]
  go_quiet (first | (go_at_call 73; exact quiet_mine (rhas_any _ _ (fieldS_small _) _)) | (go_at_call 72; exact quiet_mine (rright_any _ _ _ _)))
  go_wp2_with (first | (go_at_call 73; refine (rhas_any _ _ (fieldS_small _) _).mono ?_; rintro e w1 ⟨rfl, rfl⟩) | (go_at_call 74; refine (Nd.rcheck_any _ _ _ (HS.out.below (Nd.below_drewN _ _) (Nat.le_refl _))).mono ?_; rintro e w1 ⟨rfl, rfl⟩))
  go_ret
  exact ⟨rfl, ((Below.refl _ _).alloc (Nat.le_refl _) _).trans (Nd.below_drewN _ _)⟩

end Cm
end Go.Proofs.Ytgbblegcjladaaa
