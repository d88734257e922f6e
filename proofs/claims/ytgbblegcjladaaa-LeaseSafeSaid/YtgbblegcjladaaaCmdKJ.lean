/- The document's own Check of a command: it tells what package cmd's Check tells. No condition. -/
import Derived.Test.YtgbblegcjladaaaCmdK1
import Derived.Test.YtgbblegcjladaaaCmdK2
import Derived.Test.YtgbblegcjladaaaCmdK3
import Derived.Test.YtgbblegcjladaaaCmdK4
import Derived.Deep.QuietTactic
import Derived.BigQuiet
namespace Go.Proofs.Ytgbblegcjladaaa
open Go.ChangeShapes Go.WideShapes Go.ChangeAt Go.RowKit
set_option linter.unusedVariables false
set_option maxRecDepth 100000
namespace Cm

theorem rcheck_any (c : Cmd) (v : Value) (w : World) (h : IsCmd w v c) :
    Calls Try.prog 59 #[v] w fun e w' => e = .returned (.int .i64 (cErr (rchk c))) ∧ Below w.heap.size w w' := by
  obtain ⟨vn, rfl, hsl, hw0, hw1, hw2, hw3, hw4, hw5, hw6⟩ := h
  obtain ⟨a, cap, rfl, -, hl2, -⟩ := id hsl
  have hsl1 := hsl.below ((Below.refl _ _).alloc (Nat.le_refl _) _ : Below w.heap.size w (w.alloc (.cells #[.int .i64 c.kind, .int .i64 c.node, .int .i64 c.token, .slice a c.nodes.length cap, .int .u64 c.boot, .int .u64 c.seq, .int .u64 c.serial, .int .u64 c.stamp] 58))) (Nat.le_refl _)
  have hlen : c.nodes.length ≤ 9223372036854775807 := by have := hsl.len; unfold maxLen at this; omega
  have hb1 := (bounds_i64 hw1).2
  have hb2 := (bounds_i64 hw2).2
  cases k0 : kindB c.kind
  · have HE : cErr (rchk c) = 40 := by unfold rchk; rw [k0]; rfl
    rw [HE]; exact rk_kind c a cap w hlen hb1 hb2 hsl1 k0
  by_cases n0 : c.node < 0
  · have HE : cErr (rchk c) = 40 := by unfold rchk; rw [k0, decide_eq_true n0]; rfl
    rw [HE]; exact rk_node c a cap w hlen hb1 hb2 hsl1 k0 (decide_eq_true n0)
  have n1 := decide_eq_false n0
  have p0 : 0 ≤ c.node := by omega
  by_cases m0 : c.token < 0
  · have HE : cErr (rchk c) = 40 := by unfold rchk; rw [k0, n1, decide_eq_true m0]; rfl
    rw [HE]; exact rk_token c a cap w hlen hb1 hb2 hsl1 k0 n1 (decide_eq_true m0)
  have m1 := decide_eq_false m0
  have q0 : 0 ≤ c.token := by omega
  have wn : IntKind.u64.wrap c.node = c.node := (u64_wrap hw1).trans (by unfold u64; rw [if_pos p0])
  have wt : IntKind.u64.wrap c.token = c.token := (u64_wrap hw2).trans (by unfold u64; rw [if_pos q0])
  cases r1 : rightB (hasB (fieldS c.kind) 110) c.node 7
  · have HE : cErr (rchk c) = 40 := by unfold rchk; rw [k0, n1, m1, r1]; rfl
    rw [HE]; exact rk_1 c a cap w hlen hb1 hb2 hsl1 k0 n1 m1 (by rw [wn]; exact r1)
  cases r2 : rightB (hasB (fieldS c.kind) 116) c.token 65535
  · have HE : cErr (rchk c) = 40 := by unfold rchk; rw [k0, n1, m1, r1, r2]; rfl
    rw [HE]; exact rk_2 c a cap w hlen hb1 hb2 hsl1 k0 n1 m1 (by rw [wn]; exact r1) (by rw [wt]; exact r2)
  cases r3 : rightB (hasB (fieldS c.kind) 98) c.boot 18446744073709551615
  · have HE : cErr (rchk c) = 40 := by unfold rchk; rw [k0, n1, m1, r1, r2, r3]; rfl
    rw [HE]; exact rk_3 c a cap w hlen hb1 hb2 hsl1 k0 n1 m1 (by rw [wn]; exact r1) (by rw [wt]; exact r2) r3
  cases r4 : rightB (hasB (fieldS c.kind) 113) c.seq 18446744073709551615
  · have HE : cErr (rchk c) = 40 := by unfold rchk; rw [k0, n1, m1, r1, r2, r3, r4]; rfl
    rw [HE]; exact rk_4 c a cap w hlen hb1 hb2 hsl1 k0 n1 m1 (by rw [wn]; exact r1) (by rw [wt]; exact r2) r3 r4
  cases r5 : rightB (hasB (fieldS c.kind) 115) c.serial 18446744073709551615
  · have HE : cErr (rchk c) = 40 := by unfold rchk; rw [k0, n1, m1, r1, r2, r3, r4, r5]; rfl
    rw [HE]; exact rk_5 c a cap w hlen hb1 hb2 hsl1 k0 n1 m1 (by rw [wn]; exact r1) (by rw [wt]; exact r2) r3 r4 r5
  cases r6 : rightB (hasB (fieldS c.kind) 109) c.stamp 18446744073709551615
  · have HE : cErr (rchk c) = 40 := by unfold rchk; rw [k0, n1, m1, r1, r2, r3, r4, r5, r6]; rfl
    rw [HE]; exact rk_6 c a cap w hlen hb1 hb2 hsl1 k0 n1 m1 (by rw [wn]; exact r1) (by rw [wt]; exact r2) r3 r4 r5 r6
  have HL : cErr (rchk c) = cErr (listB c) := by unfold rchk; rw [k0, n1, m1, r1, r2, r3, r4, r5, r6]; rfl
  rw [HL]
  cases l1 : hasB (fieldS c.kind) 108
  · cases l2 : c.nodes.isEmpty
    · have HE : cErr (listB c) = 40 := by unfold listB; rw [l1, l2]; rfl
      have l3 : (0 : Int) < (c.nodes.length : Int) := by
        rcases Nat.eq_zero_or_pos c.nodes.length with h | h
        · rw [List.eq_nil_of_length_eq_zero h] at l2; cases l2
        · omega
      rw [HE]; exact rk_l1 c a cap w hlen hb1 hb2 hsl1 k0 n1 m1 (by rw [wn]; exact r1) (by rw [wt]; exact r2) r3 r4 r5 r6 l1 l3
    · have HE : cErr (listB c) = 0 := by unfold listB; rw [l1, l2]; rfl
      have l3 : c.nodes.length = 0 := by rw [List.isEmpty_iff] at l2; rw [l2]; rfl
      rw [HE]; exact rk_l2 c a cap w hlen hb1 hb2 hsl1 k0 n1 m1 (by rw [wn]; exact r1) (by rw [wt]; exact r2) r3 r4 r5 r6 l1 l3
  · cases l2 : Nd.chk c.nodes
    · have HE : cErr (listB c) = 40 := by unfold listB; rw [l1, l2]; rfl
      have l3 : (Nd.errOf (Nd.chk c.nodes) != 0) = true := by rw [l2]; rfl
      rw [HE]; exact rk_l3 c a cap w hlen hb1 hb2 hsl1 k0 n1 m1 (by rw [wn]; exact r1) (by rw [wt]; exact r2) r3 r4 r5 r6 l1 l3
    · have HE : cErr (listB c) = 0 := by unfold listB; rw [l1, l2]; rfl
      have l3 : (Nd.errOf (Nd.chk c.nodes) != 0) = false := by rw [l2]; rfl
      rw [HE]; exact rk_l4 c a cap w hlen hb1 hb2 hsl1 k0 n1 m1 (by rw [wn]; exact r1) (by rw [wt]; exact r2) r3 r4 r5 r6 l1 l3
end Cm
end Go.Proofs.Ytgbblegcjladaaa
