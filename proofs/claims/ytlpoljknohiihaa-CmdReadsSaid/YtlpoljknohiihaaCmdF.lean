/- cmd.reader.read: one field read. No condition. -/
import Derived.Test.YtlpoljknohiihaaCmdV
namespace Go.Proofs.Ytlpoljknohiihaa
open Go.ChangeShapes Go.WideShapes Go.ChangeAt Go.RowKit
set_option linter.unusedVariables false
namespace Cm
def mostF (f : Nat) : Int := if f = 0 ∨ f = 3 then 65535 else 18446744073709551615
def le16 (f : Nat) (n : Int) : Prop := f = 0 ∨ f = 3 → n ≤ 65535
/-- a number's field read: the error, how many bytes are read -/
def ReadF (g h : Nat) (v : Value) (c : Cmd) (f : Nat) (zs : List Int) (u : Nat) (w : World) (e : Ending) (w' : World) : Prop :=
  e = .returned (.int .i64 (nx zs u (mostF f)).2.1) ∧ w'.heap[g]? = some (.cells #[v, .int .i64 (nx zs u (mostF f)).2.2] 55 (0, 0)) ∧ w'.heap[h]? = some (.cells (cArr (putC c f (nx zs u (mostF f)).1) (.slice none 0 0)) 25 (0, 0)) ∧ Only (fun k => k = g ∨ k = h) w w'

set_option maxHeartbeats 1000000 in
theorem readf_any (g h : Nat) (v : Value) (c : Cmd) (f : Nat) (hf : f ≤ 5) (zs : List Int) (u : Nat) (w : World) (hg : w.heap[g]? = some (.cells #[v, .int .i64 u] 55 (0, 0))) (hh : w.heap[h]? = some (.cells (cArr c (.slice none 0 0)) 25 (0, 0)))
    (hgh : g ≠ h) (hs : Sl .u8 w v zs) (hu : u ≤ zs.length) :
    Calls Try.prog 32 #[.pointer (some ⟨g, 0, none⟩), .pointer (some ⟨h, 0, none⟩), .int .i64 f] w (ReadF g h v c f zs u w) := by
  have hb := nx_bd (m := mostF f) hu (by unfold mostF; split <;> omega)
  have hgl : g < w.heap.size := (Array.getElem?_eq_some_iff.1 hg).1
  have hhl : h < w.heap.size := (Array.getElem?_eq_some_iff.1 hh).1
  obtain ⟨b1, b2, b3⟩ := hb
  have hm18 : (nx zs u (mostF f)).1 ≤ 18446744073709551615 := by unfold mostF at b3 ⊢; split at b3 <;> rename_i h1 <;> first | (rw [if_pos h1]; omega) | (rw [if_neg h1]; omega)
  have hm16 : le16 f (nx zs u (mostF f)).1 := by intro h1; unfold mostF at b3 ⊢; rw [if_pos h1] at b3 ⊢; exact b3
  rcases (show f = 0 ∨ f = 1 ∨ f = 2 ∨ f = 3 ∨ f = 4 ∨ f = 5 by omega) with rfl | rfl | rfl | rfl | rfl | rfl
  all_goals
    go_enter Try.func32, Try.ntmps32
    go_wp2_with (first
      | (go_at_call 31; refine (next_any g v zs u _ _ hg hs hu).mono ?_; rintro e w2 ⟨rfl, hg2, ho2, hz2⟩; have hh2 := (ho2.2.2.2.2 h hhl (by omega)).trans hh)
      | (go_at_call 39; refine (put_any h c _ _ (by omega) _ _ hh2 b2 hm18 hm16).mono ?_; rintro e w3 ⟨rfl, hh3, ho3, hz3⟩))
    go_ret
    exact ⟨rfl, (ho3.2.2.2.2 g (by have := ho2.2.2.2.1; omega) hgh).trans hg2, hh3, (ho2.mono fun k hk => .inl hk).trans (ho3.mono fun k hk => .inr hk)⟩
end Cm
end Go.Proofs.Ytlpoljknohiihaa
