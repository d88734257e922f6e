/- A list without a node: what nodes.Others and the document's own answer hand back. No condition. -/
import Derived.Test.YtlbadhkdkbghbaaNodB
import Derived.Test.YtlbadhkdkbghbaaNodI
namespace Go.Proofs.Ytlbadhkdkbghbaa
open Go.ChangeShapes Go.WideShapes Go.ChangeAt Go.RowKit
set_option linter.unusedVariables false
namespace Nd

def oth (n : Int) (l : List Int) : List Int := l.filter fun m => m != n
theorem oth_le (n : Int) (l : List Int) : (oth n l).length ≤ l.length := List.length_filter_le _ _
theorem oth_snoc (n : Int) (l : List Int) (z : Int) : oth n (l ++ [z]) = if z = n then oth n l else oth n l ++ [z] := by
  unfold oth
  by_cases h : z = n <;> simp [List.filter_append, h]
theorem oth_wf {n : Int} {l : List Int} (h : ∀ x ∈ l, (Lit.int .i64 x).wf = true) : ∀ x ∈ oth n l, (Lit.int .i64 x).wf = true := fun x hx => h x (List.mem_filter.1 hx).1
def MadeI (zs : List Int) (w : World) (e : Ending) (w' : World) : Prop := ∃ v, e = .returned v ∧ OwnI w' w.heap.size v zs ∧ Sl .i64 w' v zs ∧ Below w.heap.size w w'

set_option maxHeartbeats 400000 in
theorem others_any (v : Value) (zs : List Int) (n : Int) (w : World) (hs : Sl .i64 w v zs) (hb8 : zs.length * 8 ≤ 140737488351232) :
    Calls Try.prog 18 #[v, .int .i64 n] w (MadeI (oth n zs) w) := by
  rcases Sl.cases hs with ⟨a, cap, rfl, rfl⟩ | ⟨b, off, cap, rfl, h0, hlc, hcm, hlt, hc⟩
  · clear hs
    go_enter Try.func18, Try.ntmps18
    go_wp2
    refine wp_loop_rounds 1 ?_
    rw [rounds_succ]
    go_wp2
    go_ret
    exact ⟨_, rfl, OwnK.nil _ _ _ _, (OwnK.nil .i64 3 w w.heap.size).sl (by simp), Below.refl _ _⟩
  · have HC := Lib.hid hc
    have HW := Lib.hid hs.wf
    clear hs hc
    go_enter Try.func18, Try.ntmps18
    go_wp2
    go_loopw [5, 10] (fun u i wr => ∃ k : Nat, k ≤ zs.length ∧ i = .int .i64 k ∧ OwnI wr w.heap.size u (oth n (zs.take k)) ∧ Below w.heap.size w wr) (fun _ i _ => zs.length - (intOf i).toNat)
    case atStart => exact ⟨0, Nat.zero_le _, rfl, OwnK.nil _ _ _ _, Below.refl _ _⟩
    case round =>
      obtain ⟨k, hk, rfl, hown, hb⟩ := hrel
      by_cases hlt2 : k < zs.length
      · have hcx := (hb.cell (p := ⟨b, off + k, none⟩) hlt).trans (HC.out k hlt2)
        have HT := Lib.hid (take_get hlt2)
        have HZ := Lib.hid (HW.out _ (mem_get hlt2))
        have hle := oth_le n (zs.take k)
        rw [List.length_take, Nat.min_eq_left hk] at hle
        generalize zs.getD k 0 = z at *
        by_cases hz : z = n
        · subst hz
          have HO : Hid (oth z (zs.take (k + 1)) = oth z (zs.take k)) := Lib.hid (by rw [HT.out, oth_snoc, if_pos rfl])
          go_wp2
          go_roundw
          case rel => exact ⟨k + 1, by omega, by go_num, by rw [HO.out]; exact hown, hb⟩
          case measure => simp [intOf]; omega
        · have HO : Hid (oth n (zs.take (k + 1)) = oth n (zs.take k) ++ [z]) := Lib.hid (by rw [HT.out, oth_snoc, if_neg hz])
          have hz2 : (z != n) = true := by rw [bne_iff_ne]; exact hz
          clear hz
          go_wp2_with (at_builtin; refine appI rfl _ _ rfl w.heap.size _ _ rfl (hown.alloc _) _ [z] rfl (Sl.new (fr := (0, 0)) wr #[Value.int .i64 z] [z] rfl rfl (Nat.le_refl _) (by decide) (by intro y hy; simp at hy; subst hy; exact HZ.out)) (by simp; omega) (by have := hb.size; simp; omega) ?_; intro u1 w1 hown1 hb1)
          go_roundw
          case rel => exact ⟨k + 1, by omega, by go_num, by rw [HO.out]; exact hown1, (hb.alloc hb.size _).trans hb1⟩
          case measure => simp [intOf]; omega
      · obtain rfl : k = zs.length := by omega
        rw [List.take_length] at hown
        go_wp2
        go_ret
        exact ⟨_, rfl, hown, hown.sl (oth_wf HW.out), hb⟩

set_option maxHeartbeats 400000 in
theorem rothers_any (v : Value) (zs : List Int) (n : Int) (w : World) (hs : Sl .i64 w v zs) (hb8 : zs.length * 8 ≤ 140737488351232) :
    Calls Try.prog 19 #[v, .int .i64 n] w (MadeI (oth n zs) w) := by
  rcases Sl.cases hs with ⟨a, cap, rfl, rfl⟩ | ⟨b, off, cap, rfl, h0, hlc, hcm, hlt, hc⟩
  · clear hs
    go_enter Try.func19, Try.ntmps19
    go_wp2
    refine wp_loop_rounds 1 ?_
    rw [rounds_succ]
    go_wp2
    go_ret
    exact ⟨_, rfl, OwnK.nil _ _ _ _, (OwnK.nil .i64 3 w w.heap.size).sl (by simp), Below.refl _ _⟩
  · have HC := Lib.hid hc
    have HW := Lib.hid hs.wf
    clear hs hc
    go_enter Try.func19, Try.ntmps19
    go_wp2
    go_loopw [5, 10] (fun u i wr => ∃ k : Nat, k ≤ zs.length ∧ i = .int .i64 k ∧ OwnI wr w.heap.size u (oth n (zs.take k)) ∧ Below w.heap.size w wr) (fun _ i _ => zs.length - (intOf i).toNat)
    case atStart => exact ⟨0, Nat.zero_le _, rfl, OwnK.nil _ _ _ _, Below.refl _ _⟩
    case round =>
      obtain ⟨k, hk, rfl, hown, hb⟩ := hrel
      by_cases hlt2 : k < zs.length
      · have hcx := (hb.cell (p := ⟨b, off + k, none⟩) hlt).trans (HC.out k hlt2)
        have HT := Lib.hid (take_get hlt2)
        have HZ := Lib.hid (HW.out _ (mem_get hlt2))
        have hle := oth_le n (zs.take k)
        rw [List.length_take, Nat.min_eq_left hk] at hle
        generalize zs.getD k 0 = z at *
        by_cases hz : z = n
        · subst hz
          have HO : Hid (oth z (zs.take (k + 1)) = oth z (zs.take k)) := Lib.hid (by rw [HT.out, oth_snoc, if_pos rfl])
          go_wp2
          go_roundw
          case rel => exact ⟨k + 1, by omega, by go_num, by rw [HO.out]; exact hown, hb⟩
          case measure => simp [intOf]; omega
        · have HO : Hid (oth n (zs.take (k + 1)) = oth n (zs.take k) ++ [z]) := Lib.hid (by rw [HT.out, oth_snoc, if_neg hz])
          have hz2 : (z != n) = true := by rw [bne_iff_ne]; exact hz
          clear hz
          go_wp2_with (at_builtin; refine appI rfl _ _ rfl w.heap.size _ _ rfl (hown.alloc _) _ [z] rfl (Sl.new (fr := (0, 0)) wr #[Value.int .i64 z] [z] rfl rfl (Nat.le_refl _) (by decide) (by intro y hy; simp at hy; subst hy; exact HZ.out)) (by simp; omega) (by have := hb.size; simp; omega) ?_; intro u1 w1 hown1 hb1)
          go_roundw
          case rel => exact ⟨k + 1, by omega, by go_num, by rw [HO.out]; exact hown1, (hb.alloc hb.size _).trans hb1⟩
          case measure => simp [intOf]; omega
      · obtain rfl : k = zs.length := by omega
        rw [List.take_length] at hown
        go_wp2
        go_ret
        exact ⟨_, rfl, hown, hown.sl (oth_wf HW.out), hb⟩
end Nd
end Go.Proofs.Ytlbadhkdkbghbaa
