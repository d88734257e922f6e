/- bytes.Equal and bytes.Clone. No condition. -/
import Derived.Test.YtkncjmppilhdlaaDoorS8
import Derived.Lib.Bytes
namespace Go.Proofs.YtkncjmppilhdlaaDoor
open Go.ChangeShapes Go.WideShapes Go.ChangeAt Go.RowKit
set_option linter.unusedVariables false
namespace Fr
theorem bytes_inj : ∀ (xs ys : List Int), (∀ x ∈ xs, (Lit.int .u8 x).wf = true) → (∀ y ∈ ys, (Lit.int .u8 y).wf = true) → Lib.bytesOf xs = Lib.bytesOf ys → xs = ys
  | [], [], _, _, _ => rfl
  | [], y :: ys, _, _, h => by simp [Lib.bytesOf] at h
  | x :: xs, [], _, _, h => by simp [Lib.bytesOf] at h
  | x :: xs, y :: ys, hx, hy, h => by
    simp only [Lib.bytesOf, List.map_cons, List.cons.injEq] at h
    have b1 := bounds_u8 (hx x (by simp))
    have b2 := bounds_u8 (hy y (by simp))
    have e : x.toNat = y.toNat := by
      have h2 := congrArg UInt8.toNat h.1
      simp only [UInt8.toNat_ofNat'] at h2
      omega
    have e2 : x = y := by omega
    rw [e2, bytes_inj xs ys (fun z hz => hx z (by simp [hz])) (fun z hz => hy z (by simp [hz])) h.2]
theorem str_eq {xs ys : List Int} (hx : ∀ x ∈ xs, (Lit.int .u8 x).wf = true) (hy : ∀ y ∈ ys, (Lit.int .u8 y).wf = true) : ((strOfNums xs).toList == (strOfNums ys).toList) = decide (xs = ys) := by
  rw [Lib.strOfNums_toList, Lib.strOfNums_toList]
  by_cases h : xs = ys
  · subst h; simp
  · rw [decide_eq_false h]
    exact beq_eq_false_iff_ne.2 fun e => h (bytes_inj xs ys hx hy e)
theorem equal_any (v u : Value) (xs ys : List Int) (w : World) (hs : Sl .u8 w v xs) (hu : Sl .u8 w u ys) :
    Calls Tryd.prog 19 #[v, u] w fun e w' => e = .returned (.bool (decide (xs = ys))) ∧ w = w' := by
  have h1 := run_str hs
  have h2 := run_str hu
  have HE := Lib.hid (str_eq hs.wf hu.wf)
  clear hs hu
  go_enter Tryd.func19, Tryd.ntmps19
  go_wp2
  go_ret
  exact ⟨ret_bool HE.out, rfl⟩
def Cloned8 (zs : List Int) (w : World) (e : Ending) (w' : World) : Prop := ∃ u, e = .returned u ∧ Own w' w.heap.size u zs ∧ Sl .u8 w' u zs ∧ Below w.heap.size w w'
set_option maxHeartbeats 400000 in
theorem clone8_any (zs : List Int) (v : Value) (w : World) (h : Sl .u8 w v zs) (hb8 : zs.length ≤ 140737488351232) :
    Calls Tryd.prog 20 #[v] w (Cloned8 zs w) := by
  have HWF := Lib.hid h.wf
  have HS := Lib.hid (fun A => h.below ((Below.refl w.heap.size w).alloc (Nat.le_refl _) (.cells A 5)) (Nat.le_refl _))
  obtain ⟨a, cap, rfl, h1, h2, hwf, h4⟩ := h
  rcases h4 with ⟨rfl, rfl, hnil⟩ | ⟨b, off, sp, rfl, h5⟩
  · subst hnil
    clear HS
    have hq : ∀ w' : World, (binOp BinOp.eql 22 (.slice none 0 0) (.slice none 0 0)).run Tryd.prog w' = .ok (.bool true) w' := fun _ => by first | kernel_rfl | rfl
    go_enter Tryd.func20, Tryd.ntmps20
    go_wp2
    go_ret
    exact ⟨_, rfl, Own.nil _ _, (Own.nil w 0).sl (by simp), Below.refl _ _⟩
  · clear h5
    have hq : ∀ w' : World, (binOp BinOp.eql 22 (.slice (some ⟨b, off, sp⟩) zs.length cap) (.slice none 0 0)).run Tryd.prog w' = .ok (.bool false) w' := fun _ => by first | kernel_rfl | rfl
    go_enter Tryd.func20, Tryd.ntmps20
    go_wp2_with (at_builtin; (refine app8 rfl _ _ rfl w.heap.size _ [] rfl (OwnK.newAt (k := .u8) (e := 5) w w.heap.size rfl #[] [] rfl rfl (by decide) (Nat.le_refl _)) _ zs rfl (HS.out _) (by simp; omega) (by simp) ?_; intro v1 w1 hown1 hb1; rw [List.nil_append] at hown1))
    go_ret
    exact ⟨_, rfl, hown1, hown1.sl HWF.out, ((Below.refl _ _).alloc (Nat.le_refl _) _).trans hb1⟩
end Fr
end Go.Proofs.YtkncjmppilhdlaaDoor
