/- A message's bytes, on lists; the fields of a kind as the call's own. No condition. -/
import Derived.Test.YtlfaiemebfkajaaGreatDoorMsV
import Derived.Test.YtlfaiemebfkajaaGreatDoorRkX
import Derived.Test.YtlfaiemebfkajaaGreatDoorEdY
import Derived.Test.YtlfaiemebfkajaaGreatDoorCeD
namespace Go.Proofs.YtlfaiemebfkajaaGreatDoor
open Go.ChangeShapes Go.WideShapes Go.ChangeAt Go.RowKit Go.Deep
set_option linter.unusedVariables false
set_option maxRecDepth 100000
namespace Ms
open Nv Cm Sc
def fldB (m : Mes) (f : Nat) : List Int :=
  if f = 4 then [if m.flag then 1 else 0] else if f = 5 then numI (m.ents.length : Int) ++ m.ents.flatMap Rk.entB else if f = 6 then shotB m.shot else numI (numM m f)
def fldsB (m : Mes) (l : List Int) : List Int := l.flatMap fun f => fldB m f.toNat
def msgB (m : Mes) : List Int := [m.kind, m.src, m.dst] ++ fldsB m (fieldsM m.kind)
theorem fldsB_snoc (m : Mes) (l : List Int) (f : Int) : fldsB m (l ++ [f]) = fldsB m l ++ fldB m f.toNat := by simp [fldsB]
/-- what a field must be to be written -/
def FOk (m : Mes) (f : Nat) : Prop := (f = 5 → m.ents.length ≤ 4 ∧ ∀ x ∈ m.ents, x.wf ∧ chkC x.cmd = true) ∧ (f = 6 → Sh.shotOk m.shot)
theorem log_wf {w : World} {v : Value} {l : List Ent} (h : IsLog w v l) : ∀ x ∈ l, x.wf := by
  obtain ⟨rows, _, h2, rfl⟩ := h
  intro x hx
  obtain ⟨r, hr, rfl⟩ := List.mem_map.1 hx
  exact (h2 r hr).2
theorem feed_chk {m : Mes} (h : feedOk m) : ∀ x ∈ m.ents, chkC x.cmd = true := by
  intro x hx
  obtain ⟨i, hi, rfl⟩ := List.mem_iff_getElem.1 hx
  exact (h.2.2 i _ hi (List.getElem?_eq_getElem hi)).1.2.2
theorem fok_of {m : Mes} {w : World} {v : Value} (h : IsMsg w v m) (ok : msgOk m) {f : Int} (hf : f ∈ fieldsM m.kind) : 0 ≤ f ∧ f.toNat ≤ 6 ∧ FOk m f.toNat := by
  obtain ⟨ve, vn, vh, vl, rfl, hl, -⟩ := id h
  have hw := log_wf hl
  obtain ⟨hk, -, -, -, -, g6, -, g1, g3, g5⟩ := ok
  have hk2 : 1 ≤ m.kind ∧ m.kind ≤ 6 := hk
  have h0 : 0 ≤ f ∧ f.toNat ≤ 6 ∧ (f = 5 → m.kind = 3 ∨ m.kind = 6) ∧ (f = 6 → m.kind = 5) := by
    rcases (show m.kind = 1 ∨ m.kind = 2 ∨ m.kind = 3 ∨ m.kind = 4 ∨ m.kind = 5 ∨ m.kind = 6 by omega) with k | k | k | k | k | k
    all_goals
      rw [k] at hf ⊢
      simp [fieldsM] at hf
      rcases hf with rfl | rfl | rfl | rfl | rfl <;> decide
  refine ⟨h0.1, h0.2.1, fun q => ?_, fun q => ?_⟩
  · rcases h0.2.2.1 (by omega) with k | k
    · exact ⟨(g3 k).2.2.1, fun x hx => ⟨hw x hx, feed_chk (g3 k).2 x hx⟩⟩
    · obtain ⟨y, hy, -, -, hc, -⟩ := g6 k
      refine ⟨by rw [hy]; simp, fun x hx => ⟨hw x hx, ?_⟩⟩
      rw [hy, List.mem_singleton] at hx
      subst hx
      exact hc
  · exact (g5 (h0.2.2.2 (by omega))).1
theorem ent_len {x : Ent} (hw : x.wf) (h : chkC x.cmd = true) : (Rk.entB x).length ≤ 130 ∧ WfB (Rk.entB x) := by
  have ht := bounds_u64 hw.1
  obtain ⟨h1, h2⟩ := encL_len hw.2 h
  have h3 := numI_len (n := x.term) (by omega) (by omega)
  refine ⟨by unfold Rk.entB; rw [List.length_append]; omega, fun y hy => ?_⟩
  rcases List.mem_append.1 hy with g | g
  · exact numI_wf (by omega) (by omega) y g
  · exact h2 y g
theorem ents_len : ∀ (l : List Ent), (∀ x ∈ l, x.wf ∧ chkC x.cmd = true) → (l.flatMap Rk.entB).length ≤ 130 * l.length ∧ WfB (l.flatMap Rk.entB)
  | [], _ => ⟨by simp, fun y hy => by simp at hy⟩
  | x :: l, h => by
    obtain ⟨h1, h2⟩ := ent_len (h x (by simp)).1 (h x (by simp)).2
    obtain ⟨h3, h4⟩ := ents_len l fun y hy => h y (by simp [hy])
    refine ⟨by rw [List.flatMap_cons, List.length_append, List.length_cons]; omega, fun y hy => ?_⟩
    rw [List.flatMap_cons] at hy
    rcases List.mem_append.1 hy with g | g
    · exact h2 y g
    · exact h4 y g
theorem numM_bd {m : Mes} (h : m.wf) (f : Nat) : 0 ≤ numM m f ∧ numM m f ≤ 18446744073709551615 := by
  obtain ⟨-, -, -, h3, h4, h5, h6, -⟩ := h
  match f with
  | 0 => exact u64_bd h3
  | 1 => exact u64_bd h4
  | 2 => exact u64_bd h5
  | f + 3 => exact u64_bd h6
theorem wf_byte {z : Int} (h0 : 0 ≤ z) (h1 : z ≤ 255) : (Lit.int .u8 z).wf = true := WalkArith.wf_u8 (by omega)
theorem fld_len {m : Mes} (hw : m.wf) {f : Nat} (h : FOk m f) : (fldB m f).length ≤ (if f = 6 then 3500 else 600) ∧ WfB (fldB m f) := by
  unfold fldB
  by_cases h4 : f = 4
  · rw [if_pos h4, if_neg (show ¬ f = 6 by omega)]
    refine ⟨by simp, fun y hy => ?_⟩
    simp only [List.mem_singleton] at hy
    subst hy
    split <;> exact wf_byte (by omega) (by omega)
  rw [if_neg h4]
  by_cases h5 : f = 5
  · rw [if_pos h5, if_neg (show ¬ f = 6 by omega)]
    obtain ⟨h6, h7⟩ := h.1 h5
    obtain ⟨h8, h9⟩ := ents_len m.ents h7
    have h10 := numI_len (n := (m.ents.length : Int)) (by omega) (by omega)
    refine ⟨by rw [List.length_append]; omega, fun y hy => ?_⟩
    rcases List.mem_append.1 hy with g | g
    · exact numI_wf (by omega) (by omega) y g
    · exact h9 y g
  rw [if_neg h5]
  by_cases h6 : f = 6
  · rw [if_pos h6, if_pos h6]
    exact shotB_len (nums_of hw.2.2.2.2.2.2.2 (h.2 h6))
  rw [if_neg h6, if_neg h6]
  have := numM_bd hw f
  have h10 := numI_len this.1 this.2
  exact ⟨by omega, numI_wf this.1 this.2⟩
theorem flds_len {m : Mes} (hw : m.wf) : ∀ (l : List Int), (∀ f ∈ l, FOk m f.toNat) → (fldsB m l).length ≤ 3500 * l.length ∧ WfB (fldsB m l)
  | [], _ => ⟨by simp [fldsB], fun y hy => by simp [fldsB] at hy⟩
  | x :: l, h => by
    obtain ⟨h1, h2⟩ := fld_len hw (h x (by simp))
    obtain ⟨h3, h4⟩ := flds_len hw l fun y hy => h y (by simp [hy])
    have h5 : (fldB m x.toNat).length ≤ 3500 := by split at h1 <;> omega
    have e : fldsB m (x :: l) = fldB m x.toNat ++ fldsB m l := rfl
    refine ⟨by rw [e, List.length_append, List.length_cons]; omega, fun y hy => ?_⟩
    rw [e] at hy
    rcases List.mem_append.1 hy with g | g
    · exact h2 y g
    · exact h4 y g
theorem fieldsM_len (k : Int) : (fieldsM k).length ≤ 5 := by
  unfold fieldsM
  repeat' split
  all_goals decide
theorem msg_len {m : Mes} {w : World} {v : Value} (h : IsMsg w v m) (ok : msgOk m) : (msgB m).length ≤ 8192 ∧ WfB (msgB m) := by
  have hw := IsMsg.wf h
  have hfo := fun f hf => (fok_of h ok (f := f) hf).2.2
  obtain ⟨hl, hwf⟩ := flds_len hw (fieldsM m.kind) hfo
  have hk2 : 1 ≤ m.kind ∧ m.kind ≤ 6 := ok.1
  have hs : 1 ≤ m.src ∧ m.src ≤ 7 := ok.2.1
  have hd : 1 ≤ m.dst ∧ m.dst ≤ 7 := ok.2.2.1
  constructor
  · have e : (msgB m).length = 3 + (fldsB m (fieldsM m.kind)).length := by unfold msgB; rw [List.length_append]; rfl
    rw [e]
    have F := fun (f : Int) (hf : f ∈ fieldsM m.kind) => (fld_len hw (hfo f hf)).1
    rcases (show m.kind = 1 ∨ m.kind = 2 ∨ m.kind = 3 ∨ m.kind = 4 ∨ m.kind = 5 ∨ m.kind = 6 by omega) with k | k | k | k | k | k
    all_goals rw [k] at F hl ⊢
    · have a := F 0 (by decide); have b := F 1 (by decide); have c := F 2 (by decide)
      simp [fldsB, fieldsM] at a b c ⊢
      omega
    · have a := F 0 (by decide); have b := F 4 (by decide)
      simp [fldsB, fieldsM] at a b ⊢
      omega
    · have a := F 0 (by decide); have b := F 1 (by decide); have c := F 2 (by decide); have d := F 3 (by decide); have e := F 5 (by decide)
      simp [fldsB, fieldsM] at a b c d e ⊢
      omega
    · have a := F 0 (by decide); have b := F 4 (by decide); have c := F 1 (by decide)
      simp [fldsB, fieldsM] at a b c ⊢
      omega
    · have a := F 0 (by decide); have b := F 6 (by decide)
      simp [fldsB, fieldsM] at a b ⊢
      omega
    · have a := F 5 (by decide)
      simp [fldsB, fieldsM] at a ⊢
      omega
  · intro y hy
    unfold msgB at hy
    rcases List.mem_append.1 hy with g | g
    · simp only [List.mem_cons, List.not_mem_nil, or_false] at g
      rcases g with rfl | rfl | rfl <;> exact wf_byte (by omega) (by omega)
    · exact hwf y g
/-- the fields of a kind, in a row of the call's own -/
def GivesFO (k : Int) (w : World) (e : Ending) (w' : World) : Prop := ∃ ad c, e = .returned (.slice (some ad) (fieldsM k).length c) ∧ OwnK .i64 68 w' w.heap.size (.slice (some ad) (fieldsM k).length c) (fieldsM k) ∧ Below w.heap.size w w'
set_option maxHeartbeats 800000 in
theorem fields_own (k : Int) (w : World) (h : kindM k) : Calls Tryz.prog 29 #[.int .i64 k] w (GivesFO k w) := by
  unfold kindM at h
  rcases (show k = 1 ∨ k = 2 ∨ k = 3 ∨ k = 4 ∨ k = 5 ∨ k = 6 by omega) with rfl | rfl | rfl | rfl | rfl | rfl
  all_goals
    clear h
    go_enter Tryz.func29, Tryz.ntmps29
    go_wp2
    go_ret
    exact ⟨_, _, rfl, OwnK.new w _ (fieldsM _) rfl rfl (by decide) (Nat.le_refl _), (Below.refl _ _).alloc (Nat.le_refl _) _⟩
theorem fieldsM_wf (k : Int) : ∀ n ∈ fieldsM k, (Lit.int .i64 n).wf = true := by
  unfold fieldsM
  repeat' split
  all_goals decide
end Ms
end Go.Proofs.YtlfaiemebfkajaaGreatDoor
