/- A command's bytes: what cmd.Encode hands back. No condition. -/
import Derived.Test.YtlpoljknohiihaaCmdS
import Derived.Test.YtlpoljknohiihaaOctN
import Derived.Test.YtlpoljknohiihaaApp
namespace Go.Proofs.Ytlpoljknohiihaa
open Go.ChangeShapes Go.WideShapes Go.ChangeAt Go.RowKit
set_option linter.unusedVariables false

/-- v's elements lie elsewhere than b -/
def Far (w : World) (b v : Value) (zs : List Int) : Prop := zs = [] ∨ ∃ g, v.ownBlock = some g ∧ g < w.heap.size ∧ b.ownBlock ≠ some g
theorem Far.below {w w' : World} {b v : Value} {zs : List Int} {B : Nat} (h : Far w b v zs) (hb : Below B w w') : Far w' b v zs := by
  rcases h with h | ⟨g, h1, h2, h3⟩
  · exact .inl h
  · exact .inr ⟨g, h1, Nat.lt_of_lt_of_le h2 hb.size, h3⟩
theorem Far.step {w w' : World} {b b' v : Value} {zs : List Int} {r : Option Nat} (h : Far w b v zs) (hg : w.grownBy w' r) (hl : Lies w b b') : Far w' b' v zs := by
  rcases h with h | ⟨g, h1, h2, h3⟩
  · exact .inl h
  · refine .inr ⟨g, h1, Nat.lt_of_lt_of_le h2 hg.size, ?_⟩
    rcases hl with hl | hl
    · rw [hl]; exact h3
    · intro h4
      have := hl g h4
      omega
theorem Sl.far {k : IntKind} {w w' : World} {b v : Value} {zs : List Int} (h : Sl k w v zs) (hf : Far w b v zs) (hg : w.grownBy w' b.ownBlock) : Sl k w' v zs := by
  obtain ⟨a, cap, rfl, h1, h2, h3, h4⟩ := h
  refine ⟨a, cap, rfl, h1, h2, h3, ?_⟩
  rcases h4 with h4 | ⟨g, off, sp, rfl, h5⟩
  · exact .inl h4
  · refine .inr ⟨g, off, sp, rfl, ?_⟩
    rcases h5 with h5 | ⟨hs, hlt, hc⟩
    · exact .inl h5
    · rcases hf with hf | ⟨q, e, _, hne⟩
      · exact .inl hf
      · simp only [Value.ownBlock, Option.some.injEq] at e
        subst e
        exact .inr ⟨hs, Nat.lt_of_lt_of_le hlt hg.size, fun i hi => hg.cell (hc i hi) (fun e => hne e.symm)⟩
theorem Far.new {k : IntKind} {e : TypeId} {w w' : World} {b v : Value} {xs zs : List Int} {B N : Nat} (hb : Own w B b xs) (hN : w.heap.size ≤ N) (hv : OwnK k e w' N v zs) : Far w' b v zs := by
  rcases hv.2 with ⟨_, h0⟩ | ⟨g, cap, cur, rfl, hg, hh, _⟩
  · exact .inl (List.eq_nil_of_length_eq_zero h0)
  · refine .inr ⟨g, rfl, (Array.getElem?_eq_some_iff.1 hh).1, ?_⟩
    intro h
    have := (World.ownsRow.lt hb g h).2
    omega

namespace Cm

def GivesOwn (zs : List Int) (w : World) (e : Ending) (w' : World) : Prop := ∃ v, e = .returned v ∧ OwnK .i64 42 w' w.heap.size v zs ∧ Sl .i64 w' v zs ∧ Below w.heap.size w w'

set_option maxHeartbeats 400000 in
theorem fields_own (k : Int) (w : World) (h : 1 ≤ k ∧ k ≤ 6) : Calls Try.prog 19 #[.int .i64 k] w (GivesOwn (fieldsL k) w) := by
  rcases (show k = 1 ∨ k = 2 ∨ k = 3 ∨ k = 4 ∨ k = 5 ∨ k = 6 by omega) with rfl | rfl | rfl | rfl | rfl | rfl
  · clear h
    go_enter Try.func19, Try.ntmps19
    go_wp2
    go_ret
    exact ⟨_, rfl, OwnK.nil _ _ _ _, sl_nil _ _, Below.refl _ _⟩
  · clear h
    go_enter Try.func19, Try.ntmps19
    go_wp2
    go_ret
    exact ⟨_, rfl, OwnK.new w _ [6] rfl rfl (by decide) (Nat.le_refl _), Sl.new (fr := (0, 0)) w _ [6] rfl rfl (Nat.le_refl _) (by decide) (by decide), (Below.refl _ _).alloc (Nat.le_refl _) _⟩
  · clear h
    go_enter Try.func19, Try.ntmps19
    go_wp2_with (at_builtin; refine appK Try.underlying40 info_fld rfl _ _ rfl w.heap.size _ [0, 1, 2] rfl (OwnK.new w _ [0, 1, 2] rfl rfl (by decide) (Nat.le_refl _)) _ [] rfl (sl_nil _ _) (by decide) (by decide) (by simp) ?_; intro v1 w1 hown1 hb1)
    go_ret
    exact ⟨_, rfl, hown1, hown1.sl (by decide), ((Below.refl _ _).alloc (Nat.le_refl _) _).trans hb1⟩
  all_goals first
    | (clear h
       go_enter Try.func19, Try.ntmps19
       go_wp2_with (at_builtin; refine appK Try.underlying40 info_fld rfl _ _ rfl w.heap.size _ [0, 1, 2] rfl (OwnK.newAt (w.alloc (.cells #[Value.int .i64 3, Value.int .i64 4] 42)) (w.heap.size + 1) (by simp) _ [0, 1, 2] rfl rfl (by decide) (by simp)) _ [3, 4] rfl ((Sl.new (fr := (0, 0)) w _ [3, 4] rfl rfl (Nat.le_refl _) (by decide) (by decide)).below ((Below.refl _ _).alloc (Nat.le_refl _) _) (Nat.le_refl _)) (by decide) (by decide) (by simp; omega) ?_; intro v1 w1 hown1 hb1)
       go_ret
       exact ⟨_, rfl, hown1, hown1.sl (by decide), (((Below.refl _ _).alloc (Nat.le_refl _) _).alloc (by simp) _).trans hb1⟩)
    | (clear h
       go_enter Try.func19, Try.ntmps19
       go_wp2
       go_ret
       exact ⟨_, rfl, OwnK.new w _ [3, 4, 5] rfl rfl (by decide) (Nat.le_refl _), Sl.new (fr := (0, 0)) w _ [3, 4, 5] rfl rfl (Nat.le_refl _) (by decide) (by decide), (Below.refl _ _).alloc (Nat.le_refl _) _⟩)

/-! ### the bytes -/
def numI (n : Int) : List Int := Oc.numL n.toNat
def encF (c : Cmd) (l : List Int) : List Int := l.flatMap fun f => numI (numF c f.toNat)
def encN (l : List Int) : List Int := l.flatMap numI
def encL (c : Cmd) : List Int := numI c.kind ++ encF c (fieldsL c.kind) ++ encN c.nodes
theorem encF_snoc (c : Cmd) (l : List Int) (f : Int) : encF c (l ++ [f]) = encF c l ++ numI (numF c f.toNat) := by simp [encF]
theorem encN_snoc (l : List Int) (n : Int) : encN (l ++ [n]) = encN l ++ numI n := by simp [encN]
theorem numI_len {n : Int} (h0 : 0 ≤ n) (h1 : n ≤ 18446744073709551615) : (numI n).length ≤ 9 := by
  unfold numI
  have := Oc.bw_le8 (n := n.toNat) (by omega)
  rw [Oc.numL_length]; omega
theorem numI_wf {n : Int} (h0 : 0 ≤ n) (h1 : n ≤ 18446744073709551615) : ∀ x ∈ numI n, (Lit.int .u8 x).wf = true := Oc.numL_wf (by omega)
theorem numF_bd {c : Cmd} (h : c.wf) (hl : c.nodes.length ≤ 9223372036854775807) (f : Nat) : 0 ≤ numF c f ∧ numF c f ≤ 18446744073709551615 := by
  obtain ⟨_, h1, h2, h3, h4, h5, h6⟩ := h
  have b1 := bounds_i64 h1
  have b2 := bounds_i64 h2
  have b3 := bounds_u64 h3
  have b4 := bounds_u64 h4
  have b5 := bounds_u64 h5
  have b6 := bounds_u64 h6
  unfold numF u64
  split <;> (try split) <;> omega
theorem encF_len {c : Cmd} (h : c.wf) (hl : c.nodes.length ≤ 9223372036854775807) : ∀ l, (encF c l).length ≤ 9 * l.length ∧ ∀ x ∈ encF c l, (Lit.int .u8 x).wf = true
  | [] => ⟨Nat.zero_le _, by simp [encF]⟩
  | f :: l => by
    have ih := encF_len h hl l
    have hb := numF_bd h hl f.toNat
    have e : encF c (f :: l) = numI (numF c f.toNat) ++ encF c l := rfl
    rw [e]
    refine ⟨?_, wf_app (numI_wf hb.1 hb.2) ih.2⟩
    have := numI_len hb.1 hb.2
    rw [List.length_append, List.length_cons]; omega
theorem encN_len : ∀ l : List Int, (∀ n ∈ l, 0 ≤ n ∧ n ≤ 18446744073709551615) → (encN l).length ≤ 9 * l.length ∧ ∀ x ∈ encN l, (Lit.int .u8 x).wf = true
  | [], _ => ⟨Nat.zero_le _, by simp [encN]⟩
  | n :: l, h => by
    have ih := encN_len l fun m hm => h m (by simp [hm])
    have hb := h n (by simp)
    have e : encN (n :: l) = numI n ++ encN l := rfl
    rw [e]
    refine ⟨?_, wf_app (numI_wf hb.1 hb.2) ih.2⟩
    have := numI_len hb.1 hb.2
    rw [List.length_append, List.length_cons]; omega
theorem okFrom_nodes : ∀ (l : List Int) (last : Int), Nd.okFrom last l = true → ∀ n ∈ l, 1 ≤ n ∧ n ≤ 7
  | [], _, _, n, hn => by simp at hn
  | m :: l, last, h, n, hn => by
    simp only [Nd.okFrom, Bool.and_eq_true, decide_eq_true_eq] at h
    rcases List.mem_cons.1 hn with rfl | hn
    · exact ⟨h.1.1, h.1.2.1⟩
    · exact okFrom_nodes l m h.2 n hn
theorem okFrom_len : ∀ (l : List Int) (last : Int), Nd.okFrom last l = true → 0 ≤ last → last ≤ 7 → (l.length : Int) ≤ 7 - last
  | [], _, _, _, h => by simp; omega
  | m :: l, last, h, h0, h1 => by
    simp only [Nd.okFrom, Bool.and_eq_true, decide_eq_true_eq] at h
    have := okFrom_len l m h.2 (by omega) (by omega)
    simp only [List.length_cons]; omega
/-- a valid command's kind and nodes -/
theorem chk_parts {c : Cmd} (h : chkC c = true) : (1 ≤ c.kind ∧ c.kind ≤ 6) ∧ c.nodes.length ≤ 7 ∧ ∀ n ∈ c.nodes, 1 ≤ n ∧ n ≤ 7 := by
  unfold chkC at h
  rw [Bool.and_eq_true, List.all_eq_true] at h
  refine ⟨of_decide_eq_true h.1, ?_⟩
  have h6 := h.2 6 (by simp)
  unfold okF at h6
  split at h6
  · have h7 : Nd.chk c.nodes = true := h6
    unfold Nd.chk at h7
    rw [Bool.and_eq_true] at h7
    have := okFrom_len _ _ h7.2 (by omega) (by omega)
    exact ⟨by omega, okFrom_nodes _ _ h7.2⟩
  · have h7 : c.nodes.length = 0 := by simpa [numF] using h6
    have h8 := List.eq_nil_of_length_eq_zero h7
    rw [h8]
    exact ⟨by simp, by simp⟩
theorem fieldsL_bd (k : Int) : (fieldsL k).length ≤ 5 ∧ ∀ f ∈ fieldsL k, 0 ≤ f ∧ f ≤ 6 := by
  unfold fieldsL
  repeat' split
  all_goals simp
end Cm
end Go.Proofs.Ytlpoljknohiihaa
