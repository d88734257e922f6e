/- The document's own reader: Nodes. No condition. -/
import Derived.Test.YtlpoljknohiihaaCmdZa
namespace Go.Proofs.Ytlpoljknohiihaa
open Go.ChangeShapes Go.WideShapes Go.ChangeAt Go.RowKit
set_option linter.unusedVariables false
namespace Cm
def sn (zs : List Int) (u : Nat) (e : Int) : Nat → List Int × Int × Nat
  | 0 => ([], e, u)
  | k + 1 => if ((sn zs u e k).2.1 == 0) = true then ((sn zs u e k).1 ++ [(sm zs (sn zs u e k).2.2 0 65535).1], (sm zs (sn zs u e k).2.2 0 65535).2.1, (sm zs (sn zs u e k).2.2 0 65535).2.2) else sn zs u e k
theorem sn_stop {zs : List Int} {u k : Nat} {e : Int} (h : ((sn zs u e k).2.1 == 0) = false) : ∀ j, sn zs u e (k + j) = sn zs u e k
  | 0 => rfl
  | j + 1 => by
    have ih := sn_stop h j
    show (if ((sn zs u e (k + j)).2.1 == 0) = true then _ else sn zs u e (k + j)) = _
    rw [ih, h, if_neg (by decide)]
theorem sn_bd {zs : List Int} {u : Nat} {e : Int} (hu : u ≤ zs.length) : ∀ k, (sn zs u e k).2.2 ≤ zs.length ∧ (sn zs u e k).1.length ≤ k ∧ ∀ n ∈ (sn zs u e k).1, 0 ≤ n ∧ n ≤ 65535
  | 0 => ⟨hu, Nat.le_refl _, by simp [sn]⟩
  | k + 1 => by
    have ih := sn_bd (e := e) hu k
    have hb := sm_bd (m := 65535) ih.1 0 (by omega)
    unfold sn
    split
    · refine ⟨hb.1, by simp only [List.length_append, List.length_singleton]; omega, fun n hn => ?_⟩
      rcases List.mem_append.1 hn with hn | hn
      · exact ih.2.2 n hn
      · rw [List.mem_singleton.1 hn]; exact hb.2
    · exact ⟨ih.1, by omega, ih.2.2⟩
def ln (zs : List Int) (u : Nat) (e : Int) : List Int × Int × Nat := sn zs (sm zs u e 7).2.2 (sm zs u e 7).2.1 (sm zs u e 7).1.toNat
theorem ln_bd {zs : List Int} {u : Nat} {e : Int} (hu : u ≤ zs.length) : (ln zs u e).2.2 ≤ zs.length ∧ ∀ n ∈ (ln zs u e).1, 0 ≤ n ∧ n ≤ 65535 := by
  have hb := sm_bd (m := 7) hu e (by omega)
  have := sn_bd (e := (sm zs u e 7).2.1) hb.1 (sm zs u e 7).1.toNat
  exact ⟨this.1, this.2.2⟩
def NodesR (g : Nat) (v : Value) (zs : List Int) (u : Nat) (e : Int) (w : World) (E : Ending) (w' : World) : Prop :=
  ∃ vn, E = .returned vn ∧ OwnI w' w.heap.size vn (ln zs u e).1 ∧ RB g v (ln zs u e).2.2 (ln zs u e).2.1 w' ∧ Only (· = g) w w'

set_option maxHeartbeats 1000000 in
theorem rlist_any (g : Nat) (v : Value) (zs : List Int) (u : Nat) (e : Int) (w : World) (h : RB g v u e w) (hS : ∀ w', Only (· = g) w w' → Sl .u8 w' v zs) (hu : u ≤ zs.length) :
    Calls Try.prog 42 #[.pointer (some ⟨g, 0, none⟩)] w (NodesR g v zs u e w) := by
  have hgl : g < w.heap.size := (Array.getElem?_eq_some_iff.1 h).1
  have hs0 := hS w (Only.refl _ _)
  have HS := Lib.hid hS
  have hb7 := sm_bd (m := 7) hu e (by omega)
  have HL : Hid (ln zs u e = sn zs (sm zs u e 7).2.2 (sm zs u e 7).2.1 (sm zs u e 7).1.toNat) := Lib.hid rfl
  clear hS
  go_enter Try.func42, Try.ntmps42
  go_wp2_with fail
  refine (small_any g v zs u e 7 _ h hs0 hu (by omega) (by omega)).mono ?_
  rintro E w1 ⟨rfl, hr1, ho1, hz1⟩
  generalize sm zs u e 7 = x at *
  obtain ⟨m, e1, u1⟩ := x
  obtain ⟨b1, b2, b3⟩ := hb7
  obtain ⟨M, rfl⟩ : ∃ M : Nat, m = M := ⟨m.toNat, by omega⟩
  rw [Int.toNat_natCast] at HL
  clear h hs0 hz1
  go_wp2_with fail
  go_loopw [3, 4] (fun o i wr => ∃ k : Nat, k ≤ M ∧ i = .int .i64 ((M : Int) - (k : Int)) ∧ OwnI wr w.heap.size o (sn zs u1 e1 k).1 ∧ RB g v (sn zs u1 e1 k).2.2 (sn zs u1 e1 k).2.1 wr ∧ Only (· = g) w wr) (fun _ i _ => (intOf i).toNat)
  case atStart => exact ⟨0, Nat.zero_le _, by simp, OwnK.nil _ _ _ _, hr1, ho1⟩
  case round =>
    obtain ⟨k, hk, rfl, hown, hr, ho⟩ := hrel
    clear hr1 ho1
    have hbd := sn_bd (e := e1) (zs := zs) b1 k
    have c2 := hr.c2
    have hk3 : (M : Int) ≤ 7 := b3
    by_cases hlt : k < M
    · cases hst : ((sn zs u1 e1 k).2.1 == 0) with
      | false =>
        obtain ⟨j, hj⟩ : ∃ j, M = k + j := ⟨M - k, by omega⟩
        have HF := Lib.hid (HL.out.trans ((congrArg (sn zs u1 e1) hj).trans (sn_stop hst j)))
        have hpos : (0 : Int) < (M : Int) - (k : Int) := by omega
        clear hj hbd
        generalize sn zs u1 e1 k = s at *
        obtain ⟨ys, es, us⟩ := s
        go_wp2
        go_ret
        exact ⟨_, rfl, by rw [HF.out]; exact hown, by rw [HF.out]; exact hr, ho⟩
      | true =>
        have hsk : sn zs u1 e1 (k + 1) = ((sn zs u1 e1 k).1 ++ [(sm zs (sn zs u1 e1 k).2.2 0 65535).1], (sm zs (sn zs u1 e1 k).2.2 0 65535).2.1, (sm zs (sn zs u1 e1 k).2.2 0 65535).2.2) := by
          show (if ((sn zs u1 e1 k).2.1 == 0) = true then _ else _) = _
          rw [if_pos hst]
        have HSK := Lib.hid hsk
        have hse : (sn zs u1 e1 k).2.1 = 0 := by simpa using hst
        have hpos : (0 : Int) < (M : Int) - (k : Int) := by omega
        have hsb := sm_bd (m := 65535) hbd.1 0 (by omega)
        obtain ⟨d1, d2, d3⟩ := hbd
        clear hsk d3
        generalize sn zs u1 e1 k = s at *
        obtain ⟨ys, es, us⟩ := s
        have hse' : es = 0 := hse
        subst hse'
        have hlen : ys.length ≤ k := d2
        clear d2 hse hst
        go_wp2_with fail
        refine (small_any g v zs us 0 65535 _ hr (HS.out _ ho) d1 (by omega) (by omega)).mono ?_
        rintro E w2 ⟨rfl, hr2, ho2, hz2⟩
        have hown2 := own_only hown ho2 hgl
        obtain ⟨a1, a2, a3⟩ := hsb
        have hwfn := Lib.hid (show (Lit.int .i64 (sm zs us 0 65535).1).wf = true from WalkArith.wf_i64 (by omega))
        have hz02 := (ho.trans ho2).2.2.2.1
        clear hr hown c2 hz2
        generalize (sm zs us 0 65535).1 = n2 at *
        generalize (sm zs us 0 65535).2.1 = e2 at *
        generalize (sm zs us 0 65535).2.2 = u2 at *
        go_wp2_with (at_builtin; (refine appI rfl _ _ rfl w.heap.size _ _ rfl (hown2.alloc _) _ [n2] rfl (Sl.new (fr := (0, 0)) w2 #[Value.int .i64 n2] [n2] rfl rfl (Nat.le_refl _) (show (1 : Nat) ≤ maxLen by decide) (by intro y hy; simp at hy; subst hy; exact hwfn.out)) (by simp; omega) (by simp; omega) ?_; intro o3 w3 hown3 hb3))
        have hb23 : Below w.heap.size w2 w3 := ((Below.refl _ _).alloc hz02 _).trans hb3
        have ho3 : Only (· = g) w w3 := ⟨hb23.os.trans (ho.trans ho2).1, hb23.tape.trans (ho.trans ho2).2.1, hb23.output.trans (ho.trans ho2).2.2.1, Nat.le_trans hz02 hb23.size, fun j hj hn => (hb23.block j hj).trans ((ho.trans ho2).2.2.2.2 j hj hn)⟩
        have hr3 : RB g v u2 e2 w3 := (hb23.block g hgl).trans hr2
        go_roundw
        case rel => exact ⟨k + 1, by omega, by congr 1; omega, by rw [HSK.out]; exact hown3, by rw [HSK.out]; exact hr3, ho3⟩
        case measure => simp [intOf]; omega
    · obtain rfl : k = M := by omega
      rw [← HL.out] at hown hr
      have hz : (((k : Nat) : Int) - (k : Int)) = 0 := by omega
      rw [hz]
      clear hbd
      go_wp2
      go_ret
      exact ⟨_, rfl, hown, hr, ho⟩
end Cm
end Go.Proofs.Ytlpoljknohiihaa
