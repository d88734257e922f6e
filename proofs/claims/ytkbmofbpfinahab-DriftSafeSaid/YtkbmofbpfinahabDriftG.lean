/- Goes of clocks: a list of pairs read as an argument, and what the law's own helper makes of it. No condition. -/
import Derived.Test.YtkbmofbpfinahabSl
import Derived.Test.YtkbmofbpfinahabDriftA
import Derived.Deep.SlicePairs
namespace Go.Proofs.Ytkbmofbpfinahab
open Go.ChangeShapes Go.WideShapes Go.ChangeAt Go.RowKit Go.Deep
set_option linter.unusedVariables false
namespace Dr

/-- v is a slice of pairs of 64-bit integers, gs. -/
def IsGos (w : World) (v : Value) (gs : List (Int × Int)) : Prop :=
  ∃ a cap, v = .slice a gs.length cap ∧ gs.length ≤ cap ∧ cap ≤ maxLen ∧ (∀ g ∈ gs, (Lit.int .i64 g.1).wf = true ∧ (Lit.int .i64 g.2).wf = true) ∧
    (gs = [] ∨ ∃ b off, a = some ⟨b, off, none⟩ ∧ b < w.heap.size ∧ ∀ i, i < gs.length → w.cell? ⟨b, off + i * 2, none⟩ = some (.int .i64 (gs.getD i (0, 0)).1) ∧ w.cell? ⟨b, off + i * 2 + 1, none⟩ = some (.int .i64 (gs.getD i (0, 0)).2))

theorem IsGos.below {w w' : World} {v : Value} {gs : List (Int × Int)} {B : Nat} (h : IsGos w v gs) (hb : Below B w w') (hB : w.heap.size ≤ B) : IsGos w' v gs := by
  obtain ⟨a, cap, e, h1, h2, h3, h4⟩ := h
  refine ⟨a, cap, e, h1, h2, h3, ?_⟩
  rcases h4 with h4 | ⟨b, off, ha, hlt, hc⟩
  · exact .inl h4
  · exact .inr ⟨b, off, ha, Nat.lt_of_lt_of_le hlt hb.size, fun i hi => ⟨(hb.cell (p := ⟨b, off + i * 2, none⟩) (by simp; omega)).trans (hc i hi).1, (hb.cell (p := ⟨b, off + i * 2 + 1, none⟩) (by simp; omega)).trans (hc i hi).2⟩⟩

theorem open_gos {H : Type} {enc : TypeId × Value → H} {W : World} {base : Nat} {v : Value} {d : DataW H} {ps : List MemPlace}
    (hok : Value.okWide Try.prog W .any base 29 v) (h : DataW.Trod enc Try.prog W 0 (fun _ => true) true 29 v d ps) : ∃ gs, IsGos W v gs ∧ True := by
  obtain ⟨a, len, cap, rfl⟩ := okWide_slice Try.underlying29 hok
  obtain ⟨fuel, hf⟩ := h
  rcases open_slice_pairs Try.underlying29 Try.underlying38 (by kernel_rfl) rfl rfl (by kernel_rfl) (by kernel_rfl) hf with ⟨hcs, _⟩ | ⟨x, l, c, m, n, V0, V1, D0, D1, P0, P1, hcs, _, hl, hm, hmm, _, hc⟩
  · simp [Value.cells] at hcs
    obtain ⟨rfl, rfl, rfl⟩ := hcs
    exact ⟨[], ⟨none, 0, rfl, Nat.le_refl _, Nat.zero_le _, by simp, .inl rfl⟩, trivial⟩
  · simp [Value.cells] at hcs
    obtain ⟨rfl, rfl, rfl⟩ := hcs
    simp only [if_true] at hmm
    subst hmm
    have each : ∀ i, i < len → ∃ q : Int × Int, W.cell? (x.add (i * 2)) = some (.int .i64 q.1) ∧ W.cell? (x.add (i * 2 + 1)) = some (.int .i64 q.2) ∧ (Lit.int .i64 q.1).wf = true ∧ (Lit.int .i64 q.2).wf = true := by
      intro i hi
      obtain ⟨c0, c1, t0, t1⟩ := hc i (by omega)
      obtain ⟨n0, e0, _, w0⟩ := DataW.trod_int Try.underlying2 t0
      obtain ⟨n1, e1, _, w1⟩ := DataW.trod_int Try.underlying2 t1
      simp only [List.cons.injEq, and_true] at e0 e1
      rw [e0] at c0
      rw [e1] at c1
      exact ⟨(n0, n1), c0, c1, w0, w1⟩
    obtain ⟨f, hfq⟩ := choose_lt each
    have hlen : ((List.range len).map f).length = len := by simp
    refine ⟨(List.range len).map f, ⟨_, m, by rw [hlen], by omega, hm, ?_, ?_⟩, trivial⟩
    · intro g hg
      obtain ⟨i, hi, rfl⟩ := List.mem_map.1 hg
      have := hfq i (List.mem_range.1 hi)
      exact ⟨this.2.2.1, this.2.2.2⟩
    · rcases Nat.eq_zero_or_pos len with h0 | h0
      · exact .inl (List.eq_nil_of_length_eq_zero (by omega))
      · obtain ⟨b, off, sp⟩ := x
        have h1 := (hfq 0 h0).1
        have hsp : sp = none := by simpa [Addr.add] using World.cell?_spot h1
        subst hsp
        refine .inr ⟨b, off, rfl, by have := World.block_lt_of_cell? _ _ h1; rwa [add_plain] at this, fun i hi => ?_⟩
        rw [hlen] at hi
        have hg : ((List.range len).map f).getD i (0, 0) = f i := by simp [List.getD, hi]
        rw [hg]
        have h2 := hfq i hi
        rw [add_plain, add_plain] at h2
        exact ⟨h2.1, h2.2.1⟩

/-- what the goes come to -/
def goStep (r : Int) (p : Int × Int) (g : Int × Int) : Int × Int := if mayB r g.1 g.2 = true ∧ p.1 ≤ 1125899906842624 then (p.1 + g.1, p.2 + g.2) else p
def goF (r : Int) (gs : List (Int × Int)) : Int × Int := gs.foldl (goStep r) (0, 0)
theorem goF_snoc (r : Int) (gs : List (Int × Int)) (g : Int × Int) : goF r (gs ++ [g]) = goStep r (goF r gs) g := by simp [goF]
def GoOk (r : Int) (p : Int × Int) : Prop := 0 ≤ p.1 ∧ p.1 ≤ 1126999418470400 ∧ 0 ≤ p.2 ∧ 1000 * p.2 ≤ 1500 * p.1 ∧ (1000 - r) * p.1 ≤ 1000 * p.2 ∧ 1000 * p.2 ≤ (1000 + r) * p.1
theorem goOk_step {r : Int} {p g : Int × Int} (h : GoOk r p) : GoOk r (goStep r p g) := by
  unfold goStep
  split
  · rename_i hg
    obtain ⟨hm, hp⟩ := hg
    obtain ⟨a0, a1, a2, a3, a4, a5, a6, a7⟩ := of_decide_eq_true hm
    obtain ⟨b0, b1, b2, b3, b4, b5⟩ := h
    have m1 := Int.mul_add (1000 - r) p.1 g.1
    have m2 := Int.mul_add (1000 + r) p.1 g.1
    have m3 : (1000 + r) * g.1 ≤ 1500 * g.1 := Int.mul_le_mul_of_nonneg_right (by omega) a2
    exact ⟨by simp only []; omega, by simp only []; omega, by simp only []; omega, by simp only []; omega, by simp only []; omega, by simp only []; omega⟩
  · exact h
theorem goOk_fold (r : Int) (gs : List (Int × Int)) : ∀ p, GoOk r p → GoOk r (gs.foldl (goStep r) p) := by
  induction gs with
  | nil => intro p h; exact h
  | cons g gs ih => intro p h; exact ih _ (goOk_step h)
theorem goF_ok (r : Int) (gs : List (Int × Int)) : GoOk r (goF r gs) := goOk_fold r gs _ (by simp [GoOk])
theorem take_snoc2 {gs : List (Int × Int)} {k : Nat} (h : k < gs.length) : gs.take (k + 1) = gs.take k ++ [gs.getD k (0, 0)] := by
  rw [List.take_succ_eq_append_getElem h]; simp [List.getD, List.getElem?_eq_getElem h]

set_option maxHeartbeats 1000000 in
theorem gone_any (r : Int) (v : Value) (gs : List (Int × Int)) (w : World) (hs : IsGos w v gs) :
    Calls Try.prog 25 #[.int .i64 r, v] w fun e w' => e = .returned (.tuple #[.int .i64 (goF r gs).1, .int .i64 (goF r gs).2]) ∧ Below w.heap.size w w' := by
  obtain ⟨a, cap, rfl, hlc, hcm, hwf, hcs⟩ := hs
  unfold maxLen at hcm
  rcases hcs with rfl | ⟨b, off, rfl, hlt, hc⟩
  · go_enter Try.func25, Try.ntmps25
    go_wp2
    refine wp_loop_rounds 1 ?_
    rw [rounds_succ]
    go_wp2
    go_ret2
    exact ⟨rfl, Below.refl _ _⟩
  · have HC := Lib.hid hc
    have HW := Lib.hid hwf
    clear hc hwf
    go_enter Try.func25, Try.ntmps25
    go_wp2
    go_loopw [6, 7, 12] (fun t c i wr => ∃ k : Nat, k ≤ gs.length ∧ i = .int .i64 k ∧ t = .int .i64 (goF r (gs.take k)).1 ∧ c = .int .i64 (goF r (gs.take k)).2 ∧ Below w.heap.size w wr) (fun _ _ i _ => gs.length - (intOf i).toNat)
    case atStart => exact ⟨0, Nat.zero_le _, rfl, rfl, rfl, Below.refl _ _⟩
    case round =>
      obtain ⟨k, hk, rfl, rfl, rfl, hb⟩ := hrel
      by_cases hlt2 : k < gs.length
      · obtain ⟨c0, c1⟩ := HC.out k hlt2
        have hcx := (hb.cell (p := ⟨b, off + k * 2, none⟩) hlt).trans c0
        have hcy := (hb.cell (p := ⟨b, off + k * 2 + 1, none⟩) hlt).trans c1
        have HT := Lib.hid (show goF r (gs.take (k + 1)) = goStep r (goF r (gs.take k)) (gs.getD k (0, 0)) by rw [take_snoc2 hlt2, goF_snoc])
        have hok := goF_ok r (gs.take k)
        clear c0 c1
        generalize gs.getD k (0, 0) = g at *
        generalize goF r (gs.take k) = p at *
        obtain ⟨g0, g1⟩ := g
        obtain ⟨p0, p1⟩ := p
        obtain ⟨o1, o2, o3, o4, -, -⟩ := hok
        simp only [] at hcx hcy o1 o2 o3 o4
        cases hB' : mayB r g0 g1
        · have HS : Hid (goF r (gs.take (k + 1)) = (p0, p1)) := Lib.hid (by rw [HT.out]; unfold goStep; rw [if_neg (by rw [hB']; simp)])
          have hB := hB'
          clear hB'
          go_wp2_with fail
          refine (may_any _ _ _ _).mono ?_
          rintro e w' ⟨rfl, rfl⟩
          rw [hB]
          go_wp2
          go_roundw
          case rel => exact ⟨k + 1, by omega, by go_num, by rw [HS.out], by rw [HS.out], hb.alloc hb.size _⟩
          case measure => simp [intOf]; omega
        · obtain ⟨a0, a1, a2, a3, a4, a5, -, -⟩ := of_decide_eq_true hB'
          by_cases hp : p0 ≤ 1125899906842624
          · have HS : Hid (goF r (gs.take (k + 1)) = (p0 + g0, p1 + g1)) := Lib.hid (by rw [HT.out]; unfold goStep; rw [if_pos ⟨hB', hp⟩])
            have hB := hB'
            clear hB'
            go_wp2_with fail
            refine (may_any _ _ _ _).mono ?_
            rintro e w' ⟨rfl, rfl⟩
            rw [hB]
            go_wp2
            go_roundw
            case rel => exact ⟨k + 1, by omega, by go_num, by rw [HS.out], by rw [HS.out], hb.alloc hb.size _⟩
            case measure => simp [intOf]; omega
          · have HS : Hid (goF r (gs.take (k + 1)) = (p0, p1)) := Lib.hid (by rw [HT.out]; unfold goStep; rw [if_neg (by rintro ⟨_, h⟩; exact hp h)])
            have hB := hB'
            clear hB'
            go_wp2_with fail
            refine (may_any _ _ _ _).mono ?_
            rintro e w' ⟨rfl, rfl⟩
            rw [hB]
            go_wp2
            go_roundw
            case rel => exact ⟨k + 1, by omega, by go_num, by rw [HS.out], by rw [HS.out], hb.alloc hb.size _⟩
            case measure => simp [intOf]; omega
      · obtain rfl : k = gs.length := by omega
        rw [List.take_length]
        go_wp2
        go_ret2
        exact ⟨rfl, hb⟩
end Dr
end Go.Proofs.Ytkbmofbpfinahab
