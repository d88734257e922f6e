/- The chapter's example, and the laws' helper live. No condition. -/
import Derived.Test.YtlkgmjhejocobaaRlB
namespace Go.Proofs.Ytlkgmjhejocobaa
open Go.ChangeShapes Go.WideShapes Go.ChangeAt Go.RowKit
set_option linter.unusedVariables false
set_option maxRecDepth 100000
namespace Rl
open Hd
def noop : Cmd := ⟨1, 0, 0, [], 0, 0, 0, 0⟩
def exH : Har := ⟨0, 3, 0, ⟨5, 2, [1], ⟨2, 1, [], []⟩⟩, [⟨2, noop⟩, ⟨3, noop⟩]⟩
theorem exH_ok : hardOk exH := by
  refine ⟨by decide, ⟨by decide, ⟨by decide, by decide, by decide, ⟨by decide, fun j y hj hy => ?_⟩, fun j y hj hy => ?_⟩, by decide, fun j y hj hy => ?_⟩, by decide, by decide, ?_, by decide, by decide, by decide, by decide⟩
  · simp [exH] at hy
  · simp [exH] at hy
  · simp [exH] at hy
  · intro j y hj hy
    match j, hj, hy with
    | 0, _, hy => simp only [exH, List.getElem?_cons_zero, Option.some.injEq] at hy; subst hy; exact ⟨by decide, by decide, by decide⟩
    | 1, _, hy => simp only [exH, List.getElem?_cons_succ, List.getElem?_cons_zero, Option.some.injEq] at hy; subst hy; exact ⟨by decide, by decide, by decide⟩
theorem exH_last : lastV exH = (7, 3) := by rw [lastV_yes exH_ok]; decide
theorem SlR.lit {α : Type} {sz : Nat} {C : α → List Value} (hC : ∀ x, (C x).length = sz) {e : TypeId} {fr : Nat × Nat} (w : World) (g : Nat) (hg : w.heap.size = g) (cs : Array Value) (xs : List α) {n : Nat} (hn : n = xs.length) (h : cs = (xs.flatMap C).toArray) (hm : xs.length ≤ maxLen) :
    SlR sz C (w.alloc (.cells cs e fr)) (.slice (some ⟨g, 0, none⟩) n n) xs := by
  subst h; subst hg; subst hn
  refine ⟨_, xs.length, rfl, Nat.le_refl _, hm, .inr ⟨w.heap.size, 0, none, rfl, .inr ⟨rfl, by simp, fun i x hx j u hu => ?_⟩⟩⟩
  simp only [World.cell?, heap_alloc_new]
  have := flat_at hC xs i j x u hx hu
  simpa using this
def GivesEx (w : World) (e : Ending) (w' : World) : Prop := ∃ v, e = .returned v ∧ IsHard w' v exH ∧ Below w.heap.size w w'
set_option maxHeartbeats 2000000 in
theorem example_any (w : World) : Calls Try.prog 37 #[] w (GivesEx w) := by
  go_enter Try.func37, Try.ntmps37
  go_wp2
  have hA : (((w.alloc (.cells (hArr exH (.slice (some ⟨w.heap.size + 1 + 1, 0, none⟩) 1 1) (.slice none 0 0) (.slice none 0 0) (.slice (some ⟨w.heap.size + 1 + 1 + 1, 0, none⟩) 2 2)) 43)).alloc (.cells (Cm.cArr noop (.slice none 0 0)) 45)).alloc (.cells #[.int .i64 1] 3)).heap[w.heap.size]? = some (.cells (hArr exH (.slice (some ⟨w.heap.size + 1 + 1, 0, none⟩) 1 1) (.slice none 0 0) (.slice none 0 0) (.slice (some ⟨w.heap.size + 1 + 1 + 1, 0, none⟩) 2 2)) 43 (0, 0)) :=
    (heap_alloc_old _ _ (by simp; omega)).trans (heap_alloc2_old _ _ _)
  have hB : Below w.heap.size w (((w.alloc (.cells (hArr exH (.slice (some ⟨w.heap.size + 1 + 1, 0, none⟩) 1 1) (.slice none 0 0) (.slice none 0 0) (.slice (some ⟨w.heap.size + 1 + 1 + 1, 0, none⟩) 2 2)) 43)).alloc (.cells (Cm.cArr noop (.slice none 0 0)) 45)).alloc (.cells #[.int .i64 1] 3)) :=
    (((Below.refl _ _).alloc (Nat.le_refl _) _).alloc (by simp) _).alloc (by simp; omega) _
  have hN : Sl .i64 (((w.alloc (.cells (hArr exH (.slice (some ⟨w.heap.size + 1 + 1, 0, none⟩) 1 1) (.slice none 0 0) (.slice none 0 0) (.slice (some ⟨w.heap.size + 1 + 1 + 1, 0, none⟩) 2 2)) 43)).alloc (.cells (Cm.cArr noop (.slice none 0 0)) 45)).alloc (.cells #[.int .i64 1] 3)) (.slice (some ⟨w.heap.size + 1 + 1, 0, none⟩) 1 1) [1] :=
    Sl.newAt _ _ (by simp) _ [1] rfl rfl (Nat.le_refl _) (by decide) (by decide)
  have hsz : (((w.alloc (.cells (hArr exH (.slice (some ⟨w.heap.size + 1 + 1, 0, none⟩) 1 1) (.slice none 0 0) (.slice none 0 0) (.slice (some ⟨w.heap.size + 1 + 1 + 1, 0, none⟩) 2 2)) 43)).alloc (.cells (Cm.cArr noop (.slice none 0 0)) 45)).alloc (.cells #[.int .i64 1] 3)).heap.size = w.heap.size + 1 + 1 + 1 := by simp
  have hlast : ∀ (U : World), U.heap.size = w.heap.size + 1 + 1 + 1 → U.heap[w.heap.size]? = some (.cells (hArr exH (.slice (some ⟨w.heap.size + 1 + 1, 0, none⟩) 1 1) (.slice none 0 0) (.slice none 0 0) (.slice (some ⟨w.heap.size + 1 + 1 + 1, 0, none⟩) 2 2)) 43 (0, 0)) → Below w.heap.size w U → Sl .i64 U (.slice (some ⟨w.heap.size + 1 + 1, 0, none⟩) 1 1) [1] →
      ∀ cs, cs = ([(⟨2, noop⟩, .slice none 0 0), (⟨3, noop⟩, .slice none 0 0)].flatMap entC).toArray → 
        (U.alloc (.cells cs 47)).heap[w.heap.size]? = some (.cells (hArr exH (.slice (some ⟨w.heap.size + 1 + 1, 0, none⟩) 1 1) (.slice none 0 0) (.slice none 0 0) (.slice (some ⟨w.heap.size + 1 + 1 + 1, 0, none⟩) 2 2)) 43 (0, 0)) ∧
        GivesEx w (.returned (.agg (hArr exH (.slice (some ⟨w.heap.size + 1 + 1, 0, none⟩) 1 1) (.slice none 0 0) (.slice none 0 0) (.slice (some ⟨w.heap.size + 1 + 1 + 1, 0, none⟩) 2 2)))) (U.alloc (.cells cs 47)) := by
    intro U hU h0 hb hn cs hcs
    have hb2 : Below U.heap.size U (U.alloc (.cells cs 47)) := (Below.refl _ _).alloc (Nat.le_refl _) _
    refine ⟨(heap_alloc_old _ _ (by omega)).trans h0, _, rfl, ⟨_, _, _, _, rfl, hn.below hb2 (Nat.le_refl _), SlR.nil _, SlR.nil _, ⟨[(⟨2, noop⟩, .slice none 0 0), (⟨3, noop⟩, .slice none 0 0)], SlR.lit entC_len U _ hU cs _ rfl hcs (by decide), ?_, rfl⟩, ?_⟩, hb.alloc (by omega) _⟩
    · intro r hr
      have hno : noop.wf := by unfold Cmd.wf; decide
      simp only [List.mem_cons, List.not_mem_nil, or_false] at hr
      rcases hr with rfl | rfl
      · exact ⟨Cm.sl_nil _ _, by decide, hno⟩
      · exact ⟨Cm.sl_nil _ _, by decide, hno⟩
    · refine ⟨by decide, by decide, by decide, by decide, by decide, ?_⟩
      exact ⟨by decide, by decide, by simp [exH], by simp [exH]⟩
  obtain ⟨k1, k2⟩ := hlast _ hsz hA hB hN _ rfl
  exact bodyPost_ret (v := .agg (hArr exH (.slice (some ⟨w.heap.size + 1 + 1, 0, none⟩) 1 1) (.slice none 0 0) (.slice none 0 0) (.slice (some ⟨w.heap.size + 1 + 1 + 1, 0, none⟩) 2 2))) (results_cell_row rfl _ _ w.heap.size 43 _ (0, 0) _ rfl k1 Try.underlying43 rfl (by kernel_rfl)) rfl k2
set_option maxHeartbeats 1000000 in
theorem live_any (w : World) : Calls Try.prog 41 #[] w fun e w' => e = .returned (.bool true) ∧ Below w.heap.size w w' := by
  have HL := Lib.hid exH_last
  go_enter Try.func41, Try.ntmps41
  go_wp2_with fail
  refine (example_any _).mono ?_
  rintro e w1 ⟨v1, rfl, hh, hb1⟩
  go_wp2_with fail
  refine (last_any2 exH _ _ hh).mono ?_
  rintro e w2 ⟨rfl, hb2⟩
  rw [HL.out]
  have HB := Lib.hid (hb1.trans (hb2.mono hb1.size))
  clear hb1 hb2 hh
  go_wp2
  go_ret
  exact ⟨rfl, HB.out⟩
end Rl
end Go.Proofs.Ytlkgmjhejocobaa
