/- What a step leaves is well-formed. No condition. -/
import Derived.Test.YtfaifdidillkaaaRdH
namespace Go.Proofs.Ytfaifdidillkaaa
open Go.ChangeShapes Go.WideShapes Go.ChangeAt Go.RowKit Go.Deep
set_option linter.unusedVariables false
set_option maxRecDepth 100000
set_option linter.unusedSimpArgs false
namespace Rk
open Dk
theorem sync_ok {on : Bool} {F : List Fl} {n : Nat} {x : ByteArray} (h : OkF n F) : OkF n (syncF on F x) := by
  by_cases q : findE on F x = 0
  · unfold syncF
    rw [if_pos q]
    rcases fnd_cases (F := F) x with ⟨h1, -⟩ | ⟨f, hf, hn, h1⟩
    · exfalso
      unfold findE at q
      rw [h1] at q
      cases on <;> simp at q
    · have hof : oldF F x = f := by unfold oldF; rw [h1]; rfl
      rw [hof]
      exact h.upd (by rw [← hn]; exact h.nm f hf) (Nat.le_refl _) (h.len f hf) (h.wf f hf) (.inl (by simp only [h1]; rfl))
  · unfold syncF
    rw [if_neg q]
    exact h
theorem remove_ok {on : Bool} {F : List Fl} {n : Nat} {x : ByteArray} (h : OkF n F) : OkF n (removeF on F x) := by
  unfold removeF
  split
  · exact h.sub _
  · exact h
theorem app_left {s : St} {x : ByteArray} {zs : List Int} (h : leftOk s.left) : leftOk (appS s x zs).left := by
  unfold appS leftOk at *
  split
  · exact h
  · split
    · exact h
    · split
      · exact h
      · split
        · simp only; omega
        · split
          · simp only; omega
          · simp only; omega
open _root_.Go.Proofs.Ytfaifdidillkaaa.St in
theorem do_ok {s : St} {o : DOp} {n : Nat} (h : OkF n s.F) (hl : leftOk s.left) (hw : o.wf) (hb : o.b.size ≤ 10000) : OkF (n + 10000) (doS s o).F ∧ leftOk (doS s o).left := by
  have hm := h.mono (T := n + 10000) (by omega)
  have hc : ∀ ks, OkF (n + 10000) (crashF ks s.F) := fun ks => OkF.cr hm
  have h1 : leftOk (-1) := ⟨by decide, by decide⟩
  obtain ⟨-, hn, -, -⟩ := hw
  have hn2 : -9223372036854775808 ≤ o.n ∧ o.n ≤ 9223372036854775807 := by
    simp [Lit.wf, IntKind.min, IntKind.max, IntKind.signed, IntKind.bits] at hn
    omega
  unfold doS
  split
  · refine ⟨?_, app_left hl⟩
    obtain ⟨on, lf, F⟩ := s
    refine OkF.mono (OkF.app (zs := sb o.b) h (sb_wf _)) ?_
    rw [sb_length]; omega
  · split
    · exact ⟨sync_ok hm, hl⟩
    · split
      · exact ⟨remove_ok hm, hl⟩
      · split
        · refine ⟨hm, ?_⟩
          unfold armZ leftOk at *
          simp only
          split
          · omega
          · exact hl
        · split
          · exact ⟨hc _, h1⟩
          · split
            · unfold powS
              split
              · exact ⟨hm, hl⟩
              · exact ⟨hc _, h1⟩
            · exact ⟨hm, hl⟩
theorem Bth.mono {w : World} {T T2 : Nat → Prop} {p q : Nat} {s : St} (h : Bth w T p q s) (hT : ∀ k, T k → T2 k) : Bth w T2 p q s := by
  obtain ⟨Sd, Sx, m, V, vF, hd, hx, h1, h2, h3⟩ := h
  exact ⟨Sd, Sx, m, V, vF, hd, hx, h1, fun k hk => hT k (h2 k hk), fun k hk => hT k (h3 k hk)⟩
end Rk
end Go.Proofs.Ytfaifdidillkaaa
