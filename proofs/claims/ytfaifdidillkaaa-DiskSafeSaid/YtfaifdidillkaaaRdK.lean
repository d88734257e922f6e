/- What a crash keeps: on lists; the law's own maps. No condition. -/
import Derived.Test.YtfaifdidillkaaaRdJ
namespace Go.Proofs.Ytfaifdidillkaaa
open Go.ChangeShapes Go.WideShapes Go.ChangeAt Go.RowKit Go.Deep
set_option linter.unusedVariables false
set_option maxRecDepth 100000
set_option linter.unusedSimpArgs false
namespace Rk
open Dk
variable {F F2 : List Fl} {n : Nat}
/-- of f, f2 is left -/
def CutOf (f f2 : Fl) : Prop := f.name = f2.name ∧ f.safe ≤ f2.zs.length ∧ f2.zs.length ≤ f.zs.length ∧ f2.zs = f.zs.take f2.zs.length ∧ f2.safe = f2.zs.length
theorem out_cut (ks : List Int) : ∀ (F : List Fl) (k : Nat), (∀ f ∈ F, f.safe ≤ f.zs.length) → (∀ f2 ∈ outF ks F k, ∃ f ∈ F, CutOf f f2) ∧ ∀ f ∈ F, 0 < f.safe → ∃ f2 ∈ outF ks F k, f2.name = f.name
  | [], k, _ => ⟨by intro f2 h; simp [outF] at h, by simp⟩
  | f :: F, k, h => by
    have hf := h f List.mem_cons_self
    have hF : ∀ g ∈ F, g.safe ≤ g.zs.length := fun g hg => h g (List.mem_cons_of_mem _ hg)
    have up : ∀ {L : List Fl}, (∀ f2 ∈ L, ∃ f' ∈ F, CutOf f' f2) → ∀ f2 ∈ L, ∃ f' ∈ f :: F, CutOf f' f2 := fun a f2 h2 => by
      obtain ⟨f', h3, h4⟩ := a f2 h2
      exact ⟨f', List.mem_cons_of_mem _ h3, h4⟩
    unfold outF
    by_cases h0 : (f.zs.length : Int) - f.safe = 0
    · rw [if_pos h0]
      obtain ⟨a, b⟩ := out_cut ks F k hF
      refine ⟨fun f2 h2 => ?_, fun g hg hp => ?_⟩
      · rcases List.mem_cons.1 h2 with rfl | h2
        · exact ⟨f2, List.mem_cons_self, rfl, hf, Nat.le_refl _, by rw [List.take_length], by omega⟩
        · exact up a f2 h2
      · rcases List.mem_cons.1 hg with rfl | hg
        · exact ⟨g, List.mem_cons_self, rfl⟩
        · obtain ⟨f2, h2, h3⟩ := b g hg hp
          exact ⟨f2, List.mem_cons_of_mem _ h2, h3⟩
    · rw [if_neg h0]
      obtain ⟨a, b⟩ := out_cut ks F (k + 1) hF
      have hk := kept_nonneg ks k
      by_cases h1 : sL ks k f = 0
      · rw [if_pos h1]
        refine ⟨up a, fun g hg hp => ?_⟩
        rcases List.mem_cons.1 hg with rfl | hg
        · unfold sL at h1; omega
        · exact b g hg hp
      · rw [if_neg h1]
        have hm : ∃ m : Nat, sL ks k f = m ∧ f.safe ≤ m ∧ m ≤ f.zs.length := ⟨(sL ks k f).toNat, by unfold sL; omega, by unfold sL; omega, by unfold sL; omega⟩
        obtain ⟨m, hm1, hm2, hm3⟩ := hm
        rw [hm1, Int.toNat_natCast]
        have hl : (f.zs.take m).length = m := by rw [List.length_take]; omega
        refine ⟨fun f2 h2 => ?_, fun g hg hp => ?_⟩
        · rcases List.mem_cons.1 h2 with rfl | h2
          · exact ⟨f, List.mem_cons_self, rfl, by simp only [hl]; exact hm2, by simp only [hl]; exact hm3, by simp only [hl], by simp only [hl]⟩
          · exact up a f2 h2
        · rcases List.mem_cons.1 hg with rfl | hg
          · exact ⟨_, List.mem_cons_self, rfl⟩
          · obtain ⟨f2, h2, h3⟩ := b g hg hp
            exact ⟨f2, List.mem_cons_of_mem _ h2, h3⟩
theorem out_same (ks : List Int) : ∀ (F : List Fl) (k : Nat), (∀ f ∈ F, f.safe = f.zs.length) → outF ks F k = F
  | [], _, _ => rfl
  | f :: F, k, h => by
    unfold outF
    rw [if_pos (by rw [h f List.mem_cons_self]; omega), out_same ks F k (fun g hg => h g (List.mem_cons_of_mem _ hg))]
/-- a crash, and the power on again -/
theorem pow_crash {s : St} {ks : List Int} (h : OkF n s.F) : powS (crashS s ks) = ⟨true, -1, outF ks s.F 0⟩ ∧ OkF n (outF ks s.F 0) := by
  have h1 := crash_out ks h.srt
  have h2 : OkF n (outF ks s.F 0) := by rw [h1]; exact OkF.cr h
  refine ⟨?_, h2⟩
  unfold powS crashS
  simp only
  rw [if_neg (by simp), ← h1, ← crash_out [] h2.srt, out_same [] _ 0 (fun f2 hf2 => by
    obtain ⟨f, -, h3⟩ := (out_cut ks s.F 0 h.safe).1 f2 hf2
    exact h3.2.2.2.2)]
theorem loose_of {f : Fl} (h : OkF n F) (hf : f ∈ F) : looseL F f.name = (f.zs.length : Int) - f.safe := by unfold looseL; rw [h.srt.fnd hf]
/-- the law's two maps -/
def fW (F : List Fl) (x : ByteArray) : Option Value := (fndL F x).map fun f => .string (strOfNums f.zs)
def fS (F : List Fl) (x : ByteArray) : Option Value := (fndL F x).map fun f => .int .i64 (f.safe : Int)
theorem fnd_take {f : Fl} {j : Nat} (h : SrtF F) (hj : F[j]? = some f) (x : ByteArray) : fndL (F.take (j + 1)) x = if x = f.name then some f else fndL (F.take j) x := by
  have hs : SrtF (F.take (j + 1)) := List.Pairwise.sublist (List.take_sublist _ _) h
  rw [List.take_add_one, hj] at hs ⊢
  by_cases e : x = f.name
  · subst e
    rw [if_pos rfl]
    exact hs.fnd (by simp)
  · rw [if_neg e]
    unfold fndL
    rw [List.find?_append]
    have : ([f].find? fun g => decide (g.name = x)) = none := by
      simp only [List.find?_cons, List.find?_nil]
      rw [decide_eq_false (fun q : f.name = x => e q.symm)]
    show (List.find? _ _).or (([f].find? fun g => decide (g.name = x))) = _
    rw [this]; simp
theorem fW_upd {f : Fl} {j : Nat} (h : SrtF F) (hj : F[j]? = some f) (x : ByteArray) : Mp.upd (fW (F.take j)) f.name (some (.string (strOfNums f.zs))) x = fW (F.take (j + 1)) x := by
  unfold fW
  rw [fnd_take h hj]
  by_cases e : x = f.name
  · subst e; rw [Mp.upd_same, if_pos rfl]; rfl
  · rw [Mp.upd_ne _ _ e, if_neg e]
theorem fS_upd {f : Fl} {j : Nat} (h : SrtF F) (hj : F[j]? = some f) (x : ByteArray) : Mp.upd (fS (F.take j)) f.name (some (.int .i64 (f.safe : Int))) x = fS (F.take (j + 1)) x := by
  unfold fS
  rw [fnd_take h hj]
  by_cases e : x = f.name
  · subst e; rw [Mp.upd_same, if_pos rfl]; rfl
  · rw [Mp.upd_ne _ _ e, if_neg e]
theorem do_on {s : St} {o : DOp} (hk : o.kind ≤ 3) (h1 : s.on = true) (h2 : s.left = -1) : (doS s o).on = true ∧ (doS s o).left = -1 := by
  unfold doS
  split
  · unfold appS
    rw [if_neg (by simp [h1])]
    split
    · exact ⟨h1, h2⟩
    · split
      · exact ⟨h1, h2⟩
      · first | exact ⟨rfl, rfl⟩ | (rw [if_pos h2]; exact ⟨rfl, rfl⟩)
  · split
    · exact ⟨h1, h2⟩
    · split
      · exact ⟨h1, h2⟩
      · rw [if_neg (by omega), if_neg (by omega), if_neg (by omega)]
        exact ⟨h1, h2⟩
/-- what is left of the law's map once the first j files were met -/
def fD (F F2 : List Fl) (j : Nat) (x : ByteArray) : Option Value := if (fndL (F2.take j) x).isSome then none else fW F x
theorem fD_upd {f : Fl} {j : Nat} (h : SrtF F2) (hj : F2[j]? = some f) (x : ByteArray) : Mp.upd (fD F F2 j) f.name none x = fD F F2 (j + 1) x := by
  unfold fD
  rw [fnd_take h hj]
  by_cases e : x = f.name
  · subst e; rw [Mp.upd_same, if_pos rfl]; rfl
  · rw [Mp.upd_ne _ _ e, if_neg e]
theorem fD_at {f f2 : Fl} {j : Nat} (h : SrtF F) (h2 : SrtF F2) (hj : F2[j]? = some f2) (hf : f ∈ F) (hn : f.name = f2.name) : fD F F2 j f2.name = some (.string (strOfNums f.zs)) := by
  have hnone : fndL (F2.take j) f2.name = none := by
    rcases fnd_cases (F := F2.take j) f2.name with ⟨q, -⟩ | ⟨g, hg, hgn, -⟩
    · exact q
    · exfalso
      obtain ⟨i, hi, rfl⟩ := List.mem_iff_getElem.1 hg
      have hij : i < j := by rw [List.length_take] at hi; omega
      obtain ⟨hlt, hx⟩ := List.getElem?_eq_some_iff.1 hj
      have := List.pairwise_iff_getElem.1 h2 i j (by omega) hlt hij
      rw [List.getElem_take] at hgn
      rw [hx, hgn] at this
      exact nm_irrefl _ this
  unfold fD fW
  rw [hnone, ← hn, h.fnd hf]
  rfl
theorem fS_at {f : Fl} (h : SrtF F) (hf : f ∈ F) : fS F f.name = some (.int .i64 (f.safe : Int)) := by unfold fS; rw [h.fnd hf]; rfl
/-- what is left at the end was never safe -/
theorem fD_end {x : ByteArray} {v : Value} (h : SrtF F) (h2 : ∀ f ∈ F, 0 < f.safe → ∃ f2 ∈ F2, f2.name = f.name) (hs2 : SrtF F2) (hx : fD F F2 F2.length x = some v) : fS F x = some (.int .i64 0) := by
  unfold fD at hx
  rw [List.take_length] at hx
  split at hx
  · cases hx
  · rename_i q
    unfold fW at hx
    rcases fnd_cases (F := F) x with ⟨h3, -⟩ | ⟨f, hf, hn, h3⟩
    · rw [h3] at hx; cases hx
    · subst hn
      rw [fS_at h hf]
      by_cases h0 : 0 < f.safe
      · obtain ⟨f2, hf2, hn2⟩ := h2 f hf h0
        rw [← hn2, hs2.fnd hf2] at q
        exact absurd rfl q
      · rw [show f.safe = 0 by omega]; rfl
theorem zStr (w : World) : (zeroValue 9).run Try.prog w = .ok (.string ⟨#[]⟩) w := by kernel_rfl
theorem zInt (w : World) : (zeroValue 3).run Try.prog w = .ok (.int .i64 0) w := by kernel_rfl
end Rk
end Go.Proofs.Ytfaifdidillkaaa
