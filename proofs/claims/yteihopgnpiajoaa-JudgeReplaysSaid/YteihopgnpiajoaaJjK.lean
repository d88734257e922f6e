/- What Judge leaves open keeps the budget: on lists; a set of tokens. No condition. -/
import Derived.Test.YteihopgnpiajoaaJjI
import Derived.Test.YteihopgnpiajoaaJjG
namespace Go.Proofs.Yteihopgnpiajoaa
open Go.ChangeShapes Go.WideShapes Go.ChangeAt Go.RowKit Go.Deep
set_option linter.unusedVariables false
set_option maxRecDepth 100000
set_option linter.unusedSimpArgs false
theorem SlR.take {α : Type} {sz : Nat} {C : α → List Value} {w : World} {a : Option Addr} {c : Nat} {xs : List α} (h : SlR sz C w (.slice a xs.length c) xs) (k : Nat) (hk : k ≤ xs.length) : SlR sz C w (.slice a k c) (xs.take k) := by
  obtain ⟨a, cap, e, h1, h2, h3⟩ := h
  simp only [Value.slice.injEq] at e
  obtain ⟨rfl, -, rfl⟩ := e
  have hl : (xs.take k).length = k := by rw [List.length_take]; omega
  refine ⟨_, c, by rw [hl], by omega, h2, ?_⟩
  rcases h3 with ⟨h3, h4, rfl⟩ | ⟨b, off, sp, h3, h4⟩
  · exact .inl ⟨h3, h4, by simp⟩
  · refine .inr ⟨b, off, sp, h3, ?_⟩
    rcases h4 with rfl | ⟨h5, h6, h7⟩
    · exact .inl (by simp)
    · exact .inr ⟨h5, h6, fun i x hx j u hu => h7 i x (by
        rw [List.getElem?_take] at hx
        split at hx
        · exact hx
        · cases hx) j u hu⟩
namespace Jj
variable {w w' : World} {lim : Int}
theorem fine_take {l : List Sx} {N k : Nat} (h : Fine lim l N) (hk : k ≤ N) (hN : N ≤ l.length) : JudP lim (l.take k) (-1) 0 ∧ OkC lim (openL (l.take k)) ∧ (0 < k → 1 ≤ lim) := by
  have hl : (l.take k).length = k := by rw [List.length_take]; omega
  have hf : Fine lim (l.take k) k := fun j s hj hs => by
    have h1 : (l.take k).take j = l.take j := by rw [List.take_take, Nat.min_eq_left (by omega)]
    rw [h1]
    rw [List.getElem?_take, if_pos hj] at hs
    exact h j s (by omega) hs
  have ho := fine_ok hf (by omega)
  rw [List.take_of_length_le (by omega)] at ho
  refine ⟨.inl ⟨rfl, rfl, by rw [hl]; exact hf⟩, ho, fun h0 => ?_⟩
  have hs := rgetD (show 0 < l.length by omega)
  have hw := h 0 _ (by omega) hs
  unfold wrongE at hw
  by_cases hg : goodB lim l[0] = false
  · rw [if_pos hg] at hw; cases hw
  · have hg' : goodB lim l[0] = true := by simpa using hg
    unfold goodB at hg'
    simp only [Bool.and_eq_true, decide_eq_true_eq] at hg'
    exact hg'.1.1.1
theorem budget {o cs : List Cx} (h : OkC lim o) (hs : Srtd o cs) : (cs.map Cx.tok).Nodup ∧ (∀ c ∈ cs, 1 ≤ c.tok ∧ c.tok ≤ lim) ∧ (1 ≤ lim → (cs.length : Int) ≤ lim) := by
  have h1 : (cs.map Cx.tok).Nodup := by
    rw [List.Nodup, List.pairwise_map]
    refine List.Pairwise.imp_of_mem ?_ hs.1
    intro x y hx hy hlt e
    have := h.uniq ((hs.2 x).1 hx) ((hs.2 y).1 hy) e
    subst this
    exact lt_irrefl hlt
  have h2 : ∀ c ∈ cs, 1 ≤ c.tok ∧ c.tok ≤ lim := fun c hc => h.tok c ((hs.2 c).1 hc)
  refine ⟨h1, h2, fun h0 => ?_⟩
  have := Mp.length_sub h1 (c := (List.range lim.toNat).map fun i : Nat => (i : Int) + 1) (fun t ht => by
    obtain ⟨c, hc, rfl⟩ := List.mem_map.1 ht
    have := h2 c hc
    exact List.mem_map.2 ⟨(c.tok - 1).toNat, List.mem_range.2 (by omega), by omega⟩)
  simp only [List.length_map, List.length_range] at this
  omega
/-! ### a set of tokens -/
def fB (ts : List Int) (x : Int) : Option Value := if x ∈ ts then some (.bool true) else none
theorem fB_app (ts : List Int) (t x : Int) : Mp.upd (fB ts) t (some (.bool true)) x = fB (ts ++ [t]) x := by
  unfold fB
  by_cases e : x = t
  · subst e
    rw [Mp.upd_same, if_pos (by simp)]
  · rw [Mp.upd_ne _ _ e]
    by_cases q : x ∈ ts
    · rw [if_pos q, if_pos (by simp [q])]
    · rw [if_neg q, if_neg (by simp [q, e])]
abbrev mB : TypeId := 35
abbrev MB (w : World) (m n : Nat) (f : Int → Option Value) : Prop := Mp.MapF Try.prog 3 (Lit.int .i64) Mp.okI w m n f
theorem zB (w : World) : (zeroValue 4).run Try.prog w = .ok (.bool false) w := by kernel_rfl
theorem fB_none {m n : Nat} {ts : List Int} {t : Int} (h : MB w m n (fB ts)) (ht : Mp.okI t) (hn : t ∉ ts) : (Instr.lookup mB (.map (some m)) (.int .i64 t) false).run Try.prog w = .ok (.bool false) w := by
  have := h.look KI Try.underlying35 (zB w) ht false
  rw [if_neg (by simp)] at this
  rw [this]
  unfold fB
  rw [if_neg hn]; rfl
end Jj
end Go.Proofs.Yteihopgnpiajoaa
