/- What was sealed is opened; what was cut is short: plain mathematics. No condition. -/
import Derived.Test.YtbdjihmgdkailaaDoorFrN
namespace Go.Proofs.YtbdjihmgdkailaaDoor
open Go.ChangeShapes Go.WideShapes Go.ChangeAt Go.RowKit
set_option linter.unusedVariables false
set_option maxRecDepth 100000
namespace Fr
theorem seal_heads {zs r : List Int} : (sealL zs ++ r).getD 0 0 = 255 - ((zs.length / 256 : Nat) : Int) ∧ (sealL zs ++ r).getD 1 0 = 255 - ((zs.length % 256 : Nat) : Int) ∧ (sealL zs ++ r).getD 2 0 = ((zs.length / 256 : Nat) : Int) ∧ (sealL zs ++ r).getD 3 0 = ((zs.length % 256 : Nat) : Int) := by
  unfold sealL hd
  exact ⟨rfl, rfl, rfl, rfl⟩
theorem seal_okHead {zs : List Int} (r : List Int) (hl : zs.length ≤ 8192) : okHead (sealL zs ++ r) ∧ lenOf (sealL zs ++ r) = zs.length := by
  obtain ⟨h0, h1, h2, h3⟩ := seal_heads (zs := zs) (r := r)
  unfold okHead lenOf
  rw [h0, h1, h2, h3]
  refine ⟨⟨by omega, by omega, by omega⟩, by omega⟩
theorem opens_seal {zs : List Int} (r : List Int) (hl : zs.length ≤ 8192) : Opens (sealL zs ++ r) zs (zs.length + 8) 0 := by
  obtain ⟨h1, h2⟩ := seal_okHead r hl
  have hlen : (sealL zs ++ r).length = zs.length + 8 + r.length := by rw [List.length_append, seal_len]
  have e1 : (sealL zs ++ r).take (4 + zs.length) = hd zs.length ++ zs := by
    unfold sealL
    rw [List.append_assoc, List.take_left' (by rw [List.length_append, hd_len])]
  have e2 : ((sealL zs ++ r).drop (4 + zs.length)).take 4 = be4 (Crc.sum (hd zs.length ++ zs)) := by
    unfold sealL
    rw [List.append_assoc, List.drop_left' (by rw [List.length_append, hd_len]), List.take_left' (be4_len _)]
  have e3 : ((sealL zs ++ r).drop 4).take zs.length = zs := by
    unfold sealL
    rw [List.append_assoc, List.append_assoc, List.drop_left' (hd_len _), List.take_left' rfl]
  have h := Opens.ok (zs := sealL zs ++ r) (by omega) h1 (by rw [h2]; omega) (by rw [h2, e1, e2])
  rw [h2, e3] at h
  exact h
theorem getD_take {l : List Int} {n i : Nat} (h : i < n) : (l.take n).getD i 0 = l.getD i 0 := by
  simp [List.getD, h]
theorem opens_cut {zs : List Int} (hl : zs.length ≤ 8192) {n : Nat} (hn : n < zs.length + 8) : Opens ((sealL zs).take n) [] 0 10 := by
  have hlen : ((sealL zs).take n).length = n := by rw [List.length_take, seal_len]; omega
  by_cases h4 : n < 4
  · exact Opens.short4 (by omega)
  · obtain ⟨h1, h2⟩ := seal_okHead [] hl
    rw [List.append_nil] at h1 h2
    have g0 := getD_take (l := sealL zs) (n := n) (i := 0) (by omega)
    have g1 := getD_take (l := sealL zs) (n := n) (i := 1) (by omega)
    have g2 := getD_take (l := sealL zs) (n := n) (i := 2) (by omega)
    have g3 := getD_take (l := sealL zs) (n := n) (i := 3) (by omega)
    have k1 : okHead ((sealL zs).take n) := by unfold okHead at *; rw [g0, g1, g2, g3]; exact h1
    have k2 : lenOf ((sealL zs).take n) = zs.length := by unfold lenOf at *; rw [g2, g3]; exact h2
    exact Opens.short (by omega) k1 (by rw [k2, hlen]; exact hn)
/-- what is taken is the frame of what is told -/
theorem opens_same {zs xs : List Int} {k : Nat} (hb : ∀ i, i < zs.length → 0 ≤ zs.getD i 0 ∧ zs.getD i 0 ≤ 255) (h : Opens zs xs k 0) : xs.length ≤ 8192 ∧ k ≤ zs.length ∧ sealL xs = zs.take k ∧ k = xs.length + 8 := by
  cases h with
  | ok h4 hok hl hs =>
    have h8 : lenOf zs ≤ 8192 := by have := hok.2.2; unfold lenOf; omega
    have hlen : ((zs.drop 4).take (lenOf zs)).length = lenOf zs := by rw [List.length_take, List.length_drop]; omega
    refine ⟨by omega, hl, ?_, by omega⟩
    rw [(seal_iff hb h4 hok hl).2 hs, Nat.add_comm]
theorem opens_err {zs xs : List Int} {k : Nat} {e : Int} (h : Opens zs xs k e) : e = 0 ∨ ((e == 0) = false ∧ xs = [] ∧ k = 0) := by
  cases h
  all_goals first | exact .inl rfl | exact .inr ⟨rfl, rfl, rfl⟩
end Fr
end Go.Proofs.YtbdjihmgdkailaaDoor
