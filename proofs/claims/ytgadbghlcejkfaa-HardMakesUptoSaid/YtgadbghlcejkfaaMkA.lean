/- The records that make what lasts make it: on lists. No condition. -/
import Derived.Test.YtgadbghlcejkfaaHlA
import Derived.Test.YtgadbghlcejkfaaBsB
namespace Go.Proofs.Ytgadbghlcejkfaa
open Go.ChangeShapes Go.WideShapes Go.ChangeAt Go.RowKit Go.Deep
set_option linter.unusedVariables false
set_option maxRecDepth 100000
namespace Rc
open Hd Nv
def Chain : Har → List RecR → Har → Prop
  | S, [], T => S = T
  | S, r :: L, T => can S r ∧ Chain (doH S r) L T
theorem Chain.append : ∀ {L M : List RecR} {S U T : Har}, Chain S L U → Chain U M T → Chain S (L ++ M) T
  | [], _, S, U, T, h, g => by cases h; exact g
  | r :: L, _, S, U, T, h, g => ⟨h.1, Chain.append h.2 g⟩
/-- terms never fall -/
theorem logUp_le {t : Int} {l : List Ent} (h : logUp t l l.length) : ∀ k, k ≤ l.length → t ≤ befE t (l.take k)
  | 0, _ => by rw [List.take_zero, befE_nil]; exact Int.le_refl _
  | k + 1, hk => by
    have h1 := logUp_le h k (by omega)
    have h2 := h k l[k] (by omega) (List.getElem?_eq_getElem (by omega))
    rw [befE_at (by omega)]
    exact Int.le_trans h1 h2.2.1
theorem logUp_mono {t : Int} {l : List Ent} (h : logUp t l l.length) : ∀ d k, k + d = l.length → befE t (l.take k) ≤ befE t l
  | 0, k, hk => by rw [List.take_of_length_le (by omega)]; exact Int.le_refl _
  | d + 1, k, hk => by
    have h1 := logUp_mono h d (k + 1) (by omega)
    have h2 := h k l[k] (by omega) (List.getElem?_eq_getElem (by omega))
    rw [befE_at (by omega)] at h1
    exact Int.le_trans h2.2.1 h1
theorem logUp_take {t : Int} {l : List Ent} {k : Nat} (h : logUp t l l.length) (hk : k ≤ l.length) : logUp t (l.take k) (l.take k).length := by
  intro j y hj hy
  rw [List.length_take, Nat.min_eq_left hk] at hj
  rw [List.getElem?_take_of_lt hj] at hy
  rw [List.take_take, Nat.min_eq_left (by omega)]
  exact h j y (by omega) hy
def startH (h : Har) : Har := ⟨0, h.shot.term, 0, h.shot, []⟩
theorem hardOk_take {h : Har} (ok : hardOk h) {k : Nat} (hk : k ≤ h.log.length) : hardOk { h with log := h.log.take k } := by
  obtain ⟨h1, h2, h3, h4, h5, h6, h7⟩ := ok
  refine ⟨h1, h2, h3, ?_, logUp_take h5 hk, ?_, h7⟩
  · simp only [List.length_take]; omega
  · exact Int.le_trans (logUp_mono h5 (h.log.length - k) k (by omega)) h6
theorem fits_add {i : Int} {x : Ent} (hi : 1 ≤ i) (hx : fitsB x = true) : fitsP (addR i x) :=
  ⟨rfl, rfl, rfl, rfl, ⟨rfl, rfl, rfl, rfl, rfl, rfl, rfl, rfl, rfl⟩, ⟨rfl, rfl, rfl, rfl, rfl, rfl, rfl⟩, .inr (.inr (.inl ⟨rfl, hi, hx⟩))⟩
theorem chain_adds {h : Har} (ok : hardOk h) (h0 : 0 ≤ h.shot.index) : ∀ d k, k + d = h.log.length → Chain { h with log := h.log.take k } (addsL h.shot.index k (h.log.drop k)) h
  | 0, k, hk => by
    rw [List.drop_eq_nil_of_le (by omega), List.take_of_length_le (by omega)]
    rfl
  | d + 1, k, hk => by
    have hlt : k < h.log.length := by omega
    rw [List.drop_eq_getElem_cons hlt]
    have he := ok.2.2.2.2.1 k h.log[k] hlt (List.getElem?_eq_getElem hlt)
    have hdo : doH { h with log := h.log.take k } (addR (h.shot.index + k + 1) h.log[k]) = { h with log := h.log.take (k + 1) } := by
      have e : h.log.take (k + 1) = h.log.take k ++ [h.log[k]] := by
        rw [List.take_add_one, List.getElem?_eq_getElem hlt]; rfl
      rw [e]
      rfl
    refine ⟨⟨hardOk_take ok (by omega), fits_add (by omega) ?_, ?_, by rw [hdo]; exact hardOk_take ok (by omega)⟩, ?_⟩
    · unfold fitsB
      simp only [Bool.and_eq_true, decide_eq_true_eq]
      exact ⟨he.1, he.2.2⟩
    · show h.shot.index + k + 1 = h.shot.index + ((h.log.take k).length : Int) + 1
      rw [List.length_take, Nat.min_eq_left (by omega)]
    · rw [hdo]
      exact chain_adds ok h0 d (k + 1) (by omega)
theorem start_ok {h : Har} (ok : hardOk h) (b t v : Int) (hb : b ≤ top62) (ht : h.shot.term ≤ t) (h0 : 0 ≤ v) (h7 : v ≤ 7) (hv : t = 0 → v = 0) : hardOk ⟨b, t, v, h.shot, []⟩ := by
  obtain ⟨h1, h2, h3, h4, h5, h6, h8⟩ := ok
  refine ⟨hb, h2, h3, ?_, logUp_zero _ _, ?_, ?_⟩
  · simp only [List.length_nil]; omega
  · rw [befE_nil]; exact ht
  · exact ⟨h0, h7, hv⟩
theorem chain_base {h : Har} (ok : hardOk h) (hw : h.wf) : Chain (startH h) (baseL h) h := by
  have w1 := bounds_u64 hw.1
  have w2 := bounds_u64 hw.2.1
  have w3 := Ld.u64_nonneg hw.2.2.2.1
  have w4 := bounds_u64 hw.2.2.2.2.1
  have st : h.shot.term ≤ h.term := by
    have q := logUp_le ok.2.2.2.2.1 h.log.length (Nat.le_refl _)
    rw [List.take_length] at q
    exact Int.le_trans q ok.2.2.2.2.2.1
  have hc := chain_adds ok w3 h.log.length 0 (by omega)
  rw [List.take_zero, List.drop_zero] at hc
  have hv := ok.2.2.2.2.2.2
  refine Chain.append (Chain.append (U := ⟨h.boot, h.shot.term, 0, h.shot, []⟩) ?_ ?_) hc
  · split
    · rename_i e
      show startH h = _
      unfold startH
      rw [e]
    · rename_i e
      refine ⟨⟨start_ok ok 0 h.shot.term 0 (by decide) (Int.le_refl _) (by decide) (by decide) (fun _ => rfl), ⟨rfl, rfl, rfl, rfl, ⟨rfl, rfl, rfl, rfl, rfl, rfl, rfl, rfl, rfl⟩, ⟨rfl, rfl, rfl, rfl, rfl, rfl, rfl⟩, .inl ⟨rfl, ?_⟩⟩, ?_, start_ok ok h.boot h.shot.term 0 ok.1 (Int.le_refl _) (by decide) (by decide) (fun _ => rfl)⟩, rfl⟩
      · show 1 ≤ h.boot
        omega
      · show 0 < h.boot
        omega
  · split
    · rename_i e
      have e2 : h.shot.term = 0 := by omega
      have e3 := hv.2.2 e
      show (⟨h.boot, h.shot.term, 0, h.shot, []⟩ : Har) = ⟨h.boot, h.term, h.vote, h.shot, []⟩
      rw [e2, e3, e]
    · rename_i e
      refine ⟨⟨start_ok ok h.boot h.shot.term 0 ok.1 (Int.le_refl _) (by decide) (by decide) (fun _ => rfl), ⟨rfl, rfl, rfl, rfl, ⟨rfl, rfl, rfl, rfl, rfl, rfl, rfl, rfl, rfl⟩, ⟨rfl, rfl, rfl, rfl, rfl, rfl, rfl⟩, .inr (.inl ⟨rfl, ?_, hv.1, hv.2.1⟩)⟩, ?_, start_ok ok h.boot h.term h.vote ok.1 st hv.1 hv.2.1 hv.2.2⟩, rfl⟩
      · show 1 ≤ h.term
        omega
      · show h.shot.term < h.term ∨ (h.term = h.shot.term ∧ ((0 : Int) = 0 ∨ (0 : Int) = h.vote))
        omega
theorem Chain.split {L : List RecR} {S T : Har} {k : Nat} (h : Chain S (L.drop k) T) (hk : k < L.length) : can S L[k] ∧ Chain (doH S L[k]) (L.drop (k + 1)) T := by
  rw [List.drop_eq_getElem_cons hk] at h
  exact h
end Rc
end Go.Proofs.Ytgadbghlcejkfaa
