/- A snapshot's bytes cut short, or with one more, on lists. No condition. -/
import Derived.Test.YtiepnaifgdlnlaaEdL
namespace Go.Proofs.Ytiepnaifgdlnlaa
open Go.ChangeShapes Go.WideShapes Go.ChangeAt Go.RowKit
set_option linter.unusedVariables false
set_option maxRecDepth 100000
namespace Sc
open Cm Nm Sh
/-- the reader of what lacks the last byte, where the reader of the whole has R left -/
def Cut (R : List Int) (st : Pst) : Prop := (R ≠ [] ∧ st = (R.dropLast, 0)) ∨ st.2 = 10
theorem numI_ne (n : Int) : numI n ≠ [] := by unfold numI Oc.numL; simp
theorem cut_short {m n : Int} (h0 : 0 ≤ n) (h1 : n ≤ 18446744073709551615) : pnum m ((numI n).dropLast, 0) = (0, ((numI n).dropLast, 10)) := by
  have hr : Oc.rdL ((numI n).dropLast) = (0, 0, 10) := by
    have q := Oc.rd_cut n.toNat (by omega)
    have e : (numI n).dropLast = (Oc.numL n.toNat).take (Oc.bw n.toNat) := by
      unfold numI
      rw [List.dropLast_eq_take, Oc.numL_length]
      rfl
    rw [e]
    exact q
  exact pnum_err hr (by decide)
theorem cut_num {m n : Int} (h0 : 0 ≤ n) (h1 : n ≤ 18446744073709551615) (hm : n ≤ m) {R : List Int} {st : Pst} (h : Cut (numI n ++ R) st) : Cut R (pnum m st).2 ∧ ((pnum m st).2.2 = 0 → (pnum m st).1 = n) := by
  rcases h with ⟨-, rfl⟩ | h
  · by_cases hR : R = []
    · subst hR
      rw [List.append_nil, cut_short h0 h1]
      exact ⟨.inr rfl, fun q => by simp at q⟩
    · rw [List.dropLast_append_of_ne_nil hR, pnum_num h0 h1 hm]
      exact ⟨.inl ⟨hR, rfl⟩, fun _ => rfl⟩
  · have hs : (st.2 == 0) = false := by rw [h]; rfl
    rw [pnum_stuck hs]
    exact ⟨.inr h, fun q => by simp only [] at q; omega⟩
theorem cut_list {α : Type} {f : Pst → α × Pst} {e1 : α → List Int} : ∀ (k : Nat) (l : List α), l.length = k → (∀ x ∈ l, ∀ (R : List Int) (st : Pst), Cut (e1 x ++ R) st → Cut R (f st).2) → ∀ (R : List Int) (st : Pst), Cut (l.flatMap e1 ++ R) st → Cut R (listS f k st).2
  | 0, l, hl, h, R, st, hc => by
    obtain rfl := List.eq_nil_of_length_eq_zero hl
    exact hc
  | k + 1, l, hl, h, R, st, hc => by
    rcases List.eq_nil_or_concat l with rfl | ⟨l', x, rfl⟩
    · simp at hl
    · simp only [List.concat_eq_append] at hl hc h
      have hk : l'.length = k := by simpa using hl
      rw [List.flatMap_append, show [x].flatMap e1 = e1 x by simp, List.append_assoc] at hc
      rw [listS]
      exact h x (by simp) R _ (cut_list k l' hk (fun y hy => h y (by simp [hy])) (e1 x ++ R) st hc)
theorem cut_many {α : Type} {f : Pst → α × Pst} {e1 : α → List Int} (hf : Stuck f) {l : List α} (h : ∀ x ∈ l, ∀ (R : List Int) (st : Pst), Cut (e1 x ++ R) st → Cut R (f st).2) {k : Nat} {R : List Int} {st : Pst} (hc : Cut (l.flatMap e1 ++ R) st) (hk : st.2 = 0 → k = l.length) : Cut R (listS f k st).2 := by
  by_cases h0 : st.2 = 10
  · rw [listS_stuck hf k st (by rw [h0]; rfl)]
    exact .inr h0
  · have h1 : st.2 = 0 := by
      rcases hc with ⟨-, rfl⟩ | q
      · rfl
      · exact absurd q h0
    exact cut_list k l (hk h1).symm h R st hc
theorem held_cut {x : Held} (h : (1 ≤ x.token ∧ x.token ≤ 65535) ∧ (1 ≤ x.node ∧ x.node ≤ 7) ∧ (0 ≤ x.boot ∧ x.boot ≤ 18446744073709551615) ∧ (0 ≤ x.serial ∧ x.serial ≤ 18446744073709551615) ∧ (0 ≤ x.stamp ∧ x.stamp ≤ 18446744073709551615)) {R : List Int} {st : Pst} (hc : Cut (encN (heldNs x) ++ R) st) : Cut R (heldS st).2 := by
  unfold heldNs at hc
  simp only [encN_cons2, encN_nil, List.append_assoc, List.nil_append] at hc
  exact (cut_num h.2.2.2.2.1 h.2.2.2.2.2 h.2.2.2.2.2 (cut_num h.2.2.2.1.1 h.2.2.2.1.2 h.2.2.2.1.2 (cut_num h.2.2.1.1 h.2.2.1.2 h.2.2.1.2 (cut_num (by omega) (by omega) (by omega) (cut_num (by omega) (by omega) h.1.2 hc).1).1).1).1).1
theorem last_cut {x : LastR} (h : (1 ≤ x.node ∧ x.node ≤ 7) ∧ (0 ≤ x.boot ∧ x.boot ≤ 18446744073709551615) ∧ (0 ≤ x.seq ∧ x.seq ≤ 18446744073709551615) ∧ (0 ≤ x.code ∧ x.code ≤ 65535) ∧ (0 ≤ x.token ∧ x.token ≤ 65535) ∧ (0 ≤ x.serial ∧ x.serial ≤ 18446744073709551615)) {R : List Int} {st : Pst} (hc : Cut (encN (lastNs x) ++ R) st) : Cut R (lastS st).2 := by
  unfold lastNs at hc
  simp only [encN_cons2, encN_nil, List.append_assoc, List.nil_append] at hc
  exact (cut_num h.2.2.2.2.2.1 h.2.2.2.2.2.2 h.2.2.2.2.2.2 (cut_num h.2.2.2.2.1.1 (by omega) h.2.2.2.2.1.2 (cut_num h.2.2.2.1.1 (by omega) h.2.2.2.1.2 (cut_num h.2.2.1.1 h.2.2.1.2 h.2.2.1.2 (cut_num h.2.1.1 h.2.1.2 h.2.1.2 (cut_num (by omega) (by omega) (by omega) hc).1).1).1).1).1).1
theorem dec_cut {s : Sho} (hw : s.wf) (ok : shotOk s) : decV (shotB s).dropLast = (zS, 10) := by
  have h := nums_of hw ok
  have hb := shotB_app s []
  rw [List.append_nil] at hb
  simp only [List.append_nil] at hb
  obtain ⟨R9, h9⟩ : ∃ q, encN (lastsNs s.led.last) = q := ⟨_, rfl⟩
  obtain ⟨R8, h8⟩ : ∃ q, numI (s.led.last.length : Int) ++ R9 = q := ⟨_, rfl⟩
  obtain ⟨R7, h7⟩ : ∃ q, encN (heldsNs s.led.held) ++ R8 = q := ⟨_, rfl⟩
  obtain ⟨R6, h6⟩ : ∃ q, numI (s.led.held.length : Int) ++ R7 = q := ⟨_, rfl⟩
  obtain ⟨R5, h5⟩ : ∃ q, numI s.led.next ++ R6 = q := ⟨_, rfl⟩
  obtain ⟨R4, h4⟩ : ∃ q, numI s.led.limit ++ R5 = q := ⟨_, rfl⟩
  obtain ⟨R3, h3⟩ : ∃ q, encN s.nodes ++ R4 = q := ⟨_, rfl⟩
  obtain ⟨R2, h2⟩ : ∃ q, numI (s.nodes.length : Int) ++ R3 = q := ⟨_, rfl⟩
  obtain ⟨R1, h1⟩ : ∃ q, numI s.term ++ R2 = q := ⟨_, rfl⟩
  obtain ⟨R0, h0⟩ : ∃ q, numI s.index ++ R1 = q := ⟨_, rfl⟩
  rw [h9, h8, h7, h6, h5, h4, h3, h2, h1, h0] at hb
  have hn := h.nodes.1
  have hh := h.heldl
  have hl := h.lastl
  have hne : R0 ≠ [] := by rw [← h0]; simp [numI_ne]
  obtain ⟨T, hT⟩ : ∃ q, (shotB s).dropLast = q := ⟨_, rfl⟩
  have hT2 : T = 83 :: R0.dropLast := by rw [← hT, hb, List.dropLast_cons_of_ne_nil hne]
  have c0 : Cut R0 (beginS (T, 0)) := by
    rw [hT2]
    exact .inl ⟨hne, rfl⟩
  rw [← h0] at c0
  have c1 : Cut R1 (sh1 (T, 0)).2 := (cut_num h.index.1 h.index.2 h.index.2 c0).1
  rw [← h1] at c1
  have c2 : Cut R2 (sh2 (T, 0)).2 := (cut_num h.term.1 h.term.2 h.term.2 c1).1
  rw [← h2] at c2
  have c3 : Cut R3 (sh3 (T, 0)).2 ∧ ((sh3 (T, 0)).2.2 = 0 → (sh3 (T, 0)).1 = (s.nodes.length : Int)) := cut_num (by omega) (by omega) (by omega) c2
  have c3' := c3.1
  rw [← h3] at c3'
  have c4 : Cut R4 (sh4 (T, 0)).2 := cut_many (e1 := numI) (pnum_st 65535) (l := s.nodes) (fun n hn R st hc => (cut_num (by have := h.nodes.2 n hn; omega) (by have := h.nodes.2 n hn; omega) (by have := h.nodes.2 n hn; omega) hc).1) c3' (fun q => by rw [c3.2 q]; simp)
  rw [← h4] at c4
  have c5 : Cut R5 (sh5 (T, 0)).2 := (cut_num (by have := h.limit; omega) (by have := h.limit; omega) h.limit.2 c4).1
  rw [← h5] at c5
  have c6 : Cut R6 (sh6 (T, 0)).2 := (cut_num h.next.1 h.next.2 h.next.2 c5).1
  rw [← h6] at c6
  have c7 : Cut R7 (sh7 (T, 0)).2 ∧ ((sh7 (T, 0)).2.2 = 0 → (sh7 (T, 0)).1 = (s.led.held.length : Int)) := cut_num (by omega) (by omega) (by omega) c6
  have c7' := c7.1
  rw [← h7, helds_enc] at c7'
  have c8 : Cut R8 (sh8 (T, 0)).2 := cut_many heldS_st (l := s.led.held) (fun x hx R st hc => held_cut (h.held x hx) hc) c7' (fun q => by rw [c7.2 q]; simp)
  rw [← h8] at c8
  have c9 : Cut R9 (sh9 (T, 0)).2 ∧ ((sh9 (T, 0)).2.2 = 0 → (sh9 (T, 0)).1 = (s.led.last.length : Int)) := cut_num (by omega) (by omega) (by omega) c8
  have c9' := c9.1
  rw [← h9, lasts_enc, ← List.append_nil (List.flatMap _ _)] at c9'
  have c10 : Cut [] (sh10 (T, 0)).2 := cut_many lastS_st (l := s.led.last) (fun x hx R st hc => last_cut (h.last x hx) hc) c9' (fun q => by rw [c9.2 q]; simp)
  have he : (shotS (T, 0)).2.2 = 10 := by
    rcases c10 with ⟨q, -⟩ | q
    · exact absurd rfl q
    · exact q
  have hlen : ¬ 8192 < T.length := by
    have := (shotB_len h).1
    rw [← hT, List.length_dropLast]
    omega
  have hE : errS T = 10 := by unfold errS; rw [he]; rfl
  rw [hT, dec_err hlen (by rw [hE]; decide), hE]
theorem dec_more {s : Sho} (hw : s.wf) (ok : shotOk s) (c : Int) : decV (shotB s ++ [c]) = (zS, 11) := by
  have h := nums_of hw ok
  have hr := shot_read h [c]
  have hl := (shotB_len h).1
  have hE : errS (shotB s ++ [c]) = 11 := by unfold errS; rw [hr]; rfl
  rw [dec_err (by rw [List.length_append]; simp; omega) (by rw [hE]; decide), hE]
end Sc
end Go.Proofs.Ytiepnaifgdlnlaa
