/- What a snapshot leaves of a log: nothing behind it changes. No condition. A snapshot that At tells may be, and what lasts behind it too. No condition. The snapshot at an index as a record: it may come, and nothing of the log behind it changes. No condition. -/
import Derived.Test.YtgadbghlcejkfaaAtE
import Derived.Test.YtgadbghlcejkfaaHdV
import Derived.Test.YtgadbghlcejkfaaDoQ
namespace Go.Proofs.Ytgadbghlcejkfaa
open Go.ChangeShapes Go.WideShapes Go.ChangeAt Go.RowKit Go.Deep
set_option linter.unusedVariables false
set_option maxRecDepth 100000
namespace At
open Hd Rl Ld La Rc
theorem befE_app (t : Int) (a : List Ent) : ∀ b : List Ent, befE t (a ++ b) = befE (befE t a) b := by
  intro b
  by_cases hb : b = []
  · subst hb
    rw [List.append_nil, befE_nil]
  · unfold befE
    rw [List.getLast?_append]
    obtain ⟨y, hy⟩ : ∃ y, b.getLast? = some y := ⟨_, List.getLast?_eq_some_getLast hb⟩
    rw [hy]
    rfl
/-- the term at an index that is there -/
theorem term_bef {h : Har} {K : Nat} (hK : K ≤ h.log.length) : (termP h (h.shot.index + K)).1 = befE h.shot.term (h.log.take K) := by
  cases K with
  | zero =>
    rw [termP_shot (by omega), List.take_zero, befE_nil]
  | succ j =>
    have hj : j < h.log.length := by omega
    have hx : h.log[((h.shot.index + ((j + 1 : Nat) : Int) - h.shot.index).toNat - 1)]? = some h.log[j] := by
      rw [show (h.shot.index + ((j + 1 : Nat) : Int) - h.shot.index).toNat - 1 = j by omega, List.getElem?_eq_getElem hj]
    rw [termP_log (by omega) (by unfold lastI; omega) hx, befE_at hj]
/-- what lasts behind the snapshot at shot.index + K -/
def cutH (h : Har) (s : Sho) (K : Nat) : Har := { h with shot := s, log := h.log.drop K }
theorem behind_cut {h : Har} {s : Sho} {K : Nat} (hK : K ≤ h.log.length) (hi : s.index = h.shot.index + K) (ht : s.term = (termP h (h.shot.index + K)).1) : behindL h s = h.log.drop K :=
  behindL_yes hi hK (by rw [ht, term_bef hK])
theorem last_cut {h : Har} {s : Sho} {K : Nat} (hK : K ≤ h.log.length) (hi : s.index = h.shot.index + K) : lastI (cutH h s K) = lastI h := by
  unfold lastI cutH
  simp only [List.length_drop]
  omega
theorem term_cut {h : Har} {s : Sho} {K : Nat} (hK : K ≤ h.log.length) (hi : s.index = h.shot.index + K) (ht : s.term = (termP h (h.shot.index + K)).1) {p : Int} (hp : s.index ≤ p) : termP (cutH h s K) p = termP h p := by
  by_cases e : p = s.index
  · rw [termP_shot (h := cutH h s K) e]
    show (s.term, true) = _
    rw [ht, e, hi]
    have q := (term_in (h := h) (i := h.shot.index + K)).2 ⟨by omega, by unfold lastI; omega⟩
    rw [← q]
  · by_cases c : p ≤ lastI h
    · obtain ⟨j, hj⟩ : ∃ j : Nat, p = h.shot.index + K + j + 1 := ⟨(p - s.index - 1).toNat, by omega⟩
      unfold lastI at c
      have hjl : K + j < h.log.length := by omega
      have h1 : h.log[((p - h.shot.index).toNat - 1)]? = some h.log[K + j] := by
        rw [show (p - h.shot.index).toNat - 1 = K + j by omega, List.getElem?_eq_getElem hjl]
      have h2 : (cutH h s K).log[((p - (cutH h s K).shot.index).toNat - 1)]? = some h.log[K + j] := by
        show (h.log.drop K)[((p - s.index).toNat - 1)]? = _
        rw [show (p - s.index).toNat - 1 = j by omega, List.getElem?_drop, List.getElem?_eq_getElem hjl]
      rw [termP_log (h := h) (by omega) (by unfold lastI; omega) h1, termP_log (h := cutH h s K) (by show s.index < p; omega) (by rw [last_cut hK hi]; unfold lastI; omega) h2]
    · rw [termP_none (h := h) (by omega) (fun q => c q.2), termP_none (h := cutH h s K) e (fun q => c (by rw [← last_cut hK hi]; exact q.2))]
theorem atL_cut {h : Har} {s : Sho} {K : Nat} (hi : s.index = h.shot.index + K) (hl : s.led = atL h K) : ∀ j, atL (cutH h s K) j = atL h (K + j)
  | 0 => hl
  | j + 1 => by
    have ih := atL_cut hi hl j
    rw [show K + (j + 1) = (K + j) + 1 by omega]
    have hg : (cutH h s K).log[j]? = h.log[K + j]? := by
      show (h.log.drop K)[j]? = _
      rw [List.getElem?_drop]
    cases hx : h.log[K + j]? with
    | none =>
      rw [hx] at hg
      rw [atL, atL, hg, hx]
      exact ih
    | some x =>
      rw [hx] at hg
      rw [atL_succ hg, atL_succ hx, ih]
      congr 2
      show s.index + (j : Int) + 1 = h.shot.index + ((K + j : Nat) : Int) + 1
      rw [hi]
      omega
theorem cf_cut {h : Har} {s : Sho} {K : Nat} {p : Int} (hi : s.index = h.shot.index + K) (hn : s.nodes = (cfP h p K).2) : ∀ j, (cfP (cutH h s K) p j).2 = (cfP h p (K + j)).2
  | 0 => hn
  | j + 1 => by
    have ih := cf_cut hi hn j
    rw [show K + (j + 1) = (K + j) + 1 by omega]
    have hg : (cutH h s K).log[j]? = h.log[K + j]? := by
      show (h.log.drop K)[j]? = _
      rw [List.getElem?_drop]
    have hidx : (cutH h s K).shot.index + (j : Int) + 1 = h.shot.index + ((K + j : Nat) : Int) + 1 := by
      show s.index + (j : Int) + 1 = _
      rw [hi]
      omega
    rw [cfP, cfP, hg]
    cases hx : h.log[K + j]? with
    | none => exact ih
    | some x =>
      dsimp only
      rw [hidx]
      split
      · rfl
      · exact ih
/-- up to an index that is there, what lies behind it does not matter -/
theorem cf_up {h : Har} {i p : Int} (hip : i ≤ p) : ∀ k : Nat, h.shot.index + k ≤ i → cfP h p k = cfP h i k
  | 0, _ => rfl
  | k + 1, hk => by
    have ih := cf_up (h := h) hip k (by omega)
    rw [cfP, cfP]
    cases hx : h.log[k]? with
    | none => exact ih
    | some x =>
      dsimp only
      by_cases c : x.cmd.kind = 2
      · rw [if_pos ⟨by omega, c⟩, if_pos ⟨by omega, c⟩]
      · rw [if_neg (fun q => c q.2), if_neg (fun q => c q.2)]
        exact ih
end At
end Go.Proofs.Ytgadbghlcejkfaa
namespace Go.Proofs.Ytgadbghlcejkfaa
open Go.ChangeShapes Go.WideShapes Go.ChangeAt Go.RowKit Go.Deep
set_option linter.unusedVariables false
set_option maxRecDepth 100000
namespace At
open Hd Rl Ld La Rc Cm
theorem putAt_mem {α : Type} {k : Nat} {x y : α} {l : List α} (h : y ∈ putAt k x l) : y = x ∨ y ∈ l := by
  unfold putAt at h
  rcases List.mem_append.1 h with h | h
  · exact .inr (List.mem_of_mem_take h)
  · rcases List.mem_cons.1 h with h | h
    · exact .inl h
    · exact .inr (List.mem_of_mem_drop h)
theorem cutAt_mem {α : Type} {k : Nat} {y : α} {l : List α} (h : y ∈ cutAt k l) : y ∈ l := by
  unfold cutAt at h
  rcases List.mem_append.1 h with h | h
  · exact List.mem_of_mem_take h
  · exact List.mem_of_mem_drop h
theorem exec_held {l : Led} {i : Int} {c : Cmd} {y : Held} (h : y ∈ (execL l i c).1.held) : y ∈ l.held ∨ y.stamp = i := by
  unfold execL at h
  split at h
  · unfold grantL at h
    split at h
    · exact .inl h
    · rcases putAt_mem h with h | h
      · subst h; exact .inr rfl
      · exact .inl h
  · split at h
    · exact .inl h
    · split at h
      · rcases List.mem_or_eq_of_mem_set h with h | h
        · exact .inl h
        · subst h; exact .inr rfl
      · exact .inl (cutAt_mem h)
theorem once_held {l : Led} {i : Int} {c : Cmd} {y : Held} (h : y ∈ (onceL l i c).1.held) : y ∈ l.held ∨ y.stamp = i := by
  unfold onceL at h
  split at h
  · exact exec_held h
  · split at h
    · unfold foundL at h
      split at h
      · exact .inl h
      · split at h
        · exact .inl h
        · exact exec_held h
    · exact exec_held h
theorem do_held {l : Led} {i : Int} {c : Cmd} {y : Held} (h : y ∈ (doL l i c).1.held) : y ∈ l.held ∨ y.stamp = i := by
  unfold doL at h
  split at h
  · exact .inl h
  · split at h
    · exact exec_held h
    · exact once_held h
theorem at_stamps {h : Har} (ok : hardOk h) : ∀ k : Nat, ∀ y ∈ (atL h k).held, y.stamp ≤ h.shot.index + k
  | 0, y, hy => by
    obtain ⟨j, hj⟩ := List.getElem?_of_mem hy
    have q := ok.2.1.2.2.2 j y (List.getElem?_eq_some_iff.1 hj).1 hj
    omega
  | k + 1, y, hy => by
    cases hx : h.log[k]? with
    | none =>
      rw [atL, hx] at hy
      have := at_stamps ok k y hy
      omega
    | some x =>
      rw [atL_succ hx] at hy
      rcases do_held hy with q | q
      · have := at_stamps ok k y q
        omega
      · rw [q]
        omega
theorem chk_conf {c : Cmd} (h : chkC c = true) (hk : c.kind = 2) : Nd.chk c.nodes = true := by
  have f := (chk_of h).2 6 (by omega)
  unfold okF fieldsL at f
  rw [hk] at f
  simpa [fitsF] using f
theorem cf_chk {h : Har} {u : Int} (ok : hardOk h) : ∀ k, Nd.chk (cfP h u k).2 = true
  | 0 => ok.2.1.1
  | k + 1 => by
    rw [cfP]
    cases hx : h.log[k]? with
    | none => exact cf_chk ok k
    | some x =>
      dsimp only
      split
      · rename_i q
        exact chk_conf (ent_chk ok hx) q.2
      · exact cf_chk ok k
theorem atS_at {h : Har} {K : Nat} : atS h (h.shot.index + K) = ⟨h.shot.index + K, (termP h (h.shot.index + K)).1, (confV h (h.shot.index + K)).2, atL h K⟩ := by
  unfold atS
  rw [show (h.shot.index + (K : Int) - h.shot.index).toNat = K by omega]
theorem shot_ok {h : Har} (ok : hardOk h) (hw : HarW h) (he : EntsW h) {K : Nat} (hK : K ≤ h.log.length) : Sh.shotOk (atS h (h.shot.index + K)) := by
  have hf := fit_of hw.1 ok
  rw [atS_at]
  refine ⟨by show Nd.chk (confV h _).2 = true; rw [confV_yes ok]; exact cf_chk ok _, led_iff.2 (at_ok ok hf hw he K hK).1, ?_, ?_⟩
  · show h.shot.index + (K : Int) = 0 ↔ (termP h (h.shot.index + K)).1 = 0
    cases K with
    | zero =>
      rw [termP_shot (by omega)]
      have q := ok.2.1.2.2.1
      show h.shot.index + ((0 : Nat) : Int) = 0 ↔ h.shot.term = 0
      rw [← q]
      omega
    | succ j =>
      have hj : j < h.log.length := by omega
      have q := (ok.2.2.2.2.1 j h.log[j] hj (List.getElem?_eq_getElem hj)).1
      rw [term_bef hK, befE_at hj]
      have := hf.1
      exact ⟨fun e => by omega, fun e => by omega⟩
  · intro j y hj hy
    exact at_stamps ok K y (List.mem_of_getElem? hy)
theorem bef_cut {h : Har} {K j : Nat} : befE (befE h.shot.term (h.log.take K)) ((h.log.drop K).take j) = befE h.shot.term (h.log.take (K + j)) := by
  rw [← befE_app, List.take_add]
theorem hard_cut {h : Har} (ok : hardOk h) (hw : HarW h) (he : EntsW h) {K : Nat} (hK : K ≤ h.log.length) : hardOk (cutH h (atS h (h.shot.index + K)) K) := by
  have hs := shot_ok ok hw he hK
  have ht : (atS h (h.shot.index + K)).term = befE h.shot.term (h.log.take K) := by
    rw [atS_at]
    exact term_bef hK
  obtain ⟨o1, o2, o3, o4, o5, o6, o7, o8, o9⟩ := ok
  refine ⟨o1, hs, ?_, ?_, ?_, ?_, o7, o8, o9⟩
  · show h.shot.index + (K : Int) ≤ top62
    omega
  · show h.shot.index + (K : Int) + ((h.log.drop K).length : Int) ≤ top62
    rw [List.length_drop]
    omega
  · show logUp (atS h (h.shot.index + K)).term (h.log.drop K) (h.log.drop K).length
    intro j y hj hy
    rw [ht, bef_cut]
    rw [List.length_drop] at hj
    rw [List.getElem?_drop] at hy
    exact o5 (K + j) y (by omega) hy
  · show befE (atS h (h.shot.index + K)).term (h.log.drop K) ≤ h.term
    rw [ht]
    have q := bef_cut (h := h) (K := K) (j := (h.log.drop K).length)
    rw [List.take_of_length_le (Nat.le_refl _), List.length_drop, show K + (h.log.length - K) = h.log.length by omega, List.take_of_length_le (Nat.le_refl _)] at q
    rw [q]
    exact o6
theorem conf_cut {h : Har} (ok : hardOk h) (hw : HarW h) (he : EntsW h) {K : Nat} (hK : K ≤ h.log.length) {p : Int} (hp : h.shot.index + K ≤ p) : (confV (cutH h (atS h (h.shot.index + K)) K) p).2 = (confV h p).2 := by
  rw [confV_yes (hard_cut ok hw he hK), confV_yes ok]
  have hi : (atS h (h.shot.index + K)).index = h.shot.index + K := rfl
  have hn : (atS h (h.shot.index + K)).nodes = (cfP h p K).2 := by
    show (confV h (h.shot.index + K)).2 = _
    rw [confV_yes ok, show h.log.length = K + (h.log.length - K) by omega, cf_beyond (Int.le_refl _), cf_up (h := h) hp K (Int.le_refl _)]
  rw [cf_cut hi hn]
  show (cfP h p (K + (h.log.drop K).length)).2 = _
  rw [List.length_drop, show K + (h.log.length - K) = h.log.length by omega]
/-- the snapshot at an index is the same with a snapshot at an index that is not greater -/
theorem at_cut {h : Har} (ok : hardOk h) (hw : HarW h) (he : EntsW h) {K : Nat} (hK : K ≤ h.log.length) {p : Int} (hp : h.shot.index + K ≤ p) : atS (cutH h (atS h (h.shot.index + K)) K) p = atS h p := by
  have hi : (atS h (h.shot.index + K)).index = h.shot.index + K := rfl
  have ht : (atS h (h.shot.index + K)).term = (termP h (h.shot.index + K)).1 := rfl
  have hl : (atS h (h.shot.index + K)).led = atL h K := by rw [atS_at]
  obtain ⟨j, hj⟩ : ∃ j : Nat, p = h.shot.index + K + j := ⟨(p - h.shot.index - K).toNat, by omega⟩
  have e1 : (p - (cutH h (atS h (h.shot.index + K)) K).shot.index).toNat = j := by
    show (p - (h.shot.index + (K : Int))).toNat = j
    omega
  have e2 : (p - h.shot.index).toNat = K + j := by omega
  have h1 := term_cut hK hi ht (show (atS h (h.shot.index + K)).index ≤ p from hp)
  have h2 := conf_cut ok hw he hK hp
  have h3 := atL_cut (h := h) (K := K) hi hl j
  generalize cutH h (atS h (h.shot.index + K)) K = H at e1 h1 h2 h3 ⊢
  unfold atS
  rw [e1, e2, h1, h2, h3]
end At
end Go.Proofs.Ytgadbghlcejkfaa
namespace Go.Proofs.Ytgadbghlcejkfaa
open Go.ChangeShapes Go.WideShapes Go.ChangeAt Go.RowKit Go.Deep
set_option linter.unusedVariables false
set_option maxRecDepth 100000
namespace At
open Hd Rl Ld La Rc Cm Nv
theorem okFrom_len : ∀ (l : List Int) (last : Int), 0 ≤ last → last ≤ 7 → Nd.okFrom last l = true → (l.length : Int) ≤ 7 - last
  | [], last, _, h7, _ => by simp; omega
  | n :: l, last, h0, h7, h => by
    by_cases g : 1 ≤ n ∧ n ≤ 7 ∧ last < n
    · rw [Nd.okFrom_good g] at h
      have := okFrom_len l n (by omega) (by omega) h
      simp only [List.length_cons]
      omega
    · rw [Nd.okFrom_bad g] at h
      cases h
theorem chk_len {l : List Int} (h : Nd.chk l = true) : l.length ≤ 7 := by
  unfold Nd.chk at h
  simp only [Bool.and_eq_true] at h
  have := okFrom_len l 0 (by omega) (by omega) h.2
  omega
theorem shot_fits {s : Sho} (h : Sh.shotOk s) : IsShot.fits s := ⟨by have := chk_len h.1; omega, led_fits (led_iff.1 h.2.1)⟩
def shR (s : Sho) : RecR := ⟨5, 0, 0, 0, 0, zEntV, s⟩
theorem shR_fits {s : Sho} (h : Sh.shotOk s) : IsRec.fits (shR s) := ⟨(by decide : (0 : Nat) * 8 ≤ 140737488351232), shot_fits h⟩
theorem shR_un (s : Sho) : unusedR (shR s) = ⟨5, 0, 0, 0, 0, zEntV, zShoV⟩ := by
  unfold unusedR shR
  simp
theorem shR_fitsP {s : Sho} (h : Sh.shotOk s) : fitsP (shR s) := by
  unfold fitsP
  rw [shR_un]
  exact ⟨rfl, rfl, rfl, rfl, by simp [zEnt, zCmd, zEntV], by simp [zSho, zLedg, zShoV], .inr (.inr (.inr (.inr ⟨rfl, h⟩)))⟩
theorem shR_is {w : World} {s : Sho} {vn vh vl : Value} (h1 : Sl .i64 w vn s.nodes) (h2 : SlR 5 heldC w vh s.led.held) (h3 : SlR 6 lastC w vl s.led.last) (hw : s.wf) : IsRec w (.agg (rArr (shR s) (.slice none 0 0) vn vh vl)) (shR s) :=
  ⟨_, _, _, _, rfl, ⟨OwnK.sl (OwnK.nil .i64 3 w 0) (by simp [shR, zEntV]), h1, h2, h3⟩, (by decide : (Lit.int .i64 5).wf = true), (by decide : (Lit.int .i64 0).wf = true), (by decide : (Lit.int .u64 0).wf = true), (by decide : (Lit.int .u64 0).wf = true), (by decide : (Lit.int .u64 0).wf = true), zEnt_wf, hw⟩
theorem do_shR (h : Har) (s : Sho) : doH h (shR s) = { h with shot := s, log := behindL h s } := by
  unfold doH shR
  simp
theorem doR_fits {h : Har} {s : Sho} (f : IsHard.fits h) (g : Sh.shotOk s) : IsHard.fits (doH h (shR s)) := by
  rw [do_shR]
  have q : (behindL h s).length ≤ h.log.length ∧ ∀ x ∈ behindL h s, x ∈ h.log := by
    unfold behindL
    split
    · exact ⟨Nat.zero_le _, fun x hx => by simp at hx⟩
    · split
      · exact ⟨by rw [List.length_drop]; omega, fun x hx => List.mem_of_mem_drop hx⟩
      · exact ⟨Nat.zero_le _, fun x hx => by simp at hx⟩
  exact ⟨shot_fits g, by have := f.2.1; show (behindL h s).length * 88 ≤ _; have := q.1; omega, fun x hx => f.2.2 x (q.2 x hx)⟩
abbrev AtD (h : Har) (p z : Int) (s : Sho) : Prop := (z = 0 ∧ hardOk h ∧ (termP h p).2 = true ∧ s = atS h p) ∨ (z = 130 ∧ ¬ hardOk h ∧ s = zShoV) ∨ (z = 4 ∧ hardOk h ∧ (termP h p).2 = false ∧ s = zShoV)
theorem shots_same {h : Har} {i : Int} (ok : hardOk h) (hw : HarW h) (he : EntsW h) (hin : (termP h i).2 = true) : Sh.shotOk (atS h i) ∧ can h (shR (atS h i)) ∧ lastV (doH h (shR (atS h i))) = lastV h ∧ ∀ p z z2 s s2, i ≤ p → AtD h p z s → AtD (doH h (shR (atS h i))) p z2 s2 → s2 = s ∧ z2 = z := by
  have hr := term_in.1 hin
  unfold lastI at hr
  obtain ⟨K, rfl⟩ : ∃ K : Nat, i = h.shot.index + K := ⟨(i - h.shot.index).toNat, by omega⟩
  have hK : K ≤ h.log.length := by omega
  have hs := shot_ok ok hw he hK
  have hi : (atS h (h.shot.index + K)).index = h.shot.index + K := rfl
  have ht : (atS h (h.shot.index + K)).term = (termP h (h.shot.index + K)).1 := rfl
  have hdo : doH h (shR (atS h (h.shot.index + K))) = cutH h (atS h (h.shot.index + K)) K := by
    rw [do_shR, behind_cut hK hi ht]
    rfl
  have hc := hard_cut ok hw he hK
  have hat := fun {p : Int} (hp : h.shot.index + K ≤ p) => at_cut ok hw he hK hp
  have htc := fun {p : Int} (hp : h.shot.index + K ≤ p) => term_cut (h := h) (s := atS h (h.shot.index + K)) hK hi ht (p := p) hp
  have hlc := last_cut (h := h) (s := atS h (h.shot.index + K)) hK hi
  rw [hdo]
  refine ⟨hs, ⟨ok, shR_fitsP hs, ?_, by rw [hdo]; exact hc⟩, ?_, ?_⟩
  · show h.shot.index ≤ h.shot.index + (K : Int)
    omega
  · rw [lastV_yes hc, lastV_yes ok, hlc, htc (by unfold lastI; omega)]
  · intro p z z2 s s2 hp hd hd2
    generalize cutH h (atS h (h.shot.index + K)) K = H at hc hat htc hd2
    have e1 := htc hp
    have e2 := hat hp
    rcases hd with ⟨a1, a2, a3, a4⟩ | ⟨a1, a2, a4⟩ | ⟨a1, a2, a3, a4⟩ <;> rcases hd2 with ⟨b1, b2, b3, b4⟩ | ⟨b1, b2, b4⟩ | ⟨b1, b2, b3, b4⟩
    · exact ⟨by rw [b4, a4, e2], b1.trans a1.symm⟩
    · exact absurd hc b2
    · rw [e1, a3] at b3; cases b3
    · exact absurd ok a2
    · exact absurd ok a2
    · exact absurd ok a2
    · rw [e1, a3] at b3; cases b3
    · exact absurd hc b2
    · exact ⟨b4.trans a4.symm, b1.trans a1.symm⟩
end At
end Go.Proofs.Ytgadbghlcejkfaa
