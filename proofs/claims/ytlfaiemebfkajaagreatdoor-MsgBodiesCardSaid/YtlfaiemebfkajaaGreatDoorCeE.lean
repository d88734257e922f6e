/- The document's own reader: Nodes. No condition. The document's own reading of a command: what it comes to, on lists alone. No condition. The document's own reader: Cmd. No condition. The document's own Decode of a command hands back what package cmd's does. No condition. -/
import Derived.Test.YtlfaiemebfkajaaGreatDoorCeD
import Derived.Test.YtlfaiemebfkajaaGreatDoorRdr
import Derived.Test.YtlfaiemebfkajaaGreatDoorCmdKJ
import Derived.BigRegion
namespace Go.Proofs.YtlfaiemebfkajaaGreatDoor
open Go.ChangeShapes Go.WideShapes Go.ChangeAt Go.RowKit
set_option linter.unusedVariables false
set_option maxRecDepth 100000
namespace Cm
def sn (zs : List Int) (u : Nat) (e : Int) : Nat → List Int × Int × Nat
  | 0 => ([], e, u)
  | k + 1 => if ((sn zs u e k).2.1 == 0) = true then ((sn zs u e k).1 ++ [(sm zs (sn zs u e k).2.2 0 65535).1], (sm zs (sn zs u e k).2.2 0 65535).2.1, (sm zs (sn zs u e k).2.2 0 65535).2.2) else sn zs u e k
theorem sn_stop {zs : List Int} {u k : Nat} {e : Int} (h : ((sn zs u e k).2.1 == 0) = false) : ∀ j, sn zs u e (k + j) = sn zs u e k
  | 0 => rfl
  | j + 1 => by
    have ih := sn_stop h j
    show (if ((sn zs u e (k + j)).2.1 == 0) = true then _ else sn zs u e (k + j)) = _
    rw [ih, h, if_neg (by decide)]
theorem sn_bd {zs : List Int} {u : Nat} {e : Int} (hu : u ≤ zs.length) : ∀ k, (sn zs u e k).2.2 ≤ zs.length ∧ (sn zs u e k).1.length ≤ k ∧ ∀ n ∈ (sn zs u e k).1, 0 ≤ n ∧ n ≤ 65535
  | 0 => ⟨hu, Nat.le_refl _, by simp [sn]⟩
  | k + 1 => by
    have ih := sn_bd (e := e) hu k
    have hb := sm_bd (m := 65535) ih.1 0 (by omega)
    unfold sn
    split
    · refine ⟨hb.1, by simp only [List.length_append, List.length_singleton]; omega, fun n hn => ?_⟩
      rcases List.mem_append.1 hn with hn | hn
      · exact ih.2.2 n hn
      · rw [List.mem_singleton.1 hn]; exact hb.2
    · exact ⟨ih.1, by omega, ih.2.2⟩
def ln (zs : List Int) (u : Nat) (e : Int) : List Int × Int × Nat := sn zs (sm zs u e 7).2.2 (sm zs u e 7).2.1 (sm zs u e 7).1.toNat
theorem ln_bd {zs : List Int} {u : Nat} {e : Int} (hu : u ≤ zs.length) : (ln zs u e).2.2 ≤ zs.length ∧ ∀ n ∈ (ln zs u e).1, 0 ≤ n ∧ n ≤ 65535 := by
  have hb := sm_bd (m := 7) hu e (by omega)
  have := sn_bd (e := (sm zs u e 7).2.1) hb.1 (sm zs u e 7).1.toNat
  exact ⟨this.1, this.2.2⟩
def NodesR (g : Nat) (v : Value) (zs : List Int) (u : Nat) (e : Int) (w : World) (E : Ending) (w' : World) : Prop :=
  ∃ vn, E = .returned vn ∧ OwnI w' w.heap.size vn (ln zs u e).1 ∧ RB g v (ln zs u e).2.2 (ln zs u e).2.1 w' ∧ Only (· = g) w w'

set_option maxHeartbeats 1000000 in
theorem rlist_any (g : Nat) (v : Value) (zs : List Int) (u : Nat) (e : Int) (w : World) (h : RB g v u e w) (hS : ∀ w', Only (· = g) w w' → Sl .u8 w' v zs) (hu : u ≤ zs.length) :
    Calls Tryz.prog 77 #[.pointer (some ⟨g, 0, none⟩)] w (NodesR g v zs u e w) := by
  have hgl : g < w.heap.size := (Array.getElem?_eq_some_iff.1 h).1
  have hs0 := hS w (Only.refl _ _)
  have HS := Lib.hid hS
  have hb7 := sm_bd (m := 7) hu e (by omega)
  have HL : Hid (ln zs u e = sn zs (sm zs u e 7).2.2 (sm zs u e 7).2.1 (sm zs u e 7).1.toNat) := Lib.hid rfl
  clear hS
  go_enter Tryz.func77, Tryz.ntmps77
  go_wp2_with fail
  refine (small_any g v zs u e 7 _ h hs0 hu (by omega) (by omega)).mono ?_
  rintro E w1 ⟨rfl, hr1, ho1, hz1⟩
  generalize sm zs u e 7 = x at *
  obtain ⟨m, e1, u1⟩ := x
  obtain ⟨b1, b2, b3⟩ := hb7
  obtain ⟨M, rfl⟩ : ∃ M : Nat, m = M := ⟨m.toNat, by omega⟩
  rw [Int.toNat_natCast] at HL
  clear h hs0 hz1
  go_wp2_with fail
  go_loopw [3, 4] (fun o i wr => ∃ k : Nat, k ≤ M ∧ i = .int .i64 ((M : Int) - (k : Int)) ∧ OwnI wr w.heap.size o (sn zs u1 e1 k).1 ∧ RB g v (sn zs u1 e1 k).2.2 (sn zs u1 e1 k).2.1 wr ∧ Only (· = g) w wr) (fun _ i _ => (intOf i).toNat)
  case atStart => exact ⟨0, Nat.zero_le _, by simp, OwnK.nil _ _ _ _, hr1, ho1⟩
  case round =>
    obtain ⟨k, hk, rfl, hown, hr, ho⟩ := hrel
    clear hr1 ho1
    have hbd := sn_bd (e := e1) (zs := zs) b1 k
    have c2 := hr.c2
    have hk3 : (M : Int) ≤ 7 := b3
    by_cases hlt : k < M
    · cases hst : ((sn zs u1 e1 k).2.1 == 0) with
      | false =>
        obtain ⟨j, hj⟩ : ∃ j, M = k + j := ⟨M - k, by omega⟩
        have HF := Lib.hid (HL.out.trans ((congrArg (sn zs u1 e1) hj).trans (sn_stop hst j)))
        have hpos : (0 : Int) < (M : Int) - (k : Int) := by omega
        clear hj hbd
        generalize sn zs u1 e1 k = s at *
        obtain ⟨ys, es, us⟩ := s
        go_wp2
        go_ret
        exact ⟨_, rfl, by rw [HF.out]; exact hown, by rw [HF.out]; exact hr, ho⟩
      | true =>
        have hsk : sn zs u1 e1 (k + 1) = ((sn zs u1 e1 k).1 ++ [(sm zs (sn zs u1 e1 k).2.2 0 65535).1], (sm zs (sn zs u1 e1 k).2.2 0 65535).2.1, (sm zs (sn zs u1 e1 k).2.2 0 65535).2.2) := by
          show (if ((sn zs u1 e1 k).2.1 == 0) = true then _ else _) = _
          rw [if_pos hst]
        have HSK := Lib.hid hsk
        have hse : (sn zs u1 e1 k).2.1 = 0 := by simpa using hst
        have hpos : (0 : Int) < (M : Int) - (k : Int) := by omega
        have hsb := sm_bd (m := 65535) hbd.1 0 (by omega)
        obtain ⟨d1, d2, d3⟩ := hbd
        clear hsk d3
        generalize sn zs u1 e1 k = s at *
        obtain ⟨ys, es, us⟩ := s
        have hse' : es = 0 := hse
        subst hse'
        have hlen : ys.length ≤ k := d2
        clear d2 hse hst
        go_wp2_with fail
        refine (small_any g v zs us 0 65535 _ hr (HS.out _ ho) d1 (by omega) (by omega)).mono ?_
        rintro E w2 ⟨rfl, hr2, ho2, hz2⟩
        have hown2 := own_only hown ho2 hgl
        obtain ⟨a1, a2, a3⟩ := hsb
        have hwfn := Lib.hid (show (Lit.int .i64 (sm zs us 0 65535).1).wf = true from WalkArith.wf_i64 (by omega))
        have hz02 := (ho.trans ho2).2.2.2.1
        clear hr hown c2 hz2
        generalize (sm zs us 0 65535).1 = n2 at *
        generalize (sm zs us 0 65535).2.1 = e2 at *
        generalize (sm zs us 0 65535).2.2 = u2 at *
        go_wp2_with (at_builtin; (refine appI rfl _ _ rfl w.heap.size _ _ rfl (hown2.alloc _) _ [n2] rfl (Sl.new (fr := (0, 0)) w2 #[Value.int .i64 n2] [n2] rfl rfl (Nat.le_refl _) (show (1 : Nat) ≤ maxLen by decide) (by intro y hy; simp at hy; subst hy; exact hwfn.out)) (by simp; omega) (by simp; omega) ?_; intro o3 w3 hown3 hb3))
        have hb23 : Below w.heap.size w2 w3 := ((Below.refl _ _).alloc hz02 _).trans hb3
        have ho3 : Only (· = g) w w3 := ⟨hb23.os.trans (ho.trans ho2).1, hb23.tape.trans (ho.trans ho2).2.1, hb23.output.trans (ho.trans ho2).2.2.1, Nat.le_trans hz02 hb23.size, fun j hj hn => (hb23.block j hj).trans ((ho.trans ho2).2.2.2.2 j hj hn)⟩
        have hr3 : RB g v u2 e2 w3 := (hb23.block g hgl).trans hr2
        go_roundw
        case rel => exact ⟨k + 1, by omega, by congr 1; omega, by rw [HSK.out]; exact hown3, by rw [HSK.out]; exact hr3, ho3⟩
        case measure => simp [intOf]; omega
    · obtain rfl : k = M := by omega
      rw [← HL.out] at hown hr
      have hz : (((k : Nat) : Int) - (k : Int)) = 0 := by omega
      rw [hz]
      clear hbd
      go_wp2
      go_ret
      exact ⟨_, rfl, hown, hr, ho⟩
end Cm
end Go.Proofs.YtlfaiemebfkajaaGreatDoor
namespace Go.Proofs.YtlfaiemebfkajaaGreatDoor
open Go.ChangeShapes Go.WideShapes Go.ChangeAt Go.RowKit
set_option linter.unusedVariables false
set_option maxRecDepth 100000
namespace Cm

/-- two answers that are the same, but for how far was read where there is an error -/
def Agr {α : Type} (x y : α × Int × Nat) : Prop := x.2.1 = y.2.1 ∧ (x.2.1 = 0 → x = y)
theorem sm_nx {zs : List Int} (hw : ∀ n ∈ zs, (Lit.int .u8 n).wf = true) {u : Nat} {m : Int} (hm : m ≤ 18446744073709551615) : Agr (sm zs u 0 m) (nx zs u m) := by
  rcases hr : Oc.rdL (zs.drop u) with ⟨n, k, e⟩
  have hrn : rn zs u 0 = nx zs u 18446744073709551615 := rfl
  unfold sm
  rw [hrn]
  rcases Oc.rd_err hr with he | he
  · subst he
    have hn := (Oc.rd_back (fun x hx => hw x (List.mem_of_mem_drop hx)) hr).2.2.1
    rw [nx_ok (m := 18446744073709551615) hr (by omega)]
    simp only [beq_self_eq_true, if_true]
    by_cases hmn : m < (n : Int)
    · rw [if_pos hmn, nx_form hr hmn]
      exact ⟨rfl, fun h => by simp at h⟩
    · rw [if_neg hmn, nx_ok hr (by omega)]
      exact ⟨rfl, fun _ => rfl⟩
  · rw [nx_err (m := 18446744073709551615) hr he, nx_err (m := m) hr he]
    simp only [he, Bool.false_eq_true, if_false]
    exact ⟨rfl, fun _ => rfl⟩
theorem Agr.ok {α : Type} {x y : α × Int × Nat} (h : Agr x y) (he : (x.2.1 == 0) = true) : x = y := h.2 (by simpa using he)
theorem sm_fst {zs : List Int} {u : Nat} {m e : Int} (h : ((sm zs u e m).2.1 == 0) = false) : (sm zs u e m).1 = 0 := by
  unfold sm at *
  split
  · rename_i h1
    rw [if_pos h1] at h
    split
    · rfl
    · rename_i h2; rw [if_neg h2] at h; simp at h
  · rfl
theorem sn_st {zs : List Int} (hw : ∀ n ∈ zs, (Lit.int .u8 n).wf = true) (u : Nat) : ∀ k, Agr (sn zs u 0 k) (st zs u k)
  | 0 => ⟨rfl, fun _ => rfl⟩
  | k + 1 => by
    have ih := sn_st hw u k
    cases h : ((sn zs u 0 k).2.1 == 0) with
    | true =>
      have he := ih.ok h
      have hsm := sm_nx hw (u := (st zs u k).2.2) (m := 65535) (by omega)
      have h1 : sn zs u 0 (k + 1) = ((sn zs u 0 k).1 ++ [(sm zs (sn zs u 0 k).2.2 0 65535).1], (sm zs (sn zs u 0 k).2.2 0 65535).2.1, (sm zs (sn zs u 0 k).2.2 0 65535).2.2) := if_pos h
      have h2 : st zs u (k + 1) = ((st zs u k).1 ++ [(nx zs (st zs u k).2.2 65535).1], (nx zs (st zs u k).2.2 65535).2.1, (nx zs (st zs u k).2.2 65535).2.2) := if_pos (by rw [← he]; exact h)
      rw [h1, h2, he]
      refine ⟨hsm.1, fun h0 => ?_⟩
      rw [hsm.2 h0]
    | false =>
      have h1 := sn_stop h 1
      have h2 := st_stop (zs := zs) (u := u) (k := k) (by rw [← ih.1]; exact h) 1
      rw [h1, h2]
      exact ih
theorem ln_li {zs : List Int} (hw : ∀ n ∈ zs, (Lit.int .u8 n).wf = true) (u : Nat) : Agr (ln zs u 0) (li zs u) := by
  have h7 := sm_nx hw (u := u) (m := 7) (by omega)
  unfold ln li
  cases h : ((sm zs u 0 7).2.1 == 0) with
  | true =>
    have he := h7.ok h
    have h0 : (nx zs u 7).2.1 = 0 := by rw [← he]; simpa using h
    rw [he, if_pos (by rw [h0]; rfl), h0]
    exact sn_st hw _ _
  | false =>
    rw [if_neg (by rw [← h7.1, h]; decide), sm_fst h]
    exact ⟨h7.1, fun h0 => by rw [show (sm zs u 0 7).2.1 = 0 from h0] at h; cases h⟩
theorem ln_err {zs : List Int} {u : Nat} {e : Int} (h : (e == 0) = false) : ln zs u e = ([], e, u) := by
  have h1 : rn zs u e = (0, e, u) := by unfold rn; rw [h]; rfl
  have h2 : sm zs u e 7 = (0, e, u) := by unfold sm; rw [h1]; simp only [h, Bool.false_eq_true, if_false]
  unfold ln
  rw [h2]
  rfl
theorem sm_err {zs : List Int} {u : Nat} {e m : Int} (h : (e == 0) = false) : sm zs u e m = (0, e, u) := by
  have h1 : rn zs u e = (0, e, u) := by unfold rn; rw [h]; rfl
  unfold sm; rw [h1]; simp only [h, Bool.false_eq_true, if_false]
theorem rn_err {zs : List Int} {u : Nat} {e : Int} (h : (e == 0) = false) : rn zs u e = (0, e, u) := by unfold rn; rw [h]; rfl

/-- the field that a letter names -/
def letF (x : Int) : Int := if x = 110 then 0 else if x = 98 then 1 else if x = 113 then 2 else if x = 116 then 3 else if x = 115 then 4 else if x = 109 then 5 else 6
theorem letters (k : Int) (h : 1 ≤ k ∧ k ≤ 6) : fieldsL k = (sbs (fieldS k)).map letF := by
  rcases (show k = 1 ∨ k = 2 ∨ k = 3 ∨ k = 4 ∨ k = 5 ∨ k = 6 by omega) with rfl | rfl | rfl | rfl | rfl | rfl <;> decide
theorem letter_of (k : Int) (h : 1 ≤ k ∧ k ≤ 6) : ∀ x ∈ sbs (fieldS k), x = 108 ∨ x = 110 ∨ x = 116 ∨ x = 98 ∨ x = 113 ∨ x = 115 ∨ x = 109 := by
  rcases (show k = 1 ∨ k = 2 ∨ k = 3 ∨ k = 4 ∨ k = 5 ∨ k = 6 by omega) with rfl | rfl | rfl | rfl | rfl | rfl <;> decide
/-- one field read by the document's own reader -/
def r1 (zs : List Int) (f : Nat) (u : Nat) (e : Int) : Int × Int × Nat := if f = 0 ∨ f = 3 then sm zs u e 65535 else rn zs u e
theorem r1_nx {zs : List Int} (hw : ∀ n ∈ zs, (Lit.int .u8 n).wf = true) {f u : Nat} : Agr (r1 zs f u 0) (nx zs u (mostF f)) := by
  unfold r1 mostF
  split
  · exact sm_nx hw (by omega)
  · exact ⟨rfl, fun _ => rfl⟩
/-- what the document's reader comes to: the command, the error, how many bytes are read -/
def rdK (zs : List Int) : Cmd × Int × Nat :=
  if ((nx zs 0 18446744073709551615).2.1 == 0) = true then if kindB (nx zs 0 18446744073709551615).1 = true then rdC zs (nx zs 0 18446744073709551615).1 (nx zs 0 18446744073709551615).2.2 else (zeroC, 11, 0) else (zeroC, (nx zs 0 18446744073709551615).2.1, 0)
theorem decL_K {zs : List Int} : decL zs = if ((rdK zs).2.1 == 0) = true then if chkC (rdK zs).1 = true then ((rdK zs).1, (rdK zs).2.2, 0) else (zeroC, 0, 40) else (zeroC, 0, (rdK zs).2.1) := by
  unfold decL rdK
  cases h : ((nx zs 0 18446744073709551615).2.1 == 0) with
  | false => simp only [Bool.false_eq_true, if_false, h]
  | true =>
    simp only [if_true]
    cases hk : kindB (nx zs 0 18446744073709551615).1 with
    | false => simp only [Bool.false_eq_true, if_false]; rfl
    | true => simp only [if_true]
end Cm
end Go.Proofs.YtlfaiemebfkajaaGreatDoor
namespace Go.Proofs.YtlfaiemebfkajaaGreatDoor
open Go.ChangeShapes Go.WideShapes Go.ChangeAt Go.RowKit
set_option linter.unusedVariables false
set_option maxRecDepth 100000
namespace Cm

/-- how the reading stands: R is what all of it comes to, fs are the fields still to come -/
def Stt (zs : List Int) (R : Cmd × Int × Nat) (fs : List Int) (c : Cmd) (u : Nat) (e : Int) : Prop := (e = 0 ∧ R = rdF zs fs c u ∧ c.wf) ∨ ((e == 0) = false ∧ R.2.1 = e)
theorem r1_bd {zs : List Int} {u : Nat} (hu : u ≤ zs.length) (f : Nat) (e : Int) : (r1 zs f u e).2.2 ≤ zs.length ∧ 0 ≤ (r1 zs f u e).1 ∧ (r1 zs f u e).1 ≤ 18446744073709551615 ∧ (f = 0 ∨ f = 3 → (r1 zs f u e).1 ≤ 65535) := by
  unfold r1
  split
  · have := sm_bd (m := 65535) hu e (by omega)
    exact ⟨this.1, this.2.1, by omega, fun _ => this.2.2⟩
  · rename_i h
    have := rn_bd hu e
    exact ⟨this.1, this.2.1, this.2.2, fun h2 => absurd h2 h⟩
theorem stt_num {zs : List Int} (hw : ∀ n ∈ zs, (Lit.int .u8 n).wf = true) {R : Cmd × Int × Nat} {fs : List Int} {c : Cmd} {u f : Nat} {e : Int} (h : Stt zs R ((f : Int) :: fs) c u e) (hf : f ≤ 5) (hu : u ≤ zs.length) :
    Stt zs R fs (putC c f (r1 zs f u e).1) (r1 zs f u e).2.2 (r1 zs f u e).2.1 := by
  rcases h with ⟨rfl, hR, hc⟩ | ⟨he, hR⟩
  · have ha := r1_nx hw (f := f) (u := u)
    have hb := r1_bd hu f 0
    have h1 : rd1 zs c ((f : Nat) : Int).toNat u = (putC c f (nx zs u (mostF f)).1, (nx zs u (mostF f)).2.1, (nx zs u (mostF f)).2.2) := by rw [Int.toNat_natCast]; exact rd1_num hf
    cases h2 : ((r1 zs f u 0).2.1 == 0) with
    | true =>
      have h3 := ha.ok h2
      refine .inl ⟨by simpa using h2, ?_, putC_wf hc hf hb.2.1 hb.2.2.1 hb.2.2.2⟩
      rw [hR, rdF_ok (by rw [h1, ← h3]; exact h2), h1, ← h3]
    | false =>
      refine .inr ⟨h2, ?_⟩
      rw [hR, rdF_no (by rw [h1, ← ha.1]; exact h2), h1]
      exact ha.1.symm
  · have h1 : r1 zs f u e = (0, e, u) := by
      unfold r1
      split
      · exact sm_err he
      · exact rn_err he
    rw [h1]
    exact .inr ⟨he, hR⟩
theorem stt_list {zs : List Int} (hw : ∀ n ∈ zs, (Lit.int .u8 n).wf = true) {R : Cmd × Int × Nat} {fs : List Int} {c : Cmd} {u : Nat} {e : Int} (h : Stt zs R (((6 : Nat) : Int) :: fs) c u e) :
    Stt zs R fs { c with nodes := (ln zs u e).1 } (ln zs u e).2.2 (ln zs u e).2.1 := by
  rcases h with ⟨rfl, hR, hc⟩ | ⟨he, hR⟩
  · have ha := ln_li hw u
    have h1 : rd1 zs c (((6 : Nat) : Int)).toNat u = ({ c with nodes := (li zs u).1 }, (li zs u).2.1, (li zs u).2.2) := rd1_six
    cases h2 : ((ln zs u 0).2.1 == 0) with
    | true =>
      have h3 := ha.ok h2
      refine .inl ⟨by simpa using h2, ?_, hc⟩
      rw [hR, rdF_ok (by rw [h1, ← h3]; exact h2), h1, ← h3]
    | false =>
      refine .inr ⟨h2, ?_⟩
      rw [hR, rdF_no (by rw [h1, ← ha.1]; exact h2), h1]
      exact ha.1.symm
  · rw [ln_err he]
    exact .inr ⟨he, hR⟩
theorem kind_yes {zs : List Int} (hw : ∀ n ∈ zs, (Lit.int .u8 n).wf = true) (h : kindB (sm zs 0 0 6).1 = true) : (sm zs 0 0 6).2.1 = 0 ∧ rdK zs = rdC zs (sm zs 0 0 6).1 (sm zs 0 0 6).2.2 := by
  have hrn : rn zs 0 0 = nx zs 0 18446744073709551615 := rfl
  have h6 : 1 ≤ (sm zs 0 0 6).1 ∧ (sm zs 0 0 6).1 ≤ 6 := of_decide_eq_true h
  unfold sm at h h6 ⊢
  rw [hrn] at h h6 ⊢
  unfold rdK
  split
  · rename_i h1
    rw [if_pos h1] at h h6
    split
    · rename_i h2; rw [if_pos h2] at h6; simp at h6
    · rename_i h2; rw [if_neg h2] at h; rw [if_pos h]; exact ⟨rfl, rfl⟩
  · rename_i h1; rw [if_neg h1] at h6; simp at h6
theorem kind_no {zs : List Int} (hw : ∀ n ∈ zs, (Lit.int .u8 n).wf = true) (h : kindB (sm zs 0 0 6).1 = false) : (rdK zs).2.1 = failE (sm zs 0 0 6).2.1 11 ∧ (failE (sm zs 0 0 6).2.1 11 == 0) = false := by
  have hrn : rn zs 0 0 = nx zs 0 18446744073709551615 := rfl
  rcases hx : nx zs 0 18446744073709551615 with ⟨n, er, u⟩
  have hsm : sm zs 0 0 6 = if (er == 0) = true then if 6 < n then (0, 11, u) else (n, 0, u) else (0, er, u) := by unfold sm; rw [hrn, hx]
  have hK : rdK zs = if (er == 0) = true then if kindB n = true then rdC zs n u else (zeroC, 11, 0) else (zeroC, er, 0) := by unfold rdK; rw [hx]
  rw [hsm] at h ⊢
  rw [hK]
  cases he : (er == 0) with
  | false =>
    simp only [Bool.false_eq_true, if_false]
    have : failE er 11 = er := by unfold failE; rw [he]; rfl
    rw [this]
    exact ⟨rfl, he⟩
  | true =>
    rw [he] at h
    simp only [if_true] at h ⊢
    by_cases h2 : 6 < n
    · have hk : kindB n = false := decide_eq_false (by omega)
      rw [if_pos h2, hk]
      exact ⟨rfl, rfl⟩
    · rw [if_neg h2] at h ⊢
      have hk : kindB n = false := h
      rw [hk]
      exact ⟨rfl, rfl⟩

theorem getD_map2 {l : List Int} {k : Nat} {f : Int → Int} (h : k < l.length) : (l.map f).getD k 0 = f (l.getD k 0) := by
  simp [List.getD, List.getElem?_eq_getElem h]
def CmdR (g : Nat) (v : Value) (zs : List Int) (w : World) (E : Ending) (w' : World) : Prop :=
  ∃ (c : Cmd) (a : Option Addr) (q r u : Nat) (e : Int), E = .returned (.agg (cArr c (.slice a q r))) ∧ RB g v u e w' ∧ (rdK zs).2.1 = e ∧ (e = 0 → rdK zs = (c, 0, u) ∧ Sl .i64 w' (.slice a q r) c.nodes ∧ c.wf ∧ OwnI w' w.heap.size (.slice a q r) c.nodes) ∧ Only (· = g) w w'

theorem own_slice {w : World} {B : Nat} {v : Value} {zs : List Int} (hown : OwnI w B v zs) : ∃ a n q, v = .slice a n q := own_form hown
theorem kind_store {w : World} {g : Nat} {c : Cmd} {vn : Value} {k : Int} (h : w.heap[g]? = some (.cells (cArr c vn) 86 (0, 0))) : (w.setCell ⟨g, 0, none⟩ (.int .i64 k)).heap[g]? = some (.cells (cArr { c with kind := k } vn) 86 (0, 0)) := by
  rw [heap_setCell_same w g 0 _ _ _ h]; rfl

set_option maxHeartbeats 4000000 in
theorem rcmd_any (g : Nat) (v : Value) (zs : List Int) (w : World) (h : RB g v 0 0 w) (hS : ∀ w', Only (· = g) w w' → Sl .u8 w' v zs) :
    Calls Tryz.prog 44 #[.pointer (some ⟨g, 0, none⟩)] w (CmdR g v zs w) := by
  have hgl : g < w.heap.size := (Array.getElem?_eq_some_iff.1 h).1
  have hs0 := hS w (Only.refl _ _)
  have HWF := Lib.hid hs0.wf
  have HS := Lib.hid hS
  have hb6 := sm_bd (zs := zs) (u := 0) (m := 6) (Nat.zero_le _) 0 (by omega)
  have hR0 : ((w.alloc (.cells (cArr zeroC (.slice none 0 0)) 86)).alloc (.cells (cArr zeroC (.slice none 0 0)) 86)).heap[w.heap.size]? = some (.cells (cArr zeroC (.slice none 0 0)) 86 (0, 0)) := heap_alloc2_old _ _ _
  have hC0 : ((w.alloc (.cells (cArr zeroC (.slice none 0 0)) 86)).alloc (.cells (cArr zeroC (.slice none 0 0)) 86)).heap[w.heap.size + 1]? = some (.cells (cArr zeroC (.slice none 0 0)) 86 (0, 0)) := heap_alloc2_new _ _ _
  have ho0 : Only (· = g) w ((w.alloc (.cells (cArr zeroC (.slice none 0 0)) 86)).alloc (.cells (cArr zeroC (.slice none 0 0)) 86)) := Only.trans (Only.alloc _ _ _) (Only.alloc _ _ _)
  have hz0 : w.heap.size + 2 ≤ ((w.alloc (.cells (cArr zeroC (.slice none 0 0)) 86)).alloc (.cells (cArr zeroC (.slice none 0 0)) 86)).heap.size := by simp
  have hr0 : RB g v 0 0 ((w.alloc (.cells (cArr zeroC (.slice none 0 0)) 86)).alloc (.cells (cArr zeroC (.slice none 0 0)) 86)) := (heap_alloc_old _ _ (by simp; omega)).trans ((heap_alloc_old _ _ hgl).trans h)
  have HSM := Lib.hid (small_any g v zs 0 0 6 _ hr0 (HS.out _ ho0) (Nat.zero_le _) (by omega) (by omega))
  have HR0 := Lib.hid hR0
  have HC0 := Lib.hid hC0
  have HO0 := Lib.hid ho0
  have HZ0 := Lib.hid hz0
  have HKY := Lib.hid (fun h => kind_yes (zs := zs) hs0.wf h)
  have HKN := Lib.hid (fun h => kind_no (zs := zs) hs0.wf h)
  clear hS hs0 hR0 hC0 ho0 hz0 hr0 h
  go_enter Tryz.func44, Tryz.ntmps44
  go_wp2_with fail
  refine HSM.out.mono ?_
  rintro E w1 ⟨rfl, hr1, ho1, hz1⟩
  have hz1' : w.heap.size + 2 ≤ w1.heap.size := by rw [hz1]; exact HZ0.out
  have hR1 := (ho1.2.2.2.2 w.heap.size (by have := HZ0.out; omega) (by omega)).trans HR0.out
  have hC1 := (ho1.2.2.2.2 (w.heap.size + 1) (by have := HZ0.out; omega) (by omega)).trans HC0.out
  have ho01 := HO0.out.trans ho1
  have hfC := frozen_of_row w1 (w.heap.size + 1) 0 _ _ hC1
  have hcC := kind_cell hC1
  obtain ⟨b1, b2, b3⟩ := hb6
  have hst := kind_store (k := (sm zs 0 0 6).1) hC1
  have hr2 : RB g v (sm zs 0 0 6).2.2 (sm zs 0 0 6).2.1 (w1.setCell ⟨w.heap.size + 1, 0, none⟩ (.int .i64 (sm zs 0 0 6).1)) := (heap_setCell_other _ _ _ _ (by simp; omega)).trans hr1
  have hR2 := (heap_setCell_other w1 ⟨w.heap.size + 1, 0, none⟩ w.heap.size (.int .i64 (sm zs 0 0 6).1) (by simp)).trans hR1
  have ho2 : Only (· = g) w (w1.setCell ⟨w.heap.size + 1, 0, none⟩ (.int .i64 (sm zs 0 0 6).1)) := ⟨ho01.1, ho01.2.1, ho01.2.2.1, by simpa using ho01.2.2.2.1, fun j hj hn => (heap_setCell_other _ _ _ _ (by simp; omega)).trans (ho01.2.2.2.2 j hj hn)⟩
  have hz2 : w.heap.size + 2 ≤ (w1.setCell ⟨w.heap.size + 1, 0, none⟩ (.int .i64 (sm zs 0 0 6).1)).heap.size := by simpa using hz1'
  clear hr1 ho1 hz1 hR1 ho01 hz1' hC1
  generalize sm zs 0 0 6 = x at *
  obtain ⟨kd, e1, u1⟩ := x
  have hwk : (Lit.int .i64 kd).wf = true := WalkArith.wf_i64 (by omega)
  have HWK := Lib.hid hwk
  have hk0 := kind_cell hst
  have HST := Lib.hid hst
  have HR2 := Lib.hid hR2
  have HRR := Lib.hid hr2
  have HO2 := Lib.hid ho2
  have HZ2 := Lib.hid hz2
  clear hst hR2 hr2 ho2 hz2 hwk
  go_wp2_with fail
  refine (rfields_any kd _).mono ?_
  rintro E w2 ⟨rfl, rfl⟩
  cases hkd : kindB kd with
  | false =>
    obtain ⟨n1, n2⟩ := HKN.out hkd
    have HN1 := Lib.hid n1
    have HN2 := Lib.hid n2
    clear n1 n2 hkd
    go_wp2_with fail
    refine (fail_any g v u1 e1 11 _ HRR.out).mono ?_
    rintro E w3 ⟨rfl, hr3, ho3, hz3⟩
    have hC3 := (ho3.2.2.2.2 (w.heap.size + 1) (by have := HZ2.out; omega) (by omega)).trans HST.out
    have hR3 := (ho3.2.2.2.2 w.heap.size (by have := HZ2.out; omega) (by omega)).trans HR2.out
    have ho03 := HO2.out.trans ho3
    clear ho3 hz3
    go_wp2_with (first
      | (refine wpList_load_row rfl 86 (.tmp 3) rfl (w.heap.size + 1) rfl 86 (cArr (kindC kd) (.slice none 0 0)) (0, 0) _ hC3 Tryz.underlying86 rfl (by kernel_rfl) ?_)
      | (refine wpList_store_row rfl 86 (.tmp 2) (.tmp 22) rfl w.heap.size (cArr (kindC kd) (.slice none 0 0)) rfl rfl 86 _ hR3 (by kernel_rfl) rfl (cArr_one _ _ _ _) ?_))
    refine bodyPost_ret (v := .agg (cArr (kindC kd) (.slice none 0 0))) (results_cell_row rfl _ _ w.heap.size 86 _ (0, 0) _ rfl (set_row hR3) Tryz.underlying86 rfl (by kernel_rfl)) rfl ?_
    refine ⟨kindC kd, none, 0, 0, u1, _, rfl, ?_, HN1.out, fun h0 => ?_, ?_⟩
    · exact (setRow_other _ _ _ _ (by omega)).trans hr3
    · have := HN2.out; rw [h0] at this; cases this
    · exact ⟨ho03.1, ho03.2.1, ho03.2.2.1, by simpa using ho03.2.2.2.1, fun j hj hn => (setRow_other _ _ _ _ (by omega)).trans (ho03.2.2.2.2 j hj hn)⟩
  | true =>
    obtain ⟨y1, y2⟩ := HKY.out hkd
    have hy1 : e1 = 0 := y1
    subst hy1
    have hk16 : 1 ≤ kd ∧ kd ≤ 6 := of_decide_eq_true hkd
    have HSB := Lib.hid (sbs_fieldS hk16)
    have HY := Lib.hid y2
    have hfz : (fieldS kd).size = (fieldsL kd).length := by rw [← sbs_length, HSB.out, List.length_map]
    obtain ⟨cap, w4, hq, hs4, hb4, hl4⟩ := run_bytes (w1.setCell ⟨w.heap.size + 1, 0, none⟩ (.int .i64 kd)) (fieldS kd) (by unfold maxLen; have := fieldS_small kd; omega)
    rw [HSB.out] at hs4
    rw [hfz] at hq hs4
    have hzs : (w1.setCell ⟨w.heap.size + 1, 0, none⟩ (.int .i64 kd)).heap.size = w1.heap.size := by simp
    rw [hzs] at hq hs4
    have HS4 := Lib.hid hs4
    have hZ2 := HZ2.out
    rw [hzs] at hZ2
    have hzl : w1.heap.size < w4.heap.size := by rw [hzs] at hl4; exact hl4
    have hr4 : RB g v u1 0 w4 := (hb4.block g (by rw [hzs]; omega)).trans HRR.out
    have hC4 := (hb4.block (w.heap.size + 1) (by rw [hzs]; omega)).trans HST.out
    have hR4 := (hb4.block w.heap.size (by rw [hzs]; omega)).trans HR2.out
    have ho4 : Only (· = g) w w4 := HO2.out.trans (Below.only hb4 _)
    have hLI : Stt zs (rdK zs) ((fieldsL kd).drop 0) (kindC kd) u1 0 := .inl ⟨rfl, HY.out, kindC_wf hk16⟩
    have HLI := Lib.hid hLI
    obtain ⟨hfl, hfb⟩ := fieldsL_bd kd
    have HFB := Lib.hid hfb
    clear hl4 y2 hkd hk16 hs4 hb4 hLI hfb hZ2
    go_wp2
    go_loopw [26] (fun i wr => ∃ (k : Nat) (c : Cmd) (u : Nat) (e : Int) (vn : Value), k ≤ (fieldsL kd).length ∧ i = .int .i64 k ∧ Hid (Stt zs (rdK zs) ((fieldsL kd).drop k) c u e) ∧ u ≤ zs.length ∧ RB g v u e wr ∧ wr.heap[w.heap.size + 1]? = some (.cells (cArr c vn) 86 (0, 0)) ∧ OwnI wr (w.heap.size + 2) vn c.nodes ∧ Hid (∀ x ∈ c.nodes, 0 ≤ x ∧ x ≤ 65535) ∧ Past w4.heap.size (fun j => j = g ∨ j = w.heap.size + 1) w4 wr) (fun i _ => (fieldsL kd).length - (intOf i).toNat)
    case atStart => exact ⟨0, kindC kd, u1, 0, .slice none 0 0, Nat.zero_le _, rfl, HLI, b1, hr4, hC4, OwnK.nil _ _ _ _, Lib.hid (by simp [kindC]), ⟨rfl, rfl, rfl, Nat.le_refl _, fun _ _ _ => rfl⟩⟩
    case round =>
      obtain ⟨k, c, u, e, vn, hk, rfl, HT, hu, hr, hC, hown, HNB, hp⟩ := hrel
      have hsz := hp.2.2.2.1
      have hor : Only (· = g) w wr := ⟨hp.1.trans ho4.1, hp.2.1.trans ho4.2.1, hp.2.2.1.trans ho4.2.2.1, Nat.le_trans ho4.2.2.2.1 hsz, fun j hj hn => (hp.2.2.2.2 j (Nat.lt_of_lt_of_le hj ho4.2.2.2.1) (by omega)).trans (ho4.2.2.2.2 j hj hn)⟩
      have hzr : w.heap.size + 2 ≤ wr.heap.size := by have := HZ2.out; rw [hzs] at this; omega
      have hzw : w.heap.size + 2 ≤ w1.heap.size := by have := HZ2.out; rw [hzs] at this; omega
      have HOR := Lib.hid hor
      by_cases hlt : k < (fieldsL kd).length
      · have hblk : wr.heap[w1.heap.size]? = w4.heap[w1.heap.size]? := hp.2.2.2.2 w1.heap.size hzl (by omega)
        obtain ⟨b, off, hbo, -, hcx⟩ := Sl.at HS4.out (i := k) (by rw [List.length_map]; exact hlt)
        cases hbo
        rw [Nat.zero_add, getD_map2 hlt] at hcx
        have hcr := (World.cell?_of_block (a := ⟨w1.heap.size, k, none⟩) hblk).trans hcx
        have hfb' := HFB.out _ (Nd.mem_get hlt)
        have hT := HT.out
        rw [Nd.drop_get hlt] at hT
        generalize (fieldsL kd).getD k 0 = z at *
        obtain ⟨f, rfl⟩ : ∃ f : Nat, z = f := ⟨z.toNat, by omega⟩
        have hf6 : f ≤ 6 := by omega
        have hsl := HS.out _ hor
        clear hfb' hblk hcx hr4 hC4 hR4 HT hor
        rcases (show f = 0 ∨ f = 1 ∨ f = 2 ∨ f = 3 ∨ f = 4 ∨ f = 5 ∨ f = 6 by omega) with rfl | rfl | rfl | rfl | rfl | rfl | rfl
        · have hx : wr.cell? ⟨w1.heap.size, k, none⟩ = some (.int .u8 110) := hcr
          have hr1e : r1 zs 0 u e = (sm zs u e 65535) := if_pos (by omega)
          have hT2 := stt_num HWF.out hT (by omega) hu
          have hb1 := r1_bd hu 0 e
          rw [hr1e] at hT2 hb1
          have HT2 := Lib.hid hT2
          have HB1 := Lib.hid hb1
          have HCL := Lib.hid (small_any g v zs u e 65535 _ hr hsl hu (by omega) (by omega))
          have HHC := Lib.hid hC
          have HOWN := Lib.hid hown
          have HP := Lib.hid hp
          clear hcr hT hT2 hr1e hb1 hr hsl hC hown hp
          go_wp2_with fail
          refine HCL.out.mono ?_
          rintro E w5 ⟨rfl, hr5, ho5, hz5⟩
          have hC5 := (ho5.2.2.2.2 (w.heap.size + 1) (by omega) (by omega)).trans HHC.out
          obtain ⟨d1, d2, d3, d4, d5, d6, d7⟩ := fld_cells hC5
          have hfr := frozen_of_row w5 (w.heap.size + 1) 1 _ _ hC5
          have hown5 := own_only HOWN.out ho5 (by omega)
          have hp5 := HP.out.trans (Past.of_only2 (T := fun j => j = g ∨ j = w.heap.size + 1) ho5 hsz (fun j hj => .inl hj))
          have HHC5 := Lib.hid hC5
          clear hz5 ho5 hC5
          generalize (sm zs u e 65535) = y at *
          obtain ⟨n5, e5, u5⟩ := y
          have hst5 : (w5.setCell ⟨w.heap.size + 1, 1, none⟩ (.int .i64 n5)).heap[w.heap.size + 1]? = some (.cells (cArr (putC c 0 n5) vn) 86 (0, 0)) := by rw [heap_setCell_same w5 (w.heap.size + 1) 1 _ _ _ HHC5.out]; rfl
          have hr6 : RB g v u5 e5 (w5.setCell ⟨w.heap.size + 1, 1, none⟩ (.int .i64 n5)) := (heap_setCell_other _ _ _ _ (by simp; omega)).trans hr5
          have hown6 : OwnI (w5.setCell ⟨w.heap.size + 1, 1, none⟩ (.int .i64 n5)) (w.heap.size + 2) vn c.nodes := own_set hown5 (by omega)
          have hp6 := hp5.trans (Past.setCell (S := fun j => j = g ∨ j = w.heap.size + 1) w5 ⟨w.heap.size + 1, 1, none⟩ (.int .i64 n5) (.inr rfl))
          have hb5 := HB1.out
          have HST5 := Lib.hid hst5
          have HR6 := Lib.hid hr6
          have HOWN6 := Lib.hid hown6
          have HP6 := Lib.hid hp6
          clear hst5 hr6 hown6 hp6 hp5 hown5
          go_wp2
          go_roundw
          case rel => exact ⟨k + 1, putC c 0 n5, u5, e5, vn, by omega, by go_num, HT2, hb5.1, HR6.out, HST5.out, HOWN6.out, HNB, HP6.out⟩
          case measure => simp [intOf]; omega
        · have hx : wr.cell? ⟨w1.heap.size, k, none⟩ = some (.int .u8 98) := hcr
          have hr1e : r1 zs 1 u e = (rn zs u e) := if_neg (by omega)
          have hT2 := stt_num HWF.out hT (by omega) hu
          have hb1 := r1_bd hu 1 e
          rw [hr1e] at hT2 hb1
          have HT2 := Lib.hid hT2
          have HB1 := Lib.hid hb1
          have HCL := Lib.hid (rnum_any' g v zs u e _ hr hsl hu)
          have HHC := Lib.hid hC
          have HOWN := Lib.hid hown
          have HP := Lib.hid hp
          clear hcr hT hT2 hr1e hb1 hr hsl hC hown hp
          go_wp2_with fail
          refine HCL.out.mono ?_
          rintro E w5 ⟨rfl, hr5, ho5, hz5⟩
          have hC5 := (ho5.2.2.2.2 (w.heap.size + 1) (by omega) (by omega)).trans HHC.out
          obtain ⟨d1, d2, d3, d4, d5, d6, d7⟩ := fld_cells hC5
          have hfr := frozen_of_row w5 (w.heap.size + 1) 4 _ _ hC5
          have hown5 := own_only HOWN.out ho5 (by omega)
          have hp5 := HP.out.trans (Past.of_only2 (T := fun j => j = g ∨ j = w.heap.size + 1) ho5 hsz (fun j hj => .inl hj))
          have HHC5 := Lib.hid hC5
          clear hz5 ho5 hC5
          generalize (rn zs u e) = y at *
          obtain ⟨n5, e5, u5⟩ := y
          have hst5 : (w5.setCell ⟨w.heap.size + 1, 4, none⟩ (.int .u64 n5)).heap[w.heap.size + 1]? = some (.cells (cArr (putC c 1 n5) vn) 86 (0, 0)) := by rw [heap_setCell_same w5 (w.heap.size + 1) 4 _ _ _ HHC5.out]; rfl
          have hr6 : RB g v u5 e5 (w5.setCell ⟨w.heap.size + 1, 4, none⟩ (.int .u64 n5)) := (heap_setCell_other _ _ _ _ (by simp; omega)).trans hr5
          have hown6 : OwnI (w5.setCell ⟨w.heap.size + 1, 4, none⟩ (.int .u64 n5)) (w.heap.size + 2) vn c.nodes := own_set hown5 (by omega)
          have hp6 := hp5.trans (Past.setCell (S := fun j => j = g ∨ j = w.heap.size + 1) w5 ⟨w.heap.size + 1, 4, none⟩ (.int .u64 n5) (.inr rfl))
          have hb5 := HB1.out
          have HST5 := Lib.hid hst5
          have HR6 := Lib.hid hr6
          have HOWN6 := Lib.hid hown6
          have HP6 := Lib.hid hp6
          clear hst5 hr6 hown6 hp6 hp5 hown5
          go_wp2
          go_roundw
          case rel => exact ⟨k + 1, putC c 1 n5, u5, e5, vn, by omega, by go_num, HT2, hb5.1, HR6.out, HST5.out, HOWN6.out, HNB, HP6.out⟩
          case measure => simp [intOf]; omega
        · have hx : wr.cell? ⟨w1.heap.size, k, none⟩ = some (.int .u8 113) := hcr
          have hr1e : r1 zs 2 u e = (rn zs u e) := if_neg (by omega)
          have hT2 := stt_num HWF.out hT (by omega) hu
          have hb1 := r1_bd hu 2 e
          rw [hr1e] at hT2 hb1
          have HT2 := Lib.hid hT2
          have HB1 := Lib.hid hb1
          have HCL := Lib.hid (rnum_any' g v zs u e _ hr hsl hu)
          have HHC := Lib.hid hC
          have HOWN := Lib.hid hown
          have HP := Lib.hid hp
          clear hcr hT hT2 hr1e hb1 hr hsl hC hown hp
          go_wp2_with fail
          refine HCL.out.mono ?_
          rintro E w5 ⟨rfl, hr5, ho5, hz5⟩
          have hC5 := (ho5.2.2.2.2 (w.heap.size + 1) (by omega) (by omega)).trans HHC.out
          obtain ⟨d1, d2, d3, d4, d5, d6, d7⟩ := fld_cells hC5
          have hfr := frozen_of_row w5 (w.heap.size + 1) 5 _ _ hC5
          have hown5 := own_only HOWN.out ho5 (by omega)
          have hp5 := HP.out.trans (Past.of_only2 (T := fun j => j = g ∨ j = w.heap.size + 1) ho5 hsz (fun j hj => .inl hj))
          have HHC5 := Lib.hid hC5
          clear hz5 ho5 hC5
          generalize (rn zs u e) = y at *
          obtain ⟨n5, e5, u5⟩ := y
          have hst5 : (w5.setCell ⟨w.heap.size + 1, 5, none⟩ (.int .u64 n5)).heap[w.heap.size + 1]? = some (.cells (cArr (putC c 2 n5) vn) 86 (0, 0)) := by rw [heap_setCell_same w5 (w.heap.size + 1) 5 _ _ _ HHC5.out]; rfl
          have hr6 : RB g v u5 e5 (w5.setCell ⟨w.heap.size + 1, 5, none⟩ (.int .u64 n5)) := (heap_setCell_other _ _ _ _ (by simp; omega)).trans hr5
          have hown6 : OwnI (w5.setCell ⟨w.heap.size + 1, 5, none⟩ (.int .u64 n5)) (w.heap.size + 2) vn c.nodes := own_set hown5 (by omega)
          have hp6 := hp5.trans (Past.setCell (S := fun j => j = g ∨ j = w.heap.size + 1) w5 ⟨w.heap.size + 1, 5, none⟩ (.int .u64 n5) (.inr rfl))
          have hb5 := HB1.out
          have HST5 := Lib.hid hst5
          have HR6 := Lib.hid hr6
          have HOWN6 := Lib.hid hown6
          have HP6 := Lib.hid hp6
          clear hst5 hr6 hown6 hp6 hp5 hown5
          go_wp2
          go_roundw
          case rel => exact ⟨k + 1, putC c 2 n5, u5, e5, vn, by omega, by go_num, HT2, hb5.1, HR6.out, HST5.out, HOWN6.out, HNB, HP6.out⟩
          case measure => simp [intOf]; omega
        · have hx : wr.cell? ⟨w1.heap.size, k, none⟩ = some (.int .u8 116) := hcr
          have hr1e : r1 zs 3 u e = (sm zs u e 65535) := if_pos (by omega)
          have hT2 := stt_num HWF.out hT (by omega) hu
          have hb1 := r1_bd hu 3 e
          rw [hr1e] at hT2 hb1
          have HT2 := Lib.hid hT2
          have HB1 := Lib.hid hb1
          have HCL := Lib.hid (small_any g v zs u e 65535 _ hr hsl hu (by omega) (by omega))
          have HHC := Lib.hid hC
          have HOWN := Lib.hid hown
          have HP := Lib.hid hp
          clear hcr hT hT2 hr1e hb1 hr hsl hC hown hp
          go_wp2_with fail
          refine HCL.out.mono ?_
          rintro E w5 ⟨rfl, hr5, ho5, hz5⟩
          have hC5 := (ho5.2.2.2.2 (w.heap.size + 1) (by omega) (by omega)).trans HHC.out
          obtain ⟨d1, d2, d3, d4, d5, d6, d7⟩ := fld_cells hC5
          have hfr := frozen_of_row w5 (w.heap.size + 1) 2 _ _ hC5
          have hown5 := own_only HOWN.out ho5 (by omega)
          have hp5 := HP.out.trans (Past.of_only2 (T := fun j => j = g ∨ j = w.heap.size + 1) ho5 hsz (fun j hj => .inl hj))
          have HHC5 := Lib.hid hC5
          clear hz5 ho5 hC5
          generalize (sm zs u e 65535) = y at *
          obtain ⟨n5, e5, u5⟩ := y
          have hst5 : (w5.setCell ⟨w.heap.size + 1, 2, none⟩ (.int .i64 n5)).heap[w.heap.size + 1]? = some (.cells (cArr (putC c 3 n5) vn) 86 (0, 0)) := by rw [heap_setCell_same w5 (w.heap.size + 1) 2 _ _ _ HHC5.out]; rfl
          have hr6 : RB g v u5 e5 (w5.setCell ⟨w.heap.size + 1, 2, none⟩ (.int .i64 n5)) := (heap_setCell_other _ _ _ _ (by simp; omega)).trans hr5
          have hown6 : OwnI (w5.setCell ⟨w.heap.size + 1, 2, none⟩ (.int .i64 n5)) (w.heap.size + 2) vn c.nodes := own_set hown5 (by omega)
          have hp6 := hp5.trans (Past.setCell (S := fun j => j = g ∨ j = w.heap.size + 1) w5 ⟨w.heap.size + 1, 2, none⟩ (.int .i64 n5) (.inr rfl))
          have hb5 := HB1.out
          have HST5 := Lib.hid hst5
          have HR6 := Lib.hid hr6
          have HOWN6 := Lib.hid hown6
          have HP6 := Lib.hid hp6
          clear hst5 hr6 hown6 hp6 hp5 hown5
          go_wp2
          go_roundw
          case rel => exact ⟨k + 1, putC c 3 n5, u5, e5, vn, by omega, by go_num, HT2, hb5.1, HR6.out, HST5.out, HOWN6.out, HNB, HP6.out⟩
          case measure => simp [intOf]; omega
        · have hx : wr.cell? ⟨w1.heap.size, k, none⟩ = some (.int .u8 115) := hcr
          have hr1e : r1 zs 4 u e = (rn zs u e) := if_neg (by omega)
          have hT2 := stt_num HWF.out hT (by omega) hu
          have hb1 := r1_bd hu 4 e
          rw [hr1e] at hT2 hb1
          have HT2 := Lib.hid hT2
          have HB1 := Lib.hid hb1
          have HCL := Lib.hid (rnum_any' g v zs u e _ hr hsl hu)
          have HHC := Lib.hid hC
          have HOWN := Lib.hid hown
          have HP := Lib.hid hp
          clear hcr hT hT2 hr1e hb1 hr hsl hC hown hp
          go_wp2_with fail
          refine HCL.out.mono ?_
          rintro E w5 ⟨rfl, hr5, ho5, hz5⟩
          have hC5 := (ho5.2.2.2.2 (w.heap.size + 1) (by omega) (by omega)).trans HHC.out
          obtain ⟨d1, d2, d3, d4, d5, d6, d7⟩ := fld_cells hC5
          have hfr := frozen_of_row w5 (w.heap.size + 1) 6 _ _ hC5
          have hown5 := own_only HOWN.out ho5 (by omega)
          have hp5 := HP.out.trans (Past.of_only2 (T := fun j => j = g ∨ j = w.heap.size + 1) ho5 hsz (fun j hj => .inl hj))
          have HHC5 := Lib.hid hC5
          clear hz5 ho5 hC5
          generalize (rn zs u e) = y at *
          obtain ⟨n5, e5, u5⟩ := y
          have hst5 : (w5.setCell ⟨w.heap.size + 1, 6, none⟩ (.int .u64 n5)).heap[w.heap.size + 1]? = some (.cells (cArr (putC c 4 n5) vn) 86 (0, 0)) := by rw [heap_setCell_same w5 (w.heap.size + 1) 6 _ _ _ HHC5.out]; rfl
          have hr6 : RB g v u5 e5 (w5.setCell ⟨w.heap.size + 1, 6, none⟩ (.int .u64 n5)) := (heap_setCell_other _ _ _ _ (by simp; omega)).trans hr5
          have hown6 : OwnI (w5.setCell ⟨w.heap.size + 1, 6, none⟩ (.int .u64 n5)) (w.heap.size + 2) vn c.nodes := own_set hown5 (by omega)
          have hp6 := hp5.trans (Past.setCell (S := fun j => j = g ∨ j = w.heap.size + 1) w5 ⟨w.heap.size + 1, 6, none⟩ (.int .u64 n5) (.inr rfl))
          have hb5 := HB1.out
          have HST5 := Lib.hid hst5
          have HR6 := Lib.hid hr6
          have HOWN6 := Lib.hid hown6
          have HP6 := Lib.hid hp6
          clear hst5 hr6 hown6 hp6 hp5 hown5
          go_wp2
          go_roundw
          case rel => exact ⟨k + 1, putC c 4 n5, u5, e5, vn, by omega, by go_num, HT2, hb5.1, HR6.out, HST5.out, HOWN6.out, HNB, HP6.out⟩
          case measure => simp [intOf]; omega
        · have hx : wr.cell? ⟨w1.heap.size, k, none⟩ = some (.int .u8 109) := hcr
          have hr1e : r1 zs 5 u e = (rn zs u e) := if_neg (by omega)
          have hT2 := stt_num HWF.out hT (by omega) hu
          have hb1 := r1_bd hu 5 e
          rw [hr1e] at hT2 hb1
          have HT2 := Lib.hid hT2
          have HB1 := Lib.hid hb1
          have HCL := Lib.hid (rnum_any' g v zs u e _ hr hsl hu)
          have HHC := Lib.hid hC
          have HOWN := Lib.hid hown
          have HP := Lib.hid hp
          clear hcr hT hT2 hr1e hb1 hr hsl hC hown hp
          go_wp2_with fail
          refine HCL.out.mono ?_
          rintro E w5 ⟨rfl, hr5, ho5, hz5⟩
          have hC5 := (ho5.2.2.2.2 (w.heap.size + 1) (by omega) (by omega)).trans HHC.out
          obtain ⟨d1, d2, d3, d4, d5, d6, d7⟩ := fld_cells hC5
          have hfr := frozen_of_row w5 (w.heap.size + 1) 7 _ _ hC5
          have hown5 := own_only HOWN.out ho5 (by omega)
          have hp5 := HP.out.trans (Past.of_only2 (T := fun j => j = g ∨ j = w.heap.size + 1) ho5 hsz (fun j hj => .inl hj))
          have HHC5 := Lib.hid hC5
          clear hz5 ho5 hC5
          generalize (rn zs u e) = y at *
          obtain ⟨n5, e5, u5⟩ := y
          have hst5 : (w5.setCell ⟨w.heap.size + 1, 7, none⟩ (.int .u64 n5)).heap[w.heap.size + 1]? = some (.cells (cArr (putC c 5 n5) vn) 86 (0, 0)) := by rw [heap_setCell_same w5 (w.heap.size + 1) 7 _ _ _ HHC5.out]; rfl
          have hr6 : RB g v u5 e5 (w5.setCell ⟨w.heap.size + 1, 7, none⟩ (.int .u64 n5)) := (heap_setCell_other _ _ _ _ (by simp; omega)).trans hr5
          have hown6 : OwnI (w5.setCell ⟨w.heap.size + 1, 7, none⟩ (.int .u64 n5)) (w.heap.size + 2) vn c.nodes := own_set hown5 (by omega)
          have hp6 := hp5.trans (Past.setCell (S := fun j => j = g ∨ j = w.heap.size + 1) w5 ⟨w.heap.size + 1, 7, none⟩ (.int .u64 n5) (.inr rfl))
          have hb5 := HB1.out
          have HST5 := Lib.hid hst5
          have HR6 := Lib.hid hr6
          have HOWN6 := Lib.hid hown6
          have HP6 := Lib.hid hp6
          clear hst5 hr6 hown6 hp6 hp5 hown5
          go_wp2
          go_roundw
          case rel => exact ⟨k + 1, putC c 5 n5, u5, e5, vn, by omega, by go_num, HT2, hb5.1, HR6.out, HST5.out, HOWN6.out, HNB, HP6.out⟩
          case measure => simp [intOf]; omega
        · have hx : wr.cell? ⟨w1.heap.size, k, none⟩ = some (.int .u8 108) := hcr
          have HT2 := Lib.hid (stt_list HWF.out hT)
          have hlb := ln_bd (e := e) hu
          have HLB := Lib.hid hlb.2
          have hub := hlb.1
          have HCL := Lib.hid (rlist_any g v zs u e _ hr (fun w' ho' => HS.out w' (HOR.out.trans ho')) hu)
          have HHC := Lib.hid hC
          have HP := Lib.hid hp
          clear hcr hT hr hsl hC hown hp hlb
          go_wp2_with fail
          refine HCL.out.mono ?_
          rintro E w5 ⟨vn5, rfl, hown5, hr5, ho5⟩
          have hC5 := (ho5.2.2.2.2 (w.heap.size + 1) (by omega) (by omega)).trans HHC.out
          obtain ⟨d1, d2, d3, d4, d5, d6, d7⟩ := fld_cells hC5
          have hfr := frozen_of_row w5 (w.heap.size + 1) 3 _ _ hC5
          have hp5 := HP.out.trans (Past.of_only2 (T := fun j => j = g ∨ j = w.heap.size + 1) ho5 hsz (fun j hj => .inl hj))
          have hown5b : OwnI w5 (w.heap.size + 2) vn5 (ln zs u e).1 := OwnK.mono hown5 hzr
          obtain ⟨a5, q5, t5, rfl⟩ := own_form hown5b
          have hst5 := copy_store hC5 (.slice a5 q5 t5)
          have hr6 : RB g v (ln zs u e).2.2 (ln zs u e).2.1 (w5.setCell ⟨w.heap.size + 1, 3, none⟩ (.slice a5 q5 t5)) := (heap_setCell_other _ _ _ _ (by simp; omega)).trans hr5
          have hown6 : OwnI (w5.setCell ⟨w.heap.size + 1, 3, none⟩ (.slice a5 q5 t5)) (w.heap.size + 2) (.slice a5 q5 t5) (ln zs u e).1 := own_set hown5b (by omega)
          have hp6 := hp5.trans (Past.setCell (S := fun j => j = g ∨ j = w.heap.size + 1) w5 ⟨w.heap.size + 1, 3, none⟩ (.slice a5 q5 t5) (.inr rfl))
          have HST5 := Lib.hid hst5
          have HR6 := Lib.hid hr6
          have HOWN6 := Lib.hid hown6
          have HP6 := Lib.hid hp6
          clear hst5 hr6 hown6 hp6 hp5 hown5 hown5b hr5 ho5 hC5
          generalize ln zs u e = y at *
          go_wp2
          go_roundw
          case rel => exact ⟨k + 1, { c with nodes := y.1 }, y.2.2, y.2.1, .slice a5 q5 t5, by omega, by go_num, HT2, hub, HR6.out, HST5.out, HOWN6.out, HLB, HP6.out⟩
          case measure => simp [intOf]; omega
      · obtain rfl : k = (fieldsL kd).length := by omega
        have hT := HT.out
        rw [List.drop_length] at hT
        have HTT := Lib.hid hT
        have hR5 := (hp.2.2.2.2 w.heap.size (by omega) (by omega)).trans hR4
        obtain ⟨an, qn, rn', rfl⟩ := own_form hown
        have HOWN := Lib.hid hown
        have HRR5 := Lib.hid hr
        clear hT HT hr hown hp hr4 hC4 hR4
        go_wp2_with (first
          | (refine wpList_load_row rfl 86 (.tmp 3) rfl (w.heap.size + 1) rfl 86 (cArr c (.slice an qn rn')) (0, 0) _ hC Tryz.underlying86 rfl (by kernel_rfl) ?_)
          | (refine wpList_store_row rfl 86 (.tmp 2) (.tmp 67) rfl w.heap.size (cArr c (.slice an qn rn')) rfl rfl 86 _ hR5 (by kernel_rfl) rfl (cArr_one _ _ _ _) ?_))
        refine bodyPost_ret (v := .agg (cArr c (.slice an qn rn'))) (results_cell_row rfl _ _ w.heap.size 86 _ (0, 0) _ rfl (set_row hR5) Tryz.underlying86 rfl (by kernel_rfl)) rfl ?_
        have hownf : OwnI (wr.setRow w.heap.size (cArr c (.slice an qn rn'))) (w.heap.size + 2) (.slice an qn rn') c.nodes := by
          rcases HOWN.out.2 with h2 | ⟨q, cap', cur, e2, hq2, hh, hrr⟩
          · exact ⟨HOWN.out.1, .inl h2⟩
          · exact ⟨HOWN.out.1, .inr ⟨q, cap', cur, e2, hq2, (setRow_other _ _ _ _ (by omega)).trans hh, hrr⟩⟩
        refine ⟨c, an, qn, rn', u, e, rfl, (setRow_other _ _ _ _ (by omega)).trans HRR5.out, ?_, fun h0 => ?_, ?_⟩
        · rcases HTT.out with ⟨h1, h2, _⟩ | ⟨_, h2⟩
          · rw [h2, h1]; rfl
          · exact h2
        · rcases HTT.out with ⟨h1, h2, h3⟩ | ⟨h1, _⟩
          · exact ⟨h2, OwnK.sl hownf (fun x hx => by have := HNB.out x hx; exact WalkArith.wf_i64 (by omega)), h3, OwnK.mono hownf (by omega)⟩
          · rw [h0] at h1; cases h1
        · exact ⟨HOR.out.1, HOR.out.2.1, HOR.out.2.2.1, by simpa using HOR.out.2.2.2.1, fun j hj hn => (setRow_other _ _ _ _ (by omega)).trans (HOR.out.2.2.2.2 j hj hn)⟩
end Cm
end Go.Proofs.YtlfaiemebfkajaaGreatDoor
namespace Go.Proofs.YtlfaiemebfkajaaGreatDoor
open Go.ChangeShapes Go.WideShapes Go.ChangeAt Go.RowKit
set_option linter.unusedVariables false
set_option maxRecDepth 100000
namespace Cm
theorem only_below {g : Nat} {a w w' : World} (h : Only (· = g) w w') (hb : Below a.heap.size a w) (hg : a.heap.size ≤ g) : Below a.heap.size a w' := Only.below h hb hb.size fun k hk => by omega
end Cm
end Go.Proofs.YtlfaiemebfkajaaGreatDoor
