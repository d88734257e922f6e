/- A record's bytes written and read, on lists. No condition. -/
import Derived.Test.YtngnhegmealokaaRcZ
import Derived.Test.YtngnhegmealokaaCeD
import Derived.Test.YtngnhegmealokaaEdY
namespace Go.Proofs.Ytngnhegmealokaa
open Go.ChangeShapes Go.WideShapes Go.ChangeAt Go.RowKit
set_option linter.unusedVariables false
set_option maxRecDepth 100000
namespace Rk
open Cm Sc Rc Hd Nv Sh
def zRecV : RecR := ⟨0, 0, 0, 0, 0, zEntV, zShoV⟩
def entB (x : Ent) : List Int := numI x.term ++ encL x.cmd
def recT (r : RecR) : List Int := if r.kind = 1 then numI r.boot else if r.kind = 2 then numI r.term ++ numI r.vote else if r.kind = 3 then numI r.index ++ entB r.ent else if r.kind = 4 then numI r.index else shotB r.shot
def recB (r : RecR) : List Int := r.kind :: recT r
theorem u8_of {n : Int} (h : 0 ≤ n ∧ n ≤ 255) : (Lit.int .u8 n).wf = true := by
  simp [Lit.wf, IntKind.min, IntKind.max, IntKind.signed, IntKind.bits]
  omega
theorem wf_app {a b : List Int} (h : WfB a) (k : WfB b) : WfB (a ++ b) := fun n hn => (List.mem_append.1 hn).elim (h n) (k n)
theorem fitsB_of {x : Ent} (h : Hd.fitsB x = true) : 1 ≤ x.term ∧ chkC x.cmd = true := by
  unfold Hd.fitsB at h
  simpa using h
theorem entB_len {x : Ent} (hw : x.wf) (h : Hd.fitsB x = true) : (entB x).length ≤ 130 ∧ WfB (entB x) := by
  obtain ⟨h1, h2⟩ := fitsB_of h
  have b1 := bounds_u64 hw.1
  have l1 := numI_len (n := x.term) (by omega) (by omega)
  obtain ⟨l2, w2⟩ := encL_len hw.2 h2
  exact ⟨by unfold entB; rw [List.length_append]; omega, wf_app (numI_wf (by omega) (by omega)) w2⟩
theorem kind_bd {r : RecR} (h : usedP r) : 1 ≤ r.kind ∧ r.kind ≤ 5 := by unfold usedP at h; omega
theorem recB_len {r : RecR} (hw : r.wf) (hf : fitsP r) : (recB r).length ≤ 3600 ∧ WfB (recB r) := by
  obtain ⟨w0, w1, w2, w3, w4, w5, w6⟩ := hw
  have hu := hf.2.2.2.2.2.2
  have hk := kind_bd hu
  have b2 := bounds_u64 w2
  have b3 := bounds_u64 w3
  have b4 := bounds_u64 w4
  have l2 := numI_len (n := r.boot) (by omega) (by omega)
  have l3 := numI_len (n := r.term) (by omega) (by omega)
  have l4 := numI_len (n := r.index) (by omega) (by omega)
  have hx : ∀ l : List Int, l.length ≤ 3500 → WfB l → (r.kind :: l).length ≤ 3600 ∧ WfB (r.kind :: l) := fun l h1 h2 => ⟨by simp; omega, fun n hn => by
    rcases List.mem_cons.1 hn with rfl | hn
    · exact u8_of (by omega)
    · exact h2 n hn⟩
  unfold recB recT
  rcases hu with ⟨h, h1⟩ | ⟨h, h1⟩ | ⟨h, h1⟩ | ⟨h, h1⟩ | ⟨h, h1⟩
  · rw [if_pos h]; exact hx _ (by omega) (numI_wf (by omega) (by omega))
  · have l1 := numI_len (n := r.vote) (by omega) (by omega)
    rw [if_neg (by omega), if_pos h]; exact hx _ (by rw [List.length_append]; omega) (wf_app (numI_wf (by omega) (by omega)) (numI_wf (by omega) (by omega)))
  · obtain ⟨l5, w5⟩ := entB_len w5 h1.2
    rw [if_neg (by omega), if_neg (by omega), if_pos h]; exact hx _ (by rw [List.length_append]; omega) (wf_app (numI_wf (by omega) (by omega)) w5)
  · rw [if_neg (by omega), if_neg (by omega), if_neg (by omega), if_pos h]; exact hx _ (by omega) (numI_wf (by omega) (by omega))
  · obtain ⟨l5, w5⟩ := shotB_len (nums_of w6 h1)
    rw [if_neg (by omega), if_neg (by omega), if_neg (by omega), if_neg (by omega)]; exact hx _ l5 w5
/-- what Encode comes to -/
def EncR (r : RecR) (w : World) (e : Ending) (w' : World) : Prop := ∃ s z, e = .returned (.tuple #[.string s, .int .i64 z]) ∧ ((fitsP r ∧ s = strOfNums (recB r) ∧ z = 0) ∨ (¬ fitsP r ∧ s = ByteArray.empty ∧ z = 130)) ∧ Below w.heap.size w w'
/-- how many bytes the numbers of a command take -/
def lenF (zs : List Int) : Nat → Nat → Nat
  | 0, k => k
  | f + 1, k => if ((decL (zs.take k)).2.2 == 10) = true then lenF zs f (k + 1) else k
def lenC (zs : List Int) : Nat := lenF zs zs.length 0
theorem lenF_bd (zs : List Int) : ∀ f k, k ≤ lenF zs f k ∧ lenF zs f k ≤ k + f
  | 0, k => ⟨Nat.le_refl _, Nat.le_refl _⟩
  | f + 1, k => by
    have := lenF_bd zs f (k + 1)
    rw [lenF]
    split <;> omega
theorem lenC_bd (zs : List Int) : lenC zs ≤ zs.length := by have := (lenF_bd zs zs.length 0).2; unfold lenC; omega
/-- an entry read: the entry, how many bytes, the error -/
def entD (b : List Int) : Ent × Nat × Int :=
  if ((Oc.rdL b).2.2 == 0) = true then
    if ((decL (b.drop (Oc.rdL b).2.1)).2.2 == 40) = true then (⟨(Oc.rdL b).1, zeroC⟩, (Oc.rdL b).2.1 + lenC (b.drop (Oc.rdL b).2.1), 0)
    else if ((decL (b.drop (Oc.rdL b).2.1)).2.2 == 0) = true then (⟨(Oc.rdL b).1, (decL (b.drop (Oc.rdL b).2.1)).1⟩, (Oc.rdL b).2.1 + (decL (b.drop (Oc.rdL b).2.1)).2.1, 0)
    else (zEntV, 0, (decL (b.drop (Oc.rdL b).2.1)).2.2)
  else (zEntV, 0, (Oc.rdL b).2.2)
def entS (st : Pst) : Ent × Pst := if (st.2 == 0) = true then ((entD st.1).1, (st.1.drop (entD st.1).2.1, (entD st.1).2.2)) else (zEntV, st)
def kindS (st : Pst) : Int × Pst := match st.1 with
  | [] => (0, (st.1, 10))
  | x :: rest => (x, (rest, 0))
noncomputable def picS (st : Pst) : Sho × Pst := ((decV st.1).1, ([], if ((decV st.1).2 == 60) = true then 0 else (decV st.1).2))
/-- a record read, that may not be one -/
noncomputable def bodyS (k : Int) (st : Pst) : RecR × Pst :=
  if k = 1 then ({ zRecV with kind := 1, boot := (wideS st).1 }, (wideS st).2)
  else if k = 2 then ({ zRecV with kind := 2, term := (wideS st).1, vote := (smallS (wideS st).2).1 }, (smallS (wideS st).2).2)
  else if k = 3 then ({ zRecV with kind := 3, index := (wideS st).1, ent := (entS (wideS st).2).1 }, (entS (wideS st).2).2)
  else if k = 4 then ({ zRecV with kind := 4, index := (wideS st).1 }, (wideS st).2)
  else if k = 5 then ({ zRecV with kind := 5, shot := (picS st).1 }, (picS st).2)
  else ({ zRecV with kind := k }, (st.1, 11))
noncomputable def recS (st : Pst) : RecR × Pst := if ((kindS st).2.2 == 0) = true then bodyS (kindS st).1 (kindS st).2 else ({ zRecV with kind := (kindS st).1 }, (kindS st).2)
noncomputable def errR (zs : List Int) : Int := if ((recS (zs, 0)).2.2 == 0) = true ∧ 0 < (recS (zs, 0)).2.1.length then 11 else (recS (zs, 0)).2.2
open Classical in
/-- what Decode answers -/
noncomputable def decR (zs : List Int) : RecR × Int :=
  if 8000 < zs.length then (zRecV, 2) else if errR zs ≠ 0 then (zRecV, errR zs) else if fitsP (recS (zs, 0)).1 then ((recS (zs, 0)).1, 0) else (zRecV, 130)
theorem decR_long {b : List Int} (h : 8000 < b.length) : decR b = (zRecV, 2) := by unfold decR; rw [if_pos h]
theorem decR_err {b : List Int} (h : ¬ 8000 < b.length) (he : errR b ≠ 0) : decR b = (zRecV, errR b) := by unfold decR; rw [if_neg h, if_pos he]
theorem decR_ok {b : List Int} (h : ¬ 8000 < b.length) (he : errR b = 0) (ok : fitsP (recS (b, 0)).1) : decR b = ((recS (b, 0)).1, 0) := by unfold decR; rw [if_neg h, if_neg (by simpa using he), if_pos ok]
theorem decR_no {b : List Int} (h : ¬ 8000 < b.length) (he : errR b = 0) (ok : ¬ fitsP (recS (b, 0)).1) : decR b = (zRecV, 130) := by unfold decR; rw [if_neg h, if_neg (by simpa using he), if_neg ok]
theorem errR_zero {b : List Int} : errR b = 0 ↔ (recS (b, 0)).2 = ([], 0) := by
  unfold errR
  constructor
  · intro h
    split at h
    · simp at h
    · rename_i hn
      have h1 : ((recS (b, 0)).2.2 == 0) = true := by simpa using h
      have h2 : (recS (b, 0)).2.1 = [] := by
        rcases Nat.eq_zero_or_pos (recS (b, 0)).2.1.length with g | g
        · exact List.eq_nil_of_length_eq_zero g
        · exact absurd ⟨h1, g⟩ hn
      exact Prod.ext h2 h
  · intro h
    rw [h]
    rfl
theorem rd_bad {zs : List Int} {n k : Nat} {e : Int} (h : Oc.rdL zs = (n, k, e)) (he : (e == 0) = false) : n = 0 ∧ k = 0 := by
  unfold Oc.rdL at h
  split at h
  · simp only [Prod.mk.injEq] at h; omega
  · repeat' split at h
    all_goals simp only [Prod.mk.injEq] at h
    all_goals first | omega | (obtain ⟨-, -, rfl⟩ := h; simp at he)
theorem ent_read {x : Ent} (hw : x.wf) (h : Hd.fitsB x = true) : entS (entB x, 0) = (x, ([], 0)) := by
  obtain ⟨h1, h2⟩ := fitsB_of h
  have b1 := bounds_u64 hw.1
  have hr : Oc.rdL (entB x) = (x.term.toNat, Oc.bw x.term.toNat + 1, 0) := Oc.rd_num (by omega) (encL x.cmd)
  have hl : (numI x.term).length = Oc.bw x.term.toNat + 1 := Oc.numL_length _
  have hd : (entB x).drop (Oc.bw x.term.toNat + 1) = encL x.cmd := by rw [← hl]; exact List.drop_left
  have hc := Cm.dec_enc hw.2 h2 []
  rw [List.append_nil] at hc
  have he : entD (entB x) = (x, (entB x).length, 0) := by
    unfold entD
    simp only [hr, hd, hc, beq_self_eq_true, if_true]
    rw [if_neg (by decide), show ((x.term.toNat : Nat) : Int) = x.term by omega, ← hl, ← List.length_append]
    rfl
  unfold entS
  simp only [he, beq_self_eq_true, if_true, List.drop_length]
theorem bare {r : RecR} (h : fitsP r) : r = if r.kind = 1 then { zRecV with kind := 1, boot := r.boot } else if r.kind = 2 then { zRecV with kind := 2, term := r.term, vote := r.vote } else if r.kind = 3 then { zRecV with kind := 3, index := r.index, ent := r.ent } else if r.kind = 4 then { zRecV with kind := 4, index := r.index } else { zRecV with kind := 5, shot := r.shot } := by
  obtain ⟨k, v, b, t, i, ⟨xt, ⟨x1, x2, x3, x4, x5, x6, x7, x8⟩⟩, ⟨s1, s2, s3, ⟨s4, s5, s6, s7⟩⟩⟩ := r
  obtain ⟨h1, h2, h3, h4, h5, h6, hu⟩ := h
  have hk := kind_bd hu
  dsimp only at hk
  rcases (show k = 1 ∨ k = 2 ∨ k = 3 ∨ k = 4 ∨ k = 5 by omega) with rfl | rfl | rfl | rfl | rfl <;> simp only [unusedR, zEnt, zCmd, zSho, zLedg, zEntV, zShoV, zRecV, Int.reduceEq, if_true, if_false, List.length_eq_zero_iff, RecR.mk.injEq, Ent.mk.injEq, Cmd.mk.injEq, Sho.mk.injEq, Led.mk.injEq, true_and, and_true] at h1 h2 h3 h4 h5 h6 ⊢ <;> simp_all
theorem dec_enc {r : RecR} (hw : r.wf) (hf : fitsP r) : decR (recB r) = (r, 0) := by
  have hlen := (recB_len hw hf).1
  have hr : recS (recB r, 0) = (r, ([], 0)) := by
    obtain ⟨w0, w1, w2, w3, w4, w5, w6⟩ := hw
    have b2 := bounds_u64 w2
    have b3 := bounds_u64 w3
    have b4 := bounds_u64 w4
    have hb := bare hf
    have e1 : kindS (recB r, 0) = (r.kind, (recT r, 0)) := rfl
    unfold recS
    rw [e1]
    simp only [beq_self_eq_true, if_true]
    unfold bodyS recT
    rcases hf.2.2.2.2.2.2 with ⟨h, h1⟩ | ⟨h, h1⟩ | ⟨h, h1⟩ | ⟨h, h1⟩ | ⟨h, h1⟩
    · have q := wide_num (n := r.boot) ⟨by omega, by omega⟩ []
      rw [List.append_nil] at q
      simp only [if_pos h] at hb ⊢
      rw [q]
      simp only []
      rw [← hb]
    · have n1 : ¬ r.kind = 1 := by omega
      have q := wide_num (n := r.term) ⟨by omega, by omega⟩ (numI r.vote)
      have q2 := small_num (n := r.vote) (by omega) (by omega) []
      rw [List.append_nil] at q2
      simp only [if_neg n1, if_pos h] at hb ⊢
      rw [q]
      simp only []
      rw [q2]
      simp only []
      rw [← hb]
    · have n1 : ¬ r.kind = 1 := by omega
      have n2 : ¬ r.kind = 2 := by omega
      have q := wide_num (n := r.index) ⟨by omega, by omega⟩ (entB r.ent)
      have q2 := ent_read w5 h1.2
      simp only [if_neg n1, if_neg n2, if_pos h] at hb ⊢
      rw [q]
      simp only []
      rw [q2]
      simp only []
      rw [← hb]
    · have n1 : ¬ r.kind = 1 := by omega
      have n2 : ¬ r.kind = 2 := by omega
      have n3 : ¬ r.kind = 3 := by omega
      have q := wide_num (n := r.index) ⟨by omega, by omega⟩ []
      rw [List.append_nil] at q
      simp only [if_neg n1, if_neg n2, if_neg n3, if_pos h] at hb ⊢
      rw [q]
      simp only []
      rw [← hb]
    · have n1 : ¬ r.kind = 1 := by omega
      have n2 : ¬ r.kind = 2 := by omega
      have n3 : ¬ r.kind = 3 := by omega
      have n4 : ¬ r.kind = 4 := by omega
      have q := Sc.dec_enc w6 h1
      simp only [if_neg n1, if_neg n2, if_neg n3, if_neg n4, if_pos h] at hb ⊢
      unfold picS
      simp only [q]
      rw [← hb]
      rfl
  have he : errR (recB r) = 0 := errR_zero.2 (by rw [hr])
  rw [decR_ok (by omega) he (by rw [hr]; exact hf), hr]
theorem ent_back {st : Pst} (hw : WfB st.1) (h : (entS st).2 = ([], 0)) (hf : Hd.fitsB (entS st).1 = true) : st.2 = 0 ∧ st.1 = entB (entS st).1 := by
  obtain ⟨zs, e⟩ := st
  by_cases he : (e == 0) = true
  · obtain rfl : e = 0 := by simpa using he
    refine ⟨rfl, ?_⟩
    dsimp only at hw ⊢
    unfold entS at h hf ⊢
    simp only [beq_self_eq_true, if_true, Prod.mk.injEq] at h hf ⊢
    obtain ⟨hd, h0⟩ := h
    unfold entD at hd h0 hf ⊢
    rcases hr : Oc.rdL zs with ⟨n, k, er⟩
    simp only [hr] at hd h0 hf ⊢
    rcases Oc.rd_err hr with hee | hee
    · subst hee
      obtain ⟨-, hk, -, hn⟩ := Oc.rd_back hw hr
      simp only [beq_self_eq_true, if_true] at hd h0 hf ⊢
      rcases hc : decL (zs.drop k) with ⟨c, j, ec⟩
      simp only [hc] at hd h0 hf ⊢
      by_cases h40 : (ec == 40) = true
      · rw [if_pos h40] at hf
        obtain ⟨-, q⟩ := fitsB_of hf
        exact absurd (show chkC zeroC = true from q) (by decide)
      · rw [if_neg h40] at hd h0 hf ⊢
        by_cases h00 : (ec == 0) = true
        · obtain rfl : ec = 0 := by simpa using h00
          obtain ⟨-, hj, hcn⟩ := Cm.dec_back (fun m hm => hw m (List.mem_of_mem_drop hm)) hc
          rw [if_pos h00] at hd ⊢
          simp only [] at hd ⊢
          unfold entB numI
          rw [show (((n : Nat) : Int)).toNat = n by omega, hn, hcn]
          rw [← List.drop_drop] at hd
          have q : (zs.drop k).take j = zs.drop k := by
            have := List.take_append_drop j (zs.drop k)
            rw [hd, List.append_nil] at this
            exact this
          rw [q, List.take_append_drop]
        · rw [if_neg h00] at h0
          simp only [] at h0
          subst h0
          simp at h00
    · rw [if_neg (by rw [hee]; simp)] at h0
      simp only [] at h0
      subst h0
      simp at hee
  · unfold entS at h
    rw [if_neg he] at h
    simp only [Prod.mk.injEq] at h
    rw [h.2] at he
    simp at he
theorem dec_back {zs : List Int} (hw : WfB zs) {r : RecR} (h : decR zs = (r, 0)) : fitsP r ∧ recB r = zs ∧ recS (zs, 0) = (r, ([], 0)) := by
  by_cases hl : 8000 < zs.length
  · rw [decR_long hl] at h
    simp at h
  by_cases he0 : errR zs ≠ 0
  · rw [decR_err hl he0] at h
    simp only [Prod.mk.injEq] at h
    exact absurd h.2 he0
  have he : errR zs = 0 := Decidable.not_not.1 he0
  clear he0
  by_cases ok0 : ¬ fitsP (recS (zs, 0)).1
  · rw [decR_no hl he ok0] at h
    simp at h
  have ok := Classical.not_not.1 ok0
  clear ok0
  rw [decR_ok hl he ok] at h
  simp only [Prod.mk.injEq, and_true] at h
  have h2 := errR_zero.1 he
  have hrr : recS (zs, 0) = (r, ([], 0)) := Prod.ext h h2
  refine ⟨by rw [← h]; exact ok, ?_, hrr⟩
  rw [h] at ok
  have hk := kind_bd ok.2.2.2.2.2.2
  cases zs with
  | nil => 
    have q : (recS (([] : List Int), 0)).2 = ([], 10) := rfl
    rw [q] at h2
    simp at h2
  | cons x rest =>
    have e1 : recS (x :: rest, 0) = bodyS x (rest, 0) := rfl
    rw [e1] at hrr
    have hwr : WfB rest := fun n hn => hw n (List.mem_cons_of_mem _ hn)
    unfold recB recT
    unfold bodyS at hrr
    by_cases n1 : x = 1
    · rw [if_pos n1] at hrr
      simp only [Prod.mk.injEq] at hrr
      obtain ⟨hr, hs⟩ := hrr
      have q := (num_back (m := 18446744073709551615) (st := (rest, 0)) hwr (by rw [show (pnum 18446744073709551615 (rest, 0)).2 = ([], 0) from hs])).2
      rw [show (pnum 18446744073709551615 (rest, 0)).2 = ([], 0) from hs, List.append_nil] at q
      rw [← hr]
      simp only [if_true]
      rw [n1]
      exact congrArg (List.cons 1) q.symm
    rw [if_neg n1] at hrr
    by_cases n2 : x = 2
    · rw [if_pos n2] at hrr
      simp only [Prod.mk.injEq] at hrr
      obtain ⟨hr, hs⟩ := hrr
      have q2 := num_back (m := 65535) (st := (wideS (rest, 0)).2) (wf_next hwr) (by rw [show (pnum 65535 (wideS (rest, 0)).2).2 = ([], 0) from hs])
      rw [show (pnum 65535 (wideS (rest, 0)).2).2 = ([], 0) from hs, List.append_nil] at q2
      have q := (num_back (m := 18446744073709551615) (st := (rest, 0)) hwr q2.1).2
      rw [q2.2] at q
      rw [← hr]
      simp only [Int.reduceEq, if_true, if_false]
      rw [n2]
      exact congrArg (List.cons 2) q.symm
    rw [if_neg n2] at hrr
    by_cases n3 : x = 3
    · rw [if_pos n3] at hrr
      simp only [Prod.mk.injEq] at hrr
      obtain ⟨hr, hs⟩ := hrr
      have hfb : Hd.fitsB (entS (wideS (rest, 0)).2).1 = true := by
        have := ok.2.2.2.2.2.2
        rw [← hr] at this
        rcases this with ⟨a, -⟩ | ⟨a, -⟩ | ⟨-, -, b⟩ | ⟨a, -⟩ | ⟨a, -⟩
        · cases a
        · cases a
        · exact b
        · cases a
        · cases a
      have q2 := ent_back (wf_next hwr) hs hfb
      have q := (num_back (m := 18446744073709551615) (st := (rest, 0)) hwr q2.1).2
      rw [q2.2] at q
      rw [← hr]
      simp only [Int.reduceEq, if_true, if_false]
      rw [n3]
      exact congrArg (List.cons 3) q.symm
    rw [if_neg n3] at hrr
    by_cases n4 : x = 4
    · rw [if_pos n4] at hrr
      simp only [Prod.mk.injEq] at hrr
      obtain ⟨hr, hs⟩ := hrr
      have q := (num_back (m := 18446744073709551615) (st := (rest, 0)) hwr (by rw [show (pnum 18446744073709551615 (rest, 0)).2 = ([], 0) from hs])).2
      rw [show (pnum 18446744073709551615 (rest, 0)).2 = ([], 0) from hs, List.append_nil] at q
      rw [← hr]
      simp only [Int.reduceEq, if_true, if_false]
      rw [n4]
      exact congrArg (List.cons 4) q.symm
    rw [if_neg n4] at hrr
    by_cases n5 : x = 5
    · rw [if_pos n5] at hrr
      simp only [Prod.mk.injEq] at hrr
      obtain ⟨hr, hs⟩ := hrr
      have hso : shotOk (picS (rest, 0)).1 := by
        have := ok.2.2.2.2.2.2
        rw [← hr] at this
        rcases this with ⟨a, -⟩ | ⟨a, -⟩ | ⟨a, -⟩ | ⟨a, -⟩ | ⟨-, b⟩
        · cases a
        · cases a
        · cases a
        · cases a
        · exact b
      rcases hd : decV rest with ⟨s, e⟩
      unfold picS at hs hso hr
      simp only [hd] at hs hso hr
      have e0 : e = 0 := by
        by_cases h60 : (e == 60) = true
        · obtain rfl : e = 60 := by simpa using h60
          obtain rfl : s = zS := by
            by_cases hl2 : 8192 < rest.length
            · rw [Sc.dec_long hl2] at hd; simp at hd
            · by_cases hee : errS rest = 0
              · by_cases okk : shotOk (shotS (rest, 0)).1
                · rw [Sc.dec_ok hl2 hee okk] at hd; simp at hd
                · rw [Sc.dec_no hl2 hee okk] at hd; simpa using hd.symm
              · rw [Sc.dec_err hl2 hee] at hd; simpa using (congrArg Prod.fst hd).symm
          exact absurd hso.1 (by decide)
        · rw [if_neg h60] at hs
          simpa using hs
      subst e0
      obtain ⟨-, q⟩ := Sc.dec_back hwr hd
      rw [← hr]
      simp only [Int.reduceEq, if_false]
      rw [n5]
      exact congrArg (List.cons 5) q
    rw [if_neg n5] at hrr
    simp only [Prod.mk.injEq] at hrr
    exact absurd hrr.2.2 (by decide)
end Rk
end Go.Proofs.Ytngnhegmealokaa
