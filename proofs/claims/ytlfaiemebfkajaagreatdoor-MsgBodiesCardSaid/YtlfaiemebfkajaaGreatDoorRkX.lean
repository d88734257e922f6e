/- A record's bytes written and read, on lists. No condition. The reader of hard: take, number, wide, kind. No condition. entry.length and entry.Decode. No condition. -/
import Derived.Test.YtlfaiemebfkajaaGreatDoorRcZ
import Derived.Test.YtlfaiemebfkajaaGreatDoorCeD
import Derived.Test.YtlfaiemebfkajaaGreatDoorEdY
namespace Go.Proofs.YtlfaiemebfkajaaGreatDoor
open Go.ChangeShapes Go.WideShapes Go.ChangeAt Go.RowKit
set_option linter.unusedVariables false
set_option maxRecDepth 100000
namespace Rk
open Cm Sc Rc Hd Nv Sh
def zRecV : RecR := ⟨0, 0, 0, 0, 0, zEntV, zShoV⟩
def entB (x : Ent) : List Int := numI x.term ++ encL x.cmd
def recT (r : RecR) : List Int := if r.kind = 1 then numI r.boot else if r.kind = 2 then numI r.term ++ numI r.vote else if r.kind = 3 then numI r.index ++ entB r.ent else if r.kind = 4 then numI r.index else shotB r.shot
def recB (r : RecR) : List Int := r.kind :: recT r
theorem u8_of {n : Int} (h : 0 ≤ n ∧ n ≤ 255) : (Lit.int .u8 n).wf = true := by
  simp [Lit.wf, IntKind.min, IntKind.max, IntKind.signed, IntKind.bits]
  omega
theorem wf_app {a b : List Int} (h : WfB a) (k : WfB b) : WfB (a ++ b) := fun n hn => (List.mem_append.1 hn).elim (h n) (k n)
theorem fitsB_of {x : Ent} (h : Hd.fitsB x = true) : 1 ≤ x.term ∧ chkC x.cmd = true := by
  unfold Hd.fitsB at h
  simpa using h
theorem entB_len {x : Ent} (hw : x.wf) (h : Hd.fitsB x = true) : (entB x).length ≤ 130 ∧ WfB (entB x) := by
  obtain ⟨h1, h2⟩ := fitsB_of h
  have b1 := bounds_u64 hw.1
  have l1 := numI_len (n := x.term) (by omega) (by omega)
  obtain ⟨l2, w2⟩ := encL_len hw.2 h2
  exact ⟨by unfold entB; rw [List.length_append]; omega, wf_app (numI_wf (by omega) (by omega)) w2⟩
theorem kind_bd {r : RecR} (h : usedP r) : 1 ≤ r.kind ∧ r.kind ≤ 5 := by unfold usedP at h; omega
theorem recB_len {r : RecR} (hw : r.wf) (hf : fitsP r) : (recB r).length ≤ 3600 ∧ WfB (recB r) := by
  obtain ⟨w0, w1, w2, w3, w4, w5, w6⟩ := hw
  have hu := hf.2.2.2.2.2.2
  have hk := kind_bd hu
  have b2 := bounds_u64 w2
  have b3 := bounds_u64 w3
  have b4 := bounds_u64 w4
  have l2 := numI_len (n := r.boot) (by omega) (by omega)
  have l3 := numI_len (n := r.term) (by omega) (by omega)
  have l4 := numI_len (n := r.index) (by omega) (by omega)
  have hx : ∀ l : List Int, l.length ≤ 3500 → WfB l → (r.kind :: l).length ≤ 3600 ∧ WfB (r.kind :: l) := fun l h1 h2 => ⟨by simp; omega, fun n hn => by
    rcases List.mem_cons.1 hn with rfl | hn
    · exact u8_of (by omega)
    · exact h2 n hn⟩
  unfold recB recT
  rcases hu with ⟨h, h1⟩ | ⟨h, h1⟩ | ⟨h, h1⟩ | ⟨h, h1⟩ | ⟨h, h1⟩
  · rw [if_pos h]; exact hx _ (by omega) (numI_wf (by omega) (by omega))
  · have l1 := numI_len (n := r.vote) (by omega) (by omega)
    rw [if_neg (by omega), if_pos h]; exact hx _ (by rw [List.length_append]; omega) (wf_app (numI_wf (by omega) (by omega)) (numI_wf (by omega) (by omega)))
  · obtain ⟨l5, w5⟩ := entB_len w5 h1.2
    rw [if_neg (by omega), if_neg (by omega), if_pos h]; exact hx _ (by rw [List.length_append]; omega) (wf_app (numI_wf (by omega) (by omega)) w5)
  · rw [if_neg (by omega), if_neg (by omega), if_neg (by omega), if_pos h]; exact hx _ (by omega) (numI_wf (by omega) (by omega))
  · obtain ⟨l5, w5⟩ := shotB_len (nums_of w6 h1)
    rw [if_neg (by omega), if_neg (by omega), if_neg (by omega), if_neg (by omega)]; exact hx _ l5 w5
/-- what Encode comes to -/
def EncR (r : RecR) (w : World) (e : Ending) (w' : World) : Prop := ∃ s z, e = .returned (.tuple #[.string s, .int .i64 z]) ∧ ((fitsP r ∧ s = strOfNums (recB r) ∧ z = 0) ∨ (¬ fitsP r ∧ s = ByteArray.empty ∧ z = 130)) ∧ Below w.heap.size w w'
/-- how many bytes the numbers of a command take -/
def lenF (zs : List Int) : Nat → Nat → Nat
  | 0, k => k
  | f + 1, k => if ((decL (zs.take k)).2.2 == 10) = true then lenF zs f (k + 1) else k
def lenC (zs : List Int) : Nat := lenF zs zs.length 0
theorem lenF_bd (zs : List Int) : ∀ f k, k ≤ lenF zs f k ∧ lenF zs f k ≤ k + f
  | 0, k => ⟨Nat.le_refl _, Nat.le_refl _⟩
  | f + 1, k => by
    have := lenF_bd zs f (k + 1)
    rw [lenF]
    split <;> omega
theorem lenC_bd (zs : List Int) : lenC zs ≤ zs.length := by have := (lenF_bd zs zs.length 0).2; unfold lenC; omega
/-- an entry read: the entry, how many bytes, the error -/
def entD (b : List Int) : Ent × Nat × Int :=
  if ((Oc.rdL b).2.2 == 0) = true then
    if ((decL (b.drop (Oc.rdL b).2.1)).2.2 == 40) = true then (⟨(Oc.rdL b).1, zeroC⟩, (Oc.rdL b).2.1 + lenC (b.drop (Oc.rdL b).2.1), 0)
    else if ((decL (b.drop (Oc.rdL b).2.1)).2.2 == 0) = true then (⟨(Oc.rdL b).1, (decL (b.drop (Oc.rdL b).2.1)).1⟩, (Oc.rdL b).2.1 + (decL (b.drop (Oc.rdL b).2.1)).2.1, 0)
    else (zEntV, 0, (decL (b.drop (Oc.rdL b).2.1)).2.2)
  else (zEntV, 0, (Oc.rdL b).2.2)
def entS (st : Pst) : Ent × Pst := if (st.2 == 0) = true then ((entD st.1).1, (st.1.drop (entD st.1).2.1, (entD st.1).2.2)) else (zEntV, st)
def kindS (st : Pst) : Int × Pst := match st.1 with
  | [] => (0, (st.1, 10))
  | x :: rest => (x, (rest, 0))
noncomputable def picS (st : Pst) : Sho × Pst := ((decV st.1).1, ([], if ((decV st.1).2 == 60) = true then 0 else (decV st.1).2))
/-- a record read, that may not be one -/
noncomputable def bodyS (k : Int) (st : Pst) : RecR × Pst :=
  if k = 1 then ({ zRecV with kind := 1, boot := (wideS st).1 }, (wideS st).2)
  else if k = 2 then ({ zRecV with kind := 2, term := (wideS st).1, vote := (smallS (wideS st).2).1 }, (smallS (wideS st).2).2)
  else if k = 3 then ({ zRecV with kind := 3, index := (wideS st).1, ent := (entS (wideS st).2).1 }, (entS (wideS st).2).2)
  else if k = 4 then ({ zRecV with kind := 4, index := (wideS st).1 }, (wideS st).2)
  else if k = 5 then ({ zRecV with kind := 5, shot := (picS st).1 }, (picS st).2)
  else ({ zRecV with kind := k }, (st.1, 11))
noncomputable def recS (st : Pst) : RecR × Pst := if ((kindS st).2.2 == 0) = true then bodyS (kindS st).1 (kindS st).2 else ({ zRecV with kind := (kindS st).1 }, (kindS st).2)
noncomputable def errR (zs : List Int) : Int := if ((recS (zs, 0)).2.2 == 0) = true ∧ 0 < (recS (zs, 0)).2.1.length then 11 else (recS (zs, 0)).2.2
open Classical in
/-- what Decode answers -/
noncomputable def decR (zs : List Int) : RecR × Int :=
  if 8000 < zs.length then (zRecV, 2) else if errR zs ≠ 0 then (zRecV, errR zs) else if fitsP (recS (zs, 0)).1 then ((recS (zs, 0)).1, 0) else (zRecV, 130)
theorem decR_long {b : List Int} (h : 8000 < b.length) : decR b = (zRecV, 2) := by unfold decR; rw [if_pos h]
theorem decR_err {b : List Int} (h : ¬ 8000 < b.length) (he : errR b ≠ 0) : decR b = (zRecV, errR b) := by unfold decR; rw [if_neg h, if_pos he]
theorem decR_ok {b : List Int} (h : ¬ 8000 < b.length) (he : errR b = 0) (ok : fitsP (recS (b, 0)).1) : decR b = ((recS (b, 0)).1, 0) := by unfold decR; rw [if_neg h, if_neg (by simpa using he), if_pos ok]
theorem decR_no {b : List Int} (h : ¬ 8000 < b.length) (he : errR b = 0) (ok : ¬ fitsP (recS (b, 0)).1) : decR b = (zRecV, 130) := by unfold decR; rw [if_neg h, if_neg (by simpa using he), if_neg ok]
theorem errR_zero {b : List Int} : errR b = 0 ↔ (recS (b, 0)).2 = ([], 0) := by
  unfold errR
  constructor
  · intro h
    split at h
    · simp at h
    · rename_i hn
      have h1 : ((recS (b, 0)).2.2 == 0) = true := by simpa using h
      have h2 : (recS (b, 0)).2.1 = [] := by
        rcases Nat.eq_zero_or_pos (recS (b, 0)).2.1.length with g | g
        · exact List.eq_nil_of_length_eq_zero g
        · exact absurd ⟨h1, g⟩ hn
      exact Prod.ext h2 h
  · intro h
    rw [h]
    rfl
theorem rd_bad {zs : List Int} {n k : Nat} {e : Int} (h : Oc.rdL zs = (n, k, e)) (he : (e == 0) = false) : n = 0 ∧ k = 0 := by
  unfold Oc.rdL at h
  split at h
  · simp only [Prod.mk.injEq] at h; omega
  · repeat' split at h
    all_goals simp only [Prod.mk.injEq] at h
    all_goals first | omega | (obtain ⟨-, -, rfl⟩ := h; simp at he)
theorem ent_read {x : Ent} (hw : x.wf) (h : Hd.fitsB x = true) : entS (entB x, 0) = (x, ([], 0)) := by
  obtain ⟨h1, h2⟩ := fitsB_of h
  have b1 := bounds_u64 hw.1
  have hr : Oc.rdL (entB x) = (x.term.toNat, Oc.bw x.term.toNat + 1, 0) := Oc.rd_num (by omega) (encL x.cmd)
  have hl : (numI x.term).length = Oc.bw x.term.toNat + 1 := Oc.numL_length _
  have hd : (entB x).drop (Oc.bw x.term.toNat + 1) = encL x.cmd := by rw [← hl]; exact List.drop_left
  have hc := Cm.dec_enc hw.2 h2 []
  rw [List.append_nil] at hc
  have he : entD (entB x) = (x, (entB x).length, 0) := by
    unfold entD
    simp only [hr, hd, hc, beq_self_eq_true, if_true]
    rw [if_neg (by decide), show ((x.term.toNat : Nat) : Int) = x.term by omega, ← hl, ← List.length_append]
    rfl
  unfold entS
  simp only [he, beq_self_eq_true, if_true, List.drop_length]
theorem bare {r : RecR} (h : fitsP r) : r = if r.kind = 1 then { zRecV with kind := 1, boot := r.boot } else if r.kind = 2 then { zRecV with kind := 2, term := r.term, vote := r.vote } else if r.kind = 3 then { zRecV with kind := 3, index := r.index, ent := r.ent } else if r.kind = 4 then { zRecV with kind := 4, index := r.index } else { zRecV with kind := 5, shot := r.shot } := by
  obtain ⟨k, v, b, t, i, ⟨xt, ⟨x1, x2, x3, x4, x5, x6, x7, x8⟩⟩, ⟨s1, s2, s3, ⟨s4, s5, s6, s7⟩⟩⟩ := r
  obtain ⟨h1, h2, h3, h4, h5, h6, hu⟩ := h
  have hk := kind_bd hu
  dsimp only at hk
  rcases (show k = 1 ∨ k = 2 ∨ k = 3 ∨ k = 4 ∨ k = 5 by omega) with rfl | rfl | rfl | rfl | rfl <;> simp only [unusedR, zEnt, zCmd, zSho, zLedg, zEntV, zShoV, zRecV, Int.reduceEq, if_true, if_false, List.length_eq_zero_iff, RecR.mk.injEq, Ent.mk.injEq, Cmd.mk.injEq, Sho.mk.injEq, Led.mk.injEq, true_and, and_true] at h1 h2 h3 h4 h5 h6 ⊢ <;> simp_all
theorem dec_enc {r : RecR} (hw : r.wf) (hf : fitsP r) : decR (recB r) = (r, 0) := by
  have hlen := (recB_len hw hf).1
  have hr : recS (recB r, 0) = (r, ([], 0)) := by
    obtain ⟨w0, w1, w2, w3, w4, w5, w6⟩ := hw
    have b2 := bounds_u64 w2
    have b3 := bounds_u64 w3
    have b4 := bounds_u64 w4
    have hb := bare hf
    have e1 : kindS (recB r, 0) = (r.kind, (recT r, 0)) := rfl
    unfold recS
    rw [e1]
    simp only [beq_self_eq_true, if_true]
    unfold bodyS recT
    rcases hf.2.2.2.2.2.2 with ⟨h, h1⟩ | ⟨h, h1⟩ | ⟨h, h1⟩ | ⟨h, h1⟩ | ⟨h, h1⟩
    · have q := wide_num (n := r.boot) ⟨by omega, by omega⟩ []
      rw [List.append_nil] at q
      simp only [if_pos h] at hb ⊢
      rw [q]
      simp only []
      rw [← hb]
    · have n1 : ¬ r.kind = 1 := by omega
      have q := wide_num (n := r.term) ⟨by omega, by omega⟩ (numI r.vote)
      have q2 := small_num (n := r.vote) (by omega) (by omega) []
      rw [List.append_nil] at q2
      simp only [if_neg n1, if_pos h] at hb ⊢
      rw [q]
      simp only []
      rw [q2]
      simp only []
      rw [← hb]
    · have n1 : ¬ r.kind = 1 := by omega
      have n2 : ¬ r.kind = 2 := by omega
      have q := wide_num (n := r.index) ⟨by omega, by omega⟩ (entB r.ent)
      have q2 := ent_read w5 h1.2
      simp only [if_neg n1, if_neg n2, if_pos h] at hb ⊢
      rw [q]
      simp only []
      rw [q2]
      simp only []
      rw [← hb]
    · have n1 : ¬ r.kind = 1 := by omega
      have n2 : ¬ r.kind = 2 := by omega
      have n3 : ¬ r.kind = 3 := by omega
      have q := wide_num (n := r.index) ⟨by omega, by omega⟩ []
      rw [List.append_nil] at q
      simp only [if_neg n1, if_neg n2, if_neg n3, if_pos h] at hb ⊢
      rw [q]
      simp only []
      rw [← hb]
    · have n1 : ¬ r.kind = 1 := by omega
      have n2 : ¬ r.kind = 2 := by omega
      have n3 : ¬ r.kind = 3 := by omega
      have n4 : ¬ r.kind = 4 := by omega
      have q := Sc.dec_enc w6 h1
      simp only [if_neg n1, if_neg n2, if_neg n3, if_neg n4, if_pos h] at hb ⊢
      unfold picS
      simp only [q]
      rw [← hb]
      rfl
  have he : errR (recB r) = 0 := errR_zero.2 (by rw [hr])
  rw [decR_ok (by omega) he (by rw [hr]; exact hf), hr]
theorem ent_back {st : Pst} (hw : WfB st.1) (h : (entS st).2 = ([], 0)) (hf : Hd.fitsB (entS st).1 = true) : st.2 = 0 ∧ st.1 = entB (entS st).1 := by
  obtain ⟨zs, e⟩ := st
  by_cases he : (e == 0) = true
  · obtain rfl : e = 0 := by simpa using he
    refine ⟨rfl, ?_⟩
    dsimp only at hw ⊢
    unfold entS at h hf ⊢
    simp only [beq_self_eq_true, if_true, Prod.mk.injEq] at h hf ⊢
    obtain ⟨hd, h0⟩ := h
    unfold entD at hd h0 hf ⊢
    rcases hr : Oc.rdL zs with ⟨n, k, er⟩
    simp only [hr] at hd h0 hf ⊢
    rcases Oc.rd_err hr with hee | hee
    · subst hee
      obtain ⟨-, hk, -, hn⟩ := Oc.rd_back hw hr
      simp only [beq_self_eq_true, if_true] at hd h0 hf ⊢
      rcases hc : decL (zs.drop k) with ⟨c, j, ec⟩
      simp only [hc] at hd h0 hf ⊢
      by_cases h40 : (ec == 40) = true
      · rw [if_pos h40] at hf
        obtain ⟨-, q⟩ := fitsB_of hf
        exact absurd (show chkC zeroC = true from q) (by decide)
      · rw [if_neg h40] at hd h0 hf ⊢
        by_cases h00 : (ec == 0) = true
        · obtain rfl : ec = 0 := by simpa using h00
          obtain ⟨-, hj, hcn⟩ := Cm.dec_back (fun m hm => hw m (List.mem_of_mem_drop hm)) hc
          rw [if_pos h00] at hd ⊢
          simp only [] at hd ⊢
          unfold entB numI
          rw [show (((n : Nat) : Int)).toNat = n by omega, hn, hcn]
          rw [← List.drop_drop] at hd
          have q : (zs.drop k).take j = zs.drop k := by
            have := List.take_append_drop j (zs.drop k)
            rw [hd, List.append_nil] at this
            exact this
          rw [q, List.take_append_drop]
        · rw [if_neg h00] at h0
          simp only [] at h0
          subst h0
          simp at h00
    · rw [if_neg (by rw [hee]; simp)] at h0
      simp only [] at h0
      subst h0
      simp at hee
  · unfold entS at h
    rw [if_neg he] at h
    simp only [Prod.mk.injEq] at h
    rw [h.2] at he
    simp at he
theorem dec_back {zs : List Int} (hw : WfB zs) {r : RecR} (h : decR zs = (r, 0)) : fitsP r ∧ recB r = zs ∧ recS (zs, 0) = (r, ([], 0)) := by
  by_cases hl : 8000 < zs.length
  · rw [decR_long hl] at h
    simp at h
  by_cases he0 : errR zs ≠ 0
  · rw [decR_err hl he0] at h
    simp only [Prod.mk.injEq] at h
    exact absurd h.2 he0
  have he : errR zs = 0 := Decidable.not_not.1 he0
  clear he0
  by_cases ok0 : ¬ fitsP (recS (zs, 0)).1
  · rw [decR_no hl he ok0] at h
    simp at h
  have ok := Classical.not_not.1 ok0
  clear ok0
  rw [decR_ok hl he ok] at h
  simp only [Prod.mk.injEq, and_true] at h
  have h2 := errR_zero.1 he
  have hrr : recS (zs, 0) = (r, ([], 0)) := Prod.ext h h2
  refine ⟨by rw [← h]; exact ok, ?_, hrr⟩
  rw [h] at ok
  have hk := kind_bd ok.2.2.2.2.2.2
  cases zs with
  | nil => 
    have q : (recS (([] : List Int), 0)).2 = ([], 10) := rfl
    rw [q] at h2
    simp at h2
  | cons x rest =>
    have e1 : recS (x :: rest, 0) = bodyS x (rest, 0) := rfl
    rw [e1] at hrr
    have hwr : WfB rest := fun n hn => hw n (List.mem_cons_of_mem _ hn)
    unfold recB recT
    unfold bodyS at hrr
    by_cases n1 : x = 1
    · rw [if_pos n1] at hrr
      simp only [Prod.mk.injEq] at hrr
      obtain ⟨hr, hs⟩ := hrr
      have q := (num_back (m := 18446744073709551615) (st := (rest, 0)) hwr (by rw [show (pnum 18446744073709551615 (rest, 0)).2 = ([], 0) from hs])).2
      rw [show (pnum 18446744073709551615 (rest, 0)).2 = ([], 0) from hs, List.append_nil] at q
      rw [← hr]
      simp only [if_true]
      rw [n1]
      exact congrArg (List.cons 1) q.symm
    rw [if_neg n1] at hrr
    by_cases n2 : x = 2
    · rw [if_pos n2] at hrr
      simp only [Prod.mk.injEq] at hrr
      obtain ⟨hr, hs⟩ := hrr
      have q2 := num_back (m := 65535) (st := (wideS (rest, 0)).2) (wf_next hwr) (by rw [show (pnum 65535 (wideS (rest, 0)).2).2 = ([], 0) from hs])
      rw [show (pnum 65535 (wideS (rest, 0)).2).2 = ([], 0) from hs, List.append_nil] at q2
      have q := (num_back (m := 18446744073709551615) (st := (rest, 0)) hwr q2.1).2
      rw [q2.2] at q
      rw [← hr]
      simp only [Int.reduceEq, if_true, if_false]
      rw [n2]
      exact congrArg (List.cons 2) q.symm
    rw [if_neg n2] at hrr
    by_cases n3 : x = 3
    · rw [if_pos n3] at hrr
      simp only [Prod.mk.injEq] at hrr
      obtain ⟨hr, hs⟩ := hrr
      have hfb : Hd.fitsB (entS (wideS (rest, 0)).2).1 = true := by
        have := ok.2.2.2.2.2.2
        rw [← hr] at this
        rcases this with ⟨a, -⟩ | ⟨a, -⟩ | ⟨-, -, b⟩ | ⟨a, -⟩ | ⟨a, -⟩
        · cases a
        · cases a
        · exact b
        · cases a
        · cases a
      have q2 := ent_back (wf_next hwr) hs hfb
      have q := (num_back (m := 18446744073709551615) (st := (rest, 0)) hwr q2.1).2
      rw [q2.2] at q
      rw [← hr]
      simp only [Int.reduceEq, if_true, if_false]
      rw [n3]
      exact congrArg (List.cons 3) q.symm
    rw [if_neg n3] at hrr
    by_cases n4 : x = 4
    · rw [if_pos n4] at hrr
      simp only [Prod.mk.injEq] at hrr
      obtain ⟨hr, hs⟩ := hrr
      have q := (num_back (m := 18446744073709551615) (st := (rest, 0)) hwr (by rw [show (pnum 18446744073709551615 (rest, 0)).2 = ([], 0) from hs])).2
      rw [show (pnum 18446744073709551615 (rest, 0)).2 = ([], 0) from hs, List.append_nil] at q
      rw [← hr]
      simp only [Int.reduceEq, if_true, if_false]
      rw [n4]
      exact congrArg (List.cons 4) q.symm
    rw [if_neg n4] at hrr
    by_cases n5 : x = 5
    · rw [if_pos n5] at hrr
      simp only [Prod.mk.injEq] at hrr
      obtain ⟨hr, hs⟩ := hrr
      have hso : shotOk (picS (rest, 0)).1 := by
        have := ok.2.2.2.2.2.2
        rw [← hr] at this
        rcases this with ⟨a, -⟩ | ⟨a, -⟩ | ⟨a, -⟩ | ⟨a, -⟩ | ⟨-, b⟩
        · cases a
        · cases a
        · cases a
        · cases a
        · exact b
      rcases hd : decV rest with ⟨s, e⟩
      unfold picS at hs hso hr
      simp only [hd] at hs hso hr
      have e0 : e = 0 := by
        by_cases h60 : (e == 60) = true
        · obtain rfl : e = 60 := by simpa using h60
          obtain rfl : s = zS := by
            by_cases hl2 : 8192 < rest.length
            · rw [Sc.dec_long hl2] at hd; simp at hd
            · by_cases hee : errS rest = 0
              · by_cases okk : shotOk (shotS (rest, 0)).1
                · rw [Sc.dec_ok hl2 hee okk] at hd; simp at hd
                · rw [Sc.dec_no hl2 hee okk] at hd; simpa using hd.symm
              · rw [Sc.dec_err hl2 hee] at hd; simpa using (congrArg Prod.fst hd).symm
          exact absurd hso.1 (by decide)
        · rw [if_neg h60] at hs
          simpa using hs
      subst e0
      obtain ⟨-, q⟩ := Sc.dec_back hwr hd
      rw [← hr]
      simp only [Int.reduceEq, if_false]
      rw [n5]
      exact congrArg (List.cons 5) q
    rw [if_neg n5] at hrr
    simp only [Prod.mk.injEq] at hrr
    exact absurd hrr.2.2 (by decide)
end Rk
end Go.Proofs.YtlfaiemebfkajaaGreatDoor
namespace Go.Proofs.YtlfaiemebfkajaaGreatDoor
open Go.ChangeShapes Go.WideShapes Go.ChangeAt Go.RowKit Go.Deep
set_option linter.unusedVariables false
set_option maxRecDepth 100000
namespace Rk
open Cm Sc Nm Rc Hd Nv Sh
abbrev zEA : Array Value := #[.int .u64 0, .int .i64 0, .int .i64 0, .int .i64 0, .slice none 0 0, .int .u64 0, .int .u64 0, .int .u64 0, .int .u64 0]
abbrev zCA : Array Value := #[.int .i64 0, .int .i64 0, .int .i64 0, .slice none 0 0, .int .u64 0, .int .u64 0, .int .u64 0, .int .u64 0]
theorem zEA_one : zEA.all (·.oneCell') = true := by simp [zEA, Value.oneCell']
theorem cArr_one (c : Cmd) (a : Option Addr) (i j : Nat) : (cArr c (.slice a i j)).all (·.oneCell') = true := by simp [Value.oneCell']
theorem entC_one (x : Ent) (a : Option Addr) (i j : Nat) : (entC (x, .slice a i j)).toArray.all (·.oneCell') = true := by simp [entC, Value.oneCell']
theorem zEnt_is (w : World) : IsEnt w (.agg zEA) zEntV := ⟨.slice none 0 0, rfl, Nm.sl_nil _ _, zEnt_wf⟩
theorem results_c3 {P : Program} {fn : Func} {p a b : Tmp} {ty : TypeId} (h : fn.results = #[.cell p ty, .tmp a, .tmp b]) (tmps : Array Value) (w : World) (g : Nat) (t : TypeId) (cs : Array Value) (fr : Nat × Nat) (d : TypeDesc)
    (hp : tmps.getD p undef = .pointer (some ⟨g, 0, none⟩)) (hg : w.heap[g]? = some (.cells cs t fr))
    (hu : P.underlying ty = some d) (hd : (match d with | .struct _ | .array _ _ => true | _ => false) = true) (hi : (P.info? ty).map (·.size) = some cs.size) {x y : Value} (hx : tmps.getD a undef = x) (hy : tmps.getD b undef = y) :
    (results fn tmps).run P w = .ok (.tuple #[.agg cs, x, y]) w := by
  subst hx
  subst hy
  have hp' : tmps[p]?.getD undef = .pointer (some ⟨g, 0, none⟩) := by simpa using hp
  simp [results, h, hp', asAddr, run_loadVar_row w g t ty cs fr d hg hu hd hi]
theorem decL_40 {zs : List Int} (h : (decL zs).2.2 = 40) : (decL zs).1 = zeroC := by
  unfold decL at h ⊢
  split
  · split
    · split
      · split
        · rename_i h1 h2 h3 h4
          rw [if_pos h1, if_pos h2, if_pos h3, if_pos h4] at h
          simp at h
        · rfl
      · rfl
    · rfl
  · rfl
theorem entD_err {zs : List Int} {n k : Nat} {e : Int} (h : Oc.rdL zs = (n, k, e)) (he : (e == 0) = false) : entD zs = (zEntV, 0, e) := by
  unfold entD; simp only [h]; rw [if_neg (by rw [he]; simp)]
theorem entD_40 {zs : List Int} {n k j : Nat} {c : Cmd} (h : Oc.rdL zs = (n, k, 0)) (hd : decL (zs.drop k) = (c, j, 40)) : entD zs = (⟨n, c⟩, k + lenC (zs.drop k), 0) := by
  have hc := decL_40 (zs := zs.drop k) (by rw [hd])
  rw [hd] at hc
  dsimp only at hc
  subst hc
  unfold entD; simp only [h, hd, beq_self_eq_true, if_true]
theorem entD_ok {zs : List Int} {n k j : Nat} {c : Cmd} (h : Oc.rdL zs = (n, k, 0)) (hd : decL (zs.drop k) = (c, j, 0)) : entD zs = (⟨n, c⟩, k + j, 0) := by
  unfold entD; simp only [h, hd, beq_self_eq_true, if_true]
  rw [if_neg (by decide)]
theorem entD_no {zs : List Int} {n k j : Nat} {c : Cmd} {e : Int} (h : Oc.rdL zs = (n, k, 0)) (hd : decL (zs.drop k) = (c, j, e)) (h4 : (e == 40) = false) (h0 : (e == 0) = false) : entD zs = (zEntV, 0, e) := by
  unfold entD; simp only [h, hd, beq_self_eq_true, if_true, h4, h0]
  simp
theorem lenF_10 {zs : List Int} {k : Nat} (hk : k < zs.length) (h : ((decL (zs.take k)).2.2 == 10) = true) : lenF zs (zs.length - k) k = lenF zs (zs.length - (k + 1)) (k + 1) := by
  rw [show zs.length - k = (zs.length - (k + 1)) + 1 by omega, lenF, if_pos h]
theorem lenF_no {zs : List Int} {k : Nat} (hk : k < zs.length) (h : ((decL (zs.take k)).2.2 == 10) = false) : lenF zs (zs.length - k) k = k := by
  rw [show zs.length - k = (zs.length - (k + 1)) + 1 by omega, lenF, if_neg (by rw [h]; simp)]
theorem lenF_end {zs : List Int} : lenF zs (zs.length - zs.length) zs.length = zs.length := by rw [Nat.sub_self]; rfl
set_option maxHeartbeats 4000000 in
theorem len_any (zs : List Int) (v : Value) (w : World) (hs : Sl .u8 w v zs) : Calls Tryz.prog 87 #[v] w fun e w' => e = .returned (.int .i64 (lenC zs)) ∧ Below w.heap.size w w' := by
  obtain ⟨a, cap, rfl, hlc, hcm, -⟩ := id hs
  unfold maxLen at hcm
  have HS := Lib.hid hs
  have hbw := Below.refl w.heap.size w
  clear hs
  go_enter Tryz.func87, Tryz.ntmps87
  go_wp2_with fail
  go_loopw [3] (fun i wr => ∃ k : Nat, k ≤ zs.length ∧ i = .int .i64 k ∧ Hid (lenF zs (zs.length - k) k = lenC zs) ∧ Hid (Below w.heap.size w wr)) (fun i _ => zs.length - (intOf i).toNat)
  case atStart => exact ⟨0, Nat.zero_le _, rfl, Lib.hid rfl, Lib.hid hbw⟩
  case round =>
    clear hbw
    obtain ⟨k, hk, rfl, HL, HB⟩ := hrel
    by_cases hlt : k < zs.length
    · have hst := (HS.out.below HB.out (Nat.le_refl _)).take k hk
      have hkc : (k : Int) ≤ (cap : Int) := by omega
      have hk0 : (k : Int) < (zs.length : Int) := by omega
      go_wp2_with fail
      refine (Cm.decode_any _ _ _ hst).mono ?_
      rintro e w3 ⟨vn, rfl, own3, -, hb3⟩
      rcases hd : decL (zs.take k) with ⟨c, j, ec⟩
      rw [hd] at own3
      dsimp only at own3
      have HD := Lib.hid hd
      obtain ⟨an, m3, cn, rfl⟩ := own_formx own3
      have hsC : (w3.alloc (.cells zCA 86)).heap[w3.heap.size]? = some (.cells zCA 86 (0, 0)) := heap_alloc_new _ _
      obtain ⟨W4, hW4⟩ : ∃ q, (w3.alloc (.cells zCA 86)).setRow w3.heap.size (cArr c (.slice an m3 cn)) = q := ⟨_, rfl⟩
      have HB4 : Hid (Below w.heap.size w W4) := Lib.hid (HB.out.trans ((hb3.trans (show Below wr.heap.size w3 W4 by rw [← hW4]; exact Ld.below_row ((Below.refl _ _).alloc hb3.size _) hb3.size _)).mono HB.out.size))
      clear hb3 hst hd own3
      cases he : (ec == 10) with
      | true =>
        have hne : (ec != 10) = false := by rw [bne, he]; rfl
        have HN := Lib.hid ((lenF_10 hlt (by rw [HD.out]; exact he)).symm.trans HL.out)
        clear he
        go_wp2_with (first | (with_reducible refine wpList_store_row rfl 86 (.tmp 4) (.tmp 16) rfl w3.heap.size (cArr c (.slice an m3 cn)) rfl rfl 86 _ hsC (by kernel_rfl) rfl (cArr_one _ _ _ _) ?_; rw [hW4]; clear hW4 hsC) | fail)
        go_roundw
        case rel => exact ⟨k + 1, by omega, by go_num, HN, HB4⟩
        case measure => simp [intOf]; omega
      | false =>
        have hne : (ec != 10) = true := by rw [bne, he]; rfl
        have HN := Lib.hid ((lenF_no hlt (by rw [HD.out]; exact he)).symm.trans HL.out)
        clear he
        go_wp2_with (first | (with_reducible refine wpList_store_row rfl 86 (.tmp 4) (.tmp 16) rfl w3.heap.size (cArr c (.slice an m3 cn)) rfl rfl 86 _ hsC (by kernel_rfl) rfl (cArr_one _ _ _ _) ?_; rw [hW4]; clear hW4 hsC) | fail)
        go_ret
        exact ⟨by rw [HN.out]; rfl, HB4.out⟩
    · obtain rfl : k = zs.length := by omega
      have HN := Lib.hid (lenF_end.symm.trans HL.out)
      go_wp2
      go_ret
      exact ⟨by rw [← HN.out]; rfl, HB.out⟩
def EntW (x : Ent) : Prop := x.wf ∧ ∀ n ∈ x.cmd.nodes, (Lit.int .i64 n).wf = true
theorem zEntV_w : EntW zEntV := ⟨zEnt_wf, by simp [zEntV]⟩
theorem u64_nat {n : Nat} (h : n < 18446744073709551616) : (Lit.int .u64 (n : Int)).wf = true := u64_wf ⟨by omega, by omega⟩
def EntDE (zs : List Int) (w : World) (e : Ending) (w' : World) : Prop := ∃ vn, e = .returned (.tuple #[.agg (entC ((entD zs).1, vn)).toArray, .int .i64 (entD zs).2.1, .int .i64 (entD zs).2.2]) ∧ OwnI w' w.heap.size vn (entD zs).1.cmd.nodes ∧ EntW (entD zs).1 ∧ Below w.heap.size w w'
theorem ent_zero {zs : List Int} {w w' : World} {z : Int} (h : entD zs = (zEntV, 0, z)) (hb : Below w.heap.size w w') : EntDE zs w (.returned (.tuple #[.agg zEA, .int .i64 0, .int .i64 z])) w' :=
  ⟨.slice none 0 0, by rw [h]; rfl, by rw [h]; exact OwnK.nil _ _ _ _, by rw [h]; exact zEntV_w, hb⟩
theorem ent_some {zs : List Int} {w w' : World} {x : Ent} {k : Nat} {vn : Value} {z : Int} (h : entD zs = (x, k, 0)) (hz : z = (k : Int)) (ho : OwnI w' w.heap.size vn x.cmd.nodes) (hw : EntW x) (hb : Below w.heap.size w w') : EntDE zs w (.returned (.tuple #[.agg (entC (x, vn)).toArray, .int .i64 z, .int .i64 0])) w' :=
  ⟨vn, by rw [h, hz], by rw [h]; exact ho, by rw [h]; exact hw, hb⟩
theorem entD_bd {zs : List Int} (hw : WfB zs) : (entD zs).2.1 ≤ zs.length := by
  rcases hr : Oc.rdL zs with ⟨n, k, er⟩
  have hk := rd_len hr
  rcases Oc.rd_err hr with hee | hee
  · subst hee
    rcases hc : decL (zs.drop k) with ⟨c, j, ec⟩
    by_cases h4 : ec = 40
    · subst h4
      rw [entD_40 hr hc]
      have := lenC_bd (zs.drop k)
      rw [List.length_drop] at this
      show k + lenC (zs.drop k) ≤ zs.length
      omega
    · by_cases h0 : ec = 0
      · subst h0
        rw [entD_ok hr hc]
        obtain ⟨-, hj, -⟩ := Cm.dec_back (fun m hm => hw m (List.mem_of_mem_drop hm)) hc
        rw [List.length_drop] at hj
        show k + j ≤ zs.length
        omega
      · rw [entD_no hr hc (beq_eq_false_iff_ne.2 h4) (beq_eq_false_iff_ne.2 h0)]
        exact Nat.zero_le _
  · rw [entD_err hr hee]
    exact Nat.zero_le _
set_option maxHeartbeats 2000000 in
theorem entdec_any (zs : List Int) (v : Value) (w : World) (hs : Sl .u8 w v zs) : Calls Tryz.prog 65 #[v] w (EntDE zs w) := by
  obtain ⟨a, cap, rfl, hlc, hcm, -⟩ := id hs
  unfold maxLen at hcm
  obtain ⟨W0, hW0⟩ : ∃ q, w.alloc (.cells zEA 88) = q := ⟨_, rfl⟩
  have hb0 : Below w.heap.size w W0 := by rw [← hW0]; exact (Below.refl _ _).alloc (Nat.le_refl _) _
  have HQ0 : Hid (W0.heap[w.heap.size]? = some (.cells zEA 88 (0, 0))) := Lib.hid (by rw [← hW0]; exact heap_alloc_new _ _)
  have HB0 := Lib.hid hb0
  have HSW := Lib.hid (hs.below hb0 (Nat.le_refl _))
  have HS := Lib.hid hs
  have HWB : Hid (WfB zs) := Lib.hid hs.wf
  rcases hrd : Oc.rdL zs with ⟨n, k, er⟩
  have HRD := Lib.hid hrd
  rcases Oc.rd_err hrd with hee | hee
  · subst hee
    obtain ⟨-, hk, hn64, -⟩ := Oc.rd_back hs.wf hrd
    have HN := Lib.hid hn64
    have hfk := from_k hs hk
    have f3 : (k : Int) ≤ (zs.length : Int) := by omega
    clear hs hb0 hrd hn64
    rcases hfk with ⟨rfl, rfl, rfl, rfl⟩ | ⟨b, off, sp, rfl, ⟨rfl, hzl, hsl⟩ | ⟨hcu, hsl⟩⟩
    · exfalso
      have := HRD.out
      unfold Oc.rdL at this
      simp at this
    · have HSD : Hid (∀ w', Below w.heap.size w w' → Sl .u8 w' (.slice (some ⟨b, off, sp⟩) 0 0) (zs.drop cap)) := Lib.hid (fun w' hb => hsl.below hb (Nat.le_refl _))
      have hz9 : zs.length - cap = 0 := by omega
      have hzz : (cap : Int) ≤ (zs.length : Int) := by omega
      clear hsl hzl
      go_enter Tryz.func65, Tryz.ntmps65
      go_wp2_with fail
      refine (read_q HRD.out HSW.out).mono ?_
      rintro E w2 ⟨rfl, rfl⟩
      go_wp2_with fail
      refine (Cm.decode_any _ _ _ (HSD.out _ HB0.out)).mono ?_
      rintro e w3 ⟨vn, rfl, own3, hi3, hb3⟩
      rcases hd : decL (zs.drop cap) with ⟨c, j, ec⟩
      rw [hd] at own3 hi3
      dsimp only at own3 hi3
      have HD := Lib.hid hd
      obtain ⟨vn', evn, hsl, hwc⟩ := hi3
      obtain rfl : vn' = vn := by simp only [cArr, Value.agg.injEq, Array.mk.injEq, List.cons.injEq, true_and, and_true] at evn; exact evn.symm
      obtain ⟨an, cn, rfl, -⟩ := id hsl
      have HWC : Hid (c.wf ∧ ∀ n ∈ c.nodes, (Lit.int .i64 n).wf = true) := Lib.hid ⟨hwc, hsl.wf⟩
      have hsC : (w3.alloc (.cells zCA 86)).heap[w3.heap.size]? = some (.cells zCA 86 (0, 0)) := heap_alloc_new _ _
      obtain ⟨W4, hW4⟩ : ∃ q, (w3.alloc (.cells zCA 86)).setRow w3.heap.size (cArr c (.slice an c.nodes.length cn)) = q := ⟨_, rfl⟩
      have hb4 : Below w3.heap.size w3 W4 := by rw [← hW4]; exact Ld.below_row ((Below.refl _ _).alloc (Nat.le_refl _) _) (Nat.le_refl _) _
      have HX4 : Hid (W4.heap[w3.heap.size]? = some (.cells (cArr c (.slice an c.nodes.length cn)) 86 (0, 0))) := Lib.hid (by rw [← hW4]; exact setRow_heap _ _ _ _ _ _ hsC)
      have hb04 : Below W0.heap.size W0 W4 := hb3.trans (hb4.mono hb3.size)
      have HB4 : Hid (Below w.heap.size w W4) := Lib.hid (HB0.out.trans (hb04.mono HB0.out.size))
      have HQ4 := Lib.hid ((hb04.block _ (row_lt HQ0.out)).trans HQ0.out)
      have HO4 : Hid (OwnI W4 w.heap.size (.slice an c.nodes.length cn) c.nodes) := Lib.hid (own_lowerx HB0.out.size (own_belowx hb4 own3))
      clear hb3 hb4 hb04 hd hsl hwc own3
      by_cases h4 : ec = 40
      · subst h4
        have HE := Lib.hid (entD_40 HRD.out HD.out)
        go_wp2_with (first | (with_reducible refine wpList_store_row rfl 86 (.tmp 8) (.tmp 25) rfl w3.heap.size (cArr c (.slice an c.nodes.length cn)) rfl rfl 86 _ hsC (by kernel_rfl) rfl (cArr_one _ _ _ _) ?_; rw [hW4]; clear hW4 hsC) | fail)
        refine (len_any _ _ _ (HSD.out _ HB4.out)).mono ?_
        rintro e w5 ⟨rfl, hb5⟩
        have HB5 := Lib.hid (HB4.out.trans (hb5.mono HB4.out.size))
        have HQ5 := Lib.hid ((hb5.block _ (row_lt HQ4.out)).trans HQ4.out)
        have HX5 := Lib.hid ((hb5.block _ (row_lt HX4.out)).trans HX4.out)
        have HO5 := Lib.hid (own_belowx hb5 HO4.out)
        have hlb := lenC_bd (zs.drop cap)
        rw [List.length_drop] at hlb
        clear hb5
        obtain ⟨m, hm⟩ : ∃ m, lenC (zs.drop cap) = m := ⟨_, rfl⟩
        rw [hm] at HE hlb ⊢
        clear hm
        obtain ⟨WZ, hWZ⟩ : ∃ q, w5.setRow w.heap.size (entC ((⟨(n : Int), c⟩ : Ent), .slice an c.nodes.length cn)).toArray = q := ⟨_, rfl⟩
        have HQZ : Hid (WZ.heap[w.heap.size]? = some (.cells (entC ((⟨(n : Int), c⟩ : Ent), .slice an c.nodes.length cn)).toArray 88 (0, 0))) := Lib.hid (by rw [← hWZ]; exact setRow_heap _ _ _ _ _ _ HQ5.out)
        have HFIN : Hid (EntDE zs w (.returned (.tuple #[.agg (entC ((⟨(n : Int), c⟩ : Ent), .slice an c.nodes.length cn)).toArray, .int .i64 ((cap : Int) + (m : Int)), .int .i64 0])) WZ) := Lib.hid (by
          have hx : Only (· = w.heap.size) w5 WZ := by rw [← hWZ]; exact only_row _ _ _
          have hb : ∀ q, q < w5.heap.size → q ≠ w.heap.size → WZ.heap[q]? = w5.heap[q]? := fun q hq hn => hx.2.2.2.2 q hq hn
          exact ent_some HE.out (by omega) (own_blk HO5.out (own_ty HO5.out HQ5.out (by decide)) hb) ⟨⟨u64_nat HN.out, HWC.out.1⟩, HWC.out.2⟩ (by rw [← hWZ]; exact Ld.below_row HB5.out (Nat.le_refl _) _))
        go_wp2_with (first
          | (with_reducible refine wpList_load_row rfl 86 (.tmp 8) rfl w3.heap.size rfl 86 (cArr c (.slice an c.nodes.length cn)) (0, 0) _ HX5.out Tryz.underlying86 rfl (by kernel_rfl) ?_)
          | (with_reducible refine wpList_store_row rfl 88 (.tmp 2) (.tmp 40) rfl w.heap.size (entC ((⟨(n : Int), c⟩ : Ent), .slice an c.nodes.length cn)).toArray rfl rfl 88 _ HQ5.out (by kernel_rfl) rfl (entC_one _ _ _ _) ?_; rw [hWZ]; clear hWZ))
        refine bodyPost_ret (v := .tuple #[.agg (entC ((⟨(n : Int), c⟩ : Ent), .slice an c.nodes.length cn)).toArray, .int .i64 ((cap : Int) + (m : Int)), .int .i64 0]) (results_c3 rfl _ _ w.heap.size 88 _ (0, 0) _ rfl HQZ.out Tryz.underlying88 rfl (by kernel_rfl) rfl rfl) rfl ?_
        exact HFIN.out
      · by_cases h0 : ec = 0
        · subst h0
          have HE := Lib.hid (entD_ok HRD.out HD.out)
          have hjj : j ≤ zs.length - cap := by
            obtain ⟨-, hj, -⟩ := Cm.dec_back (fun m hm => HWB.out m (List.mem_of_mem_drop hm)) HD.out
            rwa [List.length_drop] at hj
          clear h4
          obtain ⟨WZ, hWZ⟩ : ∃ q, W4.setRow w.heap.size (entC ((⟨(n : Int), c⟩ : Ent), .slice an c.nodes.length cn)).toArray = q := ⟨_, rfl⟩
          have HQZ : Hid (WZ.heap[w.heap.size]? = some (.cells (entC ((⟨(n : Int), c⟩ : Ent), .slice an c.nodes.length cn)).toArray 88 (0, 0))) := Lib.hid (by rw [← hWZ]; exact setRow_heap _ _ _ _ _ _ HQ4.out)
          have HFIN : Hid (EntDE zs w (.returned (.tuple #[.agg (entC ((⟨(n : Int), c⟩ : Ent), .slice an c.nodes.length cn)).toArray, .int .i64 ((cap : Int) + (j : Int)), .int .i64 0])) WZ) := Lib.hid (by
            have hx : Only (· = w.heap.size) W4 WZ := by rw [← hWZ]; exact only_row _ _ _
            have hb : ∀ q, q < W4.heap.size → q ≠ w.heap.size → WZ.heap[q]? = W4.heap[q]? := fun q hq hn => hx.2.2.2.2 q hq hn
            exact ent_some HE.out (by omega) (own_blk HO4.out (own_ty HO4.out HQ4.out (by decide)) hb) ⟨⟨u64_nat HN.out, HWC.out.1⟩, HWC.out.2⟩ (by rw [← hWZ]; exact Ld.below_row HB4.out (Nat.le_refl _) _))
          go_wp2_with (first
            | (with_reducible refine wpList_store_row rfl 86 (.tmp 8) (.tmp 25) rfl w3.heap.size (cArr c (.slice an c.nodes.length cn)) rfl rfl 86 _ hsC (by kernel_rfl) rfl (cArr_one _ _ _ _) ?_; rw [hW4]; clear hW4 hsC)
            | (with_reducible refine wpList_load_row rfl 86 (.tmp 8) rfl w3.heap.size rfl 86 (cArr c (.slice an c.nodes.length cn)) (0, 0) _ HX4.out Tryz.underlying86 rfl (by kernel_rfl) ?_)
            | (with_reducible refine wpList_store_row rfl 88 (.tmp 2) (.tmp 40) rfl w.heap.size (entC ((⟨(n : Int), c⟩ : Ent), .slice an c.nodes.length cn)).toArray rfl rfl 88 _ HQ4.out (by kernel_rfl) rfl (entC_one _ _ _ _) ?_; rw [hWZ]; clear hWZ))
          refine bodyPost_ret (v := .tuple #[.agg (entC ((⟨(n : Int), c⟩ : Ent), .slice an c.nodes.length cn)).toArray, .int .i64 ((cap : Int) + (j : Int)), .int .i64 0]) (results_c3 rfl _ _ w.heap.size 88 _ (0, 0) _ rfl HQZ.out Tryz.underlying88 rfl (by kernel_rfl) rfl rfl) rfl ?_
          exact HFIN.out
        · have n4 : (ec == 40) = false := beq_eq_false_iff_ne.2 h4
          have n0 : (ec != 0) = true := by rw [bne, beq_eq_false_iff_ne.2 h0]; rfl
          have HE := Lib.hid (entD_no HRD.out HD.out n4 (beq_eq_false_iff_ne.2 h0))
          clear h4 h0
          obtain ⟨WZ, hWZ⟩ : ∃ q, W4.setRow w.heap.size zEA = q := ⟨_, rfl⟩
          have HQZ : Hid (WZ.heap[w.heap.size]? = some (.cells zEA 88 (0, 0))) := Lib.hid (by rw [← hWZ]; exact setRow_heap _ _ _ _ _ _ HQ4.out)
          have HFIN : Hid (EntDE zs w (.returned (.tuple #[.agg zEA, .int .i64 0, .int .i64 ec])) WZ) := Lib.hid (ent_zero HE.out (by rw [← hWZ]; exact Ld.below_row HB4.out (Nat.le_refl _) _))
          go_wp2_with (first | (with_reducible refine wpList_store_row rfl 86 (.tmp 8) (.tmp 25) rfl w3.heap.size (cArr c (.slice an c.nodes.length cn)) rfl rfl 86 _ hsC (by kernel_rfl) rfl (cArr_one _ _ _ _) ?_; rw [hW4]; clear hW4 hsC) | (with_reducible refine wpList_store_row rfl 88 (.tmp 2) (.tmp 36) rfl w.heap.size zEA rfl rfl 88 _ HQ4.out (by kernel_rfl) rfl zEA_one ?_; rw [hWZ]; clear hWZ) | fail)
          refine bodyPost_ret (v := .tuple #[.agg zEA, .int .i64 0, .int .i64 ec]) (results_c3 rfl _ _ w.heap.size 88 _ (0, 0) _ rfl HQZ.out Tryz.underlying88 rfl (by kernel_rfl) rfl rfl) rfl ?_
          exact HFIN.out
    · have HSD : Hid (∀ w', Below w.heap.size w w' → Sl .u8 w' (.slice (some ((⟨b, off, sp⟩ : Addr).add k)) (zs.length - k) (cap - k)) (zs.drop k)) := Lib.hid (fun w' hb => hsl.below hb (Nat.le_refl _))
      have f4 : (k : Int) < (cap : Int) := by omega
      clear hsl
      go_enter Tryz.func65, Tryz.ntmps65
      go_wp2_with fail
      refine (read_q HRD.out HSW.out).mono ?_
      rintro E w2 ⟨rfl, rfl⟩
      go_wp2_with fail
      refine (Cm.decode_any _ _ _ (HSD.out _ HB0.out)).mono ?_
      rintro e w3 ⟨vn, rfl, own3, hi3, hb3⟩
      rcases hd : decL (zs.drop k) with ⟨c, j, ec⟩
      rw [hd] at own3 hi3
      dsimp only at own3 hi3
      have HD := Lib.hid hd
      obtain ⟨vn', evn, hsl, hwc⟩ := hi3
      obtain rfl : vn' = vn := by simp only [cArr, Value.agg.injEq, Array.mk.injEq, List.cons.injEq, true_and, and_true] at evn; exact evn.symm
      obtain ⟨an, cn, rfl, -⟩ := id hsl
      have HWC : Hid (c.wf ∧ ∀ n ∈ c.nodes, (Lit.int .i64 n).wf = true) := Lib.hid ⟨hwc, hsl.wf⟩
      have hsC : (w3.alloc (.cells zCA 86)).heap[w3.heap.size]? = some (.cells zCA 86 (0, 0)) := heap_alloc_new _ _
      obtain ⟨W4, hW4⟩ : ∃ q, (w3.alloc (.cells zCA 86)).setRow w3.heap.size (cArr c (.slice an c.nodes.length cn)) = q := ⟨_, rfl⟩
      have hb4 : Below w3.heap.size w3 W4 := by rw [← hW4]; exact Ld.below_row ((Below.refl _ _).alloc (Nat.le_refl _) _) (Nat.le_refl _) _
      have HX4 : Hid (W4.heap[w3.heap.size]? = some (.cells (cArr c (.slice an c.nodes.length cn)) 86 (0, 0))) := Lib.hid (by rw [← hW4]; exact setRow_heap _ _ _ _ _ _ hsC)
      have hb04 : Below W0.heap.size W0 W4 := hb3.trans (hb4.mono hb3.size)
      have HB4 : Hid (Below w.heap.size w W4) := Lib.hid (HB0.out.trans (hb04.mono HB0.out.size))
      have HQ4 := Lib.hid ((hb04.block _ (row_lt HQ0.out)).trans HQ0.out)
      have HO4 : Hid (OwnI W4 w.heap.size (.slice an c.nodes.length cn) c.nodes) := Lib.hid (own_lowerx HB0.out.size (own_belowx hb4 own3))
      clear hb3 hb4 hb04 hd hsl hwc own3
      by_cases h4 : ec = 40
      · subst h4
        have HE := Lib.hid (entD_40 HRD.out HD.out)
        go_wp2_with (first | (with_reducible refine wpList_store_row rfl 86 (.tmp 8) (.tmp 25) rfl w3.heap.size (cArr c (.slice an c.nodes.length cn)) rfl rfl 86 _ hsC (by kernel_rfl) rfl (cArr_one _ _ _ _) ?_; rw [hW4]; clear hW4 hsC) | fail)
        refine (len_any _ _ _ (HSD.out _ HB4.out)).mono ?_
        rintro e w5 ⟨rfl, hb5⟩
        have HB5 := Lib.hid (HB4.out.trans (hb5.mono HB4.out.size))
        have HQ5 := Lib.hid ((hb5.block _ (row_lt HQ4.out)).trans HQ4.out)
        have HX5 := Lib.hid ((hb5.block _ (row_lt HX4.out)).trans HX4.out)
        have HO5 := Lib.hid (own_belowx hb5 HO4.out)
        have hlb := lenC_bd (zs.drop k)
        rw [List.length_drop] at hlb
        clear hb5
        obtain ⟨m, hm⟩ : ∃ m, lenC (zs.drop k) = m := ⟨_, rfl⟩
        rw [hm] at HE hlb ⊢
        clear hm
        obtain ⟨WZ, hWZ⟩ : ∃ q, w5.setRow w.heap.size (entC ((⟨(n : Int), c⟩ : Ent), .slice an c.nodes.length cn)).toArray = q := ⟨_, rfl⟩
        have HQZ : Hid (WZ.heap[w.heap.size]? = some (.cells (entC ((⟨(n : Int), c⟩ : Ent), .slice an c.nodes.length cn)).toArray 88 (0, 0))) := Lib.hid (by rw [← hWZ]; exact setRow_heap _ _ _ _ _ _ HQ5.out)
        have HFIN : Hid (EntDE zs w (.returned (.tuple #[.agg (entC ((⟨(n : Int), c⟩ : Ent), .slice an c.nodes.length cn)).toArray, .int .i64 ((k : Int) + (m : Int)), .int .i64 0])) WZ) := Lib.hid (by
          have hx : Only (· = w.heap.size) w5 WZ := by rw [← hWZ]; exact only_row _ _ _
          have hb : ∀ q, q < w5.heap.size → q ≠ w.heap.size → WZ.heap[q]? = w5.heap[q]? := fun q hq hn => hx.2.2.2.2 q hq hn
          exact ent_some HE.out (by omega) (own_blk HO5.out (own_ty HO5.out HQ5.out (by decide)) hb) ⟨⟨u64_nat HN.out, HWC.out.1⟩, HWC.out.2⟩ (by rw [← hWZ]; exact Ld.below_row HB5.out (Nat.le_refl _) _))
        go_wp2_with (first
          | (with_reducible refine wpList_load_row rfl 86 (.tmp 8) rfl w3.heap.size rfl 86 (cArr c (.slice an c.nodes.length cn)) (0, 0) _ HX5.out Tryz.underlying86 rfl (by kernel_rfl) ?_)
          | (with_reducible refine wpList_store_row rfl 88 (.tmp 2) (.tmp 40) rfl w.heap.size (entC ((⟨(n : Int), c⟩ : Ent), .slice an c.nodes.length cn)).toArray rfl rfl 88 _ HQ5.out (by kernel_rfl) rfl (entC_one _ _ _ _) ?_; rw [hWZ]; clear hWZ))
        refine bodyPost_ret (v := .tuple #[.agg (entC ((⟨(n : Int), c⟩ : Ent), .slice an c.nodes.length cn)).toArray, .int .i64 ((k : Int) + (m : Int)), .int .i64 0]) (results_c3 rfl _ _ w.heap.size 88 _ (0, 0) _ rfl HQZ.out Tryz.underlying88 rfl (by kernel_rfl) rfl rfl) rfl ?_
        exact HFIN.out
      · by_cases h0 : ec = 0
        · subst h0
          have HE := Lib.hid (entD_ok HRD.out HD.out)
          have hjj : j ≤ zs.length - k := by
            obtain ⟨-, hj, -⟩ := Cm.dec_back (fun m hm => HWB.out m (List.mem_of_mem_drop hm)) HD.out
            rwa [List.length_drop] at hj
          clear h4
          obtain ⟨WZ, hWZ⟩ : ∃ q, W4.setRow w.heap.size (entC ((⟨(n : Int), c⟩ : Ent), .slice an c.nodes.length cn)).toArray = q := ⟨_, rfl⟩
          have HQZ : Hid (WZ.heap[w.heap.size]? = some (.cells (entC ((⟨(n : Int), c⟩ : Ent), .slice an c.nodes.length cn)).toArray 88 (0, 0))) := Lib.hid (by rw [← hWZ]; exact setRow_heap _ _ _ _ _ _ HQ4.out)
          have HFIN : Hid (EntDE zs w (.returned (.tuple #[.agg (entC ((⟨(n : Int), c⟩ : Ent), .slice an c.nodes.length cn)).toArray, .int .i64 ((k : Int) + (j : Int)), .int .i64 0])) WZ) := Lib.hid (by
            have hx : Only (· = w.heap.size) W4 WZ := by rw [← hWZ]; exact only_row _ _ _
            have hb : ∀ q, q < W4.heap.size → q ≠ w.heap.size → WZ.heap[q]? = W4.heap[q]? := fun q hq hn => hx.2.2.2.2 q hq hn
            exact ent_some HE.out (by omega) (own_blk HO4.out (own_ty HO4.out HQ4.out (by decide)) hb) ⟨⟨u64_nat HN.out, HWC.out.1⟩, HWC.out.2⟩ (by rw [← hWZ]; exact Ld.below_row HB4.out (Nat.le_refl _) _))
          go_wp2_with (first
            | (with_reducible refine wpList_store_row rfl 86 (.tmp 8) (.tmp 25) rfl w3.heap.size (cArr c (.slice an c.nodes.length cn)) rfl rfl 86 _ hsC (by kernel_rfl) rfl (cArr_one _ _ _ _) ?_; rw [hW4]; clear hW4 hsC)
            | (with_reducible refine wpList_load_row rfl 86 (.tmp 8) rfl w3.heap.size rfl 86 (cArr c (.slice an c.nodes.length cn)) (0, 0) _ HX4.out Tryz.underlying86 rfl (by kernel_rfl) ?_)
            | (with_reducible refine wpList_store_row rfl 88 (.tmp 2) (.tmp 40) rfl w.heap.size (entC ((⟨(n : Int), c⟩ : Ent), .slice an c.nodes.length cn)).toArray rfl rfl 88 _ HQ4.out (by kernel_rfl) rfl (entC_one _ _ _ _) ?_; rw [hWZ]; clear hWZ))
          refine bodyPost_ret (v := .tuple #[.agg (entC ((⟨(n : Int), c⟩ : Ent), .slice an c.nodes.length cn)).toArray, .int .i64 ((k : Int) + (j : Int)), .int .i64 0]) (results_c3 rfl _ _ w.heap.size 88 _ (0, 0) _ rfl HQZ.out Tryz.underlying88 rfl (by kernel_rfl) rfl rfl) rfl ?_
          exact HFIN.out
        · have n4 : (ec == 40) = false := beq_eq_false_iff_ne.2 h4
          have n0 : (ec != 0) = true := by rw [bne, beq_eq_false_iff_ne.2 h0]; rfl
          have HE := Lib.hid (entD_no HRD.out HD.out n4 (beq_eq_false_iff_ne.2 h0))
          clear h4 h0
          obtain ⟨WZ, hWZ⟩ : ∃ q, W4.setRow w.heap.size zEA = q := ⟨_, rfl⟩
          have HQZ : Hid (WZ.heap[w.heap.size]? = some (.cells zEA 88 (0, 0))) := Lib.hid (by rw [← hWZ]; exact setRow_heap _ _ _ _ _ _ HQ4.out)
          have HFIN : Hid (EntDE zs w (.returned (.tuple #[.agg zEA, .int .i64 0, .int .i64 ec])) WZ) := Lib.hid (ent_zero HE.out (by rw [← hWZ]; exact Ld.below_row HB4.out (Nat.le_refl _) _))
          go_wp2_with (first | (with_reducible refine wpList_store_row rfl 86 (.tmp 8) (.tmp 25) rfl w3.heap.size (cArr c (.slice an c.nodes.length cn)) rfl rfl 86 _ hsC (by kernel_rfl) rfl (cArr_one _ _ _ _) ?_; rw [hW4]; clear hW4 hsC) | (with_reducible refine wpList_store_row rfl 88 (.tmp 2) (.tmp 36) rfl w.heap.size zEA rfl rfl 88 _ HQ4.out (by kernel_rfl) rfl zEA_one ?_; rw [hWZ]; clear hWZ) | fail)
          refine bodyPost_ret (v := .tuple #[.agg zEA, .int .i64 0, .int .i64 ec]) (results_c3 rfl _ _ w.heap.size 88 _ (0, 0) _ rfl HQZ.out Tryz.underlying88 rfl (by kernel_rfl) rfl rfl) rfl ?_
          exact HFIN.out
  · have HE := Lib.hid (entD_err hrd hee)
    have hne : (er != 0) = true := by rw [bne, hee]; rfl
    clear hs hb0 hrd
    go_enter Tryz.func65, Tryz.ntmps65
    go_wp2_with fail
    refine (read_q HRD.out HSW.out).mono ?_
    rintro E w2 ⟨rfl, rfl⟩
    obtain ⟨WZ, hWZ⟩ : ∃ q, W0.setRow w.heap.size zEA = q := ⟨_, rfl⟩
    have HQZ : Hid (WZ.heap[w.heap.size]? = some (.cells zEA 88 (0, 0))) := Lib.hid (by rw [← hWZ]; exact setRow_heap _ _ _ _ _ _ HQ0.out)
    have HFIN : Hid (EntDE zs w (.returned (.tuple #[.agg zEA, .int .i64 0, .int .i64 er])) WZ) := Lib.hid (ent_zero HE.out (by rw [← hWZ]; exact Ld.below_row HB0.out (Nat.le_refl _) _))
    go_wp2_with (first | (with_reducible refine wpList_store_row rfl 88 (.tmp 2) (.tmp 18) rfl w.heap.size zEA rfl rfl 88 _ HQ0.out (by kernel_rfl) rfl zEA_one ?_; rw [hWZ]; clear hWZ) | fail)
    refine bodyPost_ret (v := .tuple #[.agg zEA, .int .i64 0, .int .i64 er]) (results_c3 rfl _ _ w.heap.size 88 _ (0, 0) _ rfl HQZ.out Tryz.underlying88 rfl (by kernel_rfl) rfl rfl) rfl ?_
    exact HFIN.out
end Rk
end Go.Proofs.YtlfaiemebfkajaaGreatDoor
