/- The document's session: Feed. No condition. -/
import Derived.Test.YtdakkjpejhlciaaMvD
namespace Go.Proofs.Ytdakkjpejhlciaa
open Go.ChangeShapes Go.WideShapes Go.ChangeAt Go.RowKit Go.Deep
set_option linter.unusedVariables false
set_option maxRecDepth 100000
set_option linter.unusedSimpArgs false
namespace Mv
open St Mc Mu
section
variable {w w' w1 w2 : World} {S S' : Nat → Prop} {p : Nat} {vq vo vq' vo' r : Value} {b tx tx' b' : ByteArray} {bd al bd' al' : Bool} {s s' : Ses}
/-- its reader has been fed -/
theorem XSV.fed {rd' : Rst} (h : XSV w S p vq vo b bd al tx s) (hr : XRdE [vq, .int .i64 (stX s.st), .bool al, .string tx, vo] TX w' p rd') (hf : FarR 0 p none w w') :
    ∃ b', XSV w' S p vq vo b' (decide (rd'.st = 3)) al tx { s with rd := rd' } ∧ Only S w w' := by
  obtain ⟨b', h1, h2⟩ := hr
  have hb : ∀ k, k < w.heap.size → k ≠ p → w'.heap[k]? = w.heap[k]? := fun k hk hn => hf.2 k hk hn (fun e => by cases e)
  refine ⟨b', ⟨h1, h.sp, ⟨fun h0 => ⟨rfl, h2⟩, h.says.2⟩, h.q.keep (fun k hk => hb k (h.low k (h.qs k hk)) (h.qne k hk)), h.qs, h.o.keep (fun k hk => hb k (h.low k (h.os k hk)) (h.one k hk)), h.os, fun k hk => Nat.lt_of_lt_of_le (h.low k hk) hf.1.size⟩, ⟨hf.1.os, hf.1.tape, hf.1.output, hf.1.size, fun k hk hs => hb k hk (fun e => hs (e ▸ h.sp))⟩⟩
set_option maxHeartbeats 4000000 in
theorem feed_any {n m : Nat} (t : ByteArray) (w : World) (h : XSV w S p vq vo b bd al tx s) (hok : okS n m s) (hl : t.size ≤ 1000000) : Calls Try.prog 10 #[.pointer (some ⟨p, 0, none⟩), .string t] w (MvR (.int .i64 (feedE s)) p (feedS s (sb t)) S w) := by
  obtain ⟨-, c1, c2, c3, -, -, -, z⟩ := xcells h.row
  have HV := Lib.hid h
  by_cases h0 : s.st = 0
  · have HE : Hid (feedE s = 3 ∧ feedS s (sb t) = s) := Lib.hid ⟨by unfold feedE; rw [if_pos h0], by unfold feedS; rw [if_pos h0]⟩
    rw [HE.out.1, HE.out.2]
    replace c3 : w.cell? ⟨p, 3, none⟩ = some (.int .i64 7) := by rw [c3, h0]; rfl
    clear h hok h0 c1 c2
    go_enter Try.func10, Try.ntmps10
    go_wp2
    go_ret
    exact mvr_base (Below.refl _ _) HV.out (Only.refl _ _)
  have hx : stX s.st ≠ 7 := by have := hok.2.1; unfold stX; split <;> omega
  obtain ⟨z3, hz3⟩ : ∃ q, stX s.st = q := ⟨_, rfl⟩
  rw [hz3] at c3 hx
  have hxb : (z3 == 7) = false := beq_eq_false_iff_ne.2 hx
  have HZ3 := Lib.hid hz3
  clear hz3
  by_cases h4 : 4 ≤ s.q.length
  · have HE : Hid (feedE s = 5 ∧ feedS s (sb t) = s) := Lib.hid ⟨by unfold feedE; rw [if_neg h0, if_pos h4], by unfold feedS; rw [if_neg h0, if_pos h4]⟩
    rw [HE.out.1, HE.out.2]
    obtain ⟨aq, nq, rfl, -⟩ := h.q.len
    have h4i : (4 : Int) ≤ (s.q.length : Int) := by omega
    clear h hok h0 h4 c1 hx
    go_enter Try.func10, Try.ntmps10
    go_wp2
    go_ret
    exact mvr_base (Below.refl _ _) HV.out (Only.refl _ _)
  have HE : Hid (feedE s = 0 ∧ feedS s (sb t) = { s with rd := (runV s.rd (sb t)).2, q := s.q ++ (runV s.rd (sb t)).1 ++ badL s.rd.st (runV s.rd (sb t)).2.st }) := Lib.hid ⟨by unfold feedE; rw [if_neg h0, if_neg h4], by unfold feedS; rw [if_neg h0, if_neg h4]⟩
  rw [HE.out.1, HE.out.2]
  have HBD : Hid (bd = decide (s.rd.st = 3)) := Lib.hid (h.says.1 h0).1
  obtain ⟨aq, nq, rfl, hqc, hqm⟩ := h.q.len
  unfold maxLen at hqm
  have h4i : (s.q.length : Int) < 4 := by omega
  have hqz : 0 ≤ (s.q.length : Int) := by omega
  have HQ4 : Hid (s.q.length < 4) := Lib.hid (by omega)
  have H0 := Lib.hid h0
  have HVd : Hid (XSV w.drew S p (.slice aq s.q.length nq) vo b bd al tx s) := Lib.hid (h.keep (fun _ _ => rfl) (Nat.le_refl _))
  have HFC := Lib.hid (rfeedE_any [.slice aq s.q.length nq, .int .i64 (stX s.st), .bool al, .string tx, vo] TX 0 p s.rd t w.drew ⟨b, by rw [← HBD.out]; exact HVd.out.row, (h.says.1 h0).2⟩ hok.2.2.1 (Nat.zero_le _) hl)
  have HLR : Hid ((runV s.rd (sb t)).1.length ≤ 1000000) := Lib.hid (Nat.le_trans (run_len _) (by rw [sb_length]; exact hl))
  have C2 : Hid (w.drew.cell? ⟨p, 2, none⟩ = some (.slice aq s.q.length nq)) := Lib.hid (xcells HVd.out.row).2.2.1
  have HOB : Hid ((Value.slice aq s.q.length s.q.length).ownBlock = (Value.slice aq s.q.length nq).ownBlock) := Lib.hid (by cases aq <;> rfl)
  clear h hok h0 h4 hx
  go_enter Try.func10, Try.ntmps10
  go_wp2
  clear c1 c2 c3 h4i hqz hxb
  refine Wl.start 24 (fun u => u.cell? ⟨p, 2, none⟩ = some (.slice aq s.q.length nq)) (fun _ => True) (by kernel_rfl) C2.out trivial (fun hk => ?_)
  refine Wl.take (i := 0) (v := .pointer (some ⟨p, 0, none⟩)) [22, 23, 24] rfl (by kernel_rfl) (by kernel_rfl) (by kernel_rfl) (by kernel_rfl) (by kernel_rfl) (fun _ _ _ h => h) (.inl ⟨by kernel_rfl, ?_⟩) hk ?_
  · intro wx hSw
    clear hSw hk
    go_simp
    try first | with_reducible rfl | kernel_rfl
  simp only [Act.put, List.getElem_toArray, List.getElem_cons_succ, List.getElem_cons_zero, List.setIfInBounds_toArray, List.set_cons_succ, List.set_cons_zero]
  refine Wl.take (i := 1) (v := .pointer (some ⟨p, 0, none⟩)) [2, 3, 4, 15, 21, 22, 23, 24] rfl (by kernel_rfl) (by kernel_rfl) (by kernel_rfl) (by kernel_rfl) (by kernel_rfl) (fun _ _ _ h => h) (.inl ⟨by kernel_rfl, ?_⟩) hk ?_
  · intro wx hSw
    clear hSw hk
    go_simp
    try first | with_reducible rfl | kernel_rfl
  simp only [Act.put, List.getElem_toArray, List.getElem_cons_succ, List.getElem_cons_zero, List.setIfInBounds_toArray, List.set_cons_succ, List.set_cons_zero]
  refine Wl.take (i := 2) (v := .pointer (some ⟨p, 0, none⟩)) [3, 4, 15, 21, 22, 23, 24] rfl (by kernel_rfl) (by kernel_rfl) (by kernel_rfl) (by kernel_rfl) (by kernel_rfl) (fun _ _ _ h => h) (.inl ⟨by kernel_rfl, ?_⟩) hk ?_
  · intro wx hSw
    clear hSw hk
    go_simp
    try first | with_reducible rfl | kernel_rfl
  simp only [Act.put, List.getElem_toArray, List.getElem_cons_succ, List.getElem_cons_zero, List.setIfInBounds_toArray, List.set_cons_succ, List.set_cons_zero]
  refine Wl.take (i := 3) (v := .pointer (some ⟨p, 2, none⟩)) [4, 15, 21, 22, 23, 24] rfl (by kernel_rfl) (by kernel_rfl) (by kernel_rfl) (by kernel_rfl) (by kernel_rfl) (fun _ _ _ h => h) (.inl ⟨by kernel_rfl, ?_⟩) hk ?_
  · intro wx hSw
    clear hSw hk
    go_simp
    try first | with_reducible rfl | kernel_rfl
  simp only [Act.put, List.getElem_toArray, List.getElem_cons_succ, List.getElem_cons_zero, List.setIfInBounds_toArray, List.set_cons_succ, List.set_cons_zero]
  refine Wl.take (i := 4) (v := .slice aq s.q.length nq) [15, 21, 22, 23, 24] rfl (by kernel_rfl) (by kernel_rfl) (by kernel_rfl) (by kernel_rfl) (by kernel_rfl) (fun _ _ _ h => h) (.inl ⟨by kernel_rfl, ?_⟩) hk ?_
  · intro wx hSw
    have cc := hSw.1
    clear hSw hk
    go_simp
    try first | with_reducible rfl | kernel_rfl
  simp only [Act.put, List.getElem_toArray, List.getElem_cons_succ, List.getElem_cons_zero, List.setIfInBounds_toArray, List.set_cons_succ, List.set_cons_zero]
  refine Wl.take (i := 5) (v := .pointer (some ⟨p, 0, none⟩)) [6, 7, 8, 9, 15, 21, 22, 23, 24] rfl (by kernel_rfl) (by kernel_rfl) (by kernel_rfl) (by kernel_rfl) (by kernel_rfl) (fun _ _ _ h => h) (.inl ⟨by kernel_rfl, ?_⟩) hk ?_
  · intro wx hSw
    clear hSw hk
    go_simp
    try first | with_reducible rfl | kernel_rfl
  simp only [Act.put, List.getElem_toArray, List.getElem_cons_succ, List.getElem_cons_zero, List.setIfInBounds_toArray, List.set_cons_succ, List.set_cons_zero]
  refine Wl.take (i := 6) (v := .pointer (some ⟨p, 0, none⟩)) [7, 8, 9, 15, 21, 22, 23, 24] rfl (by kernel_rfl) (by kernel_rfl) (by kernel_rfl) (by kernel_rfl) (by kernel_rfl) (fun _ _ _ h => h) (.inl ⟨by kernel_rfl, ?_⟩) hk ?_
  · intro wx hSw
    clear hSw hk
    go_simp
    try first | with_reducible rfl | kernel_rfl
  simp only [Act.put, List.getElem_toArray, List.getElem_cons_succ, List.getElem_cons_zero, List.setIfInBounds_toArray, List.set_cons_succ, List.set_cons_zero]
  refine Wl.take (i := 7) (v := .pointer (some ⟨p, 2, none⟩)) [8, 9, 15, 21, 22, 23, 24] rfl (by kernel_rfl) (by kernel_rfl) (by kernel_rfl) (by kernel_rfl) (by kernel_rfl) (fun _ _ _ h => h) (.inl ⟨by kernel_rfl, ?_⟩) hk ?_
  · intro wx hSw
    clear hSw hk
    go_simp
    try first | with_reducible rfl | kernel_rfl
  simp only [Act.put, List.getElem_toArray, List.getElem_cons_succ, List.getElem_cons_zero, List.setIfInBounds_toArray, List.set_cons_succ, List.set_cons_zero]
  refine Wl.take (i := 8) (v := .slice aq s.q.length nq) [9, 15, 21, 22, 23, 24] rfl (by kernel_rfl) (by kernel_rfl) (by kernel_rfl) (by kernel_rfl) (by kernel_rfl) (fun _ _ _ h => h) (.inl ⟨by kernel_rfl, ?_⟩) hk ?_
  · intro wx hSw
    have cc := hSw.1
    clear hSw hk
    go_simp
    try first | with_reducible rfl | kernel_rfl
  simp only [Act.put, List.getElem_toArray, List.getElem_cons_succ, List.getElem_cons_zero, List.setIfInBounds_toArray, List.set_cons_succ, List.set_cons_zero]
  refine Wl.take (i := 9) (v := .int .i64 (s.q.length : Int)) [15, 21, 22, 23, 24] rfl (by kernel_rfl) (by kernel_rfl) (by kernel_rfl) (by kernel_rfl) (by kernel_rfl) (fun _ _ _ h => h) (.inl ⟨by kernel_rfl, ?_⟩) hk ?_
  · intro wx hSw
    clear hSw hk
    go_simp
    try first | with_reducible rfl | kernel_rfl
  simp only [Act.put, List.getElem_toArray, List.getElem_cons_succ, List.getElem_cons_zero, List.setIfInBounds_toArray, List.set_cons_succ, List.set_cons_zero]
  refine Wl.take (i := 10) (v := .pointer (some ⟨p, 0, none⟩)) [11, 12, 13, 14, 15, 21, 22, 23, 24] rfl (by kernel_rfl) (by kernel_rfl) (by kernel_rfl) (by kernel_rfl) (by kernel_rfl) (fun _ _ _ h => h) (.inl ⟨by kernel_rfl, ?_⟩) hk ?_
  · intro wx hSw
    clear hSw hk
    go_simp
    try first | with_reducible rfl | kernel_rfl
  simp only [Act.put, List.getElem_toArray, List.getElem_cons_succ, List.getElem_cons_zero, List.setIfInBounds_toArray, List.set_cons_succ, List.set_cons_zero]
  refine Wl.take (i := 11) (v := .pointer (some ⟨p, 0, none⟩)) [12, 13, 14, 15, 21, 22, 23, 24] rfl (by kernel_rfl) (by kernel_rfl) (by kernel_rfl) (by kernel_rfl) (by kernel_rfl) (fun _ _ _ h => h) (.inl ⟨by kernel_rfl, ?_⟩) hk ?_
  · intro wx hSw
    clear hSw hk
    go_simp
    try first | with_reducible rfl | kernel_rfl
  simp only [Act.put, List.getElem_toArray, List.getElem_cons_succ, List.getElem_cons_zero, List.setIfInBounds_toArray, List.set_cons_succ, List.set_cons_zero]
  refine Wl.take (i := 12) (v := .pointer (some ⟨p, 2, none⟩)) [13, 14, 15, 21, 22, 23, 24] rfl (by kernel_rfl) (by kernel_rfl) (by kernel_rfl) (by kernel_rfl) (by kernel_rfl) (fun _ _ _ h => h) (.inl ⟨by kernel_rfl, ?_⟩) hk ?_
  · intro wx hSw
    clear hSw hk
    go_simp
    try first | with_reducible rfl | kernel_rfl
  simp only [Act.put, List.getElem_toArray, List.getElem_cons_succ, List.getElem_cons_zero, List.setIfInBounds_toArray, List.set_cons_succ, List.set_cons_zero]
  refine Wl.take (i := 13) (v := .slice aq s.q.length nq) [14, 15, 21, 22, 23, 24] rfl (by kernel_rfl) (by kernel_rfl) (by kernel_rfl) (by kernel_rfl) (by kernel_rfl) (fun _ _ _ h => h) (.inl ⟨by kernel_rfl, ?_⟩) hk ?_
  · intro wx hSw
    have cc := hSw.1
    clear hSw hk
    go_simp
    try first | with_reducible rfl | kernel_rfl
  simp only [Act.put, List.getElem_toArray, List.getElem_cons_succ, List.getElem_cons_zero, List.setIfInBounds_toArray, List.set_cons_succ, List.set_cons_zero]
  refine Wl.take (i := 14) (v := .int .i64 (s.q.length : Int)) [15, 21, 22, 23, 24] rfl (by kernel_rfl) (by kernel_rfl) (by kernel_rfl) (by kernel_rfl) (by kernel_rfl) (fun _ _ _ h => h) (.inl ⟨by kernel_rfl, ?_⟩) hk ?_
  · intro wx hSw
    clear hSw hk
    go_simp
    try first | with_reducible rfl | kernel_rfl
  simp only [Act.put, List.getElem_toArray, List.getElem_cons_succ, List.getElem_cons_zero, List.setIfInBounds_toArray, List.set_cons_succ, List.set_cons_zero]
  refine Wl.take (i := 15) (v := .slice aq s.q.length s.q.length) [21, 22, 23, 24] rfl (by kernel_rfl) (by kernel_rfl) (by kernel_rfl) (by kernel_rfl) (by kernel_rfl) (fun _ _ _ h => h) (.inl ⟨by kernel_rfl, ?_⟩) hk ?_
  · intro wx hSw
    have hw1 : (s.q.length : Int) ≤ (nq : Int) := by omega
    obtain ⟨m, hm⟩ : ∃ m, s.q.length = m := ⟨_, rfl⟩
    rw [hm] at hw1 ⊢
    rcases Nat.eq_zero_or_pos m with h0 | h0
    · subst h0
      clear hSw hk hm
      go_simp
      try first | with_reducible rfl | kernel_rfl
    have hm0 : ¬ m = 0 := by omega
    have hwa : aq.map (fun x : Addr => x.add 0) = aq := by
      rcases aq with _ | ⟨b, o, sp⟩
      · rfl
      · cases sp <;> simp [Addr.add]
    clear hSw hk
    go_simp
    try first | with_reducible rfl | kernel_rfl
  simp only [Act.put, List.getElem_toArray, List.getElem_cons_succ, List.getElem_cons_zero, List.setIfInBounds_toArray, List.set_cons_succ, List.set_cons_zero]
  refine Wl.take (i := 16) (v := .pointer (some ⟨p, 0, none⟩)) [17, 18, 20, 21, 22, 23, 24] rfl (by kernel_rfl) (by kernel_rfl) (by kernel_rfl) (by kernel_rfl) (by kernel_rfl) (fun _ _ _ h => h) (.inl ⟨by kernel_rfl, ?_⟩) hk ?_
  · intro wx hSw
    clear hSw hk
    go_simp
    try first | with_reducible rfl | kernel_rfl
  simp only [Act.put, List.getElem_toArray, List.getElem_cons_succ, List.getElem_cons_zero, List.setIfInBounds_toArray, List.set_cons_succ, List.set_cons_zero]
  refine Wl.take (i := 17) (v := .pointer (some ⟨p, 0, none⟩)) [18, 20, 21, 22, 23, 24] rfl (by kernel_rfl) (by kernel_rfl) (by kernel_rfl) (by kernel_rfl) (by kernel_rfl) (fun _ _ _ h => h) (.inl ⟨by kernel_rfl, ?_⟩) hk ?_
  · intro wx hSw
    clear hSw hk
    go_simp
    try first | with_reducible rfl | kernel_rfl
  simp only [Act.put, List.getElem_toArray, List.getElem_cons_succ, List.getElem_cons_zero, List.setIfInBounds_toArray, List.set_cons_succ, List.set_cons_zero]
  refine Wl.take (i := 18) (v := .pointer (some ⟨p, 0, none⟩)) [20, 21, 22, 23, 24] rfl (by kernel_rfl) (by kernel_rfl) (by kernel_rfl) (by kernel_rfl) (by kernel_rfl) (fun _ _ _ h => h) (.inl ⟨by kernel_rfl, ?_⟩) hk ?_
  · intro wx hSw
    clear hSw hk
    go_simp
    try first | with_reducible rfl | kernel_rfl
  simp only [Act.put, List.getElem_toArray, List.getElem_cons_succ, List.getElem_cons_zero, List.setIfInBounds_toArray, List.set_cons_succ, List.set_cons_zero]
  refine Wl.take (i := 19) (v := .string t) [20, 21, 22, 23, 24] rfl (by kernel_rfl) (by kernel_rfl) (by kernel_rfl) (by kernel_rfl) (by kernel_rfl) (fun _ _ _ h => h) (.inl ⟨by kernel_rfl, ?_⟩) hk ?_
  · intro wx hSw
    clear hSw hk
    go_simp
    try first | with_reducible rfl | kernel_rfl
  simp only [Act.put, List.getElem_toArray, List.getElem_cons_succ, List.getElem_cons_zero, List.setIfInBounds_toArray, List.set_cons_succ, List.set_cons_zero]
  refine Wl.one (i := 20) (by kernel_rfl) rfl (fun K hK => ?_)
  go_simp
  refine HFC.out.mono ?_
  rintro e w5 ⟨v5, rfl, hr5, hf5, ho5⟩
  obtain ⟨b5, hv5, hon5⟩ := HVd.out.fed hr5 hf5
  have HV5 := Lib.hid hv5
  have HON5 := Lib.hid hon5
  have HSL5 := Lib.hid (ho5.sl frmC_len)
  have HCUT := Lib.hid (OwnQ.cut hv5.q)
  have c25 : w5.cell? ⟨p, 2, none⟩ = some (.slice aq s.q.length nq) := (xcells hv5.row).2.2.1
  obtain ⟨a5, m5, d5, rfl⟩ := slice_any ho5
  clear hr5 hf5 ho5 hv5 hon5
  refine hK.out _ _ (Wl.Kn.on c25 trivial) (fun hk => ?_)
  clear hK K
  refine Wl.one (i := 21) (by kernel_rfl) rfl (fun K hK => ?_)
  refine stepQue frmC_len Try.underlying29 rfl (by decide) info_frm rfl (.tmp 37) (.tmp 42) rfl rfl HCUT.out (.slice a5 m5 d5) rfl HSL5.out (fun y hy => frmC_one y) (by have := HQ4.out; have := HLR.out; unfold maxLen; simp only []; omega) (by have := HQ4.out; have := HLR.out; simp only []; omega) (Nat.zero_le _) ?_
  intro v6 w6 hq6 hg6 hl6
  replace hg6 : w5.grownBy w6 (Value.slice aq s.q.length s.q.length).ownBlock := hg6
  replace hl6 : v6.ownBlock = (Value.slice aq s.q.length s.q.length).ownBlock ∨ ∀ q, v6.ownBlock = some q → w5.heap.size ≤ q := hl6
  rw [HOB.out] at hg6 hl6
  obtain ⟨a6, m6, d6, rfl⟩ := slice_que hq6
  obtain ⟨hv7, ho7⟩ := HV5.out.qput hq6 hg6 (.inr rfl) (fun q hq => hl6.elim (fun e => .inl (HV5.out.qs q (e ▸ hq))) (fun e => .inr (e q hq)))
  have hrow6 := (hg6.block p HV5.out.plt (fun e => HV5.out.qne p e.symm rfl)).trans HV5.out.row
  have c26 : w6.cell? ⟨p, 2, none⟩ = some (.slice aq s.q.length nq) := (xcells hrow6).2.2.1
  have z6 : ∀ i, w6.frozen? ⟨p, i, none⟩ = false := fun i => frozen_of_row _ _ _ _ _ hrow6
  obtain ⟨W7, hW7⟩ : ∃ q, w6.setCell ⟨p, 2, none⟩ (.slice a6 m6 d6) = q := ⟨_, rfl⟩
  rw [hW7] at hv7 ho7
  have HV7 := Lib.hid hv7
  have HON7 : Hid (Only S w W7) := Lib.hid ((show Only S w w.drew from ⟨rfl, rfl, rfl, Nat.le_refl _, fun _ _ _ => rfl⟩).trans (Mc.Only.sub HON5.out (fun k hk => .inl hk) ho7))
  have HGR7 : Hid (∀ k, Grow S w5 w6 k → Grow S w W7 k) := Lib.hid (fun k hk => by
    have z1 := hg6.size
    have z2 : W7.heap.size = w6.heap.size := by rw [← hW7]; simp
    have z3 := HON5.out.2.2.2.1
    rcases hk with hk | hk
    · exact .inl hk
    · exact .inr ⟨by have := hk.1; have : w.drew.heap.size = w.heap.size := rfl; omega, by have := hk.2; omega⟩)
  clear hq6 hg6 hl6 hv7 ho7 hrow6
  refine hK.out _ _ (Wl.Kn.on c26 trivial) (fun hk => ?_)
  clear hK K
  refine Wl.take (i := 22) (v := .pointer (some ⟨p, 0, none⟩)) [23, 24] rfl (by kernel_rfl) (by kernel_rfl) (by kernel_rfl) (by kernel_rfl) (by kernel_rfl) (fun _ _ _ h => h) (.inl ⟨by kernel_rfl, ?_⟩) hk ?_
  · intro wx hSw
    clear hSw hk
    go_simp
    try first | with_reducible rfl | kernel_rfl
  simp only [Act.put, List.getElem_toArray, List.getElem_cons_succ, List.getElem_cons_zero, List.setIfInBounds_toArray, List.set_cons_succ, List.set_cons_zero]
  refine Wl.take (i := 23) (v := .pointer (some ⟨p, 2, none⟩)) [24] rfl (by kernel_rfl) (by kernel_rfl) (by kernel_rfl) (by kernel_rfl) (by kernel_rfl) (fun _ _ _ h => h) (.inl ⟨by kernel_rfl, ?_⟩) hk ?_
  · intro wx hSw
    clear hSw hk
    go_simp
    try first | with_reducible rfl | kernel_rfl
  simp only [Act.put, List.getElem_toArray, List.getElem_cons_succ, List.getElem_cons_zero, List.setIfInBounds_toArray, List.set_cons_succ, List.set_cons_zero]
  refine Wl.one (i := 24) (by kernel_rfl) rfl (fun K hK => ?_)
  go_simp
  try rw [hW7]
  refine hK.out _ _ (Wl.Kn.off (by kernel_rfl) trivial) (fun hk => ?_)
  clear hK K
  refine Wl.done (by kernel_rfl) ?_ _
  clear hk
  clear c25 c26 z6 hW7
  obtain ⟨r', hr'⟩ : ∃ q, runV s.rd (sb t) = q := ⟨_, rfl⟩
  rw [hr'] at HV7 HLR
  have HRE := Lib.hid hr'
  clear hr'
  obtain ⟨-, e1, e2, -, -, -, -, ez⟩ := xcells HV7.out.row
  have HBD2 := HBD.out
  clear HBD
  subst HBD2
  by_cases h3 : r'.2.st = 3
  · have HD3 : Hid (decide (r'.2.st = 3) = true) := Lib.hid (by simp [h3])
    rw [HD3.out] at e1
    by_cases h1 : s.rd.st = 3
    · have HB : Hid (badL s.rd.st r'.2.st = []) := Lib.hid (by unfold badL; rw [if_neg (by simp [h1])])
      have HD1 : Hid (decide (s.rd.st = 3) = true) := Lib.hid (by simp [h1])
      rw [HD1.out]
      clear h3 h1
      go_wp2
      go_ret
      rw [HRE.out, HB.out, List.append_nil]
      exact mvr_mk HGR7.out HON7.out HV7.out (Only.refl _ _)
    · have HB : Hid (badL s.rd.st r'.2.st = [badF]) := Lib.hid (by unfold badL; rw [if_pos ⟨h3, h1⟩])
      have HD1 : Hid (decide (s.rd.st = 3) = false) := Lib.hid (by simp [h1])
      rw [HD1.out]
      obtain ⟨W8, hW8⟩ : ∃ q, W7.alloc (.cells #[.int .u8 0, .string ⟨#[]⟩] TF) = q := ⟨_, rfl⟩
      have hb8 : Below W7.heap.size W7 W8 := by rw [← hW8]; exact (Below.refl _ _).alloc (Nat.le_refl _) _
      have HB8 := Lib.hid hb8
      have HV8 := Lib.hid (HV7.out.below hb8)
      have HLIT : Hid (SlR 2 frmC W8 (.slice (some ⟨W7.heap.size, 0, none⟩) 1 1) [badF]) := Lib.hid (by rw [← hW8]; exact SlR.one frmC_len W7 _ rfl _ badF rfl)
      have HLEN : Hid ((s.q ++ r'.1).length ≤ 1000010) := Lib.hid (by rw [List.length_append]; have := HQ4.out; have := HLR.out; omega)
      clear h3 h1 hb8
      go_wp2_with (first | rw [hW8] | (at_builtin; refine appQue frmC_len Try.underlying29 rfl (by decide) info_frm rfl (.tmp 59) (.tmp 61) rfl rfl HV8.out.q (.slice (some ⟨W7.heap.size, 0, none⟩) 1 1) rfl HLIT.out (fun y hy => frmC_one y) (by have := HLEN.out; unfold maxLen; simp only [List.length_singleton]; omega) (by have := HLEN.out; simp only [List.length_singleton]; omega) (Nat.zero_le _) ?_; intro v9 w9 hq9 hg9 hl9; obtain ⟨a9, m9, d9, rfl⟩ := slice_que hq9; obtain ⟨hv10, ho10⟩ := HV8.out.qput hq9 hg9 (.inr rfl) (fun q hq => hl9.elim (fun e => .inl (HV8.out.qs q (e ▸ hq))) (fun e => .inr (e q hq))); have HV10 := Lib.hid hv10; have HO10 := Lib.hid ho10; have hrow9 := (hg9.block p HV8.out.plt (fun e => HV8.out.qne p e.symm rfl)).trans HV8.out.row; have c29 : w9.cell? ⟨p, 2, none⟩ = some (.slice a6 m6 d6) := (xcells hrow9).2.2.1; have z9 : ∀ i, w9.frozen? ⟨p, i, none⟩ = false := fun i => frozen_of_row _ _ _ _ _ hrow9; have HG9 := Lib.hid hg9.size; clear hq9 hg9 hl9 hv10 ho10 hrow9))
      go_ret
      rw [HRE.out, HB.out, ← List.append_assoc]
      refine ⟨rfl, Mc.Left.step HON7.out HGR7.out (Mc.Left.ahead HB8.out ⟨⟨_, HV10.out.x, fun k hk => ?_⟩, HO10.out⟩)⟩
      rcases hk with hk | hk
      · exact .inl hk
      · exact .inr ⟨hk.1, by have := hk.2; simpa using this⟩
  · have HB : Hid (badL s.rd.st r'.2.st = []) := Lib.hid (by unfold badL; rw [if_neg (by simp [h3])])
    have HD3 : Hid (decide (r'.2.st = 3) = false) := Lib.hid (by simp [h3])
    rw [HD3.out] at e1
    clear h3
    go_wp2
    go_ret
    rw [HRE.out, HB.out, List.append_nil]
    exact mvr_mk HGR7.out HON7.out HV7.out (Only.refl _ _)
end
end Mv
end Go.Proofs.Ytdakkjpejhlciaa
