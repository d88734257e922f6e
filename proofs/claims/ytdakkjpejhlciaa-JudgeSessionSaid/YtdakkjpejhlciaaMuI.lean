/- A client's session: Feed, Clone. No condition. -/
import Derived.Test.YtdakkjpejhlciaaMuF
import Derived.Test.YtdakkjpejhlciaaInFrm
import Derived.Test.YtdakkjpejhlciaaInRep
import Derived.Test.YtdakkjpejhlciaaWl
namespace Go.Proofs.Ytdakkjpejhlciaa
open Go.ChangeShapes Go.WideShapes Go.ChangeAt Go.RowKit Go.Deep
set_option linter.unusedVariables false
set_option maxRecDepth 100000
set_option linter.unusedSimpArgs false
namespace Mu
open St Mc
section
variable {w w' w1 w2 : World} {S S' : Nat → Prop} {p : Nat} {vr vq vo vr' vq' vo' r : Value} {s s' : Ses}
theorem rdr_ne {g k : Nat} {rd : Rst} {b : Option Nat} {cs : Array Value} {t : TypeId} {fr : Nat × Nat} (h : Rdr 0 w g rd b) (hk : w.heap[k]? = some (.cells cs t fr)) (h1 : t ≠ 86) (h2 : t ≠ 5) : k ≠ g ∧ some k ≠ b := by
  obtain ⟨vt, g1, g2, rfl, -⟩ := h
  refine ⟨?_, fun e => own_ty g2 hk (fun q => h2 q.symm) k e.symm rfl⟩
  rintro rfl
  rw [g1] at hk
  simp only [Option.some.injEq, Obj.cells.injEq] at hk
  exact h1 hk.2.1.symm
theorem que_ne {g : Nat} {rd : Rst} {b : Option Nat} (h : Rdr 0 w g rd b) (hq : OwnQ 2 frmC TF w 0 vq s.q) : ∀ k, vq.ownBlock = some k → k ≠ g ∧ some k ≠ b := by
  intro k hk
  rcases hq with ⟨rfl, -⟩ | ⟨g6, off, cap, cur, rfl, -, h6, -⟩
  · cases hk
  · simp only [Value.ownBlock, Option.some.injEq] at hk
    subst hk
    exact rdr_ne h h6 (by decide) (by decide)
theorem out_ne {g : Nat} {rd : Rst} {b : Option Nat} (h : Rdr 0 w g rd b) (ho : OwnR 3 repC TR w 0 vo s.out) : ∀ k, vo.ownBlock = some k → k ≠ g ∧ some k ≠ b := by
  intro k hk
  rcases ho.2 with ⟨rfl, -⟩ | ⟨g6, cap, cur, rfl, -, h6, -⟩
  · cases hk
  · simp only [Value.ownBlock, Option.some.injEq] at hk
    subst hk
    exact rdr_ne h h6 (by decide) (by decide)
/-- the reader has been fed -/
theorem SesV.fed {g : Nat} {b b' : Option Nat} {rd' : Rst} (h : SesV w S p (.pointer (some ⟨g, 0, none⟩)) vq vo s) (h0 : s.st ≠ 0) (hg : S g) (hb : ∀ q, b = some q → S q) (hr : Rdr 0 w g s.rd b) (hr' : Rdr 0 w' g rd' b') (hn : NewS w b b') (hf : FarR 0 g b w w') :
    SesV w' (Grow S w w') p (.pointer (some ⟨g, 0, none⟩)) vq vo { s with rd := rd' } ∧ Only S w w' := by
  have hz := hf.1.size
  have hbk : ∀ k, k < w.heap.size → k ≠ g ∧ some k ≠ b → w'.heap[k]? = w.heap[k]? := fun k hk hn => hf.2 k hk hn.1 hn.2
  refine ⟨⟨(hbk p h.plt (rdr_ne hr h.row (by decide) (by decide))).trans h.row, .inl h.sp, .inr ⟨h0, g, b', rfl, .inl hg, hr', fun q hq => ?_⟩, h.q.keep (fun k hk => hbk k (h.low k (h.qs k hk)) (que_ne hr h.q k hk)), fun k hk => .inl (h.qs k hk), own_keep h.o (fun k hk _ => hbk k (h.low k (h.os k hk)) (out_ne hr h.o k hk)), fun k hk => .inl (h.os k hk), fun k hk => ?_⟩, ⟨hf.1.os, hf.1.tape, hf.1.output, hz, fun k hk hs => hf.2 k hk (fun e => hs (e ▸ hg)) (fun e => hs (hb k e.symm))⟩⟩
  · rcases hn with rfl | hn
    · exact .inl (hb q hq)
    · exact .inr ⟨hn q hq, (hr'.ltS q hq).2⟩
  · rcases hk with hk | hk
    · have := h.low k hk; omega
    · exact hk.2
/-- frames put at the queue's end -/
theorem SesV.qput {v' : Value} {qs : List Frm} {w1 : World} (h : SesV w S p vr vq vo s) (hq : OwnQ 2 frmC TF w1 0 v' qs) (hg : w.grownBy w1 vq.ownBlock) (hl : v'.ownBlock = vq.ownBlock ∨ ∀ q, v'.ownBlock = some q → w.heap.size ≤ q) :
    SesV (w1.setCell ⟨p, 4, none⟩ v') (Grow S w w1) p vr v' vo { s with q := qs } ∧ Only S w (w1.setCell ⟨p, 4, none⟩ v') := by
  have hpl := h.plt
  have hz := hg.size
  have hrow : w1.heap[p]? = some (.cells (sesArr s vr vq vo) TS (0, 0)) := (hg.block p hpl (fun e => h.qne p e.symm rfl)).trans h.row
  have hvp : ∀ k, v'.ownBlock = some k → k ≠ p := hq.ty hrow (by decide)
  have hrd : ∀ {g : Nat} {cs : Array Value} {t : TypeId}, w.heap[g]? = some (.cells cs t (0, 0)) → TF ≠ t → some g ≠ vq.ownBlock := fun hg2 hne e => h.q.ty hg2 hne _ e.symm rfl
  have hsm : ∀ k, S k → k ≠ p → some k ≠ vq.ownBlock → (w1.setCell ⟨p, 4, none⟩ v').heap[k]? = w.heap[k]? := fun k hk hp ho => (heap_setCell_other w1 ⟨p, 4, none⟩ k v' hp).trans (hg.block k (h.low k hk) ho)
  refine ⟨⟨(heap_setCell_same w1 p 4 _ TS _ hrow).trans rfl, .inl h.sp, ?_, hq.keep (fun k hk => heap_setCell_other w1 ⟨p, 4, none⟩ k v' (hvp k hk)), fun k hk => ?_, ?_, fun k hk => .inl (h.os k hk), fun k hk => ?_⟩, ?_⟩
  · rcases h.rdr with h1 | ⟨h0, g, b, h1, h2, h3, h4⟩
    · exact .inl h1
    · obtain ⟨vt, g1, g2, g3, g4⟩ := h3
      refine .inr ⟨h0, g, b, h1, .inl h2, Rdr.same ⟨vt, g1, g2, g3, g4⟩ (hsm g h2 ?_ (hrd g1 (by decide))) (fun q hq => hsm q (h4 q hq) ?_ ?_), fun q hq => .inl (h4 q hq)⟩
      · rintro rfl
        rw [h.row] at g1
        simp only [Option.some.injEq, Obj.cells.injEq] at g1
        exact absurd g1.2.1 (by decide)
      · rintro rfl
        subst g3
        exact own_ty g2 h.row (by decide) _ hq rfl
      · intro e
        subst g3
        rcases h.q with ⟨h5, -⟩ | ⟨g6, off, cap, cur, h5, -, h6, -⟩
        · rw [h5] at e; cases e
        · rw [h5] at e
          simp only [Value.ownBlock, Option.some.injEq] at e
          subst e
          exact own_ty g2 h6 (by decide) _ hq rfl
  · rcases hl with e | e
    · exact .inl (h.qs k (e ▸ hk))
    · exact .inr ⟨e k hk, (hq.lt k hk).2⟩
  · refine own_keep h.o (fun k hk _ => hsm k (h.os k hk) (h.one k hk) fun e => ?_)
    rcases h.q with ⟨h5, -⟩ | ⟨g6, off, cap, cur, h5, -, h6, -⟩
    · rw [h5] at e; cases e
    · rw [h5] at e
      simp only [Value.ownBlock, Option.some.injEq] at e
      subst e
      exact own_ty h.o h6 (by decide) _ hk rfl
  · rcases hk with hk | hk
    · have := h.low k hk; simp; omega
    · have := hk.2; simp; omega
  · exact (Only.grown hg (fun q hq => h.qs q hq)).trans (Only.setCell w1 _ _ h.sp)
set_option maxHeartbeats 4000000 in
theorem feed_any {n m : Nat} (vb : Value) (bs : List Int) (w : World) (h : SesV w S p vr vq vo s) (hok : okS n m s) (hn : n ≤ 1000000) (hv : ∀ w', Only S w w' → Sl .u8 w' vb bs) (hl : bs.length ≤ 1000000) : Calls Try.prog 9 #[.pointer (some ⟨p, 0, none⟩), vb] w (MuR (.int .i64 (feedE s)) p (feedS s bs) S w) := by
  obtain ⟨c0, c1, c2, c3, c4, c5, z⟩ := h.cells
  have HV := Lib.hid h
  by_cases h0 : s.st = 0
  · have HE : Hid (feedE s = 3 ∧ feedS s bs = s) := Lib.hid ⟨by unfold feedE; rw [if_pos h0], by unfold feedS; rw [if_pos h0]⟩
    rw [HE.out.1, HE.out.2]
    have HD : Hid (decide (s.st ≠ 0) = false) := Lib.hid (by simp [h0])
    clear h hok hv h0 c0 c1 c2 c3 c4 c5
    go_enter Try.func9, Try.ntmps9
    go_wp2_with ((with_reducible refine (open_any _ HV.out).mono ?_); rintro e w' ⟨rfl, rfl⟩; rw [HD.out])
    go_ret
    exact mur_base (Below.refl _ _) HV.out (Only.refl _ _)
  have HD : Hid (decide (s.st ≠ 0) = true) := Lib.hid (by simp [h0])
  by_cases h4 : 4 ≤ s.q.length
  · have HE : Hid (feedE s = 5 ∧ feedS s bs = s) := Lib.hid ⟨by unfold feedE; rw [if_neg h0, if_pos h4], by unfold feedS; rw [if_neg h0, if_pos h4]⟩
    rw [HE.out.1, HE.out.2]
    obtain ⟨aq, nq, rfl, -⟩ := h.q.len
    have h4i : (4 : Int) ≤ (s.q.length : Int) := by omega
    clear h hok hv h0 h4 c0 c1 c2 c3 c5
    go_enter Try.func9, Try.ntmps9
    go_wp2_with ((with_reducible refine (open_any _ HV.out).mono ?_); rintro e w' ⟨rfl, rfl⟩; rw [HD.out])
    go_ret
    exact mur_base (Below.refl _ _) HV.out (Only.refl _ _)
  have HE : Hid (feedE s = 0 ∧ feedS s bs = { s with rd := (runV s.rd bs).2, q := s.q ++ (runV s.rd bs).1 ++ badL s.rd.st (runV s.rd bs).2.st }) := Lib.hid ⟨by unfold feedE; rw [if_neg h0, if_neg h4], by unfold feedS; rw [if_neg h0, if_neg h4]⟩
  rw [HE.out.1, HE.out.2]
  obtain ⟨g, b, rfl, hg, hr, hb⟩ := h.rd h0
  have hQ := h.q.len
  obtain ⟨aq, nq, rfl, -⟩ := hQ
  have h4i : (s.q.length : Int) < 4 := by omega
  have hqz : 0 ≤ (s.q.length : Int) := by omega
  have HQ4 : Hid (s.q.length < 4) := Lib.hid (by omega)
  have HR := Lib.hid hr
  have H0 := Lib.hid h0
  have hdrew : Only S w w.drew := ⟨rfl, rfl, rfl, Nat.le_refl _, fun _ _ _ => rfl⟩
  have HVd : Hid (SesV w.drew S p (.pointer (some ⟨g, 0, none⟩)) (.slice aq s.q.length nq) vo s) := Lib.hid (h.keep (fun _ _ => rfl) (Nat.le_refl _))
  have hrd : Rdr 0 w.drew g s.rd b := hr.same rfl (fun _ _ => rfl)
  have HRD := Lib.hid hrd
  have HFC := Lib.hid (St.feed_any 0 g s.rd b bs vb w.drew hrd hok.2.2.1 (fun w' hf => hv w' ⟨hf.1.os, hf.1.tape, hf.1.output, hf.1.size, fun k hk hs => hf.2 k hk (fun e => hs (e ▸ hg)) (fun e => hs (hb k e.symm))⟩) hl)
  have HSG : Hid (S g ∧ ∀ q, b = some q → S q) := Lib.hid ⟨hg, hb⟩
  have HLR : Hid ((runV s.rd bs).1.length ≤ 1000000) := Lib.hid (Nat.le_trans (run_len bs) hl)
  have C4 : Hid (w.drew.cell? ⟨p, 4, none⟩ = some (.slice aq s.q.length nq)) := Lib.hid HVd.out.cells.2.2.2.2.1
  have C3 : Hid (w.drew.cell? ⟨p, 3, none⟩ = some (.pointer (some ⟨g, 0, none⟩))) := Lib.hid HVd.out.cells.2.2.2.1
  clear h hok hv h0 h4 hg hr hb hdrew hrd c0 c1 c2 c5
  go_enter Try.func9, Try.ntmps9
  go_wp2_with (first | ((with_reducible refine (open_any _ HV.out).mono ?_); rintro e w' ⟨rfl, rfl⟩; rw [HD.out]) | ((with_reducible refine (St.broken_any 0 g s.rd b _ HR.out).mono ?_); rintro e w' ⟨rfl, rfl⟩))
  clear c3 c4 h4i hqz
  refine Wl.start 14 (fun u => u.cell? ⟨p, 4, none⟩ = some (.slice aq s.q.length nq)) (fun u => u.cell? ⟨p, 3, none⟩ = some (.pointer (some ⟨g, 0, none⟩))) (by kernel_rfl) C4.out C3.out (fun hk => ?_)
  refine Wl.take (i := 0) (v := .pointer (some ⟨p, 0, none⟩)) [12, 13, 14] rfl (by kernel_rfl) (by kernel_rfl) (by kernel_rfl) (by kernel_rfl) (by kernel_rfl) (fun _ _ _ h => h) (.inl ⟨by kernel_rfl, ?_⟩) hk ?_
  · intro wx hSw
    clear hSw hk
    go_simp
    try first | with_reducible rfl | kernel_rfl
  simp only [Act.put, List.getElem_toArray, List.getElem_cons_succ, List.getElem_cons_zero, List.setIfInBounds_toArray, List.set_cons_succ, List.set_cons_zero]
  refine Wl.take (i := 1) (v := .pointer (some ⟨p, 0, none⟩)) [2, 3, 4, 11, 12, 13, 14] rfl (by kernel_rfl) (by kernel_rfl) (by kernel_rfl) (by kernel_rfl) (by kernel_rfl) (fun _ _ _ h => h) (.inl ⟨by kernel_rfl, ?_⟩) hk ?_
  · intro wx hSw
    clear hSw hk
    go_simp
    try first | with_reducible rfl | kernel_rfl
  simp only [Act.put, List.getElem_toArray, List.getElem_cons_succ, List.getElem_cons_zero, List.setIfInBounds_toArray, List.set_cons_succ, List.set_cons_zero]
  refine Wl.take (i := 2) (v := .pointer (some ⟨p, 0, none⟩)) [3, 4, 11, 12, 13, 14] rfl (by kernel_rfl) (by kernel_rfl) (by kernel_rfl) (by kernel_rfl) (by kernel_rfl) (fun _ _ _ h => h) (.inl ⟨by kernel_rfl, ?_⟩) hk ?_
  · intro wx hSw
    clear hSw hk
    go_simp
    try first | with_reducible rfl | kernel_rfl
  simp only [Act.put, List.getElem_toArray, List.getElem_cons_succ, List.getElem_cons_zero, List.setIfInBounds_toArray, List.set_cons_succ, List.set_cons_zero]
  refine Wl.take (i := 3) (v := .pointer (some ⟨p, 4, none⟩)) [4, 11, 12, 13, 14] rfl (by kernel_rfl) (by kernel_rfl) (by kernel_rfl) (by kernel_rfl) (by kernel_rfl) (fun _ _ _ h => h) (.inl ⟨by kernel_rfl, ?_⟩) hk ?_
  · intro wx hSw
    clear hSw hk
    go_simp
    try first | with_reducible rfl | kernel_rfl
  simp only [Act.put, List.getElem_toArray, List.getElem_cons_succ, List.getElem_cons_zero, List.setIfInBounds_toArray, List.set_cons_succ, List.set_cons_zero]
  refine Wl.take (i := 4) (v := .slice aq s.q.length nq) [11, 12, 13, 14] rfl (by kernel_rfl) (by kernel_rfl) (by kernel_rfl) (by kernel_rfl) (by kernel_rfl) (fun _ _ _ h => h) (.inl ⟨by kernel_rfl, ?_⟩) hk ?_
  · intro wx hSw
    have cc := hSw.1
    clear hSw hk
    go_simp
    try first | with_reducible rfl | kernel_rfl
  simp only [Act.put, List.getElem_toArray, List.getElem_cons_succ, List.getElem_cons_zero, List.setIfInBounds_toArray, List.set_cons_succ, List.set_cons_zero]
  refine Wl.take (i := 5) (v := .pointer (some ⟨p, 0, none⟩)) [6, 7, 8, 10, 11, 12, 13, 14] rfl (by kernel_rfl) (by kernel_rfl) (by kernel_rfl) (by kernel_rfl) (by kernel_rfl) (fun _ _ _ h => h) (.inl ⟨by kernel_rfl, ?_⟩) hk ?_
  · intro wx hSw
    clear hSw hk
    go_simp
    try first | with_reducible rfl | kernel_rfl
  simp only [Act.put, List.getElem_toArray, List.getElem_cons_succ, List.getElem_cons_zero, List.setIfInBounds_toArray, List.set_cons_succ, List.set_cons_zero]
  refine Wl.take (i := 6) (v := .pointer (some ⟨p, 0, none⟩)) [7, 8, 10, 11, 12, 13, 14] rfl (by kernel_rfl) (by kernel_rfl) (by kernel_rfl) (by kernel_rfl) (by kernel_rfl) (fun _ _ _ h => h) (.inl ⟨by kernel_rfl, ?_⟩) hk ?_
  · intro wx hSw
    clear hSw hk
    go_simp
    try first | with_reducible rfl | kernel_rfl
  simp only [Act.put, List.getElem_toArray, List.getElem_cons_succ, List.getElem_cons_zero, List.setIfInBounds_toArray, List.set_cons_succ, List.set_cons_zero]
  refine Wl.take (i := 7) (v := .pointer (some ⟨p, 3, none⟩)) [8, 10, 11, 12, 13, 14] rfl (by kernel_rfl) (by kernel_rfl) (by kernel_rfl) (by kernel_rfl) (by kernel_rfl) (fun _ _ _ h => h) (.inl ⟨by kernel_rfl, ?_⟩) hk ?_
  · intro wx hSw
    clear hSw hk
    go_simp
    try first | with_reducible rfl | kernel_rfl
  simp only [Act.put, List.getElem_toArray, List.getElem_cons_succ, List.getElem_cons_zero, List.setIfInBounds_toArray, List.set_cons_succ, List.set_cons_zero]
  refine Wl.take (i := 8) (v := .pointer (some ⟨g, 0, none⟩)) [10, 11, 12, 13, 14] rfl (by kernel_rfl) (by kernel_rfl) (by kernel_rfl) (by kernel_rfl) (by kernel_rfl) (fun _ _ _ h => h) (.inl ⟨by kernel_rfl, ?_⟩) hk ?_
  · intro wx hSw
    have cc := hSw.2
    clear hSw hk
    go_simp
    try first | with_reducible rfl | kernel_rfl
  simp only [Act.put, List.getElem_toArray, List.getElem_cons_succ, List.getElem_cons_zero, List.setIfInBounds_toArray, List.set_cons_succ, List.set_cons_zero]
  refine Wl.take (i := 9) (v := vb) [10, 11, 12, 13, 14] rfl (by kernel_rfl) (by kernel_rfl) (by kernel_rfl) (by kernel_rfl) (by kernel_rfl) (fun _ _ _ h => h) (.inl ⟨by kernel_rfl, ?_⟩) hk ?_
  · intro wx hSw
    clear hSw hk
    go_simp
    try first | with_reducible rfl | kernel_rfl
  simp only [Act.put, List.getElem_toArray, List.getElem_cons_succ, List.getElem_cons_zero, List.setIfInBounds_toArray, List.set_cons_succ, List.set_cons_zero]
  refine Wl.one (i := 10) (by kernel_rfl) rfl (fun K hK => ?_)
  go_simp
  refine HFC.out.mono ?_
  rintro e w5 ⟨S5, v5, rfl, hr5, hn5, hf5, ho5, hd5⟩
  obtain ⟨hv5, hon5⟩ := HVd.out.fed H0.out HSG.out.1 HSG.out.2 HRD.out hr5 hn5 hf5
  have HV5 := Lib.hid hv5
  have HON5 := Lib.hid hon5
  have HSL5 := Lib.hid (ho5.sl frmC_len)
  have HR5 := Lib.hid hr5
  have c45 : w5.cell? ⟨p, 4, none⟩ = some (.slice aq s.q.length nq) := hv5.cells.2.2.2.2.1
  have c35 : w5.cell? ⟨p, 3, none⟩ = some (.pointer (some ⟨g, 0, none⟩)) := hv5.cells.2.2.2.1
  obtain ⟨a5, m5, d5, rfl⟩ := slice_any ho5
  clear hr5 hn5 hf5 ho5 hd5 hv5 hon5
  refine hK.out _ _ (Wl.Kn.on c45 c35) (fun hk => ?_)
  clear hK K
  refine Wl.one (i := 11) (by kernel_rfl) rfl (fun K hK => ?_)
  refine stepQue frmC_len Try.underlying29 rfl (by decide) info_frm rfl (.tmp 24) (.tmp 30) rfl rfl HV5.out.q (.slice a5 m5 d5) rfl HSL5.out (fun y hy => frmC_one y) (by have := HQ4.out; have := HLR.out; unfold maxLen; simp only []; omega) (by have := HQ4.out; have := HLR.out; simp only []; omega) (Nat.zero_le _) ?_
  intro v6 w6 hq6 hg6 hl6
  obtain ⟨a6, m6, d6, rfl⟩ := slice_que hq6
  obtain ⟨hv7, ho7⟩ := HV5.out.qput hq6 hg6 hl6
  have hrow6 := (hg6.block p HV5.out.plt (fun e => HV5.out.qne p e.symm rfl)).trans HV5.out.row
  have c46 : w6.cell? ⟨p, 4, none⟩ = some (.slice aq s.q.length nq) := (cell_of_row w6 _ 4 _ _ _ hrow6).trans rfl
  have c36 : w6.cell? ⟨p, 3, none⟩ = some (.pointer (some ⟨g, 0, none⟩)) := (cell_of_row w6 _ 3 _ _ _ hrow6).trans rfl
  have z6 : ∀ i, w6.frozen? ⟨p, i, none⟩ = false := fun i => frozen_of_row _ _ _ _ _ hrow6
  obtain ⟨W7, hW7⟩ : ∃ q, w6.setCell ⟨p, 4, none⟩ (.slice a6 m6 d6) = q := ⟨_, rfl⟩
  rw [hW7] at hv7 ho7
  have HV7 := Lib.hid hv7
  have HON7 : Hid (Only S w W7) := Lib.hid ((show Only S w w.drew from ⟨rfl, rfl, rfl, Nat.le_refl _, fun _ _ _ => rfl⟩).trans (Mc.Only.sub HON5.out (fun k hk => hk) ho7))
  have HGR7 : Hid (∀ k, Grow (Grow S w.drew w5) w5 w6 k → Grow S w W7 k) := Lib.hid (fun k hk => by
    have z1 := hg6.size
    have z2 : W7.heap.size = w6.heap.size := by rw [← hW7]; simp
    have z3 := HON5.out.2.2.2.1
    rcases hk with (hk | hk) | hk
    · exact .inl hk
    · exact .inr ⟨hk.1, by have := hk.2; omega⟩
    · exact .inr ⟨by have := hk.1; have : w.drew.heap.size = w.heap.size := rfl; omega, by have := hk.2; omega⟩)
  have C37 : Hid (W7.cell? ⟨p, 3, none⟩ = some (.pointer (some ⟨g, 0, none⟩))) := Lib.hid hv7.cells.2.2.2.1
  clear hq6 hg6 hl6 hv7 ho7 hrow6
  refine hK.out _ _ (Wl.Kn.on c46 c36) (fun hk => ?_)
  clear hK K
  refine Wl.take (i := 12) (v := .pointer (some ⟨p, 0, none⟩)) [13, 14] rfl (by kernel_rfl) (by kernel_rfl) (by kernel_rfl) (by kernel_rfl) (by kernel_rfl) (fun _ _ _ h => h) (.inl ⟨by kernel_rfl, ?_⟩) hk ?_
  · intro wx hSw
    clear hSw hk
    go_simp
    try first | with_reducible rfl | kernel_rfl
  simp only [Act.put, List.getElem_toArray, List.getElem_cons_succ, List.getElem_cons_zero, List.setIfInBounds_toArray, List.set_cons_succ, List.set_cons_zero]
  refine Wl.take (i := 13) (v := .pointer (some ⟨p, 4, none⟩)) [14] rfl (by kernel_rfl) (by kernel_rfl) (by kernel_rfl) (by kernel_rfl) (by kernel_rfl) (fun _ _ _ h => h) (.inl ⟨by kernel_rfl, ?_⟩) hk ?_
  · intro wx hSw
    clear hSw hk
    go_simp
    try first | with_reducible rfl | kernel_rfl
  simp only [Act.put, List.getElem_toArray, List.getElem_cons_succ, List.getElem_cons_zero, List.setIfInBounds_toArray, List.set_cons_succ, List.set_cons_zero]
  refine Wl.one (i := 14) (by kernel_rfl) rfl (fun K hK => ?_)
  go_simp
  try rw [hW7]
  refine hK.out _ _ (Wl.Kn.off (by kernel_rfl) C37.out) (fun hk => ?_)
  clear hK K
  refine Wl.done (by kernel_rfl) ?_ _
  clear hk
  clear c45 c35 c46 c36 z6 hW7
  obtain ⟨r', hr'⟩ : ∃ q, runV s.rd bs = q := ⟨_, rfl⟩
  rw [hr'] at HV7 HR5 HLR
  have HRE := Lib.hid hr'
  clear hr'
  have hrd7 := HV7.out.rd H0.out
  obtain ⟨g7, b7, hg7, -, hr7, -⟩ := hrd7
  simp only [Value.pointer.injEq, Option.some.injEq, Addr.mk.injEq, and_true] at hg7
  subst hg7
  have HR7 := Lib.hid hr7
  obtain ⟨-, -, -, e3, e4, e5, ez⟩ := HV7.out.cells
  clear hr7
  by_cases h3 : r'.2.st = 3
  · have HD3 : Hid (decide (r'.2.st = 3) = true) := Lib.hid (by simp [h3])
    by_cases h1 : s.rd.st = 3
    · have HB : Hid (badL s.rd.st r'.2.st = []) := Lib.hid (by unfold badL; rw [if_neg (by simp [h1])])
      have HD1 : Hid (decide (s.rd.st = 3) = true) := Lib.hid (by simp [h1])
      rw [HD1.out]
      clear h3 h1
      go_wp2_with ((with_reducible refine (St.broken_any 0 g _ b7 _ HR7.out).mono ?_); rintro e w' ⟨rfl, rfl⟩; rw [HD3.out])
      go_ret
      rw [HRE.out, HB.out, List.append_nil]
      exact mur_mk HGR7.out HON7.out HV7.out (Only.refl _ _)
    · have HB : Hid (badL s.rd.st r'.2.st = [badF]) := Lib.hid (by unfold badL; rw [if_pos ⟨h3, h1⟩])
      have HD1 : Hid (decide (s.rd.st = 3) = false) := Lib.hid (by simp [h1])
      rw [HD1.out]
      obtain ⟨W8, hW8⟩ : ∃ q, W7.alloc (.cells #[.int .u8 0, .string ⟨#[]⟩] TF) = q := ⟨_, rfl⟩
      have hb8 : Below W7.heap.size W7 W8 := by rw [← hW8]; exact (Below.refl _ _).alloc (Nat.le_refl _) _
      have HB8 := Lib.hid hb8
      have HV8 := Lib.hid (HV7.out.below hb8)
      have HLIT : Hid (SlR 2 frmC W8 (.slice (some ⟨W7.heap.size, 0, none⟩) 1 1) [badF]) := Lib.hid (by rw [← hW8]; exact SlR.one frmC_len W7 _ rfl _ badF rfl)
      have HLEN : Hid ((s.q ++ r'.1).length ≤ 1000010) := Lib.hid (by rw [List.length_append]; have := HQ4.out; have := HLR.out; omega)
      clear h3 h1 hb8
      go_wp2_with (first | rw [hW8] | ((with_reducible refine (St.broken_any 0 g _ b7 _ HR7.out).mono ?_); rintro e w' ⟨rfl, rfl⟩; rw [HD3.out]) | (at_builtin; refine appQue frmC_len Try.underlying29 rfl (by decide) info_frm rfl (.tmp 47) (.tmp 49) rfl rfl HV8.out.q (.slice (some ⟨W7.heap.size, 0, none⟩) 1 1) rfl HLIT.out (fun y hy => frmC_one y) (by have := HLEN.out; unfold maxLen; simp only [List.length_singleton]; omega) (by have := HLEN.out; simp only [List.length_singleton]; omega) (Nat.zero_le _) ?_; intro v9 w9 hq9 hg9 hl9; obtain ⟨a9, m9, d9, rfl⟩ := slice_que hq9; obtain ⟨hv10, ho10⟩ := HV8.out.qput hq9 hg9 hl9; have HV10 := Lib.hid hv10; have HO10 := Lib.hid ho10; have hrow9 := (hg9.block p HV8.out.plt (fun e => HV8.out.qne p e.symm rfl)).trans HV8.out.row; have c49 : w9.cell? ⟨p, 4, none⟩ = some (.slice a6 m6 d6) := (cell_of_row w9 _ 4 _ _ _ hrow9).trans rfl; have z9 : ∀ i, w9.frozen? ⟨p, i, none⟩ = false := fun i => frozen_of_row _ _ _ _ _ hrow9; have HG9 := Lib.hid hg9.size; clear hq9 hg9 hl9 hv10 ho10 hrow9))
      go_ret
      rw [HRE.out, HB.out, ← List.append_assoc]
      refine ⟨rfl, Mc.Left.step HON7.out HGR7.out (Mc.Left.ahead HB8.out ⟨⟨_, HV10.out.x, fun k hk => ?_⟩, HO10.out⟩)⟩
      rcases hk with hk | hk
      · exact .inl hk
      · exact .inr ⟨hk.1, by have := hk.2; simpa using this⟩
  · have HB : Hid (badL s.rd.st r'.2.st = []) := Lib.hid (by unfold badL; rw [if_neg (by simp [h3])])
    have HD3 : Hid (decide (r'.2.st = 3) = false) := Lib.hid (by simp [h3])
    clear h3
    go_wp2_with ((with_reducible refine (St.broken_any 0 g _ b7 _ HR7.out).mono ?_); rintro e w' ⟨rfl, rfl⟩; rw [HD3.out])
    go_ret
    rw [HRE.out, HB.out, List.append_nil]
    exact mur_mk HGR7.out HON7.out HV7.out (Only.refl _ _)
set_option maxHeartbeats 400000 in
theorem rclone_nil (w : World) : Calls Try.prog 45 #[.pointer none] w fun e w' => e = .returned (.pointer none) ∧ w = w' := by
  go_enter Try.func45, Try.ntmps45
  go_wp2
  go_ret
  exact ⟨rfl, rfl⟩
/-- the reader's copy -/
def RcR (s : Ses) (w : World) (e : Ending) (w' : World) : Prop := ∃ v, e = .returned v ∧ Below w.heap.size w w' ∧ (v.oneCell' = true) ∧ ((s.st = 0 ∧ v = .pointer none) ∨ (s.st ≠ 0 ∧ ∃ g b, v = .pointer (some ⟨g, 0, none⟩) ∧ w.heap.size ≤ g ∧ Rdr 0 w' g s.rd b ∧ ∀ q, b = some q → w.heap.size ≤ q))
theorem rclone_any (w : World) (h : RdP w S vr s) (hok : okR s.rd) : Calls Try.prog 45 #[vr] w (RcR s w) := by
  rcases h with ⟨h1, rfl⟩ | ⟨h0, g, b, rfl, h2, h3, h4⟩
  · refine (rclone_nil w).mono ?_
    rintro e w' ⟨rfl, rfl⟩
    exact ⟨_, rfl, Below.refl _ _, rfl, .inl ⟨h1, rfl⟩⟩
  · refine (St.clone_any 0 g s.rd b w h3 hok).mono ?_
    rintro e w' ⟨S', rfl, hr, hs, hb⟩
    exact ⟨_, rfl, hb, rfl, .inr ⟨h0, _, _, rfl, Nat.le_refl _, hr, fun q hq => Nat.le_of_lt (hs q hq)⟩⟩
def ClonedS (s : Ses) (w : World) (e : Ending) (w' : World) : Prop := ∃ g, e = .returned (.pointer (some ⟨g, 0, none⟩)) ∧ SesX g s w' (fun k => w.heap.size ≤ k ∧ k < w'.heap.size) ∧ Below w.heap.size w w'
set_option maxHeartbeats 4000000 in
theorem clone_any {n m : Nat} (w : World) (h : SesV w S p vr vq vo s) (hok : okS n m s) (hn : n ≤ 1000000) (hm : m ≤ 1000000) : Calls Try.prog 26 #[.pointer (some ⟨p, 0, none⟩)] w (ClonedS s w) := by
  obtain ⟨c0, c1, c2, c3, c4, c5, z⟩ := h.cells
  obtain ⟨W1, hW1⟩ : ∃ q, w.alloc (.cells #[.int .i64 s.st, .bool s.wi, .string s.tx, vr, vq, vo] TS) = q := ⟨_, rfl⟩
  have hb1 : Below w.heap.size w W1 := by rw [← hW1]; exact (Below.refl _ _).alloc (Nat.le_refl _) _
  have hs1 : W1.heap.size = w.heap.size + 1 := by rw [← hW1]; simp
  have hx1 : W1.heap[w.heap.size]? = some (.cells #[.int .i64 s.st, .bool s.wi, .string s.tx, vr, vq, vo] TS (0, 0)) := by rw [← hW1]; exact heap_alloc_new _ _
  have HV1 := Lib.hid (h.below hb1)
  have HB1 := Lib.hid hb1
  have HX1 := Lib.hid hx1
  have HS1 := Lib.hid hs1
  have HPL := Lib.hid h.plt
  have HLOW : Hid (∀ k, S k → k < w.heap.size) := Lib.hid h.low
  have HOK := Lib.hid hok.2.2.1
  have HQL : Hid (s.q.length ≤ 1000000) := Lib.hid (by have := hok.2.2.2.2.1; omega)
  have HOL : Hid (s.out.length ≤ 1000000) := Lib.hid (by have := hok.2.2.2.2.2.1; omega)
  obtain ⟨d0, d1, d2, d3, d4, d5, dz⟩ := HV1.out.cells
  have HONE : Hid (vr.oneCell' = true) := Lib.hid (by rcases h.rdr with ⟨-, rfl⟩ | ⟨-, g, b, rfl, -⟩ <;> rfl)
  obtain ⟨aq, nq, mq, rfl⟩ := slice_que h.q
  obtain ⟨ao, no, mo, rfl⟩ := slice_any h.o
  have hvr : ∃ a, vr = .pointer a := by rcases h.rdr with ⟨-, rfl⟩ | ⟨-, g, b, rfl, -⟩ <;> exact ⟨_, rfl⟩
  obtain ⟨ar, rfl⟩ := hvr
  clear h hok hb1 hx1 hs1 z d0 d1 d2 d4 d5
  go_enter Try.func26, Try.ntmps26
  go_wp2_with (first | rw [hW1] | ((with_reducible refine (rclone_any _ HV1.out.rdr HOK.out).mono ?_); rintro e w2 ⟨v2, rfl, hb2, ho2, hr2⟩; obtain ⟨a2, rfl⟩ : ∃ a, v2 = .pointer a := (by rcases hr2 with ⟨-, rfl⟩ | ⟨-, g, b, rfl, -⟩ <;> exact ⟨_, rfl⟩); have hx2 := (hb2.block _ (row_lt HX1.out)).trans HX1.out; have t3 : w2.cell? ⟨w.heap.size, 3, none⟩ = some (.pointer ar) := (cell_of_row _ _ _ _ _ _ hx2).trans rfl; have tz : ∀ i, w2.frozen? ⟨w.heap.size, i, none⟩ = false := fun i => frozen_of_row _ _ _ _ _ hx2; obtain ⟨W3, hW3⟩ : ∃ q, w2.setCell ⟨w.heap.size, 3, none⟩ (.pointer a2) = q := ⟨_, rfl⟩; have hx3 : W3.heap[w.heap.size]? = some (.cells #[.int .i64 s.st, .bool s.wi, .string s.tx, .pointer a2, .slice aq nq mq, .slice ao no mo] TS (0, 0)) := (by rw [← hW3]; exact (heap_setCell_same w2 _ 3 _ TS _ hx2).trans rfl); have ho3 : ∀ k, k ≠ w.heap.size → W3.heap[k]? = w2.heap[k]? := (by intro k hk; rw [← hW3]; exact heap_setCell_other w2 ⟨w.heap.size, 3, none⟩ k _ hk); have hz3 : W3.heap.size = w2.heap.size := (by rw [← hW3]; simp); have HV3 := Lib.hid ((HV1.out.below hb2).keep (w' := W3) (fun k hk => ho3 k (Nat.ne_of_lt (HLOW.out k hk))) (Nat.le_of_eq hz3.symm)); have HB3 : Hid (Below w.heap.size w W3) := Lib.hid (by rw [← hW3]; exact below_cell (HB1.out.trans (hb2.mono HB1.out.size)) (Nat.le_refl _) _); have HX3 := Lib.hid hx3; have HO3 := Lib.hid ho3; have HZ3 := Lib.hid hz3; have HB2 := Lib.hid hb2; have HR2 := Lib.hid hr2; have e43 := HV3.out.cells.2.2.2.2.1; clear hb2 ho2 hr2 hx2 hx3 ho3 hz3) | rw [hW3] | ((with_reducible refine (If.clone_any s.q _ _ (HV3.out.q.sl frmC_len) (by have := HQL.out; omega)).mono ?_); rintro e w4 ⟨u4, rfl, ho4, hb4⟩; obtain ⟨a4, n4, m4, rfl⟩ := slice_any ho4; have hx4 := (hb4.block _ (row_lt HX3.out)).trans HX3.out; have t4 : w4.cell? ⟨w.heap.size, 4, none⟩ = some (.slice aq nq mq) := (cell_of_row _ _ _ _ _ _ hx4).trans rfl; have tz4 : ∀ i, w4.frozen? ⟨w.heap.size, i, none⟩ = false := fun i => frozen_of_row _ _ _ _ _ hx4; obtain ⟨W5, hW5⟩ : ∃ q, w4.setCell ⟨w.heap.size, 4, none⟩ (.slice a4 n4 m4) = q := ⟨_, rfl⟩; have hx5 : W5.heap[w.heap.size]? = some (.cells #[.int .i64 s.st, .bool s.wi, .string s.tx, .pointer a2, .slice a4 n4 m4, .slice ao no mo] TS (0, 0)) := (by rw [← hW5]; exact (heap_setCell_same w4 _ 4 _ TS _ hx4).trans rfl); have ho5 : ∀ k, k ≠ w.heap.size → W5.heap[k]? = w4.heap[k]? := (by intro k hk; rw [← hW5]; exact heap_setCell_other w4 ⟨w.heap.size, 4, none⟩ k _ hk); have hz5 : W5.heap.size = w4.heap.size := (by rw [← hW5]; simp); have HV5 := Lib.hid ((HV3.out.below hb4).keep (w' := W5) (fun k hk => ho5 k (Nat.ne_of_lt (HLOW.out k hk))) (Nat.le_of_eq hz5.symm)); have HB5 : Hid (Below w.heap.size w W5) := Lib.hid (by rw [← hW5]; exact below_cell (HB3.out.trans (hb4.mono HB3.out.size)) (Nat.le_refl _) _); have HX5 := Lib.hid hx5; have HO5 := Lib.hid ho5; have HZ5 := Lib.hid hz5; have HB4 := Lib.hid hb4; have HW4 := Lib.hid ho4; have e55 := HV5.out.cells.2.2.2.2.2.1; clear hb4 ho4 hx4 hx5 ho5 hz5) | rw [hW5] | ((with_reducible refine (Ip.clone_any s.out _ _ (HV5.out.o.sl repC_len) (by have := HOL.out; omega)).mono ?_); rintro e w6 ⟨u6, rfl, ho6, hb6⟩; obtain ⟨a6, n6, m6, rfl⟩ := slice_any ho6; have hx6 := (hb6.block _ (row_lt HX5.out)).trans HX5.out; have t6 : w6.cell? ⟨w.heap.size, 5, none⟩ = some (.slice ao no mo) := (cell_of_row _ _ _ _ _ _ hx6).trans rfl; have tz6 : ∀ i, w6.frozen? ⟨w.heap.size, i, none⟩ = false := fun i => frozen_of_row _ _ _ _ _ hx6; obtain ⟨W7, hW7⟩ : ∃ q, w6.setCell ⟨w.heap.size, 5, none⟩ (.slice a6 n6 m6) = q := ⟨_, rfl⟩; have hx7 : W7.heap[w.heap.size]? = some (.cells #[.int .i64 s.st, .bool s.wi, .string s.tx, .pointer a2, .slice a4 n4 m4, .slice a6 n6 m6] TS (0, 0)) := (by rw [← hW7]; exact (heap_setCell_same w6 _ 5 _ TS _ hx6).trans rfl); have ho7 : ∀ k, k ≠ w.heap.size → W7.heap[k]? = w6.heap[k]? := (by intro k hk; rw [← hW7]; exact heap_setCell_other w6 ⟨w.heap.size, 5, none⟩ k _ hk); have hz7 : W7.heap.size = w6.heap.size := (by rw [← hW7]; simp); have HB7 : Hid (Below w.heap.size w W7) := Lib.hid (by rw [← hW7]; exact below_cell (HB5.out.trans (hb6.mono HB5.out.size)) (Nat.le_refl _) _); have HX7 := Lib.hid hx7; have HO7 := Lib.hid ho7; have HZ7 := Lib.hid hz7; have HB6 := Lib.hid hb6; have HW6 := Lib.hid ho6; clear hb6 ho6 hx6 hx7 ho7 hz7) | rw [hW7])
  go_ret
  have z1 := HS1.out
  have z2 := HB2.out.size
  have z3 := HZ3.out
  have z4 := HB4.out.size
  have z5 := HZ5.out
  have z6 := HB6.out.size
  have z7 := HZ7.out
  have k67 : ∀ k, k < W5.heap.size → k ≠ w.heap.size → W7.heap[k]? = W5.heap[k]? := fun k hk hn => (HO7.out k hn).trans (HB6.out.block k hk)
  have k47 : ∀ k, k < w4.heap.size → k ≠ w.heap.size → W7.heap[k]? = w4.heap[k]? := fun k hk hn => (k67 k (by omega) hn).trans (HO5.out k hn)
  have k27 : ∀ k, k < w2.heap.size → k ≠ w.heap.size → W7.heap[k]? = w2.heap[k]? := fun k hk hn => (k47 k (by omega) hn).trans ((HB4.out.block k (by omega)).trans (HO3.out k hn))
  refine ⟨_, rfl, ⟨_, _, _, ⟨HX7.out, ⟨Nat.le_refl _, by omega⟩, ?_, ?_, fun k hk => ?_, ?_, fun k hk => ?_, fun k hk => hk.2⟩⟩, HB7.out⟩
  · rcases HR2.out with ⟨q1, q2⟩ | ⟨q0, g, b, q1, q2, q3, q4⟩
    · exact .inl ⟨q1, q2⟩
    · refine .inr ⟨q0, g, b, q1, ⟨by omega, by have := q3.lt; omega⟩, q3.same (k27 g q3.lt (by omega)) (fun q hq => k27 q (q3.ltS q hq).2 (by have := q4 q hq; omega)), fun q hq => ⟨by have := q4 q hq; omega, by have := (q3.ltS q hq).2; omega⟩⟩
  · exact OwnQ.of frmC_len (own_keep (World.ownsRow.mono HW4.out (Nat.zero_le _)) (fun q hq hlt => k47 q hlt (by have := (World.ownsRow.lt HW4.out q hq).1; omega)))
  · have := World.ownsRow.lt HW4.out k hk; exact ⟨by omega, by omega⟩
  · exact own_keep (World.ownsRow.mono HW6.out (Nat.zero_le _)) (fun q hq hlt => HO7.out q (by have := (World.ownsRow.lt HW6.out q hq).1; omega))
  · have := World.ownsRow.lt HW6.out k hk; exact ⟨by omega, by omega⟩
end
end Mu
end Go.Proofs.Ytdakkjpejhlciaa
