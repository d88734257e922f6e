/- A snapshot's bytes written and read, on lists. No condition. The chapter's example of a snapshot's bytes. No condition. -/
import Derived.Test.YtlfaiemebfkajaaGreatDoorEdZ
namespace Go.Proofs.YtlfaiemebfkajaaGreatDoor
open Go.ChangeShapes Go.WideShapes Go.ChangeAt Go.RowKit
set_option linter.unusedVariables false
set_option maxRecDepth 100000
namespace Sc
open Cm Nm Sh
theorem pnum_num {n m : Int} (h0 : 0 ≤ n) (h1 : n ≤ 18446744073709551615) (hm : n ≤ m) (rest : List Int) : pnum m (numI n ++ rest, 0) = (n, (rest, 0)) := by
  have hr : Oc.rdL (numI n ++ rest) = (n.toNat, Oc.bw n.toNat + 1, 0) := Oc.rd_num (by omega) rest
  have hl : (numI n).length = Oc.bw n.toNat + 1 := Oc.numL_length _
  rw [pnum_ok hr (by omega), ← hl, List.drop_left, show ((n.toNat : Nat) : Int) = n by omega]
theorem pnum_sub (m : Int) (st : Pst) : ∀ x ∈ (pnum m st).2.1, x ∈ st.1 := by
  intro x hx
  unfold pnum at hx
  split at hx
  · exact hx
  · split at hx
    · exact hx
    · split at hx
      · exact hx
      · exact List.mem_of_mem_drop hx
abbrev WfB (zs : List Int) : Prop := ∀ n ∈ zs, (Lit.int .u8 n).wf = true
theorem num_back {m : Int} {st : Pst} (hw : WfB st.1) (h : (pnum m st).2.2 = 0) : st.2 = 0 ∧ st.1 = numI (pnum m st).1 ++ (pnum m st).2.1 := by
  obtain ⟨zs, e⟩ := st
  by_cases he : (e == 0) = true
  · obtain rfl : e = 0 := by simpa using he
    refine ⟨rfl, ?_⟩
    rcases hr : Oc.rdL zs with ⟨n, k, er⟩
    rcases Oc.rd_err hr with hee | hee
    · subst hee
      by_cases hm : m < (n : Int)
      · rw [pnum_form hr hm] at h
        simp at h
      · obtain ⟨-, hk, -, hn⟩ := Oc.rd_back hw hr
        rw [pnum_ok hr (by omega)]
        show zs = numI (n : Int) ++ zs.drop k
        unfold numI
        rw [show ((n : Int)).toNat = n by omega, hn, List.take_append_drop]
    · rw [pnum_err hr hee] at h
      simp only [] at h
      subst h
      simp at hee
  · rw [pnum_stuck (by simpa using he)] at h
    simp only [] at h
    subst h
    simp at he
theorem list_read {α : Type} {f : Pst → α × Pst} {e1 : α → List Int} : ∀ (k : Nat) (l : List α), l.length = k → (∀ x ∈ l, ∀ rest, f (e1 x ++ rest, 0) = (x, (rest, 0))) → ∀ rest, listS f k (l.flatMap e1 ++ rest, 0) = (l, (rest, 0))
  | 0, l, hl, _, rest => by
    obtain rfl := List.eq_nil_of_length_eq_zero hl
    rfl
  | k + 1, l, hl, h, rest => by
    rcases List.eq_nil_or_concat l with rfl | ⟨l', x, rfl⟩
    · simp at hl
    · simp only [List.concat_eq_append] at hl h ⊢
      have hk : l'.length = k := by simpa using hl
      have ih := list_read k l' hk (fun y hy => h y (by simp [hy])) (e1 x ++ rest)
      rw [listS, List.flatMap_append, show [x].flatMap e1 = e1 x by simp, List.append_assoc, ih, h x (by simp) rest]
theorem list_sub {α : Type} {f : Pst → α × Pst} (h : ∀ st, ∀ x ∈ (f st).2.1, x ∈ st.1) : ∀ (k : Nat) (st : Pst), ∀ x ∈ (listS f k st).2.1, x ∈ st.1
  | 0, _, x, hx => hx
  | k + 1, st, x, hx => by
    rw [listS] at hx
    exact list_sub h k st x (h _ x hx)
theorem list_backw {α : Type} {f : Pst → α × Pst} {e1 : α → List Int} (hf : Stuck f) (hs : ∀ st, ∀ x ∈ (f st).2.1, x ∈ st.1) (h : ∀ st : Pst, WfB st.1 → (f st).2.2 = 0 → st.2 = 0 ∧ st.1 = e1 (f st).1 ++ (f st).2.1) : ∀ (k : Nat) (st : Pst), WfB st.1 → (listS f k st).2.2 = 0 → st.2 = 0 ∧ st.1 = (listS f k st).1.flatMap e1 ++ (listS f k st).2.1
  | 0, st, _, he => ⟨he, by simp [listS]⟩
  | k + 1, st, hw, he => by
    have hw2 : WfB (listS f k st).2.1 := fun n hn => hw n (list_sub hs k st n hn)
    rw [listS] at he ⊢
    simp only [] at he ⊢
    obtain ⟨h1, h2⟩ := h _ hw2 he
    obtain ⟨h3, h4⟩ := list_backw hf hs h k st hw h1
    refine ⟨h3, ?_⟩
    rw [List.flatMap_append, show [(f (listS f k st).2).1].flatMap e1 = e1 (f (listS f k st).2).1 by simp, List.append_assoc, ← h2]
    exact h4
theorem encN_cons2 (n : Int) (l : List Int) : encN (n :: l) = numI n ++ encN l := rfl
theorem encN_nil : encN [] = [] := rfl
theorem small_num {n : Int} (h0 : 0 ≤ n) (h : n ≤ 65535) (rest : List Int) : smallS (numI n ++ rest, 0) = (n, (rest, 0)) := pnum_num h0 (by omega) h rest
theorem wide_num {n : Int} (h : 0 ≤ n ∧ n ≤ 18446744073709551615) (rest : List Int) : wideS (numI n ++ rest, 0) = (n, (rest, 0)) := pnum_num h.1 h.2 h.2 rest
theorem many_num {n : Int} (h0 : 0 ≤ n) (h : n ≤ 64) (rest : List Int) : manyS (numI n ++ rest, 0) = (n, (rest, 0)) := pnum_num h0 (by omega) h rest
theorem held_read {x : Held} (h : (1 ≤ x.token ∧ x.token ≤ 65535) ∧ (1 ≤ x.node ∧ x.node ≤ 7) ∧ (0 ≤ x.boot ∧ x.boot ≤ 18446744073709551615) ∧ (0 ≤ x.serial ∧ x.serial ≤ 18446744073709551615) ∧ (0 ≤ x.stamp ∧ x.stamp ≤ 18446744073709551615)) (rest : List Int) : heldS (encN (heldNs x) ++ rest, 0) = (x, (rest, 0)) := by
  obtain ⟨t, n, b, s, p⟩ := x
  obtain ⟨⟨a1, a2⟩, ⟨b1, b2⟩, ⟨c1, c2⟩, ⟨d1, d2⟩, ⟨e1, e2⟩⟩ := h
  dsimp only at a1 a2 b1 b2 c1 c2 d1 d2 e1 e2
  unfold heldS heldNs
  simp only [encN_cons2, encN_nil, List.append_assoc, List.nil_append]
  rw [small_num (n := t) (by omega) a2, small_num (n := n) (by omega) (by omega), wide_num (n := b) ⟨c1, c2⟩, wide_num (n := s) ⟨d1, d2⟩, wide_num (n := p) ⟨e1, e2⟩]
theorem last_read {x : LastR} (h : (1 ≤ x.node ∧ x.node ≤ 7) ∧ (0 ≤ x.boot ∧ x.boot ≤ 18446744073709551615) ∧ (0 ≤ x.seq ∧ x.seq ≤ 18446744073709551615) ∧ (0 ≤ x.code ∧ x.code ≤ 65535) ∧ (0 ≤ x.token ∧ x.token ≤ 65535) ∧ (0 ≤ x.serial ∧ x.serial ≤ 18446744073709551615)) (rest : List Int) : lastS (encN (lastNs x) ++ rest, 0) = (x, (rest, 0)) := by
  obtain ⟨n, b, q, c, t, s⟩ := x
  obtain ⟨⟨a1, a2⟩, ⟨b1, b2⟩, ⟨c1, c2⟩, ⟨d1, d2⟩, ⟨e1, e2⟩, ⟨f1, f2⟩⟩ := h
  dsimp only at a1 a2 b1 b2 c1 c2 d1 d2 e1 e2 f1 f2
  unfold lastS lastNs
  simp only [encN_cons2, encN_nil, List.append_assoc, List.nil_append]
  rw [small_num (n := n) (by omega) (by omega), wide_num (n := b) ⟨b1, b2⟩, wide_num (n := q) ⟨c1, c2⟩, small_num (n := c) d1 d2, small_num (n := t) e1 e2, wide_num (n := s) ⟨f1, f2⟩]
theorem helds_enc (l : List Held) : encN (heldsNs l) = l.flatMap fun x => encN (heldNs x) := by
  unfold heldsNs encN
  rw [List.flatMap_assoc]
theorem lasts_enc (l : List LastR) : encN (lastsNs l) = l.flatMap fun x => encN (lastNs x) := by
  unfold lastsNs encN
  rw [List.flatMap_assoc]
theorem shotB_app (s : Sho) (rest : List Int) : shotB s ++ rest = 83 :: (numI s.index ++ (numI s.term ++ (numI (s.nodes.length : Int) ++ (encN s.nodes ++ (numI s.led.limit ++ (numI s.led.next ++ (numI (s.led.held.length : Int) ++ (encN (heldsNs s.led.held) ++ (numI (s.led.last.length : Int) ++ (encN (lastsNs s.led.last) ++ rest)))))))))) := by
  unfold shotB shotNs ns1 ns3
  simp only [encN_app, encN_cons2, List.append_assoc, List.cons_append, List.nil_append]
theorem shot_read {s : Sho} (h : Nums s) (rest : List Int) : shotS (shotB s ++ rest, 0) = (s, (rest, 0)) := by
  have hb := shotB_app s rest
  obtain ⟨R9, h9⟩ : ∃ q, encN (lastsNs s.led.last) ++ rest = q := ⟨_, rfl⟩
  obtain ⟨R8, h8⟩ : ∃ q, numI (s.led.last.length : Int) ++ R9 = q := ⟨_, rfl⟩
  obtain ⟨R7, h7⟩ : ∃ q, encN (heldsNs s.led.held) ++ R8 = q := ⟨_, rfl⟩
  obtain ⟨R6, h6⟩ : ∃ q, numI (s.led.held.length : Int) ++ R7 = q := ⟨_, rfl⟩
  obtain ⟨R5, h5⟩ : ∃ q, numI s.led.next ++ R6 = q := ⟨_, rfl⟩
  obtain ⟨R4, h4⟩ : ∃ q, numI s.led.limit ++ R5 = q := ⟨_, rfl⟩
  obtain ⟨R3, h3⟩ : ∃ q, encN s.nodes ++ R4 = q := ⟨_, rfl⟩
  obtain ⟨R2, h2⟩ : ∃ q, numI (s.nodes.length : Int) ++ R3 = q := ⟨_, rfl⟩
  obtain ⟨R1, h1⟩ : ∃ q, numI s.term ++ R2 = q := ⟨_, rfl⟩
  rw [h9, h8, h7, h6, h5, h4, h3, h2, h1] at hb
  have hn := h.nodes.1
  have hh := h.heldl
  have hl := h.lastl
  have e1 : sh1 (shotB s ++ rest, 0) = (s.index, (R1, 0)) := by
    unfold sh1
    rw [hb]
    exact wide_num h.index R1
  have e2 : sh2 (shotB s ++ rest, 0) = (s.term, (R2, 0)) := by unfold sh2; rw [e1, ← h1]; exact wide_num h.term R2
  have e3 : sh3 (shotB s ++ rest, 0) = ((s.nodes.length : Int), (R3, 0)) := by unfold sh3; rw [e2, ← h2]; exact many_num (by omega) (by omega) R3
  have e4 : sh4 (shotB s ++ rest, 0) = (s.nodes, (R4, 0)) := by
    unfold sh4
    rw [e3, ← h3]
    exact list_read (e1 := numI) _ s.nodes (by simp) (fun n hn rest => small_num (by have := h.nodes.2 n hn; omega) (by have := h.nodes.2 n hn; omega) rest) R4
  have e5 : sh5 (shotB s ++ rest, 0) = (s.led.limit, (R5, 0)) := by unfold sh5; rw [e4, ← h4]; exact small_num (by have := h.limit; omega) h.limit.2 R5
  have e6 : sh6 (shotB s ++ rest, 0) = (s.led.next, (R6, 0)) := by unfold sh6; rw [e5, ← h5]; exact wide_num h.next R6
  have e7 : sh7 (shotB s ++ rest, 0) = ((s.led.held.length : Int), (R7, 0)) := by unfold sh7; rw [e6, ← h6]; exact many_num (by omega) (by omega) R7
  have e8 : sh8 (shotB s ++ rest, 0) = (s.led.held, (R8, 0)) := by
    unfold sh8
    rw [e7, ← h7, helds_enc]
    exact list_read _ s.led.held (by simp) (fun x hx rest => held_read (h.held x hx) rest) R8
  have e9 : sh9 (shotB s ++ rest, 0) = ((s.led.last.length : Int), (R9, 0)) := by unfold sh9; rw [e8, ← h8]; exact many_num (by omega) (by omega) R9
  have e10 : sh10 (shotB s ++ rest, 0) = (s.led.last, (rest, 0)) := by
    unfold sh10
    rw [e9, ← h9, lasts_enc]
    exact list_read _ s.led.last (by simp) (fun x hx rest => last_read (h.last x hx) rest) rest
  unfold shotS
  rw [e1, e2, e4, e5, e6, e8, e10]
theorem held_sub (st : Pst) : ∀ x ∈ (heldS st).2.1, x ∈ st.1 := fun x hx =>
  pnum_sub _ _ _ (pnum_sub _ _ _ (pnum_sub _ _ _ (pnum_sub _ _ _ (pnum_sub _ _ _ hx))))
theorem last_sub (st : Pst) : ∀ x ∈ (lastS st).2.1, x ∈ st.1 := fun x hx =>
  pnum_sub _ _ _ (pnum_sub _ _ _ (pnum_sub _ _ _ (pnum_sub _ _ _ (pnum_sub _ _ _ (pnum_sub _ _ _ hx)))))
theorem wf_next {m : Int} {st : Pst} (hw : WfB st.1) : WfB (pnum m st).2.1 := fun n hn => hw n (pnum_sub m st n hn)
theorem held_backw (st : Pst) (hw : WfB st.1) (h : (heldS st).2.2 = 0) : st.2 = 0 ∧ st.1 = encN (heldNs (heldS st).1) ++ (heldS st).2.1 := by
  have w1 := wf_next (m := 65535) hw
  have w2 := wf_next (m := 65535) w1
  have w3 := wf_next (m := 18446744073709551615) w2
  have w4 := wf_next (m := 18446744073709551615) w3
  obtain ⟨q5, r5⟩ := num_back w4 h
  obtain ⟨q4, r4⟩ := num_back w3 q5
  obtain ⟨q3, r3⟩ := num_back w2 q4
  obtain ⟨q2, r2⟩ := num_back w1 q3
  obtain ⟨q1, r1⟩ := num_back hw q2
  refine ⟨q1, ?_⟩
  unfold heldNs
  simp only [encN_cons2, encN_nil, List.append_assoc, List.nil_append]
  exact r1.trans (congrArg _ (r2.trans (congrArg _ (r3.trans (congrArg _ (r4.trans (congrArg _ r5)))))))
theorem last_backw (st : Pst) (hw : WfB st.1) (h : (lastS st).2.2 = 0) : st.2 = 0 ∧ st.1 = encN (lastNs (lastS st).1) ++ (lastS st).2.1 := by
  have w1 := wf_next (m := 65535) hw
  have w2 := wf_next (m := 18446744073709551615) w1
  have w3 := wf_next (m := 18446744073709551615) w2
  have w4 := wf_next (m := 65535) w3
  have w5 := wf_next (m := 65535) w4
  obtain ⟨q6, r6⟩ := num_back w5 h
  obtain ⟨q5, r5⟩ := num_back w4 q6
  obtain ⟨q4, r4⟩ := num_back w3 q5
  obtain ⟨q3, r3⟩ := num_back w2 q4
  obtain ⟨q2, r2⟩ := num_back w1 q3
  obtain ⟨q1, r1⟩ := num_back hw q2
  refine ⟨q1, ?_⟩
  unfold lastNs
  simp only [encN_cons2, encN_nil, List.append_assoc, List.nil_append]
  exact r1.trans (congrArg _ (r2.trans (congrArg _ (r3.trans (congrArg _ (r4.trans (congrArg _ (r5.trans (congrArg _ r6)))))))))
theorem shot_back {zs : List Int} (hw : WfB zs) (h : (shotS (zs, 0)).2.2 = 0) : zs = shotB (shotS (zs, 0)).1 ++ (shotS (zs, 0)).2.1 := by
  have w0 : WfB (beginS (zs, 0)).1 := by
    unfold beginS
    cases zs with
    | nil => exact hw
    | cons x r =>
      dsimp only
      split
      · exact fun n hn => hw n (by simp [hn])
      · exact hw
  have w1 : WfB (sh1 (zs, 0)).2.1 := wf_next w0
  have w2 : WfB (sh2 (zs, 0)).2.1 := wf_next w1
  have w3 : WfB (sh3 (zs, 0)).2.1 := wf_next w2
  have w4 : WfB (sh4 (zs, 0)).2.1 := fun n hn => w3 n (list_sub (pnum_sub 65535) _ _ n hn)
  have w5 : WfB (sh5 (zs, 0)).2.1 := wf_next w4
  have w6 : WfB (sh6 (zs, 0)).2.1 := wf_next w5
  have w7 : WfB (sh7 (zs, 0)).2.1 := wf_next w6
  have w8 : WfB (sh8 (zs, 0)).2.1 := fun n hn => w7 n (list_sub held_sub _ _ n hn)
  have w9 : WfB (sh9 (zs, 0)).2.1 := wf_next w8
  obtain ⟨q10, r10⟩ : (sh9 (zs, 0)).2.2 = 0 ∧ (sh9 (zs, 0)).2.1 = _ := list_backw (e1 := fun x => encN (lastNs x)) lastS_st last_sub last_backw _ _ w9 h
  obtain ⟨q9, r9⟩ : (sh8 (zs, 0)).2.2 = 0 ∧ (sh8 (zs, 0)).2.1 = numI (sh9 (zs, 0)).1 ++ (sh9 (zs, 0)).2.1 := num_back w8 q10
  obtain ⟨q8, r8⟩ : (sh7 (zs, 0)).2.2 = 0 ∧ (sh7 (zs, 0)).2.1 = _ := list_backw (e1 := fun x => encN (heldNs x)) heldS_st held_sub held_backw _ _ w7 q9
  obtain ⟨q7, r7⟩ : (sh6 (zs, 0)).2.2 = 0 ∧ (sh6 (zs, 0)).2.1 = numI (sh7 (zs, 0)).1 ++ (sh7 (zs, 0)).2.1 := num_back w6 q8
  obtain ⟨q6, r6⟩ : (sh5 (zs, 0)).2.2 = 0 ∧ (sh5 (zs, 0)).2.1 = numI (sh6 (zs, 0)).1 ++ (sh6 (zs, 0)).2.1 := num_back w5 q7
  obtain ⟨q5, r5⟩ : (sh4 (zs, 0)).2.2 = 0 ∧ (sh4 (zs, 0)).2.1 = numI (sh5 (zs, 0)).1 ++ (sh5 (zs, 0)).2.1 := num_back w4 q6
  obtain ⟨q4, r4⟩ : (sh3 (zs, 0)).2.2 = 0 ∧ (sh3 (zs, 0)).2.1 = _ := list_backw (pnum_st 65535) (pnum_sub 65535) (e1 := numI) (fun st hw h => num_back hw h) _ _ w3 q5
  obtain ⟨q3, r3⟩ : (sh2 (zs, 0)).2.2 = 0 ∧ (sh2 (zs, 0)).2.1 = numI (sh3 (zs, 0)).1 ++ (sh3 (zs, 0)).2.1 := num_back w2 q4
  obtain ⟨q2, r2⟩ : (sh1 (zs, 0)).2.2 = 0 ∧ (sh1 (zs, 0)).2.1 = numI (sh2 (zs, 0)).1 ++ (sh2 (zs, 0)).2.1 := num_back w1 q3
  obtain ⟨q1, r1⟩ : (beginS (zs, 0)).2 = 0 ∧ (beginS (zs, 0)).1 = numI (sh1 (zs, 0)).1 ++ (sh1 (zs, 0)).2.1 := num_back w0 q2
  have k3 : ((sh4 (zs, 0)).1.length : Int) = (sh3 (zs, 0)).1 := by
    have e : (sh4 (zs, 0)).1.length = (sh3 (zs, 0)).1.toNat := listS_len _ _ _
    have b : 0 ≤ (sh3 (zs, 0)).1 := (pnum_bd 64 (by decide) _).1
    omega
  have k7 : ((sh8 (zs, 0)).1.length : Int) = (sh7 (zs, 0)).1 := by
    have e : (sh8 (zs, 0)).1.length = (sh7 (zs, 0)).1.toNat := listS_len _ _ _
    have b : 0 ≤ (sh7 (zs, 0)).1 := (pnum_bd 64 (by decide) _).1
    omega
  have k9 : ((sh10 (zs, 0)).1.length : Int) = (sh9 (zs, 0)).1 := by
    have e : (sh10 (zs, 0)).1.length = (sh9 (zs, 0)).1.toNat := listS_len _ _ _
    have b : 0 ≤ (sh9 (zs, 0)).1 := (pnum_bd 64 (by decide) _).1
    omega
  have hz : zs = 83 :: (beginS (zs, 0)).1 := by
    unfold beginS at q1 ⊢
    cases zs with
    | nil => simp at q1
    | cons x r =>
      dsimp only at q1 ⊢
      split at q1
      · rename_i hx
        rw [if_pos hx, hx]
      · simp at q1
  rw [shotB_app]
  unfold shotS
  dsimp only
  rw [k3, k7, k9, helds_enc, lasts_enc]
  refine hz.trans (congrArg _ (r1.trans (congrArg _ (r2.trans (congrArg _ (r3.trans (congrArg _ (r4.trans (congrArg _ (r5.trans (congrArg _ (r6.trans (congrArg _ (r7.trans (congrArg _ (r8.trans (congrArg _ (r9.trans (congrArg _ r10)))))))))))))))))))
theorem shotB_len {s : Sho} (h : Nums s) : (shotB s).length ≤ 3500 ∧ WfB (shotB s) := by
  have hb : ∀ n ∈ shotNs s, 0 ≤ n ∧ n ≤ 18446744073709551615 := by
    intro n hn
    have hn1 := h.nodes.1
    have hh := h.heldl
    have hl := h.lastl
    unfold shotNs ns1 ns3 at hn
    simp only [List.mem_append, List.mem_cons, List.not_mem_nil, or_false] at hn
    rcases hn with ((((hn | hn) | hn) | hn) | hn) | hn
    · rcases hn with rfl | rfl | rfl
      · exact h.index
      · exact h.term
      · omega
    · have := h.nodes.2 n hn; omega
    · rcases hn with rfl | rfl | rfl
      · have := h.limit; omega
      · exact h.next
      · omega
    · obtain ⟨x, hx, hm⟩ := List.mem_flatMap.1 hn
      obtain ⟨q1, q2, q3, q4, q5⟩ := h.held x hx
      simp only [heldNs, List.mem_cons, List.not_mem_nil, or_false] at hm
      rcases hm with rfl | rfl | rfl | rfl | rfl <;> omega
    · subst hn; omega
    · obtain ⟨x, hx, hm⟩ := List.mem_flatMap.1 hn
      obtain ⟨q1, q2, q3, q4, q5, q6⟩ := h.last x hx
      simp only [lastNs, List.mem_cons, List.not_mem_nil, or_false] at hm
      rcases hm with rfl | rfl | rfl | rfl | rfl | rfl <;> omega
  obtain ⟨h1, h2⟩ := encN_len (shotNs s) hb
  have hl : (shotNs s).length ≤ 376 := by
    unfold shotNs ns1 ns3
    simp only [List.length_append, List.length_cons, List.length_nil, heldsNs_len, lastsNs_len]
    have := h.nodes.1
    have := h.heldl
    have := h.lastl
    omega
  unfold shotB
  refine ⟨by rw [List.length_cons]; omega, fun n hn => ?_⟩
  rcases List.mem_cons.1 hn with rfl | hn
  · decide
  · exact h2 n hn
theorem dec_enc {s : Sho} (hw : s.wf) (ok : shotOk s) : decV (shotB s) = (s, 0) := by
  have hn := nums_of hw ok
  have hr := shot_read hn []
  rw [List.append_nil] at hr
  have hl := (shotB_len hn).1
  have he : errS (shotB s) = 0 := err_zero.2 (by rw [hr])
  rw [dec_ok (by omega) he (by rw [hr]; exact ok), hr]
theorem dec_back {zs : List Int} (hw : WfB zs) {s : Sho} (h : decV zs = (s, 0)) : shotOk s ∧ shotB s = zs := by
  by_cases hl : 8192 < zs.length
  · rw [dec_long hl] at h; simp at h
  · by_cases he : errS zs = 0
    · by_cases ok : shotOk (shotS (zs, 0)).1
      · rw [dec_ok hl he ok] at h
        simp only [Prod.mk.injEq, and_true] at h
        subst h
        refine ⟨ok, ?_⟩
        have q := err_zero.1 he
        have hb := shot_back hw (by rw [q])
        rw [q, List.append_nil] at hb
        exact hb.symm
      · rw [dec_no hl he ok] at h; simp at h
    · rw [dec_err hl he] at h
      simp only [Prod.mk.injEq] at h
      exact absurd h.2 he
end Sc
end Go.Proofs.YtlfaiemebfkajaaGreatDoor
namespace Go.Proofs.YtlfaiemebfkajaaGreatDoor
open Go.ChangeShapes Go.WideShapes Go.ChangeAt Go.RowKit
set_option linter.unusedVariables false
set_option maxRecDepth 100000
namespace Sc
open Cm Nm Sh
theorem numI_one {n : Int} (h1 : 1 ≤ n) (h2 : n ≤ 255) : numI n = [1, n] := by
  unfold numI Oc.numL
  rw [Oc.bw_pos (by omega), show n.toNat / 256 = 0 by omega, Oc.bw_zero]
  simp [Oc.be]
  omega
theorem numI_zero : numI 0 = [0] := by
  unfold numI Oc.numL
  rw [show (0 : Int).toNat = 0 from rfl, Oc.bw_zero]
  rfl
def exS : Sho := ⟨0, 0, [1, 3], ⟨2, 1, [], []⟩⟩
theorem exS_ok : shotOk exS := by
  refine ⟨by decide, ⟨by decide, by decide, by decide, ⟨by decide, fun j y hj hy => ?_⟩, fun j y hj hy => ?_⟩, by decide, fun j y hj hy => ?_⟩
  · simp [exS] at hy
  · simp [exS] at hy
  · simp [exS] at hy
theorem exS_enc : shotB exS = [83, 0, 0, 1, 2, 1, 1, 1, 3, 1, 2, 1, 1, 0, 0] := by
  have e : shotB exS = 83 :: (numI 0 ++ (numI 0 ++ (numI 2 ++ (numI 1 ++ (numI 3 ++ (numI 2 ++ (numI 1 ++ (numI 0 ++ (numI 0 ++ []))))))))) := rfl
  rw [e, numI_zero, numI_one (n := 2) (by omega) (by omega), numI_one (n := 1) (by omega) (by omega), numI_one (n := 3) (by omega) (by omega)]
  rfl
end Sc
end Go.Proofs.YtlfaiemebfkajaaGreatDoor
