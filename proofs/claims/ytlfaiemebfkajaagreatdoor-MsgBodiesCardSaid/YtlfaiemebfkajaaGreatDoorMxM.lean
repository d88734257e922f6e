/- Package msg: written, Encode. Condition of Encode: the table octet.steps reads as the program's text lays it. The chapter's first example of a message holds. Condition: the table octet.steps reads as the program's text lays it. -/
import Derived.Test.YtlfaiemebfkajaaGreatDoorMxA
import Derived.Test.YtlfaiemebfkajaaGreatDoorCeA
import Derived.Test.YtlfaiemebfkajaaGreatDoorFrO
import Derived.Deep.MidRow
namespace Go.Proofs.YtlfaiemebfkajaaGreatDoor
open Go.ChangeShapes Go.WideShapes Go.ChangeAt Go.RowKit Go.Deep
set_option linter.unusedVariables false
set_option maxRecDepth 100000
namespace Ms
open Nv Cm Sc
def GivesOct (zs : List Int) (w : World) (e : Ending) (w' : World) : Prop := ∃ v, e = .returned v ∧ Own w' w.heap.size v zs ∧ Sl .u8 w' v zs ∧ Below w.heap.size w w'
theorem own_byT {w w' : World} {B e sz n : Nat} {v : Value} {xs : List Value} (h : w.ownsRow B e sz v n xs) (hb : ByT w w') (he : e ≠ 5) : w'.ownsRow B e sz v n xs := by
  refine ⟨h.1, ?_⟩
  rcases h.2 with h2 | ⟨g, cap, cur, h2, h3, h4, h5⟩
  · exact .inl h2
  · exact .inr ⟨g, cap, cur, h2, h3, hb _ _ _ _ h4 he, h5⟩
/-- what is known while a message's bytes are written -/
def EM (w : World) (cs : Array Value) (vf : Value) (fs : List Int) (v : Value) (bs : List Int) (W : World) : Prop :=
  Own W w.heap.size v bs ∧ Below w.heap.size w W ∧ W.heap[w.heap.size]? = some (.cells cs 33 (0, 0)) ∧ OwnK .i64 68 W w.heap.size vf fs
theorem EM.call {w W W' : World} {cs : Array Value} {vf : Value} {fs : List Int} {v : Value} {bs : List Int} (h : EM w cs vf fs v bs W) (hb : Below W.heap.size W W') : EM w cs vf fs v bs W' :=
  ⟨h.1.below hb (Nat.le_refl _), h.2.1.trans (hb.mono h.2.1.size), (hb.block _ (row_lt h.2.2.1)).trans h.2.2.1, h.2.2.2.below hb (Nat.le_refl _)⟩
theorem EM.app {w W W' : World} {cs : Array Value} {vf : Value} {fs : List Int} {v v' : Value} {bs bs' : List Int} (h : EM w cs vf fs v bs W) (own : Own W' w.heap.size v' bs') (hg : W.grownBy W' v.ownBlock) : EM w cs vf fs v' bs' W' :=
  ⟨own, h.2.1.trans (below_grown h.1 h.2.1.size hg), ByT.grown h.1 hg _ _ _ _ h.2.2.1 (by decide), own_byT h.2.2.2 (ByT.grown h.1 hg) (by decide)⟩
set_option maxHeartbeats 4000000 in
theorem entenc_c (x : Ent) (v : Value) (w : World) (h : Hd.IsEnt w v x) (hf : chkC x.cmd = true) : Calls Tryz.prog 82 #[v] w (GivesOct (Rk.entB x) w) := by
  obtain ⟨vn, rfl, hsl, hwf⟩ := h
  obtain ⟨a1, b1, rfl, -⟩ := id hsl
  have h2 := hf
  obtain ⟨W1, hW1⟩ : ∃ q, w.alloc (.cells (entC (x, .slice a1 x.cmd.nodes.length b1)).toArray 88) = q := ⟨_, rfl⟩
  have hb0 : Below w.heap.size w W1 := by rw [← hW1]; exact (Below.refl _ _).alloc (Nat.le_refl _) _
  have HA : Hid (W1.heap[w.heap.size]? = some (.cells (entC (x, .slice a1 x.cmd.nodes.length b1)).toArray 88 (0, 0))) := Lib.hid (by rw [← hW1]; exact heap_alloc_new _ _)
  have HB := Lib.hid hb0
  have HI : Hid (IsCmd W1 (.agg (Cm.cArr x.cmd (.slice a1 x.cmd.nodes.length b1))) x.cmd) := Lib.hid ⟨_, rfl, hsl.below hb0 (Nat.le_refl _), hwf.2⟩
  obtain ⟨b0, b1, b2, b3, b4, b5, b6, b7, b8⟩ := Hd.ent9 HA.out
  have ht := bounds_u64 hwf.1
  have HL := Lib.hid (ent_len hwf hf)
  have l1 := numI_len (n := x.term) (by omega) (by omega)
  have l2 := (encL_len hwf.2 h2).1
  have H2 := Lib.hid h2
  clear hsl hwf hb0 h2 hf
  go_enter Tryz.func82, Tryz.ntmps82
  go_wp2_with fail
  refine (encode_yes x.cmd _ _ HI.out H2.out).mono ?_
  rintro e w2 ⟨v2, rfl, -, hs2, hbx⟩
  have HB2 := Lib.hid (HB.out.trans (hbx.mono HB.out.size))
  have HS2 := Lib.hid hs2
  have HA2 := Lib.hid ((hbx.block _ (row_lt HA.out)).trans HA.out)
  clear b0 b1 b2 b3 b4 b5 b6 b7 b8 hbx hs2
  obtain ⟨b0, -⟩ := Hd.ent9 HA2.out
  go_wp2_with fail
  refine (num_int x.term _ (by omega) (by omega)).mono ?_
  rintro e w3 ⟨v3, rfl, hown3, -, hbx⟩
  have hs3 := HS2.out.below hbx (Nat.le_refl _)
  have HB3 := Lib.hid (HB2.out.trans (hbx.mono HB2.out.size))
  have hz := HB3.out.size
  have hz2 := HB2.out.size
  have hz3 := hbx.size
  have hlb : (numI x.term).length + (encL x.cmd).length ≤ 140737488355328 := by omega
  clear hbx b0
  go_wp2_with (first
    | (at_builtin; refine app8q rfl _ _ rfl w2.heap.size _ _ rfl hown3 _ _ rfl hs3 hlb hz3 ?_; intro v4 w4 hown4 hg4 hl4; have HO4 := Lib.hid hown4; have HB4 := Lib.hid (HB3.out.trans ((below_grown hown3 hz3 hg4).mono hz2)); clear hown4 hg4 hl4 hown3 hs3))
  go_ret
  have q : Own w4 w.heap.size v4 (Rk.entB x) := HO4.out.mono hz2
  exact ⟨_, rfl, q, q.sl HL.out.2, HB4.out⟩

/-- while the entries' bytes are written -/
def WM (w : World) (cs : Array Value) (v : Value) (bs : List Int) (W : World) : Prop :=
  Own W w.heap.size v bs ∧ Below w.heap.size w W ∧ W.heap[w.heap.size]? = some (.cells cs 33 (0, 0))
theorem WM.call {w W W' : World} {cs : Array Value} {v : Value} {bs : List Int} (h : WM w cs v bs W) (hb : Below W.heap.size W W') : WM w cs v bs W' :=
  ⟨h.1.below hb (Nat.le_refl _), h.2.1.trans (hb.mono h.2.1.size), (hb.block _ (row_lt h.2.2)).trans h.2.2⟩
theorem WM.app {w W W' : World} {cs : Array Value} {v v' : Value} {bs bs' : List Int} (h : WM w cs v bs W) (own : Own W' w.heap.size v' bs') (hg : W.grownBy W' v.ownBlock) : WM w cs v' bs' W' :=
  ⟨own, h.2.1.trans (below_grown h.1 h.2.1.size hg), ByT.grown h.1 hg _ _ _ _ h.2.2 (by decide)⟩
set_option maxHeartbeats 16000000 in
theorem written_any (m : Mes) (f : Nat) (hf : f ≤ 6) (hfo : FOk m f) (v : Value) (w : World) (h : IsMsg w v m) :
    Calls Tryz.prog 52 #[v, .int .i64 f] w (GivesOct (fldB m f) w) := by
  have HLEN := Lib.hid (fld_len (IsMsg.wf h) hfo)
  have HBD := Lib.hid (numM_bd (IsMsg.wf h) f)
  obtain ⟨ae, ce, vn, vh, vl, rfl, hlc, hcm, hx⟩ := BoxM.of h
  obtain ⟨q0, q1, q2, q3, q4, q5, q6, q7, q8, q9, q10, -⟩ := cells16 hx.2.1
  have hr := hx.2.1
  have ra := shot_range hx.2.1
  have HX := Lib.hid hx
  have HSH : Hid (IsShot (w.alloc (.cells (mArr m (.slice ae m.ents.length ce) vn vh vl) 33)) (.agg (sArr m.shot vn vh vl)) m.shot) := Lib.hid (IsMsg_shot hx.2.2.1)
  have hG : IsLog w (.slice ae m.ents.length ce) m.ents := IsMsg_log h
  clear hx h
  by_cases h4 : f = 4
  · subst h4
    obtain ⟨b, hb⟩ : ∃ b, m.flag = b := ⟨_, rfl⟩
    have HE : Hid (fldB m 4 = [if b then 1 else 0]) := Lib.hid (by rw [← hb]; rfl)
    rw [hb] at q7
    clear hb
    cases b
    · go_enter Tryz.func52, Tryz.ntmps52
      go_wp2
      go_ret
      have q : Own ((w.alloc (.cells (mArr m (.slice ae m.ents.length ce) vn vh vl) 33)).alloc (.cells #[.int .u8 0] 5)) w.heap.size (.slice (some ⟨w.heap.size + 1, 0, none⟩) 1 1) (fldB m 4) := by
        rw [HE.out]; exact OwnK.newAt (k := .u8) (e := 5) _ (w.heap.size + 1) (by simp) _ [0] rfl rfl (by decide) (by simp)
      exact ⟨_, rfl, q, q.sl HLEN.out.2, HX.out.1.alloc (by simp) _⟩
    · go_enter Tryz.func52, Tryz.ntmps52
      go_wp2
      go_ret
      have q : Own ((w.alloc (.cells (mArr m (.slice ae m.ents.length ce) vn vh vl) 33)).alloc (.cells #[.int .u8 1] 5)) w.heap.size (.slice (some ⟨w.heap.size + 1, 0, none⟩) 1 1) (fldB m 4) := by
        rw [HE.out]; exact OwnK.newAt (k := .u8) (e := 5) _ (w.heap.size + 1) (by simp) _ [1] rfl rfl (by decide) (by simp)
      exact ⟨_, rfl, q, q.sl HLEN.out.2, HX.out.1.alloc (by simp) _⟩
  by_cases h5 : f = 5
  · subst h5
    obtain ⟨hl4, hch⟩ := hfo.1 rfl
    have HCH := Lib.hid hch
    have HE : Hid (fldB m 5 = numI (m.ents.length : Int) ++ m.ents.flatMap Rk.entB) := Lib.hid rfl
    have hln := numI_len (n := (m.ents.length : Int)) (by omega) (by omega)
    clear h4 hfo hf hch
    obtain ⟨rows, hrows, hents, hmap⟩ := hG
    have hrl : rows.length = m.ents.length := by rw [← hmap, List.length_map]
    have HENT := Lib.hid hents
    have HRL := Lib.hid hrl
    have HGET : Hid (∀ k (hk : k < rows.length), m.ents[k]? = some rows[k].1) := Lib.hid (fun k hk => by rw [← hmap, List.getElem?_map, List.getElem?_eq_getElem hk]; rfl)
    have HTK : Hid (∀ k (hk : k < rows.length), m.ents.take (k + 1) = m.ents.take k ++ [rows[k].1]) := Lib.hid (fun k hk => by rw [← hmap, ← List.map_take, ← List.map_take, List.take_succ_eq_append_getElem hk, List.map_append]; rfl)
    obtain ⟨a', cap', hv, hl1, hl2, hrc⟩ := hrows
    simp only [Value.slice.injEq] at hv
    obtain ⟨rfl, -, rfl⟩ := hv
    have HRC := Lib.hid hrc
    clear hrc hmap hents hl1 hl2 hrl
    go_enter Tryz.func52, Tryz.ntmps52
    go_wp2_with fail
    refine (num_int _ _ (by omega) (by omega)).mono ?_
    rintro e w1 ⟨v1, rfl, hown1, -, hb1⟩
    have HX1 := Lib.hid (HX.out.on hb1)
    have HBX := Lib.hid hb1
    have HW1 : Hid (WM w (mArr m (.slice ae m.ents.length ce) vn vh vl) v1 (numI (m.ents.length : Int) ++ (m.ents.take 0).flatMap Rk.entB) w1) := Lib.hid ⟨by rw [List.take_zero, List.flatMap_nil, List.append_nil]; exact hown1.mono (by simp), HX1.out.1, HX1.out.2.1⟩
    clear q0 q1 q2 q3 q4 q5 q6 q7 q8 q9 q10 hr ra hb1 hown1
    obtain ⟨q0, q1, q2, q3, q4, q5, q6, q7, q8, q9, q10, -⟩ := cells16 HX1.out.2.1
    go_wp2
    go_loopw [5, 27] (fun bv i wr => ∃ (k : Nat) (vb : Value), k ≤ m.ents.length ∧ i = .int .i64 k ∧ vb = bv ∧ Hid (WM w (mArr m (.slice ae m.ents.length ce) vn vh vl) vb (numI (m.ents.length : Int) ++ (m.ents.take k).flatMap Rk.entB) wr)) (fun _ i _ => m.ents.length - (intOf i).toNat)
    case atStart => exact ⟨0, _, Nat.zero_le _, rfl, rfl, HW1⟩
    case round =>
      clear q0 q1 q2 q3 q4 q5 q6 q7 q8 q9 q10
      obtain ⟨k, vb, hk, rfl, rfl, HM⟩ := hrel
      by_cases hlt2 : k < m.ents.length
      · have hlt3 : k < rows.length := by have := HRL.out; omega
        obtain ⟨b, off, rfl, hlt, hc⟩ := Ld.rows_open hlt3 HRC.out
        have hb := HM.out.2.1
        have hce := fun j u hu => (hb.cell (p := ⟨b, off + (k * 9 + j), none⟩) hlt).trans (hc k _ (Ld.rgetD hlt3) j u hu)
        have hes := HENT.out _ (List.getElem_mem hlt3)
        have HG := Lib.hid (HGET.out k hlt3)
        have HT := Lib.hid (HTK.out k hlt3)
        have hsl := hes.1.below hb (Nat.le_refl _)
        have hwf := hes.2
        clear hc hb hes
        generalize rows[k] = r at *
        obtain ⟨x, vr⟩ := r
        simp only [] at HG HT hsl hwf
        obtain ⟨ar, cr, hvr, -⟩ := id hsl
        subst hvr
        obtain ⟨e0, e1, e2, e3, e4, e5, e6, e7, e8⟩ := Hd.ent_cells hce
        have HCK := Lib.hid (HCH.out x (List.mem_of_getElem? HG.out)).2
        have hb4 : Below wr.heap.size wr (wr.alloc (.cells (entC (x, .slice ar x.cmd.nodes.length cr)).toArray 88)) := (Below.refl _ _).alloc (Nat.le_refl _) _
        have HEN4 : Hid (Hd.IsEnt (wr.alloc (.cells (entC (x, .slice ar x.cmd.nodes.length cr)).toArray 88)) (.agg (entC (x, .slice ar x.cmd.nodes.length cr)).toArray) x) := Lib.hid ⟨_, rfl, hsl.below hb4 (Nat.le_refl _), hwf⟩
        have HM4 := Lib.hid (HM.out.call hb4)
        have hl1 := (ents_len (m.ents.take k) (fun y hy => HCH.out y (List.mem_of_mem_take hy))).1
        rw [List.length_take, Nat.min_eq_left hk] at hl1
        have hl2 := (ent_len hwf HCK.out).1
        have HLB : Hid ((numI (m.ents.length : Int) ++ (m.ents.take k).flatMap Rk.entB).length + (Rk.entB x).length ≤ 140737488355328) := Lib.hid (by rw [List.length_append]; omega)
        have HEQ : Hid (numI (m.ents.length : Int) ++ (m.ents.take (k + 1)).flatMap Rk.entB = (numI (m.ents.length : Int) ++ (m.ents.take k).flatMap Rk.entB) ++ Rk.entB x) := Lib.hid (by rw [HT.out, List.flatMap_append, List.append_assoc]; simp)
        clear hce hsl hwf hb4 hl1 hl2
        go_wp2_with fail
        refine (entenc_c x _ _ HEN4.out HCK.out).mono ?_
        rintro e w5 ⟨v5, rfl, hown5, hs5, hb5⟩
        have HM5 := Lib.hid (HM4.out.call hb5)
        have HS5 := Lib.hid hs5
        clear hown5 hs5 hb5 e0 e1 e2 e3 e4 e5 e6 e7 e8
        go_wp2_with (at_builtin; refine app8q rfl _ _ rfl w.heap.size _ _ rfl HM5.out.1 _ _ rfl HS5.out HLB.out HM5.out.2.1.size ?_; intro v6 w6 hown6 hg6 hl6)
        have HM6 := Lib.hid (HM5.out.app hown6 hg6)
        clear hown6 hg6 hl6
        go_roundw
        case rel => exact ⟨k + 1, _, by omega, by go_num, rfl, Lib.hid (by rw [HEQ.out]; exact HM6.out)⟩
        case measure => simp [intOf]; omega
      · obtain rfl : k = m.ents.length := by omega
        have HFIN : Hid (Own wr w.heap.size vb (fldB m 5)) := Lib.hid (by have q := HM.out.1; rw [List.take_length, ← HE.out] at q; exact q)
        go_wp2
        go_ret
        exact ⟨_, rfl, HFIN.out, HFIN.out.sl HLEN.out.2, HM.out.2.1⟩
  by_cases h6 : f = 6
  · subst h6
    have HE : Hid (fldB m 6 = shotB m.shot) := Lib.hid rfl
    have HOK := Lib.hid (hfo.2 rfl)
    clear h4 h5 hfo hf
    go_enter Tryz.func52, Tryz.ntmps52
    go_wp2_with (refine wpList_load_mid rfl 31 (.tmp 40) rfl w.heap.size 9 rfl (sArr m.shot vn vh vl).toList _ ra Tryz.underlying31 rfl (by kernel_rfl) ?_)
    refine (Sc.enc_any m.shot _ _ HSH.out).mono ?_
    rintro e w1 ⟨v1, z, bs, rfl, hz, hown, hb1⟩
    obtain ⟨rfl, rfl⟩ : z = 0 ∧ bs = shotB m.shot := by
      rcases hz with ⟨a, -, b⟩ | ⟨-, b, -⟩
      · exact ⟨a, b⟩
      · exact absurd HOK.out b
    have HX1 := Lib.hid (HX.out.on hb1)
    have HO : Hid (Own w1 w.heap.size v1 (fldB m 6)) := Lib.hid (by rw [HE.out]; exact hown.mono (by simp))
    clear hz hown hb1 q0 q1 q2 q3 q4 q5 q6 q7 q8 q9 q10 hr ra
    go_wp2
    go_ret
    exact ⟨_, rfl, HO.out, HO.out.sl HLEN.out.2, HX1.out.1⟩
  have HE : Hid (fldB m f = numI (numM m f)) := Lib.hid (by unfold fldB; rw [if_neg h4, if_neg h5, if_neg h6])
  have hf3 : f ≤ 3 := by omega
  have g4 : (((f : Nat) : Int) == 4) = false := beq_eq_false_iff_ne.2 (by omega)
  have g5 : (((f : Nat) : Int) == 5) = false := beq_eq_false_iff_ne.2 (by omega)
  have g6 : (((f : Nat) : Int) == 6) = false := beq_eq_false_iff_ne.2 (by omega)
  have HF3 := Lib.hid hf3
  clear h4 h5 h6 hfo hf hf3
  go_enter Tryz.func52, Tryz.ntmps52
  go_wp2_with (refine wpList_load_row rfl 33 (.tmp 2) rfl w.heap.size rfl 33 (mArr m (.slice ae m.ents.length ce) vn vh vl) (0, 0) _ hr Tryz.underlying33 rfl (by kernel_rfl) ?_)
  refine (number_any m f HF3.out _ _ HX.out.2.2.1).mono ?_
  rintro e w1 ⟨rfl, hb1⟩
  have HX1 := Lib.hid (HX.out.on hb1)
  clear hb1 q0 q1 q2 q3 q4 q5 q6 q7 q8 q9 q10 hr ra
  go_wp2_with fail
  refine (num_int _ _ HBD.out.1 HBD.out.2).mono ?_
  rintro e w2 ⟨v2, rfl, hown2, -, hb2⟩
  have HX2 := Lib.hid (HX1.out.on hb2)
  have HO : Hid (Own w2 w.heap.size v2 (fldB m f)) := Lib.hid (by rw [HE.out]; exact hown2.mono HX1.out.1.size)
  clear hown2 hb2
  go_wp2
  go_ret
  exact ⟨_, rfl, HO.out, HO.out.sl HLEN.out.2, HX2.out.1⟩
/-- what Encode answers -/
def EncM (m : Mes) (w : World) (e : Ending) (w' : World) : Prop := ∃ v z bs, e = .returned (.tuple #[v, .int .i64 z]) ∧ ((z = 0 ∧ msgOk m ∧ bs = Fr.sealL (msgB m)) ∨ (z = 80 ∧ ¬ msgOk m ∧ bs = [])) ∧ Own w' w.heap.size v bs ∧ Sl .u8 w' v bs ∧ Below w.heap.size w w'
set_option maxHeartbeats 16000000 in
theorem enc_any (m : Mes) (v : Value) (w : World) (h : IsMsg w v m) (ht : Oc.Tab w) : Calls Tryz.prog 17 #[v] w (EncM m w) := by
  have HTB := Lib.hid ht
  have hwf := (IsMsg.wf h)
  obtain ⟨ae, ce, vn, vh, vl, rfl, hlc, hcm, hx⟩ := BoxM.of h
  have hr := hx.2.1
  have HX := Lib.hid hx
  have HIM := Lib.hid h
  clear hx h ht
  by_cases hok : msgOk m
  rotate_left
  · have HNO := Lib.hid hok
    clear hok
    go_enter Tryz.func17, Tryz.ntmps17
    go_wp2_with (refine wpList_load_row rfl 33 (.tmp 1) rfl w.heap.size rfl 33 (mArr m (.slice ae m.ents.length ce) vn vh vl) (0, 0) _ hr Tryz.underlying33 rfl (by kernel_rfl) ?_)
    refine (check_any m _ _ HX.out.2.2.1).mono ?_
    rintro e w1 ⟨z, rfl, hz, hb1⟩
    obtain rfl : z = 80 := by
      rcases hz with ⟨-, a⟩ | ⟨a, -⟩
      · exact absurd a HNO.out
      · exact a
    have HX1 := Lib.hid (HX.out.on hb1)
    clear hz hb1 hr
    go_wp2
    go_ret2
    exact ⟨_, 80, [], rfl, .inr ⟨rfl, HNO.out, rfl⟩, Own.nil _ _, (Own.nil w1 0).sl (by simp), HX1.out.1⟩
  have HOK := Lib.hid hok
  have HML := Lib.hid (msg_len HIM.out hok)
  have HFO := Lib.hid (fun f hf => fok_of HIM.out hok (f := f) hf)
  obtain ⟨hk1, hk2⟩ : 1 ≤ m.kind ∧ m.kind ≤ 6 := hok.1
  obtain ⟨hs1, hs2⟩ : 1 ≤ m.src ∧ m.src ≤ 7 := hok.2.1
  obtain ⟨hd1, hd2⟩ : 1 ≤ m.dst ∧ m.dst ≤ 7 := hok.2.2.1
  have HFL := Lib.hid (fieldsM_len m.kind)
  have hf5 : (fieldsM m.kind).length ≤ 5 := HFL.out
  have HFW := Lib.hid (fieldsM_wf m.kind)
  have HWF := Lib.hid hwf
  have HKM : Hid (kindM m.kind) := Lib.hid hok.1
  clear hok hwf
  go_enter Tryz.func17, Tryz.ntmps17
  go_wp2_with (refine wpList_load_row rfl 33 (.tmp 1) rfl w.heap.size rfl 33 (mArr m (.slice ae m.ents.length ce) vn vh vl) (0, 0) _ hr Tryz.underlying33 rfl (by kernel_rfl) ?_)
  refine (check_any m _ _ HX.out.2.2.1).mono ?_
  rintro e w1 ⟨z, rfl, hz, hb1⟩
  obtain rfl : z = 0 := by
    rcases hz with ⟨a, -⟩ | ⟨-, a⟩
    · exact a
    · exact absurd HOK.out a
  have HX1 := Lib.hid (HX.out.on hb1)
  clear hz hb1 hr
  obtain ⟨q0, q1, q2, q3, q4, q5, q6, q7, q8, q9, q10, -⟩ := cells16 HX1.out.2.1
  have hb2 : Below w1.heap.size w1 (w1.alloc (.cells #[.int .u8 m.kind, .int .u8 m.src, .int .u8 m.dst] 5)) := (Below.refl _ _).alloc (Nat.le_refl _) _
  have HX2 := Lib.hid (HX1.out.on hb2)
  have HO2 : Hid (Own (w1.alloc (.cells #[.int .u8 m.kind, .int .u8 m.src, .int .u8 m.dst] 5)) w.heap.size (.slice (some ⟨w1.heap.size, 0, none⟩) 3 3) ([m.kind, m.src, m.dst] ++ fldsB m ((fieldsM m.kind).take 0))) := Lib.hid (by
    have q := OwnK.new (k := .u8) (e := 5) (B := w.heap.size) w1 #[.int .u8 m.kind, .int .u8 m.src, .int .u8 m.dst] [m.kind, m.src, m.dst] rfl (n := 3) rfl (by decide) HX1.out.1.size
    exact q)
  obtain ⟨r0, -⟩ := cells16 HX2.out.2.1
  clear hb2
  go_wp2_with fail
  refine (fields_own m.kind _ HKM.out).mono ?_
  rintro e w3 ⟨⟨fb, fo, fs⟩, fc, rfl, hown3, hb3⟩
  have HX3 := Lib.hid (HX2.out.on hb3)
  have HE3 : Hid (EM w (mArr m (.slice ae m.ents.length ce) vn vh vl) (.slice (some ⟨fb, fo, fs⟩) (fieldsM m.kind).length fc) (fieldsM m.kind) (.slice (some ⟨w1.heap.size, 0, none⟩) 3 3) ([m.kind, m.src, m.dst] ++ fldsB m ((fieldsM m.kind).take 0)) w3) :=
    Lib.hid ⟨HO2.out.below hb3 (Nat.le_refl _), HX3.out.1, HX3.out.2.1, hown3.lower HX2.out.1.size⟩
  clear hown3 hb3 q0 q1 q2 q3 q4 q5 q6 q7 q8 q9 q10 r0
  go_wp2
  go_loopw [5, 27] (fun bv i wr => ∃ (k : Nat) (vb : Value), k ≤ (fieldsM m.kind).length ∧ i = .int .i64 k ∧ vb = bv ∧ Hid (EM w (mArr m (.slice ae m.ents.length ce) vn vh vl) (.slice (some ⟨fb, fo, fs⟩) (fieldsM m.kind).length fc) (fieldsM m.kind) vb ([m.kind, m.src, m.dst] ++ fldsB m ((fieldsM m.kind).take k)) wr)) (fun _ i _ => (fieldsM m.kind).length - (intOf i).toNat)
  case atStart => exact ⟨0, _, Nat.zero_le _, rfl, rfl, HE3⟩
  case round =>
    obtain ⟨k, vb, hk, rfl, rfl, HM⟩ := hrel
    have hr := HM.out.2.2.1
    have HIMr := Lib.hid (HIM.out.below HM.out.2.1 (Nat.le_refl _))
    have hsf : Sl .i64 wr (.slice (some ⟨fb, fo, fs⟩) (fieldsM m.kind).length fc) (fieldsM m.kind) := HM.out.2.2.2.sl HFW.out
    by_cases hlt2 : k < (fieldsM m.kind).length
    · obtain ⟨b, off, hbo, -, hcx⟩ := Sl.at hsf (i := k) hlt2
      cases hbo
      obtain ⟨hf0, hf6, hfo⟩ := HFO.out _ (Nd.mem_get hlt2)
      have HT := Lib.hid (Nd.take_get hlt2)
      have hl1 := (flds_len HWF.out ((fieldsM m.kind).take k) (fun f hf => (HFO.out f (List.mem_of_mem_take hf)).2.2)).1
      rw [List.length_take, Nat.min_eq_left hk] at hl1
      have hl2 := (fld_len HWF.out hfo).1
      have hl3 := HFL.out
      generalize (fieldsM m.kind).getD k 0 = z at *
      obtain ⟨f, rfl⟩ : ∃ f : Nat, z = f := ⟨z.toNat, by omega⟩
      have hfi : ((f : Nat) : Int).toNat = f := by omega
      rw [hfi] at hf6 hfo hl2
      have HLB : Hid (([m.kind, m.src, m.dst] ++ fldsB m ((fieldsM m.kind).take k)).length + (fldB m f).length ≤ 140737488355328) := Lib.hid (by
        rw [List.length_append]
        have : (fldB m f).length ≤ 3500 := by split at hl2 <;> omega
        simp only [List.length_cons, List.length_nil]
        omega)
      have HEQ : Hid ([m.kind, m.src, m.dst] ++ fldsB m ((fieldsM m.kind).take (k + 1)) = ([m.kind, m.src, m.dst] ++ fldsB m ((fieldsM m.kind).take k)) ++ fldB m f) := Lib.hid (by rw [HT.out, fldsB_snoc, List.append_assoc]; rfl)
      have HF6 := Lib.hid hf6
      have HFK := Lib.hid hfo
      clear hl1 hl2 hl3 hf6 hfo hsf hf0 hfi
      go_wp2_with (refine wpList_load_row rfl 33 (.tmp 1) rfl w.heap.size rfl 33 (mArr m (.slice ae m.ents.length ce) vn vh vl) (0, 0) _ hr Tryz.underlying33 rfl (by kernel_rfl) ?_)
      refine (written_any m f HF6.out HFK.out _ _ HIMr.out).mono ?_
      rintro e w5 ⟨v5, rfl, -, hs5, hb5⟩
      have HM5 := Lib.hid (HM.out.call hb5)
      have HS5 := Lib.hid hs5
      clear hs5 hb5 hr hcx
      go_wp2_with (at_builtin; refine app8q rfl _ _ rfl w.heap.size _ _ rfl HM5.out.1 _ _ rfl HS5.out HLB.out HM5.out.2.1.size ?_; intro v6 w6 hown6 hg6 hl6)
      have HM6 := Lib.hid (HM5.out.app hown6 hg6)
      clear hown6 hg6 hl6
      go_roundw
      case rel => exact ⟨k + 1, _, by omega, by go_num, rfl, Lib.hid (by rw [HEQ.out]; exact HM6.out)⟩
      case measure => simp [intOf]; omega
    · obtain rfl : k = (fieldsM m.kind).length := by omega
      have HOW : Hid (Own wr w.heap.size vb (msgB m)) := Lib.hid (by have q := HM.out.1; rw [List.take_length] at q; exact q)
      have HTBr := Lib.hid (HTB.out.below HM.out.2.1 (Nat.le_refl _))
      clear hr hsf
      go_wp2_with fail
      refine (Fr.seal_any _ _ _ (HOW.out.sl HML.out.2) HTBr.out HML.out.1).mono ?_
      rintro e w5 ⟨v5, rfl, hown5, hs5, hb5⟩
      have HB5 := Lib.hid (HM.out.2.1.trans (hb5.mono HM.out.2.1.size))
      have HO5 := Lib.hid (hown5.mono HM.out.2.1.size)
      have HS5 := Lib.hid hs5
      clear hown5 hs5 hb5
      go_wp2
      go_ret2
      exact ⟨_, 0, _, rfl, .inl ⟨rfl, HOK.out, rfl⟩, HO5.out, HS5.out, HB5.out⟩
end Ms
end Go.Proofs.YtlfaiemebfkajaaGreatDoor
namespace Go.Proofs.YtlfaiemebfkajaaGreatDoor
open Go.ChangeShapes Go.WideShapes Go.ChangeAt Go.RowKit Go.Deep
set_option linter.unusedVariables false
set_option maxRecDepth 100000
namespace Ms
open Nv Cm Sc
abbrev exV : Mes := ⟨2, 1, 2, 5, 0, 0, 0, true, [], ⟨0, 0, [], ⟨0, 0, [], []⟩⟩⟩
theorem exV_ok : msgOk exV := by
  refine ⟨⟨by decide, by decide⟩, ⟨by decide, by decide⟩, ⟨by decide, by decide⟩, by decide, fun f hf hn => ?_, fun h => absurd h (by decide), fun _ => by decide, fun h => absurd h (by decide), fun h => absurd h (by decide), fun h => absurd h (by decide)⟩
  rcases (show f = 0 ∨ f = 1 ∨ f = 2 ∨ f = 3 ∨ f = 4 ∨ f = 5 ∨ f = 6 by omega) with rfl | rfl | rfl | rfl | rfl | rfl | rfl
  · exact absurd (by decide) hn
  · exact (rfl : (0 : Int) = 0)
  · exact (rfl : (0 : Int) = 0)
  · exact (rfl : (0 : Int) = 0)
  · exact absurd (by decide) hn
  · exact (rfl : (0 : Nat) = 0)
  · exact (⟨rfl, rfl, rfl, rfl, rfl, rfl, rfl⟩ : zSho exV.shot)
theorem exV_enc : msgB exV = [2, 1, 2, 1, 5, 1] := by
  have e : msgB exV = [2, 1, 2] ++ (numI 5 ++ ([1] ++ [])) := rfl
  rw [e, numI_one (n := 5) (by omega) (by omega)]
  rfl
theorem exV_msg (w : World) : IsMsg w (.agg (mArr exV (.slice none 0 0) (.slice none 0 0) (.slice none 0 0) (.slice none 0 0))) exV :=
  ⟨_, _, _, _, rfl, ⟨[], SlR.nil _, fun r hr => by simp at hr, rfl⟩, Cm.sl_nil _ _, SlR.nil _, SlR.nil _, by decide, by decide, by decide, by decide, by decide, by decide, by decide, by decide, by decide, by decide, by decide, by simp, by simp⟩
abbrev zMA : Array Value := #[.int .i64 0, .int .i64 0, .int .i64 0, .int .u64 0, .int .u64 0, .int .u64 0, .int .u64 0, .bool false, .slice none 0 0, .int .u64 0, .int .u64 0, .slice none 0 0, .int .i64 0, .int .u64 0, .slice none 0 0, .slice none 0 0]
theorem vote_any (w : World) : Calls Tryz.prog 18 #[] w fun e w' => e = .returned (.agg (mArr exV (.slice none 0 0) (.slice none 0 0) (.slice none 0 0) (.slice none 0 0))) ∧ Below w.heap.size w w' := by
  have hst : (w.alloc (.cells zMA 33)).heap[w.heap.size]? = some (.cells zMA 33 (0, 0)) := heap_alloc_new _ _
  have hb : Below w.heap.size w (w.alloc (.cells zMA 33)) := (Below.refl _ _).alloc (Nat.le_refl _) _
  go_enter Tryz.func18, Tryz.ntmps18
  go_wp2_with (refine wpList_store_row rfl 33 (.tmp 0) (.tmp 1) rfl w.heap.size (mArr exV (.slice none 0 0) (.slice none 0 0) (.slice none 0 0) (.slice none 0 0)) rfl rfl 33 _ hst (by kernel_rfl) rfl (by kernel_rfl) ?_)
  refine bodyPost_ret (v := .agg (mArr exV (.slice none 0 0) (.slice none 0 0) (.slice none 0 0) (.slice none 0 0))) (results_cell_row rfl _ _ w.heap.size 33 _ (0, 0) _ rfl (setRow_heap _ _ _ _ _ _ hst) Tryz.underlying33 rfl (by kernel_rfl)) rfl ?_
  exact ⟨rfl, Ld.below_row hb (Nat.le_refl _) _⟩
theorem seal_mid {zs : List Int} : ((Fr.sealL zs).drop 4).take zs.length = zs := by
  unfold Fr.sealL
  rw [List.append_assoc, List.drop_append_of_le_length (by rw [Fr.hd_len]; exact Nat.le_refl _)]
  rw [show (Fr.hd zs.length).drop 4 = [] from rfl, List.nil_append, List.take_append_of_le_length (Nat.le_refl _), List.take_length]
theorem own_slice {w : World} {B : Nat} {v : Value} {zs : List Int} (h : Own w B v zs) (h0 : 0 < zs.length) : ∃ g cap, v = .slice (some ⟨g, 0, none⟩) zs.length cap ∧ zs.length ≤ cap := by
  rcases h.2 with ⟨_, h2⟩ | ⟨g, cap, cur, rfl, _, _, h3, _⟩
  · omega
  · exact ⟨g, cap, rfl, h3⟩
set_option maxHeartbeats 4000000 in
theorem live_any (w : World) (ht : Oc.Tab w) : Calls Tryz.prog 7 #[] w fun e w' => e = .returned (.bool true) ∧ Below w.heap.size w w' := by
  have HT := Lib.hid ht
  clear ht
  have k1 : ((strOfNums [2, 1, 2, 1, 5, 1]).toList == [2, 1, 2, 1, 5, 1]) = true := by kernel_rfl
  go_enter Tryz.func7, Tryz.ntmps7
  go_wp2_with fail
  refine (vote_any _).mono ?_
  rintro e w1 ⟨rfl, hb1⟩
  have HB1 := Lib.hid hb1
  have HT1 := Lib.hid (HT.out.below hb1 (Nat.le_refl _))
  clear hb1
  go_wp2_with fail
  refine (enc_any exV _ _ (exV_msg _) HT1.out).mono ?_
  rintro e w2 ⟨v2, z, bs, rfl, hz, ho, hs, hb2⟩
  obtain ⟨rfl, rfl⟩ : z = 0 ∧ bs = Fr.sealL (msgB exV) := by
    rcases hz with ⟨h1, -, h2⟩ | ⟨-, h, -⟩
    · exact ⟨h1, h2⟩
    · exact absurd exV_ok h
  have HB2 := Lib.hid (HB1.out.trans (hb2.mono HB1.out.size))
  have hl : (Fr.sealL (msgB exV)).length = 14 := by rw [Fr.seal_len, exV_enc]; rfl
  obtain ⟨g, cap, rfl, hcap⟩ := own_slice ho (by rw [hl]; decide)
  have hsub := Fr.sub_plain hs 4 6 (by rw [hl]; decide)
  rw [show ((Fr.sealL (msgB exV)).drop 4).take 6 = [2, 1, 2, 1, 5, 1] from by
    have q := seal_mid (zs := msgB exV)
    rw [exV_enc] at q ⊢
    exact q, Nat.zero_add] at hsub
  have hq1 := run_str hsub
  rw [hl] at hcap ⊢
  clear hz ho hs hsub hb2 hl
  go_wp2
  go_ret
  exact ⟨rfl, HB2.out⟩
end Ms
end Go.Proofs.YtlfaiemebfkajaaGreatDoor
