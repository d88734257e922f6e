/- The document's own Encode of a message. No condition. -/
import Derived.Test.YtbdjihmgdkailaaDoorMxB
import Derived.Test.YtbdjihmgdkailaaDoorMsW
import Derived.Test.YtbdjihmgdkailaaDoorEcC
import Derived.Test.YtbdjihmgdkailaaDoorCeB
namespace Go.Proofs.YtbdjihmgdkailaaDoor
open Go.ChangeShapes Go.WideShapes Go.ChangeAt Go.RowKit Go.Deep
set_option linter.unusedVariables false
set_option maxRecDepth 100000
namespace Ms
open Nv Cm Sc
def letB (f : Int) : Int := if f = 0 then 116 else if f = 1 then 105 else if f = 2 then 108 else if f = 3 then 99 else if f = 4 then 102 else if f = 5 then 101 else 115
theorem sbs_fieldT {k : Int} (h : kindM k) : Cm.sbs (fieldT k) = (fieldsM k).map letB := by
  unfold kindM at h
  rcases (show k = 1 ∨ k = 2 ∨ k = 3 ∨ k = 4 ∨ k = 5 ∨ k = 6 by omega) with rfl | rfl | rfl | rfl | rfl | rfl <;> decide
/-- what is known while the document writes a message's bytes -/
def RM (w : World) (cs : Array Value) (vf : Value) (fs : List Int) (v : Value) (bs : List Int) (W : World) : Prop :=
  Own W w.heap.size v bs ∧ Below w.heap.size w W ∧ W.heap[w.heap.size]? = some (.cells cs 32 (0, 0)) ∧ Sl .u8 W vf fs ∧ Far W v vf fs
theorem RM.call {w W W' : World} {cs : Array Value} {vf : Value} {fs : List Int} {v : Value} {bs : List Int} (h : RM w cs vf fs v bs W) (hb : Below W.heap.size W W') : RM w cs vf fs v bs W' :=
  ⟨h.1.below hb (Nat.le_refl _), h.2.1.trans (hb.mono h.2.1.size), (hb.block _ (row_lt h.2.2.1)).trans h.2.2.1, h.2.2.2.1.below hb (Nat.le_refl _), h.2.2.2.2.below hb⟩
theorem RM.app {w W W' : World} {cs : Array Value} {vf : Value} {fs : List Int} {v v' : Value} {bs bs' : List Int} (h : RM w cs vf fs v bs W) (own : Own W' w.heap.size v' bs') (hg : W.grownBy W' v.ownBlock) (hl : Lies W v v') : RM w cs vf fs v' bs' W' :=
  ⟨own, h.2.1.trans (below_grown h.1 h.2.1.size hg), ByT.grown h.1 hg _ _ _ _ h.2.2.1 (by decide), h.2.2.2.1.far h.2.2.2.2 hg, h.2.2.2.2.step hg hl⟩
theorem rcmdenc (c : Cmd) (v : Value) (w : World) (h : IsCmd w v c) (hc : chkC c = true) : Calls Tryd.prog 19 #[v] w (Bytes (encL c) w) := by
  obtain ⟨vn, _, _, hw⟩ := id h
  exact rencode_yes c v w h hc (rchk_eq hw)
set_option maxHeartbeats 32000000 in
theorem renc_any (m : Mes) (v : Value) (w : World) (h : IsMsg w v m) : Calls Tryd.prog 8 #[v] w (EncM m w) := by
  have hwf := IsMsg.wf h
  obtain ⟨ae, ce, vn, vh, vl, rfl, hlc, hcm, hx⟩ := BoxM.of h
  have hr := hx.2.1
  have HX := Lib.hid hx
  have HIM := Lib.hid h
  have hG : IsLog w (.slice ae m.ents.length ce) m.ents := IsMsg_log h
  clear hx h
  by_cases hok : msgOk m
  rotate_left
  · have HNO := Lib.hid hok
    clear hok
    go_enter Tryd.func8, Tryd.ntmps8
    go_wp2_with (refine wpList_load_row rfl 32 (.tmp 1) rfl w.heap.size rfl 32 (mArr m (.slice ae m.ents.length ce) vn vh vl) (0, 0) _ hr Tryd.underlying32 rfl (by kernel_rfl) ?_)
    refine (rcheck_any m _ _ HX.out.2.2.1).mono ?_
    rintro e w1 ⟨z, rfl, hz, hb1⟩
    obtain rfl : z = 80 := by
      rcases hz with ⟨-, a⟩ | ⟨a, -⟩
      · exact absurd a HNO.out
      · exact a
    have HX1 := Lib.hid (HX.out.on hb1)
    clear hz hb1 hr
    go_wp2
    go_ret2
    exact ⟨_, 80, [], rfl, .inr ⟨rfl, HNO.out, rfl⟩, Own.nil _ _, (Own.nil w1 0).sl (by simp), HX1.out.1⟩
  have HOK := Lib.hid hok
  have HML := Lib.hid (msg_len HIM.out hok)
  have HFO := Lib.hid (fun f hf => fok_of HIM.out hok (f := f) hf)
  obtain ⟨hk1, hk2⟩ : 1 ≤ m.kind ∧ m.kind ≤ 6 := hok.1
  obtain ⟨hs1, hs2⟩ : 1 ≤ m.src ∧ m.src ≤ 7 := hok.2.1
  obtain ⟨hd1, hd2⟩ : 1 ≤ m.dst ∧ m.dst ≤ 7 := hok.2.2.1
  have HFL := Lib.hid (fieldsM_len m.kind)
  have HWF := Lib.hid hwf
  have HSB := Lib.hid (sbs_fieldT hok.1)
  have hfz : (fieldT m.kind).size = (fieldsM m.kind).length := by rw [← sbs_length, HSB.out, List.length_map]
  have hf5 : (fieldsM m.kind).length ≤ 5 := HFL.out
  have HBD := Lib.hid (fun f => numM_bd hwf f)
  obtain ⟨rows, hrows, hents, hmap⟩ := hG
  have hrl : rows.length = m.ents.length := by rw [← hmap, List.length_map]
  have HENT := Lib.hid hents
  have HRL := Lib.hid hrl
  have HGET : Hid (∀ k (hk : k < rows.length), m.ents[k]? = some rows[k].1) := Lib.hid (fun k hk => by rw [← hmap, List.getElem?_map, List.getElem?_eq_getElem hk]; rfl)
  have HTK : Hid (∀ k (hk : k < rows.length), m.ents.take (k + 1) = m.ents.take k ++ [rows[k].1]) := Lib.hid (fun k hk => by rw [← hmap, ← List.map_take, ← List.map_take, List.take_succ_eq_append_getElem hk, List.map_append]; rfl)
  obtain ⟨a', cap', hv, hl1, hl2, hrc⟩ := hrows
  simp only [Value.slice.injEq] at hv
  obtain ⟨rfl, -, rfl⟩ := hv
  have HRC := Lib.hid hrc
  clear hrc hmap hents hl1 hl2 hrl hok hwf
  go_enter Tryd.func8, Tryd.ntmps8
  go_wp2_with (refine wpList_load_row rfl 32 (.tmp 1) rfl w.heap.size rfl 32 (mArr m (.slice ae m.ents.length ce) vn vh vl) (0, 0) _ hr Tryd.underlying32 rfl (by kernel_rfl) ?_)
  refine (rcheck_any m _ _ HX.out.2.2.1).mono ?_
  rintro e w1 ⟨z, rfl, hz, hb1⟩
  obtain rfl : z = 0 := by
    rcases hz with ⟨a, -⟩ | ⟨-, a⟩
    · exact a
    · exact absurd HOK.out a
  have HX1 := Lib.hid (HX.out.on hb1)
  clear hz hb1 hr
  obtain ⟨q0, q1, q2, q3, q4, q5, q6, q7, q8, q9, q10, -⟩ := cells16 HX1.out.2.1
  have hb2 : Below w1.heap.size w1 (w1.alloc (.cells #[.int .u8 m.kind, .int .u8 m.src, .int .u8 m.dst] 5)) := (Below.refl _ _).alloc (Nat.le_refl _) _
  have HX2 := Lib.hid (HX1.out.on hb2)
  have HO2 : Hid (Own (w1.alloc (.cells #[.int .u8 m.kind, .int .u8 m.src, .int .u8 m.dst] 5)) w.heap.size (.slice (some ⟨w1.heap.size, 0, none⟩) 3 3) ([m.kind, m.src, m.dst] ++ fldsB m ((fieldsM m.kind).take 0))) := Lib.hid (by
    have q := OwnK.new (k := .u8) (e := 5) (B := w.heap.size) w1 #[.int .u8 m.kind, .int .u8 m.src, .int .u8 m.dst] [m.kind, m.src, m.dst] rfl (n := 3) rfl (by decide) HX1.out.1.size
    exact q)
  obtain ⟨r0, -⟩ := cells16 HX2.out.2.1
  obtain ⟨cap, w4, hq, hs4, hb4, hl4⟩ := run_bytes (w1.alloc (.cells #[.int .u8 m.kind, .int .u8 m.src, .int .u8 m.dst] 5)) (fieldT m.kind) (by unfold maxLen; omega)
  rw [HSB.out] at hs4
  rw [hfz] at hq hs4
  have HX4 := Lib.hid (HX2.out.on hb4)
  have HR4 : Hid (RM w (mArr m (.slice ae m.ents.length ce) vn vh vl) (.slice (some ⟨(w1.alloc (.cells #[.int .u8 m.kind, .int .u8 m.src, .int .u8 m.dst] 5)).heap.size, 0, none⟩) (fieldsM m.kind).length cap) ((fieldsM m.kind).map letB) (.slice (some ⟨w1.heap.size, 0, none⟩) 3 3) ([m.kind, m.src, m.dst] ++ fldsB m ((fieldsM m.kind).take 0)) w4) :=
    Lib.hid ⟨HO2.out.below hb4 (Nat.le_refl _), HX4.out.1, HX4.out.2.1, hs4, .inr ⟨_, rfl, hl4, fun h => by simp [Value.ownBlock] at h⟩⟩
  obtain ⟨fg, hfg⟩ : ∃ g, (w1.alloc (.cells #[.int .u8 m.kind, .int .u8 m.src, .int .u8 m.dst] 5)).heap.size = g := ⟨_, rfl⟩
  have hfg2 : w1.heap.size + 1 = fg := by rw [← hfg]; simp
  rw [hfg] at hq HR4
  clear hs4 hb4 hl4 hb2 hfg
  go_wp2_with (go_at_call 17; refine (rfields_any _ _).mono ?_; rintro e w2 ⟨rfl, rfl⟩)
  clear hq hfg2 q0 q1 q2 q3 q4 q5 q6 q7 q8 q9 q10 r0
  go_loopw [5, 32] (fun bv i wr => ∃ (k : Nat) (vb : Value), k ≤ (fieldsM m.kind).length ∧ i = .int .i64 k ∧ vb = bv ∧ Hid (RM w (mArr m (.slice ae m.ents.length ce) vn vh vl) (.slice (some ⟨fg, 0, none⟩) (fieldsM m.kind).length cap) ((fieldsM m.kind).map letB) vb ([m.kind, m.src, m.dst] ++ fldsB m ((fieldsM m.kind).take k)) wr)) (fun _ i _ => (fieldsM m.kind).length - (intOf i).toNat)
  case atStart => exact ⟨0, _, Nat.zero_le _, rfl, rfl, HR4⟩
  case round =>
    obtain ⟨k, vb, hk, rfl, rfl, HM⟩ := hrel
    by_cases hlt2 : k < (fieldsM m.kind).length
    · obtain ⟨b, off, hbo, -, hcx⟩ := Sl.at HM.out.2.2.2.1 (i := k) (by rw [List.length_map]; exact hlt2)
      cases hbo
      rw [Nat.zero_add, getD_map hlt2] at hcx
      obtain ⟨hf0, hf6, hfo⟩ := HFO.out _ (Nd.mem_get hlt2)
      have HT := Lib.hid (Nd.take_get hlt2)
      have hl1 := (flds_len HWF.out ((fieldsM m.kind).take k) (fun f hf => (HFO.out f (List.mem_of_mem_take hf)).2.2)).1
      rw [List.length_take, Nat.min_eq_left hk] at hl1
      generalize (fieldsM m.kind).getD k 0 = z at *
      obtain ⟨f, rfl⟩ : ∃ f : Nat, z = f := ⟨z.toNat, by omega⟩
      have hfi : ((f : Nat) : Int).toNat = f := by omega
      rw [hfi] at hf6 hfo
      have HPL : Hid (([m.kind, m.src, m.dst] ++ fldsB m ((fieldsM m.kind).take k)).length ≤ 100000) := Lib.hid (by
        rw [List.length_append]
        simp only [List.length_cons, List.length_nil]
        omega)
      have HEQ : Hid ([m.kind, m.src, m.dst] ++ fldsB m ((fieldsM m.kind).take (k + 1)) = ([m.kind, m.src, m.dst] ++ fldsB m ((fieldsM m.kind).take k)) ++ fldB m f) := Lib.hid (by rw [HT.out, fldsB_snoc, List.append_assoc]; rfl)
      have HFK := Lib.hid hfo
      have HFLN := Lib.hid (fld_len HWF.out hfo)
      clear hl1 hfo hf0 hfi
      obtain ⟨q0, q1, q2, q3, q4, q5, q6, q7, q8, -⟩ := cells16 HM.out.2.2.1
      have ra := shot_range HM.out.2.2.1
      rcases (show f = 0 ∨ f = 1 ∨ f = 2 ∨ f = 3 ∨ f = 4 ∨ f = 5 ∨ f = 6 by omega) with rfl | rfl | rfl | rfl | rfl | rfl | rfl
      · have hx : wr.cell? ⟨fg, k, none⟩ = some (.int .u8 116) := hcx
        clear hcx hf6 ra
        obtain ⟨hv0, hv1⟩ := (show 0 ≤ m.term ∧ m.term ≤ 18446744073709551615 from HBD.out 0)
        have HLN := Lib.hid (numI_len (n := m.term) hv0 hv1)
        go_wp2_with fail
        refine (rnum_int _ _ hv0 hv1).mono ?_
        rintro e w5 ⟨v5, rfl, -, hs5, hb5⟩
        have HM5 := Lib.hid (HM.out.call hb5)
        have HS5 := Lib.hid hs5
        clear hs5 hb5 q0 q1 q2 q3 q4 q5 q6 q7 q8 hx
        go_wp2_with (at_builtin; refine app8q rfl _ _ rfl w.heap.size _ _ rfl HM5.out.1 _ _ rfl HS5.out (by have := HPL.out; have := HLN.out; omega) HM5.out.2.1.size ?_; intro v6 w6 hown6 hg6 hl6)
        have HM6 := Lib.hid (HM5.out.app hown6 hg6 hl6)
        clear hown6 hg6 hl6
        go_roundw
        case rel => exact ⟨k + 1, _, by omega, by go_num, rfl, Lib.hid (by rw [HEQ.out]; exact HM6.out)⟩
        case measure => simp [intOf]; omega
      · have hx : wr.cell? ⟨fg, k, none⟩ = some (.int .u8 105) := hcx
        clear hcx hf6 ra
        obtain ⟨hv0, hv1⟩ := (show 0 ≤ m.index ∧ m.index ≤ 18446744073709551615 from HBD.out 1)
        have HLN := Lib.hid (numI_len (n := m.index) hv0 hv1)
        go_wp2_with fail
        refine (rnum_int _ _ hv0 hv1).mono ?_
        rintro e w5 ⟨v5, rfl, -, hs5, hb5⟩
        have HM5 := Lib.hid (HM.out.call hb5)
        have HS5 := Lib.hid hs5
        clear hs5 hb5 q0 q1 q2 q3 q4 q5 q6 q7 q8 hx
        go_wp2_with (at_builtin; refine app8q rfl _ _ rfl w.heap.size _ _ rfl HM5.out.1 _ _ rfl HS5.out (by have := HPL.out; have := HLN.out; omega) HM5.out.2.1.size ?_; intro v6 w6 hown6 hg6 hl6)
        have HM6 := Lib.hid (HM5.out.app hown6 hg6 hl6)
        clear hown6 hg6 hl6
        go_roundw
        case rel => exact ⟨k + 1, _, by omega, by go_num, rfl, Lib.hid (by rw [HEQ.out]; exact HM6.out)⟩
        case measure => simp [intOf]; omega
      · have hx : wr.cell? ⟨fg, k, none⟩ = some (.int .u8 108) := hcx
        clear hcx hf6 ra
        obtain ⟨hv0, hv1⟩ := (show 0 ≤ m.lterm ∧ m.lterm ≤ 18446744073709551615 from HBD.out 2)
        have HLN := Lib.hid (numI_len (n := m.lterm) hv0 hv1)
        go_wp2_with fail
        refine (rnum_int _ _ hv0 hv1).mono ?_
        rintro e w5 ⟨v5, rfl, -, hs5, hb5⟩
        have HM5 := Lib.hid (HM.out.call hb5)
        have HS5 := Lib.hid hs5
        clear hs5 hb5 q0 q1 q2 q3 q4 q5 q6 q7 q8 hx
        go_wp2_with (at_builtin; refine app8q rfl _ _ rfl w.heap.size _ _ rfl HM5.out.1 _ _ rfl HS5.out (by have := HPL.out; have := HLN.out; omega) HM5.out.2.1.size ?_; intro v6 w6 hown6 hg6 hl6)
        have HM6 := Lib.hid (HM5.out.app hown6 hg6 hl6)
        clear hown6 hg6 hl6
        go_roundw
        case rel => exact ⟨k + 1, _, by omega, by go_num, rfl, Lib.hid (by rw [HEQ.out]; exact HM6.out)⟩
        case measure => simp [intOf]; omega
      · have hx : wr.cell? ⟨fg, k, none⟩ = some (.int .u8 99) := hcx
        clear hcx hf6 ra
        obtain ⟨hv0, hv1⟩ := (show 0 ≤ m.commit ∧ m.commit ≤ 18446744073709551615 from HBD.out 3)
        have HLN := Lib.hid (numI_len (n := m.commit) hv0 hv1)
        go_wp2_with fail
        refine (rnum_int _ _ hv0 hv1).mono ?_
        rintro e w5 ⟨v5, rfl, -, hs5, hb5⟩
        have HM5 := Lib.hid (HM.out.call hb5)
        have HS5 := Lib.hid hs5
        clear hs5 hb5 q0 q1 q2 q3 q4 q5 q6 q7 q8 hx
        go_wp2_with (at_builtin; refine app8q rfl _ _ rfl w.heap.size _ _ rfl HM5.out.1 _ _ rfl HS5.out (by have := HPL.out; have := HLN.out; omega) HM5.out.2.1.size ?_; intro v6 w6 hown6 hg6 hl6)
        have HM6 := Lib.hid (HM5.out.app hown6 hg6 hl6)
        clear hown6 hg6 hl6
        go_roundw
        case rel => exact ⟨k + 1, _, by omega, by go_num, rfl, Lib.hid (by rw [HEQ.out]; exact HM6.out)⟩
        case measure => simp [intOf]; omega
      · have hx : wr.cell? ⟨fg, k, none⟩ = some (.int .u8 102) := hcx
        clear hcx hf6 ra
        obtain ⟨b, hb⟩ : ∃ b, m.flag = b := ⟨_, rfl⟩
        have HE : Hid (fldB m 4 = [if b then 1 else 0]) := Lib.hid (by rw [← hb]; rfl)
        rw [hb] at q7
        clear hb
        cases b
        · have hb5 : Below wr.heap.size wr (wr.alloc (.cells #[.int .u8 0] 5)) := (Below.refl _ _).alloc (Nat.le_refl _) _
          have HM5 := Lib.hid (HM.out.call hb5)
          have HS5 : Hid (Sl .u8 (wr.alloc (.cells #[.int .u8 0] 5)) (.slice (some ⟨wr.heap.size, 0, none⟩) 1 1) (fldB m 4)) := Lib.hid (by rw [HE.out]; exact Sl.new (fr := (0, 0)) wr _ [0] rfl rfl (Nat.le_refl _) (by decide) (by decide))
          have HL4 : Hid ((fldB m 4).length = 1) := Lib.hid (by rw [HE.out]; rfl)
          have hlb : ([m.kind, m.src, m.dst] ++ fldsB m ((fieldsM m.kind).take k)).length + (fldB m 4).length ≤ 140737488355328 := by have := HPL.out; have := HL4.out; omega
          have hs5 := HS5.out
          unfold Sl at hs5
          clear hb5 hs5
          go_wp2_with (at_builtin; refine app8q rfl _ _ rfl w.heap.size _ _ rfl HM5.out.1 _ (fldB m 4) rfl HS5.out hlb HM5.out.2.1.size ?_; intro v6 w6 hown6 hg6 hl6)
          have HM6 := Lib.hid (HM5.out.app hown6 hg6 hl6)
          clear hown6 hg6 hl6
          go_roundw
          case rel => exact ⟨k + 1, _, by omega, by go_num, rfl, Lib.hid (by rw [HEQ.out]; exact HM6.out)⟩
          case measure => simp [intOf]; omega
        · have hb5 : Below wr.heap.size wr (wr.alloc (.cells #[.int .u8 1] 5)) := (Below.refl _ _).alloc (Nat.le_refl _) _
          have HM5 := Lib.hid (HM.out.call hb5)
          have HS5 : Hid (Sl .u8 (wr.alloc (.cells #[.int .u8 1] 5)) (.slice (some ⟨wr.heap.size, 0, none⟩) 1 1) (fldB m 4)) := Lib.hid (by rw [HE.out]; exact Sl.new (fr := (0, 0)) wr _ [1] rfl rfl (Nat.le_refl _) (by decide) (by decide))
          have HL4 : Hid ((fldB m 4).length = 1) := Lib.hid (by rw [HE.out]; rfl)
          have hlb : ([m.kind, m.src, m.dst] ++ fldsB m ((fieldsM m.kind).take k)).length + (fldB m 4).length ≤ 140737488355328 := by have := HPL.out; have := HL4.out; omega
          have hs5 := HS5.out
          unfold Sl at hs5
          clear hb5 hs5
          go_wp2_with (at_builtin; refine app8q rfl _ _ rfl w.heap.size _ _ rfl HM5.out.1 _ (fldB m 4) rfl HS5.out hlb HM5.out.2.1.size ?_; intro v6 w6 hown6 hg6 hl6)
          have HM6 := Lib.hid (HM5.out.app hown6 hg6 hl6)
          clear hown6 hg6 hl6
          go_roundw
          case rel => exact ⟨k + 1, _, by omega, by go_num, rfl, Lib.hid (by rw [HEQ.out]; exact HM6.out)⟩
          case measure => simp [intOf]; omega
      · have hx : wr.cell? ⟨fg, k, none⟩ = some (.int .u8 101) := hcx
        clear hcx hf6 ra
        obtain ⟨hl4, hch⟩ := HFK.out.1 rfl
        have HCH := Lib.hid hch
        have hln := numI_len (n := (m.ents.length : Int)) (by omega) (by omega)
        have HLN := Lib.hid hln
        clear hch
        go_wp2_with fail
        refine (rnum_int _ _ (by omega) (by omega)).mono ?_
        rintro e w5 ⟨v5, rfl, -, hs5, hb5⟩
        have HM5 := Lib.hid (HM.out.call hb5)
        have HS5 := Lib.hid hs5
        clear hs5 hb5 q0 q1 q2 q3 q4 q5 q6 q7 q8 hx
        go_wp2_with (at_builtin; refine app8q rfl _ _ rfl w.heap.size _ _ rfl HM5.out.1 _ _ rfl HS5.out (by have := HPL.out; have := HLN.out; omega) HM5.out.2.1.size ?_; intro v6 w6 hown6 hg6 hl6; have HM6 := Lib.hid (HM5.out.app hown6 hg6 hl6); obtain ⟨q0, q1, q2, q3, q4, q5, q6, q7, q8, -⟩ := cells16 HM6.out.2.2.1; clear hown6 hg6 hl6)
        clear q0 q1 q2 q3 q4 q5 q6 q7 q8
        have HB0 : Hid (RM w (mArr m (.slice ae m.ents.length ce) vn vh vl) (.slice (some ⟨fg, 0, none⟩) (fieldsM m.kind).length cap) ((fieldsM m.kind).map letB) v6 (([m.kind, m.src, m.dst] ++ fldsB m ((fieldsM m.kind).take k) ++ numI (m.ents.length : Int)) ++ (m.ents.take 0).flatMap Rk.entB) w6) := Lib.hid (by rw [List.take_zero, List.flatMap_nil, List.append_nil]; exact HM6.out)
        obtain ⟨wo, hwo⟩ : ∃ q, q = wr := ⟨_, rfl⟩
        subst hwo
        go_loopw [5, 87] (fun bv i wr => ∃ (j : Nat) (vc : Value), j ≤ m.ents.length ∧ i = .int .i64 j ∧ vc = bv ∧ Hid (RM w (mArr m (.slice ae m.ents.length ce) vn vh vl) (.slice (some ⟨fg, 0, none⟩) (fieldsM m.kind).length cap) ((fieldsM m.kind).map letB) vc (([m.kind, m.src, m.dst] ++ fldsB m ((fieldsM m.kind).take k) ++ numI (m.ents.length : Int)) ++ (m.ents.take j).flatMap Rk.entB) wr)) (fun _ i _ => m.ents.length - (intOf i).toNat)
        case atStart => exact ⟨0, _, Nat.zero_le _, rfl, rfl, HB0⟩
        case round =>
          obtain ⟨j, vc, hj, rfl, rfl, HN⟩ := hrel
          by_cases hlt4 : j < m.ents.length
          · have hlt3 : j < rows.length := by have := HRL.out; omega
            obtain ⟨b, off, rfl, hlt, hc⟩ := Ld.rows_open hlt3 HRC.out
            have hb := HN.out.2.1
            have hce := fun i u hu => (hb.cell (p := ⟨b, off + (j * 9 + i), none⟩) hlt).trans (hc j _ (Ld.rgetD hlt3) i u hu)
            have hes := HENT.out _ (List.getElem_mem hlt3)
            have HG := Lib.hid (HGET.out j hlt3)
            have HTJ := Lib.hid (HTK.out j hlt3)
            have hsl := hes.1.below hb (Nat.le_refl _)
            have hwf := hes.2
            clear hc hb hes
            generalize rows[j] = r at *
            obtain ⟨x, vr⟩ := r
            simp only [] at HG HTJ hsl hwf
            obtain ⟨ar, cr, hvr, -⟩ := id hsl
            subst hvr
            obtain ⟨e0, e1, e2, e3, e4, e5, e6, e7, e8⟩ := Hd.ent_cells hce
            have HCK := Lib.hid (HCH.out x (List.mem_of_getElem? HG.out)).2
            have hb4 : Below wr.heap.size wr (wr.alloc (.cells (entC (x, .slice ar x.cmd.nodes.length cr)).toArray 55)) := (Below.refl _ _).alloc (Nat.le_refl _) _
            have HI4 : Hid (IsCmd (wr.alloc (.cells (entC (x, .slice ar x.cmd.nodes.length cr)).toArray 55)) (.agg (cArr x.cmd (.slice ar x.cmd.nodes.length cr))) x.cmd) := Lib.hid ⟨_, rfl, hsl.below hb4 (Nat.le_refl _), hwf.2⟩
            have HK4 := Lib.hid (heap_alloc_new wr (.cells (entC (x, .slice ar x.cmd.nodes.length cr)).toArray 55 (0, 0)))
            have HN4 := Lib.hid (HN.out.call hb4)
            have hlx := (ents_len (m.ents.take j) (fun y hy => HCH.out y (List.mem_of_mem_take hy))).1
            rw [List.length_take, Nat.min_eq_left hj] at hlx
            have HXB := Lib.hid (bounds_u64 hwf.1)
            have HXL := Lib.hid (numI_len (n := x.term) (by have := HXB.out; omega) (by have := HXB.out; omega))
            have HCL := Lib.hid (encL_len hwf.2 HCK.out).1
            have HBL : Hid ((([m.kind, m.src, m.dst] ++ fldsB m ((fieldsM m.kind).take k) ++ numI (m.ents.length : Int)) ++ (m.ents.take j).flatMap Rk.entB).length ≤ 200000) := Lib.hid (by rw [List.length_append, List.length_append]; have := HPL.out; have := HLN.out; omega)
            have HEJ : Hid (([m.kind, m.src, m.dst] ++ fldsB m ((fieldsM m.kind).take k) ++ numI (m.ents.length : Int)) ++ (m.ents.take (j + 1)).flatMap Rk.entB = (([m.kind, m.src, m.dst] ++ fldsB m ((fieldsM m.kind).take k) ++ numI (m.ents.length : Int)) ++ (m.ents.take j).flatMap Rk.entB) ++ numI x.term ++ encL x.cmd) := Lib.hid (by rw [HTJ.out, List.flatMap_append]; simp [Rk.entB, List.append_assoc])
            generalize ([m.kind, m.src, m.dst] ++ fldsB m ((fieldsM m.kind).take k) ++ numI (m.ents.length : Int)) ++ (m.ents.take j).flatMap Rk.entB = bj at *
            clear hce hsl hwf hb4 hlx
            go_wp2_with fail
            refine (rcmdenc x.cmd _ _ HI4.out HCK.out).mono ?_
            rintro e w7 ⟨v7, rfl, hown7, hs7, hb7⟩
            have HN7 := Lib.hid (HN4.out.call hb7)
            have HS7 := Lib.hid hs7
            have HF7 : Hid (Far w7 vc v7 (encL x.cmd)) := Lib.hid (Far.new HN4.out.1 (Nat.le_refl _) (show OwnK .u8 5 _ _ _ _ from hown7))
            have HK7 := Lib.hid ((hb7.block _ (row_lt HK4.out)).trans HK4.out)
            obtain ⟨d0, -⟩ := Hd.ent9 HK7.out
            clear hs7 hown7 hb7 e0 e1 e2 e3 e4 e5 e6 e7 e8
            go_wp2_with fail
            refine (rnum_int _ _ (by have := HXB.out; omega) (by have := HXB.out; omega)).mono ?_
            rintro e w8 ⟨v8, rfl, -, hs8, hb8⟩
            have HN8 := Lib.hid (HN7.out.call hb8)
            have HS8 := Lib.hid hs8
            have HC8 := Lib.hid (HS7.out.below hb8 (Nat.le_refl _))
            have HF8 := Lib.hid (HF7.out.below hb8)
            clear hs8 hb8 d0
            go_wp2_with (first
              | (at_builtin; refine app8q rfl _ _ rfl w.heap.size vc bj rfl HN8.out.1 _ (numI x.term) rfl HS8.out (by have := HBL.out; have := HXL.out; omega) HN8.out.2.1.size ?_; intro v9 w9 hown9 hg9 hl9; have HC9 := Lib.hid (HC8.out.far HF8.out hg9); have HN9 := Lib.hid (HN8.out.app hown9 hg9 hl9); clear hown9 hg9 hl9)
              | (at_builtin; refine app8q rfl _ _ rfl w.heap.size v9 (bj ++ numI x.term) rfl HN9.out.1 _ (encL x.cmd) rfl HC9.out (by rw [List.length_append]; have := HBL.out; have := HXL.out; have := HCL.out; omega) HN9.out.2.1.size ?_; intro v10 w10 hown10 hg10 hl10; have HN10 := Lib.hid (HN9.out.app hown10 hg10 hl10); clear hown10 hg10 hl10))
            go_roundw
            case rel => exact ⟨j + 1, _, by omega, by go_num, rfl, Lib.hid (by rw [HEJ.out]; exact HN10.out)⟩
            case measure => simp [intOf]; omega
          · obtain rfl : j = m.ents.length := by omega
            have HFIN : Hid (RM w (mArr m (.slice ae m.ents.length ce) vn vh vl) (.slice (some ⟨fg, 0, none⟩) (fieldsM m.kind).length cap) ((fieldsM m.kind).map letB) vc ([m.kind, m.src, m.dst] ++ fldsB m ((fieldsM m.kind).take (k + 1))) wr) := Lib.hid (by have q := HN.out; rw [List.take_length] at q; rw [HEQ.out]; show RM _ _ _ _ _ (_ ++ (numI (m.ents.length : Int) ++ m.ents.flatMap Rk.entB)) _; rw [← List.append_assoc]; exact q)
            go_wp2
            go_roundw
            case rel => exact ⟨k + 1, _, by omega, by go_num, rfl, HFIN⟩
            case measure => simp [intOf]; omega
      · have hx : wr.cell? ⟨fg, k, none⟩ = some (.int .u8 115) := hcx
        clear hcx hf6
        have HSH : Hid (IsShot wr (.agg (sArr m.shot vn vh vl)) m.shot) := Lib.hid (IsMsg_shot (HIM.out.below HM.out.2.1 (Nat.le_refl _)))
        have HSO := Lib.hid (HFK.out.2 rfl)
        have HLN : Hid ((shotB m.shot).length ≤ 3500 ∧ WfB (shotB m.shot)) := Lib.hid (shotB_len (nums_of HWF.out.2.2.2.2.2.2.2 HSO.out))
        go_wp2_with (refine wpList_load_mid rfl 30 (.tmp 108) rfl w.heap.size 9 rfl (sArr m.shot vn vh vl).toList _ ra Tryd.underlying30 rfl (by kernel_rfl) ?_)
        refine (rbytes_any m.shot _ _ HSH.out HSO.out).mono ?_
        rintro e w5 ⟨v5, rfl, hown5, hb5, -⟩
        have HM5 := Lib.hid (HM.out.call hb5)
        have HS5 := Lib.hid (hown5.sl HLN.out.2)
        clear hown5 hb5 q0 q1 q2 q3 q4 q5 q6 q7 q8 hx ra
        go_wp2_with (at_builtin; refine app8q rfl _ _ rfl w.heap.size _ _ rfl HM5.out.1 _ _ rfl HS5.out (by have := HPL.out; have := HLN.out.1; omega) HM5.out.2.1.size ?_; intro v6 w6 hown6 hg6 hl6)
        have HM6 := Lib.hid (HM5.out.app hown6 hg6 hl6)
        clear hown6 hg6 hl6
        go_roundw
        case rel => exact ⟨k + 1, _, by omega, by go_num, rfl, Lib.hid (by rw [HEQ.out]; exact HM6.out)⟩
        case measure => simp [intOf]; omega
    · obtain rfl : k = (fieldsM m.kind).length := by omega
      have HOW : Hid (Own wr w.heap.size vb (msgB m)) := Lib.hid (by have q := HM.out.1; rw [List.take_length] at q; exact q)
      go_wp2_with fail
      refine (Fr.rseal_any _ _ _ (HOW.out.sl HML.out.2) HML.out.1).mono ?_
      rintro e w5 ⟨v5, rfl, hown5, hs5, hb5⟩
      have HB5 := Lib.hid (HM.out.2.1.trans (hb5.mono HM.out.2.1.size))
      have HO5 := Lib.hid (hown5.mono HM.out.2.1.size)
      have HS5 := Lib.hid hs5
      clear hown5 hs5 hb5
      go_wp2
      go_ret2
      exact ⟨_, 0, _, rfl, .inl ⟨rfl, HOK.out, rfl⟩, HO5.out, HS5.out, HB5.out⟩
end Ms
end Go.Proofs.YtbdjihmgdkailaaDoor
