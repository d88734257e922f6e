/- Package msg: each part of a body behind next; read. No condition. -/
import Derived.Test.YtbdjihmgdkailaaDoorMdC
import Derived.Deep.DeepCutAuto
import Derived.Deep.CutRange
import Derived.Deep.CutBlock
namespace Go.Proofs.YtbdjihmgdkailaaDoor
open Go.ChangeShapes Go.WideShapes Go.ChangeAt Go.RowKit Go.Deep
set_option linter.unusedVariables false
set_option maxRecDepth 100000
namespace Ms
open Nv Cm Sc Hd Rc
/-- next with any part -/
abbrev NextC (w : World) (p : Value) (s' : MSt) (X : World → Prop) (W : World) : Prop :=
  Calls Tryd.prog 59 #[p, .pointer (some ⟨w.heap.size + 3, 0, none⟩), .pointer (some ⟨w.heap.size, 0, none⟩)] W (NextE w s' X W)
theorem nextE_skip {w W : World} {s : MSt} {X : World → Prop} {p : Value} (h : RD w s W) (he : s.2.2 ≠ 0) (hx : X W) : NextC w p s X W :=
  (next_skip w s p W h he).mono fun e w' ⟨a, b⟩ => by subst b; exact ⟨a, h, KeepT.refl _, hx⟩
theorem past_of_only {B0 g2 : Nat} {W w' : World} (h : Only (· = g2) W w') (hB : B0 ≤ W.heap.size) : Past B0 (· = g2) W w' := ⟨h.1, h.2.1, h.2.2.1, h.2.2.2.1, fun k hk hn => h.2.2.2.2 k (Nat.lt_of_lt_of_le hk hB) hn⟩
/-- a part that writes one cell of the message -/
theorem part_set {w W w' : World} {m m' : Mes} {off : Nat} {u : Value} {ve vn vh vl : Value} {rows : List ERow} (hM : MM (w.heap.size + 4) (w.heap.size + 2) m ve vn vh vl rows W) (h4 : w.heap.size + 4 ≤ W.heap.size) (hset : SetC W (w.heap.size + 2) off (mArr m ve vn vh vl) 32 u w') (hr : (mArr m ve vn vh vl).setIfInBounds off u = mArr m' ve vn vh vl) (he : m'.ents = m.ents) (hs : m'.shot = m.shot) (hw : m'.wf) :
    MMx w.heap.size m' w' ∧ Past (w.heap.size + 4) (· = w.heap.size + 2) W w' ∧ KeepT W w' :=
  ⟨⟨ve, vn, vh, vl, rows, hM.row hset.1 (by omega) (by rw [hset.2, hr]) he hs hw⟩, past_of_only hset.1 h4, KeepT.only hset.1 hM.1 (by decide)⟩
theorem i64_byte {x : Int} (h0 : 0 ≤ x) (h1 : x ≤ 255) : (Lit.int .i64 x).wf = true := by simp [Lit.wf, IntKind.min, IntKind.max, IntKind.signed, IntKind.bits]; omega
theorem step_src (w : World) (s : MSt) (W : World) (c : Nat) (h : RD w s W) (hp : PtrB W c 96 (w.heap.size + 2) 1) : NextC w (.func (.func 84) #[] #[.pointer (some ⟨c, 0, none⟩)]) (srcP s) (fun _ => True) W := by
  obtain ⟨m, zs, e0⟩ := s
  by_cases he : e0 = 0
  · subst he
    obtain ⟨ve, vn, vh, vl, rows, hM⟩ := h.2.2.1
    have h4 := h.2.2.2.2.2
    have hw := hM.2.2.2.2.2.2.2.1
    refine next_byteInto w m zs _ _ c W h (deaf_true w) fun a cap hs => ?_
    refine (byte_any _ zs c (w.heap.size + 2) 1 (mArr m ve vn vh vl) 32 96 _ W hs hp hM.1 rfl).mono ?_
    rintro e w' (⟨rfl, rfl, rfl⟩ | ⟨x, r, rfl, x0, x1, rfl, hset⟩)
    · exact ⟨0, 10, rfl, Nat.zero_le _, rfl, ⟨ve, vn, vh, vl, rows, hM⟩, ⟨rfl, rfl, rfl, Nat.le_refl _, fun _ _ _ => rfl⟩, KeepT.refl _, trivial⟩
    · obtain ⟨a1, a2, a3⟩ := part_set (m' := { m with src := x }) hM h4 hset rfl rfl rfl ⟨hw.1, i64_byte x0 x1, hw.2.2⟩
      exact ⟨1, 0, rfl, by simp, rfl, a1, a2, a3, trivial⟩
  · have e : srcP (m, (zs, e0)) = (m, (zs, e0)) := if_neg he
    rw [e]
    exact nextE_skip h he trivial
theorem step_dst (w : World) (s : MSt) (W : World) (c : Nat) (h : RD w s W) (hp : PtrB W c 96 (w.heap.size + 2) 2) : NextC w (.func (.func 84) #[] #[.pointer (some ⟨c, 0, none⟩)]) (dstP s) (fun _ => True) W := by
  obtain ⟨m, zs, e0⟩ := s
  by_cases he : e0 = 0
  · subst he
    obtain ⟨ve, vn, vh, vl, rows, hM⟩ := h.2.2.1
    have h4 := h.2.2.2.2.2
    have hw := hM.2.2.2.2.2.2.2.1
    refine next_byteInto w m zs _ _ c W h (deaf_true w) fun a cap hs => ?_
    refine (byte_any _ zs c (w.heap.size + 2) 2 (mArr m ve vn vh vl) 32 96 _ W hs hp hM.1 rfl).mono ?_
    rintro e w' (⟨rfl, rfl, rfl⟩ | ⟨x, r, rfl, x0, x1, rfl, hset⟩)
    · exact ⟨0, 10, rfl, Nat.zero_le _, rfl, ⟨ve, vn, vh, vl, rows, hM⟩, ⟨rfl, rfl, rfl, Nat.le_refl _, fun _ _ _ => rfl⟩, KeepT.refl _, trivial⟩
    · obtain ⟨a1, a2, a3⟩ := part_set (m' := { m with dst := x }) hM h4 hset rfl rfl rfl ⟨hw.1, hw.2.1, i64_byte x0 x1, hw.2.2.2⟩
      exact ⟨1, 0, rfl, by simp, rfl, a1, a2, a3, trivial⟩
  · have e : dstP (m, (zs, e0)) = (m, (zs, e0)) := if_neg he
    rw [e]
    exact nextE_skip h he trivial
theorem step_kind (w : World) (s : MSt) (W : World) (c : Nat) (h : RD w s W) (hp : PtrB W c 96 (w.heap.size + 2) 0) : NextC w (.func (.func 83) #[] #[.pointer (some ⟨c, 0, none⟩)]) (kindP s) (fun _ => True) W := by
  obtain ⟨m, zs, e0⟩ := s
  by_cases he : e0 = 0
  · subst he
    obtain ⟨ve, vn, vh, vl, rows, hM⟩ := h.2.2.1
    have h4 := h.2.2.2.2.2
    have hw := hM.2.2.2.2.2.2.2.1
    refine next_kindInto w m zs _ _ c W h (deaf_true w) fun a cap hs => ?_
    refine (kind_any _ zs c (w.heap.size + 2) 0 (mArr m ve vn vh vl) 32 96 _ W hs hp hM.1 rfl (hp.ne hM.1 (by decide))).mono ?_
    rintro e w' (⟨rfl, rfl, ho, hr⟩ | ⟨x, r, rfl, x0, x1, hset, hk⟩)
    · exact ⟨0, 10, rfl, Nat.zero_le _, rfl, ⟨ve, vn, vh, vl, rows, hM.row ho (by omega) (hr.trans hM.1) rfl rfl hw⟩, past_of_only ho h4, KeepT.only ho hM.1 (by decide), trivial⟩
    · obtain ⟨a1, a2, a3⟩ := part_set (m' := { m with kind := x }) hM h4 hset rfl rfl rfl ⟨i64_byte x0 x1, hw.2⟩
      rcases hk with ⟨hk, rfl⟩ | ⟨hk, rfl⟩
      · have e : kindP (m, (x :: r, 0)) = ({ m with kind := x }, (r, 0)) := by unfold kindP; simp only [if_true]; exact if_pos hk
        rw [e]
        exact ⟨1, 0, rfl, by simp, rfl, a1, a2, a3, trivial⟩
      · have e : kindP (m, (x :: r, 0)) = ({ m with kind := x }, (x :: r, 11)) := by unfold kindP; simp only [if_true]; exact if_neg hk
        rw [e]
        exact ⟨0, 11, rfl, Nat.zero_le _, rfl, a1, a2, a3, trivial⟩
  · have e : kindP (m, (zs, e0)) = (m, (zs, e0)) := if_neg he
    rw [e]
    exact nextE_skip h he trivial
theorem step_flag (w : World) (s : MSt) (W : World) (c : Nat) (h : RD w s W) (hp : PtrB W c 100 (w.heap.size + 2) 7) : NextC w (.func (.func 87) #[] #[.pointer (some ⟨c, 0, none⟩)]) (flagP s) (fun _ => True) W := by
  obtain ⟨m, zs, e0⟩ := s
  by_cases he : e0 = 0
  · subst he
    obtain ⟨ve, vn, vh, vl, rows, hM⟩ := h.2.2.1
    have h4 := h.2.2.2.2.2
    have hw := hM.2.2.2.2.2.2.2.1
    refine next_flagInto w m zs _ _ c W h (deaf_true w) fun a cap hs => ?_
    refine (flag_any _ zs c (w.heap.size + 2) 7 (mArr m ve vn vh vl) 32 100 _ W hs hp hM.1 rfl (hp.ne hM.1 (by decide))).mono ?_
    rintro e w' (⟨rfl, rfl, hset⟩ | ⟨x, r, rfl, x1, rfl, ho, hr⟩ | ⟨x, r, rfl, x0, x1, rfl, hset⟩)
    · obtain ⟨a1, a2, a3⟩ := part_set (m' := { m with flag := false }) hM h4 hset rfl rfl rfl hw
      exact ⟨0, 10, rfl, Nat.zero_le _, rfl, a1, a2, a3, trivial⟩
    · have e : flagP (m, (x :: r, 0)) = (m, (x :: r, 11)) := by unfold flagP; simp only [if_true]; exact if_pos x1
      rw [e]
      exact ⟨0, 11, rfl, Nat.zero_le _, rfl, ⟨ve, vn, vh, vl, rows, hM.row ho (by omega) (hr.trans hM.1) rfl rfl hw⟩, past_of_only ho h4, KeepT.only ho hM.1 (by decide), trivial⟩
    · obtain ⟨a1, a2, a3⟩ := part_set (m' := { m with flag := x == 1 }) hM h4 hset rfl rfl rfl hw
      have e : flagP (m, (x :: r, 0)) = ({ m with flag := x == 1 }, (r, 0)) := by unfold flagP; simp only [if_true]; exact if_neg (by omega)
      rw [e]
      exact ⟨1, 0, rfl, by simp, rfl, a1, a2, a3, trivial⟩
  · have e : flagP (m, (zs, e0)) = (m, (zs, e0)) := if_neg he
    rw [e]
    exact nextE_skip h he trivial
theorem rdL_lt {zs : List Int} (hz : WfB zs) : (Oc.rdL zs).1 < 18446744073709551616 := by
  match zs with
  | [] => decide
  | x :: rest =>
    unfold Oc.rdL
    simp only []
    split
    · decide
    · split
      · decide
      · rename_i h1 h2
        have hb : ∀ y ∈ rest.take x.toNat, 0 ≤ y ∧ y ≤ 255 := fun y hy => by
          have q := hz y (by simp [List.mem_of_mem_take hy])
          simp [Lit.wf, IntKind.min, IntKind.max, IntKind.signed, IntKind.bits] at q
          omega
        have hl : (rest.take x.toNat).length ≤ 8 := by rw [List.length_take]; omega
        first
          | exact Oc.val_lt8 _ hb hl
          | (split <;> first | decide | exact Oc.val_lt8 _ hb hl)
theorem rdL_u64 {zs : List Int} (hz : WfB zs) : (Lit.int .u64 ((Oc.rdL zs).1 : Nat)).wf = true := by
  have := rdL_lt hz
  exact u64_wf ⟨by omega, by omega⟩
theorem step_num0 (w : World) (s : MSt) (W : World) (c : Nat) (h : RD w s W) (hp : PtrB W c 98 (w.heap.size + 2) 3) : NextC w (.func (.func 85) #[] #[.pointer (some ⟨c, 0, none⟩)]) (numP 0 s) (fun _ => True) W := by
  obtain ⟨m, zs, e0⟩ := s
  by_cases he : e0 = 0
  · subst he
    obtain ⟨ve, vn, vh, vl, rows, hM⟩ := h.2.2.1
    have h4 := h.2.2.2.2.2
    have hw := hM.2.2.2.2.2.2.2.1
    have hz : WfB zs := by obtain ⟨a, cap, -, q⟩ := h.1; exact q.wf
    refine next_numberInto w m zs _ _ c W h (deaf_true w) fun a cap hs => ?_
    refine (num_part _ zs c (w.heap.size + 2) 3 (mArr m ve vn vh vl) 32 98 _ W hs hp hM.1 rfl).mono ?_
    rintro e w' ⟨rfl, hset⟩
    have hn := rdL_u64 hz
    obtain ⟨a1, a2, a3⟩ := part_set (m' := { m with term := ((Oc.rdL zs).1 : Nat) }) hM h4 hset rfl rfl rfl ⟨hw.1, hw.2.1, hw.2.2.1, hn, hw.2.2.2.2.1, hw.2.2.2.2.2.1, hw.2.2.2.2.2.2.1, hw.2.2.2.2.2.2.2⟩
    exact ⟨(Oc.rdL zs).2.1, (Oc.rdL zs).2.2, rfl, rd_len (n := (Oc.rdL zs).1) (e := (Oc.rdL zs).2.2) rfl, rfl, a1, a2, a3, trivial⟩
  · have e : numP 0 (m, (zs, e0)) = (m, (zs, e0)) := if_neg he
    rw [e]
    exact nextE_skip h he trivial
theorem step_num1 (w : World) (s : MSt) (W : World) (c : Nat) (h : RD w s W) (hp : PtrB W c 98 (w.heap.size + 2) 4) : NextC w (.func (.func 85) #[] #[.pointer (some ⟨c, 0, none⟩)]) (numP 1 s) (fun _ => True) W := by
  obtain ⟨m, zs, e0⟩ := s
  by_cases he : e0 = 0
  · subst he
    obtain ⟨ve, vn, vh, vl, rows, hM⟩ := h.2.2.1
    have h4 := h.2.2.2.2.2
    have hw := hM.2.2.2.2.2.2.2.1
    have hz : WfB zs := by obtain ⟨a, cap, -, q⟩ := h.1; exact q.wf
    refine next_numberInto w m zs _ _ c W h (deaf_true w) fun a cap hs => ?_
    refine (num_part _ zs c (w.heap.size + 2) 4 (mArr m ve vn vh vl) 32 98 _ W hs hp hM.1 rfl).mono ?_
    rintro e w' ⟨rfl, hset⟩
    have hn := rdL_u64 hz
    obtain ⟨a1, a2, a3⟩ := part_set (m' := { m with index := ((Oc.rdL zs).1 : Nat) }) hM h4 hset rfl rfl rfl ⟨hw.1, hw.2.1, hw.2.2.1, hw.2.2.2.1, hn, hw.2.2.2.2.2.1, hw.2.2.2.2.2.2.1, hw.2.2.2.2.2.2.2⟩
    exact ⟨(Oc.rdL zs).2.1, (Oc.rdL zs).2.2, rfl, rd_len (n := (Oc.rdL zs).1) (e := (Oc.rdL zs).2.2) rfl, rfl, a1, a2, a3, trivial⟩
  · have e : numP 1 (m, (zs, e0)) = (m, (zs, e0)) := if_neg he
    rw [e]
    exact nextE_skip h he trivial
theorem step_num2 (w : World) (s : MSt) (W : World) (c : Nat) (h : RD w s W) (hp : PtrB W c 98 (w.heap.size + 2) 5) : NextC w (.func (.func 85) #[] #[.pointer (some ⟨c, 0, none⟩)]) (numP 2 s) (fun _ => True) W := by
  obtain ⟨m, zs, e0⟩ := s
  by_cases he : e0 = 0
  · subst he
    obtain ⟨ve, vn, vh, vl, rows, hM⟩ := h.2.2.1
    have h4 := h.2.2.2.2.2
    have hw := hM.2.2.2.2.2.2.2.1
    have hz : WfB zs := by obtain ⟨a, cap, -, q⟩ := h.1; exact q.wf
    refine next_numberInto w m zs _ _ c W h (deaf_true w) fun a cap hs => ?_
    refine (num_part _ zs c (w.heap.size + 2) 5 (mArr m ve vn vh vl) 32 98 _ W hs hp hM.1 rfl).mono ?_
    rintro e w' ⟨rfl, hset⟩
    have hn := rdL_u64 hz
    obtain ⟨a1, a2, a3⟩ := part_set (m' := { m with lterm := ((Oc.rdL zs).1 : Nat) }) hM h4 hset rfl rfl rfl ⟨hw.1, hw.2.1, hw.2.2.1, hw.2.2.2.1, hw.2.2.2.2.1, hn, hw.2.2.2.2.2.2.1, hw.2.2.2.2.2.2.2⟩
    exact ⟨(Oc.rdL zs).2.1, (Oc.rdL zs).2.2, rfl, rd_len (n := (Oc.rdL zs).1) (e := (Oc.rdL zs).2.2) rfl, rfl, a1, a2, a3, trivial⟩
  · have e : numP 2 (m, (zs, e0)) = (m, (zs, e0)) := if_neg he
    rw [e]
    exact nextE_skip h he trivial
theorem step_num3 (w : World) (s : MSt) (W : World) (c : Nat) (h : RD w s W) (hp : PtrB W c 98 (w.heap.size + 2) 6) : NextC w (.func (.func 85) #[] #[.pointer (some ⟨c, 0, none⟩)]) (numP 3 s) (fun _ => True) W := by
  obtain ⟨m, zs, e0⟩ := s
  by_cases he : e0 = 0
  · subst he
    obtain ⟨ve, vn, vh, vl, rows, hM⟩ := h.2.2.1
    have h4 := h.2.2.2.2.2
    have hw := hM.2.2.2.2.2.2.2.1
    have hz : WfB zs := by obtain ⟨a, cap, -, q⟩ := h.1; exact q.wf
    refine next_numberInto w m zs _ _ c W h (deaf_true w) fun a cap hs => ?_
    refine (num_part _ zs c (w.heap.size + 2) 6 (mArr m ve vn vh vl) 32 98 _ W hs hp hM.1 rfl).mono ?_
    rintro e w' ⟨rfl, hset⟩
    have hn := rdL_u64 hz
    obtain ⟨a1, a2, a3⟩ := part_set (m' := { m with commit := ((Oc.rdL zs).1 : Nat) }) hM h4 hset rfl rfl rfl ⟨hw.1, hw.2.1, hw.2.2.1, hw.2.2.2.1, hw.2.2.2.2.1, hw.2.2.2.2.2.1, hn, hw.2.2.2.2.2.2.2⟩
    exact ⟨(Oc.rdL zs).2.1, (Oc.rdL zs).2.2, rfl, rd_len (n := (Oc.rdL zs).1) (e := (Oc.rdL zs).2.2) rfl, rfl, a1, a2, a3, trivial⟩
  · have e : numP 3 (m, (zs, e0)) = (m, (zs, e0)) := if_neg he
    rw [e]
    exact nextE_skip h he trivial
theorem step_ent (w : World) (s : MSt) (W : World) (c : Nat) (h : RD w s W) (hp : PtrB W c 102 (w.heap.size + 2) 8) (hl : s.1.ents.length ≤ 1000) : NextC w (.func (.func 89) #[] #[.pointer (some ⟨c, 0, none⟩)]) (entP s) (fun _ => True) W := by
  obtain ⟨m, zs, e0⟩ := s
  by_cases he : e0 = 0
  · subst he
    obtain ⟨ve, vn, vh, vl, rows, hM⟩ := h.2.2.1
    have h4 := h.2.2.2.2.2
    have hz : WfB zs := by obtain ⟨a, cap, -, q⟩ := h.1; exact q.wf
    have hrl : rows.length ≤ 1000 := by have := hM.2.2.2.1; have q : rows.length = m.ents.length := by rw [← this, List.length_map]
                                        rw [q]; exact hl
    refine next_entryInto w m zs _ _ c W h (deaf_true w) fun a cap hs => ?_
    refine (entry_part (w.heap.size + 4) (w.heap.size + 2) c m ve vn vh vl rows _ zs W hs hM (by omega) h4 hp hrl).mono ?_
    rintro e w' ⟨rfl, ⟨hne, hb⟩ | ⟨h0, ve', rows', hM', -, hpa, hk⟩⟩
    · have e : entP (m, (zs, 0)) = (m, (zs.drop (Rk.entD zs).2.1, (Rk.entD zs).2.2)) := by unfold entP; simp only [if_true]; rw [if_neg hne]
      rw [e]
      exact ⟨_, _, rfl, Rk.entD_bd hz, rfl, ⟨ve, vn, vh, vl, rows, hM.below hb⟩, Past.below (hb.mono h4) _, KeepT.below hb, trivial⟩
    · have e : entP (m, (zs, 0)) = ({ m with ents := m.ents ++ [(Rk.entD zs).1] }, (zs.drop (Rk.entD zs).2.1, (Rk.entD zs).2.2)) := by unfold entP; simp only [if_true]; rw [if_pos h0]
      rw [e]
      exact ⟨_, _, rfl, Rk.entD_bd hz, rfl, ⟨ve', vn, vh, vl, rows', hM'⟩, hpa, hk, trivial⟩
  · have e : entP (m, (zs, e0)) = (m, (zs, e0)) := if_neg he
    rw [e]
    exact nextE_skip h he trivial
theorem step_shot (w : World) (s : MSt) (W : World) (c : Nat) (h : RD w s W) (hp : PtrB W c 104 (w.heap.size + 2) 9) : NextC w (.func (.func 91) #[] #[.pointer (some ⟨c, 0, none⟩)]) (shotP s) (fun _ => True) W := by
  obtain ⟨m, zs, e0⟩ := s
  by_cases he : e0 = 0
  · subst he
    obtain ⟨ve, vn, vh, vl, rows, hM⟩ := h.2.2.1
    have h4 := h.2.2.2.2.2
    refine next_shotInto w m zs _ _ c W h (deaf_true w) fun a cap hs => ?_
    refine (shot_part (w.heap.size + 4) (w.heap.size + 2) c m ve vn vh vl rows _ zs W hs hM (by omega) h4 hp).mono ?_
    rintro e w' ⟨sh, z, hd, ⟨z0, z6, rfl, hb⟩ | ⟨hz, rfl, vn', vh', vl', hM', hpa, hk⟩⟩
    · have e : shotP (m, (zs, 0)) = (m, (zs, z)) := by unfold shotP; simp only [if_true, hd]; rw [if_pos ⟨z0, z6⟩]
      rw [e]
      exact ⟨0, z, rfl, Nat.zero_le _, rfl, ⟨ve, vn, vh, vl, rows, hM.below hb⟩, Past.below (hb.mono h4) _, KeepT.below hb, trivial⟩
    · have e : shotP (m, (zs, 0)) = ({ m with shot := sh }, ([], 0)) := by unfold shotP; simp only [if_true, hd]; rw [if_neg (fun q => hz.elim q.1 q.2)]
      rw [e]
      exact ⟨zs.length, 0, rfl, Nat.le_refl _, by rw [List.drop_length], ⟨ve, vn', vh', vl', rows, hM'⟩, hpa, hk, trivial⟩
  · have e : shotP (m, (zs, e0)) = (m, (zs, e0)) := if_neg he
    rw [e]
    exact nextE_skip h he trivial
theorem step_end (w : World) (s : MSt) (W : World) (h : RD w s W) : NextC w (.func (.func 67) #[] #[]) (endP s) (fun _ => True) W := by
  obtain ⟨m, zs, e0⟩ := s
  by_cases he : e0 = 0
  · subst he
    refine next_end w m zs _ _ W h (deaf_true w) fun a cap hs => ?_
    refine (end_part _ zs W hs).mono ?_
    rintro e w' ⟨rfl, rfl⟩
    exact ⟨0, _, rfl, Nat.zero_le _, rfl, h.2.2.1, ⟨rfl, rfl, rfl, Nat.le_refl _, fun _ _ _ => rfl⟩, KeepT.refl _, trivial⟩
  · have e : endP (m, (zs, e0)) = (m, (zs, e0)) := if_neg he
    rw [e]
    exact nextE_skip h he trivial
/-- the box of how many entries there are -/
def Cnt (q : Nat) (n : Nat) (W : World) : Prop := W.heap[q]? = some (.cells #[.int .u64 (n : Nat)] 22 (0, 0))
theorem MM.onlyT {B0 g2 q : Nat} {m : Mes} {ve vn vh vl : Value} {rows : List ERow} {W W' : World} {cs : Array Value} (h : MM B0 g2 m ve vn vh vl rows W) (ho : Only (· = q) W W') (hq : W.heap[q]? = some (.cells cs 22 (0, 0))) : MM B0 g2 m ve vn vh vl rows W' := by
  obtain ⟨h1, h2, h3, h4, h5, h6, h7, h8, h9⟩ := h
  have hb : ∀ k, k < W.heap.size → k ≠ q → W'.heap[k]? = W.heap[k]? := fun k hk hn => ho.2.2.2.2 k hk hn
  have hg : g2 ≠ q := fun e => by
    subst e
    rw [h1] at hq
    simp only [Option.some.injEq, Obj.cells.injEq] at hq
    exact absurd hq.2.1 (by decide)
  exact ⟨(hb _ (row_lt h1) hg).trans h1, own_blk h2 (own_ty h2 hq (by decide)) hb, fun r hr => ⟨own_blk (h3 r hr).1 (own_ty (h3 r hr).1 hq (by decide)) hb, (h3 r hr).2⟩, h4, own_blk h5 (own_ty h5 hq (by decide)) hb, own_blk h6 (own_ty h6 hq (by decide)) hb, own_blk h7 (own_ty h7 hq (by decide)) hb, h8, h9⟩
theorem step_many (w : World) (s : MSt) (W : World) (c q : Nat) (h : RD w s W) (hp : PtrB W c 98 q 0) (hq : Cnt q 0 W) (hq4 : w.heap.size + 4 ≤ q) : NextC w (.func (.func 88) #[] #[.pointer (some ⟨c, 0, none⟩)]) (s.1, (manyP s.2).2) (Cnt q (manyP s.2).1) W := by
  obtain ⟨m, zs, e0⟩ := s
  have hdeaf : ∀ n, Deaf w (Cnt q n) := fun n w1 g u hg hx => (heap_setCell_other _ ⟨g, 0, none⟩ q _ (by simp; omega)).trans hx
  by_cases he : e0 = 0
  · subst he
    have h4 := h.2.2.2.2.2
    obtain ⟨ve, vn, vh, vl, rows, hM⟩ := h.2.2.1
    refine next_manyInto w m zs _ _ c W h (hdeaf _) fun a cap hs => ?_
    refine (many_part _ zs c q 0 #[.int .u64 0] 22 98 _ W hs hp hq rfl).mono ?_
    rintro e w' (⟨hn, rfl, rfl⟩ | ⟨hn, rfl, hset⟩)
    · have e : manyP (zs, 0) = (0, (zs, 11)) := by unfold manyP; simp only [if_true]; rw [if_pos hn]
      dsimp only
      rw [e]
      exact ⟨0, 11, rfl, Nat.zero_le _, rfl, ⟨ve, vn, vh, vl, rows, hM⟩, ⟨rfl, rfl, rfl, Nat.le_refl _, fun _ _ _ => rfl⟩, KeepT.refl _, hq⟩
    · have e : manyP (zs, 0) = ((Oc.rdL zs).1, (zs.drop (Oc.rdL zs).2.1, (Oc.rdL zs).2.2)) := by unfold manyP; simp only [if_true]; rw [if_neg (by omega)]
      dsimp only
      rw [e]
      exact ⟨_, _, rfl, rd_len (n := (Oc.rdL zs).1) (e := (Oc.rdL zs).2.2) rfl, rfl, ⟨ve, vn, vh, vl, rows, hM.onlyT hset.1 hq⟩, ⟨hset.1.1, hset.1.2.1, hset.1.2.2.1, hset.1.2.2.2.1, fun k hk hn => hset.1.2.2.2.2 k (by omega) (by omega)⟩, KeepT.only hset.1 hq (by decide), hset.2⟩
  · have e : manyP (zs, e0) = (0, (zs, e0)) := if_neg he
    dsimp only
    rw [e]
    exact nextE_skip h he hq
end Ms
end Go.Proofs.YtbdjihmgdkailaaDoor
