/- Package msg: the parts of a body read, one by one: byte, kind, flag, number, many, end. No condition. -/
import Derived.Test.YtbdjihmgdkailaaDoorMxB
import Derived.Deep.QuietTactic
import Derived.BigRegion
namespace Go.Proofs.YtbdjihmgdkailaaDoor
open Go.ChangeShapes Go.WideShapes Go.ChangeAt Go.RowKit Go.Deep
set_option linter.unusedVariables false
set_option maxRecDepth 100000
namespace Ms
open Nv Cm Sc
/-- a box that holds a pointer -/
def PtrB (W : World) (c : Nat) (t : TypeId) (gm off : Nat) : Prop := W.heap[c]? = some (.cells #[.pointer (some ⟨gm, off, none⟩)] t (0, 0))
theorem PtrB.cell {W : World} {c : Nat} {t : TypeId} {gm off : Nat} (h : PtrB W c t gm off) : W.cell? ⟨c, 0, none⟩ = some (.pointer (some ⟨gm, off, none⟩)) := (cell_of_row W c 0 _ _ _ h).trans rfl
/-- a row in which one cell is new -/
def SetC (W : World) (gm off : Nat) (cs : Array Value) (t : TypeId) (u : Value) (w' : World) : Prop := Only (· = gm) W w' ∧ w'.heap[gm]? = some (.cells (cs.setIfInBounds off u) t (0, 0))
theorem setC_of {W : World} {gm off : Nat} {cs : Array Value} {t : TypeId} {u : Value} (h : W.heap[gm]? = some (.cells cs t (0, 0))) : SetC W gm off cs t u (W.setCell ⟨gm, off, none⟩ u) :=
  ⟨Only.setCell _ _ _ rfl, heap_setCell_same W gm off _ _ u h⟩
theorem SetC.drew {W w' : World} {gm off : Nat} {cs : Array Value} {t : TypeId} {u : Value} (h : SetC W.drew gm off cs t u w') : SetC W gm off cs t u w' := h
def ByteE (gm off : Nat) (cs : Array Value) (t : TypeId) (zs : List Int) (W : World) (e : Ending) (w' : World) : Prop :=
  (zs = [] ∧ e = .returned (.tuple #[.int .i64 0, .int .i64 10]) ∧ W = w') ∨ ∃ x r, zs = x :: r ∧ 0 ≤ x ∧ x ≤ 255 ∧ e = .returned (.tuple #[.int .i64 1, .int .i64 0]) ∧ SetC W gm off cs t (.int .i64 x) w'
set_option maxHeartbeats 2000000 in
theorem byte_any (v : Value) (zs : List Int) (c gm off : Nat) (cs : Array Value) (t tp : TypeId) (u0 : Value) (W : World) (hs : Sl .u8 W v zs) (hp : PtrB W c tp gm off) (hm : W.heap[gm]? = some (.cells cs t (0, 0))) (hu : cs[off]? = some u0) :
    Calls Tryd.prog 84 #[v, .pointer (some ⟨c, 0, none⟩)] W (ByteE gm off cs t zs W) := by
  have c0 := hp.cell
  rcases Nd.Sl.cases hs with ⟨a, cap, rfl, rfl⟩ | ⟨b, o, cap, rfl, h0, hlc, hcm, hlt, hc⟩
  · clear hs
    go_enter Tryd.func84, Tryd.ntmps84
    go_wp2
    go_ret2
    exact .inl ⟨rfl, rfl, rfl⟩
  · obtain ⟨x, r, rfl⟩ : ∃ x r, zs = x :: r := by
      cases zs with
      | nil => simp at h0
      | cons x r => exact ⟨x, r, rfl⟩
    have hx := hc 0 h0
    have hwx : 0 ≤ x ∧ x ≤ 255 := by
      have q := hs.wf x (by simp)
      simp [Lit.wf, IntKind.min, IntKind.max, IntKind.signed, IntKind.bits] at q
      omega
    have hm0 : W.cell? ⟨gm, off, none⟩ = some u0 := (cell_of_row W gm off _ _ _ hm).trans hu
    have hf0 : W.frozen? ⟨gm, off, none⟩ = false := frozen_of_row W gm off _ _ hm
    have HM := Lib.hid hm
    have hne : (((r.length + 1 : Nat) : Int) == 0) = false := beq_eq_false_iff_ne.2 (by omega)
    simp only [List.getD_cons_zero, Nat.add_zero] at hx
    clear hs hc hm hu
    go_enter Tryd.func84, Tryd.ntmps84
    go_wp2_with fail
    go_region
    all_goals (go_wp2; go_ret2; exact .inr ⟨x, r, rfl, hwx.1, hwx.2, rfl, setC_of HM.out⟩)
theorem PtrB.only {W w' : World} {S : Nat → Prop} {c : Nat} {t : TypeId} {gm off : Nat} (h : PtrB W c t gm off) (ho : Only S W w') (hs : ¬ S c) : PtrB w' c t gm off := (ho.2.2.2.2 _ (row_lt h) hs).trans h
theorem PtrB.alloc {W : World} {c : Nat} {t : TypeId} {gm off : Nat} (h : PtrB W c t gm off) (o : Obj) : PtrB (W.alloc o) c t gm off := (heap_alloc_old _ _ (row_lt h)).trans h
theorem mk_byteInto (p : Option Addr) (W : World) : Calls Tryd.prog 61 #[.pointer p] W fun e w' => e = .returned (.func (.func 84) #[] #[.pointer (some ⟨W.heap.size, 0, none⟩)]) ∧ w' = W.alloc (.cells #[.pointer p] 96) := by
  go_enter Tryd.func61, Tryd.ntmps61
  go_wp2
  go_ret
  exact ⟨rfl, rfl⟩
theorem mk_kindInto (p : Option Addr) (W : World) : Calls Tryd.prog 60 #[.pointer p] W fun e w' => e = .returned (.func (.func 83) #[] #[.pointer (some ⟨W.heap.size, 0, none⟩)]) ∧ w' = W.alloc (.cells #[.pointer p] 96) := by
  go_enter Tryd.func60, Tryd.ntmps60
  go_wp2
  go_ret
  exact ⟨rfl, rfl⟩
theorem mk_flagInto (p : Option Addr) (W : World) : Calls Tryd.prog 63 #[.pointer p] W fun e w' => e = .returned (.func (.func 87) #[] #[.pointer (some ⟨W.heap.size, 0, none⟩)]) ∧ w' = W.alloc (.cells #[.pointer p] 100) := by
  go_enter Tryd.func63, Tryd.ntmps63
  go_wp2
  go_ret
  exact ⟨rfl, rfl⟩
theorem mk_numberInto (p : Option Addr) (W : World) : Calls Tryd.prog 62 #[.pointer p] W fun e w' => e = .returned (.func (.func 85) #[] #[.pointer (some ⟨W.heap.size, 0, none⟩)]) ∧ w' = W.alloc (.cells #[.pointer p] 98) := by
  go_enter Tryd.func62, Tryd.ntmps62
  go_wp2
  go_ret
  exact ⟨rfl, rfl⟩
theorem mk_manyInto (p : Option Addr) (W : World) : Calls Tryd.prog 64 #[.pointer p] W fun e w' => e = .returned (.func (.func 88) #[] #[.pointer (some ⟨W.heap.size, 0, none⟩)]) ∧ w' = W.alloc (.cells #[.pointer p] 98) := by
  go_enter Tryd.func64, Tryd.ntmps64
  go_wp2
  go_ret
  exact ⟨rfl, rfl⟩
theorem mk_entryInto (p : Option Addr) (W : World) : Calls Tryd.prog 65 #[.pointer p] W fun e w' => e = .returned (.func (.func 89) #[] #[.pointer (some ⟨W.heap.size, 0, none⟩)]) ∧ w' = W.alloc (.cells #[.pointer p] 102) := by
  go_enter Tryd.func65, Tryd.ntmps65
  go_wp2
  go_ret
  exact ⟨rfl, rfl⟩
theorem mk_shotInto (p : Option Addr) (W : World) : Calls Tryd.prog 66 #[.pointer p] W fun e w' => e = .returned (.func (.func 91) #[] #[.pointer (some ⟨W.heap.size, 0, none⟩)]) ∧ w' = W.alloc (.cells #[.pointer p] 104) := by
  go_enter Tryd.func66, Tryd.ntmps66
  go_wp2
  go_ret
  exact ⟨rfl, rfl⟩
def KindE (gm off : Nat) (cs : Array Value) (t : TypeId) (zs : List Int) (W : World) (e : Ending) (w' : World) : Prop :=
  (zs = [] ∧ e = .returned (.tuple #[.int .i64 0, .int .i64 10]) ∧ Only (· = gm) W w' ∧ w'.heap[gm]? = W.heap[gm]?) ∨ ∃ x r, zs = x :: r ∧ 0 ≤ x ∧ x ≤ 255 ∧ SetC W gm off cs t (.int .i64 x) w' ∧
    ((kindM x ∧ e = .returned (.tuple #[.int .i64 1, .int .i64 0])) ∨ (¬ kindM x ∧ e = .returned (.tuple #[.int .i64 0, .int .i64 11])))
theorem ret_t2 {k e : Int} {a b : Int} (h : a = k) (g : b = e) : Ending.returned (.tuple #[.int .i64 a, .int .i64 b]) = .returned (.tuple #[.int .i64 k, .int .i64 e]) := by rw [h, g]
set_option maxHeartbeats 4000000 in
theorem kind_any (v : Value) (zs : List Int) (c gm off : Nat) (cs : Array Value) (t tp : TypeId) (u0 : Value) (W : World) (hs : Sl .u8 W v zs) (hp : PtrB W c tp gm off) (hm : W.heap[gm]? = some (.cells cs t (0, 0))) (hu : cs[off]? = some u0) (hcg : c ≠ gm) :
    Calls Tryd.prog 83 #[v, .pointer (some ⟨c, 0, none⟩)] W (KindE gm off cs t zs W) := by
  have c0 := hp.cell
  have hgm := row_lt hm
  have hoff : off < cs.size := (Array.getElem?_eq_some_iff.1 hu).1
  have hb1 : Below W.heap.size W (W.alloc (.cells #[.pointer (some ⟨gm, off, none⟩)] 96)) := (Below.refl _ _).alloc (Nat.le_refl _) _
  have HS1 := Lib.hid (hs.below hb1 (Nat.le_refl _))
  have HO1 : Hid (Only (· = gm) W (W.alloc (.cells #[.pointer (some ⟨gm, off, none⟩)] 96))) := Lib.hid (Only.alloc _ _ _)
  have HM1 : Hid ((W.alloc (.cells #[.pointer (some ⟨gm, off, none⟩)] 96)).heap[gm]? = some (.cells cs t (0, 0))) := Lib.hid ((heap_alloc_old _ _ hgm).trans hm)
  have HP1 : Hid (PtrB (W.alloc (.cells #[.pointer (some ⟨gm, off, none⟩)] 96)) W.heap.size 96 gm off) := Lib.hid (heap_alloc_new _ _)
  have HC1 := Lib.hid (hp.alloc (.cells #[.pointer (some ⟨gm, off, none⟩)] 96))
  have HM := Lib.hid hm
  have HU := Lib.hid hu
  have HCG := Lib.hid hcg
  have HOF := Lib.hid hoff
  have hn0 : ∀ w' : World, (binOp BinOp.eql 45 (.slice none 0 0) (.slice none 0 0)).run Tryd.prog w' = .ok (.bool true) w' := fun _ => by first | kernel_rfl | rfl
  clear hs hp hm hu hcg hb1 hoff hgm
  go_enter Tryd.func83, Tryd.ntmps83
  go_wp2_with (go_at_call 61; refine (mk_byteInto _ _).mono ?_; rintro e w1 ⟨rfl, rfl⟩)
  refine (byte_any _ zs W.heap.size gm off cs t 96 u0 _ HS1.out HP1.out HM1.out HU.out).mono ?_
  rintro e w2 hE
  rcases hE with ⟨rfl, rfl, rfl⟩ | ⟨x, r, rfl, x0, x1, rfl, hset⟩
  · go_wp2
    go_ret2
    exact .inl ⟨rfl, rfl, HO1.out, HM1.out.trans HM.out.symm⟩
  · have c2 := (HC1.out.only hset.1 HCG.out).cell
    have hx2 : w2.cell? ⟨gm, off, none⟩ = some (.int .i64 x) := (cell_of_row _ _ off _ _ _ hset.2).trans (by rw [Array.getElem?_setIfInBounds_self_of_lt HOF.out])
    have HSET : Hid (SetC W gm off cs t (.int .i64 x) w2) := Lib.hid ⟨HO1.out.trans hset.1, hset.2⟩
    clear hset
    by_cases hk : kindM x
    · have HK := Lib.hid hk
      clear hk
      go_wp2_with fail
      refine (fields_any x _ HK.out).mono ?_
      rintro e w3 ⟨⟨fb, fo, fs⟩, fc, rfl, -, hb3⟩
      have HS3 : Hid (SetC W gm off cs t (.int .i64 x) w3) := Lib.hid ⟨HSET.out.1.trans (Below.only hb3 _), (hb3.block _ (row_lt HSET.out.2)).trans HSET.out.2⟩
      have hn1 : ∀ w' : World, (binOp BinOp.eql 45 (.slice (some ⟨fb, fo, fs⟩) (fieldsM x).length fc) (.slice none 0 0)).run Tryd.prog w' = .ok (.bool false) w' := fun _ => by first | kernel_rfl | rfl
      clear hb3 c2 hx2 hn0
      go_wp2
      go_ret2
      exact .inr ⟨x, r, rfl, x0, x1, HS3.out, .inl ⟨HK.out, rfl⟩⟩
    · have HK := Lib.hid hk
      clear hk
      go_wp2_with fail
      refine (fields_no x _ HK.out).mono ?_
      rintro e w3 ⟨rfl, rfl⟩
      clear c2 hx2
      go_wp2
      go_ret2
      exact .inr ⟨x, r, rfl, x0, x1, HSET.out, .inr ⟨HK.out, rfl⟩⟩
def FlagE (gm off : Nat) (cs : Array Value) (t : TypeId) (zs : List Int) (W : World) (e : Ending) (w' : World) : Prop :=
  (zs = [] ∧ e = .returned (.tuple #[.int .i64 0, .int .i64 10]) ∧ SetC W gm off cs t (.bool false) w') ∨ (∃ x r, zs = x :: r ∧ 1 < x ∧ e = .returned (.tuple #[.int .i64 0, .int .i64 11]) ∧ Only (· = gm) W w' ∧ w'.heap[gm]? = W.heap[gm]?) ∨
    ∃ x r, zs = x :: r ∧ 0 ≤ x ∧ x ≤ 1 ∧ e = .returned (.tuple #[.int .i64 1, .int .i64 0]) ∧ SetC W gm off cs t (.bool (x == 1)) w'
theorem only_new {W w1 w2 : World} {g q : Nat} (h : Only (· = g) W w1) (k : Only (· = q) w1 w2) (hq : W.heap.size ≤ q) : Only (· = g) W w2 :=
  ⟨k.1.trans h.1, k.2.1.trans h.2.1, k.2.2.1.trans h.2.2.1, Nat.le_trans h.2.2.2.1 k.2.2.2.1, fun x hx hn => (k.2.2.2.2 x (Nat.lt_of_lt_of_le hx h.2.2.2.1) (by omega)).trans (h.2.2.2.2 x hx hn)⟩
set_option maxHeartbeats 4000000 in
theorem flag_any (v : Value) (zs : List Int) (c gm off : Nat) (cs : Array Value) (t tp : TypeId) (u0 : Value) (W : World) (hs : Sl .u8 W v zs) (hp : PtrB W c tp gm off) (hm : W.heap[gm]? = some (.cells cs t (0, 0))) (hu : cs[off]? = some u0) (hcg : c ≠ gm) :
    Calls Tryd.prog 87 #[v, .pointer (some ⟨c, 0, none⟩)] W (FlagE gm off cs t zs W) := by
  have hgm := row_lt hm
  have hcl := row_lt hp
  obtain ⟨W1, hW1⟩ : ∃ q, (W.alloc (.cells #[.int .i64 0] 3)).alloc (.cells #[.pointer (some ⟨W.heap.size, 0, none⟩)] 96) = q := ⟨_, rfl⟩
  have hb1 : Below W.heap.size W W1 := by rw [← hW1]; exact ((Below.refl _ _).alloc (Nat.le_refl _) _).alloc (by simp) _
  have HS1 := Lib.hid (hs.below hb1 (Nat.le_refl _))
  have HO1 : Hid (Only (· = gm) W W1) := Lib.hid (Below.only hb1 _)
  have HM1 := Lib.hid ((hb1.block _ hgm).trans hm)
  have HN1 : Hid (W1.heap[W.heap.size]? = some (.cells #[.int .i64 0] 3 (0, 0))) := Lib.hid (by rw [← hW1]; exact heap_alloc2_old _ _ _)
  have HP1 : Hid (PtrB W1 (W.heap.size + 1) 96 W.heap.size 0) := Lib.hid (by rw [← hW1]; exact heap_alloc2_new _ _ _)
  have HC1 : Hid (PtrB W1 c tp gm off) := Lib.hid ((hb1.block _ hcl).trans hp)
  have HM := Lib.hid hm
  have HU := Lib.hid hu
  have HGM := Lib.hid hgm
  have HCL := Lib.hid hcl
  clear hs hp hm hu hb1 hgm hcl
  go_enter Tryd.func87, Tryd.ntmps87
  go_wp2_with (go_at_call 61; refine (mk_byteInto _ _).mono ?_; rintro e w1 ⟨rfl, rfl⟩)
  refine (byte_any _ zs (W.heap.size + 1) W.heap.size 0 #[.int .i64 0] 3 96 (.int .i64 0) W1 HS1.out HP1.out HN1.out rfl).mono ?_
  clear hW1
  rintro e w2 hE
  rcases hE with ⟨rfl, rfl, rfl⟩ | ⟨x, r, rfl, x0, x1, rfl, hset⟩
  · have c1 := HC1.out.cell
    have c2 : W1.cell? ⟨W.heap.size, 0, none⟩ = some (.int .i64 0) := (cell_of_row _ _ 0 _ _ _ HN1.out).trans rfl
    have c3 : W1.cell? ⟨gm, off, none⟩ = some u0 := (cell_of_row _ _ off _ _ _ HM1.out).trans HU.out
    have f3 : W1.frozen? ⟨gm, off, none⟩ = false := frozen_of_row _ _ off _ _ HM1.out
    have HFIN : Hid (SetC W gm off cs t (.bool false) (W1.setCell ⟨gm, off, none⟩ (.bool false))) := Lib.hid (by
      have q := setC_of (off := off) (u := .bool false) HM1.out
      exact ⟨HO1.out.trans q.1, q.2⟩)
    go_wp2
    go_ret2
    exact .inl ⟨rfl, rfl, HFIN.out⟩
  · have hO2 : Only (· = gm) W w2 := only_new HO1.out hset.1 (Nat.le_refl _)
    have HM2 : Hid (w2.heap[gm]? = some (.cells cs t (0, 0))) := Lib.hid ((hset.1.2.2.2.2 _ (row_lt HM1.out) (by have := HGM.out; omega)).trans HM1.out)
    have c1 := (HC1.out.only hset.1 (by have := HCL.out; omega)).cell
    have c2 : w2.cell? ⟨W.heap.size, 0, none⟩ = some (.int .i64 x) := (cell_of_row _ _ 0 _ _ _ hset.2).trans rfl
    have c3 : w2.cell? ⟨gm, off, none⟩ = some u0 := (cell_of_row _ _ off _ _ _ HM2.out).trans HU.out
    have f3 : w2.frozen? ⟨gm, off, none⟩ = false := frozen_of_row _ _ off _ _ HM2.out
    have HO2 := Lib.hid hO2
    clear hset hO2
    by_cases hx : 1 < x
    · go_wp2
      go_ret2
      exact .inr (.inl ⟨x, r, rfl, hx, rfl, HO2.out, HM2.out.trans HM.out.symm⟩)
    · have hx2 : x ≤ 1 := by omega
      have HFIN : Hid (SetC W gm off cs t (.bool (x == 1)) (w2.setCell ⟨gm, off, none⟩ (.bool (x == 1)))) := Lib.hid (by
        have q := setC_of (off := off) (u := .bool (x == 1)) HM2.out
        exact ⟨HO2.out.trans q.1, q.2⟩)
      clear hx
      go_wp2
      go_ret2
      exact .inr (.inr ⟨x, r, rfl, x0, hx2, rfl, HFIN.out⟩)
def NumP (gm off : Nat) (cs : Array Value) (t : TypeId) (r : Nat × Nat × Int) (W : World) (e : Ending) (w' : World) : Prop :=
  e = .returned (.tuple #[.int .i64 r.2.1, .int .i64 r.2.2]) ∧ SetC W gm off cs t (.int .u64 r.1) w'
set_option maxHeartbeats 4000000 in
theorem num_part (v : Value) (zs : List Int) (c gm off : Nat) (cs : Array Value) (t tp : TypeId) (u0 : Value) (W : World) (hs : Sl .u8 W v zs) (hp : PtrB W c tp gm off) (hm : W.heap[gm]? = some (.cells cs t (0, 0))) (hu : cs[off]? = some u0) :
    Calls Tryd.prog 85 #[v, .pointer (some ⟨c, 0, none⟩)] W (NumP gm off cs t (Oc.rdL zs) W) := by
  rcases hr : Oc.rdL zs with ⟨n, k, er⟩
  have HR := Lib.hid hr
  have HS := Lib.hid hs
  have c0 := hp.cell
  have hm0 : W.cell? ⟨gm, off, none⟩ = some u0 := (cell_of_row W gm off _ _ _ hm).trans hu
  have hf0 : W.frozen? ⟨gm, off, none⟩ = false := frozen_of_row W gm off _ _ hm
  have HM := Lib.hid hm
  clear hr hs hp hm hu
  go_enter Tryd.func85, Tryd.ntmps85
  go_wp2_with fail
  refine (read_q HR.out HS.out).mono ?_
  rintro e w1 ⟨rfl, rfl⟩
  go_wp2
  go_ret2
  exact ⟨rfl, setC_of HM.out⟩
def ManyP (gm off : Nat) (cs : Array Value) (t : TypeId) (r : Nat × Nat × Int) (W : World) (e : Ending) (w' : World) : Prop :=
  (4 < r.1 ∧ e = .returned (.tuple #[.int .i64 0, .int .i64 11]) ∧ W = w') ∨ (r.1 ≤ 4 ∧ e = .returned (.tuple #[.int .i64 r.2.1, .int .i64 r.2.2]) ∧ SetC W gm off cs t (.int .u64 r.1) w')
set_option maxHeartbeats 4000000 in
theorem many_part (v : Value) (zs : List Int) (c gm off : Nat) (cs : Array Value) (t tp : TypeId) (u0 : Value) (W : World) (hs : Sl .u8 W v zs) (hp : PtrB W c tp gm off) (hm : W.heap[gm]? = some (.cells cs t (0, 0))) (hu : cs[off]? = some u0) :
    Calls Tryd.prog 88 #[v, .pointer (some ⟨c, 0, none⟩)] W (ManyP gm off cs t (Oc.rdL zs) W) := by
  rcases hr : Oc.rdL zs with ⟨n, k, er⟩
  have HR := Lib.hid hr
  have HS := Lib.hid hs
  have c0 := hp.cell
  have hm0 : W.cell? ⟨gm, off, none⟩ = some u0 := (cell_of_row W gm off _ _ _ hm).trans hu
  have hf0 : W.frozen? ⟨gm, off, none⟩ = false := frozen_of_row W gm off _ _ hm
  have HM := Lib.hid hm
  clear hr hs hp hm hu
  by_cases hn : 4 < n
  · have hn2 : (4 : Int) < (n : Int) := by omega
    go_enter Tryd.func88, Tryd.ntmps88
    go_wp2_with fail
    refine (read_q HR.out HS.out).mono ?_
    rintro e w1 ⟨rfl, rfl⟩
    go_wp2
    go_ret2
    exact .inl ⟨hn, rfl, rfl⟩
  · have hn2 : (n : Int) ≤ 4 := by omega
    have HN : Hid (n ≤ 4) := Lib.hid (by omega)
    clear hn
    go_enter Tryd.func88, Tryd.ntmps88
    go_wp2_with fail
    refine (read_q HR.out HS.out).mono ?_
    rintro e w1 ⟨rfl, rfl⟩
    go_wp2
    go_ret2
    exact .inr ⟨HN.out, rfl, setC_of HM.out⟩
theorem end_part (v : Value) (zs : List Int) (W : World) (hs : Sl .u8 W v zs) : Calls Tryd.prog 67 #[v] W fun e w' => e = .returned (.tuple #[.int .i64 0, .int .i64 (if zs = [] then 0 else 11)]) ∧ W = w' := by
  obtain ⟨a, cap, rfl, -⟩ := id hs
  clear hs
  by_cases hz : zs = []
  · subst hz
    go_enter Tryd.func67, Tryd.ntmps67
    go_wp2
    go_ret2
    exact ⟨rfl, rfl⟩
  · have hl : (0 : Int) < (zs.length : Int) := by have := List.length_pos_iff.2 hz; omega
    rw [if_neg hz]
    go_enter Tryd.func67, Tryd.ntmps67
    go_wp2
    go_ret2
    exact ⟨rfl, rfl⟩
end Ms
end Go.Proofs.YtbdjihmgdkailaaDoor
