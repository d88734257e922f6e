/- Package msg: the parts of a body read, one by one: byte, kind, flag, number, many, end. No condition. Package msg: the parts of a body read: an entry, a snapshot. No condition. -/
import Derived.Test.YtlfaiemebfkajaaGreatDoorMxM
import Derived.Deep.QuietTactic
import Derived.BigRegion
import Derived.Test.YtlfaiemebfkajaaGreatDoorEdZ
import Derived.Test.YtlfaiemebfkajaaGreatDoorMsH
import Derived.Deep.RegionHeld3
import Derived.Deep.MidRow
namespace Go.Proofs.YtlfaiemebfkajaaGreatDoor
open Go.ChangeShapes Go.WideShapes Go.ChangeAt Go.RowKit Go.Deep
set_option linter.unusedVariables false
set_option maxRecDepth 100000
namespace Ms
open Nv Cm Sc
/-- a box that holds a pointer -/
def PtrB (W : World) (c : Nat) (t : TypeId) (gm off : Nat) : Prop := W.heap[c]? = some (.cells #[.pointer (some ⟨gm, off, none⟩)] t (0, 0))
theorem PtrB.cell {W : World} {c : Nat} {t : TypeId} {gm off : Nat} (h : PtrB W c t gm off) : W.cell? ⟨c, 0, none⟩ = some (.pointer (some ⟨gm, off, none⟩)) := (cell_of_row W c 0 _ _ _ h).trans rfl
/-- a row in which one cell is new -/
def SetC (W : World) (gm off : Nat) (cs : Array Value) (t : TypeId) (u : Value) (w' : World) : Prop := Only (· = gm) W w' ∧ w'.heap[gm]? = some (.cells (cs.setIfInBounds off u) t (0, 0))
theorem setC_of {W : World} {gm off : Nat} {cs : Array Value} {t : TypeId} {u : Value} (h : W.heap[gm]? = some (.cells cs t (0, 0))) : SetC W gm off cs t u (W.setCell ⟨gm, off, none⟩ u) :=
  ⟨Only.setCell _ _ _ rfl, heap_setCell_same W gm off _ _ u h⟩
theorem SetC.drew {W w' : World} {gm off : Nat} {cs : Array Value} {t : TypeId} {u : Value} (h : SetC W.drew gm off cs t u w') : SetC W gm off cs t u w' := h
def ByteE (gm off : Nat) (cs : Array Value) (t : TypeId) (zs : List Int) (W : World) (e : Ending) (w' : World) : Prop :=
  (zs = [] ∧ e = .returned (.tuple #[.int .i64 0, .int .i64 10]) ∧ W = w') ∨ ∃ x r, zs = x :: r ∧ 0 ≤ x ∧ x ≤ 255 ∧ e = .returned (.tuple #[.int .i64 1, .int .i64 0]) ∧ SetC W gm off cs t (.int .i64 x) w'
set_option maxHeartbeats 2000000 in
theorem byte_any (v : Value) (zs : List Int) (c gm off : Nat) (cs : Array Value) (t tp : TypeId) (u0 : Value) (W : World) (hs : Sl .u8 W v zs) (hp : PtrB W c tp gm off) (hm : W.heap[gm]? = some (.cells cs t (0, 0))) (hu : cs[off]? = some u0) :
    Calls Tryz.prog 59 #[v, .pointer (some ⟨c, 0, none⟩)] W (ByteE gm off cs t zs W) := by
  have c0 := hp.cell
  rcases Nd.Sl.cases hs with ⟨a, cap, rfl, rfl⟩ | ⟨b, o, cap, rfl, h0, hlc, hcm, hlt, hc⟩
  · clear hs
    go_enter Tryz.func59, Tryz.ntmps59
    go_wp2
    go_ret2
    exact .inl ⟨rfl, rfl, rfl⟩
  · obtain ⟨x, r, rfl⟩ : ∃ x r, zs = x :: r := by
      cases zs with
      | nil => simp at h0
      | cons x r => exact ⟨x, r, rfl⟩
    have hx := hc 0 h0
    have hwx : 0 ≤ x ∧ x ≤ 255 := by
      have q := hs.wf x (by simp)
      simp [Lit.wf, IntKind.min, IntKind.max, IntKind.signed, IntKind.bits] at q
      omega
    have hm0 : W.cell? ⟨gm, off, none⟩ = some u0 := (cell_of_row W gm off _ _ _ hm).trans hu
    have hf0 : W.frozen? ⟨gm, off, none⟩ = false := frozen_of_row W gm off _ _ hm
    have HM := Lib.hid hm
    have hne : (((r.length + 1 : Nat) : Int) == 0) = false := beq_eq_false_iff_ne.2 (by omega)
    simp only [List.getD_cons_zero, Nat.add_zero] at hx
    clear hs hc hm hu
    go_enter Tryz.func59, Tryz.ntmps59
    go_wp2_with fail
    go_region
    all_goals (go_wp2; go_ret2; exact .inr ⟨x, r, rfl, hwx.1, hwx.2, rfl, setC_of HM.out⟩)
theorem PtrB.only {W w' : World} {S : Nat → Prop} {c : Nat} {t : TypeId} {gm off : Nat} (h : PtrB W c t gm off) (ho : Only S W w') (hs : ¬ S c) : PtrB w' c t gm off := (ho.2.2.2.2 _ (row_lt h) hs).trans h
theorem PtrB.alloc {W : World} {c : Nat} {t : TypeId} {gm off : Nat} (h : PtrB W c t gm off) (o : Obj) : PtrB (W.alloc o) c t gm off := (heap_alloc_old _ _ (row_lt h)).trans h
theorem mk_byteInto (p : Option Addr) (W : World) : Calls Tryz.prog 28 #[.pointer p] W fun e w' => e = .returned (.func (.func 59) #[] #[.pointer (some ⟨W.heap.size, 0, none⟩)]) ∧ w' = W.alloc (.cells #[.pointer p] 65) := by
  go_enter Tryz.func28, Tryz.ntmps28
  go_wp2
  go_ret
  exact ⟨rfl, rfl⟩
theorem mk_kindInto (p : Option Addr) (W : World) : Calls Tryz.prog 27 #[.pointer p] W fun e w' => e = .returned (.func (.func 58) #[] #[.pointer (some ⟨W.heap.size, 0, none⟩)]) ∧ w' = W.alloc (.cells #[.pointer p] 65) := by
  go_enter Tryz.func27, Tryz.ntmps27
  go_wp2
  go_ret
  exact ⟨rfl, rfl⟩
theorem mk_flagInto (p : Option Addr) (W : World) : Calls Tryz.prog 31 #[.pointer p] W fun e w' => e = .returned (.func (.func 62) #[] #[.pointer (some ⟨W.heap.size, 0, none⟩)]) ∧ w' = W.alloc (.cells #[.pointer p] 72) := by
  go_enter Tryz.func31, Tryz.ntmps31
  go_wp2
  go_ret
  exact ⟨rfl, rfl⟩
theorem mk_numberInto (p : Option Addr) (W : World) : Calls Tryz.prog 30 #[.pointer p] W fun e w' => e = .returned (.func (.func 60) #[] #[.pointer (some ⟨W.heap.size, 0, none⟩)]) ∧ w' = W.alloc (.cells #[.pointer p] 70) := by
  go_enter Tryz.func30, Tryz.ntmps30
  go_wp2
  go_ret
  exact ⟨rfl, rfl⟩
theorem mk_manyInto (p : Option Addr) (W : World) : Calls Tryz.prog 32 #[.pointer p] W fun e w' => e = .returned (.func (.func 63) #[] #[.pointer (some ⟨W.heap.size, 0, none⟩)]) ∧ w' = W.alloc (.cells #[.pointer p] 70) := by
  go_enter Tryz.func32, Tryz.ntmps32
  go_wp2
  go_ret
  exact ⟨rfl, rfl⟩
theorem mk_entryInto (p : Option Addr) (W : World) : Calls Tryz.prog 33 #[.pointer p] W fun e w' => e = .returned (.func (.func 64) #[] #[.pointer (some ⟨W.heap.size, 0, none⟩)]) ∧ w' = W.alloc (.cells #[.pointer p] 74) := by
  go_enter Tryz.func33, Tryz.ntmps33
  go_wp2
  go_ret
  exact ⟨rfl, rfl⟩
theorem mk_shotInto (p : Option Addr) (W : World) : Calls Tryz.prog 34 #[.pointer p] W fun e w' => e = .returned (.func (.func 66) #[] #[.pointer (some ⟨W.heap.size, 0, none⟩)]) ∧ w' = W.alloc (.cells #[.pointer p] 76) := by
  go_enter Tryz.func34, Tryz.ntmps34
  go_wp2
  go_ret
  exact ⟨rfl, rfl⟩
def KindE (gm off : Nat) (cs : Array Value) (t : TypeId) (zs : List Int) (W : World) (e : Ending) (w' : World) : Prop :=
  (zs = [] ∧ e = .returned (.tuple #[.int .i64 0, .int .i64 10]) ∧ Only (· = gm) W w' ∧ w'.heap[gm]? = W.heap[gm]?) ∨ ∃ x r, zs = x :: r ∧ 0 ≤ x ∧ x ≤ 255 ∧ SetC W gm off cs t (.int .i64 x) w' ∧
    ((kindM x ∧ e = .returned (.tuple #[.int .i64 1, .int .i64 0])) ∨ (¬ kindM x ∧ e = .returned (.tuple #[.int .i64 0, .int .i64 11])))
theorem ret_t2 {k e : Int} {a b : Int} (h : a = k) (g : b = e) : Ending.returned (.tuple #[.int .i64 a, .int .i64 b]) = .returned (.tuple #[.int .i64 k, .int .i64 e]) := by rw [h, g]
set_option maxHeartbeats 4000000 in
theorem kind_any (v : Value) (zs : List Int) (c gm off : Nat) (cs : Array Value) (t tp : TypeId) (u0 : Value) (W : World) (hs : Sl .u8 W v zs) (hp : PtrB W c tp gm off) (hm : W.heap[gm]? = some (.cells cs t (0, 0))) (hu : cs[off]? = some u0) (hcg : c ≠ gm) :
    Calls Tryz.prog 58 #[v, .pointer (some ⟨c, 0, none⟩)] W (KindE gm off cs t zs W) := by
  have c0 := hp.cell
  have hgm := row_lt hm
  have hoff : off < cs.size := (Array.getElem?_eq_some_iff.1 hu).1
  have hb1 : Below W.heap.size W (W.alloc (.cells #[.pointer (some ⟨gm, off, none⟩)] 65)) := (Below.refl _ _).alloc (Nat.le_refl _) _
  have HS1 := Lib.hid (hs.below hb1 (Nat.le_refl _))
  have HO1 : Hid (Only (· = gm) W (W.alloc (.cells #[.pointer (some ⟨gm, off, none⟩)] 65))) := Lib.hid (Only.alloc _ _ _)
  have HM1 : Hid ((W.alloc (.cells #[.pointer (some ⟨gm, off, none⟩)] 65)).heap[gm]? = some (.cells cs t (0, 0))) := Lib.hid ((heap_alloc_old _ _ hgm).trans hm)
  have HP1 : Hid (PtrB (W.alloc (.cells #[.pointer (some ⟨gm, off, none⟩)] 65)) W.heap.size 65 gm off) := Lib.hid (heap_alloc_new _ _)
  have HC1 := Lib.hid (hp.alloc (.cells #[.pointer (some ⟨gm, off, none⟩)] 65))
  have HM := Lib.hid hm
  have HU := Lib.hid hu
  have HCG := Lib.hid hcg
  have HOF := Lib.hid hoff
  have hn0 : ∀ w' : World, (binOp BinOp.eql 66 (.slice none 0 0) (.slice none 0 0)).run Tryz.prog w' = .ok (.bool true) w' := fun _ => by first | kernel_rfl | rfl
  clear hs hp hm hu hcg hb1 hoff hgm
  go_enter Tryz.func58, Tryz.ntmps58
  go_wp2_with (go_at_call 28; refine (mk_byteInto _ _).mono ?_; rintro e w1 ⟨rfl, rfl⟩)
  refine (byte_any _ zs W.heap.size gm off cs t 65 u0 _ HS1.out HP1.out HM1.out HU.out).mono ?_
  rintro e w2 hE
  rcases hE with ⟨rfl, rfl, rfl⟩ | ⟨x, r, rfl, x0, x1, rfl, hset⟩
  · go_wp2
    go_ret2
    exact .inl ⟨rfl, rfl, HO1.out, HM1.out.trans HM.out.symm⟩
  · have c2 := (HC1.out.only hset.1 HCG.out).cell
    have hx2 : w2.cell? ⟨gm, off, none⟩ = some (.int .i64 x) := (cell_of_row _ _ off _ _ _ hset.2).trans (by rw [Array.getElem?_setIfInBounds_self_of_lt HOF.out])
    have HSET : Hid (SetC W gm off cs t (.int .i64 x) w2) := Lib.hid ⟨HO1.out.trans hset.1, hset.2⟩
    clear hset
    by_cases hk : kindM x
    · have HK := Lib.hid hk
      clear hk
      go_wp2_with fail
      refine (fields_any x _ HK.out).mono ?_
      rintro e w3 ⟨⟨fb, fo, fs⟩, fc, rfl, -, hb3⟩
      have HS3 : Hid (SetC W gm off cs t (.int .i64 x) w3) := Lib.hid ⟨HSET.out.1.trans (Below.only hb3 _), (hb3.block _ (row_lt HSET.out.2)).trans HSET.out.2⟩
      have hn1 : ∀ w' : World, (binOp BinOp.eql 66 (.slice (some ⟨fb, fo, fs⟩) (fieldsM x).length fc) (.slice none 0 0)).run Tryz.prog w' = .ok (.bool false) w' := fun _ => by first | kernel_rfl | rfl
      clear hb3 c2 hx2 hn0
      go_wp2
      go_ret2
      exact .inr ⟨x, r, rfl, x0, x1, HS3.out, .inl ⟨HK.out, rfl⟩⟩
    · have HK := Lib.hid hk
      clear hk
      go_wp2_with fail
      refine (fields_no x _ HK.out).mono ?_
      rintro e w3 ⟨rfl, rfl⟩
      clear c2 hx2
      go_wp2
      go_ret2
      exact .inr ⟨x, r, rfl, x0, x1, HSET.out, .inr ⟨HK.out, rfl⟩⟩
def FlagE (gm off : Nat) (cs : Array Value) (t : TypeId) (zs : List Int) (W : World) (e : Ending) (w' : World) : Prop :=
  (zs = [] ∧ e = .returned (.tuple #[.int .i64 0, .int .i64 10]) ∧ SetC W gm off cs t (.bool false) w') ∨ (∃ x r, zs = x :: r ∧ 1 < x ∧ e = .returned (.tuple #[.int .i64 0, .int .i64 11]) ∧ Only (· = gm) W w' ∧ w'.heap[gm]? = W.heap[gm]?) ∨
    ∃ x r, zs = x :: r ∧ 0 ≤ x ∧ x ≤ 1 ∧ e = .returned (.tuple #[.int .i64 1, .int .i64 0]) ∧ SetC W gm off cs t (.bool (x == 1)) w'
theorem only_new {W w1 w2 : World} {g q : Nat} (h : Only (· = g) W w1) (k : Only (· = q) w1 w2) (hq : W.heap.size ≤ q) : Only (· = g) W w2 :=
  ⟨k.1.trans h.1, k.2.1.trans h.2.1, k.2.2.1.trans h.2.2.1, Nat.le_trans h.2.2.2.1 k.2.2.2.1, fun x hx hn => (k.2.2.2.2 x (Nat.lt_of_lt_of_le hx h.2.2.2.1) (by omega)).trans (h.2.2.2.2 x hx hn)⟩
set_option maxHeartbeats 4000000 in
theorem flag_any (v : Value) (zs : List Int) (c gm off : Nat) (cs : Array Value) (t tp : TypeId) (u0 : Value) (W : World) (hs : Sl .u8 W v zs) (hp : PtrB W c tp gm off) (hm : W.heap[gm]? = some (.cells cs t (0, 0))) (hu : cs[off]? = some u0) (hcg : c ≠ gm) :
    Calls Tryz.prog 62 #[v, .pointer (some ⟨c, 0, none⟩)] W (FlagE gm off cs t zs W) := by
  have hgm := row_lt hm
  have hcl := row_lt hp
  obtain ⟨W1, hW1⟩ : ∃ q, (W.alloc (.cells #[.int .i64 0] 3)).alloc (.cells #[.pointer (some ⟨W.heap.size, 0, none⟩)] 65) = q := ⟨_, rfl⟩
  have hb1 : Below W.heap.size W W1 := by rw [← hW1]; exact ((Below.refl _ _).alloc (Nat.le_refl _) _).alloc (by simp) _
  have HS1 := Lib.hid (hs.below hb1 (Nat.le_refl _))
  have HO1 : Hid (Only (· = gm) W W1) := Lib.hid (Below.only hb1 _)
  have HM1 := Lib.hid ((hb1.block _ hgm).trans hm)
  have HN1 : Hid (W1.heap[W.heap.size]? = some (.cells #[.int .i64 0] 3 (0, 0))) := Lib.hid (by rw [← hW1]; exact heap_alloc2_old _ _ _)
  have HP1 : Hid (PtrB W1 (W.heap.size + 1) 65 W.heap.size 0) := Lib.hid (by rw [← hW1]; exact heap_alloc2_new _ _ _)
  have HC1 : Hid (PtrB W1 c tp gm off) := Lib.hid ((hb1.block _ hcl).trans hp)
  have HM := Lib.hid hm
  have HU := Lib.hid hu
  have HGM := Lib.hid hgm
  have HCL := Lib.hid hcl
  clear hs hp hm hu hb1 hgm hcl
  go_enter Tryz.func62, Tryz.ntmps62
  go_wp2_with (go_at_call 28; refine (mk_byteInto _ _).mono ?_; rintro e w1 ⟨rfl, rfl⟩)
  refine (byte_any _ zs (W.heap.size + 1) W.heap.size 0 #[.int .i64 0] 3 65 (.int .i64 0) W1 HS1.out HP1.out HN1.out rfl).mono ?_
  clear hW1
  rintro e w2 hE
  rcases hE with ⟨rfl, rfl, rfl⟩ | ⟨x, r, rfl, x0, x1, rfl, hset⟩
  · have c1 := HC1.out.cell
    have c2 : W1.cell? ⟨W.heap.size, 0, none⟩ = some (.int .i64 0) := (cell_of_row _ _ 0 _ _ _ HN1.out).trans rfl
    have c3 : W1.cell? ⟨gm, off, none⟩ = some u0 := (cell_of_row _ _ off _ _ _ HM1.out).trans HU.out
    have f3 : W1.frozen? ⟨gm, off, none⟩ = false := frozen_of_row _ _ off _ _ HM1.out
    have HFIN : Hid (SetC W gm off cs t (.bool false) (W1.setCell ⟨gm, off, none⟩ (.bool false))) := Lib.hid (by
      have q := setC_of (off := off) (u := .bool false) HM1.out
      exact ⟨HO1.out.trans q.1, q.2⟩)
    go_wp2
    go_ret2
    exact .inl ⟨rfl, rfl, HFIN.out⟩
  · have hO2 : Only (· = gm) W w2 := only_new HO1.out hset.1 (Nat.le_refl _)
    have HM2 : Hid (w2.heap[gm]? = some (.cells cs t (0, 0))) := Lib.hid ((hset.1.2.2.2.2 _ (row_lt HM1.out) (by have := HGM.out; omega)).trans HM1.out)
    have c1 := (HC1.out.only hset.1 (by have := HCL.out; omega)).cell
    have c2 : w2.cell? ⟨W.heap.size, 0, none⟩ = some (.int .i64 x) := (cell_of_row _ _ 0 _ _ _ hset.2).trans rfl
    have c3 : w2.cell? ⟨gm, off, none⟩ = some u0 := (cell_of_row _ _ off _ _ _ HM2.out).trans HU.out
    have f3 : w2.frozen? ⟨gm, off, none⟩ = false := frozen_of_row _ _ off _ _ HM2.out
    have HO2 := Lib.hid hO2
    clear hset hO2
    by_cases hx : 1 < x
    · go_wp2
      go_ret2
      exact .inr (.inl ⟨x, r, rfl, hx, rfl, HO2.out, HM2.out.trans HM.out.symm⟩)
    · have hx2 : x ≤ 1 := by omega
      have HFIN : Hid (SetC W gm off cs t (.bool (x == 1)) (w2.setCell ⟨gm, off, none⟩ (.bool (x == 1)))) := Lib.hid (by
        have q := setC_of (off := off) (u := .bool (x == 1)) HM2.out
        exact ⟨HO2.out.trans q.1, q.2⟩)
      clear hx
      go_wp2
      go_ret2
      exact .inr (.inr ⟨x, r, rfl, x0, hx2, rfl, HFIN.out⟩)
def NumP (gm off : Nat) (cs : Array Value) (t : TypeId) (r : Nat × Nat × Int) (W : World) (e : Ending) (w' : World) : Prop :=
  e = .returned (.tuple #[.int .i64 r.2.1, .int .i64 r.2.2]) ∧ SetC W gm off cs t (.int .u64 r.1) w'
set_option maxHeartbeats 4000000 in
theorem num_part (v : Value) (zs : List Int) (c gm off : Nat) (cs : Array Value) (t tp : TypeId) (u0 : Value) (W : World) (hs : Sl .u8 W v zs) (hp : PtrB W c tp gm off) (hm : W.heap[gm]? = some (.cells cs t (0, 0))) (hu : cs[off]? = some u0) :
    Calls Tryz.prog 60 #[v, .pointer (some ⟨c, 0, none⟩)] W (NumP gm off cs t (Oc.rdL zs) W) := by
  rcases hr : Oc.rdL zs with ⟨n, k, er⟩
  have HR := Lib.hid hr
  have HS := Lib.hid hs
  have c0 := hp.cell
  have hm0 : W.cell? ⟨gm, off, none⟩ = some u0 := (cell_of_row W gm off _ _ _ hm).trans hu
  have hf0 : W.frozen? ⟨gm, off, none⟩ = false := frozen_of_row W gm off _ _ hm
  have HM := Lib.hid hm
  clear hr hs hp hm hu
  go_enter Tryz.func60, Tryz.ntmps60
  go_wp2_with fail
  refine (read_q HR.out HS.out).mono ?_
  rintro e w1 ⟨rfl, rfl⟩
  go_wp2
  go_ret2
  exact ⟨rfl, setC_of HM.out⟩
def ManyP (gm off : Nat) (cs : Array Value) (t : TypeId) (r : Nat × Nat × Int) (W : World) (e : Ending) (w' : World) : Prop :=
  (4 < r.1 ∧ e = .returned (.tuple #[.int .i64 0, .int .i64 11]) ∧ W = w') ∨ (r.1 ≤ 4 ∧ e = .returned (.tuple #[.int .i64 r.2.1, .int .i64 r.2.2]) ∧ SetC W gm off cs t (.int .u64 r.1) w')
set_option maxHeartbeats 4000000 in
theorem many_part (v : Value) (zs : List Int) (c gm off : Nat) (cs : Array Value) (t tp : TypeId) (u0 : Value) (W : World) (hs : Sl .u8 W v zs) (hp : PtrB W c tp gm off) (hm : W.heap[gm]? = some (.cells cs t (0, 0))) (hu : cs[off]? = some u0) :
    Calls Tryz.prog 63 #[v, .pointer (some ⟨c, 0, none⟩)] W (ManyP gm off cs t (Oc.rdL zs) W) := by
  rcases hr : Oc.rdL zs with ⟨n, k, er⟩
  have HR := Lib.hid hr
  have HS := Lib.hid hs
  have c0 := hp.cell
  have hm0 : W.cell? ⟨gm, off, none⟩ = some u0 := (cell_of_row W gm off _ _ _ hm).trans hu
  have hf0 : W.frozen? ⟨gm, off, none⟩ = false := frozen_of_row W gm off _ _ hm
  have HM := Lib.hid hm
  clear hr hs hp hm hu
  by_cases hn : 4 < n
  · have hn2 : (4 : Int) < (n : Int) := by omega
    go_enter Tryz.func63, Tryz.ntmps63
    go_wp2_with fail
    refine (read_q HR.out HS.out).mono ?_
    rintro e w1 ⟨rfl, rfl⟩
    go_wp2
    go_ret2
    exact .inl ⟨hn, rfl, rfl⟩
  · have hn2 : (n : Int) ≤ 4 := by omega
    have HN : Hid (n ≤ 4) := Lib.hid (by omega)
    clear hn
    go_enter Tryz.func63, Tryz.ntmps63
    go_wp2_with fail
    refine (read_q HR.out HS.out).mono ?_
    rintro e w1 ⟨rfl, rfl⟩
    go_wp2
    go_ret2
    exact .inr ⟨HN.out, rfl, setC_of HM.out⟩
theorem end_part (v : Value) (zs : List Int) (W : World) (hs : Sl .u8 W v zs) : Calls Tryz.prog 35 #[v] W fun e w' => e = .returned (.tuple #[.int .i64 0, .int .i64 (if zs = [] then 0 else 11)]) ∧ W = w' := by
  obtain ⟨a, cap, rfl, -⟩ := id hs
  clear hs
  by_cases hz : zs = []
  · subst hz
    go_enter Tryz.func35, Tryz.ntmps35
    go_wp2
    go_ret2
    exact ⟨rfl, rfl⟩
  · have hl : (0 : Int) < (zs.length : Int) := by have := List.length_pos_iff.2 hz; omega
    rw [if_neg hz]
    go_enter Tryz.func35, Tryz.ntmps35
    go_wp2
    go_ret2
    exact ⟨rfl, rfl⟩
end Ms
end Go.Proofs.YtlfaiemebfkajaaGreatDoor
namespace Go.Proofs.YtlfaiemebfkajaaGreatDoor
open Go.ChangeShapes Go.WideShapes Go.ChangeAt Go.RowKit Go.Deep
set_option linter.unusedVariables false
set_option maxRecDepth 100000
namespace Ms
open Nv Cm Sc Hd Rc
/-- the message being read, its lists the call's own -/
def MM (B0 g2 : Nat) (m : Mes) (ve vn vh vl : Value) (rows : List ERow) (W : World) : Prop :=
  W.heap[g2]? = some (.cells (mArr m ve vn vh vl) 33 (0, 0)) ∧ OwnR 9 entC 88 W B0 ve rows ∧ EntsO W B0 ve.ownBlock rows ∧ rows.map Prod.fst = m.ents ∧ OwnI W B0 vn m.shot.nodes ∧ OwnR 5 heldC 110 W B0 vh m.shot.led.held ∧ OwnR 6 lastC 114 W B0 vl m.shot.led.last ∧ m.wf ∧ ∀ n ∈ m.shot.nodes, (Lit.int .i64 n).wf = true
theorem MM.blk {B0 g2 : Nat} {m m' : Mes} {ve vn vh vl : Value} {rows : List ERow} {W W' : World} (h : MM B0 g2 m ve vn vh vl rows W) (hb : ∀ q, q < W.heap.size → B0 ≤ q → W'.heap[q]? = W.heap[q]?) (hr : W'.heap[g2]? = some (.cells (mArr m' ve vn vh vl) 33 (0, 0))) (he : m'.ents = m.ents) (hs : m'.shot = m.shot) (hw : m'.wf) : MM B0 g2 m' ve vn vh vl rows W' := by
  obtain ⟨h1, h2, h3, h4, h5, h6, h7, h8, h9⟩ := h
  have keep : ∀ {e sz n : Nat} {v : Value} {xs : List Value}, W.ownsRow B0 e sz v n xs → W'.ownsRow B0 e sz v n xs := fun {e sz n v xs} q => by
    refine ⟨q.1, ?_⟩
    rcases q.2 with q2 | ⟨q, cap, cur, rfl, k3, k4, k5⟩
    · exact .inl q2
    · exact .inr ⟨_, cap, cur, rfl, k3, (hb _ (row_lt k4) k3).trans k4, k5⟩
  refine ⟨hr, keep h2, fun r hr => ⟨keep (h3 r hr).1, (h3 r hr).2⟩, by rw [he]; exact h4, ?_, ?_, ?_, hw, by rw [hs]; exact h9⟩
  · rw [hs]; exact keep h5
  · rw [hs]; exact keep h6
  · rw [hs]; exact keep h7
theorem MM.below {B0 g2 : Nat} {m : Mes} {ve vn vh vl : Value} {rows : List ERow} {W W' : World} (h : MM B0 g2 m ve vn vh vl rows W) (hb : Below W.heap.size W W') : MM B0 g2 m ve vn vh vl rows W' :=
  h.blk (fun q hq _ => hb.block q hq) ((hb.block _ (row_lt h.1)).trans h.1) rfl rfl h.2.2.2.2.2.2.2.1
theorem MM.only {B0 g2 g : Nat} {m : Mes} {ve vn vh vl : Value} {rows : List ERow} {W W' : World} (h : MM B0 g2 m ve vn vh vl rows W) (ho : Only (· = g) W W') (hg : g < B0) (hne : g2 ≠ g) : MM B0 g2 m ve vn vh vl rows W' :=
  h.blk (fun q hq hB => ho.2.2.2.2 q hq (by omega)) ((ho.2.2.2.2 _ (row_lt h.1) hne).trans h.1) rfl rfl h.2.2.2.2.2.2.2.1
theorem MM.row {B0 g2 : Nat} {m m' : Mes} {ve vn vh vl : Value} {rows : List ERow} {W W' : World} (h : MM B0 g2 m ve vn vh vl rows W) (ho : Only (· = g2) W W') (hg : g2 < B0) (hr : W'.heap[g2]? = some (.cells (mArr m' ve vn vh vl) 33 (0, 0))) (he : m'.ents = m.ents) (hs : m'.shot = m.shot) (hw : m'.wf) : MM B0 g2 m' ve vn vh vl rows W' :=
  h.blk (fun q hq hB => ho.2.2.2.2 q hq (by omega)) hr he hs hw
theorem rng_of_row {w : World} {g : Nat} {cs : Array Value} {t : TypeId} (h : w.heap[g]? = some (.cells cs t (0, 0))) : w.rangeAt g 0 cs.toList := fun j v hv => by
  rw [Nat.zero_add, cell_of_row w g j _ _ _ h, ← hv]
  simp
theorem owns_cellB {sz : Nat} {e : TypeId} {w : World} {B g j n : Nat} {v u : Value} {zs : List Value} (hown : w.ownsRow B e sz v n zs) (hg : g < B) : (w.setCell ⟨g, j, none⟩ u).ownsRow B e sz v n zs := owns_cell hown hg
theorem PtrB.ne {W : World} {c gm off g : Nat} {t t2 : TypeId} {cs : Array Value} (h : PtrB W c t gm off) (h2 : W.heap[g]? = some (.cells cs t2 (0, 0))) (hne : t ≠ t2) : c ≠ g := fun e => by
  subst e
  unfold PtrB at h
  rw [h] at h2
  simp only [Option.some.injEq, Obj.cells.injEq] at h2
  exact hne h2.2.1
theorem past_grown {B : Nat} {S : Nat → Prop} {W wc w' : World} {row : Option Nat} (h : Past B S W wc) (hg : wc.grownBy w' row) (hr : ∀ q, row = some q → B ≤ q) (hB : B ≤ wc.heap.size) : Past B S W w' := by
  refine ⟨hg.os.trans h.1, hg.tape.trans h.2.1, hg.output.trans h.2.2.1, Nat.le_trans h.2.2.2.1 hg.size, fun k hk hn => ?_⟩
  rw [hg.block k (Nat.lt_of_lt_of_le hk hB) (fun e => by have := hr k e.symm; omega)]
  exact h.2.2.2.2 k hk hn
theorem ent_fin {B0 g2 : Nat} {m : Mes} {ve vn vh vl : Value} {rows : List ERow} {W : World} (hM : MM B0 g2 m ve vn vh vl rows W) (hg : g2 < B0) (hB : B0 ≤ W.heap.size) {wc w' : World} (hb : Below W.heap.size W wc) {x : Ent} {vx : Value} (hox : OwnK .i64 3 wc W.heap.size vx x.cmd.nodes) (hxw : Rk.EntW x) {g n cap : Nat}
    (own' : OwnR 9 entC 88 w' B0 (.slice (some ⟨g, 0, none⟩) n cap) (rows ++ [(x, vx)])) (hgr : wc.grownBy w' ve.ownBlock) (hor : ve.ownBlock = some g ∨ g = wc.heap.size) :
    MM B0 g2 { m with ents := m.ents ++ [x] } (.slice (some ⟨g, 0, none⟩) n cap) vn vh vl (rows ++ [(x, vx)]) (w'.setCell ⟨g2, 8, none⟩ (.slice (some ⟨g, 0, none⟩) n cap)) ∧ Past B0 (· = g2) W (w'.setCell ⟨g2, 8, none⟩ (.slice (some ⟨g, 0, none⟩) n cap)) := by
  obtain ⟨h1, h2, h3, h4, h5, h6, h7, h8, h9⟩ := hM
  have hrow : w'.heap[g2]? = some (.cells (mArr m ve vn vh vl) 33 (0, 0)) := row_grown ((hb.block _ (row_lt h1)).trans h1) (h2.below hb (Nat.le_refl _)) (by decide) hgr
  have oth : ∀ {e sz n : Nat} {v : Value} {xs : List Value}, W.ownsRow B0 e sz v n xs → e ≠ 88 → (w'.setCell ⟨g2, 8, none⟩ (.slice (some ⟨g, 0, none⟩) n cap)).ownsRow B0 e sz v n xs → True := fun _ _ _ => trivial
  have oI : ∀ {zs : List Int} {v : Value}, OwnI W B0 v zs → OwnI (w'.setCell ⟨g2, 8, none⟩ (.slice (some ⟨g, 0, none⟩) n cap)) B0 v zs := fun {zs v} q => owns_cell (own_far (OwnK.below q hb (Nat.le_refl _)) hgr (own_apart (OwnK.below q hb (Nat.le_refl _)) (h2.below hb (Nat.le_refl _)) (by decide))) hg
  have oH : OwnR 5 heldC 110 (w'.setCell ⟨g2, 8, none⟩ (.slice (some ⟨g, 0, none⟩) n cap)) B0 vh m.shot.led.held := owns_cell (own_far (h6.below hb (Nat.le_refl _)) hgr (own_apart (h6.below hb (Nat.le_refl _)) (h2.below hb (Nat.le_refl _)) (by decide))) hg
  have oL : OwnR 6 lastC 114 (w'.setCell ⟨g2, 8, none⟩ (.slice (some ⟨g, 0, none⟩) n cap)) B0 vl m.shot.led.last := owns_cell (own_far (h7.below hb (Nat.le_refl _)) hgr (own_apart (h7.below hb (Nat.le_refl _)) (h2.below hb (Nat.le_refl _)) (by decide))) hg
  have hst := h3.step hb hgr hor hox (fun g q => (World.ownsRow.lt h2 g q).2) hB hxw.1 hxw.2
  refine ⟨⟨store8 hrow _, owns_cell own' hg, fun r hr => ⟨owns_cell (hst r hr).1 hg, (hst r hr).2⟩, by rw [List.map_append, h4]; rfl, oI h5, oH, oL, h8, h9⟩, ?_⟩
  exact (past_grown (Past.below (hb.mono hB) _) hgr (fun q e => (World.ownsRow.lt h2 q e).1) (Nat.le_trans hB hb.size)).trans (Past.setCell _ _ _ rfl)
/-- rows of fields stay -/
def KeepT (W w' : World) : Prop := ∀ (q : Nat) (cs : Array Value) (fr : Nat × Nat), W.heap[q]? = some (.cells cs 68 fr) → w'.heap[q]? = some (.cells cs 68 fr)
theorem KeepT.refl (W : World) : KeepT W W := fun _ _ _ h => h
theorem KeepT.trans {a b c : World} (h : KeepT a b) (k : KeepT b c) : KeepT a c := fun q cs fr hq => k q cs fr (h q cs fr hq)
theorem KeepT.below {W w' : World} (h : Below W.heap.size W w') : KeepT W w' := fun q cs fr hq => (h.block q (row_lt hq)).trans hq
theorem KeepT.only {W w' : World} {g : Nat} {cs : Array Value} {t : TypeId} {fr : Nat × Nat} (h : Only (· = g) W w') (hg : W.heap[g]? = some (.cells cs t fr)) (hne : t ≠ 68) : KeepT W w' := fun q cs2 fr2 hq => by
  refine (h.2.2.2.2 q (row_lt hq) (fun e => ?_)).trans hq
  subst e
  rw [hg] at hq
  simp only [Option.some.injEq, Obj.cells.injEq] at hq
  exact hne hq.2.1
theorem KeepT.cell {W : World} {g j : Nat} {u : Value} {cs : Array Value} {t : TypeId} {fr : Nat × Nat} (hg : W.heap[g]? = some (.cells cs t fr)) (hne : t ≠ 68) : KeepT W (W.setCell ⟨g, j, none⟩ u) := KeepT.only (Only.setCell (S := (· = g)) _ ⟨g, j, none⟩ _ rfl) hg hne
theorem KeepT.grown {wc w' : World} {B sz n : Nat} {e : TypeId} {v : Value} {xs : List Value} (h : wc.ownsRow B e sz v n xs) (hg : wc.grownBy w' v.ownBlock) (hne : e ≠ 68) : KeepT wc w' := fun q cs fr hq => row_grown hq h hne hg
def EntP (B0 g2 : Nat) (m : Mes) (vn vh vl : Value) (rows : List ERow) (zs : List Int) (W : World) (e : Ending) (w' : World) : Prop :=
  e = .returned (.tuple #[.int .i64 (Rk.entD zs).2.1, .int .i64 (Rk.entD zs).2.2]) ∧
    (((Rk.entD zs).2.2 ≠ 0 ∧ Below W.heap.size W w') ∨ ((Rk.entD zs).2.2 = 0 ∧ ∃ ve' rows', MM B0 g2 { m with ents := m.ents ++ [(Rk.entD zs).1] } ve' vn vh vl rows' w' ∧ rows'.length = rows.length + 1 ∧ Past B0 (· = g2) W w' ∧ KeepT W w'))
set_option maxHeartbeats 8000000 in
theorem entry_part (B0 g2 c : Nat) (m : Mes) (ve vn vh vl : Value) (rows : List ERow) (v : Value) (zs : List Int) (W : World) (hs : Sl .u8 W v zs) (hM : MM B0 g2 m ve vn vh vl rows W) (hg : g2 < B0) (hB : B0 ≤ W.heap.size) (hp : PtrB W c 74 g2 8) (hl : rows.length ≤ 1000) :
    Calls Tryz.prog 64 #[v, .pointer (some ⟨c, 0, none⟩)] W (EntP B0 g2 m vn vh vl rows zs W) := by
  rcases hd : Rk.entD zs with ⟨x, k, er⟩
  have HD := Lib.hid hd
  have HS := Lib.hid hs
  have HP := Lib.hid hp
  have HM := Lib.hid hM
  have HG := Lib.hid hg
  have HB := Lib.hid hB
  have HL := Lib.hid hl
  unfold EntP
  rw [hd]
  clear hd hs hp hM hg hB hl
  go_enter Tryz.func64, Tryz.ntmps64
  go_wp2_with fail
  refine (Rk.entdec_any zs v _ HS.out).mono ?_
  rintro e w1 ⟨vx, rfl, hox, hxw, hb1⟩
  rw [HD.out] at hox hxw ⊢
  dsimp only at hox hxw ⊢
  obtain ⟨ax, mx, qx, rfl⟩ := own_formx hox
  have HOX := Lib.hid hox
  have HXW := Lib.hid hxw
  have hst : (w1.alloc (.cells Rk.zEA 88)).heap[w1.heap.size]? = some (.cells Rk.zEA 88 (0, 0)) := heap_alloc_new _ _
  obtain ⟨W2, hW2⟩ : ∃ q, (w1.alloc (.cells Rk.zEA 88)).setRow w1.heap.size (entC (x, .slice ax mx qx)).toArray = q := ⟨_, rfl⟩
  have hb2 : Below w1.heap.size w1 W2 := by rw [← hW2]; exact Ld.below_row ((Below.refl _ _).alloc (Nat.le_refl _) _) (Nat.le_refl _) _
  have HK2 : Hid (W2.heap[w1.heap.size]? = some (.cells (entC (x, .slice ax mx qx)).toArray 88 (0, 0))) := Lib.hid (by rw [← hW2]; exact setRow_heap _ _ _ _ _ _ hst)
  have HB1 := Lib.hid hb1
  have HB2 := Lib.hid hb2
  have HBW := Lib.hid (hb1.trans (hb2.mono hb1.size))
  have hone : (entC (x, .slice ax mx qx)).toArray.all (·.oneCell') = true := by simp [entC, Value.oneCell']
  clear hox hxw hb1 hb2
  by_cases he : er = 0
  rotate_left
  · have HE : Hid (er ≠ 0) := Lib.hid he
    have he0 : (er == 0) = false := beq_eq_false_iff_ne.2 he
    clear he
    go_wp2_with (refine wpList_store_row rfl 88 (.tmp 5) (.tmp 11) rfl w1.heap.size (entC (x, .slice ax mx qx)).toArray rfl rfl 88 _ hst (by kernel_rfl) rfl hone ?_; rw [hW2]; clear hW2 hst hone)
    go_ret2
    exact ⟨rfl, .inl ⟨HE.out, HBW.out⟩⟩
  subst he
  go_upto_region 3 with (refine wpList_store_row rfl 88 (.tmp 5) (.tmp 11) rfl w1.heap.size (entC (x, .slice ax mx qx)).toArray rfl rfl 88 _ hst (by kernel_rfl) rfl hone ?_; rw [hW2]; clear hW2 hst hone)
  have HM2 : Hid (MM B0 g2 m ve vn vh vl rows W2.drew) := Lib.hid (HM.out.below HBW.out.drew)
  have HP2 : Hid (PtrB W2.drew c 74 g2 8) := Lib.hid ((HBW.out.block _ (row_lt HP.out)).trans HP.out)
  have HKD : Hid (W2.drew.heap[w1.heap.size]? = some (.cells (entC (x, .slice ax mx qx)).toArray 88 (0, 0))) := Lib.hid HK2.out
  have HO2 : Hid (OwnI W2 W.heap.size (.slice ax mx qx) x.cmd.nodes) := Lib.hid (HOX.out.below HB2.out (Nat.le_refl _))
  have HLT : Hid (∀ g, ve.ownBlock = some g → g < w1.heap.size) := Lib.hid (fun g q => Nat.lt_of_lt_of_le (World.ownsRow.lt HM.out.2.1 g q).2 HB1.out.size)
  have HCG : Hid (c ≠ g2) := Lib.hid (HP.out.ne HM.out.1 (by decide))
  have HSZ : Hid (W.heap.size ≤ w1.heap.size ∧ w1.heap.size ≤ W2.heap.size) := Lib.hid ⟨HB1.out.size, HB2.out.size⟩
  refine wp_region_held_drew (S := fun wx => PtrB wx c 74 g2 8 ∧ wx.heap[w1.heap.size]? = some (.cells (entC (x, .slice ax mx qx)).toArray 88 (0, 0))) (by kernel_rfl) ⟨HP2.out, HKD.out⟩ (fun hHeld => ?_)
  refine wpAnyH_take (i := 0) (v := .pointer (some ⟨g2, 8, none⟩)) rfl (by kernel_rfl) (by kernel_rfl) (by kernel_rfl) (fun _ _ _ h => h) (Or.inl ⟨by kernel_rfl, ?_⟩) (by assumption) ?_
  · intro wx hSw
    have cc := hSw.1.cell
    clear hSw hHeld
    go_simp
    try first | with_reducible rfl | kernel_rfl
  simp only [Act.put, List.getElem_toArray, List.getElem_cons_zero, List.setIfInBounds_toArray, List.set_cons_succ, List.set_cons_zero]
  refine wpAnyH_take (i := 1) (v := .pointer (some ⟨g2, 8, none⟩)) rfl (by kernel_rfl) (by kernel_rfl) (by kernel_rfl) (fun _ _ _ h => h) (Or.inl ⟨by kernel_rfl, ?_⟩) (by assumption) ?_
  · intro wx hSw
    have cc := hSw.1.cell
    clear hSw hHeld
    go_simp
    try first | with_reducible rfl | kernel_rfl
  simp only [Act.put, List.getElem_toArray, List.getElem_cons_succ, List.getElem_cons_zero, List.setIfInBounds_toArray, List.set_cons_succ, List.set_cons_zero]
  refine wpAnyH_take (i := 2) (v := .pointer (some ⟨g2, 8, none⟩)) rfl (by kernel_rfl) (by kernel_rfl) (by kernel_rfl) (fun _ _ _ h => h) (Or.inl ⟨by kernel_rfl, ?_⟩) (by assumption) ?_
  · intro wx hSw
    clear hSw hHeld
    go_simp
    try first | with_reducible rfl | kernel_rfl
  simp only [Act.put, List.getElem_toArray, List.getElem_cons_succ, List.getElem_cons_zero, List.setIfInBounds_toArray, List.set_cons_succ, List.set_cons_zero]
  refine wpAnyH_take (i := 4) (v := .agg (entC (x, .slice ax mx qx)).toArray) rfl (by kernel_rfl) (by kernel_rfl) (by kernel_rfl) (fun _ _ _ h => h) (yieldsIf_load_mid (by rfl) _ _ rfl _ _ rfl (entC (x, .slice ax mx qx)) _ (fun w h => rng_of_row h.2) Tryz.underlying88 rfl (by kernel_rfl)) (by assumption) ?_
  simp only [Act.put, List.getElem_toArray, List.getElem_cons_succ, List.getElem_cons_zero, List.setIfInBounds_toArray, List.set_cons_succ, List.set_cons_zero]
  refine wpAnyH_ready (rs := [3, 5]) (by kernel_rfl) (by simp) ?_
  refine (AllReadyH.cons rfl (fun K hK => ?_) (AllReadyH.cons rfl (fun K hK => ?_) AllReadyH.nil))
  · have hci := (cell_of_row _ _ 8 _ _ _ HM2.out.1).trans rfl
    go_simp
    clear hci
    refine hK.out _ _ ⟨HP2.out, HKD.out⟩ (fun hHeld => ?_)
    clear hK K hHeld
    refine wpAnyH_ready (rs := [5]) (by kernel_rfl) (by simp) ?_
    refine (AllReadyH.cons rfl (fun K hK => ?_) AllReadyH.nil)
    go_simp
    have HMA := Lib.hid (HM2.out.below ((Below.refl W2.drew.heap.size W2.drew).alloc (Nat.le_refl _) (.cells (entC (x, .slice ax mx qx)).toArray 88)))
    have HPA := Lib.hid (HP2.out.alloc (.cells (entC (x, .slice ax mx qx)).toArray 88))
    have HKA := Lib.hid ((heap_alloc_old W2.drew (.cells (entC (x, .slice ax mx qx)).toArray 88 (0, 0)) (row_lt HKD.out)).trans HKD.out)
    have HBC := Lib.hid (HBW.out.drew.alloc HBW.out.drew.size (.cells (entC (x, .slice ax mx qx)).toArray 88))
    have HOC : Hid (OwnK .i64 3 (W2.drew.alloc (.cells (entC (x, .slice ax mx qx)).toArray 88)) W.heap.size (.slice ax mx qx) x.cmd.nodes) := Lib.hid (HO2.out.below ((Below.refl W2.heap.size W2).drew.alloc (Nat.le_refl _) _) (Nat.le_refl _))
    refine hK.out _ _ ⟨HPA.out, HKA.out⟩ (fun hHeld => ?_)
    clear hK K hHeld
    refine wpAnyH_ready (rs := [6]) (by kernel_rfl) (by simp) ?_
    refine (AllReadyH.cons rfl (fun K hK => ?_) AllReadyH.nil)
    refine stepRx entC_len Tryz.underlying24 rfl (by decide) info_ent rfl _ _ rfl B0 ve rows rfl (HMA.out.2.1) _ [((x, .slice ax mx qx) : ERow)] rfl (SlR.one entC_len W2.drew _ rfl _ _ rfl) (by simp) (ent_one _ _ _ _) (by have := HL.out; unfold maxLen; simp; omega) (by have := HL.out; simp; omega) (by have := HB.out; have := HSZ.out; simp; omega) _ rfl (fun g cap w' own' hgr hor => ?_)
    have HXR := Lib.hid (row_grown HMA.out.1 HMA.out.2.1 (by decide) hgr)
    have HPR : Hid (PtrB w' c 74 g2 8) := Lib.hid (row_grown HPA.out HMA.out.2.1 (by decide) hgr)
    have HKR : Hid (w'.heap[w1.heap.size]? = some (.cells (entC (x, .slice ax mx qx)).toArray 88 (0, 0))) := Lib.hid ((hgr.block _ (row_lt HKA.out) (fun e => by have := HLT.out _ e.symm; omega)).trans HKA.out)
    have HFIN := Lib.hid (ent_fin HM.out HG.out HB.out HBC.out HOC.out HXW.out own' hgr hor)
    have HKT : Hid (KeepT W (w'.setCell ⟨g2, 8, none⟩ (.slice (some ⟨g, 0, none⟩) (rows.length + 1) cap))) := Lib.hid (((KeepT.below HBC.out).trans (KeepT.grown HMA.out.2.1 hgr (by decide))).trans (KeepT.cell HXR.out (by decide)))
    have ck := (cell_of_row _ _ 8 _ _ _ HXR.out).trans rfl
    have fk : w'.frozen? ⟨g2, 8, none⟩ = false := frozen_of_row _ _ 8 _ _ HXR.out
    refine hK.out _ _ ⟨HPR.out, HKR.out⟩ (fun hHeld => ?_)
    clear hK K own' hgr hor
    refine wpAnyH_take (i := 7) (v := .pointer (some ⟨g2, 8, none⟩)) rfl (by kernel_rfl) (by kernel_rfl) (by kernel_rfl) (fun _ _ _ h => h) (Or.inl ⟨by kernel_rfl, ?_⟩) (by assumption) ?_
    · intro wx hSw
      clear hSw hHeld
      go_simp
      try first | with_reducible rfl | kernel_rfl
    simp only [Act.put, List.getElem_toArray, List.getElem_cons_succ, List.getElem_cons_zero, List.setIfInBounds_toArray, List.set_cons_succ, List.set_cons_zero]
    refine wpAnyH_ready (rs := [8]) (by kernel_rfl) (by simp) ?_
    refine (AllReadyH.cons rfl (fun K hK => ?_) AllReadyH.nil)
    go_simp
    refine hK.out _ _ ⟨(heap_setCell_other _ ⟨g2, 8, none⟩ c _ HCG.out).trans HPR.out, (heap_setCell_other _ ⟨g2, 8, none⟩ w1.heap.size _ (by have := HG.out; have := HB.out; have := HSZ.out; simp; omega)).trans HKR.out⟩ (fun hHeld => ?_)
    clear hK K hHeld
    refine wpAnyH_done (by kernel_rfl) ?_ _
    clear ck fk
    go_wp2_with fail
    go_ret2
    first
      | exact ⟨rfl, _, _, HFIN.out.1, by simp, HFIN.out.2, HKT.out⟩
      | exact ⟨rfl, .inr ⟨rfl, _, _, HFIN.out.1, by simp, HFIN.out.2, HKT.out⟩⟩
  · go_simp
    have HMA := Lib.hid (HM2.out.below ((Below.refl W2.drew.heap.size W2.drew).alloc (Nat.le_refl _) (.cells (entC (x, .slice ax mx qx)).toArray 88)))
    have HPA := Lib.hid (HP2.out.alloc (.cells (entC (x, .slice ax mx qx)).toArray 88))
    have HKA := Lib.hid ((heap_alloc_old W2.drew (.cells (entC (x, .slice ax mx qx)).toArray 88 (0, 0)) (row_lt HKD.out)).trans HKD.out)
    have HBC := Lib.hid (HBW.out.drew.alloc HBW.out.drew.size (.cells (entC (x, .slice ax mx qx)).toArray 88))
    have HOC : Hid (OwnK .i64 3 (W2.drew.alloc (.cells (entC (x, .slice ax mx qx)).toArray 88)) W.heap.size (.slice ax mx qx) x.cmd.nodes) := Lib.hid (HO2.out.below ((Below.refl W2.heap.size W2).drew.alloc (Nat.le_refl _) _) (Nat.le_refl _))
    refine hK.out _ _ ⟨HPA.out, HKA.out⟩ (fun hHeld => ?_)
    clear hK K hHeld
    refine wpAnyH_ready (rs := [3]) (by kernel_rfl) (by simp) ?_
    refine (AllReadyH.cons rfl (fun K hK => ?_) AllReadyH.nil)
    have hci : (W2.alloc (.cells #[.int .u64 x.term, .int .i64 x.cmd.kind, .int .i64 x.cmd.node, .int .i64 x.cmd.token, .slice ax mx qx, .int .u64 x.cmd.boot, .int .u64 x.cmd.seq, .int .u64 x.cmd.serial, .int .u64 x.cmd.stamp] 88)).cell? ⟨g2, 8, none⟩ = some ve := (cell_of_row _ _ 8 _ _ _ HMA.out.1).trans rfl
    go_simp
    clear hci
    refine hK.out _ _ ⟨HPA.out, HKA.out⟩ (fun hHeld => ?_)
    clear hK K hHeld
    refine wpAnyH_ready (rs := [6]) (by kernel_rfl) (by simp) ?_
    refine (AllReadyH.cons rfl (fun K hK => ?_) AllReadyH.nil)
    refine stepRx entC_len Tryz.underlying24 rfl (by decide) info_ent rfl _ _ rfl B0 ve rows rfl (HMA.out.2.1) _ [((x, .slice ax mx qx) : ERow)] rfl (SlR.one entC_len W2.drew _ rfl _ _ rfl) (by simp) (ent_one _ _ _ _) (by have := HL.out; unfold maxLen; simp; omega) (by have := HL.out; simp; omega) (by have := HB.out; have := HSZ.out; simp; omega) _ rfl (fun g cap w' own' hgr hor => ?_)
    have HXR := Lib.hid (row_grown HMA.out.1 HMA.out.2.1 (by decide) hgr)
    have HPR : Hid (PtrB w' c 74 g2 8) := Lib.hid (row_grown HPA.out HMA.out.2.1 (by decide) hgr)
    have HKR : Hid (w'.heap[w1.heap.size]? = some (.cells (entC (x, .slice ax mx qx)).toArray 88 (0, 0))) := Lib.hid ((hgr.block _ (row_lt HKA.out) (fun e => by have := HLT.out _ e.symm; omega)).trans HKA.out)
    have HFIN := Lib.hid (ent_fin HM.out HG.out HB.out HBC.out HOC.out HXW.out own' hgr hor)
    have HKT : Hid (KeepT W (w'.setCell ⟨g2, 8, none⟩ (.slice (some ⟨g, 0, none⟩) (rows.length + 1) cap))) := Lib.hid (((KeepT.below HBC.out).trans (KeepT.grown HMA.out.2.1 hgr (by decide))).trans (KeepT.cell HXR.out (by decide)))
    have ck := (cell_of_row _ _ 8 _ _ _ HXR.out).trans rfl
    have fk : w'.frozen? ⟨g2, 8, none⟩ = false := frozen_of_row _ _ 8 _ _ HXR.out
    refine hK.out _ _ ⟨HPR.out, HKR.out⟩ (fun hHeld => ?_)
    clear hK K own' hgr hor
    refine wpAnyH_take (i := 7) (v := .pointer (some ⟨g2, 8, none⟩)) rfl (by kernel_rfl) (by kernel_rfl) (by kernel_rfl) (fun _ _ _ h => h) (Or.inl ⟨by kernel_rfl, ?_⟩) (by assumption) ?_
    · intro wx hSw
      clear hSw hHeld
      go_simp
      try first | with_reducible rfl | kernel_rfl
    simp only [Act.put, List.getElem_toArray, List.getElem_cons_succ, List.getElem_cons_zero, List.setIfInBounds_toArray, List.set_cons_succ, List.set_cons_zero]
    refine wpAnyH_ready (rs := [8]) (by kernel_rfl) (by simp) ?_
    refine (AllReadyH.cons rfl (fun K hK => ?_) AllReadyH.nil)
    go_simp
    refine hK.out _ _ ⟨(heap_setCell_other _ ⟨g2, 8, none⟩ c _ HCG.out).trans HPR.out, (heap_setCell_other _ ⟨g2, 8, none⟩ w1.heap.size _ (by have := HG.out; have := HB.out; have := HSZ.out; simp; omega)).trans HKR.out⟩ (fun hHeld => ?_)
    clear hK K hHeld
    refine wpAnyH_done (by kernel_rfl) ?_ _
    clear ck fk
    go_wp2_with fail
    go_ret2
    first
      | exact ⟨rfl, _, _, HFIN.out.1, by simp, HFIN.out.2, HKT.out⟩
      | exact ⟨rfl, .inr ⟨rfl, _, _, HFIN.out.1, by simp, HFIN.out.2, HKT.out⟩⟩
theorem mid16s {w2 : World} {g : Nat} {m : Mes} {ve vn vh vl : Value} (hh : w2.heap[g]? = some (.cells (mArr m ve vn vh vl) 33 (0, 0))) (s : Sho) (un uh ul : Value) : (w2.setCells g 9 (sArr s un uh ul).toList).heap[g]? = some (.cells (mArr { m with shot := s } ve un uh ul) 33 (0, 0)) := by
  show (((((((w2.setCell ⟨g, 9, none⟩ (.int .u64 s.index)).setCell ⟨g, 10, none⟩ (.int .u64 s.term)).setCell ⟨g, 11, none⟩ un).setCell ⟨g, 12, none⟩ (.int .i64 s.led.limit)).setCell ⟨g, 13, none⟩ (.int .u64 s.led.next)).setCell ⟨g, 14, none⟩ uh).setCell ⟨g, 15, none⟩ ul).heap[g]? = _
  rw [heap_setCell_same _ g 15 _ _ ul (heap_setCell_same _ g 14 _ _ uh (heap_setCell_same _ g 13 _ _ (.int .u64 s.led.next) (heap_setCell_same _ g 12 _ _ (.int .i64 s.led.limit) (heap_setCell_same _ g 11 _ _ un (heap_setCell_same _ g 10 _ _ (.int .u64 s.term) (heap_setCell_same w2 g 9 _ _ (.int .u64 s.index) hh))))))]
  simp only [List.setIfInBounds_toArray, List.set_cons_zero, List.set_cons_succ]
theorem past_cells {B g : Nat} : ∀ (L : List Value) (o : Nat) (w : World), Past B (· = g) w (w.setCells g o L)
  | [], _, w => ⟨rfl, rfl, rfl, Nat.le_refl _, fun _ _ _ => rfl⟩
  | u :: L, o, w => (Past.setCell (B := B) (S := (· = g)) w ⟨g, o, none⟩ u rfl).trans (past_cells L (o + 1) _)
def ShoP (B0 g2 : Nat) (m : Mes) (ve : Value) (rows : List ERow) (zs : List Int) (W : World) (e : Ending) (w' : World) : Prop :=
  ∃ s z, decV zs = (s, z) ∧ ((z ≠ 0 ∧ z ≠ 60 ∧ e = .returned (.tuple #[.int .i64 0, .int .i64 z]) ∧ Below W.heap.size W w') ∨
    ((z = 0 ∨ z = 60) ∧ e = .returned (.tuple #[.int .i64 zs.length, .int .i64 0]) ∧ ∃ vn' vh' vl', MM B0 g2 { m with shot := s } ve vn' vh' vl' rows w' ∧ Past B0 (· = g2) W w' ∧ KeepT W w'))
set_option maxHeartbeats 8000000 in
theorem shot_part (B0 g2 c : Nat) (m : Mes) (ve vn vh vl : Value) (rows : List ERow) (v : Value) (zs : List Int) (W : World) (hs : Sl .u8 W v zs) (hM : MM B0 g2 m ve vn vh vl rows W) (hg : g2 < B0) (hB : B0 ≤ W.heap.size) (hp : PtrB W c 76 g2 9) :
    Calls Tryz.prog 66 #[v, .pointer (some ⟨c, 0, none⟩)] W (ShoP B0 g2 m ve rows zs W) := by
  obtain ⟨av, cv, rfl, hlv, -⟩ := id hs
  have HS := Lib.hid hs
  have HP := Lib.hid hp
  have HM := Lib.hid hM
  have HG := Lib.hid hg
  have HB := Lib.hid hB
  clear hs hp hM hg hB
  go_enter Tryz.func66, Tryz.ntmps66
  go_wp2_with fail
  refine (Sc.dec_any zs _ _ HS.out).mono ?_
  rintro e w1 ⟨s, z, un, uh, ul, rfl, hdv, o1, o2, o3, hsw, hb1⟩
  obtain ⟨a1, m1, q1, rfl⟩ := own_formx o1
  obtain ⟨a2, m2, q2, rfl⟩ := own_formx o2
  obtain ⟨a3, m3, q3, rfl⟩ := own_formx o3
  have HDV := Lib.hid hdv
  have HSW := Lib.hid hsw
  have hst : (w1.alloc (.cells zSA 31)).heap[w1.heap.size]? = some (.cells zSA 31 (0, 0)) := heap_alloc_new _ _
  obtain ⟨W2, hW2⟩ : ∃ q, (w1.alloc (.cells zSA 31)).setRow w1.heap.size (sArr s (.slice a1 m1 q1) (.slice a2 m2 q2) (.slice a3 m3 q3)) = q := ⟨_, rfl⟩
  have hb2 : Below w1.heap.size w1 W2 := by rw [← hW2]; exact Ld.below_row ((Below.refl _ _).alloc (Nat.le_refl _) _) (Nat.le_refl _) _
  have hK2 : W2.heap[w1.heap.size]? = some (.cells (sArr s (.slice a1 m1 q1) (.slice a2 m2 q2) (.slice a3 m3 q3)) 31 (0, 0)) := by rw [← hW2]; exact setRow_heap _ _ _ _ _ _ hst
  have HBW := Lib.hid (hb1.trans (hb2.mono hb1.size))
  have O1 : Hid (OwnI W2 W.heap.size (.slice a1 m1 q1) s.nodes) := Lib.hid (OwnK.below o1 hb2 (Nat.le_refl _))
  have O2 := Lib.hid (o2.below hb2 (Nat.le_refl _))
  have O3 := Lib.hid (o3.below hb2 (Nat.le_refl _))
  have HM2 := Lib.hid (HM.out.below HBW.out)
  have hP2 : PtrB W2 c 76 g2 9 := (HBW.out.block _ (row_lt HP.out)).trans HP.out
  have c2 := hP2.cell
  have hone := Sh.sArr_one s a1 a2 a3 m1 q1 m2 q2 m3 q3
  clear hdv hsw o1 o2 o3 hb1 hb2 hP2
  by_cases hz : z = 0 ∨ z = 60
  · have HZ := Lib.hid hz
    have hth := there16 HM2.out.1
    have hrow := mid16s HM2.out.1 s (.slice a1 m1 q1) (.slice a2 m2 q2) (.slice a3 m3 q3)
    have hg2 := HG.out
    have hle := HB.out
    have hke : ∀ {e sz n : Nat} {v : Value} {xs : List Value}, W2.ownsRow B0 e sz v n xs → (W2.setCells g2 9 (sArr s (.slice a1 m1 q1) (.slice a2 m2 q2) (.slice a3 m3 q3)).toList).ownsRow B0 e sz v n xs := fun q => owns_cells hg2 _ _ _ q
    have hmm : MM B0 g2 { m with shot := s } ve (.slice a1 m1 q1) (.slice a2 m2 q2) (.slice a3 m3 q3) rows (W2.setCells g2 9 (sArr s (.slice a1 m1 q1) (.slice a2 m2 q2) (.slice a3 m3 q3)).toList) := by
      obtain ⟨g1, g2', g3, g4, g5, g6, g7, g8, g9⟩ := HM2.out
      exact ⟨hrow, hke g2', fun r hr => ⟨hke (g3 r hr).1, (g3 r hr).2⟩, g4, hke (OwnK.lower O1.out hle), hke (O2.out.lower hle), hke (O3.out.lower hle), ⟨g8.1, g8.2.1, g8.2.2.1, g8.2.2.2.1, g8.2.2.2.2.1, g8.2.2.2.2.2.1, g8.2.2.2.2.2.2.1, HSW.out.1⟩, HSW.out.2⟩
    have HFIN := Lib.hid hmm
    have HPA : Hid (Past B0 (· = g2) W (W2.setCells g2 9 (sArr s (.slice a1 m1 q1) (.slice a2 m2 q2) (.slice a3 m3 q3)).toList)) := Lib.hid ((Past.below (HBW.out.mono hle) _).trans (past_cells _ _ _))
    have HKT : Hid (KeepT W (W2.setCells g2 9 (sArr s (.slice a1 m1 q1) (.slice a2 m2 q2) (.slice a3 m3 q3)).toList)) := Lib.hid ((KeepT.below HBW.out).trans (fun q cs fr hq => (cells_other (g := g2) (by intro e; subst e; have h1 := HM2.out.1; rw [h1] at hq; simp only [Option.some.injEq, Obj.cells.injEq] at hq; exact absurd hq.2.1 (by decide)) _ _ _).trans hq))
    clear hrow hke hmm hg2 hle
    generalize hW3 : W2.setCells g2 9 (sArr s (.slice a1 m1 q1) (.slice a2 m2 q2) (.slice a3 m3 q3)).toList = W3 at HFIN HPA HKT
    rcases hz with rfl | rfl
    all_goals
      go_wp2_with (first
        | (refine wpList_store_row rfl 31 (.tmp 5) (.tmp 10) rfl w1.heap.size (sArr s (.slice a1 m1 q1) (.slice a2 m2 q2) (.slice a3 m3 q3)) rfl rfl 31 _ hst (by kernel_rfl) rfl hone ?_; rw [hW2]; clear hW2 hst)
        | (refine wpList_load_row rfl 31 (.tmp 5) rfl w1.heap.size rfl 31 (sArr s (.slice a1 m1 q1) (.slice a2 m2 q2) (.slice a3 m3 q3)) (0, 0) _ hK2 Tryz.underlying31 rfl (by kernel_rfl) ?_)
        | (refine wpList_store_mid rfl 31 (.tmp 21) (.tmp 20) rfl g2 9 (sArr s (.slice a1 m1 q1) (.slice a2 m2 q2) (.slice a3 m3 q3)) rfl rfl hth (by kernel_rfl) hone ?_; rw [hW3]; clear hW3 hth))
      go_ret2
      exact ⟨s, _, HDV.out, .inr ⟨by decide, rfl, _, _, _, HFIN.out, HPA.out, HKT.out⟩⟩
  · have z0 : (z != 0) = true := bne_t (fun h => hz (.inl h))
    have z6 : (z != 60) = true := bne_t (fun h => hz (.inr h))
    have HZ : Hid (z ≠ 0 ∧ z ≠ 60) := Lib.hid ⟨fun h => hz (.inl h), fun h => hz (.inr h)⟩
    clear hz
    go_wp2_with (refine wpList_store_row rfl 31 (.tmp 5) (.tmp 10) rfl w1.heap.size (sArr s (.slice a1 m1 q1) (.slice a2 m2 q2) (.slice a3 m3 q3)) rfl rfl 31 _ hst (by kernel_rfl) rfl hone ?_; rw [hW2]; clear hW2 hst)
    go_ret2
    exact ⟨s, z, HDV.out, .inl ⟨HZ.out.1, HZ.out.2, rfl, HBW.out⟩⟩
end Ms
end Go.Proofs.YtlfaiemebfkajaaGreatDoor
