/- Package lease's wallet, as landed: Ask. No condition. -/
import Derived.Test.YtgbblegcjladaaaLtX
import Derived.Test.YtgbblegcjladaaaCmB
import Derived.Test.YtgbblegcjladaaaCmdS
import Derived.Deep.MidRow
namespace Go.Proofs.Ytgbblegcjladaaa
open Go.ChangeShapes Go.WideShapes Go.ChangeAt Go.RowKit Go.Deep Go.Maps Go.ChangeMaps Go.MapKept
set_option linter.unusedVariables false
set_option maxRecDepth 100000
set_option linter.unusedSimpArgs false
namespace Lt
open Mp Mc
variable {w w' : World} {S : Nat → Prop} {p g : Nat} {n : Int} {s : Wa} {L : List Tr}
theorem mid8 (c : Cmd) (h : w.heap[p]? = some (.cells (waA n s g) TW (0, 0))) : (w.setCells p 2 (cmA c).toList).heap[p]? = some (.cells (waA n { s with c := c } g) TW (0, 0)) := by
  have h0 : (w.setCell ⟨p, 2, none⟩ (.int .i64 c.kind)).heap[p]? = some (.cells #[.int .i64 n, .int .i64 s.now, .int .i64 c.kind, .int .i64 s.c.node, .int .i64 s.c.token, .slice none 0 0, .int .u64 s.c.boot, .int .u64 s.c.seq, .int .u64 s.c.serial, .int .u64 s.c.stamp, .int .i64 s.made, .map (some g)] TW (0, 0)) := (heap_setCell_same _ p 2 _ TW _ h).trans rfl
  have h1 : ((w.setCell ⟨p, 2, none⟩ (.int .i64 c.kind)).setCell ⟨p, 3, none⟩ (.int .i64 c.node)).heap[p]? = some (.cells #[.int .i64 n, .int .i64 s.now, .int .i64 c.kind, .int .i64 c.node, .int .i64 s.c.token, .slice none 0 0, .int .u64 s.c.boot, .int .u64 s.c.seq, .int .u64 s.c.serial, .int .u64 s.c.stamp, .int .i64 s.made, .map (some g)] TW (0, 0)) := (heap_setCell_same _ p 3 _ TW _ h0).trans rfl
  have h2 : (((w.setCell ⟨p, 2, none⟩ (.int .i64 c.kind)).setCell ⟨p, 3, none⟩ (.int .i64 c.node)).setCell ⟨p, 4, none⟩ (.int .i64 c.token)).heap[p]? = some (.cells #[.int .i64 n, .int .i64 s.now, .int .i64 c.kind, .int .i64 c.node, .int .i64 c.token, .slice none 0 0, .int .u64 s.c.boot, .int .u64 s.c.seq, .int .u64 s.c.serial, .int .u64 s.c.stamp, .int .i64 s.made, .map (some g)] TW (0, 0)) := (heap_setCell_same _ p 4 _ TW _ h1).trans rfl
  have h3 : ((((w.setCell ⟨p, 2, none⟩ (.int .i64 c.kind)).setCell ⟨p, 3, none⟩ (.int .i64 c.node)).setCell ⟨p, 4, none⟩ (.int .i64 c.token)).setCell ⟨p, 5, none⟩ (.slice none 0 0)).heap[p]? = some (.cells #[.int .i64 n, .int .i64 s.now, .int .i64 c.kind, .int .i64 c.node, .int .i64 c.token, .slice none 0 0, .int .u64 s.c.boot, .int .u64 s.c.seq, .int .u64 s.c.serial, .int .u64 s.c.stamp, .int .i64 s.made, .map (some g)] TW (0, 0)) := (heap_setCell_same _ p 5 _ TW _ h2).trans rfl
  have h4 : (((((w.setCell ⟨p, 2, none⟩ (.int .i64 c.kind)).setCell ⟨p, 3, none⟩ (.int .i64 c.node)).setCell ⟨p, 4, none⟩ (.int .i64 c.token)).setCell ⟨p, 5, none⟩ (.slice none 0 0)).setCell ⟨p, 6, none⟩ (.int .u64 c.boot)).heap[p]? = some (.cells #[.int .i64 n, .int .i64 s.now, .int .i64 c.kind, .int .i64 c.node, .int .i64 c.token, .slice none 0 0, .int .u64 c.boot, .int .u64 s.c.seq, .int .u64 s.c.serial, .int .u64 s.c.stamp, .int .i64 s.made, .map (some g)] TW (0, 0)) := (heap_setCell_same _ p 6 _ TW _ h3).trans rfl
  have h5 : ((((((w.setCell ⟨p, 2, none⟩ (.int .i64 c.kind)).setCell ⟨p, 3, none⟩ (.int .i64 c.node)).setCell ⟨p, 4, none⟩ (.int .i64 c.token)).setCell ⟨p, 5, none⟩ (.slice none 0 0)).setCell ⟨p, 6, none⟩ (.int .u64 c.boot)).setCell ⟨p, 7, none⟩ (.int .u64 c.seq)).heap[p]? = some (.cells #[.int .i64 n, .int .i64 s.now, .int .i64 c.kind, .int .i64 c.node, .int .i64 c.token, .slice none 0 0, .int .u64 c.boot, .int .u64 c.seq, .int .u64 s.c.serial, .int .u64 s.c.stamp, .int .i64 s.made, .map (some g)] TW (0, 0)) := (heap_setCell_same _ p 7 _ TW _ h4).trans rfl
  have h6 : (((((((w.setCell ⟨p, 2, none⟩ (.int .i64 c.kind)).setCell ⟨p, 3, none⟩ (.int .i64 c.node)).setCell ⟨p, 4, none⟩ (.int .i64 c.token)).setCell ⟨p, 5, none⟩ (.slice none 0 0)).setCell ⟨p, 6, none⟩ (.int .u64 c.boot)).setCell ⟨p, 7, none⟩ (.int .u64 c.seq)).setCell ⟨p, 8, none⟩ (.int .u64 c.serial)).heap[p]? = some (.cells #[.int .i64 n, .int .i64 s.now, .int .i64 c.kind, .int .i64 c.node, .int .i64 c.token, .slice none 0 0, .int .u64 c.boot, .int .u64 c.seq, .int .u64 c.serial, .int .u64 s.c.stamp, .int .i64 s.made, .map (some g)] TW (0, 0)) := (heap_setCell_same _ p 8 _ TW _ h5).trans rfl
  have h7 : ((((((((w.setCell ⟨p, 2, none⟩ (.int .i64 c.kind)).setCell ⟨p, 3, none⟩ (.int .i64 c.node)).setCell ⟨p, 4, none⟩ (.int .i64 c.token)).setCell ⟨p, 5, none⟩ (.slice none 0 0)).setCell ⟨p, 6, none⟩ (.int .u64 c.boot)).setCell ⟨p, 7, none⟩ (.int .u64 c.seq)).setCell ⟨p, 8, none⟩ (.int .u64 c.serial)).setCell ⟨p, 9, none⟩ (.int .u64 c.stamp)).heap[p]? = some (.cells #[.int .i64 n, .int .i64 s.now, .int .i64 c.kind, .int .i64 c.node, .int .i64 c.token, .slice none 0 0, .int .u64 c.boot, .int .u64 c.seq, .int .u64 c.serial, .int .u64 c.stamp, .int .i64 s.made, .map (some g)] TW (0, 0)) := (heap_setCell_same _ p 9 _ TW _ h6).trans rfl
  exact h7
theorem midO (c : Cmd) (hp : S p) : Only S w (w.setCells p 2 (cmA c).toList) := by
  have o0 : Only S w (w.setCell ⟨p, 2, none⟩ (.int .i64 c.kind)) := Only.setCell _ ⟨p, 2, none⟩ _ hp
  have o1 : Only S w ((w.setCell ⟨p, 2, none⟩ (.int .i64 c.kind)).setCell ⟨p, 3, none⟩ (.int .i64 c.node)) := o0.trans (Only.setCell _ ⟨p, 3, none⟩ _ hp)
  have o2 : Only S w (((w.setCell ⟨p, 2, none⟩ (.int .i64 c.kind)).setCell ⟨p, 3, none⟩ (.int .i64 c.node)).setCell ⟨p, 4, none⟩ (.int .i64 c.token)) := o1.trans (Only.setCell _ ⟨p, 4, none⟩ _ hp)
  have o3 : Only S w ((((w.setCell ⟨p, 2, none⟩ (.int .i64 c.kind)).setCell ⟨p, 3, none⟩ (.int .i64 c.node)).setCell ⟨p, 4, none⟩ (.int .i64 c.token)).setCell ⟨p, 5, none⟩ (.slice none 0 0)) := o2.trans (Only.setCell _ ⟨p, 5, none⟩ _ hp)
  have o4 : Only S w (((((w.setCell ⟨p, 2, none⟩ (.int .i64 c.kind)).setCell ⟨p, 3, none⟩ (.int .i64 c.node)).setCell ⟨p, 4, none⟩ (.int .i64 c.token)).setCell ⟨p, 5, none⟩ (.slice none 0 0)).setCell ⟨p, 6, none⟩ (.int .u64 c.boot)) := o3.trans (Only.setCell _ ⟨p, 6, none⟩ _ hp)
  have o5 : Only S w ((((((w.setCell ⟨p, 2, none⟩ (.int .i64 c.kind)).setCell ⟨p, 3, none⟩ (.int .i64 c.node)).setCell ⟨p, 4, none⟩ (.int .i64 c.token)).setCell ⟨p, 5, none⟩ (.slice none 0 0)).setCell ⟨p, 6, none⟩ (.int .u64 c.boot)).setCell ⟨p, 7, none⟩ (.int .u64 c.seq)) := o4.trans (Only.setCell _ ⟨p, 7, none⟩ _ hp)
  have o6 : Only S w (((((((w.setCell ⟨p, 2, none⟩ (.int .i64 c.kind)).setCell ⟨p, 3, none⟩ (.int .i64 c.node)).setCell ⟨p, 4, none⟩ (.int .i64 c.token)).setCell ⟨p, 5, none⟩ (.slice none 0 0)).setCell ⟨p, 6, none⟩ (.int .u64 c.boot)).setCell ⟨p, 7, none⟩ (.int .u64 c.seq)).setCell ⟨p, 8, none⟩ (.int .u64 c.serial)) := o5.trans (Only.setCell _ ⟨p, 8, none⟩ _ hp)
  have o7 : Only S w ((((((((w.setCell ⟨p, 2, none⟩ (.int .i64 c.kind)).setCell ⟨p, 3, none⟩ (.int .i64 c.node)).setCell ⟨p, 4, none⟩ (.int .i64 c.token)).setCell ⟨p, 5, none⟩ (.slice none 0 0)).setCell ⟨p, 6, none⟩ (.int .u64 c.boot)).setCell ⟨p, 7, none⟩ (.int .u64 c.seq)).setCell ⟨p, 8, none⟩ (.int .u64 c.serial)).setCell ⟨p, 9, none⟩ (.int .u64 c.stamp)) := o6.trans (Only.setCell _ ⟨p, 9, none⟩ _ hp)
  exact o7
theorem midN (c : Cmd) {k : Nat} (hp : k ≠ p) : (w.setCells p 2 (cmA c).toList).heap[k]? = w.heap[k]? := by
  have o0 : (w.setCell ⟨p, 2, none⟩ (.int .i64 c.kind)).heap[k]? = w.heap[k]? := heap_setCell_other _ ⟨p, 2, none⟩ k _ hp
  have o1 : ((w.setCell ⟨p, 2, none⟩ (.int .i64 c.kind)).setCell ⟨p, 3, none⟩ (.int .i64 c.node)).heap[k]? = w.heap[k]? := (heap_setCell_other _ ⟨p, 3, none⟩ k _ hp).trans o0
  have o2 : (((w.setCell ⟨p, 2, none⟩ (.int .i64 c.kind)).setCell ⟨p, 3, none⟩ (.int .i64 c.node)).setCell ⟨p, 4, none⟩ (.int .i64 c.token)).heap[k]? = w.heap[k]? := (heap_setCell_other _ ⟨p, 4, none⟩ k _ hp).trans o1
  have o3 : ((((w.setCell ⟨p, 2, none⟩ (.int .i64 c.kind)).setCell ⟨p, 3, none⟩ (.int .i64 c.node)).setCell ⟨p, 4, none⟩ (.int .i64 c.token)).setCell ⟨p, 5, none⟩ (.slice none 0 0)).heap[k]? = w.heap[k]? := (heap_setCell_other _ ⟨p, 5, none⟩ k _ hp).trans o2
  have o4 : (((((w.setCell ⟨p, 2, none⟩ (.int .i64 c.kind)).setCell ⟨p, 3, none⟩ (.int .i64 c.node)).setCell ⟨p, 4, none⟩ (.int .i64 c.token)).setCell ⟨p, 5, none⟩ (.slice none 0 0)).setCell ⟨p, 6, none⟩ (.int .u64 c.boot)).heap[k]? = w.heap[k]? := (heap_setCell_other _ ⟨p, 6, none⟩ k _ hp).trans o3
  have o5 : ((((((w.setCell ⟨p, 2, none⟩ (.int .i64 c.kind)).setCell ⟨p, 3, none⟩ (.int .i64 c.node)).setCell ⟨p, 4, none⟩ (.int .i64 c.token)).setCell ⟨p, 5, none⟩ (.slice none 0 0)).setCell ⟨p, 6, none⟩ (.int .u64 c.boot)).setCell ⟨p, 7, none⟩ (.int .u64 c.seq)).heap[k]? = w.heap[k]? := (heap_setCell_other _ ⟨p, 7, none⟩ k _ hp).trans o4
  have o6 : (((((((w.setCell ⟨p, 2, none⟩ (.int .i64 c.kind)).setCell ⟨p, 3, none⟩ (.int .i64 c.node)).setCell ⟨p, 4, none⟩ (.int .i64 c.token)).setCell ⟨p, 5, none⟩ (.slice none 0 0)).setCell ⟨p, 6, none⟩ (.int .u64 c.boot)).setCell ⟨p, 7, none⟩ (.int .u64 c.seq)).setCell ⟨p, 8, none⟩ (.int .u64 c.serial)).heap[k]? = w.heap[k]? := (heap_setCell_other _ ⟨p, 8, none⟩ k _ hp).trans o5
  have o7 : ((((((((w.setCell ⟨p, 2, none⟩ (.int .i64 c.kind)).setCell ⟨p, 3, none⟩ (.int .i64 c.node)).setCell ⟨p, 4, none⟩ (.int .i64 c.token)).setCell ⟨p, 5, none⟩ (.slice none 0 0)).setCell ⟨p, 6, none⟩ (.int .u64 c.boot)).setCell ⟨p, 7, none⟩ (.int .u64 c.seq)).setCell ⟨p, 8, none⟩ (.int .u64 c.serial)).setCell ⟨p, 9, none⟩ (.int .u64 c.stamp)).heap[k]? = w.heap[k]? := (heap_setCell_other _ ⟨p, 9, none⟩ k _ hp).trans o6
  exact o7
/-- a request that may be -/
def reqB (c : Cmd) : Bool := (c.kind == 3 || c.kind == 4 || c.kind == 5) && Cm.chkC c
def bare (c : Cmd) : Cmd := { c with nodes := [] }
def askE (s : Wa) (c : Cmd) : Int := if reqB c then (if s.c.kind = 0 then 0 else 3) else 40
def askV (s : Wa) (c : Cmd) : Wa := if reqB c = true ∧ s.c.kind = 0 then { s with c := bare c, made := s.now } else s
theorem cmA_one (c : Cmd) : (cmA c).all (·.oneCell') = true := by simp [Value.oneCell']
theorem thereW (h : w.heap[p]? = some (.cells (waA n s g) TW (0, 0))) : w.there p 2 8 := fun j hj => by
  rcases (by omega : j = 0 ∨ j = 1 ∨ j = 2 ∨ j = 3 ∨ j = 4 ∨ j = 5 ∨ j = 6 ∨ j = 7) with rfl | rfl | rfl | rfl | rfl | rfl | rfl | rfl <;> exact ⟨by rw [cell_of_row _ _ _ _ _ _ h]; rfl, frozen_of_row _ _ _ _ _ h⟩
set_option maxRecDepth 100000 in
set_option maxHeartbeats 16000000 in
theorem ask_any (c : Cmd) (vc : Value) (w : World) (h : WaX p n s w S) (hc : IsCmd w vc c) :
    Calls Try.prog 28 #[.pointer (some ⟨p, 0, none⟩), vc] w fun e w' => e = .returned (.int .i64 (askE s c)) ∧ Mc.Left (WaX p n (askV s c)) S w w' := by
  obtain ⟨g, h⟩ := h
  obtain ⟨vn, rfl, hsl, hwf⟩ := id hc
  obtain ⟨r, hr⟩ : ∃ z, w.heap.size = z := ⟨_, rfl⟩
  obtain ⟨W1, hW1⟩ : ∃ z, w.alloc (.cells #[.int .i64 c.kind, .int .i64 c.node, .int .i64 c.token, vn, .int .u64 c.boot, .int .u64 c.seq, .int .u64 c.serial, .int .u64 c.stamp] 58) = z := ⟨_, rfl⟩
  have hb1 : Below w.heap.size w W1 := by rw [← hW1]; exact (Below.refl _ _).alloc (Nat.le_refl _) _
  have hr1 : W1.heap[r]? = some (.cells #[.int .i64 c.kind, .int .i64 c.node, .int .i64 c.token, vn, .int .u64 c.boot, .int .u64 c.seq, .int .u64 c.serial, .int .u64 c.stamp] 58 (0, 0)) := by rw [← hW1, ← hr]; exact heap_alloc_new _ _
  have k0 : W1.cell? ⟨r, 0, none⟩ = some (.int .i64 c.kind) := (cell_of_row _ _ 0 _ _ _ hr1).trans rfl
  have k1 : W1.cell? ⟨r, 1, none⟩ = some (.int .i64 c.node) := (cell_of_row _ _ 1 _ _ _ hr1).trans rfl
  have k2 : W1.cell? ⟨r, 2, none⟩ = some (.int .i64 c.token) := (cell_of_row _ _ 2 _ _ _ hr1).trans rfl
  have k3 : W1.cell? ⟨r, 3, none⟩ = some (vn) := (cell_of_row _ _ 3 _ _ _ hr1).trans rfl
  have k4 : W1.cell? ⟨r, 4, none⟩ = some (.int .u64 c.boot) := (cell_of_row _ _ 4 _ _ _ hr1).trans rfl
  have k5 : W1.cell? ⟨r, 5, none⟩ = some (.int .u64 c.seq) := (cell_of_row _ _ 5 _ _ _ hr1).trans rfl
  have k6 : W1.cell? ⟨r, 6, none⟩ = some (.int .u64 c.serial) := (cell_of_row _ _ 6 _ _ _ hr1).trans rfl
  have k7 : W1.cell? ⟨r, 7, none⟩ = some (.int .u64 c.stamp) := (cell_of_row _ _ 7 _ _ _ hr1).trans rfl
  have HC1 := Lib.hid (hc.below hb1 (Nat.le_refl _))
  have HB1 := Lib.hid hb1
  have HR1 := Lib.hid hr1
  have H := Lib.hid h
  have HRE := Lib.hid hr
  have HPR : Hid (p ≠ r) := Lib.hid (by have := row_lt h.row; omega)
  clear hb1 hr1 hc hsl hwf h
  by_cases hq : (c.kind == 3 || c.kind == 4 || c.kind == 5) = true
  rotate_left
  · have HE : Hid (askE s c = 40 ∧ askV s c = s) := Lib.hid (by unfold askE askV reqB; rw [Bool.not_eq_true] at hq; rw [hq]; simp)
    have hq3 : (c.kind == 3) = false := by cases hh : c.kind == 3 <;> simp [hh] at hq ⊢
    have hq4 : (c.kind == 4) = false := by cases hh : c.kind == 4 <;> simp [hh] at hq ⊢
    have hq5 : (c.kind == 5) = false := by cases hh : c.kind == 5 <;> simp [hh] at hq ⊢
    clear hq
    go_enter Try.func28, Try.ntmps28
    go_wp2_with (first | rw [hW1, hr])
    go_ret
    exact ⟨by rw [HE.out.1]; rfl, by rw [HE.out.2]; exact Mc.Left.same (goodW p n s) ⟨g, H.out⟩ HB1.out⟩
  have HQ := Lib.hid hq
  have hs : (c.kind == 3) = true ∨ ((c.kind == 3) = false ∧ (c.kind == 4) = true) ∨ ((c.kind == 3) = false ∧ (c.kind == 4) = false ∧ (c.kind == 5) = true) := by
    cases h3 : c.kind == 3 <;> cases h4 : c.kind == 4 <;> cases h5 : c.kind == 5 <;> simp [h3, h4, h5] at hq ⊢
  clear hq
  rcases hs with hq3 | ⟨hq3, hq4⟩ | ⟨hq3, hq4, hq5⟩
  · have _u := ()
    go_enter Try.func28, Try.ntmps28
    go_upto_region 6 with (first | rw [hW1, hr])
    go_wp2_with fail
    refine (Cm.check_any c _ W1 HC1.out).mono ?_
    rintro e w2 ⟨rfl, hb2⟩
    have HB2 := Lib.hid (HB1.out.trans (hb2.mono HB1.out.size))
    have HR2 := Lib.hid ((hb2.block r (row_lt HR1.out)).trans HR1.out)
    clear k0 k1 k2 k3 k4 k5 k6 k7 hb2 hW1 hr
    cases hch : Cm.chkC c
    · have HE : Hid (askE s c = 40 ∧ askV s c = s) := Lib.hid (by unfold askE askV reqB; rw [hch]; simp)
      simp only [Cm.cErr, Bool.false_eq_true, if_false]
      clear hch
      go_wp2
      go_ret
      exact ⟨by rw [HE.out.1]; rfl, by rw [HE.out.2]; exact Mc.Left.same (goodW p n s) ⟨g, H.out⟩ HB2.out⟩
    · have HQB : Hid (reqB c = true) := Lib.hid (by unfold reqB; rw [hch]; simp [HQ.out])
      simp only [Cm.cErr, if_true]
      clear hch
      have H2 := Lib.hid (H.out.keep (w' := w2) (fun k hk => HB2.out.block k (H.out.low k hk)) HB2.out.size)
      go_wp2_with fail
      refine (asked_any w2 ⟨g, H2.out⟩).mono ?_
      rintro e w3 ⟨rfl, hb3⟩
      obtain ⟨W4, hW4⟩ : ∃ z, w3.alloc (.cells (cmA s.c) 58) = z := ⟨_, rfl⟩
      have hb4 : Below w2.heap.size w2 W4 := by rw [← hW4]; exact hb3.alloc hb3.size _
      have HB4 := Lib.hid (HB2.out.trans (hb4.mono HB2.out.size))
      have HR4 := Lib.hid ((hb4.block r (row_lt HR2.out)).trans HR2.out)
      have H4 := Lib.hid (H.out.keep (w' := W4) (fun k hk => HB4.out.block k (H.out.low k hk)) HB4.out.size)
      clear hb3 hb4
      by_cases hk : s.c.kind = 0
      · have hkb : (s.c.kind != 0) = false := by rw [hk]; rfl
        have HE : Hid (askE s c = 0 ∧ askV s c = { s with c := bare c, made := s.now }) := Lib.hid (by unfold askE askV; rw [HQB.out, hk]; simp)
        have e3 : W4.cell? ⟨r, 3, none⟩ = some vn := (cell_of_row _ _ 3 _ _ _ HR4.out).trans rfl
        have f3 : W4.frozen? ⟨r, 3, none⟩ = false := frozen_of_row W4 _ _ _ _ HR4.out
        obtain ⟨W5, hW5⟩ : ∃ z, W4.setCell ⟨r, 3, none⟩ (.slice none 0 0) = z := ⟨_, rfl⟩
        have hr5 : W5.heap[r]? = some (.cells (cmA c) 58 (0, 0)) := by rw [← hW5]; exact (heap_setCell_same W4 r 3 _ 58 _ HR4.out).trans rfl
        have hp5 : W5.heap[p]? = some (.cells (waA n s g) TW (0, 0)) := by rw [← hW5]; exact (heap_setCell_other W4 ⟨r, 3, none⟩ p _ HPR.out).trans H4.out.row
        have ho5 : Below w.heap.size w W5 := by rw [← hW5]; exact HB4.out.setCell (p := ⟨r, 3, none⟩) (Nat.le_of_eq HRE.out) _
        have q0 : W5.cell? ⟨r, 0, none⟩ = some (.int .i64 c.kind) := (cell_of_row _ _ 0 _ _ _ hr5).trans rfl
        have q1 : W5.cell? ⟨r, 1, none⟩ = some (.int .i64 c.node) := (cell_of_row _ _ 1 _ _ _ hr5).trans rfl
        have q2 : W5.cell? ⟨r, 2, none⟩ = some (.int .i64 c.token) := (cell_of_row _ _ 2 _ _ _ hr5).trans rfl
        have q3 : W5.cell? ⟨r, 3, none⟩ = some (.slice none 0 0) := (cell_of_row _ _ 3 _ _ _ hr5).trans rfl
        have q4 : W5.cell? ⟨r, 4, none⟩ = some (.int .u64 c.boot) := (cell_of_row _ _ 4 _ _ _ hr5).trans rfl
        have q5 : W5.cell? ⟨r, 5, none⟩ = some (.int .u64 c.seq) := (cell_of_row _ _ 5 _ _ _ hr5).trans rfl
        have q6 : W5.cell? ⟨r, 6, none⟩ = some (.int .u64 c.serial) := (cell_of_row _ _ 6 _ _ _ hr5).trans rfl
        have q7 : W5.cell? ⟨r, 7, none⟩ = some (.int .u64 c.stamp) := (cell_of_row _ _ 7 _ _ _ hr5).trans rfl
        have hth := thereW hp5
        obtain ⟨W6, hW6⟩ : ∃ z, W5.setCells p 2 (cmA c).toList = z := ⟨_, rfl⟩
        have hp6 : W6.heap[p]? = some (.cells (waA n { s with c := bare c } g) TW (0, 0)) := by rw [← hW6]; exact mid8 (bare c) hp5
        have l1 : W6.cell? ⟨p, 1, none⟩ = some (.int .i64 s.now) := (cell_of_row _ _ 1 _ _ _ hp6).trans rfl
        have l10 : W6.cell? ⟨p, 10, none⟩ = some (.int .i64 s.made) := (cell_of_row _ _ 10 _ _ _ hp6).trans rfl
        have f10 : W6.frozen? ⟨p, 10, none⟩ = false := frozen_of_row W6 _ _ _ _ hp6
        obtain ⟨W7, hW7⟩ : ∃ z, W6.setCell ⟨p, 10, none⟩ (.int .i64 s.now) = z := ⟨_, rfl⟩
        have hp7 : W7.heap[p]? = some (.cells (waA n { s with c := bare c, made := s.now } g) TW (0, 0)) := by rw [← hW7]; exact (heap_setCell_same W6 p 10 _ TW _ hp6).trans rfl
        have hpg : g ≠ p := H.out.m.2.2.row_ne H.out.row
        have hgr : g ≠ r := by have := H.out.low g H.out.sg; have := HRE.out; omega
        have hg7 : W7.heap[g]? = w.heap[g]? := by
          rw [← hW7, heap_setCell_other W6 ⟨p, 10, none⟩ g _ hpg, ← hW6, midN c hpg]
          exact ho5.block g (H.out.low g H.out.sg)
        have ho7 : Only S w W7 := by
          rw [← hW7, ← hW6]
          exact ((Below.only ho5 S).trans (midO c H.out.sp)).trans (Only.setCell _ ⟨p, 10, none⟩ _ H.out.sp)
        have HF : Hid (WaX p n { s with c := bare c, made := s.now } W7 S ∧ Only S w W7) := Lib.hid ⟨⟨g, hp7, H.out.sp, H.out.sg, H.out.m.block hg7, fun k hk => Nat.lt_of_lt_of_le (H.out.low k hk) ho7.2.2.2.1⟩, ho7⟩
        clear hk hr5 hp5 ho5 hp6 hp7 hpg hgr hg7 ho7
        go_wp2_with (first | rw [hW4] | rw [hW5] | (refine wpList_store_mid rfl 58 (.tmp 30) (.tmp 28) rfl p 2 (cmA c) rfl rfl hth (by kernel_rfl) (cmA_one c) ?_; rw [hW6]) | rw [hW7])
        go_ret
        exact ⟨by rw [HE.out.1]; rfl, by rw [HE.out.2]; exact Mc.Left.mk (goodW p n _) HF.out.1 HF.out.2⟩
      · have hkb : (s.c.kind != 0) = true := bne_iff_ne.2 hk
        have HE : Hid (askE s c = 3 ∧ askV s c = s) := Lib.hid (by unfold askE askV; rw [HQB.out]; simp [hk])
        clear hk
        go_wp2_with (first | rw [hW4])
        go_ret
        exact ⟨by rw [HE.out.1]; rfl, by rw [HE.out.2]; exact Mc.Left.same (goodW p n s) ⟨g, H.out⟩ HB4.out⟩
  · have _u := ()
    go_enter Try.func28, Try.ntmps28
    go_upto_region 6 with (first | rw [hW1, hr])
    go_wp2_with fail
    refine (Cm.check_any c _ W1 HC1.out).mono ?_
    rintro e w2 ⟨rfl, hb2⟩
    have HB2 := Lib.hid (HB1.out.trans (hb2.mono HB1.out.size))
    have HR2 := Lib.hid ((hb2.block r (row_lt HR1.out)).trans HR1.out)
    clear k0 k1 k2 k3 k4 k5 k6 k7 hb2 hW1 hr
    cases hch : Cm.chkC c
    · have HE : Hid (askE s c = 40 ∧ askV s c = s) := Lib.hid (by unfold askE askV reqB; rw [hch]; simp)
      simp only [Cm.cErr, Bool.false_eq_true, if_false]
      clear hch
      go_wp2
      go_ret
      exact ⟨by rw [HE.out.1]; rfl, by rw [HE.out.2]; exact Mc.Left.same (goodW p n s) ⟨g, H.out⟩ HB2.out⟩
    · have HQB : Hid (reqB c = true) := Lib.hid (by unfold reqB; rw [hch]; simp [HQ.out])
      simp only [Cm.cErr, if_true]
      clear hch
      have H2 := Lib.hid (H.out.keep (w' := w2) (fun k hk => HB2.out.block k (H.out.low k hk)) HB2.out.size)
      go_wp2_with fail
      refine (asked_any w2 ⟨g, H2.out⟩).mono ?_
      rintro e w3 ⟨rfl, hb3⟩
      obtain ⟨W4, hW4⟩ : ∃ z, w3.alloc (.cells (cmA s.c) 58) = z := ⟨_, rfl⟩
      have hb4 : Below w2.heap.size w2 W4 := by rw [← hW4]; exact hb3.alloc hb3.size _
      have HB4 := Lib.hid (HB2.out.trans (hb4.mono HB2.out.size))
      have HR4 := Lib.hid ((hb4.block r (row_lt HR2.out)).trans HR2.out)
      have H4 := Lib.hid (H.out.keep (w' := W4) (fun k hk => HB4.out.block k (H.out.low k hk)) HB4.out.size)
      clear hb3 hb4
      by_cases hk : s.c.kind = 0
      · have hkb : (s.c.kind != 0) = false := by rw [hk]; rfl
        have HE : Hid (askE s c = 0 ∧ askV s c = { s with c := bare c, made := s.now }) := Lib.hid (by unfold askE askV; rw [HQB.out, hk]; simp)
        have e3 : W4.cell? ⟨r, 3, none⟩ = some vn := (cell_of_row _ _ 3 _ _ _ HR4.out).trans rfl
        have f3 : W4.frozen? ⟨r, 3, none⟩ = false := frozen_of_row W4 _ _ _ _ HR4.out
        obtain ⟨W5, hW5⟩ : ∃ z, W4.setCell ⟨r, 3, none⟩ (.slice none 0 0) = z := ⟨_, rfl⟩
        have hr5 : W5.heap[r]? = some (.cells (cmA c) 58 (0, 0)) := by rw [← hW5]; exact (heap_setCell_same W4 r 3 _ 58 _ HR4.out).trans rfl
        have hp5 : W5.heap[p]? = some (.cells (waA n s g) TW (0, 0)) := by rw [← hW5]; exact (heap_setCell_other W4 ⟨r, 3, none⟩ p _ HPR.out).trans H4.out.row
        have ho5 : Below w.heap.size w W5 := by rw [← hW5]; exact HB4.out.setCell (p := ⟨r, 3, none⟩) (Nat.le_of_eq HRE.out) _
        have q0 : W5.cell? ⟨r, 0, none⟩ = some (.int .i64 c.kind) := (cell_of_row _ _ 0 _ _ _ hr5).trans rfl
        have q1 : W5.cell? ⟨r, 1, none⟩ = some (.int .i64 c.node) := (cell_of_row _ _ 1 _ _ _ hr5).trans rfl
        have q2 : W5.cell? ⟨r, 2, none⟩ = some (.int .i64 c.token) := (cell_of_row _ _ 2 _ _ _ hr5).trans rfl
        have q3 : W5.cell? ⟨r, 3, none⟩ = some (.slice none 0 0) := (cell_of_row _ _ 3 _ _ _ hr5).trans rfl
        have q4 : W5.cell? ⟨r, 4, none⟩ = some (.int .u64 c.boot) := (cell_of_row _ _ 4 _ _ _ hr5).trans rfl
        have q5 : W5.cell? ⟨r, 5, none⟩ = some (.int .u64 c.seq) := (cell_of_row _ _ 5 _ _ _ hr5).trans rfl
        have q6 : W5.cell? ⟨r, 6, none⟩ = some (.int .u64 c.serial) := (cell_of_row _ _ 6 _ _ _ hr5).trans rfl
        have q7 : W5.cell? ⟨r, 7, none⟩ = some (.int .u64 c.stamp) := (cell_of_row _ _ 7 _ _ _ hr5).trans rfl
        have hth := thereW hp5
        obtain ⟨W6, hW6⟩ : ∃ z, W5.setCells p 2 (cmA c).toList = z := ⟨_, rfl⟩
        have hp6 : W6.heap[p]? = some (.cells (waA n { s with c := bare c } g) TW (0, 0)) := by rw [← hW6]; exact mid8 (bare c) hp5
        have l1 : W6.cell? ⟨p, 1, none⟩ = some (.int .i64 s.now) := (cell_of_row _ _ 1 _ _ _ hp6).trans rfl
        have l10 : W6.cell? ⟨p, 10, none⟩ = some (.int .i64 s.made) := (cell_of_row _ _ 10 _ _ _ hp6).trans rfl
        have f10 : W6.frozen? ⟨p, 10, none⟩ = false := frozen_of_row W6 _ _ _ _ hp6
        obtain ⟨W7, hW7⟩ : ∃ z, W6.setCell ⟨p, 10, none⟩ (.int .i64 s.now) = z := ⟨_, rfl⟩
        have hp7 : W7.heap[p]? = some (.cells (waA n { s with c := bare c, made := s.now } g) TW (0, 0)) := by rw [← hW7]; exact (heap_setCell_same W6 p 10 _ TW _ hp6).trans rfl
        have hpg : g ≠ p := H.out.m.2.2.row_ne H.out.row
        have hgr : g ≠ r := by have := H.out.low g H.out.sg; have := HRE.out; omega
        have hg7 : W7.heap[g]? = w.heap[g]? := by
          rw [← hW7, heap_setCell_other W6 ⟨p, 10, none⟩ g _ hpg, ← hW6, midN c hpg]
          exact ho5.block g (H.out.low g H.out.sg)
        have ho7 : Only S w W7 := by
          rw [← hW7, ← hW6]
          exact ((Below.only ho5 S).trans (midO c H.out.sp)).trans (Only.setCell _ ⟨p, 10, none⟩ _ H.out.sp)
        have HF : Hid (WaX p n { s with c := bare c, made := s.now } W7 S ∧ Only S w W7) := Lib.hid ⟨⟨g, hp7, H.out.sp, H.out.sg, H.out.m.block hg7, fun k hk => Nat.lt_of_lt_of_le (H.out.low k hk) ho7.2.2.2.1⟩, ho7⟩
        clear hk hr5 hp5 ho5 hp6 hp7 hpg hgr hg7 ho7
        go_wp2_with (first | rw [hW4] | rw [hW5] | (refine wpList_store_mid rfl 58 (.tmp 30) (.tmp 28) rfl p 2 (cmA c) rfl rfl hth (by kernel_rfl) (cmA_one c) ?_; rw [hW6]) | rw [hW7])
        go_ret
        exact ⟨by rw [HE.out.1]; rfl, by rw [HE.out.2]; exact Mc.Left.mk (goodW p n _) HF.out.1 HF.out.2⟩
      · have hkb : (s.c.kind != 0) = true := bne_iff_ne.2 hk
        have HE : Hid (askE s c = 3 ∧ askV s c = s) := Lib.hid (by unfold askE askV; rw [HQB.out]; simp [hk])
        clear hk
        go_wp2_with (first | rw [hW4])
        go_ret
        exact ⟨by rw [HE.out.1]; rfl, by rw [HE.out.2]; exact Mc.Left.same (goodW p n s) ⟨g, H.out⟩ HB4.out⟩
  · have _u := ()
    go_enter Try.func28, Try.ntmps28
    go_upto_region 6 with (first | rw [hW1, hr])
    go_wp2_with fail
    refine (Cm.check_any c _ W1 HC1.out).mono ?_
    rintro e w2 ⟨rfl, hb2⟩
    have HB2 := Lib.hid (HB1.out.trans (hb2.mono HB1.out.size))
    have HR2 := Lib.hid ((hb2.block r (row_lt HR1.out)).trans HR1.out)
    clear k0 k1 k2 k3 k4 k5 k6 k7 hb2 hW1 hr
    cases hch : Cm.chkC c
    · have HE : Hid (askE s c = 40 ∧ askV s c = s) := Lib.hid (by unfold askE askV reqB; rw [hch]; simp)
      simp only [Cm.cErr, Bool.false_eq_true, if_false]
      clear hch
      go_wp2
      go_ret
      exact ⟨by rw [HE.out.1]; rfl, by rw [HE.out.2]; exact Mc.Left.same (goodW p n s) ⟨g, H.out⟩ HB2.out⟩
    · have HQB : Hid (reqB c = true) := Lib.hid (by unfold reqB; rw [hch]; simp [HQ.out])
      simp only [Cm.cErr, if_true]
      clear hch
      have H2 := Lib.hid (H.out.keep (w' := w2) (fun k hk => HB2.out.block k (H.out.low k hk)) HB2.out.size)
      go_wp2_with fail
      refine (asked_any w2 ⟨g, H2.out⟩).mono ?_
      rintro e w3 ⟨rfl, hb3⟩
      obtain ⟨W4, hW4⟩ : ∃ z, w3.alloc (.cells (cmA s.c) 58) = z := ⟨_, rfl⟩
      have hb4 : Below w2.heap.size w2 W4 := by rw [← hW4]; exact hb3.alloc hb3.size _
      have HB4 := Lib.hid (HB2.out.trans (hb4.mono HB2.out.size))
      have HR4 := Lib.hid ((hb4.block r (row_lt HR2.out)).trans HR2.out)
      have H4 := Lib.hid (H.out.keep (w' := W4) (fun k hk => HB4.out.block k (H.out.low k hk)) HB4.out.size)
      clear hb3 hb4
      by_cases hk : s.c.kind = 0
      · have hkb : (s.c.kind != 0) = false := by rw [hk]; rfl
        have HE : Hid (askE s c = 0 ∧ askV s c = { s with c := bare c, made := s.now }) := Lib.hid (by unfold askE askV; rw [HQB.out, hk]; simp)
        have e3 : W4.cell? ⟨r, 3, none⟩ = some vn := (cell_of_row _ _ 3 _ _ _ HR4.out).trans rfl
        have f3 : W4.frozen? ⟨r, 3, none⟩ = false := frozen_of_row W4 _ _ _ _ HR4.out
        obtain ⟨W5, hW5⟩ : ∃ z, W4.setCell ⟨r, 3, none⟩ (.slice none 0 0) = z := ⟨_, rfl⟩
        have hr5 : W5.heap[r]? = some (.cells (cmA c) 58 (0, 0)) := by rw [← hW5]; exact (heap_setCell_same W4 r 3 _ 58 _ HR4.out).trans rfl
        have hp5 : W5.heap[p]? = some (.cells (waA n s g) TW (0, 0)) := by rw [← hW5]; exact (heap_setCell_other W4 ⟨r, 3, none⟩ p _ HPR.out).trans H4.out.row
        have ho5 : Below w.heap.size w W5 := by rw [← hW5]; exact HB4.out.setCell (p := ⟨r, 3, none⟩) (Nat.le_of_eq HRE.out) _
        have q0 : W5.cell? ⟨r, 0, none⟩ = some (.int .i64 c.kind) := (cell_of_row _ _ 0 _ _ _ hr5).trans rfl
        have q1 : W5.cell? ⟨r, 1, none⟩ = some (.int .i64 c.node) := (cell_of_row _ _ 1 _ _ _ hr5).trans rfl
        have q2 : W5.cell? ⟨r, 2, none⟩ = some (.int .i64 c.token) := (cell_of_row _ _ 2 _ _ _ hr5).trans rfl
        have q3 : W5.cell? ⟨r, 3, none⟩ = some (.slice none 0 0) := (cell_of_row _ _ 3 _ _ _ hr5).trans rfl
        have q4 : W5.cell? ⟨r, 4, none⟩ = some (.int .u64 c.boot) := (cell_of_row _ _ 4 _ _ _ hr5).trans rfl
        have q5 : W5.cell? ⟨r, 5, none⟩ = some (.int .u64 c.seq) := (cell_of_row _ _ 5 _ _ _ hr5).trans rfl
        have q6 : W5.cell? ⟨r, 6, none⟩ = some (.int .u64 c.serial) := (cell_of_row _ _ 6 _ _ _ hr5).trans rfl
        have q7 : W5.cell? ⟨r, 7, none⟩ = some (.int .u64 c.stamp) := (cell_of_row _ _ 7 _ _ _ hr5).trans rfl
        have hth := thereW hp5
        obtain ⟨W6, hW6⟩ : ∃ z, W5.setCells p 2 (cmA c).toList = z := ⟨_, rfl⟩
        have hp6 : W6.heap[p]? = some (.cells (waA n { s with c := bare c } g) TW (0, 0)) := by rw [← hW6]; exact mid8 (bare c) hp5
        have l1 : W6.cell? ⟨p, 1, none⟩ = some (.int .i64 s.now) := (cell_of_row _ _ 1 _ _ _ hp6).trans rfl
        have l10 : W6.cell? ⟨p, 10, none⟩ = some (.int .i64 s.made) := (cell_of_row _ _ 10 _ _ _ hp6).trans rfl
        have f10 : W6.frozen? ⟨p, 10, none⟩ = false := frozen_of_row W6 _ _ _ _ hp6
        obtain ⟨W7, hW7⟩ : ∃ z, W6.setCell ⟨p, 10, none⟩ (.int .i64 s.now) = z := ⟨_, rfl⟩
        have hp7 : W7.heap[p]? = some (.cells (waA n { s with c := bare c, made := s.now } g) TW (0, 0)) := by rw [← hW7]; exact (heap_setCell_same W6 p 10 _ TW _ hp6).trans rfl
        have hpg : g ≠ p := H.out.m.2.2.row_ne H.out.row
        have hgr : g ≠ r := by have := H.out.low g H.out.sg; have := HRE.out; omega
        have hg7 : W7.heap[g]? = w.heap[g]? := by
          rw [← hW7, heap_setCell_other W6 ⟨p, 10, none⟩ g _ hpg, ← hW6, midN c hpg]
          exact ho5.block g (H.out.low g H.out.sg)
        have ho7 : Only S w W7 := by
          rw [← hW7, ← hW6]
          exact ((Below.only ho5 S).trans (midO c H.out.sp)).trans (Only.setCell _ ⟨p, 10, none⟩ _ H.out.sp)
        have HF : Hid (WaX p n { s with c := bare c, made := s.now } W7 S ∧ Only S w W7) := Lib.hid ⟨⟨g, hp7, H.out.sp, H.out.sg, H.out.m.block hg7, fun k hk => Nat.lt_of_lt_of_le (H.out.low k hk) ho7.2.2.2.1⟩, ho7⟩
        clear hk hr5 hp5 ho5 hp6 hp7 hpg hgr hg7 ho7
        go_wp2_with (first | rw [hW4] | rw [hW5] | (refine wpList_store_mid rfl 58 (.tmp 30) (.tmp 28) rfl p 2 (cmA c) rfl rfl hth (by kernel_rfl) (cmA_one c) ?_; rw [hW6]) | rw [hW7])
        go_ret
        exact ⟨by rw [HE.out.1]; rfl, by rw [HE.out.2]; exact Mc.Left.mk (goodW p n _) HF.out.1 HF.out.2⟩
      · have hkb : (s.c.kind != 0) = true := bne_iff_ne.2 hk
        have HE : Hid (askE s c = 3 ∧ askV s c = s) := Lib.hid (by unfold askE askV; rw [HQB.out]; simp [hk])
        clear hk
        go_wp2_with (first | rw [hW4])
        go_ret
        exact ⟨by rw [HE.out.1]; rfl, by rw [HE.out.2]; exact Mc.Left.same (goodW p n s) ⟨g, H.out⟩ HB4.out⟩
end Lt
end Go.Proofs.Ytgbblegcjladaaa
