/- Package msg: next, part by part. No condition. Package msg: each part of a body behind next; read. No condition. -/
import Derived.Test.YtlfaiemebfkajaaGreatDoorMdN
import Derived.Test.YtlfaiemebfkajaaGreatDoorMdL
import Derived.Deep.DeepCutAuto
import Derived.Deep.CutRange
import Derived.Deep.CutBlock
namespace Go.Proofs.YtlfaiemebfkajaaGreatDoor
open Go.ChangeShapes Go.WideShapes Go.ChangeAt Go.RowKit Go.Deep
set_option linter.unusedVariables false
set_option maxRecDepth 100000
namespace Ms
open Nv Cm Sc Hd Rc
abbrev zMB : Array Value := #[.int .i64 0, .int .i64 0, .int .i64 0, .int .u64 0, .int .u64 0, .int .u64 0, .int .u64 0, .bool false, .slice none 0 0, .int .u64 0, .int .u64 0, .slice none 0 0, .int .i64 0, .int .u64 0, .slice none 0 0, .slice none 0 0]
def MMx (B : Nat) (m : Mes) (W : World) : Prop := ∃ ve vn vh vl rows, MM (B + 4) (B + 2) m ve vn vh vl rows W
/-- a body being read -/
def RD (w : World) (s : MSt) (W : World) : Prop :=
  (∃ a cap, W.heap[w.heap.size]? = some (.cells #[.slice a s.2.1.length cap] 22 (0, 0)) ∧ Sl .u8 w (.slice a s.2.1.length cap) s.2.1) ∧ W.heap[w.heap.size + 1]? = some (.cells zMB 33 (0, 0)) ∧ MMx w.heap.size s.1 W ∧ W.heap[w.heap.size + 3]? = some (.cells #[.int .i64 s.2.2] 34 (0, 0)) ∧ Below w.heap.size w W ∧ w.heap.size + 4 ≤ W.heap.size
theorem MMx.below {B : Nat} {m : Mes} {W W' : World} (h : MMx B m W) (hb : Below W.heap.size W W') : MMx B m W' := by
  obtain ⟨ve, vn, vh, vl, rows, h⟩ := h
  exact ⟨ve, vn, vh, vl, rows, h.below hb⟩
theorem RD.below {w W W' : World} {s : MSt} (h : RD w s W) (hb : Below W.heap.size W W') : RD w s W' := by
  obtain ⟨⟨a, cap, h1, h2⟩, h3, h4, h5, h6, h7⟩ := h
  exact ⟨⟨a, cap, (hb.block _ (row_lt h1)).trans h1, h2⟩, (hb.block _ (row_lt h3)).trans h3, h4.below hb, (hb.block _ (row_lt h5)).trans h5, h6.trans (hb.mono h6.size), Nat.le_trans h7 hb.size⟩
/-- what a part answers -/
def PartE (w : World) (zs : List Int) (s' : MSt) (X : World → Prop) (W : World) (e : Ending) (w' : World) : Prop :=
  ∃ (k : Nat) (er : Int), e = .returned (.tuple #[.int .i64 k, .int .i64 er]) ∧ k ≤ zs.length ∧ s'.2 = (zs.drop k, er) ∧ MMx w.heap.size s'.1 w' ∧ Past (w.heap.size + 4) (· = w.heap.size + 2) W w' ∧ KeepT W w' ∧ X w'
/-- what next leaves -/
def NextE (w : World) (s' : MSt) (X : World → Prop) (W : World) (e : Ending) (w' : World) : Prop := e = .returned (.tuple #[]) ∧ RD w s' w' ∧ KeepT W w' ∧ X w'
/-- what does not look at the two boxes of next -/
def Deaf (w : World) (X : World → Prop) : Prop := ∀ (w1 : World) (g : Nat) (u : Value), g < w.heap.size + 4 → X w1 → X (w1.setCell ⟨g, 0, none⟩ u)
theorem deaf_true (w : World) : Deaf w (fun _ => True) := fun _ _ _ _ _ => trivial
theorem MMx.cell {B g : Nat} {m : Mes} {W : World} {u : Value} (h : MMx B m W) (hg : g < B + 4) (hne : B + 2 ≠ g) : MMx B m (W.setCell ⟨g, 0, none⟩ u) := by
  obtain ⟨ve, vn, vh, vl, rows, h⟩ := h
  exact ⟨ve, vn, vh, vl, rows, h.only (Only.setCell (S := (· = g)) _ ⟨g, 0, none⟩ _ rfl) hg hne⟩
theorem RD.fin {w W w1 : World} {m : Mes} {zs zs' : List Int} {e0 er : Int} {m' : Mes} {a' : Option Addr} {c' : Nat} (h : RD w (m, (zs, e0)) W) (hm : MMx w.heap.size m' w1) (hp : Past (w.heap.size + 4) (· = w.heap.size + 2) W w1) (hs : Sl .u8 w (.slice a' zs'.length c') zs') :
    RD w (m', (zs', er)) ((w1.setCell ⟨w.heap.size + 3, 0, none⟩ (.int .i64 er)).setCell ⟨w.heap.size, 0, none⟩ (.slice a' zs'.length c')) := by
  obtain ⟨⟨a, cap, h1, h2⟩, h3, h4, h5, h6, h7⟩ := h
  have k1 := (hp.2.2.2.2 _ (by omega) (by omega)).trans h1
  have k3 := (hp.2.2.2.2 _ (by omega) (by omega)).trans h3
  have k5 := (hp.2.2.2.2 _ (by omega) (by omega)).trans h5
  have r5 := heap_setCell_same _ _ 0 _ _ (.int .i64 er) k5
  have hsz := hp.2.2.2.1
  refine ⟨⟨a', c', ?_, hs⟩, ?_, ?_, ?_, ?_, ?_⟩
  · rw [heap_setCell_same _ _ 0 _ _ _ ((heap_setCell_other _ ⟨w.heap.size + 3, 0, none⟩ w.heap.size _ (by simp)).trans k1)]
    rfl
  · exact (heap_setCell_other _ ⟨w.heap.size, 0, none⟩ _ _ (by simp)).trans ((heap_setCell_other _ ⟨w.heap.size + 3, 0, none⟩ _ _ (by simp)).trans k3)
  · exact (hm.cell (by omega) (by omega)).cell (by omega) (by omega)
  · refine (heap_setCell_other _ ⟨w.heap.size, 0, none⟩ _ _ (by simp)).trans ?_
    rw [r5]; rfl
  · have hbw : Below w.heap.size w w1 := ⟨hp.1.trans h6.os, hp.2.1.trans h6.tape, hp.2.2.1.trans h6.output, Nat.le_trans h6.size hsz, fun q hq => (hp.2.2.2.2 q (by omega) (by omega)).trans (h6.block q hq)⟩
    exact (hbw.setCell (p := ⟨w.heap.size + 3, 0, none⟩) (Nat.le_add_right _ 3) _).setCell (p := ⟨w.heap.size, 0, none⟩) (Nat.le_refl _) _
  · simp; omega
theorem keep2 {w W w1 : World} {s : MSt} {u x : Value} (h : RD w s W) (hp : Past (w.heap.size + 4) (· = w.heap.size + 2) W w1) (hk : KeepT W w1) : KeepT W ((w1.setCell ⟨w.heap.size + 3, 0, none⟩ u).setCell ⟨w.heap.size, 0, none⟩ x) := by
  obtain ⟨⟨a, cap, h1, h2⟩, h3, h4, h5, h6, h7⟩ := h
  have k1 := (hp.2.2.2.2 _ (by omega) (by omega)).trans h1
  have k5 := (hp.2.2.2.2 _ (by omega) (by omega)).trans h5
  exact (hk.trans (KeepT.cell k5 (by decide))).trans (KeepT.cell ((heap_setCell_other _ ⟨w.heap.size + 3, 0, none⟩ w.heap.size _ (by simp)).trans k1) (by decide))
set_option maxHeartbeats 2000000 in
theorem next_skip (w : World) (s : MSt) (p : Value) (W : World) (h : RD w s W) (he : s.2.2 ≠ 0) :
    Calls Tryz.prog 26 #[p, .pointer (some ⟨w.heap.size + 3, 0, none⟩), .pointer (some ⟨w.heap.size, 0, none⟩)] W fun e w' => e = .returned (.tuple #[]) ∧ W = w' := by
  have c3 : W.cell? ⟨w.heap.size + 3, 0, none⟩ = some (.int .i64 s.2.2) := (cell_of_row _ _ 0 _ _ _ h.2.2.2.1).trans rfl
  have hne : (s.2.2 != 0) = true := bne_t he
  clear h he
  go_enter Tryz.func26, Tryz.ntmps26
  go_wp2
  first
    | (refine bodyPost_end (results_none rfl _ _ _) rfl ?_; exact ⟨rfl, rfl⟩)
    | (refine bodyPost_ret (results_none rfl _ _ _) rfl ?_; exact ⟨rfl, rfl⟩)
set_option maxHeartbeats 4000000 in
theorem next_byteInto (w : World) (m : Mes) (zs : List Int) (s' : MSt) (X : World → Prop) (c : Nat) (W : World) (h : RD w (m, (zs, 0)) W) (hX : Deaf w X)
    (hp : ∀ a cap, Sl .u8 W (.slice a zs.length cap) zs → Calls Tryz.prog 59 #[.slice a zs.length cap, .pointer (some ⟨c, 0, none⟩)] W (PartE w zs s' X W)) :
    Calls Tryz.prog 26 #[.func (.func 59) #[] #[.pointer (some ⟨c, 0, none⟩)], .pointer (some ⟨w.heap.size + 3, 0, none⟩), .pointer (some ⟨w.heap.size, 0, none⟩)] W (NextE w s' X W) := by
  obtain ⟨a, cap, h1, h2⟩ := h.1
  dsimp only at h1 h2
  have HC := Lib.hid (hp a cap (h2.below h.2.2.2.2.1 (Nat.le_refl _)))
  have c0 : W.cell? ⟨w.heap.size, 0, none⟩ = some (.slice a zs.length cap) := (cell_of_row _ _ 0 _ _ _ h1).trans rfl
  have c3 : W.cell? ⟨w.heap.size + 3, 0, none⟩ = some (.int .i64 0) := (cell_of_row _ _ 0 _ _ _ h.2.2.2.1).trans rfl
  have HR := Lib.hid h
  have H1 := Lib.hid h1
  have HS := Lib.hid h2
  have HX := Lib.hid hX
  clear h h1 h2 hp hX
  go_enter Tryz.func26, Tryz.ntmps26
  go_wp2_with fail
  refine HC.out.mono ?_
  clear c0 c3
  rintro e w1 ⟨k, er, rfl, hk, hs', hm, hpast, hkt, hx⟩
  obtain ⟨m', st'⟩ := s'
  dsimp only at hs' hm
  subst hs'
  have hb0 := (hpast.2.2.2.2 _ (by omega) (by omega)).trans H1.out
  have hb3 := (hpast.2.2.2.2 (w.heap.size + 3) (by omega) (by omega)).trans HR.out.2.2.2.1
  have c3 : w1.cell? ⟨w.heap.size + 3, 0, none⟩ = some (.int .i64 0) := (cell_of_row _ _ 0 _ _ _ hb3).trans rfl
  have f3 : w1.frozen? ⟨w.heap.size + 3, 0, none⟩ = false := frozen_of_row _ _ 0 _ _ hb3
  have hb0' := (heap_setCell_other w1 ⟨w.heap.size + 3, 0, none⟩ w.heap.size (.int .i64 er) (by simp)).trans hb0
  have c0 : (w1.setCell ⟨w.heap.size + 3, 0, none⟩ (.int .i64 er)).cell? ⟨w.heap.size, 0, none⟩ = some (.slice a zs.length cap) := (cell_of_row _ _ 0 _ _ _ hb0').trans rfl
  have f0 : (w1.setCell ⟨w.heap.size + 3, 0, none⟩ (.int .i64 er)).frozen? ⟨w.heap.size, 0, none⟩ = false := frozen_of_row _ _ 0 _ _ hb0'
  have f3k : (k : Int) ≤ (zs.length : Int) := by omega
  have HM := Lib.hid hm
  have HP := Lib.hid hpast
  have HK := Lib.hid hkt
  have HXX : Hid (∀ u, X ((w1.setCell ⟨w.heap.size + 3, 0, none⟩ (.int .i64 er)).setCell ⟨w.heap.size, 0, none⟩ u)) := Lib.hid (fun u => HX.out _ _ _ (by omega) (HX.out _ _ _ (by omega) hx))
  have hfk := from_k HS.out hk
  clear hb0 hb3 hb0' hm hpast hkt hx
  rcases hfk with ⟨rfl, rfl, rfl, rfl⟩ | ⟨b, off, sp, rfl, ⟨rfl, hzl, hsl⟩ | ⟨hcu, hsl⟩⟩
  · have HF := Lib.hid (HR.out.fin (zs' := ([] : List Int).drop 0) (a' := none) (c' := 0) (er := er) HM.out HP.out ⟨none, 0, rfl, Nat.le_refl _, Nat.zero_le _, by simp, .inl ⟨rfl, rfl, rfl⟩⟩)
    have HKK : Hid (KeepT W ((w1.setCell ⟨w.heap.size + 3, 0, none⟩ (.int .i64 er)).setCell ⟨w.heap.size, 0, none⟩ (.slice none 0 0))) := Lib.hid (keep2 HR.out HP.out HK.out)
    go_wp2
    refine bodyPost_end (results_none rfl _ _ _) rfl ?_
    exact ⟨rfl, HF.out, HKK.out, HXX.out _⟩
  · have HZ0 : Hid ((zs.drop cap).length = 0) := Lib.hid (by rw [List.length_drop]; omega)
    have HF : Hid (RD w (m', (zs.drop cap, er)) ((w1.setCell ⟨w.heap.size + 3, 0, none⟩ (.int .i64 er)).setCell ⟨w.heap.size, 0, none⟩ (.slice (some ⟨b, off, sp⟩) 0 0))) := Lib.hid (by
      have q := HR.out.fin (zs' := zs.drop cap) (a' := some ⟨b, off, sp⟩) (c' := 0) (er := er) HM.out HP.out (by rw [HZ0.out]; exact hsl)
      rw [HZ0.out] at q
      exact q)
    have hzz : (cap : Int) ≤ (zs.length : Int) := by omega
    have HZ1 : Hid (zs.length - cap = 0) := Lib.hid (by omega)
    have HKK : Hid (KeepT W ((w1.setCell ⟨w.heap.size + 3, 0, none⟩ (.int .i64 er)).setCell ⟨w.heap.size, 0, none⟩ (.slice (some ⟨b, off, sp⟩) 0 0))) := Lib.hid (keep2 HR.out HP.out HK.out)
    clear hsl hzl
    go_wp2
    refine bodyPost_end (results_none rfl _ _ _) rfl ?_
    first
      | exact ⟨rfl, HF.out, HKK.out, HXX.out _⟩
      | (rw [HZ1.out]; exact ⟨rfl, HF.out, HKK.out, HXX.out _⟩)
  · have hld : (zs.drop k).length = zs.length - k := List.length_drop
    have HF : Hid (RD w (m', (zs.drop k, er)) ((w1.setCell ⟨w.heap.size + 3, 0, none⟩ (.int .i64 er)).setCell ⟨w.heap.size, 0, none⟩ (.slice (some ((⟨b, off, sp⟩ : Addr).add k)) (zs.length - k) (cap - k)))) := Lib.hid (by
      have q := HR.out.fin (zs' := zs.drop k) (a' := some ((⟨b, off, sp⟩ : Addr).add k)) (c' := cap - k) (er := er) HM.out HP.out (by rw [hld]; exact hsl)
      rw [hld] at q
      exact q)
    have f4 : (k : Int) < (cap : Int) := by
      obtain ⟨a', c', e', g1, -⟩ := id HS.out
      simp only [Value.slice.injEq] at e'
      obtain ⟨-, -, rfl⟩ := e'
      omega
    have HKK : Hid (KeepT W ((w1.setCell ⟨w.heap.size + 3, 0, none⟩ (.int .i64 er)).setCell ⟨w.heap.size, 0, none⟩ (.slice (some ((⟨b, off, sp⟩ : Addr).add k)) (zs.length - k) (cap - k)))) := Lib.hid (keep2 HR.out HP.out HK.out)
    clear hsl hld
    go_wp2
    refine bodyPost_end (results_none rfl _ _ _) rfl ?_
    exact ⟨rfl, HF.out, HKK.out, HXX.out _⟩
set_option maxHeartbeats 4000000 in
theorem next_kindInto (w : World) (m : Mes) (zs : List Int) (s' : MSt) (X : World → Prop) (c : Nat) (W : World) (h : RD w (m, (zs, 0)) W) (hX : Deaf w X)
    (hp : ∀ a cap, Sl .u8 W (.slice a zs.length cap) zs → Calls Tryz.prog 58 #[.slice a zs.length cap, .pointer (some ⟨c, 0, none⟩)] W (PartE w zs s' X W)) :
    Calls Tryz.prog 26 #[.func (.func 58) #[] #[.pointer (some ⟨c, 0, none⟩)], .pointer (some ⟨w.heap.size + 3, 0, none⟩), .pointer (some ⟨w.heap.size, 0, none⟩)] W (NextE w s' X W) := by
  obtain ⟨a, cap, h1, h2⟩ := h.1
  dsimp only at h1 h2
  have HC := Lib.hid (hp a cap (h2.below h.2.2.2.2.1 (Nat.le_refl _)))
  have c0 : W.cell? ⟨w.heap.size, 0, none⟩ = some (.slice a zs.length cap) := (cell_of_row _ _ 0 _ _ _ h1).trans rfl
  have c3 : W.cell? ⟨w.heap.size + 3, 0, none⟩ = some (.int .i64 0) := (cell_of_row _ _ 0 _ _ _ h.2.2.2.1).trans rfl
  have HR := Lib.hid h
  have H1 := Lib.hid h1
  have HS := Lib.hid h2
  have HX := Lib.hid hX
  clear h h1 h2 hp hX
  go_enter Tryz.func26, Tryz.ntmps26
  go_wp2_with fail
  refine HC.out.mono ?_
  clear c0 c3
  rintro e w1 ⟨k, er, rfl, hk, hs', hm, hpast, hkt, hx⟩
  obtain ⟨m', st'⟩ := s'
  dsimp only at hs' hm
  subst hs'
  have hb0 := (hpast.2.2.2.2 _ (by omega) (by omega)).trans H1.out
  have hb3 := (hpast.2.2.2.2 (w.heap.size + 3) (by omega) (by omega)).trans HR.out.2.2.2.1
  have c3 : w1.cell? ⟨w.heap.size + 3, 0, none⟩ = some (.int .i64 0) := (cell_of_row _ _ 0 _ _ _ hb3).trans rfl
  have f3 : w1.frozen? ⟨w.heap.size + 3, 0, none⟩ = false := frozen_of_row _ _ 0 _ _ hb3
  have hb0' := (heap_setCell_other w1 ⟨w.heap.size + 3, 0, none⟩ w.heap.size (.int .i64 er) (by simp)).trans hb0
  have c0 : (w1.setCell ⟨w.heap.size + 3, 0, none⟩ (.int .i64 er)).cell? ⟨w.heap.size, 0, none⟩ = some (.slice a zs.length cap) := (cell_of_row _ _ 0 _ _ _ hb0').trans rfl
  have f0 : (w1.setCell ⟨w.heap.size + 3, 0, none⟩ (.int .i64 er)).frozen? ⟨w.heap.size, 0, none⟩ = false := frozen_of_row _ _ 0 _ _ hb0'
  have f3k : (k : Int) ≤ (zs.length : Int) := by omega
  have HM := Lib.hid hm
  have HP := Lib.hid hpast
  have HK := Lib.hid hkt
  have HXX : Hid (∀ u, X ((w1.setCell ⟨w.heap.size + 3, 0, none⟩ (.int .i64 er)).setCell ⟨w.heap.size, 0, none⟩ u)) := Lib.hid (fun u => HX.out _ _ _ (by omega) (HX.out _ _ _ (by omega) hx))
  have hfk := from_k HS.out hk
  clear hb0 hb3 hb0' hm hpast hkt hx
  rcases hfk with ⟨rfl, rfl, rfl, rfl⟩ | ⟨b, off, sp, rfl, ⟨rfl, hzl, hsl⟩ | ⟨hcu, hsl⟩⟩
  · have HF := Lib.hid (HR.out.fin (zs' := ([] : List Int).drop 0) (a' := none) (c' := 0) (er := er) HM.out HP.out ⟨none, 0, rfl, Nat.le_refl _, Nat.zero_le _, by simp, .inl ⟨rfl, rfl, rfl⟩⟩)
    have HKK : Hid (KeepT W ((w1.setCell ⟨w.heap.size + 3, 0, none⟩ (.int .i64 er)).setCell ⟨w.heap.size, 0, none⟩ (.slice none 0 0))) := Lib.hid (keep2 HR.out HP.out HK.out)
    go_wp2
    refine bodyPost_end (results_none rfl _ _ _) rfl ?_
    exact ⟨rfl, HF.out, HKK.out, HXX.out _⟩
  · have HZ0 : Hid ((zs.drop cap).length = 0) := Lib.hid (by rw [List.length_drop]; omega)
    have HF : Hid (RD w (m', (zs.drop cap, er)) ((w1.setCell ⟨w.heap.size + 3, 0, none⟩ (.int .i64 er)).setCell ⟨w.heap.size, 0, none⟩ (.slice (some ⟨b, off, sp⟩) 0 0))) := Lib.hid (by
      have q := HR.out.fin (zs' := zs.drop cap) (a' := some ⟨b, off, sp⟩) (c' := 0) (er := er) HM.out HP.out (by rw [HZ0.out]; exact hsl)
      rw [HZ0.out] at q
      exact q)
    have hzz : (cap : Int) ≤ (zs.length : Int) := by omega
    have HZ1 : Hid (zs.length - cap = 0) := Lib.hid (by omega)
    have HKK : Hid (KeepT W ((w1.setCell ⟨w.heap.size + 3, 0, none⟩ (.int .i64 er)).setCell ⟨w.heap.size, 0, none⟩ (.slice (some ⟨b, off, sp⟩) 0 0))) := Lib.hid (keep2 HR.out HP.out HK.out)
    clear hsl hzl
    go_wp2
    refine bodyPost_end (results_none rfl _ _ _) rfl ?_
    first
      | exact ⟨rfl, HF.out, HKK.out, HXX.out _⟩
      | (rw [HZ1.out]; exact ⟨rfl, HF.out, HKK.out, HXX.out _⟩)
  · have hld : (zs.drop k).length = zs.length - k := List.length_drop
    have HF : Hid (RD w (m', (zs.drop k, er)) ((w1.setCell ⟨w.heap.size + 3, 0, none⟩ (.int .i64 er)).setCell ⟨w.heap.size, 0, none⟩ (.slice (some ((⟨b, off, sp⟩ : Addr).add k)) (zs.length - k) (cap - k)))) := Lib.hid (by
      have q := HR.out.fin (zs' := zs.drop k) (a' := some ((⟨b, off, sp⟩ : Addr).add k)) (c' := cap - k) (er := er) HM.out HP.out (by rw [hld]; exact hsl)
      rw [hld] at q
      exact q)
    have f4 : (k : Int) < (cap : Int) := by
      obtain ⟨a', c', e', g1, -⟩ := id HS.out
      simp only [Value.slice.injEq] at e'
      obtain ⟨-, -, rfl⟩ := e'
      omega
    have HKK : Hid (KeepT W ((w1.setCell ⟨w.heap.size + 3, 0, none⟩ (.int .i64 er)).setCell ⟨w.heap.size, 0, none⟩ (.slice (some ((⟨b, off, sp⟩ : Addr).add k)) (zs.length - k) (cap - k)))) := Lib.hid (keep2 HR.out HP.out HK.out)
    clear hsl hld
    go_wp2
    refine bodyPost_end (results_none rfl _ _ _) rfl ?_
    exact ⟨rfl, HF.out, HKK.out, HXX.out _⟩
set_option maxHeartbeats 4000000 in
theorem next_flagInto (w : World) (m : Mes) (zs : List Int) (s' : MSt) (X : World → Prop) (c : Nat) (W : World) (h : RD w (m, (zs, 0)) W) (hX : Deaf w X)
    (hp : ∀ a cap, Sl .u8 W (.slice a zs.length cap) zs → Calls Tryz.prog 62 #[.slice a zs.length cap, .pointer (some ⟨c, 0, none⟩)] W (PartE w zs s' X W)) :
    Calls Tryz.prog 26 #[.func (.func 62) #[] #[.pointer (some ⟨c, 0, none⟩)], .pointer (some ⟨w.heap.size + 3, 0, none⟩), .pointer (some ⟨w.heap.size, 0, none⟩)] W (NextE w s' X W) := by
  obtain ⟨a, cap, h1, h2⟩ := h.1
  dsimp only at h1 h2
  have HC := Lib.hid (hp a cap (h2.below h.2.2.2.2.1 (Nat.le_refl _)))
  have c0 : W.cell? ⟨w.heap.size, 0, none⟩ = some (.slice a zs.length cap) := (cell_of_row _ _ 0 _ _ _ h1).trans rfl
  have c3 : W.cell? ⟨w.heap.size + 3, 0, none⟩ = some (.int .i64 0) := (cell_of_row _ _ 0 _ _ _ h.2.2.2.1).trans rfl
  have HR := Lib.hid h
  have H1 := Lib.hid h1
  have HS := Lib.hid h2
  have HX := Lib.hid hX
  clear h h1 h2 hp hX
  go_enter Tryz.func26, Tryz.ntmps26
  go_wp2_with fail
  refine HC.out.mono ?_
  clear c0 c3
  rintro e w1 ⟨k, er, rfl, hk, hs', hm, hpast, hkt, hx⟩
  obtain ⟨m', st'⟩ := s'
  dsimp only at hs' hm
  subst hs'
  have hb0 := (hpast.2.2.2.2 _ (by omega) (by omega)).trans H1.out
  have hb3 := (hpast.2.2.2.2 (w.heap.size + 3) (by omega) (by omega)).trans HR.out.2.2.2.1
  have c3 : w1.cell? ⟨w.heap.size + 3, 0, none⟩ = some (.int .i64 0) := (cell_of_row _ _ 0 _ _ _ hb3).trans rfl
  have f3 : w1.frozen? ⟨w.heap.size + 3, 0, none⟩ = false := frozen_of_row _ _ 0 _ _ hb3
  have hb0' := (heap_setCell_other w1 ⟨w.heap.size + 3, 0, none⟩ w.heap.size (.int .i64 er) (by simp)).trans hb0
  have c0 : (w1.setCell ⟨w.heap.size + 3, 0, none⟩ (.int .i64 er)).cell? ⟨w.heap.size, 0, none⟩ = some (.slice a zs.length cap) := (cell_of_row _ _ 0 _ _ _ hb0').trans rfl
  have f0 : (w1.setCell ⟨w.heap.size + 3, 0, none⟩ (.int .i64 er)).frozen? ⟨w.heap.size, 0, none⟩ = false := frozen_of_row _ _ 0 _ _ hb0'
  have f3k : (k : Int) ≤ (zs.length : Int) := by omega
  have HM := Lib.hid hm
  have HP := Lib.hid hpast
  have HK := Lib.hid hkt
  have HXX : Hid (∀ u, X ((w1.setCell ⟨w.heap.size + 3, 0, none⟩ (.int .i64 er)).setCell ⟨w.heap.size, 0, none⟩ u)) := Lib.hid (fun u => HX.out _ _ _ (by omega) (HX.out _ _ _ (by omega) hx))
  have hfk := from_k HS.out hk
  clear hb0 hb3 hb0' hm hpast hkt hx
  rcases hfk with ⟨rfl, rfl, rfl, rfl⟩ | ⟨b, off, sp, rfl, ⟨rfl, hzl, hsl⟩ | ⟨hcu, hsl⟩⟩
  · have HF := Lib.hid (HR.out.fin (zs' := ([] : List Int).drop 0) (a' := none) (c' := 0) (er := er) HM.out HP.out ⟨none, 0, rfl, Nat.le_refl _, Nat.zero_le _, by simp, .inl ⟨rfl, rfl, rfl⟩⟩)
    have HKK : Hid (KeepT W ((w1.setCell ⟨w.heap.size + 3, 0, none⟩ (.int .i64 er)).setCell ⟨w.heap.size, 0, none⟩ (.slice none 0 0))) := Lib.hid (keep2 HR.out HP.out HK.out)
    go_wp2
    refine bodyPost_end (results_none rfl _ _ _) rfl ?_
    exact ⟨rfl, HF.out, HKK.out, HXX.out _⟩
  · have HZ0 : Hid ((zs.drop cap).length = 0) := Lib.hid (by rw [List.length_drop]; omega)
    have HF : Hid (RD w (m', (zs.drop cap, er)) ((w1.setCell ⟨w.heap.size + 3, 0, none⟩ (.int .i64 er)).setCell ⟨w.heap.size, 0, none⟩ (.slice (some ⟨b, off, sp⟩) 0 0))) := Lib.hid (by
      have q := HR.out.fin (zs' := zs.drop cap) (a' := some ⟨b, off, sp⟩) (c' := 0) (er := er) HM.out HP.out (by rw [HZ0.out]; exact hsl)
      rw [HZ0.out] at q
      exact q)
    have hzz : (cap : Int) ≤ (zs.length : Int) := by omega
    have HZ1 : Hid (zs.length - cap = 0) := Lib.hid (by omega)
    have HKK : Hid (KeepT W ((w1.setCell ⟨w.heap.size + 3, 0, none⟩ (.int .i64 er)).setCell ⟨w.heap.size, 0, none⟩ (.slice (some ⟨b, off, sp⟩) 0 0))) := Lib.hid (keep2 HR.out HP.out HK.out)
    clear hsl hzl
    go_wp2
    refine bodyPost_end (results_none rfl _ _ _) rfl ?_
    first
      | exact ⟨rfl, HF.out, HKK.out, HXX.out _⟩
      | (rw [HZ1.out]; exact ⟨rfl, HF.out, HKK.out, HXX.out _⟩)
  · have hld : (zs.drop k).length = zs.length - k := List.length_drop
    have HF : Hid (RD w (m', (zs.drop k, er)) ((w1.setCell ⟨w.heap.size + 3, 0, none⟩ (.int .i64 er)).setCell ⟨w.heap.size, 0, none⟩ (.slice (some ((⟨b, off, sp⟩ : Addr).add k)) (zs.length - k) (cap - k)))) := Lib.hid (by
      have q := HR.out.fin (zs' := zs.drop k) (a' := some ((⟨b, off, sp⟩ : Addr).add k)) (c' := cap - k) (er := er) HM.out HP.out (by rw [hld]; exact hsl)
      rw [hld] at q
      exact q)
    have f4 : (k : Int) < (cap : Int) := by
      obtain ⟨a', c', e', g1, -⟩ := id HS.out
      simp only [Value.slice.injEq] at e'
      obtain ⟨-, -, rfl⟩ := e'
      omega
    have HKK : Hid (KeepT W ((w1.setCell ⟨w.heap.size + 3, 0, none⟩ (.int .i64 er)).setCell ⟨w.heap.size, 0, none⟩ (.slice (some ((⟨b, off, sp⟩ : Addr).add k)) (zs.length - k) (cap - k)))) := Lib.hid (keep2 HR.out HP.out HK.out)
    clear hsl hld
    go_wp2
    refine bodyPost_end (results_none rfl _ _ _) rfl ?_
    exact ⟨rfl, HF.out, HKK.out, HXX.out _⟩
set_option maxHeartbeats 4000000 in
theorem next_numberInto (w : World) (m : Mes) (zs : List Int) (s' : MSt) (X : World → Prop) (c : Nat) (W : World) (h : RD w (m, (zs, 0)) W) (hX : Deaf w X)
    (hp : ∀ a cap, Sl .u8 W (.slice a zs.length cap) zs → Calls Tryz.prog 60 #[.slice a zs.length cap, .pointer (some ⟨c, 0, none⟩)] W (PartE w zs s' X W)) :
    Calls Tryz.prog 26 #[.func (.func 60) #[] #[.pointer (some ⟨c, 0, none⟩)], .pointer (some ⟨w.heap.size + 3, 0, none⟩), .pointer (some ⟨w.heap.size, 0, none⟩)] W (NextE w s' X W) := by
  obtain ⟨a, cap, h1, h2⟩ := h.1
  dsimp only at h1 h2
  have HC := Lib.hid (hp a cap (h2.below h.2.2.2.2.1 (Nat.le_refl _)))
  have c0 : W.cell? ⟨w.heap.size, 0, none⟩ = some (.slice a zs.length cap) := (cell_of_row _ _ 0 _ _ _ h1).trans rfl
  have c3 : W.cell? ⟨w.heap.size + 3, 0, none⟩ = some (.int .i64 0) := (cell_of_row _ _ 0 _ _ _ h.2.2.2.1).trans rfl
  have HR := Lib.hid h
  have H1 := Lib.hid h1
  have HS := Lib.hid h2
  have HX := Lib.hid hX
  clear h h1 h2 hp hX
  go_enter Tryz.func26, Tryz.ntmps26
  go_wp2_with fail
  refine HC.out.mono ?_
  clear c0 c3
  rintro e w1 ⟨k, er, rfl, hk, hs', hm, hpast, hkt, hx⟩
  obtain ⟨m', st'⟩ := s'
  dsimp only at hs' hm
  subst hs'
  have hb0 := (hpast.2.2.2.2 _ (by omega) (by omega)).trans H1.out
  have hb3 := (hpast.2.2.2.2 (w.heap.size + 3) (by omega) (by omega)).trans HR.out.2.2.2.1
  have c3 : w1.cell? ⟨w.heap.size + 3, 0, none⟩ = some (.int .i64 0) := (cell_of_row _ _ 0 _ _ _ hb3).trans rfl
  have f3 : w1.frozen? ⟨w.heap.size + 3, 0, none⟩ = false := frozen_of_row _ _ 0 _ _ hb3
  have hb0' := (heap_setCell_other w1 ⟨w.heap.size + 3, 0, none⟩ w.heap.size (.int .i64 er) (by simp)).trans hb0
  have c0 : (w1.setCell ⟨w.heap.size + 3, 0, none⟩ (.int .i64 er)).cell? ⟨w.heap.size, 0, none⟩ = some (.slice a zs.length cap) := (cell_of_row _ _ 0 _ _ _ hb0').trans rfl
  have f0 : (w1.setCell ⟨w.heap.size + 3, 0, none⟩ (.int .i64 er)).frozen? ⟨w.heap.size, 0, none⟩ = false := frozen_of_row _ _ 0 _ _ hb0'
  have f3k : (k : Int) ≤ (zs.length : Int) := by omega
  have HM := Lib.hid hm
  have HP := Lib.hid hpast
  have HK := Lib.hid hkt
  have HXX : Hid (∀ u, X ((w1.setCell ⟨w.heap.size + 3, 0, none⟩ (.int .i64 er)).setCell ⟨w.heap.size, 0, none⟩ u)) := Lib.hid (fun u => HX.out _ _ _ (by omega) (HX.out _ _ _ (by omega) hx))
  have hfk := from_k HS.out hk
  clear hb0 hb3 hb0' hm hpast hkt hx
  rcases hfk with ⟨rfl, rfl, rfl, rfl⟩ | ⟨b, off, sp, rfl, ⟨rfl, hzl, hsl⟩ | ⟨hcu, hsl⟩⟩
  · have HF := Lib.hid (HR.out.fin (zs' := ([] : List Int).drop 0) (a' := none) (c' := 0) (er := er) HM.out HP.out ⟨none, 0, rfl, Nat.le_refl _, Nat.zero_le _, by simp, .inl ⟨rfl, rfl, rfl⟩⟩)
    have HKK : Hid (KeepT W ((w1.setCell ⟨w.heap.size + 3, 0, none⟩ (.int .i64 er)).setCell ⟨w.heap.size, 0, none⟩ (.slice none 0 0))) := Lib.hid (keep2 HR.out HP.out HK.out)
    go_wp2
    refine bodyPost_end (results_none rfl _ _ _) rfl ?_
    exact ⟨rfl, HF.out, HKK.out, HXX.out _⟩
  · have HZ0 : Hid ((zs.drop cap).length = 0) := Lib.hid (by rw [List.length_drop]; omega)
    have HF : Hid (RD w (m', (zs.drop cap, er)) ((w1.setCell ⟨w.heap.size + 3, 0, none⟩ (.int .i64 er)).setCell ⟨w.heap.size, 0, none⟩ (.slice (some ⟨b, off, sp⟩) 0 0))) := Lib.hid (by
      have q := HR.out.fin (zs' := zs.drop cap) (a' := some ⟨b, off, sp⟩) (c' := 0) (er := er) HM.out HP.out (by rw [HZ0.out]; exact hsl)
      rw [HZ0.out] at q
      exact q)
    have hzz : (cap : Int) ≤ (zs.length : Int) := by omega
    have HZ1 : Hid (zs.length - cap = 0) := Lib.hid (by omega)
    have HKK : Hid (KeepT W ((w1.setCell ⟨w.heap.size + 3, 0, none⟩ (.int .i64 er)).setCell ⟨w.heap.size, 0, none⟩ (.slice (some ⟨b, off, sp⟩) 0 0))) := Lib.hid (keep2 HR.out HP.out HK.out)
    clear hsl hzl
    go_wp2
    refine bodyPost_end (results_none rfl _ _ _) rfl ?_
    first
      | exact ⟨rfl, HF.out, HKK.out, HXX.out _⟩
      | (rw [HZ1.out]; exact ⟨rfl, HF.out, HKK.out, HXX.out _⟩)
  · have hld : (zs.drop k).length = zs.length - k := List.length_drop
    have HF : Hid (RD w (m', (zs.drop k, er)) ((w1.setCell ⟨w.heap.size + 3, 0, none⟩ (.int .i64 er)).setCell ⟨w.heap.size, 0, none⟩ (.slice (some ((⟨b, off, sp⟩ : Addr).add k)) (zs.length - k) (cap - k)))) := Lib.hid (by
      have q := HR.out.fin (zs' := zs.drop k) (a' := some ((⟨b, off, sp⟩ : Addr).add k)) (c' := cap - k) (er := er) HM.out HP.out (by rw [hld]; exact hsl)
      rw [hld] at q
      exact q)
    have f4 : (k : Int) < (cap : Int) := by
      obtain ⟨a', c', e', g1, -⟩ := id HS.out
      simp only [Value.slice.injEq] at e'
      obtain ⟨-, -, rfl⟩ := e'
      omega
    have HKK : Hid (KeepT W ((w1.setCell ⟨w.heap.size + 3, 0, none⟩ (.int .i64 er)).setCell ⟨w.heap.size, 0, none⟩ (.slice (some ((⟨b, off, sp⟩ : Addr).add k)) (zs.length - k) (cap - k)))) := Lib.hid (keep2 HR.out HP.out HK.out)
    clear hsl hld
    go_wp2
    refine bodyPost_end (results_none rfl _ _ _) rfl ?_
    exact ⟨rfl, HF.out, HKK.out, HXX.out _⟩
set_option maxHeartbeats 4000000 in
theorem next_manyInto (w : World) (m : Mes) (zs : List Int) (s' : MSt) (X : World → Prop) (c : Nat) (W : World) (h : RD w (m, (zs, 0)) W) (hX : Deaf w X)
    (hp : ∀ a cap, Sl .u8 W (.slice a zs.length cap) zs → Calls Tryz.prog 63 #[.slice a zs.length cap, .pointer (some ⟨c, 0, none⟩)] W (PartE w zs s' X W)) :
    Calls Tryz.prog 26 #[.func (.func 63) #[] #[.pointer (some ⟨c, 0, none⟩)], .pointer (some ⟨w.heap.size + 3, 0, none⟩), .pointer (some ⟨w.heap.size, 0, none⟩)] W (NextE w s' X W) := by
  obtain ⟨a, cap, h1, h2⟩ := h.1
  dsimp only at h1 h2
  have HC := Lib.hid (hp a cap (h2.below h.2.2.2.2.1 (Nat.le_refl _)))
  have c0 : W.cell? ⟨w.heap.size, 0, none⟩ = some (.slice a zs.length cap) := (cell_of_row _ _ 0 _ _ _ h1).trans rfl
  have c3 : W.cell? ⟨w.heap.size + 3, 0, none⟩ = some (.int .i64 0) := (cell_of_row _ _ 0 _ _ _ h.2.2.2.1).trans rfl
  have HR := Lib.hid h
  have H1 := Lib.hid h1
  have HS := Lib.hid h2
  have HX := Lib.hid hX
  clear h h1 h2 hp hX
  go_enter Tryz.func26, Tryz.ntmps26
  go_wp2_with fail
  refine HC.out.mono ?_
  clear c0 c3
  rintro e w1 ⟨k, er, rfl, hk, hs', hm, hpast, hkt, hx⟩
  obtain ⟨m', st'⟩ := s'
  dsimp only at hs' hm
  subst hs'
  have hb0 := (hpast.2.2.2.2 _ (by omega) (by omega)).trans H1.out
  have hb3 := (hpast.2.2.2.2 (w.heap.size + 3) (by omega) (by omega)).trans HR.out.2.2.2.1
  have c3 : w1.cell? ⟨w.heap.size + 3, 0, none⟩ = some (.int .i64 0) := (cell_of_row _ _ 0 _ _ _ hb3).trans rfl
  have f3 : w1.frozen? ⟨w.heap.size + 3, 0, none⟩ = false := frozen_of_row _ _ 0 _ _ hb3
  have hb0' := (heap_setCell_other w1 ⟨w.heap.size + 3, 0, none⟩ w.heap.size (.int .i64 er) (by simp)).trans hb0
  have c0 : (w1.setCell ⟨w.heap.size + 3, 0, none⟩ (.int .i64 er)).cell? ⟨w.heap.size, 0, none⟩ = some (.slice a zs.length cap) := (cell_of_row _ _ 0 _ _ _ hb0').trans rfl
  have f0 : (w1.setCell ⟨w.heap.size + 3, 0, none⟩ (.int .i64 er)).frozen? ⟨w.heap.size, 0, none⟩ = false := frozen_of_row _ _ 0 _ _ hb0'
  have f3k : (k : Int) ≤ (zs.length : Int) := by omega
  have HM := Lib.hid hm
  have HP := Lib.hid hpast
  have HK := Lib.hid hkt
  have HXX : Hid (∀ u, X ((w1.setCell ⟨w.heap.size + 3, 0, none⟩ (.int .i64 er)).setCell ⟨w.heap.size, 0, none⟩ u)) := Lib.hid (fun u => HX.out _ _ _ (by omega) (HX.out _ _ _ (by omega) hx))
  have hfk := from_k HS.out hk
  clear hb0 hb3 hb0' hm hpast hkt hx
  rcases hfk with ⟨rfl, rfl, rfl, rfl⟩ | ⟨b, off, sp, rfl, ⟨rfl, hzl, hsl⟩ | ⟨hcu, hsl⟩⟩
  · have HF := Lib.hid (HR.out.fin (zs' := ([] : List Int).drop 0) (a' := none) (c' := 0) (er := er) HM.out HP.out ⟨none, 0, rfl, Nat.le_refl _, Nat.zero_le _, by simp, .inl ⟨rfl, rfl, rfl⟩⟩)
    have HKK : Hid (KeepT W ((w1.setCell ⟨w.heap.size + 3, 0, none⟩ (.int .i64 er)).setCell ⟨w.heap.size, 0, none⟩ (.slice none 0 0))) := Lib.hid (keep2 HR.out HP.out HK.out)
    go_wp2
    refine bodyPost_end (results_none rfl _ _ _) rfl ?_
    exact ⟨rfl, HF.out, HKK.out, HXX.out _⟩
  · have HZ0 : Hid ((zs.drop cap).length = 0) := Lib.hid (by rw [List.length_drop]; omega)
    have HF : Hid (RD w (m', (zs.drop cap, er)) ((w1.setCell ⟨w.heap.size + 3, 0, none⟩ (.int .i64 er)).setCell ⟨w.heap.size, 0, none⟩ (.slice (some ⟨b, off, sp⟩) 0 0))) := Lib.hid (by
      have q := HR.out.fin (zs' := zs.drop cap) (a' := some ⟨b, off, sp⟩) (c' := 0) (er := er) HM.out HP.out (by rw [HZ0.out]; exact hsl)
      rw [HZ0.out] at q
      exact q)
    have hzz : (cap : Int) ≤ (zs.length : Int) := by omega
    have HZ1 : Hid (zs.length - cap = 0) := Lib.hid (by omega)
    have HKK : Hid (KeepT W ((w1.setCell ⟨w.heap.size + 3, 0, none⟩ (.int .i64 er)).setCell ⟨w.heap.size, 0, none⟩ (.slice (some ⟨b, off, sp⟩) 0 0))) := Lib.hid (keep2 HR.out HP.out HK.out)
    clear hsl hzl
    go_wp2
    refine bodyPost_end (results_none rfl _ _ _) rfl ?_
    first
      | exact ⟨rfl, HF.out, HKK.out, HXX.out _⟩
      | (rw [HZ1.out]; exact ⟨rfl, HF.out, HKK.out, HXX.out _⟩)
  · have hld : (zs.drop k).length = zs.length - k := List.length_drop
    have HF : Hid (RD w (m', (zs.drop k, er)) ((w1.setCell ⟨w.heap.size + 3, 0, none⟩ (.int .i64 er)).setCell ⟨w.heap.size, 0, none⟩ (.slice (some ((⟨b, off, sp⟩ : Addr).add k)) (zs.length - k) (cap - k)))) := Lib.hid (by
      have q := HR.out.fin (zs' := zs.drop k) (a' := some ((⟨b, off, sp⟩ : Addr).add k)) (c' := cap - k) (er := er) HM.out HP.out (by rw [hld]; exact hsl)
      rw [hld] at q
      exact q)
    have f4 : (k : Int) < (cap : Int) := by
      obtain ⟨a', c', e', g1, -⟩ := id HS.out
      simp only [Value.slice.injEq] at e'
      obtain ⟨-, -, rfl⟩ := e'
      omega
    have HKK : Hid (KeepT W ((w1.setCell ⟨w.heap.size + 3, 0, none⟩ (.int .i64 er)).setCell ⟨w.heap.size, 0, none⟩ (.slice (some ((⟨b, off, sp⟩ : Addr).add k)) (zs.length - k) (cap - k)))) := Lib.hid (keep2 HR.out HP.out HK.out)
    clear hsl hld
    go_wp2
    refine bodyPost_end (results_none rfl _ _ _) rfl ?_
    exact ⟨rfl, HF.out, HKK.out, HXX.out _⟩
set_option maxHeartbeats 4000000 in
theorem next_entryInto (w : World) (m : Mes) (zs : List Int) (s' : MSt) (X : World → Prop) (c : Nat) (W : World) (h : RD w (m, (zs, 0)) W) (hX : Deaf w X)
    (hp : ∀ a cap, Sl .u8 W (.slice a zs.length cap) zs → Calls Tryz.prog 64 #[.slice a zs.length cap, .pointer (some ⟨c, 0, none⟩)] W (PartE w zs s' X W)) :
    Calls Tryz.prog 26 #[.func (.func 64) #[] #[.pointer (some ⟨c, 0, none⟩)], .pointer (some ⟨w.heap.size + 3, 0, none⟩), .pointer (some ⟨w.heap.size, 0, none⟩)] W (NextE w s' X W) := by
  obtain ⟨a, cap, h1, h2⟩ := h.1
  dsimp only at h1 h2
  have HC := Lib.hid (hp a cap (h2.below h.2.2.2.2.1 (Nat.le_refl _)))
  have c0 : W.cell? ⟨w.heap.size, 0, none⟩ = some (.slice a zs.length cap) := (cell_of_row _ _ 0 _ _ _ h1).trans rfl
  have c3 : W.cell? ⟨w.heap.size + 3, 0, none⟩ = some (.int .i64 0) := (cell_of_row _ _ 0 _ _ _ h.2.2.2.1).trans rfl
  have HR := Lib.hid h
  have H1 := Lib.hid h1
  have HS := Lib.hid h2
  have HX := Lib.hid hX
  clear h h1 h2 hp hX
  go_enter Tryz.func26, Tryz.ntmps26
  go_wp2_with fail
  refine HC.out.mono ?_
  clear c0 c3
  rintro e w1 ⟨k, er, rfl, hk, hs', hm, hpast, hkt, hx⟩
  obtain ⟨m', st'⟩ := s'
  dsimp only at hs' hm
  subst hs'
  have hb0 := (hpast.2.2.2.2 _ (by omega) (by omega)).trans H1.out
  have hb3 := (hpast.2.2.2.2 (w.heap.size + 3) (by omega) (by omega)).trans HR.out.2.2.2.1
  have c3 : w1.cell? ⟨w.heap.size + 3, 0, none⟩ = some (.int .i64 0) := (cell_of_row _ _ 0 _ _ _ hb3).trans rfl
  have f3 : w1.frozen? ⟨w.heap.size + 3, 0, none⟩ = false := frozen_of_row _ _ 0 _ _ hb3
  have hb0' := (heap_setCell_other w1 ⟨w.heap.size + 3, 0, none⟩ w.heap.size (.int .i64 er) (by simp)).trans hb0
  have c0 : (w1.setCell ⟨w.heap.size + 3, 0, none⟩ (.int .i64 er)).cell? ⟨w.heap.size, 0, none⟩ = some (.slice a zs.length cap) := (cell_of_row _ _ 0 _ _ _ hb0').trans rfl
  have f0 : (w1.setCell ⟨w.heap.size + 3, 0, none⟩ (.int .i64 er)).frozen? ⟨w.heap.size, 0, none⟩ = false := frozen_of_row _ _ 0 _ _ hb0'
  have f3k : (k : Int) ≤ (zs.length : Int) := by omega
  have HM := Lib.hid hm
  have HP := Lib.hid hpast
  have HK := Lib.hid hkt
  have HXX : Hid (∀ u, X ((w1.setCell ⟨w.heap.size + 3, 0, none⟩ (.int .i64 er)).setCell ⟨w.heap.size, 0, none⟩ u)) := Lib.hid (fun u => HX.out _ _ _ (by omega) (HX.out _ _ _ (by omega) hx))
  have hfk := from_k HS.out hk
  clear hb0 hb3 hb0' hm hpast hkt hx
  rcases hfk with ⟨rfl, rfl, rfl, rfl⟩ | ⟨b, off, sp, rfl, ⟨rfl, hzl, hsl⟩ | ⟨hcu, hsl⟩⟩
  · have HF := Lib.hid (HR.out.fin (zs' := ([] : List Int).drop 0) (a' := none) (c' := 0) (er := er) HM.out HP.out ⟨none, 0, rfl, Nat.le_refl _, Nat.zero_le _, by simp, .inl ⟨rfl, rfl, rfl⟩⟩)
    have HKK : Hid (KeepT W ((w1.setCell ⟨w.heap.size + 3, 0, none⟩ (.int .i64 er)).setCell ⟨w.heap.size, 0, none⟩ (.slice none 0 0))) := Lib.hid (keep2 HR.out HP.out HK.out)
    go_wp2
    refine bodyPost_end (results_none rfl _ _ _) rfl ?_
    exact ⟨rfl, HF.out, HKK.out, HXX.out _⟩
  · have HZ0 : Hid ((zs.drop cap).length = 0) := Lib.hid (by rw [List.length_drop]; omega)
    have HF : Hid (RD w (m', (zs.drop cap, er)) ((w1.setCell ⟨w.heap.size + 3, 0, none⟩ (.int .i64 er)).setCell ⟨w.heap.size, 0, none⟩ (.slice (some ⟨b, off, sp⟩) 0 0))) := Lib.hid (by
      have q := HR.out.fin (zs' := zs.drop cap) (a' := some ⟨b, off, sp⟩) (c' := 0) (er := er) HM.out HP.out (by rw [HZ0.out]; exact hsl)
      rw [HZ0.out] at q
      exact q)
    have hzz : (cap : Int) ≤ (zs.length : Int) := by omega
    have HZ1 : Hid (zs.length - cap = 0) := Lib.hid (by omega)
    have HKK : Hid (KeepT W ((w1.setCell ⟨w.heap.size + 3, 0, none⟩ (.int .i64 er)).setCell ⟨w.heap.size, 0, none⟩ (.slice (some ⟨b, off, sp⟩) 0 0))) := Lib.hid (keep2 HR.out HP.out HK.out)
    clear hsl hzl
    go_wp2
    refine bodyPost_end (results_none rfl _ _ _) rfl ?_
    first
      | exact ⟨rfl, HF.out, HKK.out, HXX.out _⟩
      | (rw [HZ1.out]; exact ⟨rfl, HF.out, HKK.out, HXX.out _⟩)
  · have hld : (zs.drop k).length = zs.length - k := List.length_drop
    have HF : Hid (RD w (m', (zs.drop k, er)) ((w1.setCell ⟨w.heap.size + 3, 0, none⟩ (.int .i64 er)).setCell ⟨w.heap.size, 0, none⟩ (.slice (some ((⟨b, off, sp⟩ : Addr).add k)) (zs.length - k) (cap - k)))) := Lib.hid (by
      have q := HR.out.fin (zs' := zs.drop k) (a' := some ((⟨b, off, sp⟩ : Addr).add k)) (c' := cap - k) (er := er) HM.out HP.out (by rw [hld]; exact hsl)
      rw [hld] at q
      exact q)
    have f4 : (k : Int) < (cap : Int) := by
      obtain ⟨a', c', e', g1, -⟩ := id HS.out
      simp only [Value.slice.injEq] at e'
      obtain ⟨-, -, rfl⟩ := e'
      omega
    have HKK : Hid (KeepT W ((w1.setCell ⟨w.heap.size + 3, 0, none⟩ (.int .i64 er)).setCell ⟨w.heap.size, 0, none⟩ (.slice (some ((⟨b, off, sp⟩ : Addr).add k)) (zs.length - k) (cap - k)))) := Lib.hid (keep2 HR.out HP.out HK.out)
    clear hsl hld
    go_wp2
    refine bodyPost_end (results_none rfl _ _ _) rfl ?_
    exact ⟨rfl, HF.out, HKK.out, HXX.out _⟩
set_option maxHeartbeats 4000000 in
theorem next_shotInto (w : World) (m : Mes) (zs : List Int) (s' : MSt) (X : World → Prop) (c : Nat) (W : World) (h : RD w (m, (zs, 0)) W) (hX : Deaf w X)
    (hp : ∀ a cap, Sl .u8 W (.slice a zs.length cap) zs → Calls Tryz.prog 66 #[.slice a zs.length cap, .pointer (some ⟨c, 0, none⟩)] W (PartE w zs s' X W)) :
    Calls Tryz.prog 26 #[.func (.func 66) #[] #[.pointer (some ⟨c, 0, none⟩)], .pointer (some ⟨w.heap.size + 3, 0, none⟩), .pointer (some ⟨w.heap.size, 0, none⟩)] W (NextE w s' X W) := by
  obtain ⟨a, cap, h1, h2⟩ := h.1
  dsimp only at h1 h2
  have HC := Lib.hid (hp a cap (h2.below h.2.2.2.2.1 (Nat.le_refl _)))
  have c0 : W.cell? ⟨w.heap.size, 0, none⟩ = some (.slice a zs.length cap) := (cell_of_row _ _ 0 _ _ _ h1).trans rfl
  have c3 : W.cell? ⟨w.heap.size + 3, 0, none⟩ = some (.int .i64 0) := (cell_of_row _ _ 0 _ _ _ h.2.2.2.1).trans rfl
  have HR := Lib.hid h
  have H1 := Lib.hid h1
  have HS := Lib.hid h2
  have HX := Lib.hid hX
  clear h h1 h2 hp hX
  go_enter Tryz.func26, Tryz.ntmps26
  go_wp2_with fail
  refine HC.out.mono ?_
  clear c0 c3
  rintro e w1 ⟨k, er, rfl, hk, hs', hm, hpast, hkt, hx⟩
  obtain ⟨m', st'⟩ := s'
  dsimp only at hs' hm
  subst hs'
  have hb0 := (hpast.2.2.2.2 _ (by omega) (by omega)).trans H1.out
  have hb3 := (hpast.2.2.2.2 (w.heap.size + 3) (by omega) (by omega)).trans HR.out.2.2.2.1
  have c3 : w1.cell? ⟨w.heap.size + 3, 0, none⟩ = some (.int .i64 0) := (cell_of_row _ _ 0 _ _ _ hb3).trans rfl
  have f3 : w1.frozen? ⟨w.heap.size + 3, 0, none⟩ = false := frozen_of_row _ _ 0 _ _ hb3
  have hb0' := (heap_setCell_other w1 ⟨w.heap.size + 3, 0, none⟩ w.heap.size (.int .i64 er) (by simp)).trans hb0
  have c0 : (w1.setCell ⟨w.heap.size + 3, 0, none⟩ (.int .i64 er)).cell? ⟨w.heap.size, 0, none⟩ = some (.slice a zs.length cap) := (cell_of_row _ _ 0 _ _ _ hb0').trans rfl
  have f0 : (w1.setCell ⟨w.heap.size + 3, 0, none⟩ (.int .i64 er)).frozen? ⟨w.heap.size, 0, none⟩ = false := frozen_of_row _ _ 0 _ _ hb0'
  have f3k : (k : Int) ≤ (zs.length : Int) := by omega
  have HM := Lib.hid hm
  have HP := Lib.hid hpast
  have HK := Lib.hid hkt
  have HXX : Hid (∀ u, X ((w1.setCell ⟨w.heap.size + 3, 0, none⟩ (.int .i64 er)).setCell ⟨w.heap.size, 0, none⟩ u)) := Lib.hid (fun u => HX.out _ _ _ (by omega) (HX.out _ _ _ (by omega) hx))
  have hfk := from_k HS.out hk
  clear hb0 hb3 hb0' hm hpast hkt hx
  rcases hfk with ⟨rfl, rfl, rfl, rfl⟩ | ⟨b, off, sp, rfl, ⟨rfl, hzl, hsl⟩ | ⟨hcu, hsl⟩⟩
  · have HF := Lib.hid (HR.out.fin (zs' := ([] : List Int).drop 0) (a' := none) (c' := 0) (er := er) HM.out HP.out ⟨none, 0, rfl, Nat.le_refl _, Nat.zero_le _, by simp, .inl ⟨rfl, rfl, rfl⟩⟩)
    have HKK : Hid (KeepT W ((w1.setCell ⟨w.heap.size + 3, 0, none⟩ (.int .i64 er)).setCell ⟨w.heap.size, 0, none⟩ (.slice none 0 0))) := Lib.hid (keep2 HR.out HP.out HK.out)
    go_wp2
    refine bodyPost_end (results_none rfl _ _ _) rfl ?_
    exact ⟨rfl, HF.out, HKK.out, HXX.out _⟩
  · have HZ0 : Hid ((zs.drop cap).length = 0) := Lib.hid (by rw [List.length_drop]; omega)
    have HF : Hid (RD w (m', (zs.drop cap, er)) ((w1.setCell ⟨w.heap.size + 3, 0, none⟩ (.int .i64 er)).setCell ⟨w.heap.size, 0, none⟩ (.slice (some ⟨b, off, sp⟩) 0 0))) := Lib.hid (by
      have q := HR.out.fin (zs' := zs.drop cap) (a' := some ⟨b, off, sp⟩) (c' := 0) (er := er) HM.out HP.out (by rw [HZ0.out]; exact hsl)
      rw [HZ0.out] at q
      exact q)
    have hzz : (cap : Int) ≤ (zs.length : Int) := by omega
    have HZ1 : Hid (zs.length - cap = 0) := Lib.hid (by omega)
    have HKK : Hid (KeepT W ((w1.setCell ⟨w.heap.size + 3, 0, none⟩ (.int .i64 er)).setCell ⟨w.heap.size, 0, none⟩ (.slice (some ⟨b, off, sp⟩) 0 0))) := Lib.hid (keep2 HR.out HP.out HK.out)
    clear hsl hzl
    go_wp2
    refine bodyPost_end (results_none rfl _ _ _) rfl ?_
    first
      | exact ⟨rfl, HF.out, HKK.out, HXX.out _⟩
      | (rw [HZ1.out]; exact ⟨rfl, HF.out, HKK.out, HXX.out _⟩)
  · have hld : (zs.drop k).length = zs.length - k := List.length_drop
    have HF : Hid (RD w (m', (zs.drop k, er)) ((w1.setCell ⟨w.heap.size + 3, 0, none⟩ (.int .i64 er)).setCell ⟨w.heap.size, 0, none⟩ (.slice (some ((⟨b, off, sp⟩ : Addr).add k)) (zs.length - k) (cap - k)))) := Lib.hid (by
      have q := HR.out.fin (zs' := zs.drop k) (a' := some ((⟨b, off, sp⟩ : Addr).add k)) (c' := cap - k) (er := er) HM.out HP.out (by rw [hld]; exact hsl)
      rw [hld] at q
      exact q)
    have f4 : (k : Int) < (cap : Int) := by
      obtain ⟨a', c', e', g1, -⟩ := id HS.out
      simp only [Value.slice.injEq] at e'
      obtain ⟨-, -, rfl⟩ := e'
      omega
    have HKK : Hid (KeepT W ((w1.setCell ⟨w.heap.size + 3, 0, none⟩ (.int .i64 er)).setCell ⟨w.heap.size, 0, none⟩ (.slice (some ((⟨b, off, sp⟩ : Addr).add k)) (zs.length - k) (cap - k)))) := Lib.hid (keep2 HR.out HP.out HK.out)
    clear hsl hld
    go_wp2
    refine bodyPost_end (results_none rfl _ _ _) rfl ?_
    exact ⟨rfl, HF.out, HKK.out, HXX.out _⟩
set_option maxHeartbeats 4000000 in
theorem next_end (w : World) (m : Mes) (zs : List Int) (s' : MSt) (X : World → Prop) (W : World) (h : RD w (m, (zs, 0)) W) (hX : Deaf w X)
    (hp : ∀ a cap, Sl .u8 W (.slice a zs.length cap) zs → Calls Tryz.prog 35 #[.slice a zs.length cap] W (PartE w zs s' X W)) :
    Calls Tryz.prog 26 #[.func (.func 35) #[] #[], .pointer (some ⟨w.heap.size + 3, 0, none⟩), .pointer (some ⟨w.heap.size, 0, none⟩)] W (NextE w s' X W) := by
  obtain ⟨a, cap, h1, h2⟩ := h.1
  dsimp only at h1 h2
  have HC := Lib.hid (hp a cap (h2.below h.2.2.2.2.1 (Nat.le_refl _)))
  have c0 : W.cell? ⟨w.heap.size, 0, none⟩ = some (.slice a zs.length cap) := (cell_of_row _ _ 0 _ _ _ h1).trans rfl
  have c3 : W.cell? ⟨w.heap.size + 3, 0, none⟩ = some (.int .i64 0) := (cell_of_row _ _ 0 _ _ _ h.2.2.2.1).trans rfl
  have HR := Lib.hid h
  have H1 := Lib.hid h1
  have HS := Lib.hid h2
  have HX := Lib.hid hX
  clear h h1 h2 hp hX
  go_enter Tryz.func26, Tryz.ntmps26
  go_wp2_with fail
  refine HC.out.mono ?_
  clear c0 c3
  rintro e w1 ⟨k, er, rfl, hk, hs', hm, hpast, hkt, hx⟩
  obtain ⟨m', st'⟩ := s'
  dsimp only at hs' hm
  subst hs'
  have hb0 := (hpast.2.2.2.2 _ (by omega) (by omega)).trans H1.out
  have hb3 := (hpast.2.2.2.2 (w.heap.size + 3) (by omega) (by omega)).trans HR.out.2.2.2.1
  have c3 : w1.cell? ⟨w.heap.size + 3, 0, none⟩ = some (.int .i64 0) := (cell_of_row _ _ 0 _ _ _ hb3).trans rfl
  have f3 : w1.frozen? ⟨w.heap.size + 3, 0, none⟩ = false := frozen_of_row _ _ 0 _ _ hb3
  have hb0' := (heap_setCell_other w1 ⟨w.heap.size + 3, 0, none⟩ w.heap.size (.int .i64 er) (by simp)).trans hb0
  have c0 : (w1.setCell ⟨w.heap.size + 3, 0, none⟩ (.int .i64 er)).cell? ⟨w.heap.size, 0, none⟩ = some (.slice a zs.length cap) := (cell_of_row _ _ 0 _ _ _ hb0').trans rfl
  have f0 : (w1.setCell ⟨w.heap.size + 3, 0, none⟩ (.int .i64 er)).frozen? ⟨w.heap.size, 0, none⟩ = false := frozen_of_row _ _ 0 _ _ hb0'
  have f3k : (k : Int) ≤ (zs.length : Int) := by omega
  have HM := Lib.hid hm
  have HP := Lib.hid hpast
  have HK := Lib.hid hkt
  have HXX : Hid (∀ u, X ((w1.setCell ⟨w.heap.size + 3, 0, none⟩ (.int .i64 er)).setCell ⟨w.heap.size, 0, none⟩ u)) := Lib.hid (fun u => HX.out _ _ _ (by omega) (HX.out _ _ _ (by omega) hx))
  have hfk := from_k HS.out hk
  clear hb0 hb3 hb0' hm hpast hkt hx
  rcases hfk with ⟨rfl, rfl, rfl, rfl⟩ | ⟨b, off, sp, rfl, ⟨rfl, hzl, hsl⟩ | ⟨hcu, hsl⟩⟩
  · have HF := Lib.hid (HR.out.fin (zs' := ([] : List Int).drop 0) (a' := none) (c' := 0) (er := er) HM.out HP.out ⟨none, 0, rfl, Nat.le_refl _, Nat.zero_le _, by simp, .inl ⟨rfl, rfl, rfl⟩⟩)
    have HKK : Hid (KeepT W ((w1.setCell ⟨w.heap.size + 3, 0, none⟩ (.int .i64 er)).setCell ⟨w.heap.size, 0, none⟩ (.slice none 0 0))) := Lib.hid (keep2 HR.out HP.out HK.out)
    go_wp2
    refine bodyPost_end (results_none rfl _ _ _) rfl ?_
    exact ⟨rfl, HF.out, HKK.out, HXX.out _⟩
  · have HZ0 : Hid ((zs.drop cap).length = 0) := Lib.hid (by rw [List.length_drop]; omega)
    have HF : Hid (RD w (m', (zs.drop cap, er)) ((w1.setCell ⟨w.heap.size + 3, 0, none⟩ (.int .i64 er)).setCell ⟨w.heap.size, 0, none⟩ (.slice (some ⟨b, off, sp⟩) 0 0))) := Lib.hid (by
      have q := HR.out.fin (zs' := zs.drop cap) (a' := some ⟨b, off, sp⟩) (c' := 0) (er := er) HM.out HP.out (by rw [HZ0.out]; exact hsl)
      rw [HZ0.out] at q
      exact q)
    have hzz : (cap : Int) ≤ (zs.length : Int) := by omega
    have HZ1 : Hid (zs.length - cap = 0) := Lib.hid (by omega)
    have HKK : Hid (KeepT W ((w1.setCell ⟨w.heap.size + 3, 0, none⟩ (.int .i64 er)).setCell ⟨w.heap.size, 0, none⟩ (.slice (some ⟨b, off, sp⟩) 0 0))) := Lib.hid (keep2 HR.out HP.out HK.out)
    clear hsl hzl
    go_wp2
    refine bodyPost_end (results_none rfl _ _ _) rfl ?_
    first
      | exact ⟨rfl, HF.out, HKK.out, HXX.out _⟩
      | (rw [HZ1.out]; exact ⟨rfl, HF.out, HKK.out, HXX.out _⟩)
  · have hld : (zs.drop k).length = zs.length - k := List.length_drop
    have HF : Hid (RD w (m', (zs.drop k, er)) ((w1.setCell ⟨w.heap.size + 3, 0, none⟩ (.int .i64 er)).setCell ⟨w.heap.size, 0, none⟩ (.slice (some ((⟨b, off, sp⟩ : Addr).add k)) (zs.length - k) (cap - k)))) := Lib.hid (by
      have q := HR.out.fin (zs' := zs.drop k) (a' := some ((⟨b, off, sp⟩ : Addr).add k)) (c' := cap - k) (er := er) HM.out HP.out (by rw [hld]; exact hsl)
      rw [hld] at q
      exact q)
    have f4 : (k : Int) < (cap : Int) := by
      obtain ⟨a', c', e', g1, -⟩ := id HS.out
      simp only [Value.slice.injEq] at e'
      obtain ⟨-, -, rfl⟩ := e'
      omega
    have HKK : Hid (KeepT W ((w1.setCell ⟨w.heap.size + 3, 0, none⟩ (.int .i64 er)).setCell ⟨w.heap.size, 0, none⟩ (.slice (some ((⟨b, off, sp⟩ : Addr).add k)) (zs.length - k) (cap - k)))) := Lib.hid (keep2 HR.out HP.out HK.out)
    clear hsl hld
    go_wp2
    refine bodyPost_end (results_none rfl _ _ _) rfl ?_
    exact ⟨rfl, HF.out, HKK.out, HXX.out _⟩
end Ms
end Go.Proofs.YtlfaiemebfkajaaGreatDoor
namespace Go.Proofs.YtlfaiemebfkajaaGreatDoor
open Go.ChangeShapes Go.WideShapes Go.ChangeAt Go.RowKit Go.Deep
set_option linter.unusedVariables false
set_option maxRecDepth 100000
namespace Ms
open Nv Cm Sc Hd Rc
/-- next with any part -/
abbrev NextC (w : World) (p : Value) (s' : MSt) (X : World → Prop) (W : World) : Prop :=
  Calls Tryz.prog 26 #[p, .pointer (some ⟨w.heap.size + 3, 0, none⟩), .pointer (some ⟨w.heap.size, 0, none⟩)] W (NextE w s' X W)
theorem nextE_skip {w W : World} {s : MSt} {X : World → Prop} {p : Value} (h : RD w s W) (he : s.2.2 ≠ 0) (hx : X W) : NextC w p s X W :=
  (next_skip w s p W h he).mono fun e w' ⟨a, b⟩ => by subst b; exact ⟨a, h, KeepT.refl _, hx⟩
theorem past_of_only {B0 g2 : Nat} {W w' : World} (h : Only (· = g2) W w') (hB : B0 ≤ W.heap.size) : Past B0 (· = g2) W w' := ⟨h.1, h.2.1, h.2.2.1, h.2.2.2.1, fun k hk hn => h.2.2.2.2 k (Nat.lt_of_lt_of_le hk hB) hn⟩
/-- a part that writes one cell of the message -/
theorem part_set {w W w' : World} {m m' : Mes} {off : Nat} {u : Value} {ve vn vh vl : Value} {rows : List ERow} (hM : MM (w.heap.size + 4) (w.heap.size + 2) m ve vn vh vl rows W) (h4 : w.heap.size + 4 ≤ W.heap.size) (hset : SetC W (w.heap.size + 2) off (mArr m ve vn vh vl) 33 u w') (hr : (mArr m ve vn vh vl).setIfInBounds off u = mArr m' ve vn vh vl) (he : m'.ents = m.ents) (hs : m'.shot = m.shot) (hw : m'.wf) :
    MMx w.heap.size m' w' ∧ Past (w.heap.size + 4) (· = w.heap.size + 2) W w' ∧ KeepT W w' :=
  ⟨⟨ve, vn, vh, vl, rows, hM.row hset.1 (by omega) (by rw [hset.2, hr]) he hs hw⟩, past_of_only hset.1 h4, KeepT.only hset.1 hM.1 (by decide)⟩
theorem i64_byte {x : Int} (h0 : 0 ≤ x) (h1 : x ≤ 255) : (Lit.int .i64 x).wf = true := by simp [Lit.wf, IntKind.min, IntKind.max, IntKind.signed, IntKind.bits]; omega
theorem step_src (w : World) (s : MSt) (W : World) (c : Nat) (h : RD w s W) (hp : PtrB W c 65 (w.heap.size + 2) 1) : NextC w (.func (.func 59) #[] #[.pointer (some ⟨c, 0, none⟩)]) (srcP s) (fun _ => True) W := by
  obtain ⟨m, zs, e0⟩ := s
  by_cases he : e0 = 0
  · subst he
    obtain ⟨ve, vn, vh, vl, rows, hM⟩ := h.2.2.1
    have h4 := h.2.2.2.2.2
    have hw := hM.2.2.2.2.2.2.2.1
    refine next_byteInto w m zs _ _ c W h (deaf_true w) fun a cap hs => ?_
    refine (byte_any _ zs c (w.heap.size + 2) 1 (mArr m ve vn vh vl) 33 65 _ W hs hp hM.1 rfl).mono ?_
    rintro e w' (⟨rfl, rfl, rfl⟩ | ⟨x, r, rfl, x0, x1, rfl, hset⟩)
    · exact ⟨0, 10, rfl, Nat.zero_le _, rfl, ⟨ve, vn, vh, vl, rows, hM⟩, ⟨rfl, rfl, rfl, Nat.le_refl _, fun _ _ _ => rfl⟩, KeepT.refl _, trivial⟩
    · obtain ⟨a1, a2, a3⟩ := part_set (m' := { m with src := x }) hM h4 hset rfl rfl rfl ⟨hw.1, i64_byte x0 x1, hw.2.2⟩
      exact ⟨1, 0, rfl, by simp, rfl, a1, a2, a3, trivial⟩
  · have e : srcP (m, (zs, e0)) = (m, (zs, e0)) := if_neg he
    rw [e]
    exact nextE_skip h he trivial
theorem step_dst (w : World) (s : MSt) (W : World) (c : Nat) (h : RD w s W) (hp : PtrB W c 65 (w.heap.size + 2) 2) : NextC w (.func (.func 59) #[] #[.pointer (some ⟨c, 0, none⟩)]) (dstP s) (fun _ => True) W := by
  obtain ⟨m, zs, e0⟩ := s
  by_cases he : e0 = 0
  · subst he
    obtain ⟨ve, vn, vh, vl, rows, hM⟩ := h.2.2.1
    have h4 := h.2.2.2.2.2
    have hw := hM.2.2.2.2.2.2.2.1
    refine next_byteInto w m zs _ _ c W h (deaf_true w) fun a cap hs => ?_
    refine (byte_any _ zs c (w.heap.size + 2) 2 (mArr m ve vn vh vl) 33 65 _ W hs hp hM.1 rfl).mono ?_
    rintro e w' (⟨rfl, rfl, rfl⟩ | ⟨x, r, rfl, x0, x1, rfl, hset⟩)
    · exact ⟨0, 10, rfl, Nat.zero_le _, rfl, ⟨ve, vn, vh, vl, rows, hM⟩, ⟨rfl, rfl, rfl, Nat.le_refl _, fun _ _ _ => rfl⟩, KeepT.refl _, trivial⟩
    · obtain ⟨a1, a2, a3⟩ := part_set (m' := { m with dst := x }) hM h4 hset rfl rfl rfl ⟨hw.1, hw.2.1, i64_byte x0 x1, hw.2.2.2⟩
      exact ⟨1, 0, rfl, by simp, rfl, a1, a2, a3, trivial⟩
  · have e : dstP (m, (zs, e0)) = (m, (zs, e0)) := if_neg he
    rw [e]
    exact nextE_skip h he trivial
theorem step_kind (w : World) (s : MSt) (W : World) (c : Nat) (h : RD w s W) (hp : PtrB W c 65 (w.heap.size + 2) 0) : NextC w (.func (.func 58) #[] #[.pointer (some ⟨c, 0, none⟩)]) (kindP s) (fun _ => True) W := by
  obtain ⟨m, zs, e0⟩ := s
  by_cases he : e0 = 0
  · subst he
    obtain ⟨ve, vn, vh, vl, rows, hM⟩ := h.2.2.1
    have h4 := h.2.2.2.2.2
    have hw := hM.2.2.2.2.2.2.2.1
    refine next_kindInto w m zs _ _ c W h (deaf_true w) fun a cap hs => ?_
    refine (kind_any _ zs c (w.heap.size + 2) 0 (mArr m ve vn vh vl) 33 65 _ W hs hp hM.1 rfl (hp.ne hM.1 (by decide))).mono ?_
    rintro e w' (⟨rfl, rfl, ho, hr⟩ | ⟨x, r, rfl, x0, x1, hset, hk⟩)
    · exact ⟨0, 10, rfl, Nat.zero_le _, rfl, ⟨ve, vn, vh, vl, rows, hM.row ho (by omega) (hr.trans hM.1) rfl rfl hw⟩, past_of_only ho h4, KeepT.only ho hM.1 (by decide), trivial⟩
    · obtain ⟨a1, a2, a3⟩ := part_set (m' := { m with kind := x }) hM h4 hset rfl rfl rfl ⟨i64_byte x0 x1, hw.2⟩
      rcases hk with ⟨hk, rfl⟩ | ⟨hk, rfl⟩
      · have e : kindP (m, (x :: r, 0)) = ({ m with kind := x }, (r, 0)) := by unfold kindP; simp only [if_true]; exact if_pos hk
        rw [e]
        exact ⟨1, 0, rfl, by simp, rfl, a1, a2, a3, trivial⟩
      · have e : kindP (m, (x :: r, 0)) = ({ m with kind := x }, (x :: r, 11)) := by unfold kindP; simp only [if_true]; exact if_neg hk
        rw [e]
        exact ⟨0, 11, rfl, Nat.zero_le _, rfl, a1, a2, a3, trivial⟩
  · have e : kindP (m, (zs, e0)) = (m, (zs, e0)) := if_neg he
    rw [e]
    exact nextE_skip h he trivial
theorem step_flag (w : World) (s : MSt) (W : World) (c : Nat) (h : RD w s W) (hp : PtrB W c 72 (w.heap.size + 2) 7) : NextC w (.func (.func 62) #[] #[.pointer (some ⟨c, 0, none⟩)]) (flagP s) (fun _ => True) W := by
  obtain ⟨m, zs, e0⟩ := s
  by_cases he : e0 = 0
  · subst he
    obtain ⟨ve, vn, vh, vl, rows, hM⟩ := h.2.2.1
    have h4 := h.2.2.2.2.2
    have hw := hM.2.2.2.2.2.2.2.1
    refine next_flagInto w m zs _ _ c W h (deaf_true w) fun a cap hs => ?_
    refine (flag_any _ zs c (w.heap.size + 2) 7 (mArr m ve vn vh vl) 33 72 _ W hs hp hM.1 rfl (hp.ne hM.1 (by decide))).mono ?_
    rintro e w' (⟨rfl, rfl, hset⟩ | ⟨x, r, rfl, x1, rfl, ho, hr⟩ | ⟨x, r, rfl, x0, x1, rfl, hset⟩)
    · obtain ⟨a1, a2, a3⟩ := part_set (m' := { m with flag := false }) hM h4 hset rfl rfl rfl hw
      exact ⟨0, 10, rfl, Nat.zero_le _, rfl, a1, a2, a3, trivial⟩
    · have e : flagP (m, (x :: r, 0)) = (m, (x :: r, 11)) := by unfold flagP; simp only [if_true]; exact if_pos x1
      rw [e]
      exact ⟨0, 11, rfl, Nat.zero_le _, rfl, ⟨ve, vn, vh, vl, rows, hM.row ho (by omega) (hr.trans hM.1) rfl rfl hw⟩, past_of_only ho h4, KeepT.only ho hM.1 (by decide), trivial⟩
    · obtain ⟨a1, a2, a3⟩ := part_set (m' := { m with flag := x == 1 }) hM h4 hset rfl rfl rfl hw
      have e : flagP (m, (x :: r, 0)) = ({ m with flag := x == 1 }, (r, 0)) := by unfold flagP; simp only [if_true]; exact if_neg (by omega)
      rw [e]
      exact ⟨1, 0, rfl, by simp, rfl, a1, a2, a3, trivial⟩
  · have e : flagP (m, (zs, e0)) = (m, (zs, e0)) := if_neg he
    rw [e]
    exact nextE_skip h he trivial
theorem rdL_lt {zs : List Int} (hz : WfB zs) : (Oc.rdL zs).1 < 18446744073709551616 := by
  match zs with
  | [] => decide
  | x :: rest =>
    unfold Oc.rdL
    simp only []
    split
    · decide
    · split
      · decide
      · rename_i h1 h2
        have hb : ∀ y ∈ rest.take x.toNat, 0 ≤ y ∧ y ≤ 255 := fun y hy => by
          have q := hz y (by simp [List.mem_of_mem_take hy])
          simp [Lit.wf, IntKind.min, IntKind.max, IntKind.signed, IntKind.bits] at q
          omega
        have hl : (rest.take x.toNat).length ≤ 8 := by rw [List.length_take]; omega
        first
          | exact Oc.val_lt8 _ hb hl
          | (split <;> first | decide | exact Oc.val_lt8 _ hb hl)
theorem rdL_u64 {zs : List Int} (hz : WfB zs) : (Lit.int .u64 ((Oc.rdL zs).1 : Nat)).wf = true := by
  have := rdL_lt hz
  exact u64_wf ⟨by omega, by omega⟩
theorem step_num0 (w : World) (s : MSt) (W : World) (c : Nat) (h : RD w s W) (hp : PtrB W c 70 (w.heap.size + 2) 3) : NextC w (.func (.func 60) #[] #[.pointer (some ⟨c, 0, none⟩)]) (numP 0 s) (fun _ => True) W := by
  obtain ⟨m, zs, e0⟩ := s
  by_cases he : e0 = 0
  · subst he
    obtain ⟨ve, vn, vh, vl, rows, hM⟩ := h.2.2.1
    have h4 := h.2.2.2.2.2
    have hw := hM.2.2.2.2.2.2.2.1
    have hz : WfB zs := by obtain ⟨a, cap, -, q⟩ := h.1; exact q.wf
    refine next_numberInto w m zs _ _ c W h (deaf_true w) fun a cap hs => ?_
    refine (num_part _ zs c (w.heap.size + 2) 3 (mArr m ve vn vh vl) 33 70 _ W hs hp hM.1 rfl).mono ?_
    rintro e w' ⟨rfl, hset⟩
    have hn := rdL_u64 hz
    obtain ⟨a1, a2, a3⟩ := part_set (m' := { m with term := ((Oc.rdL zs).1 : Nat) }) hM h4 hset rfl rfl rfl ⟨hw.1, hw.2.1, hw.2.2.1, hn, hw.2.2.2.2.1, hw.2.2.2.2.2.1, hw.2.2.2.2.2.2.1, hw.2.2.2.2.2.2.2⟩
    exact ⟨(Oc.rdL zs).2.1, (Oc.rdL zs).2.2, rfl, rd_len (n := (Oc.rdL zs).1) (e := (Oc.rdL zs).2.2) rfl, rfl, a1, a2, a3, trivial⟩
  · have e : numP 0 (m, (zs, e0)) = (m, (zs, e0)) := if_neg he
    rw [e]
    exact nextE_skip h he trivial
theorem step_num1 (w : World) (s : MSt) (W : World) (c : Nat) (h : RD w s W) (hp : PtrB W c 70 (w.heap.size + 2) 4) : NextC w (.func (.func 60) #[] #[.pointer (some ⟨c, 0, none⟩)]) (numP 1 s) (fun _ => True) W := by
  obtain ⟨m, zs, e0⟩ := s
  by_cases he : e0 = 0
  · subst he
    obtain ⟨ve, vn, vh, vl, rows, hM⟩ := h.2.2.1
    have h4 := h.2.2.2.2.2
    have hw := hM.2.2.2.2.2.2.2.1
    have hz : WfB zs := by obtain ⟨a, cap, -, q⟩ := h.1; exact q.wf
    refine next_numberInto w m zs _ _ c W h (deaf_true w) fun a cap hs => ?_
    refine (num_part _ zs c (w.heap.size + 2) 4 (mArr m ve vn vh vl) 33 70 _ W hs hp hM.1 rfl).mono ?_
    rintro e w' ⟨rfl, hset⟩
    have hn := rdL_u64 hz
    obtain ⟨a1, a2, a3⟩ := part_set (m' := { m with index := ((Oc.rdL zs).1 : Nat) }) hM h4 hset rfl rfl rfl ⟨hw.1, hw.2.1, hw.2.2.1, hw.2.2.2.1, hn, hw.2.2.2.2.2.1, hw.2.2.2.2.2.2.1, hw.2.2.2.2.2.2.2⟩
    exact ⟨(Oc.rdL zs).2.1, (Oc.rdL zs).2.2, rfl, rd_len (n := (Oc.rdL zs).1) (e := (Oc.rdL zs).2.2) rfl, rfl, a1, a2, a3, trivial⟩
  · have e : numP 1 (m, (zs, e0)) = (m, (zs, e0)) := if_neg he
    rw [e]
    exact nextE_skip h he trivial
theorem step_num2 (w : World) (s : MSt) (W : World) (c : Nat) (h : RD w s W) (hp : PtrB W c 70 (w.heap.size + 2) 5) : NextC w (.func (.func 60) #[] #[.pointer (some ⟨c, 0, none⟩)]) (numP 2 s) (fun _ => True) W := by
  obtain ⟨m, zs, e0⟩ := s
  by_cases he : e0 = 0
  · subst he
    obtain ⟨ve, vn, vh, vl, rows, hM⟩ := h.2.2.1
    have h4 := h.2.2.2.2.2
    have hw := hM.2.2.2.2.2.2.2.1
    have hz : WfB zs := by obtain ⟨a, cap, -, q⟩ := h.1; exact q.wf
    refine next_numberInto w m zs _ _ c W h (deaf_true w) fun a cap hs => ?_
    refine (num_part _ zs c (w.heap.size + 2) 5 (mArr m ve vn vh vl) 33 70 _ W hs hp hM.1 rfl).mono ?_
    rintro e w' ⟨rfl, hset⟩
    have hn := rdL_u64 hz
    obtain ⟨a1, a2, a3⟩ := part_set (m' := { m with lterm := ((Oc.rdL zs).1 : Nat) }) hM h4 hset rfl rfl rfl ⟨hw.1, hw.2.1, hw.2.2.1, hw.2.2.2.1, hw.2.2.2.2.1, hn, hw.2.2.2.2.2.2.1, hw.2.2.2.2.2.2.2⟩
    exact ⟨(Oc.rdL zs).2.1, (Oc.rdL zs).2.2, rfl, rd_len (n := (Oc.rdL zs).1) (e := (Oc.rdL zs).2.2) rfl, rfl, a1, a2, a3, trivial⟩
  · have e : numP 2 (m, (zs, e0)) = (m, (zs, e0)) := if_neg he
    rw [e]
    exact nextE_skip h he trivial
theorem step_num3 (w : World) (s : MSt) (W : World) (c : Nat) (h : RD w s W) (hp : PtrB W c 70 (w.heap.size + 2) 6) : NextC w (.func (.func 60) #[] #[.pointer (some ⟨c, 0, none⟩)]) (numP 3 s) (fun _ => True) W := by
  obtain ⟨m, zs, e0⟩ := s
  by_cases he : e0 = 0
  · subst he
    obtain ⟨ve, vn, vh, vl, rows, hM⟩ := h.2.2.1
    have h4 := h.2.2.2.2.2
    have hw := hM.2.2.2.2.2.2.2.1
    have hz : WfB zs := by obtain ⟨a, cap, -, q⟩ := h.1; exact q.wf
    refine next_numberInto w m zs _ _ c W h (deaf_true w) fun a cap hs => ?_
    refine (num_part _ zs c (w.heap.size + 2) 6 (mArr m ve vn vh vl) 33 70 _ W hs hp hM.1 rfl).mono ?_
    rintro e w' ⟨rfl, hset⟩
    have hn := rdL_u64 hz
    obtain ⟨a1, a2, a3⟩ := part_set (m' := { m with commit := ((Oc.rdL zs).1 : Nat) }) hM h4 hset rfl rfl rfl ⟨hw.1, hw.2.1, hw.2.2.1, hw.2.2.2.1, hw.2.2.2.2.1, hw.2.2.2.2.2.1, hn, hw.2.2.2.2.2.2.2⟩
    exact ⟨(Oc.rdL zs).2.1, (Oc.rdL zs).2.2, rfl, rd_len (n := (Oc.rdL zs).1) (e := (Oc.rdL zs).2.2) rfl, rfl, a1, a2, a3, trivial⟩
  · have e : numP 3 (m, (zs, e0)) = (m, (zs, e0)) := if_neg he
    rw [e]
    exact nextE_skip h he trivial
theorem step_ent (w : World) (s : MSt) (W : World) (c : Nat) (h : RD w s W) (hp : PtrB W c 74 (w.heap.size + 2) 8) (hl : s.1.ents.length ≤ 1000) : NextC w (.func (.func 64) #[] #[.pointer (some ⟨c, 0, none⟩)]) (entP s) (fun _ => True) W := by
  obtain ⟨m, zs, e0⟩ := s
  by_cases he : e0 = 0
  · subst he
    obtain ⟨ve, vn, vh, vl, rows, hM⟩ := h.2.2.1
    have h4 := h.2.2.2.2.2
    have hz : WfB zs := by obtain ⟨a, cap, -, q⟩ := h.1; exact q.wf
    have hrl : rows.length ≤ 1000 := by have := hM.2.2.2.1; have q : rows.length = m.ents.length := by rw [← this, List.length_map]
                                        rw [q]; exact hl
    refine next_entryInto w m zs _ _ c W h (deaf_true w) fun a cap hs => ?_
    refine (entry_part (w.heap.size + 4) (w.heap.size + 2) c m ve vn vh vl rows _ zs W hs hM (by omega) h4 hp hrl).mono ?_
    rintro e w' ⟨rfl, ⟨hne, hb⟩ | ⟨h0, ve', rows', hM', -, hpa, hk⟩⟩
    · have e : entP (m, (zs, 0)) = (m, (zs.drop (Rk.entD zs).2.1, (Rk.entD zs).2.2)) := by unfold entP; simp only [if_true]; rw [if_neg hne]
      rw [e]
      exact ⟨_, _, rfl, Rk.entD_bd hz, rfl, ⟨ve, vn, vh, vl, rows, hM.below hb⟩, Past.below (hb.mono h4) _, KeepT.below hb, trivial⟩
    · have e : entP (m, (zs, 0)) = ({ m with ents := m.ents ++ [(Rk.entD zs).1] }, (zs.drop (Rk.entD zs).2.1, (Rk.entD zs).2.2)) := by unfold entP; simp only [if_true]; rw [if_pos h0]
      rw [e]
      exact ⟨_, _, rfl, Rk.entD_bd hz, rfl, ⟨ve', vn, vh, vl, rows', hM'⟩, hpa, hk, trivial⟩
  · have e : entP (m, (zs, e0)) = (m, (zs, e0)) := if_neg he
    rw [e]
    exact nextE_skip h he trivial
theorem step_shot (w : World) (s : MSt) (W : World) (c : Nat) (h : RD w s W) (hp : PtrB W c 76 (w.heap.size + 2) 9) : NextC w (.func (.func 66) #[] #[.pointer (some ⟨c, 0, none⟩)]) (shotP s) (fun _ => True) W := by
  obtain ⟨m, zs, e0⟩ := s
  by_cases he : e0 = 0
  · subst he
    obtain ⟨ve, vn, vh, vl, rows, hM⟩ := h.2.2.1
    have h4 := h.2.2.2.2.2
    refine next_shotInto w m zs _ _ c W h (deaf_true w) fun a cap hs => ?_
    refine (shot_part (w.heap.size + 4) (w.heap.size + 2) c m ve vn vh vl rows _ zs W hs hM (by omega) h4 hp).mono ?_
    rintro e w' ⟨sh, z, hd, ⟨z0, z6, rfl, hb⟩ | ⟨hz, rfl, vn', vh', vl', hM', hpa, hk⟩⟩
    · have e : shotP (m, (zs, 0)) = (m, (zs, z)) := by unfold shotP; simp only [if_true, hd]; rw [if_pos ⟨z0, z6⟩]
      rw [e]
      exact ⟨0, z, rfl, Nat.zero_le _, rfl, ⟨ve, vn, vh, vl, rows, hM.below hb⟩, Past.below (hb.mono h4) _, KeepT.below hb, trivial⟩
    · have e : shotP (m, (zs, 0)) = ({ m with shot := sh }, ([], 0)) := by unfold shotP; simp only [if_true, hd]; rw [if_neg (fun q => hz.elim q.1 q.2)]
      rw [e]
      exact ⟨zs.length, 0, rfl, Nat.le_refl _, by rw [List.drop_length], ⟨ve, vn', vh', vl', rows, hM'⟩, hpa, hk, trivial⟩
  · have e : shotP (m, (zs, e0)) = (m, (zs, e0)) := if_neg he
    rw [e]
    exact nextE_skip h he trivial
theorem step_end (w : World) (s : MSt) (W : World) (h : RD w s W) : NextC w (.func (.func 35) #[] #[]) (endP s) (fun _ => True) W := by
  obtain ⟨m, zs, e0⟩ := s
  by_cases he : e0 = 0
  · subst he
    refine next_end w m zs _ _ W h (deaf_true w) fun a cap hs => ?_
    refine (end_part _ zs W hs).mono ?_
    rintro e w' ⟨rfl, rfl⟩
    exact ⟨0, _, rfl, Nat.zero_le _, rfl, h.2.2.1, ⟨rfl, rfl, rfl, Nat.le_refl _, fun _ _ _ => rfl⟩, KeepT.refl _, trivial⟩
  · have e : endP (m, (zs, e0)) = (m, (zs, e0)) := if_neg he
    rw [e]
    exact nextE_skip h he trivial
/-- the box of how many entries there are -/
def Cnt (q : Nat) (n : Nat) (W : World) : Prop := W.heap[q]? = some (.cells #[.int .u64 (n : Nat)] 23 (0, 0))
theorem MM.onlyT {B0 g2 q : Nat} {m : Mes} {ve vn vh vl : Value} {rows : List ERow} {W W' : World} {cs : Array Value} (h : MM B0 g2 m ve vn vh vl rows W) (ho : Only (· = q) W W') (hq : W.heap[q]? = some (.cells cs 23 (0, 0))) : MM B0 g2 m ve vn vh vl rows W' := by
  obtain ⟨h1, h2, h3, h4, h5, h6, h7, h8, h9⟩ := h
  have hb : ∀ k, k < W.heap.size → k ≠ q → W'.heap[k]? = W.heap[k]? := fun k hk hn => ho.2.2.2.2 k hk hn
  have hg : g2 ≠ q := fun e => by
    subst e
    rw [h1] at hq
    simp only [Option.some.injEq, Obj.cells.injEq] at hq
    exact absurd hq.2.1 (by decide)
  exact ⟨(hb _ (row_lt h1) hg).trans h1, own_blk h2 (own_ty h2 hq (by decide)) hb, fun r hr => ⟨own_blk (h3 r hr).1 (own_ty (h3 r hr).1 hq (by decide)) hb, (h3 r hr).2⟩, h4, own_blk h5 (own_ty h5 hq (by decide)) hb, own_blk h6 (own_ty h6 hq (by decide)) hb, own_blk h7 (own_ty h7 hq (by decide)) hb, h8, h9⟩
theorem step_many (w : World) (s : MSt) (W : World) (c q : Nat) (h : RD w s W) (hp : PtrB W c 70 q 0) (hq : Cnt q 0 W) (hq4 : w.heap.size + 4 ≤ q) : NextC w (.func (.func 63) #[] #[.pointer (some ⟨c, 0, none⟩)]) (s.1, (manyP s.2).2) (Cnt q (manyP s.2).1) W := by
  obtain ⟨m, zs, e0⟩ := s
  have hdeaf : ∀ n, Deaf w (Cnt q n) := fun n w1 g u hg hx => (heap_setCell_other _ ⟨g, 0, none⟩ q _ (by simp; omega)).trans hx
  by_cases he : e0 = 0
  · subst he
    have h4 := h.2.2.2.2.2
    obtain ⟨ve, vn, vh, vl, rows, hM⟩ := h.2.2.1
    refine next_manyInto w m zs _ _ c W h (hdeaf _) fun a cap hs => ?_
    refine (many_part _ zs c q 0 #[.int .u64 0] 23 70 _ W hs hp hq rfl).mono ?_
    rintro e w' (⟨hn, rfl, rfl⟩ | ⟨hn, rfl, hset⟩)
    · have e : manyP (zs, 0) = (0, (zs, 11)) := by unfold manyP; simp only [if_true]; rw [if_pos hn]
      dsimp only
      rw [e]
      exact ⟨0, 11, rfl, Nat.zero_le _, rfl, ⟨ve, vn, vh, vl, rows, hM⟩, ⟨rfl, rfl, rfl, Nat.le_refl _, fun _ _ _ => rfl⟩, KeepT.refl _, hq⟩
    · have e : manyP (zs, 0) = ((Oc.rdL zs).1, (zs.drop (Oc.rdL zs).2.1, (Oc.rdL zs).2.2)) := by unfold manyP; simp only [if_true]; rw [if_neg (by omega)]
      dsimp only
      rw [e]
      exact ⟨_, _, rfl, rd_len (n := (Oc.rdL zs).1) (e := (Oc.rdL zs).2.2) rfl, rfl, ⟨ve, vn, vh, vl, rows, hM.onlyT hset.1 hq⟩, ⟨hset.1.1, hset.1.2.1, hset.1.2.2.1, hset.1.2.2.2.1, fun k hk hn => hset.1.2.2.2.2 k (by omega) (by omega)⟩, KeepT.only hset.1 hq (by decide), hset.2⟩
  · have e : manyP (zs, e0) = (0, (zs, e0)) := if_neg he
    dsimp only
    rw [e]
    exact nextE_skip h he hq
end Ms
end Go.Proofs.YtlfaiemebfkajaaGreatDoor
