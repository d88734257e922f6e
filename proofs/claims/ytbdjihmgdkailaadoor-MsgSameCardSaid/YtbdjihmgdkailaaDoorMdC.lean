/- Package msg: next, part by part. No condition. -/
import Derived.Test.YtbdjihmgdkailaaDoorMdB
import Derived.Test.YtbdjihmgdkailaaDoorMdL
namespace Go.Proofs.YtbdjihmgdkailaaDoor
open Go.ChangeShapes Go.WideShapes Go.ChangeAt Go.RowKit Go.Deep
set_option linter.unusedVariables false
set_option maxRecDepth 100000
namespace Ms
open Nv Cm Sc Hd Rc
abbrev zMB : Array Value := #[.int .i64 0, .int .i64 0, .int .i64 0, .int .u64 0, .int .u64 0, .int .u64 0, .int .u64 0, .bool false, .slice none 0 0, .int .u64 0, .int .u64 0, .slice none 0 0, .int .i64 0, .int .u64 0, .slice none 0 0, .slice none 0 0]
def MMx (B : Nat) (m : Mes) (W : World) : Prop := ∃ ve vn vh vl rows, MM (B + 4) (B + 2) m ve vn vh vl rows W
/-- a body being read -/
def RD (w : World) (s : MSt) (W : World) : Prop :=
  (∃ a cap, W.heap[w.heap.size]? = some (.cells #[.slice a s.2.1.length cap] 33 (0, 0)) ∧ Sl .u8 w (.slice a s.2.1.length cap) s.2.1) ∧ W.heap[w.heap.size + 1]? = some (.cells zMB 32 (0, 0)) ∧ MMx w.heap.size s.1 W ∧ W.heap[w.heap.size + 3]? = some (.cells #[.int .i64 s.2.2] 34 (0, 0)) ∧ Below w.heap.size w W ∧ w.heap.size + 4 ≤ W.heap.size
theorem MMx.below {B : Nat} {m : Mes} {W W' : World} (h : MMx B m W) (hb : Below W.heap.size W W') : MMx B m W' := by
  obtain ⟨ve, vn, vh, vl, rows, h⟩ := h
  exact ⟨ve, vn, vh, vl, rows, h.below hb⟩
theorem RD.below {w W W' : World} {s : MSt} (h : RD w s W) (hb : Below W.heap.size W W') : RD w s W' := by
  obtain ⟨⟨a, cap, h1, h2⟩, h3, h4, h5, h6, h7⟩ := h
  exact ⟨⟨a, cap, (hb.block _ (row_lt h1)).trans h1, h2⟩, (hb.block _ (row_lt h3)).trans h3, h4.below hb, (hb.block _ (row_lt h5)).trans h5, h6.trans (hb.mono h6.size), Nat.le_trans h7 hb.size⟩
/-- what a part answers -/
def PartE (w : World) (zs : List Int) (s' : MSt) (X : World → Prop) (W : World) (e : Ending) (w' : World) : Prop :=
  ∃ (k : Nat) (er : Int), e = .returned (.tuple #[.int .i64 k, .int .i64 er]) ∧ k ≤ zs.length ∧ s'.2 = (zs.drop k, er) ∧ MMx w.heap.size s'.1 w' ∧ Past (w.heap.size + 4) (· = w.heap.size + 2) W w' ∧ KeepT W w' ∧ X w'
/-- what next leaves -/
def NextE (w : World) (s' : MSt) (X : World → Prop) (W : World) (e : Ending) (w' : World) : Prop := e = .returned (.tuple #[]) ∧ RD w s' w' ∧ KeepT W w' ∧ X w'
/-- what does not look at the two boxes of next -/
def Deaf (w : World) (X : World → Prop) : Prop := ∀ (w1 : World) (g : Nat) (u : Value), g < w.heap.size + 4 → X w1 → X (w1.setCell ⟨g, 0, none⟩ u)
theorem deaf_true (w : World) : Deaf w (fun _ => True) := fun _ _ _ _ _ => trivial
theorem MMx.cell {B g : Nat} {m : Mes} {W : World} {u : Value} (h : MMx B m W) (hg : g < B + 4) (hne : B + 2 ≠ g) : MMx B m (W.setCell ⟨g, 0, none⟩ u) := by
  obtain ⟨ve, vn, vh, vl, rows, h⟩ := h
  exact ⟨ve, vn, vh, vl, rows, h.only (Only.setCell (S := (· = g)) _ ⟨g, 0, none⟩ _ rfl) hg hne⟩
theorem RD.fin {w W w1 : World} {m : Mes} {zs zs' : List Int} {e0 er : Int} {m' : Mes} {a' : Option Addr} {c' : Nat} (h : RD w (m, (zs, e0)) W) (hm : MMx w.heap.size m' w1) (hp : Past (w.heap.size + 4) (· = w.heap.size + 2) W w1) (hs : Sl .u8 w (.slice a' zs'.length c') zs') :
    RD w (m', (zs', er)) ((w1.setCell ⟨w.heap.size + 3, 0, none⟩ (.int .i64 er)).setCell ⟨w.heap.size, 0, none⟩ (.slice a' zs'.length c')) := by
  obtain ⟨⟨a, cap, h1, h2⟩, h3, h4, h5, h6, h7⟩ := h
  have k1 := (hp.2.2.2.2 _ (by omega) (by omega)).trans h1
  have k3 := (hp.2.2.2.2 _ (by omega) (by omega)).trans h3
  have k5 := (hp.2.2.2.2 _ (by omega) (by omega)).trans h5
  have r5 := heap_setCell_same _ _ 0 _ _ (.int .i64 er) k5
  have hsz := hp.2.2.2.1
  refine ⟨⟨a', c', ?_, hs⟩, ?_, ?_, ?_, ?_, ?_⟩
  · rw [heap_setCell_same _ _ 0 _ _ _ ((heap_setCell_other _ ⟨w.heap.size + 3, 0, none⟩ w.heap.size _ (by simp)).trans k1)]
    rfl
  · exact (heap_setCell_other _ ⟨w.heap.size, 0, none⟩ _ _ (by simp)).trans ((heap_setCell_other _ ⟨w.heap.size + 3, 0, none⟩ _ _ (by simp)).trans k3)
  · exact (hm.cell (by omega) (by omega)).cell (by omega) (by omega)
  · refine (heap_setCell_other _ ⟨w.heap.size, 0, none⟩ _ _ (by simp)).trans ?_
    rw [r5]; rfl
  · have hbw : Below w.heap.size w w1 := ⟨hp.1.trans h6.os, hp.2.1.trans h6.tape, hp.2.2.1.trans h6.output, Nat.le_trans h6.size hsz, fun q hq => (hp.2.2.2.2 q (by omega) (by omega)).trans (h6.block q hq)⟩
    exact (hbw.setCell (p := ⟨w.heap.size + 3, 0, none⟩) (Nat.le_add_right _ 3) _).setCell (p := ⟨w.heap.size, 0, none⟩) (Nat.le_refl _) _
  · simp; omega
theorem keep2 {w W w1 : World} {s : MSt} {u x : Value} (h : RD w s W) (hp : Past (w.heap.size + 4) (· = w.heap.size + 2) W w1) (hk : KeepT W w1) : KeepT W ((w1.setCell ⟨w.heap.size + 3, 0, none⟩ u).setCell ⟨w.heap.size, 0, none⟩ x) := by
  obtain ⟨⟨a, cap, h1, h2⟩, h3, h4, h5, h6, h7⟩ := h
  have k1 := (hp.2.2.2.2 _ (by omega) (by omega)).trans h1
  have k5 := (hp.2.2.2.2 _ (by omega) (by omega)).trans h5
  exact (hk.trans (KeepT.cell k5 (by decide))).trans (KeepT.cell ((heap_setCell_other _ ⟨w.heap.size + 3, 0, none⟩ w.heap.size _ (by simp)).trans k1) (by decide))
set_option maxHeartbeats 2000000 in
theorem next_skip (w : World) (s : MSt) (p : Value) (W : World) (h : RD w s W) (he : s.2.2 ≠ 0) :
    Calls Tryd.prog 59 #[p, .pointer (some ⟨w.heap.size + 3, 0, none⟩), .pointer (some ⟨w.heap.size, 0, none⟩)] W fun e w' => e = .returned (.tuple #[]) ∧ W = w' := by
  have c3 : W.cell? ⟨w.heap.size + 3, 0, none⟩ = some (.int .i64 s.2.2) := (cell_of_row _ _ 0 _ _ _ h.2.2.2.1).trans rfl
  have hne : (s.2.2 != 0) = true := bne_t he
  clear h he
  go_enter Tryd.func59, Tryd.ntmps59
  go_wp2
  first
    | (refine bodyPost_end (results_none rfl _ _ _) rfl ?_; exact ⟨rfl, rfl⟩)
    | (refine bodyPost_ret (results_none rfl _ _ _) rfl ?_; exact ⟨rfl, rfl⟩)
set_option maxHeartbeats 4000000 in
theorem next_byteInto (w : World) (m : Mes) (zs : List Int) (s' : MSt) (X : World → Prop) (c : Nat) (W : World) (h : RD w (m, (zs, 0)) W) (hX : Deaf w X)
    (hp : ∀ a cap, Sl .u8 W (.slice a zs.length cap) zs → Calls Tryd.prog 84 #[.slice a zs.length cap, .pointer (some ⟨c, 0, none⟩)] W (PartE w zs s' X W)) :
    Calls Tryd.prog 59 #[.func (.func 84) #[] #[.pointer (some ⟨c, 0, none⟩)], .pointer (some ⟨w.heap.size + 3, 0, none⟩), .pointer (some ⟨w.heap.size, 0, none⟩)] W (NextE w s' X W) := by
  obtain ⟨a, cap, h1, h2⟩ := h.1
  dsimp only at h1 h2
  have HC := Lib.hid (hp a cap (h2.below h.2.2.2.2.1 (Nat.le_refl _)))
  have c0 : W.cell? ⟨w.heap.size, 0, none⟩ = some (.slice a zs.length cap) := (cell_of_row _ _ 0 _ _ _ h1).trans rfl
  have c3 : W.cell? ⟨w.heap.size + 3, 0, none⟩ = some (.int .i64 0) := (cell_of_row _ _ 0 _ _ _ h.2.2.2.1).trans rfl
  have HR := Lib.hid h
  have H1 := Lib.hid h1
  have HS := Lib.hid h2
  have HX := Lib.hid hX
  clear h h1 h2 hp hX
  go_enter Tryd.func59, Tryd.ntmps59
  go_wp2_with fail
  refine HC.out.mono ?_
  clear c0 c3
  rintro e w1 ⟨k, er, rfl, hk, hs', hm, hpast, hkt, hx⟩
  obtain ⟨m', st'⟩ := s'
  dsimp only at hs' hm
  subst hs'
  have hb0 := (hpast.2.2.2.2 _ (by omega) (by omega)).trans H1.out
  have hb3 := (hpast.2.2.2.2 (w.heap.size + 3) (by omega) (by omega)).trans HR.out.2.2.2.1
  have c3 : w1.cell? ⟨w.heap.size + 3, 0, none⟩ = some (.int .i64 0) := (cell_of_row _ _ 0 _ _ _ hb3).trans rfl
  have f3 : w1.frozen? ⟨w.heap.size + 3, 0, none⟩ = false := frozen_of_row _ _ 0 _ _ hb3
  have hb0' := (heap_setCell_other w1 ⟨w.heap.size + 3, 0, none⟩ w.heap.size (.int .i64 er) (by simp)).trans hb0
  have c0 : (w1.setCell ⟨w.heap.size + 3, 0, none⟩ (.int .i64 er)).cell? ⟨w.heap.size, 0, none⟩ = some (.slice a zs.length cap) := (cell_of_row _ _ 0 _ _ _ hb0').trans rfl
  have f0 : (w1.setCell ⟨w.heap.size + 3, 0, none⟩ (.int .i64 er)).frozen? ⟨w.heap.size, 0, none⟩ = false := frozen_of_row _ _ 0 _ _ hb0'
  have f3k : (k : Int) ≤ (zs.length : Int) := by omega
  have HM := Lib.hid hm
  have HP := Lib.hid hpast
  have HK := Lib.hid hkt
  have HXX : Hid (∀ u, X ((w1.setCell ⟨w.heap.size + 3, 0, none⟩ (.int .i64 er)).setCell ⟨w.heap.size, 0, none⟩ u)) := Lib.hid (fun u => HX.out _ _ _ (by omega) (HX.out _ _ _ (by omega) hx))
  have hfk := from_k HS.out hk
  clear hb0 hb3 hb0' hm hpast hkt hx
  rcases hfk with ⟨rfl, rfl, rfl, rfl⟩ | ⟨b, off, sp, rfl, ⟨rfl, hzl, hsl⟩ | ⟨hcu, hsl⟩⟩
  · have HF := Lib.hid (HR.out.fin (zs' := ([] : List Int).drop 0) (a' := none) (c' := 0) (er := er) HM.out HP.out ⟨none, 0, rfl, Nat.le_refl _, Nat.zero_le _, by simp, .inl ⟨rfl, rfl, rfl⟩⟩)
    have HKK : Hid (KeepT W ((w1.setCell ⟨w.heap.size + 3, 0, none⟩ (.int .i64 er)).setCell ⟨w.heap.size, 0, none⟩ (.slice none 0 0))) := Lib.hid (keep2 HR.out HP.out HK.out)
    go_wp2
    refine bodyPost_end (results_none rfl _ _ _) rfl ?_
    exact ⟨rfl, HF.out, HKK.out, HXX.out _⟩
  · have HZ0 : Hid ((zs.drop cap).length = 0) := Lib.hid (by rw [List.length_drop]; omega)
    have HF : Hid (RD w (m', (zs.drop cap, er)) ((w1.setCell ⟨w.heap.size + 3, 0, none⟩ (.int .i64 er)).setCell ⟨w.heap.size, 0, none⟩ (.slice (some ⟨b, off, sp⟩) 0 0))) := Lib.hid (by
      have q := HR.out.fin (zs' := zs.drop cap) (a' := some ⟨b, off, sp⟩) (c' := 0) (er := er) HM.out HP.out (by rw [HZ0.out]; exact hsl)
      rw [HZ0.out] at q
      exact q)
    have hzz : (cap : Int) ≤ (zs.length : Int) := by omega
    have HZ1 : Hid (zs.length - cap = 0) := Lib.hid (by omega)
    have HKK : Hid (KeepT W ((w1.setCell ⟨w.heap.size + 3, 0, none⟩ (.int .i64 er)).setCell ⟨w.heap.size, 0, none⟩ (.slice (some ⟨b, off, sp⟩) 0 0))) := Lib.hid (keep2 HR.out HP.out HK.out)
    clear hsl hzl
    go_wp2
    refine bodyPost_end (results_none rfl _ _ _) rfl ?_
    first
      | exact ⟨rfl, HF.out, HKK.out, HXX.out _⟩
      | (rw [HZ1.out]; exact ⟨rfl, HF.out, HKK.out, HXX.out _⟩)
  · have hld : (zs.drop k).length = zs.length - k := List.length_drop
    have HF : Hid (RD w (m', (zs.drop k, er)) ((w1.setCell ⟨w.heap.size + 3, 0, none⟩ (.int .i64 er)).setCell ⟨w.heap.size, 0, none⟩ (.slice (some ((⟨b, off, sp⟩ : Addr).add k)) (zs.length - k) (cap - k)))) := Lib.hid (by
      have q := HR.out.fin (zs' := zs.drop k) (a' := some ((⟨b, off, sp⟩ : Addr).add k)) (c' := cap - k) (er := er) HM.out HP.out (by rw [hld]; exact hsl)
      rw [hld] at q
      exact q)
    have f4 : (k : Int) < (cap : Int) := by
      obtain ⟨a', c', e', g1, -⟩ := id HS.out
      simp only [Value.slice.injEq] at e'
      obtain ⟨-, -, rfl⟩ := e'
      omega
    have HKK : Hid (KeepT W ((w1.setCell ⟨w.heap.size + 3, 0, none⟩ (.int .i64 er)).setCell ⟨w.heap.size, 0, none⟩ (.slice (some ((⟨b, off, sp⟩ : Addr).add k)) (zs.length - k) (cap - k)))) := Lib.hid (keep2 HR.out HP.out HK.out)
    clear hsl hld
    go_wp2
    refine bodyPost_end (results_none rfl _ _ _) rfl ?_
    exact ⟨rfl, HF.out, HKK.out, HXX.out _⟩
set_option maxHeartbeats 4000000 in
theorem next_kindInto (w : World) (m : Mes) (zs : List Int) (s' : MSt) (X : World → Prop) (c : Nat) (W : World) (h : RD w (m, (zs, 0)) W) (hX : Deaf w X)
    (hp : ∀ a cap, Sl .u8 W (.slice a zs.length cap) zs → Calls Tryd.prog 83 #[.slice a zs.length cap, .pointer (some ⟨c, 0, none⟩)] W (PartE w zs s' X W)) :
    Calls Tryd.prog 59 #[.func (.func 83) #[] #[.pointer (some ⟨c, 0, none⟩)], .pointer (some ⟨w.heap.size + 3, 0, none⟩), .pointer (some ⟨w.heap.size, 0, none⟩)] W (NextE w s' X W) := by
  obtain ⟨a, cap, h1, h2⟩ := h.1
  dsimp only at h1 h2
  have HC := Lib.hid (hp a cap (h2.below h.2.2.2.2.1 (Nat.le_refl _)))
  have c0 : W.cell? ⟨w.heap.size, 0, none⟩ = some (.slice a zs.length cap) := (cell_of_row _ _ 0 _ _ _ h1).trans rfl
  have c3 : W.cell? ⟨w.heap.size + 3, 0, none⟩ = some (.int .i64 0) := (cell_of_row _ _ 0 _ _ _ h.2.2.2.1).trans rfl
  have HR := Lib.hid h
  have H1 := Lib.hid h1
  have HS := Lib.hid h2
  have HX := Lib.hid hX
  clear h h1 h2 hp hX
  go_enter Tryd.func59, Tryd.ntmps59
  go_wp2_with fail
  refine HC.out.mono ?_
  clear c0 c3
  rintro e w1 ⟨k, er, rfl, hk, hs', hm, hpast, hkt, hx⟩
  obtain ⟨m', st'⟩ := s'
  dsimp only at hs' hm
  subst hs'
  have hb0 := (hpast.2.2.2.2 _ (by omega) (by omega)).trans H1.out
  have hb3 := (hpast.2.2.2.2 (w.heap.size + 3) (by omega) (by omega)).trans HR.out.2.2.2.1
  have c3 : w1.cell? ⟨w.heap.size + 3, 0, none⟩ = some (.int .i64 0) := (cell_of_row _ _ 0 _ _ _ hb3).trans rfl
  have f3 : w1.frozen? ⟨w.heap.size + 3, 0, none⟩ = false := frozen_of_row _ _ 0 _ _ hb3
  have hb0' := (heap_setCell_other w1 ⟨w.heap.size + 3, 0, none⟩ w.heap.size (.int .i64 er) (by simp)).trans hb0
  have c0 : (w1.setCell ⟨w.heap.size + 3, 0, none⟩ (.int .i64 er)).cell? ⟨w.heap.size, 0, none⟩ = some (.slice a zs.length cap) := (cell_of_row _ _ 0 _ _ _ hb0').trans rfl
  have f0 : (w1.setCell ⟨w.heap.size + 3, 0, none⟩ (.int .i64 er)).frozen? ⟨w.heap.size, 0, none⟩ = false := frozen_of_row _ _ 0 _ _ hb0'
  have f3k : (k : Int) ≤ (zs.length : Int) := by omega
  have HM := Lib.hid hm
  have HP := Lib.hid hpast
  have HK := Lib.hid hkt
  have HXX : Hid (∀ u, X ((w1.setCell ⟨w.heap.size + 3, 0, none⟩ (.int .i64 er)).setCell ⟨w.heap.size, 0, none⟩ u)) := Lib.hid (fun u => HX.out _ _ _ (by omega) (HX.out _ _ _ (by omega) hx))
  have hfk := from_k HS.out hk
  clear hb0 hb3 hb0' hm hpast hkt hx
  rcases hfk with ⟨rfl, rfl, rfl, rfl⟩ | ⟨b, off, sp, rfl, ⟨rfl, hzl, hsl⟩ | ⟨hcu, hsl⟩⟩
  · have HF := Lib.hid (HR.out.fin (zs' := ([] : List Int).drop 0) (a' := none) (c' := 0) (er := er) HM.out HP.out ⟨none, 0, rfl, Nat.le_refl _, Nat.zero_le _, by simp, .inl ⟨rfl, rfl, rfl⟩⟩)
    have HKK : Hid (KeepT W ((w1.setCell ⟨w.heap.size + 3, 0, none⟩ (.int .i64 er)).setCell ⟨w.heap.size, 0, none⟩ (.slice none 0 0))) := Lib.hid (keep2 HR.out HP.out HK.out)
    go_wp2
    refine bodyPost_end (results_none rfl _ _ _) rfl ?_
    exact ⟨rfl, HF.out, HKK.out, HXX.out _⟩
  · have HZ0 : Hid ((zs.drop cap).length = 0) := Lib.hid (by rw [List.length_drop]; omega)
    have HF : Hid (RD w (m', (zs.drop cap, er)) ((w1.setCell ⟨w.heap.size + 3, 0, none⟩ (.int .i64 er)).setCell ⟨w.heap.size, 0, none⟩ (.slice (some ⟨b, off, sp⟩) 0 0))) := Lib.hid (by
      have q := HR.out.fin (zs' := zs.drop cap) (a' := some ⟨b, off, sp⟩) (c' := 0) (er := er) HM.out HP.out (by rw [HZ0.out]; exact hsl)
      rw [HZ0.out] at q
      exact q)
    have hzz : (cap : Int) ≤ (zs.length : Int) := by omega
    have HZ1 : Hid (zs.length - cap = 0) := Lib.hid (by omega)
    have HKK : Hid (KeepT W ((w1.setCell ⟨w.heap.size + 3, 0, none⟩ (.int .i64 er)).setCell ⟨w.heap.size, 0, none⟩ (.slice (some ⟨b, off, sp⟩) 0 0))) := Lib.hid (keep2 HR.out HP.out HK.out)
    clear hsl hzl
    go_wp2
    refine bodyPost_end (results_none rfl _ _ _) rfl ?_
    first
      | exact ⟨rfl, HF.out, HKK.out, HXX.out _⟩
      | (rw [HZ1.out]; exact ⟨rfl, HF.out, HKK.out, HXX.out _⟩)
  · have hld : (zs.drop k).length = zs.length - k := List.length_drop
    have HF : Hid (RD w (m', (zs.drop k, er)) ((w1.setCell ⟨w.heap.size + 3, 0, none⟩ (.int .i64 er)).setCell ⟨w.heap.size, 0, none⟩ (.slice (some ((⟨b, off, sp⟩ : Addr).add k)) (zs.length - k) (cap - k)))) := Lib.hid (by
      have q := HR.out.fin (zs' := zs.drop k) (a' := some ((⟨b, off, sp⟩ : Addr).add k)) (c' := cap - k) (er := er) HM.out HP.out (by rw [hld]; exact hsl)
      rw [hld] at q
      exact q)
    have f4 : (k : Int) < (cap : Int) := by
      obtain ⟨a', c', e', g1, -⟩ := id HS.out
      simp only [Value.slice.injEq] at e'
      obtain ⟨-, -, rfl⟩ := e'
      omega
    have HKK : Hid (KeepT W ((w1.setCell ⟨w.heap.size + 3, 0, none⟩ (.int .i64 er)).setCell ⟨w.heap.size, 0, none⟩ (.slice (some ((⟨b, off, sp⟩ : Addr).add k)) (zs.length - k) (cap - k)))) := Lib.hid (keep2 HR.out HP.out HK.out)
    clear hsl hld
    go_wp2
    refine bodyPost_end (results_none rfl _ _ _) rfl ?_
    exact ⟨rfl, HF.out, HKK.out, HXX.out _⟩
set_option maxHeartbeats 4000000 in
theorem next_flagInto (w : World) (m : Mes) (zs : List Int) (s' : MSt) (X : World → Prop) (c : Nat) (W : World) (h : RD w (m, (zs, 0)) W) (hX : Deaf w X)
    (hp : ∀ a cap, Sl .u8 W (.slice a zs.length cap) zs → Calls Tryd.prog 87 #[.slice a zs.length cap, .pointer (some ⟨c, 0, none⟩)] W (PartE w zs s' X W)) :
    Calls Tryd.prog 59 #[.func (.func 87) #[] #[.pointer (some ⟨c, 0, none⟩)], .pointer (some ⟨w.heap.size + 3, 0, none⟩), .pointer (some ⟨w.heap.size, 0, none⟩)] W (NextE w s' X W) := by
  obtain ⟨a, cap, h1, h2⟩ := h.1
  dsimp only at h1 h2
  have HC := Lib.hid (hp a cap (h2.below h.2.2.2.2.1 (Nat.le_refl _)))
  have c0 : W.cell? ⟨w.heap.size, 0, none⟩ = some (.slice a zs.length cap) := (cell_of_row _ _ 0 _ _ _ h1).trans rfl
  have c3 : W.cell? ⟨w.heap.size + 3, 0, none⟩ = some (.int .i64 0) := (cell_of_row _ _ 0 _ _ _ h.2.2.2.1).trans rfl
  have HR := Lib.hid h
  have H1 := Lib.hid h1
  have HS := Lib.hid h2
  have HX := Lib.hid hX
  clear h h1 h2 hp hX
  go_enter Tryd.func59, Tryd.ntmps59
  go_wp2_with fail
  refine HC.out.mono ?_
  clear c0 c3
  rintro e w1 ⟨k, er, rfl, hk, hs', hm, hpast, hkt, hx⟩
  obtain ⟨m', st'⟩ := s'
  dsimp only at hs' hm
  subst hs'
  have hb0 := (hpast.2.2.2.2 _ (by omega) (by omega)).trans H1.out
  have hb3 := (hpast.2.2.2.2 (w.heap.size + 3) (by omega) (by omega)).trans HR.out.2.2.2.1
  have c3 : w1.cell? ⟨w.heap.size + 3, 0, none⟩ = some (.int .i64 0) := (cell_of_row _ _ 0 _ _ _ hb3).trans rfl
  have f3 : w1.frozen? ⟨w.heap.size + 3, 0, none⟩ = false := frozen_of_row _ _ 0 _ _ hb3
  have hb0' := (heap_setCell_other w1 ⟨w.heap.size + 3, 0, none⟩ w.heap.size (.int .i64 er) (by simp)).trans hb0
  have c0 : (w1.setCell ⟨w.heap.size + 3, 0, none⟩ (.int .i64 er)).cell? ⟨w.heap.size, 0, none⟩ = some (.slice a zs.length cap) := (cell_of_row _ _ 0 _ _ _ hb0').trans rfl
  have f0 : (w1.setCell ⟨w.heap.size + 3, 0, none⟩ (.int .i64 er)).frozen? ⟨w.heap.size, 0, none⟩ = false := frozen_of_row _ _ 0 _ _ hb0'
  have f3k : (k : Int) ≤ (zs.length : Int) := by omega
  have HM := Lib.hid hm
  have HP := Lib.hid hpast
  have HK := Lib.hid hkt
  have HXX : Hid (∀ u, X ((w1.setCell ⟨w.heap.size + 3, 0, none⟩ (.int .i64 er)).setCell ⟨w.heap.size, 0, none⟩ u)) := Lib.hid (fun u => HX.out _ _ _ (by omega) (HX.out _ _ _ (by omega) hx))
  have hfk := from_k HS.out hk
  clear hb0 hb3 hb0' hm hpast hkt hx
  rcases hfk with ⟨rfl, rfl, rfl, rfl⟩ | ⟨b, off, sp, rfl, ⟨rfl, hzl, hsl⟩ | ⟨hcu, hsl⟩⟩
  · have HF := Lib.hid (HR.out.fin (zs' := ([] : List Int).drop 0) (a' := none) (c' := 0) (er := er) HM.out HP.out ⟨none, 0, rfl, Nat.le_refl _, Nat.zero_le _, by simp, .inl ⟨rfl, rfl, rfl⟩⟩)
    have HKK : Hid (KeepT W ((w1.setCell ⟨w.heap.size + 3, 0, none⟩ (.int .i64 er)).setCell ⟨w.heap.size, 0, none⟩ (.slice none 0 0))) := Lib.hid (keep2 HR.out HP.out HK.out)
    go_wp2
    refine bodyPost_end (results_none rfl _ _ _) rfl ?_
    exact ⟨rfl, HF.out, HKK.out, HXX.out _⟩
  · have HZ0 : Hid ((zs.drop cap).length = 0) := Lib.hid (by rw [List.length_drop]; omega)
    have HF : Hid (RD w (m', (zs.drop cap, er)) ((w1.setCell ⟨w.heap.size + 3, 0, none⟩ (.int .i64 er)).setCell ⟨w.heap.size, 0, none⟩ (.slice (some ⟨b, off, sp⟩) 0 0))) := Lib.hid (by
      have q := HR.out.fin (zs' := zs.drop cap) (a' := some ⟨b, off, sp⟩) (c' := 0) (er := er) HM.out HP.out (by rw [HZ0.out]; exact hsl)
      rw [HZ0.out] at q
      exact q)
    have hzz : (cap : Int) ≤ (zs.length : Int) := by omega
    have HZ1 : Hid (zs.length - cap = 0) := Lib.hid (by omega)
    have HKK : Hid (KeepT W ((w1.setCell ⟨w.heap.size + 3, 0, none⟩ (.int .i64 er)).setCell ⟨w.heap.size, 0, none⟩ (.slice (some ⟨b, off, sp⟩) 0 0))) := Lib.hid (keep2 HR.out HP.out HK.out)
    clear hsl hzl
    go_wp2
    refine bodyPost_end (results_none rfl _ _ _) rfl ?_
    first
      | exact ⟨rfl, HF.out, HKK.out, HXX.out _⟩
      | (rw [HZ1.out]; exact ⟨rfl, HF.out, HKK.out, HXX.out _⟩)
  · have hld : (zs.drop k).length = zs.length - k := List.length_drop
    have HF : Hid (RD w (m', (zs.drop k, er)) ((w1.setCell ⟨w.heap.size + 3, 0, none⟩ (.int .i64 er)).setCell ⟨w.heap.size, 0, none⟩ (.slice (some ((⟨b, off, sp⟩ : Addr).add k)) (zs.length - k) (cap - k)))) := Lib.hid (by
      have q := HR.out.fin (zs' := zs.drop k) (a' := some ((⟨b, off, sp⟩ : Addr).add k)) (c' := cap - k) (er := er) HM.out HP.out (by rw [hld]; exact hsl)
      rw [hld] at q
      exact q)
    have f4 : (k : Int) < (cap : Int) := by
      obtain ⟨a', c', e', g1, -⟩ := id HS.out
      simp only [Value.slice.injEq] at e'
      obtain ⟨-, -, rfl⟩ := e'
      omega
    have HKK : Hid (KeepT W ((w1.setCell ⟨w.heap.size + 3, 0, none⟩ (.int .i64 er)).setCell ⟨w.heap.size, 0, none⟩ (.slice (some ((⟨b, off, sp⟩ : Addr).add k)) (zs.length - k) (cap - k)))) := Lib.hid (keep2 HR.out HP.out HK.out)
    clear hsl hld
    go_wp2
    refine bodyPost_end (results_none rfl _ _ _) rfl ?_
    exact ⟨rfl, HF.out, HKK.out, HXX.out _⟩
set_option maxHeartbeats 4000000 in
theorem next_numberInto (w : World) (m : Mes) (zs : List Int) (s' : MSt) (X : World → Prop) (c : Nat) (W : World) (h : RD w (m, (zs, 0)) W) (hX : Deaf w X)
    (hp : ∀ a cap, Sl .u8 W (.slice a zs.length cap) zs → Calls Tryd.prog 85 #[.slice a zs.length cap, .pointer (some ⟨c, 0, none⟩)] W (PartE w zs s' X W)) :
    Calls Tryd.prog 59 #[.func (.func 85) #[] #[.pointer (some ⟨c, 0, none⟩)], .pointer (some ⟨w.heap.size + 3, 0, none⟩), .pointer (some ⟨w.heap.size, 0, none⟩)] W (NextE w s' X W) := by
  obtain ⟨a, cap, h1, h2⟩ := h.1
  dsimp only at h1 h2
  have HC := Lib.hid (hp a cap (h2.below h.2.2.2.2.1 (Nat.le_refl _)))
  have c0 : W.cell? ⟨w.heap.size, 0, none⟩ = some (.slice a zs.length cap) := (cell_of_row _ _ 0 _ _ _ h1).trans rfl
  have c3 : W.cell? ⟨w.heap.size + 3, 0, none⟩ = some (.int .i64 0) := (cell_of_row _ _ 0 _ _ _ h.2.2.2.1).trans rfl
  have HR := Lib.hid h
  have H1 := Lib.hid h1
  have HS := Lib.hid h2
  have HX := Lib.hid hX
  clear h h1 h2 hp hX
  go_enter Tryd.func59, Tryd.ntmps59
  go_wp2_with fail
  refine HC.out.mono ?_
  clear c0 c3
  rintro e w1 ⟨k, er, rfl, hk, hs', hm, hpast, hkt, hx⟩
  obtain ⟨m', st'⟩ := s'
  dsimp only at hs' hm
  subst hs'
  have hb0 := (hpast.2.2.2.2 _ (by omega) (by omega)).trans H1.out
  have hb3 := (hpast.2.2.2.2 (w.heap.size + 3) (by omega) (by omega)).trans HR.out.2.2.2.1
  have c3 : w1.cell? ⟨w.heap.size + 3, 0, none⟩ = some (.int .i64 0) := (cell_of_row _ _ 0 _ _ _ hb3).trans rfl
  have f3 : w1.frozen? ⟨w.heap.size + 3, 0, none⟩ = false := frozen_of_row _ _ 0 _ _ hb3
  have hb0' := (heap_setCell_other w1 ⟨w.heap.size + 3, 0, none⟩ w.heap.size (.int .i64 er) (by simp)).trans hb0
  have c0 : (w1.setCell ⟨w.heap.size + 3, 0, none⟩ (.int .i64 er)).cell? ⟨w.heap.size, 0, none⟩ = some (.slice a zs.length cap) := (cell_of_row _ _ 0 _ _ _ hb0').trans rfl
  have f0 : (w1.setCell ⟨w.heap.size + 3, 0, none⟩ (.int .i64 er)).frozen? ⟨w.heap.size, 0, none⟩ = false := frozen_of_row _ _ 0 _ _ hb0'
  have f3k : (k : Int) ≤ (zs.length : Int) := by omega
  have HM := Lib.hid hm
  have HP := Lib.hid hpast
  have HK := Lib.hid hkt
  have HXX : Hid (∀ u, X ((w1.setCell ⟨w.heap.size + 3, 0, none⟩ (.int .i64 er)).setCell ⟨w.heap.size, 0, none⟩ u)) := Lib.hid (fun u => HX.out _ _ _ (by omega) (HX.out _ _ _ (by omega) hx))
  have hfk := from_k HS.out hk
  clear hb0 hb3 hb0' hm hpast hkt hx
  rcases hfk with ⟨rfl, rfl, rfl, rfl⟩ | ⟨b, off, sp, rfl, ⟨rfl, hzl, hsl⟩ | ⟨hcu, hsl⟩⟩
  · have HF := Lib.hid (HR.out.fin (zs' := ([] : List Int).drop 0) (a' := none) (c' := 0) (er := er) HM.out HP.out ⟨none, 0, rfl, Nat.le_refl _, Nat.zero_le _, by simp, .inl ⟨rfl, rfl, rfl⟩⟩)
    have HKK : Hid (KeepT W ((w1.setCell ⟨w.heap.size + 3, 0, none⟩ (.int .i64 er)).setCell ⟨w.heap.size, 0, none⟩ (.slice none 0 0))) := Lib.hid (keep2 HR.out HP.out HK.out)
    go_wp2
    refine bodyPost_end (results_none rfl _ _ _) rfl ?_
    exact ⟨rfl, HF.out, HKK.out, HXX.out _⟩
  · have HZ0 : Hid ((zs.drop cap).length = 0) := Lib.hid (by rw [List.length_drop]; omega)
    have HF : Hid (RD w (m', (zs.drop cap, er)) ((w1.setCell ⟨w.heap.size + 3, 0, none⟩ (.int .i64 er)).setCell ⟨w.heap.size, 0, none⟩ (.slice (some ⟨b, off, sp⟩) 0 0))) := Lib.hid (by
      have q := HR.out.fin (zs' := zs.drop cap) (a' := some ⟨b, off, sp⟩) (c' := 0) (er := er) HM.out HP.out (by rw [HZ0.out]; exact hsl)
      rw [HZ0.out] at q
      exact q)
    have hzz : (cap : Int) ≤ (zs.length : Int) := by omega
    have HZ1 : Hid (zs.length - cap = 0) := Lib.hid (by omega)
    have HKK : Hid (KeepT W ((w1.setCell ⟨w.heap.size + 3, 0, none⟩ (.int .i64 er)).setCell ⟨w.heap.size, 0, none⟩ (.slice (some ⟨b, off, sp⟩) 0 0))) := Lib.hid (keep2 HR.out HP.out HK.out)
    clear hsl hzl
    go_wp2
    refine bodyPost_end (results_none rfl _ _ _) rfl ?_
    first
      | exact ⟨rfl, HF.out, HKK.out, HXX.out _⟩
      | (rw [HZ1.out]; exact ⟨rfl, HF.out, HKK.out, HXX.out _⟩)
  · have hld : (zs.drop k).length = zs.length - k := List.length_drop
    have HF : Hid (RD w (m', (zs.drop k, er)) ((w1.setCell ⟨w.heap.size + 3, 0, none⟩ (.int .i64 er)).setCell ⟨w.heap.size, 0, none⟩ (.slice (some ((⟨b, off, sp⟩ : Addr).add k)) (zs.length - k) (cap - k)))) := Lib.hid (by
      have q := HR.out.fin (zs' := zs.drop k) (a' := some ((⟨b, off, sp⟩ : Addr).add k)) (c' := cap - k) (er := er) HM.out HP.out (by rw [hld]; exact hsl)
      rw [hld] at q
      exact q)
    have f4 : (k : Int) < (cap : Int) := by
      obtain ⟨a', c', e', g1, -⟩ := id HS.out
      simp only [Value.slice.injEq] at e'
      obtain ⟨-, -, rfl⟩ := e'
      omega
    have HKK : Hid (KeepT W ((w1.setCell ⟨w.heap.size + 3, 0, none⟩ (.int .i64 er)).setCell ⟨w.heap.size, 0, none⟩ (.slice (some ((⟨b, off, sp⟩ : Addr).add k)) (zs.length - k) (cap - k)))) := Lib.hid (keep2 HR.out HP.out HK.out)
    clear hsl hld
    go_wp2
    refine bodyPost_end (results_none rfl _ _ _) rfl ?_
    exact ⟨rfl, HF.out, HKK.out, HXX.out _⟩
set_option maxHeartbeats 4000000 in
theorem next_manyInto (w : World) (m : Mes) (zs : List Int) (s' : MSt) (X : World → Prop) (c : Nat) (W : World) (h : RD w (m, (zs, 0)) W) (hX : Deaf w X)
    (hp : ∀ a cap, Sl .u8 W (.slice a zs.length cap) zs → Calls Tryd.prog 88 #[.slice a zs.length cap, .pointer (some ⟨c, 0, none⟩)] W (PartE w zs s' X W)) :
    Calls Tryd.prog 59 #[.func (.func 88) #[] #[.pointer (some ⟨c, 0, none⟩)], .pointer (some ⟨w.heap.size + 3, 0, none⟩), .pointer (some ⟨w.heap.size, 0, none⟩)] W (NextE w s' X W) := by
  obtain ⟨a, cap, h1, h2⟩ := h.1
  dsimp only at h1 h2
  have HC := Lib.hid (hp a cap (h2.below h.2.2.2.2.1 (Nat.le_refl _)))
  have c0 : W.cell? ⟨w.heap.size, 0, none⟩ = some (.slice a zs.length cap) := (cell_of_row _ _ 0 _ _ _ h1).trans rfl
  have c3 : W.cell? ⟨w.heap.size + 3, 0, none⟩ = some (.int .i64 0) := (cell_of_row _ _ 0 _ _ _ h.2.2.2.1).trans rfl
  have HR := Lib.hid h
  have H1 := Lib.hid h1
  have HS := Lib.hid h2
  have HX := Lib.hid hX
  clear h h1 h2 hp hX
  go_enter Tryd.func59, Tryd.ntmps59
  go_wp2_with fail
  refine HC.out.mono ?_
  clear c0 c3
  rintro e w1 ⟨k, er, rfl, hk, hs', hm, hpast, hkt, hx⟩
  obtain ⟨m', st'⟩ := s'
  dsimp only at hs' hm
  subst hs'
  have hb0 := (hpast.2.2.2.2 _ (by omega) (by omega)).trans H1.out
  have hb3 := (hpast.2.2.2.2 (w.heap.size + 3) (by omega) (by omega)).trans HR.out.2.2.2.1
  have c3 : w1.cell? ⟨w.heap.size + 3, 0, none⟩ = some (.int .i64 0) := (cell_of_row _ _ 0 _ _ _ hb3).trans rfl
  have f3 : w1.frozen? ⟨w.heap.size + 3, 0, none⟩ = false := frozen_of_row _ _ 0 _ _ hb3
  have hb0' := (heap_setCell_other w1 ⟨w.heap.size + 3, 0, none⟩ w.heap.size (.int .i64 er) (by simp)).trans hb0
  have c0 : (w1.setCell ⟨w.heap.size + 3, 0, none⟩ (.int .i64 er)).cell? ⟨w.heap.size, 0, none⟩ = some (.slice a zs.length cap) := (cell_of_row _ _ 0 _ _ _ hb0').trans rfl
  have f0 : (w1.setCell ⟨w.heap.size + 3, 0, none⟩ (.int .i64 er)).frozen? ⟨w.heap.size, 0, none⟩ = false := frozen_of_row _ _ 0 _ _ hb0'
  have f3k : (k : Int) ≤ (zs.length : Int) := by omega
  have HM := Lib.hid hm
  have HP := Lib.hid hpast
  have HK := Lib.hid hkt
  have HXX : Hid (∀ u, X ((w1.setCell ⟨w.heap.size + 3, 0, none⟩ (.int .i64 er)).setCell ⟨w.heap.size, 0, none⟩ u)) := Lib.hid (fun u => HX.out _ _ _ (by omega) (HX.out _ _ _ (by omega) hx))
  have hfk := from_k HS.out hk
  clear hb0 hb3 hb0' hm hpast hkt hx
  rcases hfk with ⟨rfl, rfl, rfl, rfl⟩ | ⟨b, off, sp, rfl, ⟨rfl, hzl, hsl⟩ | ⟨hcu, hsl⟩⟩
  · have HF := Lib.hid (HR.out.fin (zs' := ([] : List Int).drop 0) (a' := none) (c' := 0) (er := er) HM.out HP.out ⟨none, 0, rfl, Nat.le_refl _, Nat.zero_le _, by simp, .inl ⟨rfl, rfl, rfl⟩⟩)
    have HKK : Hid (KeepT W ((w1.setCell ⟨w.heap.size + 3, 0, none⟩ (.int .i64 er)).setCell ⟨w.heap.size, 0, none⟩ (.slice none 0 0))) := Lib.hid (keep2 HR.out HP.out HK.out)
    go_wp2
    refine bodyPost_end (results_none rfl _ _ _) rfl ?_
    exact ⟨rfl, HF.out, HKK.out, HXX.out _⟩
  · have HZ0 : Hid ((zs.drop cap).length = 0) := Lib.hid (by rw [List.length_drop]; omega)
    have HF : Hid (RD w (m', (zs.drop cap, er)) ((w1.setCell ⟨w.heap.size + 3, 0, none⟩ (.int .i64 er)).setCell ⟨w.heap.size, 0, none⟩ (.slice (some ⟨b, off, sp⟩) 0 0))) := Lib.hid (by
      have q := HR.out.fin (zs' := zs.drop cap) (a' := some ⟨b, off, sp⟩) (c' := 0) (er := er) HM.out HP.out (by rw [HZ0.out]; exact hsl)
      rw [HZ0.out] at q
      exact q)
    have hzz : (cap : Int) ≤ (zs.length : Int) := by omega
    have HZ1 : Hid (zs.length - cap = 0) := Lib.hid (by omega)
    have HKK : Hid (KeepT W ((w1.setCell ⟨w.heap.size + 3, 0, none⟩ (.int .i64 er)).setCell ⟨w.heap.size, 0, none⟩ (.slice (some ⟨b, off, sp⟩) 0 0))) := Lib.hid (keep2 HR.out HP.out HK.out)
    clear hsl hzl
    go_wp2
    refine bodyPost_end (results_none rfl _ _ _) rfl ?_
    first
      | exact ⟨rfl, HF.out, HKK.out, HXX.out _⟩
      | (rw [HZ1.out]; exact ⟨rfl, HF.out, HKK.out, HXX.out _⟩)
  · have hld : (zs.drop k).length = zs.length - k := List.length_drop
    have HF : Hid (RD w (m', (zs.drop k, er)) ((w1.setCell ⟨w.heap.size + 3, 0, none⟩ (.int .i64 er)).setCell ⟨w.heap.size, 0, none⟩ (.slice (some ((⟨b, off, sp⟩ : Addr).add k)) (zs.length - k) (cap - k)))) := Lib.hid (by
      have q := HR.out.fin (zs' := zs.drop k) (a' := some ((⟨b, off, sp⟩ : Addr).add k)) (c' := cap - k) (er := er) HM.out HP.out (by rw [hld]; exact hsl)
      rw [hld] at q
      exact q)
    have f4 : (k : Int) < (cap : Int) := by
      obtain ⟨a', c', e', g1, -⟩ := id HS.out
      simp only [Value.slice.injEq] at e'
      obtain ⟨-, -, rfl⟩ := e'
      omega
    have HKK : Hid (KeepT W ((w1.setCell ⟨w.heap.size + 3, 0, none⟩ (.int .i64 er)).setCell ⟨w.heap.size, 0, none⟩ (.slice (some ((⟨b, off, sp⟩ : Addr).add k)) (zs.length - k) (cap - k)))) := Lib.hid (keep2 HR.out HP.out HK.out)
    clear hsl hld
    go_wp2
    refine bodyPost_end (results_none rfl _ _ _) rfl ?_
    exact ⟨rfl, HF.out, HKK.out, HXX.out _⟩
set_option maxHeartbeats 4000000 in
theorem next_entryInto (w : World) (m : Mes) (zs : List Int) (s' : MSt) (X : World → Prop) (c : Nat) (W : World) (h : RD w (m, (zs, 0)) W) (hX : Deaf w X)
    (hp : ∀ a cap, Sl .u8 W (.slice a zs.length cap) zs → Calls Tryd.prog 89 #[.slice a zs.length cap, .pointer (some ⟨c, 0, none⟩)] W (PartE w zs s' X W)) :
    Calls Tryd.prog 59 #[.func (.func 89) #[] #[.pointer (some ⟨c, 0, none⟩)], .pointer (some ⟨w.heap.size + 3, 0, none⟩), .pointer (some ⟨w.heap.size, 0, none⟩)] W (NextE w s' X W) := by
  obtain ⟨a, cap, h1, h2⟩ := h.1
  dsimp only at h1 h2
  have HC := Lib.hid (hp a cap (h2.below h.2.2.2.2.1 (Nat.le_refl _)))
  have c0 : W.cell? ⟨w.heap.size, 0, none⟩ = some (.slice a zs.length cap) := (cell_of_row _ _ 0 _ _ _ h1).trans rfl
  have c3 : W.cell? ⟨w.heap.size + 3, 0, none⟩ = some (.int .i64 0) := (cell_of_row _ _ 0 _ _ _ h.2.2.2.1).trans rfl
  have HR := Lib.hid h
  have H1 := Lib.hid h1
  have HS := Lib.hid h2
  have HX := Lib.hid hX
  clear h h1 h2 hp hX
  go_enter Tryd.func59, Tryd.ntmps59
  go_wp2_with fail
  refine HC.out.mono ?_
  clear c0 c3
  rintro e w1 ⟨k, er, rfl, hk, hs', hm, hpast, hkt, hx⟩
  obtain ⟨m', st'⟩ := s'
  dsimp only at hs' hm
  subst hs'
  have hb0 := (hpast.2.2.2.2 _ (by omega) (by omega)).trans H1.out
  have hb3 := (hpast.2.2.2.2 (w.heap.size + 3) (by omega) (by omega)).trans HR.out.2.2.2.1
  have c3 : w1.cell? ⟨w.heap.size + 3, 0, none⟩ = some (.int .i64 0) := (cell_of_row _ _ 0 _ _ _ hb3).trans rfl
  have f3 : w1.frozen? ⟨w.heap.size + 3, 0, none⟩ = false := frozen_of_row _ _ 0 _ _ hb3
  have hb0' := (heap_setCell_other w1 ⟨w.heap.size + 3, 0, none⟩ w.heap.size (.int .i64 er) (by simp)).trans hb0
  have c0 : (w1.setCell ⟨w.heap.size + 3, 0, none⟩ (.int .i64 er)).cell? ⟨w.heap.size, 0, none⟩ = some (.slice a zs.length cap) := (cell_of_row _ _ 0 _ _ _ hb0').trans rfl
  have f0 : (w1.setCell ⟨w.heap.size + 3, 0, none⟩ (.int .i64 er)).frozen? ⟨w.heap.size, 0, none⟩ = false := frozen_of_row _ _ 0 _ _ hb0'
  have f3k : (k : Int) ≤ (zs.length : Int) := by omega
  have HM := Lib.hid hm
  have HP := Lib.hid hpast
  have HK := Lib.hid hkt
  have HXX : Hid (∀ u, X ((w1.setCell ⟨w.heap.size + 3, 0, none⟩ (.int .i64 er)).setCell ⟨w.heap.size, 0, none⟩ u)) := Lib.hid (fun u => HX.out _ _ _ (by omega) (HX.out _ _ _ (by omega) hx))
  have hfk := from_k HS.out hk
  clear hb0 hb3 hb0' hm hpast hkt hx
  rcases hfk with ⟨rfl, rfl, rfl, rfl⟩ | ⟨b, off, sp, rfl, ⟨rfl, hzl, hsl⟩ | ⟨hcu, hsl⟩⟩
  · have HF := Lib.hid (HR.out.fin (zs' := ([] : List Int).drop 0) (a' := none) (c' := 0) (er := er) HM.out HP.out ⟨none, 0, rfl, Nat.le_refl _, Nat.zero_le _, by simp, .inl ⟨rfl, rfl, rfl⟩⟩)
    have HKK : Hid (KeepT W ((w1.setCell ⟨w.heap.size + 3, 0, none⟩ (.int .i64 er)).setCell ⟨w.heap.size, 0, none⟩ (.slice none 0 0))) := Lib.hid (keep2 HR.out HP.out HK.out)
    go_wp2
    refine bodyPost_end (results_none rfl _ _ _) rfl ?_
    exact ⟨rfl, HF.out, HKK.out, HXX.out _⟩
  · have HZ0 : Hid ((zs.drop cap).length = 0) := Lib.hid (by rw [List.length_drop]; omega)
    have HF : Hid (RD w (m', (zs.drop cap, er)) ((w1.setCell ⟨w.heap.size + 3, 0, none⟩ (.int .i64 er)).setCell ⟨w.heap.size, 0, none⟩ (.slice (some ⟨b, off, sp⟩) 0 0))) := Lib.hid (by
      have q := HR.out.fin (zs' := zs.drop cap) (a' := some ⟨b, off, sp⟩) (c' := 0) (er := er) HM.out HP.out (by rw [HZ0.out]; exact hsl)
      rw [HZ0.out] at q
      exact q)
    have hzz : (cap : Int) ≤ (zs.length : Int) := by omega
    have HZ1 : Hid (zs.length - cap = 0) := Lib.hid (by omega)
    have HKK : Hid (KeepT W ((w1.setCell ⟨w.heap.size + 3, 0, none⟩ (.int .i64 er)).setCell ⟨w.heap.size, 0, none⟩ (.slice (some ⟨b, off, sp⟩) 0 0))) := Lib.hid (keep2 HR.out HP.out HK.out)
    clear hsl hzl
    go_wp2
    refine bodyPost_end (results_none rfl _ _ _) rfl ?_
    first
      | exact ⟨rfl, HF.out, HKK.out, HXX.out _⟩
      | (rw [HZ1.out]; exact ⟨rfl, HF.out, HKK.out, HXX.out _⟩)
  · have hld : (zs.drop k).length = zs.length - k := List.length_drop
    have HF : Hid (RD w (m', (zs.drop k, er)) ((w1.setCell ⟨w.heap.size + 3, 0, none⟩ (.int .i64 er)).setCell ⟨w.heap.size, 0, none⟩ (.slice (some ((⟨b, off, sp⟩ : Addr).add k)) (zs.length - k) (cap - k)))) := Lib.hid (by
      have q := HR.out.fin (zs' := zs.drop k) (a' := some ((⟨b, off, sp⟩ : Addr).add k)) (c' := cap - k) (er := er) HM.out HP.out (by rw [hld]; exact hsl)
      rw [hld] at q
      exact q)
    have f4 : (k : Int) < (cap : Int) := by
      obtain ⟨a', c', e', g1, -⟩ := id HS.out
      simp only [Value.slice.injEq] at e'
      obtain ⟨-, -, rfl⟩ := e'
      omega
    have HKK : Hid (KeepT W ((w1.setCell ⟨w.heap.size + 3, 0, none⟩ (.int .i64 er)).setCell ⟨w.heap.size, 0, none⟩ (.slice (some ((⟨b, off, sp⟩ : Addr).add k)) (zs.length - k) (cap - k)))) := Lib.hid (keep2 HR.out HP.out HK.out)
    clear hsl hld
    go_wp2
    refine bodyPost_end (results_none rfl _ _ _) rfl ?_
    exact ⟨rfl, HF.out, HKK.out, HXX.out _⟩
set_option maxHeartbeats 4000000 in
theorem next_shotInto (w : World) (m : Mes) (zs : List Int) (s' : MSt) (X : World → Prop) (c : Nat) (W : World) (h : RD w (m, (zs, 0)) W) (hX : Deaf w X)
    (hp : ∀ a cap, Sl .u8 W (.slice a zs.length cap) zs → Calls Tryd.prog 91 #[.slice a zs.length cap, .pointer (some ⟨c, 0, none⟩)] W (PartE w zs s' X W)) :
    Calls Tryd.prog 59 #[.func (.func 91) #[] #[.pointer (some ⟨c, 0, none⟩)], .pointer (some ⟨w.heap.size + 3, 0, none⟩), .pointer (some ⟨w.heap.size, 0, none⟩)] W (NextE w s' X W) := by
  obtain ⟨a, cap, h1, h2⟩ := h.1
  dsimp only at h1 h2
  have HC := Lib.hid (hp a cap (h2.below h.2.2.2.2.1 (Nat.le_refl _)))
  have c0 : W.cell? ⟨w.heap.size, 0, none⟩ = some (.slice a zs.length cap) := (cell_of_row _ _ 0 _ _ _ h1).trans rfl
  have c3 : W.cell? ⟨w.heap.size + 3, 0, none⟩ = some (.int .i64 0) := (cell_of_row _ _ 0 _ _ _ h.2.2.2.1).trans rfl
  have HR := Lib.hid h
  have H1 := Lib.hid h1
  have HS := Lib.hid h2
  have HX := Lib.hid hX
  clear h h1 h2 hp hX
  go_enter Tryd.func59, Tryd.ntmps59
  go_wp2_with fail
  refine HC.out.mono ?_
  clear c0 c3
  rintro e w1 ⟨k, er, rfl, hk, hs', hm, hpast, hkt, hx⟩
  obtain ⟨m', st'⟩ := s'
  dsimp only at hs' hm
  subst hs'
  have hb0 := (hpast.2.2.2.2 _ (by omega) (by omega)).trans H1.out
  have hb3 := (hpast.2.2.2.2 (w.heap.size + 3) (by omega) (by omega)).trans HR.out.2.2.2.1
  have c3 : w1.cell? ⟨w.heap.size + 3, 0, none⟩ = some (.int .i64 0) := (cell_of_row _ _ 0 _ _ _ hb3).trans rfl
  have f3 : w1.frozen? ⟨w.heap.size + 3, 0, none⟩ = false := frozen_of_row _ _ 0 _ _ hb3
  have hb0' := (heap_setCell_other w1 ⟨w.heap.size + 3, 0, none⟩ w.heap.size (.int .i64 er) (by simp)).trans hb0
  have c0 : (w1.setCell ⟨w.heap.size + 3, 0, none⟩ (.int .i64 er)).cell? ⟨w.heap.size, 0, none⟩ = some (.slice a zs.length cap) := (cell_of_row _ _ 0 _ _ _ hb0').trans rfl
  have f0 : (w1.setCell ⟨w.heap.size + 3, 0, none⟩ (.int .i64 er)).frozen? ⟨w.heap.size, 0, none⟩ = false := frozen_of_row _ _ 0 _ _ hb0'
  have f3k : (k : Int) ≤ (zs.length : Int) := by omega
  have HM := Lib.hid hm
  have HP := Lib.hid hpast
  have HK := Lib.hid hkt
  have HXX : Hid (∀ u, X ((w1.setCell ⟨w.heap.size + 3, 0, none⟩ (.int .i64 er)).setCell ⟨w.heap.size, 0, none⟩ u)) := Lib.hid (fun u => HX.out _ _ _ (by omega) (HX.out _ _ _ (by omega) hx))
  have hfk := from_k HS.out hk
  clear hb0 hb3 hb0' hm hpast hkt hx
  rcases hfk with ⟨rfl, rfl, rfl, rfl⟩ | ⟨b, off, sp, rfl, ⟨rfl, hzl, hsl⟩ | ⟨hcu, hsl⟩⟩
  · have HF := Lib.hid (HR.out.fin (zs' := ([] : List Int).drop 0) (a' := none) (c' := 0) (er := er) HM.out HP.out ⟨none, 0, rfl, Nat.le_refl _, Nat.zero_le _, by simp, .inl ⟨rfl, rfl, rfl⟩⟩)
    have HKK : Hid (KeepT W ((w1.setCell ⟨w.heap.size + 3, 0, none⟩ (.int .i64 er)).setCell ⟨w.heap.size, 0, none⟩ (.slice none 0 0))) := Lib.hid (keep2 HR.out HP.out HK.out)
    go_wp2
    refine bodyPost_end (results_none rfl _ _ _) rfl ?_
    exact ⟨rfl, HF.out, HKK.out, HXX.out _⟩
  · have HZ0 : Hid ((zs.drop cap).length = 0) := Lib.hid (by rw [List.length_drop]; omega)
    have HF : Hid (RD w (m', (zs.drop cap, er)) ((w1.setCell ⟨w.heap.size + 3, 0, none⟩ (.int .i64 er)).setCell ⟨w.heap.size, 0, none⟩ (.slice (some ⟨b, off, sp⟩) 0 0))) := Lib.hid (by
      have q := HR.out.fin (zs' := zs.drop cap) (a' := some ⟨b, off, sp⟩) (c' := 0) (er := er) HM.out HP.out (by rw [HZ0.out]; exact hsl)
      rw [HZ0.out] at q
      exact q)
    have hzz : (cap : Int) ≤ (zs.length : Int) := by omega
    have HZ1 : Hid (zs.length - cap = 0) := Lib.hid (by omega)
    have HKK : Hid (KeepT W ((w1.setCell ⟨w.heap.size + 3, 0, none⟩ (.int .i64 er)).setCell ⟨w.heap.size, 0, none⟩ (.slice (some ⟨b, off, sp⟩) 0 0))) := Lib.hid (keep2 HR.out HP.out HK.out)
    clear hsl hzl
    go_wp2
    refine bodyPost_end (results_none rfl _ _ _) rfl ?_
    first
      | exact ⟨rfl, HF.out, HKK.out, HXX.out _⟩
      | (rw [HZ1.out]; exact ⟨rfl, HF.out, HKK.out, HXX.out _⟩)
  · have hld : (zs.drop k).length = zs.length - k := List.length_drop
    have HF : Hid (RD w (m', (zs.drop k, er)) ((w1.setCell ⟨w.heap.size + 3, 0, none⟩ (.int .i64 er)).setCell ⟨w.heap.size, 0, none⟩ (.slice (some ((⟨b, off, sp⟩ : Addr).add k)) (zs.length - k) (cap - k)))) := Lib.hid (by
      have q := HR.out.fin (zs' := zs.drop k) (a' := some ((⟨b, off, sp⟩ : Addr).add k)) (c' := cap - k) (er := er) HM.out HP.out (by rw [hld]; exact hsl)
      rw [hld] at q
      exact q)
    have f4 : (k : Int) < (cap : Int) := by
      obtain ⟨a', c', e', g1, -⟩ := id HS.out
      simp only [Value.slice.injEq] at e'
      obtain ⟨-, -, rfl⟩ := e'
      omega
    have HKK : Hid (KeepT W ((w1.setCell ⟨w.heap.size + 3, 0, none⟩ (.int .i64 er)).setCell ⟨w.heap.size, 0, none⟩ (.slice (some ((⟨b, off, sp⟩ : Addr).add k)) (zs.length - k) (cap - k)))) := Lib.hid (keep2 HR.out HP.out HK.out)
    clear hsl hld
    go_wp2
    refine bodyPost_end (results_none rfl _ _ _) rfl ?_
    exact ⟨rfl, HF.out, HKK.out, HXX.out _⟩
set_option maxHeartbeats 4000000 in
theorem next_end (w : World) (m : Mes) (zs : List Int) (s' : MSt) (X : World → Prop) (W : World) (h : RD w (m, (zs, 0)) W) (hX : Deaf w X)
    (hp : ∀ a cap, Sl .u8 W (.slice a zs.length cap) zs → Calls Tryd.prog 67 #[.slice a zs.length cap] W (PartE w zs s' X W)) :
    Calls Tryd.prog 59 #[.func (.func 67) #[] #[], .pointer (some ⟨w.heap.size + 3, 0, none⟩), .pointer (some ⟨w.heap.size, 0, none⟩)] W (NextE w s' X W) := by
  obtain ⟨a, cap, h1, h2⟩ := h.1
  dsimp only at h1 h2
  have HC := Lib.hid (hp a cap (h2.below h.2.2.2.2.1 (Nat.le_refl _)))
  have c0 : W.cell? ⟨w.heap.size, 0, none⟩ = some (.slice a zs.length cap) := (cell_of_row _ _ 0 _ _ _ h1).trans rfl
  have c3 : W.cell? ⟨w.heap.size + 3, 0, none⟩ = some (.int .i64 0) := (cell_of_row _ _ 0 _ _ _ h.2.2.2.1).trans rfl
  have HR := Lib.hid h
  have H1 := Lib.hid h1
  have HS := Lib.hid h2
  have HX := Lib.hid hX
  clear h h1 h2 hp hX
  go_enter Tryd.func59, Tryd.ntmps59
  go_wp2_with fail
  refine HC.out.mono ?_
  clear c0 c3
  rintro e w1 ⟨k, er, rfl, hk, hs', hm, hpast, hkt, hx⟩
  obtain ⟨m', st'⟩ := s'
  dsimp only at hs' hm
  subst hs'
  have hb0 := (hpast.2.2.2.2 _ (by omega) (by omega)).trans H1.out
  have hb3 := (hpast.2.2.2.2 (w.heap.size + 3) (by omega) (by omega)).trans HR.out.2.2.2.1
  have c3 : w1.cell? ⟨w.heap.size + 3, 0, none⟩ = some (.int .i64 0) := (cell_of_row _ _ 0 _ _ _ hb3).trans rfl
  have f3 : w1.frozen? ⟨w.heap.size + 3, 0, none⟩ = false := frozen_of_row _ _ 0 _ _ hb3
  have hb0' := (heap_setCell_other w1 ⟨w.heap.size + 3, 0, none⟩ w.heap.size (.int .i64 er) (by simp)).trans hb0
  have c0 : (w1.setCell ⟨w.heap.size + 3, 0, none⟩ (.int .i64 er)).cell? ⟨w.heap.size, 0, none⟩ = some (.slice a zs.length cap) := (cell_of_row _ _ 0 _ _ _ hb0').trans rfl
  have f0 : (w1.setCell ⟨w.heap.size + 3, 0, none⟩ (.int .i64 er)).frozen? ⟨w.heap.size, 0, none⟩ = false := frozen_of_row _ _ 0 _ _ hb0'
  have f3k : (k : Int) ≤ (zs.length : Int) := by omega
  have HM := Lib.hid hm
  have HP := Lib.hid hpast
  have HK := Lib.hid hkt
  have HXX : Hid (∀ u, X ((w1.setCell ⟨w.heap.size + 3, 0, none⟩ (.int .i64 er)).setCell ⟨w.heap.size, 0, none⟩ u)) := Lib.hid (fun u => HX.out _ _ _ (by omega) (HX.out _ _ _ (by omega) hx))
  have hfk := from_k HS.out hk
  clear hb0 hb3 hb0' hm hpast hkt hx
  rcases hfk with ⟨rfl, rfl, rfl, rfl⟩ | ⟨b, off, sp, rfl, ⟨rfl, hzl, hsl⟩ | ⟨hcu, hsl⟩⟩
  · have HF := Lib.hid (HR.out.fin (zs' := ([] : List Int).drop 0) (a' := none) (c' := 0) (er := er) HM.out HP.out ⟨none, 0, rfl, Nat.le_refl _, Nat.zero_le _, by simp, .inl ⟨rfl, rfl, rfl⟩⟩)
    have HKK : Hid (KeepT W ((w1.setCell ⟨w.heap.size + 3, 0, none⟩ (.int .i64 er)).setCell ⟨w.heap.size, 0, none⟩ (.slice none 0 0))) := Lib.hid (keep2 HR.out HP.out HK.out)
    go_wp2
    refine bodyPost_end (results_none rfl _ _ _) rfl ?_
    exact ⟨rfl, HF.out, HKK.out, HXX.out _⟩
  · have HZ0 : Hid ((zs.drop cap).length = 0) := Lib.hid (by rw [List.length_drop]; omega)
    have HF : Hid (RD w (m', (zs.drop cap, er)) ((w1.setCell ⟨w.heap.size + 3, 0, none⟩ (.int .i64 er)).setCell ⟨w.heap.size, 0, none⟩ (.slice (some ⟨b, off, sp⟩) 0 0))) := Lib.hid (by
      have q := HR.out.fin (zs' := zs.drop cap) (a' := some ⟨b, off, sp⟩) (c' := 0) (er := er) HM.out HP.out (by rw [HZ0.out]; exact hsl)
      rw [HZ0.out] at q
      exact q)
    have hzz : (cap : Int) ≤ (zs.length : Int) := by omega
    have HZ1 : Hid (zs.length - cap = 0) := Lib.hid (by omega)
    have HKK : Hid (KeepT W ((w1.setCell ⟨w.heap.size + 3, 0, none⟩ (.int .i64 er)).setCell ⟨w.heap.size, 0, none⟩ (.slice (some ⟨b, off, sp⟩) 0 0))) := Lib.hid (keep2 HR.out HP.out HK.out)
    clear hsl hzl
    go_wp2
    refine bodyPost_end (results_none rfl _ _ _) rfl ?_
    first
      | exact ⟨rfl, HF.out, HKK.out, HXX.out _⟩
      | (rw [HZ1.out]; exact ⟨rfl, HF.out, HKK.out, HXX.out _⟩)
  · have hld : (zs.drop k).length = zs.length - k := List.length_drop
    have HF : Hid (RD w (m', (zs.drop k, er)) ((w1.setCell ⟨w.heap.size + 3, 0, none⟩ (.int .i64 er)).setCell ⟨w.heap.size, 0, none⟩ (.slice (some ((⟨b, off, sp⟩ : Addr).add k)) (zs.length - k) (cap - k)))) := Lib.hid (by
      have q := HR.out.fin (zs' := zs.drop k) (a' := some ((⟨b, off, sp⟩ : Addr).add k)) (c' := cap - k) (er := er) HM.out HP.out (by rw [hld]; exact hsl)
      rw [hld] at q
      exact q)
    have f4 : (k : Int) < (cap : Int) := by
      obtain ⟨a', c', e', g1, -⟩ := id HS.out
      simp only [Value.slice.injEq] at e'
      obtain ⟨-, -, rfl⟩ := e'
      omega
    have HKK : Hid (KeepT W ((w1.setCell ⟨w.heap.size + 3, 0, none⟩ (.int .i64 er)).setCell ⟨w.heap.size, 0, none⟩ (.slice (some ((⟨b, off, sp⟩ : Addr).add k)) (zs.length - k) (cap - k)))) := Lib.hid (keep2 HR.out HP.out HK.out)
    clear hsl hld
    go_wp2
    refine bodyPost_end (results_none rfl _ _ _) rfl ?_
    exact ⟨rfl, HF.out, HKK.out, HXX.out _⟩
end Ms
end Go.Proofs.YtbdjihmgdkailaaDoor
