/- The document's reader, told as the reader of shot is: Num, Small. No condition. The document's reading of a snapshot. No condition. The document's Decode of a snapshot. No condition. -/
import Derived.Test.YtlfaiemebfkajaaGreatDoorEdZ
import Derived.Test.YtlfaiemebfkajaaGreatDoorRdr
import Derived.Deep.QuietTactic
import Derived.Deep.CutBlock
import Derived.BigQuiet
import Derived.Test.YtlfaiemebfkajaaGreatDoorEcC
namespace Go.Proofs.YtlfaiemebfkajaaGreatDoor
open Go.ChangeShapes Go.WideShapes Go.ChangeAt Go.RowKit Go.Deep
set_option linter.unusedVariables false
set_option maxRecDepth 100000
namespace Sc
open Cm Nm Sh
/-- the document's reader at g: what it reads lies in w0's memory -/
def RdR (w0 : World) (g : Nat) (zs : List Int) (st : Pst) (w : World) : Prop := ∃ v u, RB g v u st.2 w ∧ Sl .u8 w0 v zs ∧ u ≤ zs.length + 1 ∧ ((st.2 == 0) = true → u ≤ zs.length ∧ st.1 = zs.drop u)
theorem RdR.only {w0 w w' : World} {g : Nat} {zs : List Int} {st : Pst} {S : Nat → Prop} (h : RdR w0 g zs st w) (ho : Only S w w') (hs : ¬ S g) : RdR w0 g zs st w' := by
  obtain ⟨v, u, h1, h2⟩ := h
  exact ⟨v, u, h1.only ho hs, h2⟩
theorem RdR.lt {w0 w : World} {g : Nat} {zs : List Int} {st : Pst} (h : RdR w0 g zs st w) : g < w.heap.size := by
  obtain ⟨v, u, h1, -⟩ := h
  exact row_lt h1
theorem RdR.block {w0 w w' : World} {g : Nat} {zs : List Int} {st : Pst} (h : RdR w0 g zs st w) (hb : w'.heap[g]? = w.heap[g]?) : RdR w0 g zs st w' := by
  obtain ⟨v, u, h1, h2⟩ := h
  exact ⟨v, u, hb.trans h1, h2⟩
theorem RdR.grown {w0 wr w' : World} {g B : Nat} {zs : List Int} {st : Pst} {row : Option Nat} (h : RdR w0 g zs st wr) (hg : wr.grownBy w' row) (hB : g < B) (hr : ∀ q, row = some q → B ≤ q) : RdR w0 g zs st w' :=
  h.block (hg.block g h.lt (fun e => by have := hr g e.symm; omega))
theorem nx_rel (zs : List Int) (u : Nat) (m : Int) : (nx zs u m).1 = (pnum m (zs.drop u, 0)).1 ∧ (nx zs u m).2.1 = (pnum m (zs.drop u, 0)).2.2 ∧ ((((pnum m (zs.drop u, 0)).2.2 == 0) = true) → (pnum m (zs.drop u, 0)).2.1 = zs.drop (nx zs u m).2.2) := by
  rcases hr : Oc.rdL (zs.drop u) with ⟨n, k, e⟩
  rcases Oc.rd_err hr with he | he
  · subst he
    by_cases hm : m < (n : Int)
    · rw [nx_form hr hm, pnum_form hr hm]
      exact ⟨rfl, rfl, fun h => by simp at h⟩
    · rw [nx_ok hr (by omega), pnum_ok hr (by omega)]
      exact ⟨rfl, rfl, fun _ => by simp [List.drop_drop]⟩
  · rw [nx_err hr he, pnum_err hr he]
    exact ⟨rfl, rfl, fun h => by simp only [he] at h; cases h⟩
theorem sm_rel (zs : List Int) (u : Nat) (m : Int) (hm0 : m ≤ 18446744073709551615) : (sm zs u 0 m).1 = (pnum m (zs.drop u, 0)).1 ∧ (sm zs u 0 m).2.1 = (pnum m (zs.drop u, 0)).2.2 ∧ ((((pnum m (zs.drop u, 0)).2.2 == 0) = true) → (pnum m (zs.drop u, 0)).2.1 = zs.drop (sm zs u 0 m).2.2) := by
  have hrn : rn zs u 0 = nx zs u 18446744073709551615 := rfl
  unfold sm
  rw [hrn]
  rcases hr : Oc.rdL (zs.drop u) with ⟨n, k, e⟩
  rcases Oc.rd_err hr with he | he
  · subst he
    by_cases hm : m < (n : Int)
    · rw [pnum_form hr hm]
      by_cases hM : (18446744073709551615 : Int) < (n : Int)
      · rw [nx_form hr hM]
        exact ⟨rfl, rfl, fun h => by simp at h⟩
      · rw [nx_ok hr (by omega)]
        simp only [beq_self_eq_true, if_true, if_pos hm]
        exact ⟨trivial, trivial, fun h => by simp at h⟩
    · rw [nx_ok hr (by omega), pnum_ok hr (by omega)]
      simp only [beq_self_eq_true, if_true, if_neg hm]
      exact ⟨trivial, trivial, fun _ => by simp [List.drop_drop]⟩
  · rw [nx_err hr he, pnum_err hr he]
    simp only [he, Bool.false_eq_true, if_false]
    exact ⟨trivial, trivial, fun h => by cases h⟩
set_option maxHeartbeats 400000 in
theorem rnum_stuck (g : Nat) (v : Value) (u : Nat) (e : Int) (w : World) (h : RB g v u e w) (he : (e == 0) = false) :
    Calls Tryz.prog 42 #[.pointer (some ⟨g, 0, none⟩)] w fun E w' => E = .returned (.int .u64 0) ∧ w' = w := by
  have c2 := h.c2
  have hne : (e != 0) = true := by rw [bne, he]; rfl
  clear h he
  go_enter Tryz.func42, Tryz.ntmps42
  go_wp2
  go_ret
  exact ⟨rfl, rfl⟩
set_option maxHeartbeats 400000 in
theorem rsmall_stuck (g : Nat) (v : Value) (u : Nat) (e m : Int) (w : World) (h : RB g v u e w) (he : (e == 0) = false) (m0 : 0 ≤ m) (m1 : m ≤ 65535) :
    Calls Tryz.prog 43 #[.pointer (some ⟨g, 0, none⟩), .int .i64 m] w fun E w' => E = .returned (.int .i64 0) ∧ w' = w := by
  have HN := Lib.hid (rnum_stuck g v u e w h he)
  clear h he
  go_enter Tryz.func43, Tryz.ntmps43
  go_wp2_with fail
  refine HN.out.mono ?_
  rintro E w2 ⟨rfl, rfl⟩
  go_wp2
  go_ret
  exact ⟨rfl, rfl⟩
def NumR (w0 : World) (g : Nat) (zs : List Int) (r : Int × Pst) (v : Value) (w : World) (e : Ending) (w' : World) : Prop := e = .returned v ∧ RdR w0 g zs r.2 w' ∧ Only (· = g) w w' ∧ w'.heap.size = w.heap.size
theorem rw_any (w0 : World) (g : Nat) (zs : List Int) (st : Pst) (w : World) (hr : RdR w0 g zs st w) (hb : Below w0.heap.size w0 w) :
    Calls Tryz.prog 42 #[.pointer (some ⟨g, 0, none⟩)] w (NumR w0 g zs (wideS st) (.int .u64 (wideS st).1) w) := by
  obtain ⟨s1, e⟩ := st
  obtain ⟨v, u, h1, h2, h3, h4⟩ := hr
  cases he : (e == 0) with
  | false =>
    refine (rnum_stuck g v u e w h1 he).mono ?_
    rintro E w' ⟨rfl, rfl⟩
    rw [show wideS (s1, e) = (0, (s1, e)) from pnum_stuck he]
    exact ⟨rfl, ⟨v, u, h1, h2, h3, h4⟩, Only.refl _ _, rfl⟩
  | true =>
    obtain rfl : e = 0 := by simpa using he
    obtain ⟨hu, rfl⟩ := h4 rfl
    refine (rnum_any' g v zs u 0 w h1 (h2.below hb (Nat.le_refl _)) hu).mono ?_
    rintro E w' ⟨rfl, q2, q3, q4⟩
    obtain ⟨r1, r2, r3⟩ := nx_rel zs u 18446744073709551615
    have hbd := rn_bd hu 0
    rw [show rn zs u 0 = nx zs u 18446744073709551615 from rfl] at q2 hbd ⊢
    rw [r1]
    refine ⟨rfl, ⟨v, _, by rw [r2] at q2; exact q2, h2, by omega, fun h => ⟨hbd.1, r3 h⟩⟩, q3, q4⟩
theorem rs_any (w0 : World) (g : Nat) (zs : List Int) (m : Int) (st : Pst) (w : World) (hr : RdR w0 g zs st w) (hb : Below w0.heap.size w0 w) (m0 : 0 ≤ m) (m1 : m ≤ 65535) :
    Calls Tryz.prog 43 #[.pointer (some ⟨g, 0, none⟩), .int .i64 m] w (NumR w0 g zs (pnum m st) (.int .i64 (pnum m st).1) w) := by
  obtain ⟨s1, e⟩ := st
  obtain ⟨v, u, h1, h2, h3, h4⟩ := hr
  cases he : (e == 0) with
  | false =>
    refine (rsmall_stuck g v u e m w h1 he m0 m1).mono ?_
    rintro E w' ⟨rfl, rfl⟩
    rw [show pnum m (s1, e) = (0, (s1, e)) from pnum_stuck he]
    exact ⟨rfl, ⟨v, u, h1, h2, h3, h4⟩, Only.refl _ _, rfl⟩
  | true =>
    obtain rfl : e = 0 := by simpa using he
    obtain ⟨hu, rfl⟩ := h4 rfl
    refine (small_any g v zs u 0 m w h1 (h2.below hb (Nat.le_refl _)) hu m0 m1).mono ?_
    rintro E w' ⟨rfl, q2, q3, q4⟩
    obtain ⟨r1, r2, r3⟩ := sm_rel zs u m (by omega)
    have hbd := sm_bd hu 0 m0
    rw [r1]
    refine ⟨rfl, ⟨v, _, by rw [r2] at q2; exact q2, h2, by omega, fun h => ⟨hbd.1, r3 h⟩⟩, q3, q4⟩
end Sc
end Go.Proofs.YtlfaiemebfkajaaGreatDoor
namespace Go.Proofs.YtlfaiemebfkajaaGreatDoor
open Go.ChangeShapes Go.WideShapes Go.ChangeAt Go.RowKit Go.Deep
set_option linter.unusedVariables false
set_option maxRecDepth 100000
namespace Sc
open Cm Nm Sh
/-- what is known while a snapshot is read -/
def InvR (w w0 : World) (g : Nat) (zs : List Int) (st : Pst) (s : Sho) (vn vh vl : Value) (wr : World) : Prop :=
  wr.heap[w.heap.size + 1]? = some (.cells (sArr s vn vh vl) 31 (0, 0)) ∧ wr.heap[w.heap.size]? = some (.cells zSA 31 (0, 0)) ∧ OwnI wr w.heap.size vn s.nodes ∧ OwnR 5 heldC 110 wr w.heap.size vh s.led.held ∧ OwnR 6 lastC 114 wr w.heap.size vl s.led.last ∧ RdR w0 g zs st wr ∧ Only (· = g) w wr
theorem InvR.call {w w0 wr w' : World} {zs : List Int} {g : Nat} {st st' : Pst} {s : Sho} {vn vh vl : Value} (h : InvR w w0 g zs st s vn vh vl wr) (hg : g < w.heap.size) (hr : RdR w0 g zs st' w') (ho : Only (· = g) wr w') : InvR w w0 g zs st' s vn vh vl w' := by
  obtain ⟨h1, h2, h3, h4, h5, h6, h7⟩ := h
  have hb : ∀ q, q < wr.heap.size → q ≠ g → w'.heap[q]? = wr.heap[q]? := fun q hq hn => ho.2.2.2.2 q hq hn
  exact ⟨(hb _ (row_lt h1) (by omega)).trans h1, (hb _ (row_lt h2) (by omega)).trans h2, own_blk h3 (own_ge h3 hg) hb, own_blk h4 (own_ge h4 hg) hb, own_blk h5 (own_ge h5 hg) hb, hr, h7.trans ho⟩
theorem InvR.alloc {w w0 wr : World} {zs : List Int} {g : Nat} {st : Pst} {s : Sho} {vn vh vl : Value} (h : InvR w w0 g zs st s vn vh vl wr) (hg : g < w.heap.size) (o : Obj) : InvR w w0 g zs st s vn vh vl (wr.alloc o) :=
  h.call hg (h.2.2.2.2.2.1.block (((Below.refl wr.heap.size wr).alloc (Nat.le_refl _) o).block g h.2.2.2.2.2.1.lt)) (Only.alloc _ _ _)
theorem InvR.set {w w0 wr : World} {zs : List Int} {g j : Nat} {st : Pst} {s s' : Sho} {vn vh vl u : Value} (h : InvR w w0 g zs st s vn vh vl wr) (hg : g < w.heap.size) (hrow : (wr.setCell ⟨w.heap.size + 1, j, none⟩ u).heap[w.heap.size + 1]? = some (.cells (sArr s' vn vh vl) 31 (0, 0))) (hn : s'.nodes = s.nodes) (hh : s'.led.held = s.led.held) (hl : s'.led.last = s.led.last) : InvR w w0 g zs st s' vn vh vl (wr.setCell ⟨w.heap.size + 1, j, none⟩ u) := by
  obtain ⟨h1, h2, h3, h4, h5, h6, h7⟩ := h
  have hx : Only (· = w.heap.size + 1) wr (wr.setCell ⟨w.heap.size + 1, j, none⟩ u) := Only.setCell _ _ _ rfl
  refine ⟨hrow, (hx.2.2.2.2 _ (row_lt h2) (by omega)).trans h2, by rw [hn]; exact own_cellx h3 h1 (by decide), by rw [hh]; exact own_cellx h4 h1 (by decide), by rw [hl]; exact own_cellx h5 h1 (by decide), h6.only hx (by omega), only_new h7 (Only.refl _ _) hx (by omega)⟩
theorem InvR.index {w w0 wr : World} {zs : List Int} {g : Nat} {st : Pst} {s : Sho} {vn vh vl : Value} (h : InvR w w0 g zs st s vn vh vl wr) (hg : g < w.heap.size) (n : Int) : InvR w w0 g zs st { s with index := n } vn vh vl (wr.setCell ⟨w.heap.size + 1, 0, none⟩ (.int .u64 n)) :=
  h.set hg (by rw [heap_setCell_same _ _ 0 _ _ _ h.1]; rfl) rfl rfl rfl
theorem InvR.term {w w0 wr : World} {zs : List Int} {g : Nat} {st : Pst} {s : Sho} {vn vh vl : Value} (h : InvR w w0 g zs st s vn vh vl wr) (hg : g < w.heap.size) (n : Int) : InvR w w0 g zs st { s with term := n } vn vh vl (wr.setCell ⟨w.heap.size + 1, 1, none⟩ (.int .u64 n)) :=
  h.set hg (by rw [heap_setCell_same _ _ 1 _ _ _ h.1]; rfl) rfl rfl rfl
theorem InvR.limit {w w0 wr : World} {zs : List Int} {g : Nat} {st : Pst} {s : Sho} {vn vh vl : Value} (h : InvR w w0 g zs st s vn vh vl wr) (hg : g < w.heap.size) (n : Int) : InvR w w0 g zs st { s with led := { s.led with limit := n } } vn vh vl (wr.setCell ⟨w.heap.size + 1, 3, none⟩ (.int .i64 n)) :=
  h.set hg (by rw [heap_setCell_same _ _ 3 _ _ _ h.1]; rfl) rfl rfl rfl
theorem InvR.next {w w0 wr : World} {zs : List Int} {g : Nat} {st : Pst} {s : Sho} {vn vh vl : Value} (h : InvR w w0 g zs st s vn vh vl wr) (hg : g < w.heap.size) (n : Int) : InvR w w0 g zs st { s with led := { s.led with next := n } } vn vh vl (wr.setCell ⟨w.heap.size + 1, 4, none⟩ (.int .u64 n)) :=
  h.set hg (by rw [heap_setCell_same _ _ 4 _ _ _ h.1]; rfl) rfl rfl rfl
/-- a number more -/
theorem InvR.appn {w w0 wr w' : World} {zs : List Int} {g : Nat} {st : Pst} {s : Sho} {vn vh vl v' : Value} {x : Int} (h : InvR w w0 g zs st s vn vh vl wr) (hg : g < w.heap.size) (own' : OwnI w' w.heap.size v' (s.nodes ++ [x])) (hgr : wr.grownBy w' vn.ownBlock) : InvR w w0 g zs st { s with nodes := s.nodes ++ [x] } v' vh vl (w'.setCell ⟨w.heap.size + 1, 2, none⟩ v') := by
  obtain ⟨h1, h2, h3, h4, h5, h6, h7⟩ := h
  have r1 := row_grown h1 h3 (by decide) hgr
  have r2 := row_grown h2 h3 (by decide) hgr
  have r4 := own_far h4 hgr (own_apart h4 h3 (by decide))
  have r5 := own_far h5 hgr (own_apart h5 h3 (by decide))
  have hx : Only (· = w.heap.size + 1) w' (w'.setCell ⟨w.heap.size + 1, 2, none⟩ v') := Only.setCell _ _ _ rfl
  refine ⟨by rw [heap_setCell_same _ _ 2 _ _ _ r1]; rfl, (hx.2.2.2.2 _ (row_lt r2) (by omega)).trans r2, own_cellx own' r1 (by decide), own_cellx r4 r1 (by decide), own_cellx r5 r1 (by decide), (h6.grown hgr hg (own_up h3)).only hx (by omega), only_new (only_grown h7 hgr (own_up h3)) (Only.refl _ _) hx (by omega)⟩
theorem InvR.apph {w w0 wr w' : World} {zs : List Int} {g : Nat} {st : Pst} {s : Sho} {vn vh vl v' : Value} {x : Held} (h : InvR w w0 g zs st s vn vh vl wr) (hg : g < w.heap.size) (own' : OwnR 5 heldC 110 w' w.heap.size v' (s.led.held ++ [x])) (hgr : wr.grownBy w' vh.ownBlock) : InvR w w0 g zs st { s with led := { s.led with held := s.led.held ++ [x] } } vn v' vl (w'.setCell ⟨w.heap.size + 1, 5, none⟩ v') := by
  obtain ⟨h1, h2, h3, h4, h5, h6, h7⟩ := h
  have r1 := row_grown h1 h4 (by decide) hgr
  have r2 := row_grown h2 h4 (by decide) hgr
  have r3 := own_far h3 hgr (own_apart h3 h4 (by decide))
  have r5 := own_far h5 hgr (own_apart h5 h4 (by decide))
  have hx : Only (· = w.heap.size + 1) w' (w'.setCell ⟨w.heap.size + 1, 5, none⟩ v') := Only.setCell _ _ _ rfl
  refine ⟨by rw [heap_setCell_same _ _ 5 _ _ _ r1]; rfl, (hx.2.2.2.2 _ (row_lt r2) (by omega)).trans r2, own_cellx r3 r1 (by decide), own_cellx own' r1 (by decide), own_cellx r5 r1 (by decide), (h6.grown hgr hg (own_up h4)).only hx (by omega), only_new (only_grown h7 hgr (own_up h4)) (Only.refl _ _) hx (by omega)⟩
theorem InvR.appl {w w0 wr w' : World} {zs : List Int} {g : Nat} {st : Pst} {s : Sho} {vn vh vl v' : Value} {x : LastR} (h : InvR w w0 g zs st s vn vh vl wr) (hg : g < w.heap.size) (own' : OwnR 6 lastC 114 w' w.heap.size v' (s.led.last ++ [x])) (hgr : wr.grownBy w' vl.ownBlock) : InvR w w0 g zs st { s with led := { s.led with last := s.led.last ++ [x] } } vn vh v' (w'.setCell ⟨w.heap.size + 1, 6, none⟩ v') := by
  obtain ⟨h1, h2, h3, h4, h5, h6, h7⟩ := h
  have r1 := row_grown h1 h5 (by decide) hgr
  have r2 := row_grown h2 h5 (by decide) hgr
  have r3 := own_far h3 hgr (own_apart h3 h5 (by decide))
  have r4 := own_far h4 hgr (own_apart h4 h5 (by decide))
  have hx : Only (· = w.heap.size + 1) w' (w'.setCell ⟨w.heap.size + 1, 6, none⟩ v') := Only.setCell _ _ _ rfl
  refine ⟨by rw [heap_setCell_same _ _ 6 _ _ _ r1]; rfl, (hx.2.2.2.2 _ (row_lt r2) (by omega)).trans r2, own_cellx r3 r1 (by decide), own_cellx r4 r1 (by decide), own_cellx own' r1 (by decide), (h6.grown hgr hg (own_up h5)).only hx (by omega), only_new (only_grown h7 hgr (own_up h5)) (Only.refl _ _) hx (by omega)⟩
theorem InvR.drew {w w0 wr : World} {zs : List Int} {g : Nat} {st : Pst} {s : Sho} {vn vh vl : Value} (h : InvR w w0 g zs st s vn vh vl wr) : InvR w w0 g zs st s vn vh vl wr.drew := by
  obtain ⟨h1, h2, h3, h4, h5, h6, h7⟩ := h
  exact ⟨h1, h2, h3, h4, h5, h6, h7.trans (Below.only ((Below.refl _ _).drew) _)⟩
theorem InvR.drewN {w w0 wr : World} {zs : List Int} {g : Nat} {st : Pst} {s : Sho} {vn vh vl : Value} (h : InvR w w0 g zs st s vn vh vl wr) (n : Nat) : InvR w w0 g zs st s vn vh vl (wr.drewN n) := by
  obtain ⟨h1, h2, h3, h4, h5, h6, h7⟩ := h
  exact ⟨h1, h2, h3, h4, h5, h6, h7.trans (Below.only (Nd.below_drewN _ _) _)⟩
theorem listR_stop {α : Type} {f : Pst → α × Pst} {j : Nat} {st : Pst} (h : ((listR f j st).2.2 == 0) = false) : ∀ k, j ≤ k → listR f k st = listR f j st
  | 0, hk => by obtain rfl : j = 0 := by omega
                rfl
  | k + 1, hk => by
    rcases Nat.lt_or_ge k j with g | g
    · obtain rfl : j = k + 1 := by omega
      rfl
    · have ih := listR_stop h k g
      rw [listR, ih, if_neg (by rw [h]; simp)]
theorem begin_rel (zs : List Int) (u : Nat) (hu : u ≤ zs.length) (h : ((beginS (zs.drop u, 0)).2 == 0) = true) : u + 1 ≤ zs.length ∧ (beginS (zs.drop u, 0)).1 = zs.drop (u + 1) := by
  rcases Nat.lt_or_ge u zs.length with g1 | g1
  · rw [List.drop_eq_getElem_cons g1] at h ⊢
    unfold beginS at h ⊢
    simp only [] at h ⊢
    by_cases hx : zs[u] = 83
    · simp only [if_pos hx]
      exact ⟨g1, trivial⟩
    · simp only [if_neg hx] at h
      simp at h
  · rw [List.drop_of_length_le g1] at h
    simp [beginS] at h
theorem at_list {w w0 wr : World} {zs : List Int} {g : Nat} {q : Pst} {i1 t1 : Int} {lk : List Int} {st : Pst} {vx : Value} (he : rh4 q = (lk, st)) (h : InvR w w0 g zs st ⟨i1, t1, lk, ⟨0, 0, [], []⟩⟩ vx (.slice none 0 0) (.slice none 0 0) wr) : InvR w w0 g zs (sh4 q).2 ⟨i1, t1, (rh4 q).1, ⟨0, 0, [], []⟩⟩ vx (.slice none 0 0) (.slice none 0 0) wr := by
  have e1 : (rh4 q).2 = (sh4 q).2 := (listR_eq (pnum_st 65535) _ _).1
  rw [← e1, he]
  exact h
theorem InvR.sz {w w0 wr : World} {g : Nat} {zs : List Int} {st : Pst} {s : Sho} {vn vh vl : Value} (h : InvR w w0 g zs st s vn vh vl wr) : w.heap.size ≤ wr.heap.size := h.2.2.2.2.2.2.2.2.2.1
/-- an append of numbers: what grew -/
theorem appKx {k : IntKind} {P : Program} {t e : TypeId} (ht : P.underlying t = some (.slice e)) {z : Value} {bytes : Nat} (hzs : z.cells.size = 1) (hinfo : (P.info? e).map (fun i => (i.zero, i.size, i.bytes)) = some (some z, 1, bytes))
    {w : World} {ops : Array Oper} {rest : List Oper} {o : Oper} {a : Act} {Q : Exit → Act → World → Prop} (hgd : o.guard = none) (s x : Operand)
    (ho : o.op = .call { callee := .builtin .append, args := #[s, x], argTypes := #[t, t] }) (base : Nat)
    (v : Value) (xs : List Int) (hs : a.eval s = v) (hown : OwnK k e w base v xs) (u : Value) (zs : List Int) (hx : a.eval x = u) (hsl : Sl k w u zs)
    (h63 : xs.length + zs.length ≤ maxLen) (hb : (xs.length + zs.length) * bytes ≤ 140737488355328) (hbase : base ≤ w.heap.size)
    (h : ∀ v' w', OwnK k e w' base v' (xs ++ zs) → w.grownBy w' v.ownBlock → wpList P ops Q rest (a.put o.dst v') w') : wpList P ops Q (o :: rest) a w := by
  obtain ⟨i0, hi, hz0, hz1, hz2⟩ := info_parts hinfo
  refine wp_app hgd s x t ho base e i0 z 1 bytes ht hi hz0 hz1 hz2 hzs (by decide) v xs.length _ hs hown u zs.length (zs.map (Value.int k)) hx hsl.src (by simp) (fun u hu => ?_) h63 hb hbase ?_
  · obtain ⟨n, -, rfl⟩ := List.mem_map.1 hu
    rfl
  · intro v' w' hown' hgrow
    refine h v' w' ?_ hgrow
    unfold OwnK
    rw [List.map_append, List.length_append]
    exact hown'
def ShotRE (w0 : World) (g : Nat) (zs : List Int) (r : Sho × Pst) (w : World) (e : Ending) (w' : World) : Prop := ∃ vn vh vl, e = .returned (.agg (sArr r.1 vn vh vl)) ∧ OwnI w' w.heap.size vn r.1.nodes ∧ OwnR 5 heldC 110 w' w.heap.size vh r.1.led.held ∧ OwnR 6 lastC 114 w' w.heap.size vl r.1.led.last ∧ RdR w0 g zs r.2 w' ∧ Only (· = g) w w'
/-- the row that a round fills: what was before the round stays, but for the reader -/
def RowR (T : TypeId) (wr w0 : World) (g : Nat) (zs : List Int) (st : Pst) (cs : Array Value) (q : Nat) (wx : World) : Prop :=
  wr.heap.size ≤ q ∧ wx.heap[q]? = some (.cells cs T (0, 0)) ∧ RdR w0 g zs st wx ∧ Only (fun b => b = g ∨ wr.heap.size ≤ b) wr wx ∧ Below w0.heap.size w0 wx
theorem RowR.call {T : TypeId} {wr w0 wx w' : World} {g q : Nat} {zs : List Int} {st st' : Pst} {cs : Array Value} (h : RowR T wr w0 g zs st cs q wx) (hg : g < wr.heap.size) (hg0 : w0.heap.size ≤ g) (hr : RdR w0 g zs st' w') (ho : Only (· = g) wx w') : RowR T wr w0 g zs st' cs q w' :=
  ⟨h.1, (ho.2.2.2.2 q (row_lt h.2.1) (by have := h.1; omega)).trans h.2.1, hr, h.2.2.2.1.trans (ho.mono (fun _ e => .inl e)), ho.below h.2.2.2.2 h.2.2.2.2.size (fun k hk => hk ▸ hg0)⟩
theorem RowR.set {T : TypeId} {wr w0 wx : World} {g q : Nat} {zs : List Int} {st : Pst} {cs cs' : Array Value} (h : RowR T wr w0 g zs st cs q wx) (hg : g < wr.heap.size) (hg0 : w0.heap.size ≤ g) (j : Nat) (u : Value) (hcs : (wx.setCell ⟨q, j, none⟩ u).heap[q]? = some (.cells cs' T (0, 0))) : RowR T wr w0 g zs st cs' q (wx.setCell ⟨q, j, none⟩ u) := by
  have hx : Only (· = q) wx (wx.setCell ⟨q, j, none⟩ u) := Only.setCell _ _ _ rfl
  have h1 := h.1
  exact ⟨h1, hcs, h.2.2.1.only hx (by omega), h.2.2.2.1.trans (hx.mono (fun _ e => .inr (by omega))), hx.below h.2.2.2.2 h.2.2.2.2.size (fun k hk => by omega)⟩
theorem InvR.back {T : TypeId} {w w0 wr wx : World} {zs : List Int} {g q : Nat} {st st' : Pst} {s : Sho} {vn vh vl : Value} {cs : Array Value} (h : InvR w w0 g zs st s vn vh vl wr) (hg : g < w.heap.size) (hr : RowR T wr w0 g zs st' cs q wx) : InvR w w0 g zs st' s vn vh vl wx := by
  obtain ⟨h1, h2, h3, h4, h5, h6, h7⟩ := h
  obtain ⟨r1, r2, r3, r4, r5⟩ := hr
  have hb : ∀ k, k < wr.heap.size → k ≠ g → wx.heap[k]? = wr.heap[k]? := fun k hk hn => r4.2.2.2.2 k hk (by omega)
  refine ⟨(hb _ (row_lt h1) (by omega)).trans h1, (hb _ (row_lt h2) (by omega)).trans h2, own_blk h3 (own_ge h3 hg) hb, own_blk h4 (own_ge h4 hg) hb, own_blk h5 (own_ge h5 hg) hb, r3, ?_⟩
  exact ⟨r4.1.trans h7.1, r4.2.1.trans h7.2.1, r4.2.2.1.trans h7.2.2.1, Nat.le_trans h7.2.2.2.1 r4.2.2.2.1, fun k hk hn => (hb k (Nat.lt_of_lt_of_le hk h7.2.2.2.1) hn).trans (h7.2.2.2.2 k hk hn)⟩
theorem appRx {α : Type} {sz : Nat} {C : α → List Value} {P : Program} (hC : ∀ x, (C x).length = sz) {t e : TypeId} (ht : P.underlying t = some (.slice e)) {z : Value} {bytes : Nat} (hzs : z.cells.size = sz) (hsz : 0 < sz) (hinfo : (P.info? e).map (fun i => (i.zero, i.size, i.bytes)) = some (some z, sz, bytes))
    {w : World} {ops : Array Oper} {rest : List Oper} {o : Oper} {a : Act} {Q : Exit → Act → World → Prop} (hgd : o.guard = none) (s x : Operand)
    (ho : o.op = .call { callee := .builtin .append, args := #[s, x], argTypes := #[t, t] }) (base : Nat)
    (v : Value) (xs : List α) (hs : a.eval s = v) (hown : OwnR sz C e w base v xs) (u : Value) (zs : List α) (hx : a.eval x = u) (hsl : SlR sz C w u zs) (h1c : ∀ x ∈ zs, ∀ u ∈ C x, u.oneCell' = true)
    (h63 : xs.length + zs.length ≤ maxLen) (hb : (xs.length + zs.length) * bytes ≤ 140737488355328) (hbase : base ≤ w.heap.size)
    (h : ∀ v' w', OwnR sz C e w' base v' (xs ++ zs) → w.grownBy w' v.ownBlock → wpList P ops Q rest (a.put o.dst v') w') : wpList P ops Q (o :: rest) a w := by
  obtain ⟨i0, hi, hz0, hz1, hz2⟩ := info_parts hinfo
  refine wp_app hgd s x t ho base e i0 z sz bytes ht hi hz0 hz1 hz2 hzs hsz v xs.length _ hs hown u zs.length (zs.flatMap C) hx (hsl.src hC) (flat_len hC zs) (fun u hu => ?_) h63 hb hbase ?_
  · obtain ⟨y, hy1, hy⟩ := List.mem_flatMap.1 hu
    exact h1c y hy1 u hy
  · intro v' w' hown' hgrow
    refine h v' w' ?_ hgrow
    unfold OwnR
    rw [List.flatMap_append, List.length_append]
    exact hown'
set_option maxHeartbeats 8000000 in
theorem rread_any (w0 : World) (g : Nat) (zs : List Int) (u : Nat) (v : Value) (w : World) (h : RB g v u 0 w) (hs : Sl .u8 w0 v zs) (hu : u ≤ zs.length) (hmx : zs.length ≤ 8192) (hb : Below w0.heap.size w0 w) (hg : w0.heap.size ≤ g) :
    Calls Tryz.prog 45 #[.pointer (some ⟨g, 0, none⟩)] w (ShotRE w0 g zs (shotR (zs.drop u, 0)) w) := by
  have hgl : g < w.heap.size := row_lt h
  have hbC := hs.below hb (Nat.le_refl _)
  have hsA : ((w.alloc (.cells zSA 31)).alloc (.cells zSA 31)).heap[w.heap.size + 1]? = some (.cells zSA 31 (0, 0)) := heap_alloc2_new _ _ _
  obtain ⟨W0, hW0⟩ : ∃ q, ((w.alloc (.cells zSA 31)).alloc (.cells zSA 31)).setRow (w.heap.size + 1) zSA = q := ⟨_, rfl⟩
  have hbo : Below w.heap.size w W0 := by rw [← hW0]; exact Ld.below_row (((Below.refl _ _).alloc (Nat.le_refl _) _).alloc (by simp) _) (by omega) _
  have HI : Hid (InvR w w0 g zs (zs.drop u, 0) zS (.slice none 0 0) (.slice none 0 0) (.slice none 0 0) W0) := Lib.hid ⟨by rw [← hW0]; exact setRow_heap _ _ _ _ _ _ hsA, by rw [← hW0]; exact (setRow_other _ _ _ _ (by omega)).trans (heap_alloc2_old _ _ _), OwnK.nil _ _ _ _, OwnR.nil _ _ _, OwnR.nil _ _ _, ⟨v, u, (hbo.block g hgl).trans h, hs, by omega, fun _ => ⟨hu, rfl⟩⟩, Below.only hbo _⟩
  have HRB : Hid (RB g v u 0 W0) := Lib.hid ((hbo.block g hgl).trans h)
  have HBW := Lib.hid hb
  have HG := Lib.hid hg
  have HGL := Lib.hid hgl
  have HSL := Lib.hid hs
  obtain ⟨av, cv, rfl, hlc, hcm, -⟩ := id hs
  unfold maxLen at hcm
  clear h hb hbo hg hgl hs hbC
  go_enter Tryz.func45, Tryz.ntmps45
  have c1 := HRB.out.c1
  have c2 := HRB.out.c2
  have c0 := HRB.out.c0
  go_wp2_with (first | (with_reducible refine wpList_store_row rfl 31 (.tmp 3) (.tmp 10) rfl (w.heap.size + 1) zSA rfl rfl 31 _ hsA (by kernel_rfl) rfl zSA_one ?_; rw [hW0]; clear hW0 hsA) | fail)
  go_quiet (fail)
  rename_i nq
  have HRQ : Hid (RB g (.slice av zs.length cv) u 0 (W0.drewN nq)) := Lib.hid HRB.out
  have HO0 : Hid (Only (· = g) W0 (W0.drewN nq)) := Lib.hid (Below.only (Nd.below_drewN _ _) _)
  clear HRB c0 c1 c2
  obtain ⟨bb, hbb⟩ : ∃ b, decide (zs.length ≤ u) = b := ⟨_, rfl⟩
  rw [hbb]
  have HBB := Lib.hid hbb
  clear hbb
  go_upto_if 27 with fail
  go_cut [3] (fun s3 wx => s3 = .pointer (some ⟨w.heap.size + 1, 0, none⟩) ∧ ∃ e1, RB g (.slice av zs.length cv) u e1 wx ∧ Only (· = g) W0 wx ∧ Hid ((u = zs.length ∧ e1 = 10) ∨ (u < zs.length ∧ e1 = 0)))
  case first =>
    rcases Nat.lt_or_ge u zs.length with g1 | g1
    · obtain rfl : bb = false := HBB.out.symm.trans (decide_eq_false (by omega))
      have G1 := Lib.hid g1
      clear hu g1 hlc hcm hmx
      go_wp2_with fail
      go_meet
      exact ⟨rfl, 0, HRQ.out, HO0.out, Lib.hid (.inr ⟨G1.out, rfl⟩)⟩
    · obtain rfl : bb = true := HBB.out.symm.trans (decide_eq_true (by omega))
      have G1 : Hid (u = zs.length) := Lib.hid (by omega)
      clear hu g1 hlc hcm hmx
      go_wp2_with fail
      refine (fail_any g _ _ _ 10 _ HRQ.out).mono ?_
      rintro E w2 ⟨rfl, q2, q3, q4⟩
      have Q2 := Lib.hid q2
      have Q3 := Lib.hid q3
      clear q2 q3 q4
      go_wp2_with fail
      go_meet
      exact ⟨rfl, 10, Q2.out, HO0.out.trans Q3.out, Lib.hid (.inl ⟨G1.out, rfl⟩)⟩
  case rest =>
    clear HRQ HO0
    obtain ⟨rfl, e1, hrb, ho, hee⟩ := hcut
    have HO1 := Lib.hid ho
    clear ho
    have c0 := hrb.c0
    have c1 := hrb.c1
    have c2 := hrb.c2
    have HRB := Lib.hid hrb
    clear hrb
    go_upto_region 4 with fail
    go_cut [47] (fun s47 wx => ∃ b, s47 = .bool b ∧ RB g (.slice av zs.length cv) u e1 wx ∧ Only (· = g) wc wx ∧ Hid ((u = zs.length ∧ e1 = 10 ∧ b = false) ∨ ∃ x, zs.drop u = x :: zs.drop (u + 1) ∧ u < zs.length ∧ e1 = 0 ∧ b = (x != 83)))
    case first =>
      rcases hee.out with ⟨g1, rfl⟩ | ⟨g1, rfl⟩
      · have G1 := Lib.hid g1
        clear hu g1 hee hlc hcm hmx
        go_quiet (fail)
        go_wp2_with fail
        go_meet
        exact ⟨false, rfl, HRB.out, Below.only (Nd.below_drewN _ _) _, Lib.hid (.inl ⟨G1.out, by trivial, rfl⟩)⟩
      · have G1 := Lib.hid g1
        obtain ⟨x, hx, hxd⟩ : ∃ x, zs.getD u 0 = x ∧ zs.drop u = x :: zs.drop (u + 1) := ⟨_, rfl, by rw [List.drop_eq_getElem_cons g1, List.getD_eq_getElem?_getD, List.getElem?_eq_getElem g1]; rfl⟩
        have HX := Lib.hid hxd
        have hslc := HSL.out.below ((HI.out.2.2.2.2.2.2.trans HO1.out).below HBW.out HBW.out.size (fun q hq => hq ▸ HG.out)) (Nat.le_refl _)
        obtain ⟨a9, c9, e9, -, -, -, h9⟩ := hslc
        simp only [Value.slice.injEq] at e9
        obtain ⟨rfl, -, rfl⟩ := e9
        rcases h9 with ⟨-, -, h9⟩ | ⟨b, off, sp, rfl, h9 | ⟨rfl, hlt, h9⟩⟩
        · rw [h9] at g1; simp at g1
        · rw [h9] at g1; simp at g1
        have hx1 := h9 u g1
        rw [hx] at hx1
        have hlu : (u : Int) < (zs.length : Int) := by omega
        clear hu hee hlc hcm hmx hx g1 hxd h9 hlt HBB
        go_quiet (fail)
        go_wp2_with fail
        go_meet
        exact ⟨_, rfl, HRB.out, Below.only (Nd.below_drewN _ _) _, Lib.hid (.inr ⟨x, HX.out, G1.out, by trivial, rfl⟩)⟩
    case rest =>
      clear HRB c0 c1 c2 hee HBB
      obtain ⟨b, rfl, hrb, ho, hee2⟩ := hcut
      have HO2 := Lib.hid (HO1.out.trans ho)
      have HRB := Lib.hid hrb
      clear hrb ho HO1
      go_upto_if 47 with fail
      go_cut [3] (fun s3 wx => s3 = .pointer (some ⟨w.heap.size + 1, 0, none⟩) ∧ RB g (.slice av zs.length cv) u (beginS (zs.drop u, 0)).2 wx ∧ Only (· = g) W0 wx)
      case first =>
        rcases hee2.out with ⟨g1, rfl, rfl⟩ | ⟨x, hx, g1, rfl, hb⟩
        · have HBG : Hid ((beginS (zs.drop u, 0)).2 = 10) := Lib.hid (by rw [g1, List.drop_length]; rfl)
          clear hee2 hu hlc hcm hmx g1
          go_wp2_with fail
          go_meet
          exact ⟨rfl, by rw [HBG.out]; exact HRB.out, HO2.out⟩
        · cases b with
          | false =>
            have HBG : Hid ((beginS (zs.drop u, 0)).2 = 0) := Lib.hid (by rw [hx]; have e : x = 83 := by simpa using hb.symm
                                                                          unfold beginS; simp only [if_pos e])
            clear hee2 hu hlc hcm hmx g1 hb hx
            go_wp2_with fail
            go_meet
            exact ⟨rfl, by rw [HBG.out]; exact HRB.out, HO2.out⟩
          | true =>
            have HBG : Hid ((beginS (zs.drop u, 0)).2 = 11) := Lib.hid (by rw [hx]; have e : x ≠ 83 := by simpa using hb.symm
                                                                           unfold beginS; simp only [if_neg e])
            clear hee2 hu hlc hcm hmx g1 hb hx
            go_wp2_with fail
            refine (fail_any g _ _ _ 11 _ HRB.out).mono ?_
            rintro E w2 ⟨rfl, q2, q3, q4⟩
            have Q2 := Lib.hid q2
            have Q3 := Lib.hid q3
            clear q2 q3 q4
            go_wp2_with fail
            go_meet
            exact ⟨rfl, by rw [HBG.out]; exact Q2.out, HO2.out.trans Q3.out⟩
      case rest =>
        clear HRB HO2 hee2
        obtain ⟨rfl, hrb, ho⟩ := hcut
        have c1 := hrb.c1
        have f1 := hrb.f 1
        obtain ⟨Wk, hWk⟩ : ∃ q, wc.setCell ⟨g, 1, none⟩ (.int .i64 ((u : Int) + 1)) = q := ⟨_, rfl⟩
        have hrb2 : RB g (.slice av zs.length cv) (u + 1) (beginS (zs.drop u, 0)).2 Wk := by
          rw [← hWk]
          have q := hrb.u (k := u + 1)
          rw [show ((u + 1 : Nat) : Int) = (u : Int) + 1 from rfl] at q
          exact q
        have HIB := Lib.hid (HI.out.call HGL.out ⟨_, u + 1, hrb2, HSL.out, by omega, begin_rel zs u hu⟩ (ho.trans (by rw [← hWk]; exact Only.setCell _ _ _ rfl)))
        have hz1 : (u : Int) ≤ 8192 := by omega
        clear hrb hrb2 ho HI hu hlc hcm
        have HI := HIB
        clear HIB
        go_wp2_with fail
        clear c1 f1 hWk hz1 hmx
        have hcal : Calls Tryz.prog _ _ _ (NumR w0 g zs (sh1 (zs.drop u, 0)) (.int .u64 (sh1 (zs.drop u, 0)).1) _) := rw_any w0 g zs (beginS (zs.drop u, 0)) _ HI.out.2.2.2.2.2.1 (HI.out.2.2.2.2.2.2.below HBW.out HBW.out.size (fun q hq => hq ▸ HG.out))
        refine hcal.mono ?_
        clear hcal
        rintro E ua ⟨rfl, hrk, hok, -⟩
        have HIa := Lib.hid (HI.out.call HGL.out hrk hok)
        clear hrk hok HI
        have ck := (cell_of_row _ _ 0 _ _ _ HIa.out.1).trans rfl
        have fk : ua.frozen? ⟨w.heap.size + 1, 0, none⟩ = false := frozen_of_row _ _ 0 _ _ HIa.out.1
        obtain ⟨Wa, hWa⟩ : ∃ q, ua.setCell ⟨w.heap.size + 1, 0, none⟩ (.int .u64 (sh1 (zs.drop u, 0)).1) = q := ⟨_, rfl⟩
        have HI : Hid (InvR w w0 g zs (sh1 (zs.drop u, 0)).2 ⟨(sh1 (zs.drop u, 0)).1, 0, [], ⟨0, 0, [], []⟩⟩ (.slice none 0 0) (.slice none 0 0) (.slice none 0 0) Wa) := Lib.hid (by rw [← hWa]; exact HIa.out.index HGL.out _)
        go_wp2_with fail
        clear ck fk HIa hWa
        have hcal : Calls Tryz.prog _ _ _ (NumR w0 g zs (sh2 (zs.drop u, 0)) (.int .u64 (sh2 (zs.drop u, 0)).1) _) := rw_any w0 g zs (sh1 (zs.drop u, 0)).2 _ HI.out.2.2.2.2.2.1 (HI.out.2.2.2.2.2.2.below HBW.out HBW.out.size (fun q hq => hq ▸ HG.out))
        refine hcal.mono ?_
        clear hcal
        rintro E u2 ⟨rfl, hrk, hok, -⟩
        have HI2 := Lib.hid (HI.out.call HGL.out hrk hok)
        clear hrk hok HI
        have ck := (cell_of_row _ _ 1 _ _ _ HI2.out.1).trans rfl
        have fk : u2.frozen? ⟨w.heap.size + 1, 1, none⟩ = false := frozen_of_row _ _ 1 _ _ HI2.out.1
        obtain ⟨W2, hW2⟩ : ∃ q, u2.setCell ⟨w.heap.size + 1, 1, none⟩ (.int .u64 (sh2 (zs.drop u, 0)).1) = q := ⟨_, rfl⟩
        have HI : Hid (InvR w w0 g zs (sh2 (zs.drop u, 0)).2 ⟨(sh1 (zs.drop u, 0)).1, (sh2 (zs.drop u, 0)).1, [], ⟨0, 0, [], []⟩⟩ (.slice none 0 0) (.slice none 0 0) (.slice none 0 0) W2) := Lib.hid (by rw [← hW2]; exact HI2.out.term HGL.out _)
        go_wp2_with fail
        clear ck fk HI2 hW2
        have hcal : Calls Tryz.prog _ _ _ (NumR w0 g zs (sh3 (zs.drop u, 0)) (.int .i64 (sh3 (zs.drop u, 0)).1) _) := rs_any w0 g zs 64 (sh2 (zs.drop u, 0)).2 _ HI.out.2.2.2.2.2.1 (HI.out.2.2.2.2.2.2.below HBW.out HBW.out.size (fun q hq => hq ▸ HG.out)) (by decide) (by decide)
        refine hcal.mono ?_
        clear hcal
        rintro E u3 ⟨rfl, hrk, hok, -⟩
        have HI3 := Lib.hid (HI.out.call HGL.out hrk hok)
        clear hrk hok HI
        obtain ⟨K3, hK3⟩ : ∃ K : Nat, (sh3 (zs.drop u, 0)).1 = (K : Int) ∧ (sh3 (zs.drop u, 0)).1.toNat = K := ⟨(sh3 (zs.drop u, 0)).1.toNat, by have := (pnum_bd 64 (by decide) (sh2 (zs.drop u, 0)).2).1; have e : (sh3 (zs.drop u, 0)).1 = (pnum 64 (sh2 (zs.drop u, 0)).2).1 := rfl; omega, rfl⟩
        have hle3 : K3 ≤ 64 := by have := (pnum_bd 64 (by decide) (sh2 (zs.drop u, 0)).2).2; have e : (sh3 (zs.drop u, 0)).1 = (pnum 64 (sh2 (zs.drop u, 0)).2).1 := rfl; have := hK3.1; omega
        have HK3 := Lib.hid hK3.2
        rw [hK3.1]
        have HI := HI3
        clear hK3 HI3
        go_upto_block 0 with fail
        go_cut [4, 5] (fun s4 s5 wx => ∃ vx, Hid (InvR w w0 g zs (sh4 (zs.drop u, 0)).2 ⟨(sh1 (zs.drop u, 0)).1, (sh2 (zs.drop u, 0)).1, (rh4 (zs.drop u, 0)).1, ⟨0, 0, [], []⟩⟩ vx (.slice none 0 0) (.slice none 0 0) wx))
        case first =>
          have HIK := HI
          clear HI
          go_wp2_with fail
          go_loopw [4] (fun s4 wr => ∃ (j : Nat) (vx : Value), j ≤ K3 ∧ s4 = .int .i64 ((K3 : Int) - (j : Int)) ∧ Hid (InvR w w0 g zs (listR smallS j (sh3 (zs.drop u, 0)).2).2 ⟨(sh1 (zs.drop u, 0)).1, (sh2 (zs.drop u, 0)).1, (listR smallS j (sh3 (zs.drop u, 0)).2).1, ⟨0, 0, [], []⟩⟩ vx (.slice none 0 0) (.slice none 0 0) wr)) (fun s4 _ => (intOf s4).toNat)
          case atStart => exact ⟨0, (.slice none 0 0), Nat.zero_le _, by simp, HIK⟩
          case round =>
            clear HIK
            obtain ⟨j, vx, hj, rfl, HI⟩ := hrel
            rcases hL : listR smallS j (sh3 (zs.drop u, 0)).2 with ⟨lk, stk⟩
            have HLK := Lib.hid hL
            have HLEN : Hid (lk.length ≤ 64) := Lib.hid (by have q := listR_len smallS j (sh3 (zs.drop u, 0)).2; rw [hL] at q; simp only [] at q; omega)
            rw [hL] at HI
            clear hL
            obtain ⟨rk, ek⟩ := stk
            have ce : wr.cell? ⟨g, 2, none⟩ = some (.int .i64 ek) := by obtain ⟨vr, ur, hrb, -⟩ := HI.out.2.2.2.2.2.1; exact hrb.c2
            by_cases hlt : j < K3
            · have hkz : (0 : Int) < (K3 : Int) - (j : Int) := by omega
              cases he : (ek == 0) with
              | true =>
                obtain rfl : ek = 0 := by simpa using he
                clear he
                go_wp2_with fail
                refine (rs_any w0 g zs 65535 (rk, 0) _ HI.out.2.2.2.2.2.1 (HI.out.2.2.2.2.2.2.below HBW.out HBW.out.size (fun q hq => hq ▸ HG.out)) (by decide) (by decide)).mono ?_
                rintro E wk ⟨rfl, hrk, hok, -⟩
                have HIc := Lib.hid (HI.out.call HGL.out hrk hok)
                have WFX : Hid ((Lit.int .i64 (smallS (rk, 0)).1).wf = true) := Lib.hid (by rw [show (smallS (rk, 0)).1 = (pnum 65535 (rk, 0)).1 from rfl]; obtain ⟨h1, h2⟩ := pnum_bd 65535 (by decide) (rk, 0); simp [Lit.wf, IntKind.min, IntKind.max, IntKind.signed, IntKind.bits]; omega)
                have HNX : Hid (listR smallS (j + 1) (sh3 (zs.drop u, 0)).2 = (lk ++ [(smallS (rk, 0)).1], (smallS (rk, 0)).2)) := Lib.hid (by rw [listR, HLK.out]; rfl)
                clear hrk hok HI ce
                have hci := (cell_of_row _ _ 2 _ _ _ HIc.out.1).trans rfl
                have HI2 := Lib.hid (HIc.out.alloc HGL.out (.cells #[.int .i64 (smallS (rk, 0)).1] 3))
                go_wp2_with (at_builtin; refine appKx (k := .i64) (e := 3) Tryz.underlying25 rfl info_int rfl _ _ rfl w.heap.size vx _ rfl HI2.out.2.2.1 _ [(smallS (rk, 0)).1] rfl (Sl.newAt _ _ rfl _ _ rfl rfl (Nat.le_refl _) (by decide) (fun n hn => by simp only [List.mem_cons, List.not_mem_nil, or_false] at hn; subst hn; exact WFX.out)) (by have := HLEN.out; unfold maxLen; simp; omega) (by have := HLEN.out; simp; omega) HI2.out.sz ?_)
                intro v' w' own' hgr
                obtain ⟨ax, mx, qx, rfl⟩ := own_formx own'
                have HXR := Lib.hid (row_grown HI2.out.1 HI2.out.2.2.1 (by decide) hgr)
                have ck := (cell_of_row _ _ 2 _ _ _ HXR.out).trans rfl
                have fk : w'.frozen? ⟨w.heap.size + 1, 2, none⟩ = false := frozen_of_row _ _ 2 _ _ HXR.out
                obtain ⟨WS, hWS⟩ : ∃ q, w'.setCell ⟨w.heap.size + 1, 2, none⟩ (.slice ax mx qx) = q := ⟨_, rfl⟩
                have HI3 := Lib.hid (HI2.out.appn HGL.out own' hgr)
                rw [hWS] at HI3
                clear own' hgr HXR hci HI2 HIc
                go_wp2_with fail
                clear ck fk hWS
                go_roundw
                case rel => exact ⟨j + 1, _, by omega, by go_num, Lib.hid (by rw [HNX.out]; exact HI3.out)⟩
                case measure => simp [intOf]; omega
              | false =>
                have HEQ : Hid (rh4 (zs.drop u, 0) = (lk, (rk, ek))) := Lib.hid (by unfold rh4; rw [HK3.out, listR_stop (j := j) (by rw [HLK.out]; exact he) _ hj, HLK.out])
                go_wp2_with fail
                go_meet
                exact ⟨vx, Lib.hid (at_list HEQ.out HI.out)⟩
            · obtain rfl : j = K3 := by omega
              have HEQ : Hid (rh4 (zs.drop u, 0) = (lk, (rk, ek))) := Lib.hid (by unfold rh4; rw [HK3.out, HLK.out])
              go_wp2_with fail
              go_meet
              exact ⟨vx, Lib.hid (at_list HEQ.out HI.out)⟩
        case rest =>
          clear HI
          obtain ⟨vn, HI⟩ := hcut
          clear HK3 hle3
          go_wp2_with fail
          have hcal : Calls Tryz.prog _ _ _ (NumR w0 g zs (sh5 (zs.drop u, 0)) (.int .i64 (sh5 (zs.drop u, 0)).1) _) := rs_any w0 g zs 65535 (sh4 (zs.drop u, 0)).2 _ HI.out.2.2.2.2.2.1 (HI.out.2.2.2.2.2.2.below HBW.out HBW.out.size (fun q hq => hq ▸ HG.out)) (by decide) (by decide)
          refine hcal.mono ?_
          clear hcal
          rintro E u5 ⟨rfl, hrk, hok, -⟩
          have HI5 := Lib.hid (HI.out.call HGL.out hrk hok)
          clear hrk hok HI
          have ck := (cell_of_row _ _ 3 _ _ _ HI5.out.1).trans rfl
          have fk : u5.frozen? ⟨w.heap.size + 1, 3, none⟩ = false := frozen_of_row _ _ 3 _ _ HI5.out.1
          obtain ⟨W5, hW5⟩ : ∃ q, u5.setCell ⟨w.heap.size + 1, 3, none⟩ (.int .i64 (sh5 (zs.drop u, 0)).1) = q := ⟨_, rfl⟩
          have HI : Hid (InvR w w0 g zs (sh5 (zs.drop u, 0)).2 ⟨(sh1 (zs.drop u, 0)).1, (sh2 (zs.drop u, 0)).1, (rh4 (zs.drop u, 0)).1, ⟨(sh5 (zs.drop u, 0)).1, 0, [], []⟩⟩ vn (.slice none 0 0) (.slice none 0 0) W5) := Lib.hid (by rw [← hW5]; exact HI5.out.limit HGL.out _)
          go_wp2_with fail
          clear ck fk HI5 hW5
          have hcal : Calls Tryz.prog _ _ _ (NumR w0 g zs (sh6 (zs.drop u, 0)) (.int .u64 (sh6 (zs.drop u, 0)).1) _) := rw_any w0 g zs (sh5 (zs.drop u, 0)).2 _ HI.out.2.2.2.2.2.1 (HI.out.2.2.2.2.2.2.below HBW.out HBW.out.size (fun q hq => hq ▸ HG.out))
          refine hcal.mono ?_
          clear hcal
          rintro E u6 ⟨rfl, hrk, hok, -⟩
          have HI6 := Lib.hid (HI.out.call HGL.out hrk hok)
          clear hrk hok HI
          have ck := (cell_of_row _ _ 4 _ _ _ HI6.out.1).trans rfl
          have fk : u6.frozen? ⟨w.heap.size + 1, 4, none⟩ = false := frozen_of_row _ _ 4 _ _ HI6.out.1
          obtain ⟨W6, hW6⟩ : ∃ q, u6.setCell ⟨w.heap.size + 1, 4, none⟩ (.int .u64 (sh6 (zs.drop u, 0)).1) = q := ⟨_, rfl⟩
          have HI : Hid (InvR w w0 g zs (sh6 (zs.drop u, 0)).2 ⟨(sh1 (zs.drop u, 0)).1, (sh2 (zs.drop u, 0)).1, (rh4 (zs.drop u, 0)).1, ⟨(sh5 (zs.drop u, 0)).1, (sh6 (zs.drop u, 0)).1, [], []⟩⟩ vn (.slice none 0 0) (.slice none 0 0) W6) := Lib.hid (by rw [← hW6]; exact HI6.out.next HGL.out _)
          go_wp2_with fail
          clear ck fk HI6 hW6
          have hcal : Calls Tryz.prog _ _ _ (NumR w0 g zs (sh7 (zs.drop u, 0)) (.int .i64 (sh7 (zs.drop u, 0)).1) _) := rs_any w0 g zs 64 (sh6 (zs.drop u, 0)).2 _ HI.out.2.2.2.2.2.1 (HI.out.2.2.2.2.2.2.below HBW.out HBW.out.size (fun q hq => hq ▸ HG.out)) (by decide) (by decide)
          refine hcal.mono ?_
          clear hcal
          rintro E u7 ⟨rfl, hrk, hok, -⟩
          have HI7 := Lib.hid (HI.out.call HGL.out hrk hok)
          clear hrk hok HI
          obtain ⟨K7, hK7⟩ : ∃ K : Nat, (sh7 (zs.drop u, 0)).1 = (K : Int) ∧ (sh7 (zs.drop u, 0)).1.toNat = K := ⟨(sh7 (zs.drop u, 0)).1.toNat, by have := (pnum_bd 64 (by decide) (sh6 (zs.drop u, 0)).2).1; have e : (sh7 (zs.drop u, 0)).1 = (pnum 64 (sh6 (zs.drop u, 0)).2).1 := rfl; omega, rfl⟩
          have hle7 : K7 ≤ 64 := by have := (pnum_bd 64 (by decide) (sh6 (zs.drop u, 0)).2).2; have e : (sh7 (zs.drop u, 0)).1 = (pnum 64 (sh6 (zs.drop u, 0)).2).1 := rfl; have := hK7.1; omega
          have HK7 := Lib.hid hK7.2
          rw [hK7.1]
          have HI := HI7
          clear hK7 HI7
          go_upto_block 2 with fail
          go_cut [6, 7] (fun s4 s5 wx => ∃ vx, Hid (InvR w w0 g zs (sh8 (zs.drop u, 0)).2 ⟨(sh1 (zs.drop u, 0)).1, (sh2 (zs.drop u, 0)).1, (rh4 (zs.drop u, 0)).1, ⟨(sh5 (zs.drop u, 0)).1, (sh6 (zs.drop u, 0)).1, (rh8 (zs.drop u, 0)).1, []⟩⟩ vn vx (.slice none 0 0) wx))
          case first =>
            have HIK := HI
            clear HI
            go_wp2_with fail
            go_loopw [6] (fun s4 wr => ∃ (j : Nat) (vx : Value), j ≤ K7 ∧ s4 = .int .i64 ((K7 : Int) - (j : Int)) ∧ Hid (InvR w w0 g zs (listR heldS j (sh7 (zs.drop u, 0)).2).2 ⟨(sh1 (zs.drop u, 0)).1, (sh2 (zs.drop u, 0)).1, (rh4 (zs.drop u, 0)).1, ⟨(sh5 (zs.drop u, 0)).1, (sh6 (zs.drop u, 0)).1, (listR heldS j (sh7 (zs.drop u, 0)).2).1, []⟩⟩ vn vx (.slice none 0 0) wr)) (fun s4 _ => (intOf s4).toNat)
            case atStart => exact ⟨0, (.slice none 0 0), Nat.zero_le _, by simp, HIK⟩
            case round =>
              clear HIK
              obtain ⟨j, vx, hj, rfl, HI⟩ := hrel
              rcases hL : listR heldS j (sh7 (zs.drop u, 0)).2 with ⟨lk, stk⟩
              have HLK := Lib.hid hL
              have HLEN : Hid (lk.length ≤ 64) := Lib.hid (by have q := listR_len heldS j (sh7 (zs.drop u, 0)).2; rw [hL] at q; simp only [] at q; omega)
              rw [hL] at HI
              clear hL
              obtain ⟨rk, ek⟩ := stk
              have ce : wr.cell? ⟨g, 2, none⟩ = some (.int .i64 ek) := by obtain ⟨vr, ur, hrb, -⟩ := HI.out.2.2.2.2.2.1; exact hrb.c2
              by_cases hlt : j < K7
              · have hkz : (0 : Int) < (K7 : Int) - (j : Int) := by omega
                cases he : (ek == 0) with
                | true =>
                  obtain rfl : ek = 0 := by simpa using he
                  clear he
                  rcases hp0 : smallS (rk, 0) with ⟨n0, t0⟩
                  rcases hp1 : smallS t0 with ⟨n1, t1⟩
                  rcases hp2 : wideS t1 with ⟨n2, t2⟩
                  rcases hp3 : wideS t2 with ⟨n3, t3⟩
                  rcases hp4 : wideS t3 with ⟨n4, t4⟩
                  have hsp : heldS (rk, 0) = (⟨n0, n1, n2, n3, n4⟩, t4) := by
                    unfold heldS
                    simp only [hp0, hp1, hp2, hp3, hp4]
                  have HNX : Hid (listR heldS (j + 1) (sh7 (zs.drop u, 0)).2 = (lk ++ [⟨n0, n1, n2, n3, n4⟩], t4)) := Lib.hid (by rw [listR, HLK.out]; simp [hsp])
                  have HP0 := Lib.hid hp0
                  have HP1 := Lib.hid hp1
                  have HP2 := Lib.hid hp2
                  have HP3 := Lib.hid hp3
                  have HP4 := Lib.hid hp4
                  have hsX : (wr.alloc (.cells #[.int .i64 0, .int .i64 0, .int .u64 0, .int .u64 0, .int .u64 0] 110)).heap[wr.heap.size]? = some (.cells #[.int .i64 0, .int .i64 0, .int .u64 0, .int .u64 0, .int .u64 0] 110 (0, 0)) := heap_alloc_new _ _
                  have hbx : Below wr.heap.size wr (wr.alloc (.cells #[.int .i64 0, .int .i64 0, .int .u64 0, .int .u64 0, .int .u64 0] 110)) := (Below.refl _ _).alloc (Nat.le_refl _) _
                  have hgr : g < wr.heap.size := HI.out.2.2.2.2.2.1.lt
                  have HGR := Lib.hid hgr
                  have hb0 := (HI.out.2.2.2.2.2.2.below HBW.out HBW.out.size (fun q hq => hq ▸ HG.out))
                  have HR : Hid (RowR 110 wr w0 g zs (rk, 0) #[.int .i64 0, .int .i64 0, .int .u64 0, .int .u64 0, .int .u64 0] wr.heap.size (wr.alloc (.cells #[.int .i64 0, .int .i64 0, .int .u64 0, .int .u64 0, .int .u64 0] 110))) := Lib.hid ⟨Nat.le_refl _, hsX, HI.out.2.2.2.2.2.1.block (hbx.block g hgr), Below.only hbx _, hb0.trans (hbx.mono hb0.size)⟩
                  clear hp0 hp1 hp2 hp3 hp4 hsp hbx hgr hb0 hsX
                  go_wp2_with fail
                  clear ce
                  have hn : Calls Tryz.prog _ _ _ (NumR w0 g zs (smallS (rk, 0)) (.int .i64 (smallS (rk, 0)).1) _) := rs_any w0 g zs 65535 (rk, 0) _ HR.out.2.2.1 HR.out.2.2.2.2 (by decide) (by decide)
                  rw [HP0.out] at hn
                  refine hn.mono ?_
                  clear hn
                  rintro E y0 ⟨rfl, hrk, hok, -⟩
                  have HR0 := Lib.hid (HR.out.call HGR.out HG.out hrk hok)
                  clear hrk hok HR
                  have ck : y0.cell? ⟨wr.heap.size, 0, none⟩ = some (.int .i64 0) := (cell_of_row _ _ 0 _ _ _ HR0.out.2.1).trans rfl
                  have fk : y0.frozen? ⟨wr.heap.size, 0, none⟩ = false := frozen_of_row _ _ 0 _ _ HR0.out.2.1
                  obtain ⟨Y0, hY0⟩ : ∃ q, y0.setCell ⟨wr.heap.size, 0, none⟩ (.int .i64 n0) = q := ⟨_, rfl⟩
                  have HR : Hid (RowR 110 wr w0 g zs t0 #[.int .i64 n0, .int .i64 0, .int .u64 0, .int .u64 0, .int .u64 0] wr.heap.size Y0) := Lib.hid (by rw [← hY0]; exact HR0.out.set HGR.out HG.out 0 _ (by rw [heap_setCell_same _ _ 0 _ _ _ HR0.out.2.1]; rfl))
                  clear HR0
                  go_wp2_with fail
                  clear ck fk hY0
                  have hn : Calls Tryz.prog _ _ _ (NumR w0 g zs (smallS t0) (.int .i64 (smallS t0).1) _) := rs_any w0 g zs 65535 t0 _ HR.out.2.2.1 HR.out.2.2.2.2 (by decide) (by decide)
                  rw [HP1.out] at hn
                  refine hn.mono ?_
                  clear hn
                  rintro E y1 ⟨rfl, hrk, hok, -⟩
                  have HR1 := Lib.hid (HR.out.call HGR.out HG.out hrk hok)
                  clear hrk hok HR
                  have ck : y1.cell? ⟨wr.heap.size, 1, none⟩ = some (.int .i64 0) := (cell_of_row _ _ 1 _ _ _ HR1.out.2.1).trans rfl
                  have fk : y1.frozen? ⟨wr.heap.size, 1, none⟩ = false := frozen_of_row _ _ 1 _ _ HR1.out.2.1
                  obtain ⟨Y1, hY1⟩ : ∃ q, y1.setCell ⟨wr.heap.size, 1, none⟩ (.int .i64 n1) = q := ⟨_, rfl⟩
                  have HR : Hid (RowR 110 wr w0 g zs t1 #[.int .i64 n0, .int .i64 n1, .int .u64 0, .int .u64 0, .int .u64 0] wr.heap.size Y1) := Lib.hid (by rw [← hY1]; exact HR1.out.set HGR.out HG.out 1 _ (by rw [heap_setCell_same _ _ 1 _ _ _ HR1.out.2.1]; rfl))
                  clear HR1
                  go_wp2_with fail
                  clear ck fk hY1
                  have hn : Calls Tryz.prog _ _ _ (NumR w0 g zs (wideS t1) (.int .u64 (wideS t1).1) _) := rw_any w0 g zs t1 _ HR.out.2.2.1 HR.out.2.2.2.2
                  rw [HP2.out] at hn
                  refine hn.mono ?_
                  clear hn
                  rintro E y2 ⟨rfl, hrk, hok, -⟩
                  have HR2 := Lib.hid (HR.out.call HGR.out HG.out hrk hok)
                  clear hrk hok HR
                  have ck : y2.cell? ⟨wr.heap.size, 2, none⟩ = some (.int .u64 0) := (cell_of_row _ _ 2 _ _ _ HR2.out.2.1).trans rfl
                  have fk : y2.frozen? ⟨wr.heap.size, 2, none⟩ = false := frozen_of_row _ _ 2 _ _ HR2.out.2.1
                  obtain ⟨Y2, hY2⟩ : ∃ q, y2.setCell ⟨wr.heap.size, 2, none⟩ (.int .u64 n2) = q := ⟨_, rfl⟩
                  have HR : Hid (RowR 110 wr w0 g zs t2 #[.int .i64 n0, .int .i64 n1, .int .u64 n2, .int .u64 0, .int .u64 0] wr.heap.size Y2) := Lib.hid (by rw [← hY2]; exact HR2.out.set HGR.out HG.out 2 _ (by rw [heap_setCell_same _ _ 2 _ _ _ HR2.out.2.1]; rfl))
                  clear HR2
                  go_wp2_with fail
                  clear ck fk hY2
                  have hn : Calls Tryz.prog _ _ _ (NumR w0 g zs (wideS t2) (.int .u64 (wideS t2).1) _) := rw_any w0 g zs t2 _ HR.out.2.2.1 HR.out.2.2.2.2
                  rw [HP3.out] at hn
                  refine hn.mono ?_
                  clear hn
                  rintro E y3 ⟨rfl, hrk, hok, -⟩
                  have HR3 := Lib.hid (HR.out.call HGR.out HG.out hrk hok)
                  clear hrk hok HR
                  have ck : y3.cell? ⟨wr.heap.size, 3, none⟩ = some (.int .u64 0) := (cell_of_row _ _ 3 _ _ _ HR3.out.2.1).trans rfl
                  have fk : y3.frozen? ⟨wr.heap.size, 3, none⟩ = false := frozen_of_row _ _ 3 _ _ HR3.out.2.1
                  obtain ⟨Y3, hY3⟩ : ∃ q, y3.setCell ⟨wr.heap.size, 3, none⟩ (.int .u64 n3) = q := ⟨_, rfl⟩
                  have HR : Hid (RowR 110 wr w0 g zs t3 #[.int .i64 n0, .int .i64 n1, .int .u64 n2, .int .u64 n3, .int .u64 0] wr.heap.size Y3) := Lib.hid (by rw [← hY3]; exact HR3.out.set HGR.out HG.out 3 _ (by rw [heap_setCell_same _ _ 3 _ _ _ HR3.out.2.1]; rfl))
                  clear HR3
                  go_wp2_with fail
                  clear ck fk hY3
                  have hn : Calls Tryz.prog _ _ _ (NumR w0 g zs (wideS t3) (.int .u64 (wideS t3).1) _) := rw_any w0 g zs t3 _ HR.out.2.2.1 HR.out.2.2.2.2
                  rw [HP4.out] at hn
                  refine hn.mono ?_
                  clear hn
                  rintro E y4 ⟨rfl, hrk, hok, -⟩
                  have HR4 := Lib.hid (HR.out.call HGR.out HG.out hrk hok)
                  clear hrk hok HR
                  have ck : y4.cell? ⟨wr.heap.size, 4, none⟩ = some (.int .u64 0) := (cell_of_row _ _ 4 _ _ _ HR4.out.2.1).trans rfl
                  have fk : y4.frozen? ⟨wr.heap.size, 4, none⟩ = false := frozen_of_row _ _ 4 _ _ HR4.out.2.1
                  obtain ⟨Y4, hY4⟩ : ∃ q, y4.setCell ⟨wr.heap.size, 4, none⟩ (.int .u64 n4) = q := ⟨_, rfl⟩
                  have HR : Hid (RowR 110 wr w0 g zs t4 #[.int .i64 n0, .int .i64 n1, .int .u64 n2, .int .u64 n3, .int .u64 n4] wr.heap.size Y4) := Lib.hid (by rw [← hY4]; exact HR4.out.set HGR.out HG.out 4 _ (by rw [heap_setCell_same _ _ 4 _ _ _ HR4.out.2.1]; rfl))
                  clear HR4
                  go_upto_region 25 with fail
                  clear ck fk hY4
                  have HB := Lib.hid (HI.out.back HGL.out HR.out)
                  have hci := (cell_of_row _ _ 5 _ _ _ HB.out.1).trans rfl
                  have HB2 := Lib.hid (HB.out.alloc HGL.out (.cells #[.int .i64 n0, .int .i64 n1, .int .u64 n2, .int .u64 n3, .int .u64 n4] 110))
                  go_wp2_with (first
                    | (with_reducible refine wpList_load_row rfl 110 (.tmp 7) rfl wr.heap.size rfl 110 #[.int .i64 n0, .int .i64 n1, .int .u64 n2, .int .u64 n3, .int .u64 n4] (0, 0) _ HR.out.2.1 Tryz.underlying110 rfl (by kernel_rfl) ?_)
                    | (refine wpList_load_rowG rfl 110 (.tmp 7) rfl wr.heap.size rfl 110 #[.int .i64 n0, .int .i64 n1, .int .u64 n2, .int .u64 n3, .int .u64 n4] (0, 0) _ HR.out.2.1 Tryz.underlying110 rfl (by kernel_rfl) ?_)
                    | (at_builtin; refine appRx heldC_len Tryz.underlying26 rfl (by decide) info_held rfl _ _ rfl w.heap.size vx _ rfl HB2.out.2.2.2.1 _ [(⟨n0, n1, n2, n3, n4⟩ : Held)] rfl (SlR.one heldC_len _ _ rfl _ _ rfl) (fun y hy u hu => heldC_one y u hu) (by have := HLEN.out; unfold maxLen; simp; omega) (by have := HLEN.out; simp; omega) HB2.out.sz ?_))
                  intro v' w' own' hgr
                  obtain ⟨ax, mx, qx, rfl⟩ := own_formx own'
                  have HXR := Lib.hid (row_grown HB2.out.1 HB2.out.2.2.2.1 (by decide) hgr)
                  have ck := (cell_of_row _ _ 5 _ _ _ HXR.out).trans rfl
                  have fk : w'.frozen? ⟨w.heap.size + 1, 5, none⟩ = false := frozen_of_row _ _ 5 _ _ HXR.out
                  obtain ⟨WS, hWS⟩ : ∃ q, w'.setCell ⟨w.heap.size + 1, 5, none⟩ (.slice ax mx qx) = q := ⟨_, rfl⟩
                  have HI3 := Lib.hid (HB2.out.apph HGL.out own' hgr)
                  rw [hWS] at HI3
                  clear own' hgr HXR hci HB2 HB HR HI
                  go_wp2_with fail
                  clear ck fk hWS
                  go_roundw
                  case rel => exact ⟨j + 1, _, by omega, by go_num, Lib.hid (by rw [HNX.out]; exact HI3.out)⟩
                  case measure => simp [intOf]; omega
                | false =>
                  have HEQ : Hid (rh8 (zs.drop u, 0) = (lk, (rk, ek))) := Lib.hid (by unfold rh8; rw [HK7.out, listR_stop (j := j) (by rw [HLK.out]; exact he) _ hj, HLK.out])
                  have HEN : Hid ((sh8 (zs.drop u, 0)).2 = (rk, ek)) := Lib.hid ((listR_eq heldS_st _ _).1.symm.trans (congrArg Prod.snd HEQ.out))
                  go_wp2_with fail
                  go_meet
                  exact ⟨vx, Lib.hid (by rw [HEN.out, HEQ.out]; exact HI.out)⟩
              · obtain rfl : j = K7 := by omega
                have HEQ : Hid (rh8 (zs.drop u, 0) = (lk, (rk, ek))) := Lib.hid (by unfold rh8; rw [HK7.out, HLK.out])
                have HEN : Hid ((sh8 (zs.drop u, 0)).2 = (rk, ek)) := Lib.hid ((listR_eq heldS_st _ _).1.symm.trans (congrArg Prod.snd HEQ.out))
                go_wp2_with fail
                go_meet
                exact ⟨vx, Lib.hid (by rw [HEN.out, HEQ.out]; exact HI.out)⟩
          case rest =>
            clear HI
            obtain ⟨vh, HI⟩ := hcut
            clear HK7 hle7
            go_wp2_with fail
            have hcal : Calls Tryz.prog _ _ _ (NumR w0 g zs (sh9 (zs.drop u, 0)) (.int .i64 (sh9 (zs.drop u, 0)).1) _) := rs_any w0 g zs 64 (sh8 (zs.drop u, 0)).2 _ HI.out.2.2.2.2.2.1 (HI.out.2.2.2.2.2.2.below HBW.out HBW.out.size (fun q hq => hq ▸ HG.out)) (by decide) (by decide)
            refine hcal.mono ?_
            clear hcal
            rintro E u9 ⟨rfl, hrk, hok, -⟩
            have HI9 := Lib.hid (HI.out.call HGL.out hrk hok)
            clear hrk hok HI
            obtain ⟨K9, hK9⟩ : ∃ K : Nat, (sh9 (zs.drop u, 0)).1 = (K : Int) ∧ (sh9 (zs.drop u, 0)).1.toNat = K := ⟨(sh9 (zs.drop u, 0)).1.toNat, by have := (pnum_bd 64 (by decide) (sh8 (zs.drop u, 0)).2).1; have e : (sh9 (zs.drop u, 0)).1 = (pnum 64 (sh8 (zs.drop u, 0)).2).1 := rfl; omega, rfl⟩
            have hle9 : K9 ≤ 64 := by have := (pnum_bd 64 (by decide) (sh8 (zs.drop u, 0)).2).2; have e : (sh9 (zs.drop u, 0)).1 = (pnum 64 (sh8 (zs.drop u, 0)).2).1 := rfl; have := hK9.1; omega
            have HK9 := Lib.hid hK9.2
            rw [hK9.1]
            have HI := HI9
            clear hK9 HI9
            go_upto_block 4 with fail
            go_cut [8, 9] (fun s4 s5 wx => ∃ vx, Hid (InvR w w0 g zs (sh10 (zs.drop u, 0)).2 ⟨(sh1 (zs.drop u, 0)).1, (sh2 (zs.drop u, 0)).1, (rh4 (zs.drop u, 0)).1, ⟨(sh5 (zs.drop u, 0)).1, (sh6 (zs.drop u, 0)).1, (rh8 (zs.drop u, 0)).1, (rh10 (zs.drop u, 0)).1⟩⟩ vn vh vx wx))
            case first =>
              have HIK := HI
              clear HI
              go_wp2_with fail
              go_loopw [8] (fun s4 wr => ∃ (j : Nat) (vx : Value), j ≤ K9 ∧ s4 = .int .i64 ((K9 : Int) - (j : Int)) ∧ Hid (InvR w w0 g zs (listR lastS j (sh9 (zs.drop u, 0)).2).2 ⟨(sh1 (zs.drop u, 0)).1, (sh2 (zs.drop u, 0)).1, (rh4 (zs.drop u, 0)).1, ⟨(sh5 (zs.drop u, 0)).1, (sh6 (zs.drop u, 0)).1, (rh8 (zs.drop u, 0)).1, (listR lastS j (sh9 (zs.drop u, 0)).2).1⟩⟩ vn vh vx wr)) (fun s4 _ => (intOf s4).toNat)
              case atStart => exact ⟨0, (.slice none 0 0), Nat.zero_le _, by simp, HIK⟩
              case round =>
                clear HIK
                obtain ⟨j, vx, hj, rfl, HI⟩ := hrel
                rcases hL : listR lastS j (sh9 (zs.drop u, 0)).2 with ⟨lk, stk⟩
                have HLK := Lib.hid hL
                have HLEN : Hid (lk.length ≤ 64) := Lib.hid (by have q := listR_len lastS j (sh9 (zs.drop u, 0)).2; rw [hL] at q; simp only [] at q; omega)
                rw [hL] at HI
                clear hL
                obtain ⟨rk, ek⟩ := stk
                have ce : wr.cell? ⟨g, 2, none⟩ = some (.int .i64 ek) := by obtain ⟨vr, ur, hrb, -⟩ := HI.out.2.2.2.2.2.1; exact hrb.c2
                by_cases hlt : j < K9
                · have hkz : (0 : Int) < (K9 : Int) - (j : Int) := by omega
                  cases he : (ek == 0) with
                  | true =>
                    obtain rfl : ek = 0 := by simpa using he
                    clear he
                    rcases hp0 : smallS (rk, 0) with ⟨n0, t0⟩
                    rcases hp1 : wideS t0 with ⟨n1, t1⟩
                    rcases hp2 : wideS t1 with ⟨n2, t2⟩
                    rcases hp3 : smallS t2 with ⟨n3, t3⟩
                    rcases hp4 : smallS t3 with ⟨n4, t4⟩
                    rcases hp5 : wideS t4 with ⟨n5, t5⟩
                    have hsp : lastS (rk, 0) = (⟨n0, n1, n2, n3, n4, n5⟩, t5) := by
                      unfold lastS
                      simp only [hp0, hp1, hp2, hp3, hp4, hp5]
                    have HNX : Hid (listR lastS (j + 1) (sh9 (zs.drop u, 0)).2 = (lk ++ [⟨n0, n1, n2, n3, n4, n5⟩], t5)) := Lib.hid (by rw [listR, HLK.out]; simp [hsp])
                    have HP0 := Lib.hid hp0
                    have HP1 := Lib.hid hp1
                    have HP2 := Lib.hid hp2
                    have HP3 := Lib.hid hp3
                    have HP4 := Lib.hid hp4
                    have HP5 := Lib.hid hp5
                    have hsX : (wr.alloc (.cells #[.int .i64 0, .int .u64 0, .int .u64 0, .int .i64 0, .int .i64 0, .int .u64 0] 114)).heap[wr.heap.size]? = some (.cells #[.int .i64 0, .int .u64 0, .int .u64 0, .int .i64 0, .int .i64 0, .int .u64 0] 114 (0, 0)) := heap_alloc_new _ _
                    have hbx : Below wr.heap.size wr (wr.alloc (.cells #[.int .i64 0, .int .u64 0, .int .u64 0, .int .i64 0, .int .i64 0, .int .u64 0] 114)) := (Below.refl _ _).alloc (Nat.le_refl _) _
                    have hgr : g < wr.heap.size := HI.out.2.2.2.2.2.1.lt
                    have HGR := Lib.hid hgr
                    have hb0 := (HI.out.2.2.2.2.2.2.below HBW.out HBW.out.size (fun q hq => hq ▸ HG.out))
                    have HR : Hid (RowR 114 wr w0 g zs (rk, 0) #[.int .i64 0, .int .u64 0, .int .u64 0, .int .i64 0, .int .i64 0, .int .u64 0] wr.heap.size (wr.alloc (.cells #[.int .i64 0, .int .u64 0, .int .u64 0, .int .i64 0, .int .i64 0, .int .u64 0] 114))) := Lib.hid ⟨Nat.le_refl _, hsX, HI.out.2.2.2.2.2.1.block (hbx.block g hgr), Below.only hbx _, hb0.trans (hbx.mono hb0.size)⟩
                    clear hp0 hp1 hp2 hp3 hp4 hp5 hsp hbx hgr hb0 hsX
                    go_wp2_with fail
                    clear ce
                    have hn : Calls Tryz.prog _ _ _ (NumR w0 g zs (smallS (rk, 0)) (.int .i64 (smallS (rk, 0)).1) _) := rs_any w0 g zs 65535 (rk, 0) _ HR.out.2.2.1 HR.out.2.2.2.2 (by decide) (by decide)
                    rw [HP0.out] at hn
                    refine hn.mono ?_
                    clear hn
                    rintro E y0 ⟨rfl, hrk, hok, -⟩
                    have HR0 := Lib.hid (HR.out.call HGR.out HG.out hrk hok)
                    clear hrk hok HR
                    have ck : y0.cell? ⟨wr.heap.size, 0, none⟩ = some (.int .i64 0) := (cell_of_row _ _ 0 _ _ _ HR0.out.2.1).trans rfl
                    have fk : y0.frozen? ⟨wr.heap.size, 0, none⟩ = false := frozen_of_row _ _ 0 _ _ HR0.out.2.1
                    obtain ⟨Y0, hY0⟩ : ∃ q, y0.setCell ⟨wr.heap.size, 0, none⟩ (.int .i64 n0) = q := ⟨_, rfl⟩
                    have HR : Hid (RowR 114 wr w0 g zs t0 #[.int .i64 n0, .int .u64 0, .int .u64 0, .int .i64 0, .int .i64 0, .int .u64 0] wr.heap.size Y0) := Lib.hid (by rw [← hY0]; exact HR0.out.set HGR.out HG.out 0 _ (by rw [heap_setCell_same _ _ 0 _ _ _ HR0.out.2.1]; rfl))
                    clear HR0
                    go_wp2_with fail
                    clear ck fk hY0
                    have hn : Calls Tryz.prog _ _ _ (NumR w0 g zs (wideS t0) (.int .u64 (wideS t0).1) _) := rw_any w0 g zs t0 _ HR.out.2.2.1 HR.out.2.2.2.2
                    rw [HP1.out] at hn
                    refine hn.mono ?_
                    clear hn
                    rintro E y1 ⟨rfl, hrk, hok, -⟩
                    have HR1 := Lib.hid (HR.out.call HGR.out HG.out hrk hok)
                    clear hrk hok HR
                    have ck : y1.cell? ⟨wr.heap.size, 1, none⟩ = some (.int .u64 0) := (cell_of_row _ _ 1 _ _ _ HR1.out.2.1).trans rfl
                    have fk : y1.frozen? ⟨wr.heap.size, 1, none⟩ = false := frozen_of_row _ _ 1 _ _ HR1.out.2.1
                    obtain ⟨Y1, hY1⟩ : ∃ q, y1.setCell ⟨wr.heap.size, 1, none⟩ (.int .u64 n1) = q := ⟨_, rfl⟩
                    have HR : Hid (RowR 114 wr w0 g zs t1 #[.int .i64 n0, .int .u64 n1, .int .u64 0, .int .i64 0, .int .i64 0, .int .u64 0] wr.heap.size Y1) := Lib.hid (by rw [← hY1]; exact HR1.out.set HGR.out HG.out 1 _ (by rw [heap_setCell_same _ _ 1 _ _ _ HR1.out.2.1]; rfl))
                    clear HR1
                    go_wp2_with fail
                    clear ck fk hY1
                    have hn : Calls Tryz.prog _ _ _ (NumR w0 g zs (wideS t1) (.int .u64 (wideS t1).1) _) := rw_any w0 g zs t1 _ HR.out.2.2.1 HR.out.2.2.2.2
                    rw [HP2.out] at hn
                    refine hn.mono ?_
                    clear hn
                    rintro E y2 ⟨rfl, hrk, hok, -⟩
                    have HR2 := Lib.hid (HR.out.call HGR.out HG.out hrk hok)
                    clear hrk hok HR
                    have ck : y2.cell? ⟨wr.heap.size, 2, none⟩ = some (.int .u64 0) := (cell_of_row _ _ 2 _ _ _ HR2.out.2.1).trans rfl
                    have fk : y2.frozen? ⟨wr.heap.size, 2, none⟩ = false := frozen_of_row _ _ 2 _ _ HR2.out.2.1
                    obtain ⟨Y2, hY2⟩ : ∃ q, y2.setCell ⟨wr.heap.size, 2, none⟩ (.int .u64 n2) = q := ⟨_, rfl⟩
                    have HR : Hid (RowR 114 wr w0 g zs t2 #[.int .i64 n0, .int .u64 n1, .int .u64 n2, .int .i64 0, .int .i64 0, .int .u64 0] wr.heap.size Y2) := Lib.hid (by rw [← hY2]; exact HR2.out.set HGR.out HG.out 2 _ (by rw [heap_setCell_same _ _ 2 _ _ _ HR2.out.2.1]; rfl))
                    clear HR2
                    go_wp2_with fail
                    clear ck fk hY2
                    have hn : Calls Tryz.prog _ _ _ (NumR w0 g zs (smallS t2) (.int .i64 (smallS t2).1) _) := rs_any w0 g zs 65535 t2 _ HR.out.2.2.1 HR.out.2.2.2.2 (by decide) (by decide)
                    rw [HP3.out] at hn
                    refine hn.mono ?_
                    clear hn
                    rintro E y3 ⟨rfl, hrk, hok, -⟩
                    have HR3 := Lib.hid (HR.out.call HGR.out HG.out hrk hok)
                    clear hrk hok HR
                    have ck : y3.cell? ⟨wr.heap.size, 3, none⟩ = some (.int .i64 0) := (cell_of_row _ _ 3 _ _ _ HR3.out.2.1).trans rfl
                    have fk : y3.frozen? ⟨wr.heap.size, 3, none⟩ = false := frozen_of_row _ _ 3 _ _ HR3.out.2.1
                    obtain ⟨Y3, hY3⟩ : ∃ q, y3.setCell ⟨wr.heap.size, 3, none⟩ (.int .i64 n3) = q := ⟨_, rfl⟩
                    have HR : Hid (RowR 114 wr w0 g zs t3 #[.int .i64 n0, .int .u64 n1, .int .u64 n2, .int .i64 n3, .int .i64 0, .int .u64 0] wr.heap.size Y3) := Lib.hid (by rw [← hY3]; exact HR3.out.set HGR.out HG.out 3 _ (by rw [heap_setCell_same _ _ 3 _ _ _ HR3.out.2.1]; rfl))
                    clear HR3
                    go_wp2_with fail
                    clear ck fk hY3
                    have hn : Calls Tryz.prog _ _ _ (NumR w0 g zs (smallS t3) (.int .i64 (smallS t3).1) _) := rs_any w0 g zs 65535 t3 _ HR.out.2.2.1 HR.out.2.2.2.2 (by decide) (by decide)
                    rw [HP4.out] at hn
                    refine hn.mono ?_
                    clear hn
                    rintro E y4 ⟨rfl, hrk, hok, -⟩
                    have HR4 := Lib.hid (HR.out.call HGR.out HG.out hrk hok)
                    clear hrk hok HR
                    have ck : y4.cell? ⟨wr.heap.size, 4, none⟩ = some (.int .i64 0) := (cell_of_row _ _ 4 _ _ _ HR4.out.2.1).trans rfl
                    have fk : y4.frozen? ⟨wr.heap.size, 4, none⟩ = false := frozen_of_row _ _ 4 _ _ HR4.out.2.1
                    obtain ⟨Y4, hY4⟩ : ∃ q, y4.setCell ⟨wr.heap.size, 4, none⟩ (.int .i64 n4) = q := ⟨_, rfl⟩
                    have HR : Hid (RowR 114 wr w0 g zs t4 #[.int .i64 n0, .int .u64 n1, .int .u64 n2, .int .i64 n3, .int .i64 n4, .int .u64 0] wr.heap.size Y4) := Lib.hid (by rw [← hY4]; exact HR4.out.set HGR.out HG.out 4 _ (by rw [heap_setCell_same _ _ 4 _ _ _ HR4.out.2.1]; rfl))
                    clear HR4
                    go_wp2_with fail
                    clear ck fk hY4
                    have hn : Calls Tryz.prog _ _ _ (NumR w0 g zs (wideS t4) (.int .u64 (wideS t4).1) _) := rw_any w0 g zs t4 _ HR.out.2.2.1 HR.out.2.2.2.2
                    rw [HP5.out] at hn
                    refine hn.mono ?_
                    clear hn
                    rintro E y5 ⟨rfl, hrk, hok, -⟩
                    have HR5 := Lib.hid (HR.out.call HGR.out HG.out hrk hok)
                    clear hrk hok HR
                    have ck : y5.cell? ⟨wr.heap.size, 5, none⟩ = some (.int .u64 0) := (cell_of_row _ _ 5 _ _ _ HR5.out.2.1).trans rfl
                    have fk : y5.frozen? ⟨wr.heap.size, 5, none⟩ = false := frozen_of_row _ _ 5 _ _ HR5.out.2.1
                    obtain ⟨Y5, hY5⟩ : ∃ q, y5.setCell ⟨wr.heap.size, 5, none⟩ (.int .u64 n5) = q := ⟨_, rfl⟩
                    have HR : Hid (RowR 114 wr w0 g zs t5 #[.int .i64 n0, .int .u64 n1, .int .u64 n2, .int .i64 n3, .int .i64 n4, .int .u64 n5] wr.heap.size Y5) := Lib.hid (by rw [← hY5]; exact HR5.out.set HGR.out HG.out 5 _ (by rw [heap_setCell_same _ _ 5 _ _ _ HR5.out.2.1]; rfl))
                    clear HR5
                    go_upto_region 36 with fail
                    clear ck fk hY5
                    have HB := Lib.hid (HI.out.back HGL.out HR.out)
                    have hci := (cell_of_row _ _ 6 _ _ _ HB.out.1).trans rfl
                    have HB2 := Lib.hid (HB.out.alloc HGL.out (.cells #[.int .i64 n0, .int .u64 n1, .int .u64 n2, .int .i64 n3, .int .i64 n4, .int .u64 n5] 114))
                    go_wp2_with (first
                      | (with_reducible refine wpList_load_row rfl 114 (.tmp 9) rfl wr.heap.size rfl 114 #[.int .i64 n0, .int .u64 n1, .int .u64 n2, .int .i64 n3, .int .i64 n4, .int .u64 n5] (0, 0) _ HR.out.2.1 Tryz.underlying114 rfl (by kernel_rfl) ?_)
                      | (refine wpList_load_rowG rfl 114 (.tmp 9) rfl wr.heap.size rfl 114 #[.int .i64 n0, .int .u64 n1, .int .u64 n2, .int .i64 n3, .int .i64 n4, .int .u64 n5] (0, 0) _ HR.out.2.1 Tryz.underlying114 rfl (by kernel_rfl) ?_)
                      | (at_builtin; refine appRx lastC_len Tryz.underlying27 rfl (by decide) info_last rfl _ _ rfl w.heap.size vx _ rfl HB2.out.2.2.2.2.1 _ [(⟨n0, n1, n2, n3, n4, n5⟩ : LastR)] rfl (SlR.one lastC_len _ _ rfl _ _ rfl) (fun y hy u hu => lastC_one y u hu) (by have := HLEN.out; unfold maxLen; simp; omega) (by have := HLEN.out; simp; omega) HB2.out.sz ?_))
                    intro v' w' own' hgr
                    obtain ⟨ax, mx, qx, rfl⟩ := own_formx own'
                    have HXR := Lib.hid (row_grown HB2.out.1 HB2.out.2.2.2.2.1 (by decide) hgr)
                    have ck := (cell_of_row _ _ 6 _ _ _ HXR.out).trans rfl
                    have fk : w'.frozen? ⟨w.heap.size + 1, 6, none⟩ = false := frozen_of_row _ _ 6 _ _ HXR.out
                    obtain ⟨WS, hWS⟩ : ∃ q, w'.setCell ⟨w.heap.size + 1, 6, none⟩ (.slice ax mx qx) = q := ⟨_, rfl⟩
                    have HI3 := Lib.hid (HB2.out.appl HGL.out own' hgr)
                    rw [hWS] at HI3
                    clear own' hgr HXR hci HB2 HB HR HI
                    go_wp2_with fail
                    clear ck fk hWS
                    go_roundw
                    case rel => exact ⟨j + 1, _, by omega, by go_num, Lib.hid (by rw [HNX.out]; exact HI3.out)⟩
                    case measure => simp [intOf]; omega
                  | false =>
                    have HEQ : Hid (rh10 (zs.drop u, 0) = (lk, (rk, ek))) := Lib.hid (by unfold rh10; rw [HK9.out, listR_stop (j := j) (by rw [HLK.out]; exact he) _ hj, HLK.out])
                    have HEN : Hid ((sh10 (zs.drop u, 0)).2 = (rk, ek)) := Lib.hid ((listR_eq lastS_st _ _).1.symm.trans (congrArg Prod.snd HEQ.out))
                    go_wp2_with fail
                    go_meet
                    exact ⟨vx, Lib.hid (by rw [HEN.out, HEQ.out]; exact HI.out)⟩
                · obtain rfl : j = K9 := by omega
                  have HEQ : Hid (rh10 (zs.drop u, 0) = (lk, (rk, ek))) := Lib.hid (by unfold rh10; rw [HK9.out, HLK.out])
                  have HEN : Hid ((sh10 (zs.drop u, 0)).2 = (rk, ek)) := Lib.hid ((listR_eq lastS_st _ _).1.symm.trans (congrArg Prod.snd HEQ.out))
                  go_wp2_with fail
                  go_meet
                  exact ⟨vx, Lib.hid (by rw [HEN.out, HEQ.out]; exact HI.out)⟩
            case rest =>
              clear HI
              obtain ⟨vl, HI⟩ := hcut
              clear HK9 hle9
              have HIE : Hid (InvR w w0 g zs (shotR (zs.drop u, 0)).2 (shotR (zs.drop u, 0)).1 vn vh vl wc) := Lib.hid (by
                have q := HI.out
                rw [show (sh10 (zs.drop u, 0)).2 = (shotR (zs.drop u, 0)).2 from (listR_eq lastS_st _ _).1.symm] at q
                exact q)
              obtain ⟨a1, m1, q1, rfl⟩ := own_formx HIE.out.2.2.1
              obtain ⟨a2, m2, q2, rfl⟩ := own_formx HIE.out.2.2.2.1
              obtain ⟨a3, m3, q3, rfl⟩ := own_formx HIE.out.2.2.2.2.1
              clear HI
              obtain ⟨S, hS⟩ : ∃ q, (shotR (zs.drop u, 0)).1 = q := ⟨_, rfl⟩
              obtain ⟨stE, hstE⟩ : ∃ q, (shotR (zs.drop u, 0)).2 = q := ⟨_, rfl⟩
              rw [hS, hstE] at HIE
              have HSS := Lib.hid hS
              have HSE := Lib.hid hstE
              clear hS hstE
              have hone : (sArr S (.slice a1 m1 q1) (.slice a2 m2 q2) (.slice a3 m3 q3)).all (·.oneCell') = true := by simp [Value.oneCell']
              obtain ⟨WZ, hWZ⟩ : ∃ q, wc.setRow w.heap.size (sArr S (.slice a1 m1 q1) (.slice a2 m2 q2) (.slice a3 m3 q3)) = q := ⟨_, rfl⟩
              have HQZ : Hid (WZ.heap[w.heap.size]? = some (.cells (sArr S (.slice a1 m1 q1) (.slice a2 m2 q2) (.slice a3 m3 q3)) 31 (0, 0))) := Lib.hid (by rw [← hWZ]; exact setRow_heap _ _ _ _ _ _ HIE.out.2.1)
              have HZ : Hid (OwnI WZ w.heap.size (.slice a1 m1 q1) S.nodes ∧ OwnR 5 heldC 110 WZ w.heap.size (.slice a2 m2 q2) S.led.held ∧ OwnR 6 lastC 114 WZ w.heap.size (.slice a3 m3 q3) S.led.last ∧ RdR w0 g zs stE WZ ∧ Only (· = g) w WZ) := Lib.hid (by
                have hx : Only (· = w.heap.size) wc WZ := by rw [← hWZ]; exact only_row _ _ _
                have hb : ∀ q, q < wc.heap.size → q ≠ w.heap.size → WZ.heap[q]? = wc.heap[q]? := fun q hq hn => hx.2.2.2.2 q hq hn
                obtain ⟨h1, h2, h3, h4, h5, h6, h7⟩ := HIE.out
                exact ⟨own_blk h3 (own_ty h3 h2 (by decide)) hb, own_blk h4 (own_ty h4 h2 (by decide)) hb, own_blk h5 (own_ty h5 h2 (by decide)) hb, h6.only hx (by have := HGL.out; omega), only_new h7 (Only.refl _ _) hx (Nat.le_refl _)⟩)
              have HRG : Hid (wc.heap[w.heap.size + 1]? = some (.cells (sArr S (.slice a1 m1 q1) (.slice a2 m2 q2) (.slice a3 m3 q3)) 31 (0, 0))) := Lib.hid HIE.out.1
              have HRQ : Hid (wc.heap[w.heap.size]? = some (.cells zSA 31 (0, 0))) := Lib.hid HIE.out.2.1
              go_wp2_with (first
                | (with_reducible refine wpList_load_row rfl 31 (.tmp 3) rfl (w.heap.size + 1) rfl 31 (sArr S (.slice a1 m1 q1) (.slice a2 m2 q2) (.slice a3 m3 q3)) (0, 0) _ HRG.out Tryz.underlying31 rfl (by kernel_rfl) ?_)
                | (with_reducible refine wpList_store_row rfl 31 (.tmp 2) (.tmp 172) rfl w.heap.size (sArr S (.slice a1 m1 q1) (.slice a2 m2 q2) (.slice a3 m3 q3)) rfl rfl 31 _ HRQ.out (by kernel_rfl) rfl hone ?_; rw [hWZ]; clear hWZ))
              refine bodyPost_ret (v := .agg (sArr S (.slice a1 m1 q1) (.slice a2 m2 q2) (.slice a3 m3 q3))) (results_cell_row rfl _ _ w.heap.size 31 _ (0, 0) _ rfl HQZ.out Tryz.underlying31 rfl (by kernel_rfl)) rfl ?_
              obtain ⟨z1, z2, z3, z4, z5⟩ := HZ.out
              exact ⟨_, _, _, by rw [HSS.out], by rw [HSS.out]; exact z1, by rw [HSS.out]; exact z2, by rw [HSS.out]; exact z3, by rw [HSE.out]; exact z4, z5⟩
end Sc
end Go.Proofs.YtlfaiemebfkajaaGreatDoor
namespace Go.Proofs.YtlfaiemebfkajaaGreatDoor
open Go.ChangeShapes Go.WideShapes Go.ChangeAt Go.RowKit Go.Deep
set_option linter.unusedVariables false
set_option maxRecDepth 100000
namespace Sc
open Cm Nm Sh
end Sc
end Go.Proofs.YtlfaiemebfkajaaGreatDoor
