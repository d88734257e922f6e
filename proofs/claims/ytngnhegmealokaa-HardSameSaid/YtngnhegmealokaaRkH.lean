/- The reader of hard: rec. No condition. -/
import Derived.Test.YtngnhegmealokaaRkG
namespace Go.Proofs.Ytngnhegmealokaa
open Go.ChangeShapes Go.WideShapes Go.ChangeAt Go.RowKit Go.Deep
set_option linter.unusedVariables false
set_option maxRecDepth 100000
namespace Rk
open Cm Sc Nm Rc Hd Nv Sh
/-- the lists of a record are the call's own -/
def RecO (w : World) (B : Nat) (r : RecR) (vc vn vh vl : Value) : Prop := OwnI w B vc r.ent.cmd.nodes ∧ OwnI w B vn r.shot.nodes ∧ OwnR 5 heldC 72 w B vh r.shot.led.held ∧ OwnR 6 lastC 76 w B vl r.shot.led.last
def RecW (r : RecR) : Prop := r.wf ∧ (∀ n ∈ r.ent.cmd.nodes, (Lit.int .i64 n).wf = true) ∧ ∀ n ∈ r.shot.nodes, (Lit.int .i64 n).wf = true
theorem RecO.row {w w' : World} {B p : Nat} {r : RecR} {vc vn vh vl : Value} {cs : Array Value} {fr : Nat × Nat} (h : RecO w B r vc vn vh vl) (hq : w.heap[p]? = some (.cells cs 35 fr)) (hx : Only (· = p) w w') : RecO w' B r vc vn vh vl := by
  obtain ⟨h1, h2, h3, h4⟩ := h
  have hb : ∀ q, q < w.heap.size → q ≠ p → w'.heap[q]? = w.heap[q]? := fun q hq hn => hx.2.2.2.2 q hq hn
  exact ⟨own_blk h1 (own_ty h1 hq (by decide)) hb, own_blk h2 (own_ty h2 hq (by decide)) hb, own_blk h3 (own_ty h3 hq (by decide)) hb, own_blk h4 (own_ty h4 hq (by decide)) hb⟩
theorem RecO.call {w w' : World} {B g : Nat} {r : RecR} {vc vn vh vl : Value} (h : RecO w B r vc vn vh vl) (hg : g < B) (hx : Only (· = g) w w') : RecO w' B r vc vn vh vl := by
  obtain ⟨h1, h2, h3, h4⟩ := h
  have hb : ∀ q, q < w.heap.size → q ≠ g → w'.heap[q]? = w.heap[q]? := fun q hq hn => hx.2.2.2.2 q hq hn
  exact ⟨own_blk h1 (own_ge h1 hg) hb, own_blk h2 (own_ge h2 hg) hb, own_blk h3 (own_ge h3 hg) hb, own_blk h4 (own_ge h4 hg) hb⟩
theorem RecO.is {w : World} {B : Nat} {r : RecR} {vc vn vh vl : Value} (h : RecO w B r vc vn vh vl) (hw : RecW r) : IsRec w (.agg (rArr r vc vn vh vl)) r :=
  ⟨vc, vn, vh, vl, rfl, ⟨h.1.sl hw.2.1, h.2.1.sl hw.2.2, h.2.2.1.sl heldC_len, h.2.2.2.sl lastC_len⟩, hw.1⟩
/-- what is known while a record is read: the box q holds it -/
def RecI (w w0 : World) (g q : Nat) (st : Pst) (r : RecR) (vc vn vh vl : Value) (wr : World) : Prop :=
  wr.heap[w.heap.size]? = some (.cells zR 35 (0, 0)) ∧ wr.heap[q]? = some (.cells (rArr r vc vn vh vl) 35 (0, 0)) ∧ RdH w0 g st wr ∧ Only (· = g) w wr ∧ RecO wr w.heap.size r vc vn vh vl ∧ w.heap.size < q ∧ g < w.heap.size
theorem RecI.call {w w0 wr w' : World} {g q : Nat} {st st' : Pst} {r : RecR} {vc vn vh vl : Value} (h : RecI w w0 g q st r vc vn vh vl wr) (hr : RdH w0 g st' w') (ho : Only (· = g) wr w') : RecI w w0 g q st' r vc vn vh vl w' := by
  obtain ⟨h1, h2, h3, h4, h5, h6, h7⟩ := h
  exact ⟨(ho.2.2.2.2 _ (row_lt h1) (by omega)).trans h1, (ho.2.2.2.2 _ (row_lt h2) (by omega)).trans h2, hr, h4.trans ho, h5.call h7 ho, h6, h7⟩
theorem RecI.put {w w0 wr w' : World} {g q : Nat} {st : Pst} {r r' : RecR} {vc vn vh vl vc' vn' vh' vl' : Value} (h : RecI w w0 g q st r vc vn vh vl wr) (hx : Only (· = q) wr w') (hrow : w'.heap[q]? = some (.cells (rArr r' vc' vn' vh' vl') 35 (0, 0))) (ho : RecO wr w.heap.size r' vc' vn' vh' vl') : RecI w w0 g q st r' vc' vn' vh' vl' w' := by
  obtain ⟨h1, h2, h3, h4, h5, h6, h7⟩ := h
  refine ⟨(hx.2.2.2.2 _ (row_lt h1) (by omega)).trans h1, hrow, h3.only hx (by omega), ?_, ho.row h2 hx, h6, h7⟩
  exact ⟨hx.1.trans h4.1, hx.2.1.trans h4.2.1, hx.2.2.1.trans h4.2.2.1, Nat.le_trans h4.2.2.2.1 hx.2.2.2.1, fun k hk hn => (hx.2.2.2.2 k (Nat.lt_of_lt_of_le hk h4.2.2.2.1) (by omega)).trans (h4.2.2.2.2 k hk hn)⟩
theorem RecI.err {w w0 wr : World} {g q : Nat} {st : Pst} {r : RecR} {vc vn vh vl : Value} (h : RecI w w0 g q st r vc vn vh vl wr) (x : Int) : RecI w w0 g q (st.1, x) r vc vn vh vl (wr.setCell ⟨g, 1, none⟩ (.int .i64 x)) :=
  h.call (h.2.2.1.err x) (Only.setCell _ _ _ rfl)
theorem RecI.below {w w0 wr : World} {g q : Nat} {st : Pst} {r : RecR} {vc vn vh vl : Value} (h : RecI w w0 g q st r vc vn vh vl wr) (hb : Below w0.heap.size w0 w) (hg : w0.heap.size ≤ g) : Below w0.heap.size w0 wr :=
  h.2.2.2.1.below hb hb.size (fun k hk => hk ▸ hg)
def RecHE (w0 : World) (g : Nat) (r : RecR × Pst) (w : World) (e : Ending) (w' : World) : Prop := ∃ vc vn vh vl, e = .returned (.agg (rArr r.1 vc vn vh vl)) ∧ RecO w' w.heap.size r.1 vc vn vh vl ∧ RecW r.1 ∧ RdH w0 g r.2 w' ∧ Only (· = g) w w'
theorem RecI.fin {w w0 wr : World} {g q : Nat} {st : Pst} {r : RecR} {vc vn vh vl : Value} (h : RecI w w0 g q st r vc vn vh vl wr) (hw : RecW r) (cs : Array Value) : RecHE w0 g (r, st) w (.returned (.agg (rArr r vc vn vh vl))) (wr.setRow w.heap.size cs) := by
  obtain ⟨h1, h2, h3, h4, h5, h6, h7⟩ := h
  have hx : Only (· = w.heap.size) wr (wr.setRow w.heap.size cs) := only_row _ _ _
  refine ⟨_, _, _, _, rfl, h5.row h1 hx, hw, h3.only hx (by omega), ?_⟩
  exact ⟨hx.1.trans h4.1, hx.2.1.trans h4.2.1, hx.2.2.1.trans h4.2.2.1, Nat.le_trans h4.2.2.2.1 hx.2.2.2.1, fun k hk hn => (hx.2.2.2.2 k (Nat.lt_of_lt_of_le hk h4.2.2.2.1) (by omega)).trans (h4.2.2.2.2 k hk hn)⟩
theorem ent_putx {w : World} {g : Nat} {r : RecR} {vc vn vh vl : Value} (x : Ent) (vx : Value) (h : w.heap[g]? = some (.cells (rArr r vc vn vh vl) 35 (0, 0))) : (w.setCells g 5 (entC (x, vx))).heap[g]? = some (.cells (rArr { r with ent := x } vx vn vh vl) 35 (0, 0)) := by
  rw [heap_setCells g _ _ h]
  simp [setsA]
theorem shot_putx {w : World} {g : Nat} {r : RecR} {vc vn vh vl : Value} (s : Sho) (un uh ul : Value) (h : w.heap[g]? = some (.cells (rArr r vc vn vh vl) 35 (0, 0))) : (w.setCells g 14 (sArr s un uh ul).toList).heap[g]? = some (.cells (rArr { r with shot := s } vc un uh ul) 35 (0, 0)) := by
  rw [heap_setCells g _ _ h]
  simp [setsA]
theorem setCells_only (q : Nat) : ∀ (vs : List Value) (o : Nat) (w : World), Only (· = q) w (w.setCells q o vs)
  | [], _, _ => Only.refl _ _
  | v :: r, o, w => (Only.setCell (S := (· = q)) w ⟨q, o, none⟩ v rfl).trans (setCells_only q r (o + 1) _)
theorem zi : (Lit.int .i64 0).wf = true := by decide
theorem zu : (Lit.int .u64 0).wf = true := by decide
theorem ki1 : (Lit.int .i64 1).wf = true := by decide
theorem ki2 : (Lit.int .i64 2).wf = true := by decide
theorem ki3 : (Lit.int .i64 3).wf = true := by decide
theorem ki4 : (Lit.int .i64 4).wf = true := by decide
theorem ki5 : (Lit.int .i64 5).wf = true := by decide
theorem zW (k : Int) (hk : (Lit.int .i64 k).wf = true) : RecW { zRecV with kind := k } := ⟨⟨hk, zi, zu, zu, zu, zEnt_wf, zSho_wf⟩, by simp [zRecV, zEntV], by simp [zRecV, zShoV]⟩
theorem wideH {w0 w : World} {g : Nat} {st s1 : Pst} {n : Int} (h : wideS st = (n, s1)) (hr : RdH w0 g st w) (hb : Below w0.heap.size w0 w) : Calls Try.prog 44 #[.pointer (some ⟨g, 0, none⟩)] w (NumH w0 g (n, s1) (.int .u64 n) w) := by
  have c := wide_any w0 g st w hr hb
  rw [h] at c
  exact c
theorem smallH {w0 w : World} {g : Nat} {st s1 : Pst} {n : Int} (h : smallS st = (n, s1)) (hr : RdH w0 g st w) (hb : Below w0.heap.size w0 w) : Calls Try.prog 45 #[.pointer (some ⟨g, 0, none⟩), .int .u64 65535] w (NumH w0 g (n, s1) (.int .u64 n) w) := by
  have c := number_any w0 g st 65535 w hr hb (by decide)
  rw [show pnum 65535 st = (n, s1) from h] at c
  exact c
theorem entryH {w0 w : World} {g : Nat} {st s1 : Pst} {x : Ent} (h : entS st = (x, s1)) (hr : RdH w0 g st w) (hb : Below w0.heap.size w0 w) : Calls Try.prog 46 #[.pointer (some ⟨g, 0, none⟩)] w (EntHE w0 g (x, s1) w) := by
  have c := entry_any w0 g st w hr hb
  rw [h] at c
  exact c
theorem picH {w0 w : World} {g : Nat} {zs : List Int} {s1 : Pst} {s : Sho} (h : picS (zs, 0) = (s, s1)) (hr : RdH w0 g (zs, 0) w) (hb : Below w0.heap.size w0 w) : Calls Try.prog 47 #[.pointer (some ⟨g, 0, none⟩)] w (PicE w0 g (s, s1) w) := by
  have c := shot_any w0 g zs w hr hb
  rw [h] at c
  exact c
theorem rec_nil : recS (([] : List Int), 0) = ({ zRecV with kind := 0 }, ([], 10)) := rfl
theorem rec_cons (x : Int) (rest : List Int) : recS (x :: rest, 0) = bodyS x (rest, 0) := rfl
theorem body_1 {st s1 : Pst} {n : Int} (h : wideS st = (n, s1)) : bodyS 1 st = ({ zRecV with kind := 1, boot := n }, s1) := by unfold bodyS; rw [if_pos rfl, h]
theorem body_2 {st s1 s2 : Pst} {n m : Int} (h : wideS st = (n, s1)) (h2 : smallS s1 = (m, s2)) : bodyS 2 st = ({ zRecV with kind := 2, term := n, vote := m }, s2) := by unfold bodyS; rw [if_neg (by decide), if_pos rfl, h]; simp only [h2]
theorem body_3 {st s1 s2 : Pst} {n : Int} {x : Ent} (h : wideS st = (n, s1)) (h2 : entS s1 = (x, s2)) : bodyS 3 st = ({ zRecV with kind := 3, index := n, ent := x }, s2) := by unfold bodyS; rw [if_neg (by decide), if_neg (by decide), if_pos rfl, h]; simp only [h2]
theorem body_4 {st s1 : Pst} {n : Int} (h : wideS st = (n, s1)) : bodyS 4 st = ({ zRecV with kind := 4, index := n }, s1) := by unfold bodyS; rw [if_neg (by decide), if_neg (by decide), if_neg (by decide), if_pos rfl, h]
theorem body_5 {st s1 : Pst} {s : Sho} (h : picS st = (s, s1)) : bodyS 5 st = ({ zRecV with kind := 5, shot := s }, s1) := by unfold bodyS; rw [if_neg (by decide), if_neg (by decide), if_neg (by decide), if_neg (by decide), if_pos rfl, h]
theorem body_x {k : Int} {st : Pst} (h1 : k ≠ 1) (h2 : k ≠ 2) (h3 : k ≠ 3) (h4 : k ≠ 4) (h5 : k ≠ 5) : bodyS k st = ({ zRecV with kind := k }, (st.1, 11)) := by unfold bodyS; rw [if_neg h1, if_neg h2, if_neg h3, if_neg h4, if_neg h5]
theorem wideS_wf {st s1 : Pst} {n : Int} (h : wideS st = (n, s1)) : (Lit.int .u64 n).wf = true := by have := wide_wf st; rw [h] at this; exact this
theorem smallS_bd {st s1 : Pst} {n : Int} (h : smallS st = (n, s1)) : 0 ≤ n ∧ n ≤ 65535 := by have := pnum_bd 65535 (by decide) st; rw [show pnum 65535 st = (n, s1) from h] at this; exact this
theorem entS_w {st s1 : Pst} {x : Ent} (h : entS st = (x, s1)) (hx : EntW (entS st).1) : EntW x := by rw [h] at hx; exact hx
set_option maxHeartbeats 6000000 in
theorem rec_any (w0 : World) (g : Nat) (zs : List Int) (w : World) (hr : RdH w0 g (zs, 0) w) (hb : Below w0.heap.size w0 w) (hg0 : w0.heap.size ≤ g) : Calls Try.prog 21 #[.pointer (some ⟨g, 0, none⟩)] w (RecHE w0 g (recS (zs, 0)) w) := by
  have hg := hr.lt
  obtain ⟨W0, hW0⟩ : ∃ q, w.alloc (.cells zR 35) = q := ⟨_, rfl⟩
  have hb0 : Below w.heap.size w W0 := by rw [← hW0]; exact (Below.refl _ _).alloc (Nat.le_refl _) _
  have HQ0 : Hid (W0.heap[w.heap.size]? = some (.cells zR 35 (0, 0))) := Lib.hid (by rw [← hW0]; exact heap_alloc_new _ _)
  have HB0 := Lib.hid hb0
  have HG := Lib.hid hg
  have HG0 := Lib.hid hg0
  have HBW := Lib.hid hb
  have HK := Lib.hid (kind_any w0 g zs W0 (hr.block (hb0.block g hg)) (hb.trans (hb0.mono hb.size)))
  have HWB : Hid (WfB zs) := Lib.hid (by obtain ⟨a, cap, h1, h2⟩ := hr; exact h2.wf)
  clear hb hb0 hg hg0 hr
  go_enter Try.func21, Try.ntmps21
  go_wp2_with fail
  refine HK.out.mono ?_
  rintro E w2 ⟨rfl, hr2, ho2, -⟩
  cases zs with
  | nil =>
    rw [show kindS (([] : List Int), 0) = (0, ([], 10)) from rfl] at hr2 ⊢
    dsimp only at hr2 ⊢
    have hsR : (w2.alloc (.cells zR 35)).heap[w2.heap.size]? = some (.cells zR 35 (0, 0)) := heap_alloc_new _ _
    obtain ⟨W4, hW4⟩ : ∃ y, (w2.alloc (.cells zR 35)).setRow w2.heap.size (rArr ({ zRecV with kind := 0 } : RecR) (.slice none 0 0) (.slice none 0 0) (.slice none 0 0) (.slice none 0 0)) = y := ⟨_, rfl⟩
    have hb4 : Below w2.heap.size w2 W4 := by rw [← hW4]; exact Ld.below_row ((Below.refl _ _).alloc (Nat.le_refl _) _) (Nat.le_refl _) _
    have hz2 : W0.heap.size ≤ w2.heap.size := ho2.2.2.2.1
    have hz0 := row_lt HQ0.out
    have hgl := HG.out
    have HI4 : Hid (RecI w w0 g w2.heap.size ([], 10) { zRecV with kind := 0 } (.slice none 0 0) (.slice none 0 0) (.slice none 0 0) (.slice none 0 0) W4) := Lib.hid ⟨(hb4.block _ (by omega)).trans ((ho2.2.2.2.2 _ hz0 (by omega)).trans HQ0.out), by rw [← hW4]; exact setRow_heap _ _ _ _ _ _ hsR, hr2.block (hb4.block g (by omega)), ((Below.only HB0.out _).trans ho2).trans (Below.only hb4 _), ⟨OwnK.nil _ _ _ _, OwnK.nil _ _ _ _, OwnR.nil _ _ _, OwnR.nil _ _ _⟩, by omega, hgl⟩
    obtain ⟨ax, cx, hrow, -⟩ := id HI4.out.2.2.1
    dsimp only at hrow
    have e1 := (cell_of_row W4 g 1 _ _ _ hrow).trans rfl
    have ef1 : W4.frozen? ⟨g, 1, none⟩ = false := frozen_of_row _ _ 1 _ _ hrow
    have k0 := (cell_of_row W4 _ 0 _ _ _ HI4.out.2.1).trans rfl
    clear hr2 ho2 hb4 hz2 hz0 hgl hrow
    have HE := Lib.hid rec_nil
    obtain ⟨WZ, hWZ⟩ : ∃ y, W4.setRow w.heap.size (rArr ({ zRecV with kind := 0 } : RecR) (.slice none 0 0) (.slice none 0 0) (.slice none 0 0) (.slice none 0 0)) = y := ⟨_, rfl⟩
    have HQZ : Hid (WZ.heap[w.heap.size]? = some (.cells (rArr ({ zRecV with kind := 0 } : RecR) (.slice none 0 0) (.slice none 0 0) (.slice none 0 0) (.slice none 0 0)) 35 (0, 0))) := Lib.hid (by rw [← hWZ]; exact setRow_heap _ _ _ _ _ _ HI4.out.1)
    have HFIN : Hid (RecHE w0 g (recS ([], 0)) w (.returned (.agg (rArr ({ zRecV with kind := 0 } : RecR) (.slice none 0 0) (.slice none 0 0) (.slice none 0 0) (.slice none 0 0)))) WZ) := Lib.hid (by rw [HE.out, ← hWZ]; exact HI4.out.fin (zW 0 (by decide)) _)
    have HL := Lib.hid HI4.out.2.1
    have HQ := Lib.hid HI4.out.1
    go_wp2_with (first
      | (with_reducible refine wpList_store_row rfl 35 (.tmp 3) (.tmp 7) rfl w2.heap.size (rArr ({ zRecV with kind := 0 } : RecR) (.slice none 0 0) (.slice none 0 0) (.slice none 0 0) (.slice none 0 0)) rfl rfl 35 _ hsR (by kernel_rfl) rfl (rArr_one _ _ _ _ _ _ _ _ _ _ _ _ _) ?_; rw [hW4]; clear hW4 hsR)
      | (with_reducible refine wpList_load_row rfl 35 (.tmp 3) rfl w2.heap.size rfl 35 (rArr ({ zRecV with kind := 0 } : RecR) (.slice none 0 0) (.slice none 0 0) (.slice none 0 0) (.slice none 0 0)) (0, 0) _ HL.out Try.underlying35 rfl (by kernel_rfl) ?_)
      | (with_reducible refine wpList_store_row rfl 35 (.tmp 2) (.tmp 13) rfl w.heap.size (rArr ({ zRecV with kind := 0 } : RecR) (.slice none 0 0) (.slice none 0 0) (.slice none 0 0) (.slice none 0 0)) rfl rfl 35 _ HQ.out (by kernel_rfl) rfl (rArr_one _ _ _ _ _ _ _ _ _ _ _ _ _) ?_; rw [hWZ]; clear hWZ))
    exact bodyPost_ret (v := .agg (rArr ({ zRecV with kind := 0 } : RecR) (.slice none 0 0) (.slice none 0 0) (.slice none 0 0) (.slice none 0 0))) (results_cell_row rfl _ _ w.heap.size 35 _ (0, 0) _ rfl HQZ.out Try.underlying35 rfl (by kernel_rfl)) rfl HFIN.out
  | cons x rest =>
    rw [show kindS (x :: rest, 0) = (x, (rest, 0)) from rfl] at hr2 ⊢
    dsimp only at hr2 ⊢
    have HXW : Hid ((Lit.int .i64 x).wf = true) := Lib.hid (by
      have := HWB.out x List.mem_cons_self
      simp [Lit.wf, IntKind.min, IntKind.max, IntKind.signed, IntKind.bits] at this ⊢
      omega)
    have HRC := Lib.hid (rec_cons x rest)
    have hsR : (w2.alloc (.cells zR 35)).heap[w2.heap.size]? = some (.cells zR 35 (0, 0)) := heap_alloc_new _ _
    obtain ⟨W4, hW4⟩ : ∃ y, (w2.alloc (.cells zR 35)).setRow w2.heap.size (rArr ({ zRecV with kind := x } : RecR) (.slice none 0 0) (.slice none 0 0) (.slice none 0 0) (.slice none 0 0)) = y := ⟨_, rfl⟩
    have hb4 : Below w2.heap.size w2 W4 := by rw [← hW4]; exact Ld.below_row ((Below.refl _ _).alloc (Nat.le_refl _) _) (Nat.le_refl _) _
    have hz2 : W0.heap.size ≤ w2.heap.size := ho2.2.2.2.1
    have hz0 := row_lt HQ0.out
    have hgl := HG.out
    have HI4 : Hid (RecI w w0 g w2.heap.size (rest, 0) { zRecV with kind := x } (.slice none 0 0) (.slice none 0 0) (.slice none 0 0) (.slice none 0 0) W4) := Lib.hid ⟨(hb4.block _ (by omega)).trans ((ho2.2.2.2.2 _ hz0 (by omega)).trans HQ0.out), by rw [← hW4]; exact setRow_heap _ _ _ _ _ _ hsR, hr2.block (hb4.block g (by omega)), ((Below.only HB0.out _).trans ho2).trans (Below.only hb4 _), ⟨OwnK.nil _ _ _ _, OwnK.nil _ _ _ _, OwnR.nil _ _ _, OwnR.nil _ _ _⟩, by omega, hgl⟩
    obtain ⟨ax, cx, hrow, -⟩ := id HI4.out.2.2.1
    dsimp only at hrow
    have e1 := (cell_of_row W4 g 1 _ _ _ hrow).trans rfl
    have ef1 : W4.frozen? ⟨g, 1, none⟩ = false := frozen_of_row _ _ 1 _ _ hrow
    have k0 := (cell_of_row W4 _ 0 _ _ _ HI4.out.2.1).trans rfl
    clear hr2 ho2 hb4 hz2 hz0 hgl hrow
    by_cases hx1 : x = 1
    · subst hx1
      rcases hy : wideS (rest, 0) with ⟨n, s1⟩
      have HYW := Lib.hid (wideS_wf hy)
      have HE := Lib.hid (HRC.out.trans (body_1 hy))
      have HWR : Hid (RecW { zRecV with kind := 1, boot := n }) := Lib.hid ⟨⟨ki1, zi, HYW.out, zu, zu, zEnt_wf, zSho_wf⟩, by simp [zRecV, zEntV], by simp [zRecV, zShoV]⟩
      go_wp2_with (first | (with_reducible refine wpList_store_row rfl 35 (.tmp 3) (.tmp 7) rfl w2.heap.size (rArr ({ zRecV with kind := 1 } : RecR) (.slice none 0 0) (.slice none 0 0) (.slice none 0 0) (.slice none 0 0)) rfl rfl 35 _ hsR (by kernel_rfl) rfl (rArr_one _ _ _ _ _ _ _ _ _ _ _ _ _) ?_; rw [hW4]; clear hW4 hsR) | fail)
      refine (wideH hy HI4.out.2.2.1 (HI4.out.below HBW.out HG0.out)).mono ?_
      rintro E w5 ⟨rfl, hr5, ho5, -⟩
      have HI5 := Lib.hid (HI4.out.call hr5 ho5)
      have cc5 := (cell_of_row w5 _ 2 _ _ _ HI5.out.2.1).trans rfl
      have ff5 : w5.frozen? ⟨w2.heap.size, 2, none⟩ = false := frozen_of_row _ _ 2 _ _ HI5.out.2.1
      obtain ⟨W5, hW5⟩ : ∃ y, w5.setCell ⟨w2.heap.size, 2, none⟩ (.int .u64 n) = y := ⟨_, rfl⟩
      have HJ5 : Hid (RecI w w0 g w2.heap.size s1 { zRecV with kind := 1, boot := n } (.slice none 0 0) (.slice none 0 0) (.slice none 0 0) (.slice none 0 0) W5) := Lib.hid (HI5.out.put (r' := { zRecV with kind := 1, boot := n }) (by rw [← hW5]; exact Only.setCell _ _ _ rfl) (by rw [← hW5, heap_setCell_same _ _ 2 _ _ _ HI5.out.2.1]; rfl) HI5.out.2.2.2.2.1)
      clear hr5 ho5
      obtain ⟨WZ, hWZ⟩ : ∃ y, W5.setRow w.heap.size (rArr ({ zRecV with kind := 1, boot := n } : RecR) (.slice none 0 0) (.slice none 0 0) (.slice none 0 0) (.slice none 0 0)) = y := ⟨_, rfl⟩
      have HQZ : Hid (WZ.heap[w.heap.size]? = some (.cells (rArr ({ zRecV with kind := 1, boot := n } : RecR) (.slice none 0 0) (.slice none 0 0) (.slice none 0 0) (.slice none 0 0)) 35 (0, 0))) := Lib.hid (by rw [← hWZ]; exact setRow_heap _ _ _ _ _ _ HJ5.out.1)
      have HFIN : Hid (RecHE w0 g (recS (1 :: rest, 0)) w (.returned (.agg (rArr ({ zRecV with kind := 1, boot := n } : RecR) (.slice none 0 0) (.slice none 0 0) (.slice none 0 0) (.slice none 0 0)))) WZ) := Lib.hid (by rw [HE.out, ← hWZ]; exact HJ5.out.fin HWR.out _)
      have HL := Lib.hid HJ5.out.2.1
      have HQ := Lib.hid HJ5.out.1
      go_wp2_with (first
        | (with_reducible refine wpList_load_row rfl 35 (.tmp 3) rfl w2.heap.size rfl 35 (rArr ({ zRecV with kind := 1, boot := n } : RecR) (.slice none 0 0) (.slice none 0 0) (.slice none 0 0) (.slice none 0 0)) (0, 0) _ HL.out Try.underlying35 rfl (by kernel_rfl) ?_)
        | (with_reducible refine wpList_store_row rfl 35 (.tmp 2) (.tmp 49) rfl w.heap.size (rArr ({ zRecV with kind := 1, boot := n } : RecR) (.slice none 0 0) (.slice none 0 0) (.slice none 0 0) (.slice none 0 0)) rfl rfl 35 _ HQ.out (by kernel_rfl) rfl (rArr_one _ _ _ _ _ _ _ _ _ _ _ _ _) ?_; rw [hWZ]; clear hWZ))
      exact bodyPost_ret (v := .agg (rArr ({ zRecV with kind := 1, boot := n } : RecR) (.slice none 0 0) (.slice none 0 0) (.slice none 0 0) (.slice none 0 0))) (results_cell_row rfl _ _ w.heap.size 35 _ (0, 0) _ rfl HQZ.out Try.underlying35 rfl (by kernel_rfl)) rfl HFIN.out
    by_cases hx2 : x = 2
    · subst hx2
      rcases hy : wideS (rest, 0) with ⟨n, s1⟩
      rcases hy2 : smallS s1 with ⟨m, s2⟩
      have HYW := Lib.hid (wideS_wf hy)
      obtain ⟨hm0, hm1⟩ := smallS_bd hy2
      have HE := Lib.hid (HRC.out.trans (body_2 hy hy2))
      have HWR : Hid (RecW { zRecV with kind := 2, term := n, vote := m }) := Lib.hid ⟨⟨ki2, i64_of ⟨hm0, hm1⟩, zu, HYW.out, zu, zEnt_wf, zSho_wf⟩, by simp [zRecV, zEntV], by simp [zRecV, zShoV]⟩
      go_wp2_with (first | (with_reducible refine wpList_store_row rfl 35 (.tmp 3) (.tmp 7) rfl w2.heap.size (rArr ({ zRecV with kind := 2 } : RecR) (.slice none 0 0) (.slice none 0 0) (.slice none 0 0) (.slice none 0 0)) rfl rfl 35 _ hsR (by kernel_rfl) rfl (rArr_one _ _ _ _ _ _ _ _ _ _ _ _ _) ?_; rw [hW4]; clear hW4 hsR) | fail)
      refine (wideH hy HI4.out.2.2.1 (HI4.out.below HBW.out HG0.out)).mono ?_
      rintro E w5 ⟨rfl, hr5, ho5, -⟩
      have HI5 := Lib.hid (HI4.out.call hr5 ho5)
      have cc5 := (cell_of_row w5 _ 3 _ _ _ HI5.out.2.1).trans rfl
      have ff5 : w5.frozen? ⟨w2.heap.size, 3, none⟩ = false := frozen_of_row _ _ 3 _ _ HI5.out.2.1
      obtain ⟨W5, hW5⟩ : ∃ y, w5.setCell ⟨w2.heap.size, 3, none⟩ (.int .u64 n) = y := ⟨_, rfl⟩
      have HJ5 : Hid (RecI w w0 g w2.heap.size s1 { zRecV with kind := 2, term := n } (.slice none 0 0) (.slice none 0 0) (.slice none 0 0) (.slice none 0 0) W5) := Lib.hid (HI5.out.put (r' := { zRecV with kind := 2, term := n }) (by rw [← hW5]; exact Only.setCell _ _ _ rfl) (by rw [← hW5, heap_setCell_same _ _ 3 _ _ _ HI5.out.2.1]; rfl) HI5.out.2.2.2.2.1)
      clear hr5 ho5
      go_wp2_with fail
      refine (smallH hy2 HJ5.out.2.2.1 (HJ5.out.below HBW.out HG0.out)).mono ?_
      rintro E w6 ⟨rfl, hr6, ho6, -⟩
      have HI6 := Lib.hid (HJ5.out.call hr6 ho6)
      have cc6 := (cell_of_row w6 _ 1 _ _ _ HI6.out.2.1).trans rfl
      have ff6 : w6.frozen? ⟨w2.heap.size, 1, none⟩ = false := frozen_of_row _ _ 1 _ _ HI6.out.2.1
      obtain ⟨W6, hW6⟩ : ∃ y, w6.setCell ⟨w2.heap.size, 1, none⟩ (.int .i64 m) = y := ⟨_, rfl⟩
      have HJ6 : Hid (RecI w w0 g w2.heap.size s2 { zRecV with kind := 2, term := n, vote := m } (.slice none 0 0) (.slice none 0 0) (.slice none 0 0) (.slice none 0 0) W6) := Lib.hid (HI6.out.put (r' := { zRecV with kind := 2, term := n, vote := m }) (by rw [← hW6]; exact Only.setCell _ _ _ rfl) (by rw [← hW6, heap_setCell_same _ _ 1 _ _ _ HI6.out.2.1]; rfl) HI6.out.2.2.2.2.1)
      clear hr6 ho6
      obtain ⟨WZ, hWZ⟩ : ∃ y, W6.setRow w.heap.size (rArr ({ zRecV with kind := 2, term := n, vote := m } : RecR) (.slice none 0 0) (.slice none 0 0) (.slice none 0 0) (.slice none 0 0)) = y := ⟨_, rfl⟩
      have HQZ : Hid (WZ.heap[w.heap.size]? = some (.cells (rArr ({ zRecV with kind := 2, term := n, vote := m } : RecR) (.slice none 0 0) (.slice none 0 0) (.slice none 0 0) (.slice none 0 0)) 35 (0, 0))) := Lib.hid (by rw [← hWZ]; exact setRow_heap _ _ _ _ _ _ HJ6.out.1)
      have HFIN : Hid (RecHE w0 g (recS (2 :: rest, 0)) w (.returned (.agg (rArr ({ zRecV with kind := 2, term := n, vote := m } : RecR) (.slice none 0 0) (.slice none 0 0) (.slice none 0 0) (.slice none 0 0)))) WZ) := Lib.hid (by rw [HE.out, ← hWZ]; exact HJ6.out.fin HWR.out _)
      have HL := Lib.hid HJ6.out.2.1
      have HQ := Lib.hid HJ6.out.1
      go_wp2_with (first
        | (with_reducible refine wpList_load_row rfl 35 (.tmp 3) rfl w2.heap.size rfl 35 (rArr ({ zRecV with kind := 2, term := n, vote := m } : RecR) (.slice none 0 0) (.slice none 0 0) (.slice none 0 0) (.slice none 0 0)) (0, 0) _ HL.out Try.underlying35 rfl (by kernel_rfl) ?_)
        | (with_reducible refine wpList_store_row rfl 35 (.tmp 2) (.tmp 49) rfl w.heap.size (rArr ({ zRecV with kind := 2, term := n, vote := m } : RecR) (.slice none 0 0) (.slice none 0 0) (.slice none 0 0) (.slice none 0 0)) rfl rfl 35 _ HQ.out (by kernel_rfl) rfl (rArr_one _ _ _ _ _ _ _ _ _ _ _ _ _) ?_; rw [hWZ]; clear hWZ))
      exact bodyPost_ret (v := .agg (rArr ({ zRecV with kind := 2, term := n, vote := m } : RecR) (.slice none 0 0) (.slice none 0 0) (.slice none 0 0) (.slice none 0 0))) (results_cell_row rfl _ _ w.heap.size 35 _ (0, 0) _ rfl HQZ.out Try.underlying35 rfl (by kernel_rfl)) rfl HFIN.out
    by_cases hx3 : x = 3
    · subst hx3
      rcases hy : wideS (rest, 0) with ⟨n, s1⟩
      rcases hy2 : entS s1 with ⟨x, s2⟩
      have HYW := Lib.hid (wideS_wf hy)
      have HE := Lib.hid (HRC.out.trans (body_3 hy hy2))
      go_wp2_with (first | (with_reducible refine wpList_store_row rfl 35 (.tmp 3) (.tmp 7) rfl w2.heap.size (rArr ({ zRecV with kind := 3 } : RecR) (.slice none 0 0) (.slice none 0 0) (.slice none 0 0) (.slice none 0 0)) rfl rfl 35 _ hsR (by kernel_rfl) rfl (rArr_one _ _ _ _ _ _ _ _ _ _ _ _ _) ?_; rw [hW4]; clear hW4 hsR) | fail)
      refine (wideH hy HI4.out.2.2.1 (HI4.out.below HBW.out HG0.out)).mono ?_
      rintro E w5 ⟨rfl, hr5, ho5, -⟩
      have HI5 := Lib.hid (HI4.out.call hr5 ho5)
      have cc5 := (cell_of_row w5 _ 4 _ _ _ HI5.out.2.1).trans rfl
      have ff5 : w5.frozen? ⟨w2.heap.size, 4, none⟩ = false := frozen_of_row _ _ 4 _ _ HI5.out.2.1
      obtain ⟨W5, hW5⟩ : ∃ y, w5.setCell ⟨w2.heap.size, 4, none⟩ (.int .u64 n) = y := ⟨_, rfl⟩
      have HJ5 : Hid (RecI w w0 g w2.heap.size s1 { zRecV with kind := 3, index := n } (.slice none 0 0) (.slice none 0 0) (.slice none 0 0) (.slice none 0 0) W5) := Lib.hid (HI5.out.put (r' := { zRecV with kind := 3, index := n }) (by rw [← hW5]; exact Only.setCell _ _ _ rfl) (by rw [← hW5, heap_setCell_same _ _ 4 _ _ _ HI5.out.2.1]; rfl) HI5.out.2.2.2.2.1)
      clear hr5 ho5
      go_wp2_with fail
      refine (entryH hy2 HJ5.out.2.2.1 (HJ5.out.below HBW.out HG0.out)).mono ?_
      rintro E w6 ⟨vx, rfl, ox, hxw, hr6, ho6⟩
      obtain ⟨an, m3, cn, rfl⟩ := own_formx ox
      have HI6 := Lib.hid (HJ5.out.call hr6 ho6)
      have HXE := Lib.hid hxw
      have hlow : w.heap.size ≤ W5.heap.size := HJ5.out.2.2.2.1.2.2.2.1
      have hth : w6.there w2.heap.size 5 9 := there_row HI6.out.2.1 5 9 (by simp)
      obtain ⟨W7, hW7⟩ : ∃ y, w6.setCells w2.heap.size 5 (entC (x, (.slice an m3 cn))) = y := ⟨_, rfl⟩
      have HJ7 : Hid (RecI w w0 g w2.heap.size s2 { zRecV with kind := 3, index := n, ent := x } (.slice an m3 cn) (.slice none 0 0) (.slice none 0 0) (.slice none 0 0) W7) := Lib.hid (HI6.out.put (r' := { zRecV with kind := 3, index := n, ent := x }) (by rw [← hW7]; exact setCells_only _ _ _ _) (by rw [← hW7]; exact ent_putx x _ HI6.out.2.1) ⟨own_lowerx hlow ox, HI6.out.2.2.2.2.1.2⟩)
      have HWR : Hid (RecW { zRecV with kind := 3, index := n, ent := x }) := Lib.hid ⟨⟨ki3, zi, zu, zu, HYW.out, HXE.out.1, zSho_wf⟩, HXE.out.2, by simp [zRecV, zShoV]⟩
      clear hr6 ho6 ox hxw hlow
      obtain ⟨WZ, hWZ⟩ : ∃ y, W7.setRow w.heap.size (rArr ({ zRecV with kind := 3, index := n, ent := x } : RecR) (.slice an m3 cn) (.slice none 0 0) (.slice none 0 0) (.slice none 0 0)) = y := ⟨_, rfl⟩
      have HQZ : Hid (WZ.heap[w.heap.size]? = some (.cells (rArr ({ zRecV with kind := 3, index := n, ent := x } : RecR) (.slice an m3 cn) (.slice none 0 0) (.slice none 0 0) (.slice none 0 0)) 35 (0, 0))) := Lib.hid (by rw [← hWZ]; exact setRow_heap _ _ _ _ _ _ HJ7.out.1)
      have HFIN : Hid (RecHE w0 g (recS (3 :: rest, 0)) w (.returned (.agg (rArr ({ zRecV with kind := 3, index := n, ent := x } : RecR) (.slice an m3 cn) (.slice none 0 0) (.slice none 0 0) (.slice none 0 0)))) WZ) := Lib.hid (by rw [HE.out, ← hWZ]; exact HJ7.out.fin HWR.out _)
      have HL := Lib.hid HJ7.out.2.1
      have HQ := Lib.hid HJ7.out.1
      go_wp2_with (first
        | (refine wpList_store_mid rfl 27 (.tmp 42) (.tmp 41) rfl w2.heap.size 5 (entC (x, (.slice an m3 cn))).toArray rfl rfl hth (by kernel_rfl) (entC_one _ _ _ _) ?_; rw [hW7]; clear hW7 hth)
        | (with_reducible refine wpList_load_row rfl 35 (.tmp 3) rfl w2.heap.size rfl 35 (rArr ({ zRecV with kind := 3, index := n, ent := x } : RecR) (.slice an m3 cn) (.slice none 0 0) (.slice none 0 0) (.slice none 0 0)) (0, 0) _ HL.out Try.underlying35 rfl (by kernel_rfl) ?_)
        | (with_reducible refine wpList_store_row rfl 35 (.tmp 2) (.tmp 49) rfl w.heap.size (rArr ({ zRecV with kind := 3, index := n, ent := x } : RecR) (.slice an m3 cn) (.slice none 0 0) (.slice none 0 0) (.slice none 0 0)) rfl rfl 35 _ HQ.out (by kernel_rfl) rfl (rArr_one _ _ _ _ _ _ _ _ _ _ _ _ _) ?_; rw [hWZ]; clear hWZ))
      exact bodyPost_ret (v := .agg (rArr ({ zRecV with kind := 3, index := n, ent := x } : RecR) (.slice an m3 cn) (.slice none 0 0) (.slice none 0 0) (.slice none 0 0))) (results_cell_row rfl _ _ w.heap.size 35 _ (0, 0) _ rfl HQZ.out Try.underlying35 rfl (by kernel_rfl)) rfl HFIN.out
    by_cases hx4 : x = 4
    · subst hx4
      rcases hy : wideS (rest, 0) with ⟨n, s1⟩
      have HYW := Lib.hid (wideS_wf hy)
      have HE := Lib.hid (HRC.out.trans (body_4 hy))
      have HWR : Hid (RecW { zRecV with kind := 4, index := n }) := Lib.hid ⟨⟨ki4, zi, zu, zu, HYW.out, zEnt_wf, zSho_wf⟩, by simp [zRecV, zEntV], by simp [zRecV, zShoV]⟩
      go_wp2_with (first | (with_reducible refine wpList_store_row rfl 35 (.tmp 3) (.tmp 7) rfl w2.heap.size (rArr ({ zRecV with kind := 4 } : RecR) (.slice none 0 0) (.slice none 0 0) (.slice none 0 0) (.slice none 0 0)) rfl rfl 35 _ hsR (by kernel_rfl) rfl (rArr_one _ _ _ _ _ _ _ _ _ _ _ _ _) ?_; rw [hW4]; clear hW4 hsR) | fail)
      refine (wideH hy HI4.out.2.2.1 (HI4.out.below HBW.out HG0.out)).mono ?_
      rintro E w5 ⟨rfl, hr5, ho5, -⟩
      have HI5 := Lib.hid (HI4.out.call hr5 ho5)
      have cc5 := (cell_of_row w5 _ 4 _ _ _ HI5.out.2.1).trans rfl
      have ff5 : w5.frozen? ⟨w2.heap.size, 4, none⟩ = false := frozen_of_row _ _ 4 _ _ HI5.out.2.1
      obtain ⟨W5, hW5⟩ : ∃ y, w5.setCell ⟨w2.heap.size, 4, none⟩ (.int .u64 n) = y := ⟨_, rfl⟩
      have HJ5 : Hid (RecI w w0 g w2.heap.size s1 { zRecV with kind := 4, index := n } (.slice none 0 0) (.slice none 0 0) (.slice none 0 0) (.slice none 0 0) W5) := Lib.hid (HI5.out.put (r' := { zRecV with kind := 4, index := n }) (by rw [← hW5]; exact Only.setCell _ _ _ rfl) (by rw [← hW5, heap_setCell_same _ _ 4 _ _ _ HI5.out.2.1]; rfl) HI5.out.2.2.2.2.1)
      clear hr5 ho5
      obtain ⟨WZ, hWZ⟩ : ∃ y, W5.setRow w.heap.size (rArr ({ zRecV with kind := 4, index := n } : RecR) (.slice none 0 0) (.slice none 0 0) (.slice none 0 0) (.slice none 0 0)) = y := ⟨_, rfl⟩
      have HQZ : Hid (WZ.heap[w.heap.size]? = some (.cells (rArr ({ zRecV with kind := 4, index := n } : RecR) (.slice none 0 0) (.slice none 0 0) (.slice none 0 0) (.slice none 0 0)) 35 (0, 0))) := Lib.hid (by rw [← hWZ]; exact setRow_heap _ _ _ _ _ _ HJ5.out.1)
      have HFIN : Hid (RecHE w0 g (recS (4 :: rest, 0)) w (.returned (.agg (rArr ({ zRecV with kind := 4, index := n } : RecR) (.slice none 0 0) (.slice none 0 0) (.slice none 0 0) (.slice none 0 0)))) WZ) := Lib.hid (by rw [HE.out, ← hWZ]; exact HJ5.out.fin HWR.out _)
      have HL := Lib.hid HJ5.out.2.1
      have HQ := Lib.hid HJ5.out.1
      go_wp2_with (first
        | (with_reducible refine wpList_load_row rfl 35 (.tmp 3) rfl w2.heap.size rfl 35 (rArr ({ zRecV with kind := 4, index := n } : RecR) (.slice none 0 0) (.slice none 0 0) (.slice none 0 0) (.slice none 0 0)) (0, 0) _ HL.out Try.underlying35 rfl (by kernel_rfl) ?_)
        | (with_reducible refine wpList_store_row rfl 35 (.tmp 2) (.tmp 49) rfl w.heap.size (rArr ({ zRecV with kind := 4, index := n } : RecR) (.slice none 0 0) (.slice none 0 0) (.slice none 0 0) (.slice none 0 0)) rfl rfl 35 _ HQ.out (by kernel_rfl) rfl (rArr_one _ _ _ _ _ _ _ _ _ _ _ _ _) ?_; rw [hWZ]; clear hWZ))
      exact bodyPost_ret (v := .agg (rArr ({ zRecV with kind := 4, index := n } : RecR) (.slice none 0 0) (.slice none 0 0) (.slice none 0 0) (.slice none 0 0))) (results_cell_row rfl _ _ w.heap.size 35 _ (0, 0) _ rfl HQZ.out Try.underlying35 rfl (by kernel_rfl)) rfl HFIN.out
    by_cases hx5 : x = 5
    · subst hx5
      rcases hy : picS (rest, 0) with ⟨s, s1⟩
      have HE := Lib.hid (HRC.out.trans (body_5 hy))
      go_wp2_with (first | (with_reducible refine wpList_store_row rfl 35 (.tmp 3) (.tmp 7) rfl w2.heap.size (rArr ({ zRecV with kind := 5 } : RecR) (.slice none 0 0) (.slice none 0 0) (.slice none 0 0) (.slice none 0 0)) rfl rfl 35 _ hsR (by kernel_rfl) rfl (rArr_one _ _ _ _ _ _ _ _ _ _ _ _ _) ?_; rw [hW4]; clear hW4 hsR) | fail)
      refine (picH hy HI4.out.2.2.1 (HI4.out.below HBW.out HG0.out)).mono ?_
      rintro E w6 ⟨un, uh, ul, rfl, o1, o2, o3, hsw, hr6, ho6⟩
      obtain ⟨d1, m1, q1, rfl⟩ := own_formx o1
      obtain ⟨d2, m2, q2, rfl⟩ := own_formx o2
      obtain ⟨d3, m3, q3, rfl⟩ := own_formx o3
      have HI6 := Lib.hid (HI4.out.call hr6 ho6)
      have HSW := Lib.hid hsw
      have hlow : w.heap.size ≤ W4.heap.size := HI4.out.2.2.2.1.2.2.2.1
      have hth : w6.there w2.heap.size 14 7 := there_row HI6.out.2.1 14 7 (by simp)
      obtain ⟨W7, hW7⟩ : ∃ y, w6.setCells w2.heap.size 14 (sArr s (.slice d1 m1 q1) (.slice d2 m2 q2) (.slice d3 m3 q3)).toList = y := ⟨_, rfl⟩
      have HJ7 : Hid (RecI w w0 g w2.heap.size s1 { zRecV with kind := 5, shot := s } (.slice none 0 0) (.slice d1 m1 q1) (.slice d2 m2 q2) (.slice d3 m3 q3) W7) := Lib.hid (HI6.out.put (r' := { zRecV with kind := 5, shot := s }) (by rw [← hW7]; exact setCells_only _ _ _ _) (by rw [← hW7]; exact shot_putx s _ _ _ HI6.out.2.1) ⟨HI6.out.2.2.2.2.1.1, own_lowerx hlow o1, own_lowerx hlow o2, own_lowerx hlow o3⟩)
      have HWR : Hid (RecW { zRecV with kind := 5, shot := s }) := Lib.hid ⟨⟨ki5, zi, zu, zu, zu, zEnt_wf, HSW.out.1⟩, by simp [zRecV, zEntV], HSW.out.2⟩
      clear hr6 ho6 o1 o2 o3 hsw hlow
      obtain ⟨WZ, hWZ⟩ : ∃ y, W7.setRow w.heap.size (rArr ({ zRecV with kind := 5, shot := s } : RecR) (.slice none 0 0) (.slice d1 m1 q1) (.slice d2 m2 q2) (.slice d3 m3 q3)) = y := ⟨_, rfl⟩
      have HQZ : Hid (WZ.heap[w.heap.size]? = some (.cells (rArr ({ zRecV with kind := 5, shot := s } : RecR) (.slice none 0 0) (.slice d1 m1 q1) (.slice d2 m2 q2) (.slice d3 m3 q3)) 35 (0, 0))) := Lib.hid (by rw [← hWZ]; exact setRow_heap _ _ _ _ _ _ HJ7.out.1)
      have HFIN : Hid (RecHE w0 g (recS (5 :: rest, 0)) w (.returned (.agg (rArr ({ zRecV with kind := 5, shot := s } : RecR) (.slice none 0 0) (.slice d1 m1 q1) (.slice d2 m2 q2) (.slice d3 m3 q3)))) WZ) := Lib.hid (by rw [HE.out, ← hWZ]; exact HJ7.out.fin HWR.out _)
      have HL := Lib.hid HJ7.out.2.1
      have HQ := Lib.hid HJ7.out.1
      go_wp2_with (first
        | (refine wpList_store_mid rfl 33 (.tmp 45) (.tmp 44) rfl w2.heap.size 14 (sArr s (.slice d1 m1 q1) (.slice d2 m2 q2) (.slice d3 m3 q3)) rfl rfl hth (by kernel_rfl) (Sc.sArr_one _ _ _ _ _ _ _ _ _ _) ?_; rw [hW7]; clear hW7 hth)
        | (with_reducible refine wpList_load_row rfl 35 (.tmp 3) rfl w2.heap.size rfl 35 (rArr ({ zRecV with kind := 5, shot := s } : RecR) (.slice none 0 0) (.slice d1 m1 q1) (.slice d2 m2 q2) (.slice d3 m3 q3)) (0, 0) _ HL.out Try.underlying35 rfl (by kernel_rfl) ?_)
        | (with_reducible refine wpList_store_row rfl 35 (.tmp 2) (.tmp 49) rfl w.heap.size (rArr ({ zRecV with kind := 5, shot := s } : RecR) (.slice none 0 0) (.slice d1 m1 q1) (.slice d2 m2 q2) (.slice d3 m3 q3)) rfl rfl 35 _ HQ.out (by kernel_rfl) rfl (rArr_one _ _ _ _ _ _ _ _ _ _ _ _ _) ?_; rw [hWZ]; clear hWZ))
      exact bodyPost_ret (v := .agg (rArr ({ zRecV with kind := 5, shot := s } : RecR) (.slice none 0 0) (.slice d1 m1 q1) (.slice d2 m2 q2) (.slice d3 m3 q3))) (results_cell_row rfl _ _ w.heap.size 35 _ (0, 0) _ rfl HQZ.out Try.underlying35 rfl (by kernel_rfl)) rfl HFIN.out
    have n1 : (x == 1) = false := beq_eq_false_iff_ne.2 hx1
    have n2 : (x == 2) = false := beq_eq_false_iff_ne.2 hx2
    have n3 : (x == 3) = false := beq_eq_false_iff_ne.2 hx3
    have n4 : (x == 4) = false := beq_eq_false_iff_ne.2 hx4
    have n5 : (x == 5) = false := beq_eq_false_iff_ne.2 hx5
    have HE := Lib.hid (HRC.out.trans (body_x hx1 hx2 hx3 hx4 hx5))
    clear hx1 hx2 hx3 hx4 hx5
    obtain ⟨W5, hW5⟩ : ∃ y, W4.setCell ⟨g, 1, none⟩ (.int .i64 11) = y := ⟨_, rfl⟩
    have HJ5 : Hid (RecI w w0 g w2.heap.size (rest, 11) { zRecV with kind := x } (.slice none 0 0) (.slice none 0 0) (.slice none 0 0) (.slice none 0 0) W5) := Lib.hid (by rw [← hW5]; exact HI4.out.err 11)
    obtain ⟨WZ, hWZ⟩ : ∃ y, W5.setRow w.heap.size (rArr ({ zRecV with kind := x } : RecR) (.slice none 0 0) (.slice none 0 0) (.slice none 0 0) (.slice none 0 0)) = y := ⟨_, rfl⟩
    have HQZ : Hid (WZ.heap[w.heap.size]? = some (.cells (rArr ({ zRecV with kind := x } : RecR) (.slice none 0 0) (.slice none 0 0) (.slice none 0 0) (.slice none 0 0)) 35 (0, 0))) := Lib.hid (by rw [← hWZ]; exact setRow_heap _ _ _ _ _ _ HJ5.out.1)
    have HFIN : Hid (RecHE w0 g (recS (x :: rest, 0)) w (.returned (.agg (rArr ({ zRecV with kind := x } : RecR) (.slice none 0 0) (.slice none 0 0) (.slice none 0 0) (.slice none 0 0)))) WZ) := Lib.hid (by rw [HE.out, ← hWZ]; exact HJ5.out.fin (zW x HXW.out) _)
    have HL := Lib.hid HJ5.out.2.1
    have HQ := Lib.hid HJ5.out.1
    go_wp2_with (first
      | (with_reducible refine wpList_store_row rfl 35 (.tmp 3) (.tmp 7) rfl w2.heap.size (rArr ({ zRecV with kind := x } : RecR) (.slice none 0 0) (.slice none 0 0) (.slice none 0 0) (.slice none 0 0)) rfl rfl 35 _ hsR (by kernel_rfl) rfl (rArr_one _ _ _ _ _ _ _ _ _ _ _ _ _) ?_; rw [hW4]; clear hW4 hsR)
      | (with_reducible refine wpList_load_row rfl 35 (.tmp 3) rfl w2.heap.size rfl 35 (rArr ({ zRecV with kind := x } : RecR) (.slice none 0 0) (.slice none 0 0) (.slice none 0 0) (.slice none 0 0)) (0, 0) _ HL.out Try.underlying35 rfl (by kernel_rfl) ?_)
      | (with_reducible refine wpList_store_row rfl 35 (.tmp 2) (.tmp 49) rfl w.heap.size (rArr ({ zRecV with kind := x } : RecR) (.slice none 0 0) (.slice none 0 0) (.slice none 0 0) (.slice none 0 0)) rfl rfl 35 _ HQ.out (by kernel_rfl) rfl (rArr_one _ _ _ _ _ _ _ _ _ _ _ _ _) ?_; rw [hWZ]; clear hWZ))
    exact bodyPost_ret (v := .agg (rArr ({ zRecV with kind := x } : RecR) (.slice none 0 0) (.slice none 0 0) (.slice none 0 0) (.slice none 0 0))) (results_cell_row rfl _ _ w.heap.size 35 _ (0, 0) _ rfl HQZ.out Try.underlying35 rfl (by kernel_rfl)) rfl HFIN.out
end Rk
end Go.Proofs.Ytngnhegmealokaa
