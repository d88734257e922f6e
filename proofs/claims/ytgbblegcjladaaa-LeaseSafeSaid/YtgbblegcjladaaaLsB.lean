/- Package lease's keeper, as landed: NewKeeper, Sees, Leads. No condition. -/
import Derived.Test.YtgbblegcjladaaaLsA
import Derived.Test.YtgbblegcjladaaaWl
namespace Go.Proofs.Ytgbblegcjladaaa
open Go.ChangeShapes Go.WideShapes Go.ChangeAt Go.RowKit Go.Deep Go.Maps Go.ChangeMaps Go.MapKept
set_option linter.unusedVariables false
set_option maxRecDepth 100000
set_option linter.unusedSimpArgs false
namespace Ls
open Mc
theorem clamp_any (t : Int) (w : World) : Calls Try.prog 45 #[.int .i64 t] w fun e w' => e = .returned (.int .i64 (timeV t)) ∧ w = w' := by
  rcases Int.lt_or_le 0 t with h | h
  · rcases Int.lt_or_le top t with h2 | h2
    · have HE : Hid (timeV t = 4611686018427387904) := Lib.hid (by unfold timeV; unfold top at *; omega)
      unfold top at h2
      go_enter Try.func45, Try.ntmps45
      go_wp2
      go_ret
      exact ⟨by rw [HE.out]; rfl, rfl⟩
    · have HE : Hid (timeV t = t) := Lib.hid (by unfold timeV; unfold top at *; omega)
      unfold top at h2
      have h3 : ¬ 4611686018427387904 < t := by omega
      go_enter Try.func45, Try.ntmps45
      go_wp2
      go_ret
      exact ⟨by rw [HE.out]; rfl, rfl⟩
  · have HE : Hid (timeV t = 0) := Lib.hid (by unfold timeV top; omega)
    rcases Int.lt_or_eq_of_le h with h3 | rfl
    · clear h
      go_enter Try.func45, Try.ntmps45
      go_wp2
      go_ret
      exact ⟨by rw [HE.out]; rfl, rfl⟩
    · clear h
      go_enter Try.func45, Try.ntmps45
      go_wp2
      go_ret
      exact ⟨by rw [HE.out]; rfl, rfl⟩
variable {w w' w1 : World} {S : Nat → Prop} {p : Nat} {n : Int} {vh vl vk : Value} {b : Option Nat} {L : List Row}
/-- what NewKeeper answers -/
def NewR (n : Int) (w : World) (e : Ending) (w' : World) : Prop :=
  (1 ≤ n ∧ n ≤ 1073741824 ∧ (∃ p, e = .returned (.tuple #[.pointer (some ⟨p, 0, none⟩), .int .i64 0]) ∧ KpV w' (fun k => k = p) p n (.slice none 0 0) none [] ∧ w.heap.size ≤ p) ∧ Below w.heap.size w w') ∨ (¬ (1 ≤ n ∧ n ≤ 1073741824) ∧ e = .returned (.tuple #[.pointer none, .int .i64 1]) ∧ w = w')
theorem new_any (n : Int) (w : World) : Calls Try.prog 8 #[.int .i64 n] w (NewR n w) := by
  by_cases h1 : n < 1
  · have HF : Hid (¬ (1 ≤ n ∧ n ≤ 1073741824)) := Lib.hid (by omega)
    go_enter Try.func8, Try.ntmps8
    go_wp2
    go_ret2
    exact .inr ⟨HF.out, rfl, rfl⟩
  by_cases h2 : 1073741824 < n
  · have HF : Hid (¬ (1 ≤ n ∧ n ≤ 1073741824)) := Lib.hid (by omega)
    go_enter Try.func8, Try.ntmps8
    go_wp2
    go_ret2
    exact .inr ⟨HF.out, rfl, rfl⟩
  obtain ⟨p, hp⟩ : ∃ q, w.heap.size = q := ⟨_, rfl⟩
  obtain ⟨W1, hW1⟩ : ∃ q, w.alloc (.cells #[.int .i64 n, .slice none 0 0, .map none] TK) = q := ⟨_, rfl⟩
  have hr : W1.heap[p]? = some (.cells #[.int .i64 n, .slice none 0 0, .map none] TK (0, 0)) := by rw [← hW1, ← hp]; exact heap_alloc_new _ _
  have HF : Hid (KpV W1 (fun k => k = p) p n (.slice none 0 0) none [] ∧ w.heap.size ≤ p ∧ Below w.heap.size w W1) := Lib.hid ⟨⟨⟨hr, rfl, .inl ⟨rfl, rfl⟩, fun k hk => hk ▸ row_lt hr⟩, OwnR.nil _ _ _, fun q hq => by cases hq⟩, Nat.le_of_eq hp, by rw [← hW1]; exact (Below.refl _ _).alloc (Nat.le_refl _) _⟩
  have HN : Hid (1 ≤ n ∧ n ≤ 1073741824) := Lib.hid (by omega)
  clear hr
  go_enter Try.func8, Try.ntmps8
  go_wp2
  go_ret2
  exact .inl ⟨HN.out.1, HN.out.2, ⟨p, rfl, HF.out.1, HF.out.2.1⟩, HF.out.2.2⟩
/-- at a round of Sees: the rows T are held, those of U are in the map -/
structure SeeW (w0 : World) (S : Nat → Prop) (p g : Nat) (n : Int) (b : Option Nat) (L T U : List Row) (vr : Value) (w : World) : Prop where
  row : w.heap[p]? = some (.cells #[.int .i64 n, vr, .map (some g)] TK (0, 0))
  h : OwnR 3 krC TR w w0.heap.size vr (T.map keyX)
  f : ∃ f, Mp.MapF Try.prog TR litR KR.wf w g U.length f ∧ FitsM f U
  k : KnM w S b L
  o : Only S w0 w
  g : w0.heap.size ≤ g
  sp : S p
  low : ∀ k, S k → k < w0.heap.size
variable {w0 : World} {g : Nat} {T U : List Row} {vr vr' : Value}
theorem SeeW.below (h : SeeW w0 S p g n b L T U vr w) (hb : Below w.heap.size w w') : SeeW w0 S p g n b L T U vr w' := by
  obtain ⟨f, h1, h2⟩ := h.f
  exact ⟨(hb.block p (row_lt h.row)).trans h.row, own_keep h.h (fun q _ hq => hb.block q hq), ⟨f, h1.below hb, h2⟩, h.k.keep (fun k hk => hb.block k (Nat.lt_of_lt_of_le (h.low k hk) h.o.2.2.2.1)), h.o.trans (Below.only hb S), h.g, h.sp, h.low⟩
theorem SeeW.alloc (h : SeeW w0 S p g n b L T U vr w) (o : Obj) : SeeW w0 S p g n b L T U vr (w.alloc o) := h.below ((Below.refl _ _).alloc (Nat.le_refl _) o)
theorem SeeW.drew (h : SeeW w0 S p g n b L T U vr w) : SeeW w0 S p g n b L T U vr w.drew := h.below ((Below.refl _ _).drew)
theorem SeeW.pg (h : SeeW w0 S p g n b L T U vr w) : p ≠ g := by have := h.low p h.sp; have := h.g; omega
theorem SeeW.pv (h : SeeW w0 S p g n b L T U vr w) : ∀ q, vr.ownBlock = some q → q ≠ p := own_ty h.h h.row (by decide)
theorem SeeW.vg (h : SeeW w0 S p g n b L T U vr w) : ∀ q, vr.ownBlock = some q → q ≠ g := fun q hq e => by
  obtain ⟨f, h1, -⟩ := h.f
  rcases own_form h.h with ⟨e1, -⟩ | ⟨g2, c, cur, e1, e2, -⟩
  · rw [e1] at hq; cases hq
  · rw [e1] at hq
    simp only [Value.ownBlock, Option.some.injEq] at hq
    subst hq
    exact h1.row_ne e2 e.symm
/-- a row put behind those that are held -/
theorem SeeW.held {x : Row} (h : SeeW w0 S p g n b L T U vr w) (ho : OwnR 3 krC TR w1 w0.heap.size vr' ((T ++ [x]).map keyX)) (hg : w.grownBy w1 vr.ownBlock) (hl : vr'.ownBlock = vr.ownBlock ∨ vr'.ownBlock = some w.heap.size) :
    w1.heap[p]? = some (.cells #[.int .i64 n, vr, .map (some g)] TK (0, 0)) ∧ SeeW w0 S p g n b L (T ++ [x]) U vr' (w1.setCell ⟨p, 1, none⟩ vr') := by
  have hpl : p < w.heap.size := row_lt h.row
  have hr1 : w1.heap[p]? = some (.cells #[.int .i64 n, vr, .map (some g)] TK (0, 0)) := (hg.block p hpl (fun e => h.pv p e.symm rfl)).trans h.row
  have hvp : ∀ q, vr'.ownBlock = some q → q ≠ p := own_ty ho hr1 (by decide)
  have hsz : w0.heap.size ≤ w.heap.size := h.o.2.2.2.1
  have hblk : ∀ k, k < w.heap.size → some k ≠ vr.ownBlock → k ≠ p → (w1.setCell ⟨p, 1, none⟩ vr').heap[k]? = w.heap[k]? := fun k hk h1 h2 => (heap_setCell_other w1 ⟨p, 1, none⟩ k _ h2).trans (hg.block k hk h1)
  obtain ⟨f, f1, f2⟩ := h.f
  refine ⟨hr1, kset1 hr1, own_keep ho (fun q hq _ => heap_setCell_other w1 ⟨p, 1, none⟩ q _ (hvp q hq)), ⟨f, f1.block (hblk g f1.lt (fun e => h.vg g e.symm rfl) h.pg.symm), f2⟩, ?_, ?_, h.g, h.sp, h.low⟩
  · have hv0 : ∀ q, vr.ownBlock = some q → w0.heap.size ≤ q := fun q hq => (World.ownsRow.lt h.h q hq).1
    rcases h.k with e | ⟨g2, f2, e1, e2, e3, e4⟩
    · exact .inl e
    · refine .inr ⟨g2, f2, e1, e2, e3.block (hblk g2 e3.lt (fun e => by have := hv0 g2 e.symm; have := h.low g2 e2; omega) (fun e => ?_)), e4⟩
      subst e
      exact e3.row_ne h.row rfl
  · refine (h.o.after (Only.grown hg (S := fun k => vr.ownBlock = some k) (fun q e => e)) (fun i hi e => ?_)).trans (Only.setCell w1 ⟨p, 1, none⟩ _ h.sp)
    have := (World.ownsRow.lt h.h i e).1
    omega
/-- it is put into the map -/
theorem SeeW.put {x : Row} (h : SeeW w0 S p g n b L (T ++ [x]) T vr w) (hw : (keyX x).wf) (hn : T.length < 1000000) (hx : keyX x ∉ T.map keyX) : ∃ w1, (Instr.mapUpdate MT (.map (some g)) (.agg (kA (keyX x))) (.int .i64 x.since)).run Try.prog w = .ok () w1 ∧ SeeW w0 S p g n b L (T ++ [x]) (T ++ [x]) vr w1 := by
  obtain ⟨f, f1, f2⟩ := h.f
  obtain ⟨w1, hrun, hm, hg⟩ := f1.put KK Try.underlying96 (by unfold maxLen; omega) hw (.int .i64 x.since)
  have hsz : w0.heap.size ≤ w.heap.size := h.o.2.2.2.1
  have hblk : ∀ k, k < w.heap.size → k ≠ g → w1.heap[k]? = w.heap[k]? := fun k hk h1 => hg.block k hk (fun e => h1 (Option.some.inj e))
  refine ⟨w1, hrun, (hblk p (row_lt h.row) h.pg).trans h.row, own_keep h.h (fun q hq hl => hblk q hl (h.vg q hq)), ⟨_, by simpa using hm, f2.snoc hx⟩, ?_, ?_, h.g, h.sp, h.low⟩
  · exact h.k.keep (fun k hk => hblk k (Nat.lt_of_lt_of_le (h.low k hk) hsz) (fun e => by have := h.low k hk; have := h.g; omega))
  · exact h.o.after (Only.grown hg (S := fun k => k = g) (fun q e => by rw [← Option.some.inj e])) (fun i hi e => by have := h.g; omega)
theorem SeeW.fin (h : SeeW w0 S p g n b L T T vr w) (hu : OkL T) : Mc.Left (KpX p n T) S w0 w := by
  obtain ⟨f, f1, f2⟩ := h.f
  refine ⟨⟨fun k => Grow S w0 w k, ⟨vr, some g, ⟨⟨h.row, .inl h.sp, .inr ⟨g, f, rfl, .inr ⟨h.g, f1.lt⟩, f1, f2⟩, fun k hk => ?_⟩, own_up h.h (fun q hq => Nat.zero_le _), fun q hq => .inr (World.ownsRow.lt h.h q hq)⟩⟩, fun k hk => hk⟩, h.o⟩
  rcases hk with hk | hk
  · exact Nat.lt_of_lt_of_le (h.low k hk) h.o.2.2.2.1
  · exact hk.2
set_option maxHeartbeats 8000000 in
theorem sees_any (now : Int) (l : Led) (w : World) (h : KnV w S p n vk b L) (hok : OkL L) (hL : ∀ w', Only S w w' → SlR 5 heldC w' vh l.held) (hlen : l.held.length ≤ 1000) (hw : ∀ x ∈ l.held, x.wf) (hn : (l.held.map keyR).Nodup) :
    Calls Try.prog 14 #[.pointer (some ⟨p, 0, none⟩), .int .i64 now, .agg (lArr l vh vl)] w (KpR (.tuple #[]) p n (seesV now L l.held) S w) := by
  obtain ⟨ah, ch, rfl, hlc, hcm, -⟩ := id (hL w (Only.refl _ _))
  unfold maxLen at hcm
  obtain ⟨gl, hgl⟩ : ∃ q, w.heap.size = q := ⟨_, rfl⟩
  obtain ⟨W1, hW1⟩ : ∃ q, w.alloc (.cells (lArr l (.slice ah l.held.length ch) vl) 35) = q := ⟨_, rfl⟩
  have hb1 : Below w.heap.size w W1 := by rw [← hW1]; exact (Below.refl _ _).alloc (Nat.le_refl _) _
  have hr1 : W1.heap[gl]? = some (.cells (lArr l (.slice ah l.held.length ch) vl) 35 (0, 0)) := by rw [← hW1, ← hgl]; exact heap_alloc_new _ _
  have hp1 := (hb1.block p (row_lt h.row)).trans h.row
  have hpl : p ≠ gl := by have := row_lt h.row; omega
  obtain ⟨W2, hW2⟩ : ∃ q, W1.setCell ⟨p, 1, none⟩ (.slice none 0 0) = q := ⟨_, rfl⟩
  have hp2 : W2.heap[p]? = some (.cells #[.int .i64 n, .slice none 0 0, .map b] TK (0, 0)) := by rw [← hW2]; exact kset1 hp1
  have hr2 : W2.heap[gl]? = some (.cells (lArr l (.slice ah l.held.length ch) vl) 35 (0, 0)) := by rw [← hW2]; exact (heap_setCell_other W1 ⟨p, 1, none⟩ gl _ hpl.symm).trans hr1
  obtain ⟨g1, hg1⟩ : ∃ q, W2.heap.size = q := ⟨_, rfl⟩
  obtain ⟨W3, hW3⟩ : ∃ q, W2.alloc (.map #[] 0) = q := ⟨_, rfl⟩
  have hb3 : Below W2.heap.size W2 W3 := by rw [← hW3]; exact (Below.refl _ _).alloc (Nat.le_refl _) _
  have hp3 := (hb3.block p (row_lt hp2)).trans hp2
  have hr3 := (hb3.block gl (row_lt hr2)).trans hr2
  have hm3 : Mp.MapF Try.prog TR litR KR.wf W3 g1 0 (fun _ => none) := by rw [← hW3, ← hg1]; exact Mp.made _ _ _ _ _
  obtain ⟨W4, hW4⟩ : ∃ q, W3.setCell ⟨p, 2, none⟩ (.map (some g1)) = q := ⟨_, rfl⟩
  have hp4 : W4.heap[p]? = some (.cells #[.int .i64 n, .slice none 0 0, .map (some g1)] TK (0, 0)) := by rw [← hW4]; exact kset2 hp3
  have hr4 : W4.heap[gl]? = some (.cells (lArr l (.slice ah l.held.length ch) vl) 35 (0, 0)) := by rw [← hW4]; exact (heap_setCell_other W3 ⟨p, 2, none⟩ gl _ hpl.symm).trans hr3
  have hz2 : W2.heap.size = W1.heap.size := by rw [← hW2]; simp
  have hz4 : W4.heap.size = W3.heap.size := by rw [← hW4]; simp
  have ho : Only S w W4 := ((Below.only hb1 S).trans (by rw [← hW2]; exact Only.setCell W1 ⟨p, 1, none⟩ _ h.sp)).trans ((Below.only hb3 S).trans (by rw [← hW4]; exact Only.setCell W3 ⟨p, 2, none⟩ _ h.sp))
  have hpg : p ≠ g1 := by have := row_lt hp2; omega
  have hk4 : KnM W4 S b L := by
    rcases h.m with e | ⟨g2, f2, e1, e2, e3, e4⟩
    · exact .inl e
    · refine .inr ⟨g2, f2, e1, e2, e3.block ?_, e4⟩
      have hne : g2 ≠ p := e3.row_ne h.row
      have hl2 := h.low g2 e2
      have z1 := hb1.size
      rw [← hW4, heap_setCell_other W3 ⟨p, 2, none⟩ g2 _ hne, hb3.block g2 (by omega), ← hW2, heap_setCell_other W1 ⟨p, 1, none⟩ g2 _ hne]
      exact hb1.block g2 hl2
  have H4 : Hid (SeeW w S p g1 n b L [] [] (.slice none 0 0) W4) := Lib.hid ⟨hp4, OwnR.nil _ _ _, ⟨_, hm3.block (by rw [← hW4]; exact heap_setCell_other W3 ⟨p, 2, none⟩ g1 _ hpg.symm), FitsM.nil⟩, hk4, ho, by have := hb1.size; omega, h.sp, h.low⟩
  have c12 := (krow hp1).2.2.1
  have c11 := (krow hp1).2.1
  have z1 := (krow hp1).2.2.2
  have c32 := (krow hp3).2.2.1
  have z3 := (krow hp3).2.2.2
  have c42 : W4.cell? ⟨gl, 2, none⟩ = some (.slice ah l.held.length ch) := (cell_of_row _ _ 2 _ _ _ hr4).trans rfl
  have HL := Lib.hid hL
  have HW := Lib.hid hw
  have HN := Lib.hid hn
  have HOK := Lib.hid hok
  have hmm := @run_makeMap Try.prog
  obtain ⟨T, hT⟩ : ∃ q, seesV now L l.held = q := ⟨_, rfl⟩
  have HT := Lib.hid hT
  have HTL : Hid (T.length = l.held.length ∧ T.map keyX = l.held.map keyR) := Lib.hid (by rw [← hT]; unfold seesV; exact ⟨by simp, by rw [List.map_map]; rfl⟩)
  have HTO : Hid (OkL T) := Lib.hid (hT ▸ hok.sees now hw hn)
  clear hL hw hn hok hb1 hr1 hp1 hp2 hr2 hb3 hp3 hr3 hm3 hp4 hr4 hz2 hz4 ho hk4 h hT
  go_enter Try.func14, Try.ntmps14
  go_wp2_with (first | rw [hW1] | rw [hW2] | rw [hW3] | rw [hW4])
  clear hmm c12 c11 z1 c32 z3 c42 hW1 hW2 hW3 hW4 hgl hg1
  go_loopw [28] (fun i wr => ∃ (j : Nat) (vr : Value), j ≤ l.held.length ∧ i = .int .i64 (j : Int) ∧ Hid (SeeW w S p g1 n b L (T.take j) (T.take j) vr wr)) (fun i _ => l.held.length - (intOf i).toNat)
  case atStart => exact ⟨0, _, Nat.zero_le _, rfl, H4⟩
  case round =>
    obtain ⟨j, vr, hj, rfl, HR⟩ := hrel
    clear H4
    by_cases hlt : j < l.held.length
    · have hlti : (j : Int) < (l.held.length : Int) := by omega
      obtain ⟨y, hy⟩ : ∃ y, l.held[j]? = some y := ⟨_, List.getElem?_eq_getElem hlt⟩
      have hyw := HW.out y (List.mem_of_getElem? hy)
      obtain ⟨z, hz⟩ : ∃ q, keyR y = q := ⟨_, rfl⟩
      obtain ⟨x, hx⟩ : ∃ q, (⟨y, sinceOf L z (timeV now)⟩ : Row) = q := ⟨_, rfl⟩
      have HZX : Hid ([x].map keyX = [z]) := Lib.hid (by rw [← hx, ← hz]; rfl)
      have hTx : T[j]? = some x := by rw [← HT.out]; unfold seesV; rw [List.getElem?_map, hy, ← hx, ← hz]; rfl
      have HTK : Hid (T.take (j + 1) = T.take j ++ [x]) := Lib.hid (by rw [List.take_add_one, hTx]; rfl)
      have HZW : Hid z.wf := Lib.hid (hz ▸ keyR_wf hyw)
      have HNI : Hid (keyX x ∉ (T.take j).map keyX) := Lib.hid (fun hm => by
        have h1 := HTO.out.nd
        rw [← List.take_append_drop (j + 1) T, HTK.out, List.map_append, List.map_append] at h1
        have h2 := (List.nodup_append.1 (List.nodup_append.1 h1).1).2.2
        exact h2 _ hm _ (by simp) rfl)
      have HJL : Hid (((T.take j).map keyX).length ≤ 1000 ∧ (T.take j).length = j) := Lib.hid (by have := HTL.out.1; simp only [List.length_map, List.length_take]; omega)
      obtain ⟨b0, off, rfl, y0, y1, y2, y3, y4⟩ : ∃ b off, ah = some ⟨b, off, none⟩ ∧ wr.cell? ⟨b, off + j * 5, none⟩ = some (.int .i64 y.token) ∧ wr.cell? ⟨b, off + j * 5 + 1, none⟩ = some (.int .i64 y.node) ∧ wr.cell? ⟨b, off + j * 5 + 2, none⟩ = some (.int .u64 y.boot) ∧ wr.cell? ⟨b, off + j * 5 + 3, none⟩ = some (.int .u64 y.serial) ∧ wr.cell? ⟨b, off + j * 5 + 4, none⟩ = some (.int .u64 y.stamp) := by
        rcases SlR.cases (HL.out wr HR.out.o) with ⟨a2, c2, e, hnil⟩ | ⟨b, off, c2, e, -, -, -, -, hc⟩
        · rw [hnil] at hlt; simp at hlt
        · simp only [Value.slice.injEq] at e
          exact ⟨b, off, e.1, Ld.held_cells (hc j y hy)⟩
      obtain ⟨g2, hg2⟩ : ∃ q, wr.heap.size = q := ⟨_, rfl⟩
      obtain ⟨W5, hW5⟩ : ∃ q, wr.alloc (.cells (La.hA y) 47) = q := ⟨_, rfl⟩
      have hb5 : Below wr.heap.size wr W5 := by rw [← hW5]; exact (Below.refl _ _).alloc (Nat.le_refl _) _
      have hr5 : W5.heap[g2]? = some (.cells (La.hA y) 47 (0, 0)) := by rw [← hW5, ← hg2]; exact heap_alloc_new _ _
      have d0 : W5.cell? ⟨g2, 0, none⟩ = some (.int .i64 z.token) := by rw [← hz]; exact (cell_of_row _ _ 0 _ _ _ hr5).trans rfl
      have d3 : W5.cell? ⟨g2, 3, none⟩ = some (.int .u64 z.serial) := by rw [← hz]; exact (cell_of_row _ _ 3 _ _ _ hr5).trans rfl
      have d4 : W5.cell? ⟨g2, 4, none⟩ = some (.int .u64 z.stamp) := by rw [← hz]; exact (cell_of_row _ _ 4 _ _ _ hr5).trans rfl
      obtain ⟨g3, hg3⟩ : ∃ q, W5.heap.size = q := ⟨_, rfl⟩
      obtain ⟨W6, hW6⟩ : ∃ q, W5.alloc (.cells (kA z) TR) = q := ⟨_, rfl⟩
      have hb6 : Below W5.heap.size W5 W6 := by rw [← hW6]; exact (Below.refl _ _).alloc (Nat.le_refl _) _
      have hr6 : W6.heap[g3]? = some (.cells (kA z) TR (0, 0)) := by rw [← hW6, ← hg3]; exact heap_alloc_new _ _
      have e0 : W6.cell? ⟨g3, 0, none⟩ = some (.int .i64 z.token) := (cell_of_row _ _ 0 _ _ _ hr6).trans rfl
      have e1 : W6.cell? ⟨g3, 1, none⟩ = some (.int .u64 z.serial) := (cell_of_row _ _ 1 _ _ _ hr6).trans rfl
      have e2 : W6.cell? ⟨g3, 2, none⟩ = some (.int .u64 z.stamp) := (cell_of_row _ _ 2 _ _ _ hr6).trans rfl
      have H6 := Lib.hid ((HR.out.below hb5).below hb6)
      have hlk := H6.out.k.look HZW.out true
      rw [if_pos rfl] at hlk
      have H6d := Lib.hid H6.out.drew
      obtain ⟨W7, hW7⟩ : ∃ q, W6.drew.alloc (.cells (kA z) TR) = q := ⟨_, rfl⟩
      have H7 := Lib.hid (show SeeW w S p g1 n b L (T.take j) (T.take j) vr W7 by rw [← hW7]; exact H6d.out.alloc _)
      have HC6 : Hid (W6.drew.cell? ⟨p, 1, none⟩ = some vr) := Lib.hid (krow H6d.out.row).2.1
      have HG6 : Hid (W6.drew.heap[g3]? = some (.cells (kA z) TR (0, 0))) := Lib.hid hr6
      have HC7 : Hid (W7.cell? ⟨p, 1, none⟩ = some vr ∧ True) := Lib.hid ⟨(krow H7.out.row).2.1, trivial⟩
      have HG7 : Hid (W7.heap[g3]? = some (.cells (kA z) TR (0, 0))) := Lib.hid (by rw [← hW7, heap_alloc_old _ _ (row_lt HG6.out)]; exact HG6.out)
      have HLIT : Hid (SlR 3 krC W7 (.slice (some ⟨W6.heap.size, 0, none⟩) 1 1) [z]) := Lib.hid (by rw [← hW7]; exact SlR.one krC_len W6.drew _ rfl _ z rfl)
      have HV3 : Hid (∀ k, vr.ownBlock = some k → k ≠ g3) := Lib.hid (fun k hk => by have := (World.ownsRow.lt HR.out.h k hk).2; have := hb5.size; omega)
      have HP3 : Hid (p ≠ g3) := Lib.hid (by have := row_lt HR.out.row; have := hb5.size; omega)
      obtain ⟨fb, hfb⟩ : ∃ q, (findX L z).isSome = q := ⟨_, rfl⟩
      have HSN : Hid (x.since = if fb then sinceOf L z 0 else timeV now) := Lib.hid (by
        rw [← hx, ← hfb]
        unfold sinceOf
        cases findX L z <;> rfl)
      rw [hfb] at hlk
      obtain ⟨s0, hs0⟩ : ∃ q, sinceOf L z 0 = q := ⟨_, rfl⟩
      rw [hs0] at hlk HSN
      have HKX : Hid (keyX x = z) := Lib.hid (by rw [← hx, ← hz]; rfl)
      simp only [kA] at hlk
      clear hs0 hfb hr5 hr6 hb5 hb6 hy hyw hx hTx hz
      go_upto_region 10 with (first | rw [hW5] | rw [hW6])
      clear d0 d3 d4 e0 e1 e2 hlk y0 y1 y2 y3 y4 hW5 hW6 hg2
      cases fb
      · simp only [if_false, Bool.false_eq_true] at HSN
        go_upto_region 12 with (first | ((with_reducible refine (clamp_any _ _).mono ?_); rintro e w' ⟨rfl, rfl⟩; rw [← HSN.out]))
        refine Wl.start 10 (fun u => u.cell? ⟨p, 1, none⟩ = some vr) (fun u => u.heap[g3]? = some (.cells (kA z) TR (0, 0))) (by kernel_rfl) HC6.out HG6.out (fun hk => ?_)
        refine Wl.take (i := 0) (v := .pointer (some ⟨p, 0, none⟩)) [8, 9, 10] rfl (by kernel_rfl) (by kernel_rfl) (by kernel_rfl) (by kernel_rfl) (by kernel_rfl) (fun _ _ _ h => h) (.inl ⟨by kernel_rfl, ?_⟩) hk ?_
        · intro wx hSw
          clear hSw hk
          go_simp
          try first | with_reducible rfl | kernel_rfl
        simp only [Act.put, List.getElem_toArray, List.getElem_cons_succ, List.getElem_cons_zero, List.setIfInBounds_toArray, List.set_cons_succ, List.set_cons_zero]
        refine Wl.take (i := 1) (v := .pointer (some ⟨p, 0, none⟩)) [2, 3, 4, 7, 8, 9, 10] rfl (by kernel_rfl) (by kernel_rfl) (by kernel_rfl) (by kernel_rfl) (by kernel_rfl) (fun _ _ _ h => h) (.inl ⟨by kernel_rfl, ?_⟩) hk ?_
        · intro wx hSw
          clear hSw hk
          go_simp
          try first | with_reducible rfl | kernel_rfl
        simp only [Act.put, List.getElem_toArray, List.getElem_cons_succ, List.getElem_cons_zero, List.setIfInBounds_toArray, List.set_cons_succ, List.set_cons_zero]
        refine Wl.take (i := 2) (v := .pointer (some ⟨p, 0, none⟩)) [3, 4, 7, 8, 9, 10] rfl (by kernel_rfl) (by kernel_rfl) (by kernel_rfl) (by kernel_rfl) (by kernel_rfl) (fun _ _ _ h => h) (.inl ⟨by kernel_rfl, ?_⟩) hk ?_
        · intro wx hSw
          clear hSw hk
          go_simp
          try first | with_reducible rfl | kernel_rfl
        simp only [Act.put, List.getElem_toArray, List.getElem_cons_succ, List.getElem_cons_zero, List.setIfInBounds_toArray, List.set_cons_succ, List.set_cons_zero]
        refine Wl.take (i := 3) (v := .pointer (some ⟨p, 1, none⟩)) [4, 7, 8, 9, 10] rfl (by kernel_rfl) (by kernel_rfl) (by kernel_rfl) (by kernel_rfl) (by kernel_rfl) (fun _ _ _ h => h) (.inl ⟨by kernel_rfl, ?_⟩) hk ?_
        · intro wx hSw
          clear hSw hk
          go_simp
          try first | with_reducible rfl | kernel_rfl
        simp only [Act.put, List.getElem_toArray, List.getElem_cons_succ, List.getElem_cons_zero, List.setIfInBounds_toArray, List.set_cons_succ, List.set_cons_zero]
        refine Wl.take (i := 4) (v := vr) [7, 8, 9, 10] rfl (by kernel_rfl) (by kernel_rfl) (by kernel_rfl) (by kernel_rfl) (by kernel_rfl) (fun _ _ _ h => h) (.inl ⟨by kernel_rfl, ?_⟩) hk ?_
        · intro wx hSw
          have cc := hSw.1
          clear hSw hk
          go_simp
          try first | with_reducible rfl | kernel_rfl
        simp only [Act.put, List.getElem_toArray, List.getElem_cons_succ, List.getElem_cons_zero, List.setIfInBounds_toArray, List.set_cons_succ, List.set_cons_zero]
        refine Wl.take (i := 5) (v := .agg (kA z)) [6, 7, 8, 9, 10] rfl (by kernel_rfl) (by kernel_rfl) (by kernel_rfl) (by kernel_rfl) (by kernel_rfl) (fun _ _ _ h => h) (yieldsIf_load_mid (by rfl) _ _ rfl _ _ rfl (krC z) _ (fun w h => (fun j v hv => Wl.rng_of_row h.2 j v hv)) Try.underlying106 rfl (by kernel_rfl)) hk ?_
        simp only [Act.put, List.getElem_toArray, List.getElem_cons_succ, List.getElem_cons_zero, List.setIfInBounds_toArray, List.set_cons_succ, List.set_cons_zero]
        refine Wl.one (i := 6) (by kernel_rfl) rfl (fun K hK => ?_)
        go_simp
        try rw [hW7]
        refine hK.out _ _ (Wl.Kn.on HC7.out.1 HG7.out) (fun hk => ?_)
        clear hK K
        refine Wl.one (i := 7) (by kernel_rfl) rfl (fun K hK => ?_)
        refine stepRq krC_len Try.underlying95 rfl (by decide) info_kr rfl (.tmp 53) (.tmp 55) rfl w.heap.size vr ((T.take j).map keyX) rfl H7.out.h (.slice (some ⟨W6.heap.size, 0, none⟩) 1 1) [z] rfl HLIT.out (fun y hy => krC_one y) (by have := HJL.out.1; unfold maxLen; simp only [List.length_singleton]; omega) (by have := HJL.out.1; simp only [List.length_singleton]; omega) H7.out.o.2.2.2.1 ?_
        intro v8 w8 own8 gr8 or8
        obtain ⟨a8, c8, hv8⟩ := own_slice own8
        obtain ⟨L8, hL8⟩ : ∃ q, ((T.take j).map keyX ++ [z]).length = q := ⟨_, rfl⟩
        rw [hL8] at hv8
        subst hv8
        have hx8 := H7.out.held (x := x) (by rw [List.map_append, HZX.out]; exact own8) gr8 or8
        obtain ⟨W9, hW9⟩ : ∃ q, w8.setCell ⟨p, 1, none⟩ (.slice a8 L8 c8) = q := ⟨_, rfl⟩
        rw [hW9] at hx8
        have H9 := Lib.hid hx8.2
        obtain ⟨-, c81, c82, z8⟩ := krow hx8.1
        have hg8 : w8.heap[g3]? = some (.cells (kA z) TR (0, 0)) := (gr8.block _ (row_lt HG7.out) (fun e => HV3.out _ e.symm rfl)).trans HG7.out
        have HG9 : Hid (W9.heap[g3]? = some (.cells (kA z) TR (0, 0))) := Lib.hid (by rw [← hW9]; exact (heap_setCell_other w8 ⟨p, 1, none⟩ g3 _ HP3.out.symm).trans hg8)
        clear own8 gr8 or8 hx8 hL8
        refine hK.out _ _ (Wl.Kn.on c81 hg8) (fun hk => ?_)
        clear hK K
        refine Wl.take (i := 8) (v := .pointer (some ⟨p, 0, none⟩)) [9, 10] rfl (by kernel_rfl) (by kernel_rfl) (by kernel_rfl) (by kernel_rfl) (by kernel_rfl) (fun _ _ _ h => h) (.inl ⟨by kernel_rfl, ?_⟩) hk ?_
        · intro wx hSw
          clear hSw hk
          go_simp
          try first | with_reducible rfl | kernel_rfl
        simp only [Act.put, List.getElem_toArray, List.getElem_cons_succ, List.getElem_cons_zero, List.setIfInBounds_toArray, List.set_cons_succ, List.set_cons_zero]
        refine Wl.take (i := 9) (v := .pointer (some ⟨p, 1, none⟩)) [10] rfl (by kernel_rfl) (by kernel_rfl) (by kernel_rfl) (by kernel_rfl) (by kernel_rfl) (fun _ _ _ h => h) (.inl ⟨by kernel_rfl, ?_⟩) hk ?_
        · intro wx hSw
          clear hSw hk
          go_simp
          try first | with_reducible rfl | kernel_rfl
        simp only [Act.put, List.getElem_toArray, List.getElem_cons_succ, List.getElem_cons_zero, List.setIfInBounds_toArray, List.set_cons_succ, List.set_cons_zero]
        refine Wl.one (i := 10) (by kernel_rfl) rfl (fun K hK => ?_)
        go_simp
        try rw [hW9]
        refine hK.out _ _ (Wl.Kn.off (by kernel_rfl) HG9.out) (fun hk => ?_)
        clear hK K c81 c82 z8 hW9
        refine Wl.done (by kernel_rfl) ?_ _
        clear hk
        have H9d := Lib.hid H9.out.drew
        obtain ⟨w10, hrun10, h10⟩ := H9d.out.put (by rw [HKX.out]; exact HZW.out) (by have := HJL.out.2; omega) HNI.out
        rw [HKX.out] at hrun10
        have HRUN := Lib.hid hrun10
        have H10 := Lib.hid h10
        have HQ9 : Hid (W9.drew.cell? ⟨p, 2, none⟩ = some (.map (some g1)) ∧ W9.drew.heap[g3]? = some (.cells (kA z) TR (0, 0))) := Lib.hid ⟨(krow H9d.out.row).2.2.1, HG9.out⟩
        clear hrun10 h10
        go_upto_region 13 with fail
        refine Wl.start 6 (fun u => u.cell? ⟨p, 2, none⟩ = some (.map (some g1)) ∧ u.heap[g3]? = some (.cells (kA z) TR (0, 0))) (fun _ => True) (by kernel_rfl) HQ9.out trivial (fun hk => ?_)
        refine Wl.take (i := 0) (v := .pointer (some ⟨p, 0, none⟩)) [1, 2, 3, 6] rfl (by kernel_rfl) (by kernel_rfl) (by kernel_rfl) (by kernel_rfl) (by kernel_rfl) (fun _ _ _ h => h) (.inl ⟨by kernel_rfl, ?_⟩) hk ?_
        · intro wx hSw
          clear hSw hk
          go_simp
          try first | with_reducible rfl | kernel_rfl
        simp only [Act.put, List.getElem_toArray, List.getElem_cons_succ, List.getElem_cons_zero, List.setIfInBounds_toArray, List.set_cons_succ, List.set_cons_zero]
        refine Wl.take (i := 1) (v := .pointer (some ⟨p, 0, none⟩)) [2, 3, 6] rfl (by kernel_rfl) (by kernel_rfl) (by kernel_rfl) (by kernel_rfl) (by kernel_rfl) (fun _ _ _ h => h) (.inl ⟨by kernel_rfl, ?_⟩) hk ?_
        · intro wx hSw
          clear hSw hk
          go_simp
          try first | with_reducible rfl | kernel_rfl
        simp only [Act.put, List.getElem_toArray, List.getElem_cons_succ, List.getElem_cons_zero, List.setIfInBounds_toArray, List.set_cons_succ, List.set_cons_zero]
        refine Wl.take (i := 2) (v := .pointer (some ⟨p, 2, none⟩)) [3, 6] rfl (by kernel_rfl) (by kernel_rfl) (by kernel_rfl) (by kernel_rfl) (by kernel_rfl) (fun _ _ _ h => h) (.inl ⟨by kernel_rfl, ?_⟩) hk ?_
        · intro wx hSw
          clear hSw hk
          go_simp
          try first | with_reducible rfl | kernel_rfl
        simp only [Act.put, List.getElem_toArray, List.getElem_cons_succ, List.getElem_cons_zero, List.setIfInBounds_toArray, List.set_cons_succ, List.set_cons_zero]
        refine Wl.take (i := 3) (v := .map (some g1)) [6] rfl (by kernel_rfl) (by kernel_rfl) (by kernel_rfl) (by kernel_rfl) (by kernel_rfl) (fun _ _ _ h => h) (.inl ⟨by kernel_rfl, ?_⟩) hk ?_
        · intro wx hSw
          have cc := hSw.1.1
          clear hSw hk
          go_simp
          try first | with_reducible rfl | kernel_rfl
        simp only [Act.put, List.getElem_toArray, List.getElem_cons_succ, List.getElem_cons_zero, List.setIfInBounds_toArray, List.set_cons_succ, List.set_cons_zero]
        refine Wl.take (i := 4) (v := .agg (kA z)) [6] rfl (by kernel_rfl) (by kernel_rfl) (by kernel_rfl) (by kernel_rfl) (by kernel_rfl) (fun _ _ _ h => h) (yieldsIf_load_mid (by rfl) _ _ rfl _ _ rfl (krC z) _ (fun w h => (fun j v hv => Wl.rng_of_row h.1.2 j v hv)) Try.underlying106 rfl (by kernel_rfl)) hk ?_
        simp only [Act.put, List.getElem_toArray, List.getElem_cons_succ, List.getElem_cons_zero, List.setIfInBounds_toArray, List.set_cons_succ, List.set_cons_zero]
        refine Wl.take (i := 5) (v := .int .i64 x.since) [6] rfl (by kernel_rfl) (by kernel_rfl) (by kernel_rfl) (by kernel_rfl) (by kernel_rfl) (fun _ _ _ h => h) (.inl ⟨by kernel_rfl, ?_⟩) hk ?_
        · intro wx hSw
          clear hSw hk
          go_simp
          try first | with_reducible rfl | kernel_rfl
        simp only [Act.put, List.getElem_toArray, List.getElem_cons_succ, List.getElem_cons_zero, List.setIfInBounds_toArray, List.set_cons_succ, List.set_cons_zero]
        refine Wl.one (i := 6) (by kernel_rfl) rfl (fun K hK => ?_)
        have hrun := HRUN.out
        go_simp
        clear hrun
        refine hK.out _ _ (Wl.Kn.off (by kernel_rfl) trivial) (fun hk => ?_)
        clear hK K
        refine Wl.done (by kernel_rfl) ?_ _
        clear hk
        clear HQ9 HG9 HRUN H9 H9d
        go_wp2_with fail
        go_roundw
        case rel => exact ⟨j + 1, _, by omega, by go_num, Lib.hid (by rw [HTK.out]; exact H10.out)⟩
        case measure => simp [intOf]; omega
      · simp only [if_true] at HSN
        have e := HSN.out
        subst e
        go_upto_region 12 with fail
        refine Wl.start 10 (fun u => u.cell? ⟨p, 1, none⟩ = some vr) (fun u => u.heap[g3]? = some (.cells (kA z) TR (0, 0))) (by kernel_rfl) HC6.out HG6.out (fun hk => ?_)
        refine Wl.take (i := 0) (v := .pointer (some ⟨p, 0, none⟩)) [8, 9, 10] rfl (by kernel_rfl) (by kernel_rfl) (by kernel_rfl) (by kernel_rfl) (by kernel_rfl) (fun _ _ _ h => h) (.inl ⟨by kernel_rfl, ?_⟩) hk ?_
        · intro wx hSw
          clear hSw hk
          go_simp
          try first | with_reducible rfl | kernel_rfl
        simp only [Act.put, List.getElem_toArray, List.getElem_cons_succ, List.getElem_cons_zero, List.setIfInBounds_toArray, List.set_cons_succ, List.set_cons_zero]
        refine Wl.take (i := 1) (v := .pointer (some ⟨p, 0, none⟩)) [2, 3, 4, 7, 8, 9, 10] rfl (by kernel_rfl) (by kernel_rfl) (by kernel_rfl) (by kernel_rfl) (by kernel_rfl) (fun _ _ _ h => h) (.inl ⟨by kernel_rfl, ?_⟩) hk ?_
        · intro wx hSw
          clear hSw hk
          go_simp
          try first | with_reducible rfl | kernel_rfl
        simp only [Act.put, List.getElem_toArray, List.getElem_cons_succ, List.getElem_cons_zero, List.setIfInBounds_toArray, List.set_cons_succ, List.set_cons_zero]
        refine Wl.take (i := 2) (v := .pointer (some ⟨p, 0, none⟩)) [3, 4, 7, 8, 9, 10] rfl (by kernel_rfl) (by kernel_rfl) (by kernel_rfl) (by kernel_rfl) (by kernel_rfl) (fun _ _ _ h => h) (.inl ⟨by kernel_rfl, ?_⟩) hk ?_
        · intro wx hSw
          clear hSw hk
          go_simp
          try first | with_reducible rfl | kernel_rfl
        simp only [Act.put, List.getElem_toArray, List.getElem_cons_succ, List.getElem_cons_zero, List.setIfInBounds_toArray, List.set_cons_succ, List.set_cons_zero]
        refine Wl.take (i := 3) (v := .pointer (some ⟨p, 1, none⟩)) [4, 7, 8, 9, 10] rfl (by kernel_rfl) (by kernel_rfl) (by kernel_rfl) (by kernel_rfl) (by kernel_rfl) (fun _ _ _ h => h) (.inl ⟨by kernel_rfl, ?_⟩) hk ?_
        · intro wx hSw
          clear hSw hk
          go_simp
          try first | with_reducible rfl | kernel_rfl
        simp only [Act.put, List.getElem_toArray, List.getElem_cons_succ, List.getElem_cons_zero, List.setIfInBounds_toArray, List.set_cons_succ, List.set_cons_zero]
        refine Wl.take (i := 4) (v := vr) [7, 8, 9, 10] rfl (by kernel_rfl) (by kernel_rfl) (by kernel_rfl) (by kernel_rfl) (by kernel_rfl) (fun _ _ _ h => h) (.inl ⟨by kernel_rfl, ?_⟩) hk ?_
        · intro wx hSw
          have cc := hSw.1
          clear hSw hk
          go_simp
          try first | with_reducible rfl | kernel_rfl
        simp only [Act.put, List.getElem_toArray, List.getElem_cons_succ, List.getElem_cons_zero, List.setIfInBounds_toArray, List.set_cons_succ, List.set_cons_zero]
        refine Wl.take (i := 5) (v := .agg (kA z)) [6, 7, 8, 9, 10] rfl (by kernel_rfl) (by kernel_rfl) (by kernel_rfl) (by kernel_rfl) (by kernel_rfl) (fun _ _ _ h => h) (yieldsIf_load_mid (by rfl) _ _ rfl _ _ rfl (krC z) _ (fun w h => (fun j v hv => Wl.rng_of_row h.2 j v hv)) Try.underlying106 rfl (by kernel_rfl)) hk ?_
        simp only [Act.put, List.getElem_toArray, List.getElem_cons_succ, List.getElem_cons_zero, List.setIfInBounds_toArray, List.set_cons_succ, List.set_cons_zero]
        refine Wl.one (i := 6) (by kernel_rfl) rfl (fun K hK => ?_)
        go_simp
        try rw [hW7]
        refine hK.out _ _ (Wl.Kn.on HC7.out.1 HG7.out) (fun hk => ?_)
        clear hK K
        refine Wl.one (i := 7) (by kernel_rfl) rfl (fun K hK => ?_)
        refine stepRq krC_len Try.underlying95 rfl (by decide) info_kr rfl (.tmp 53) (.tmp 55) rfl w.heap.size vr ((T.take j).map keyX) rfl H7.out.h (.slice (some ⟨W6.heap.size, 0, none⟩) 1 1) [z] rfl HLIT.out (fun y hy => krC_one y) (by have := HJL.out.1; unfold maxLen; simp only [List.length_singleton]; omega) (by have := HJL.out.1; simp only [List.length_singleton]; omega) H7.out.o.2.2.2.1 ?_
        intro v8 w8 own8 gr8 or8
        obtain ⟨a8, c8, hv8⟩ := own_slice own8
        obtain ⟨L8, hL8⟩ : ∃ q, ((T.take j).map keyX ++ [z]).length = q := ⟨_, rfl⟩
        rw [hL8] at hv8
        subst hv8
        have hx8 := H7.out.held (x := x) (by rw [List.map_append, HZX.out]; exact own8) gr8 or8
        obtain ⟨W9, hW9⟩ : ∃ q, w8.setCell ⟨p, 1, none⟩ (.slice a8 L8 c8) = q := ⟨_, rfl⟩
        rw [hW9] at hx8
        have H9 := Lib.hid hx8.2
        obtain ⟨-, c81, c82, z8⟩ := krow hx8.1
        have hg8 : w8.heap[g3]? = some (.cells (kA z) TR (0, 0)) := (gr8.block _ (row_lt HG7.out) (fun e => HV3.out _ e.symm rfl)).trans HG7.out
        have HG9 : Hid (W9.heap[g3]? = some (.cells (kA z) TR (0, 0))) := Lib.hid (by rw [← hW9]; exact (heap_setCell_other w8 ⟨p, 1, none⟩ g3 _ HP3.out.symm).trans hg8)
        clear own8 gr8 or8 hx8 hL8
        refine hK.out _ _ (Wl.Kn.on c81 hg8) (fun hk => ?_)
        clear hK K
        refine Wl.take (i := 8) (v := .pointer (some ⟨p, 0, none⟩)) [9, 10] rfl (by kernel_rfl) (by kernel_rfl) (by kernel_rfl) (by kernel_rfl) (by kernel_rfl) (fun _ _ _ h => h) (.inl ⟨by kernel_rfl, ?_⟩) hk ?_
        · intro wx hSw
          clear hSw hk
          go_simp
          try first | with_reducible rfl | kernel_rfl
        simp only [Act.put, List.getElem_toArray, List.getElem_cons_succ, List.getElem_cons_zero, List.setIfInBounds_toArray, List.set_cons_succ, List.set_cons_zero]
        refine Wl.take (i := 9) (v := .pointer (some ⟨p, 1, none⟩)) [10] rfl (by kernel_rfl) (by kernel_rfl) (by kernel_rfl) (by kernel_rfl) (by kernel_rfl) (fun _ _ _ h => h) (.inl ⟨by kernel_rfl, ?_⟩) hk ?_
        · intro wx hSw
          clear hSw hk
          go_simp
          try first | with_reducible rfl | kernel_rfl
        simp only [Act.put, List.getElem_toArray, List.getElem_cons_succ, List.getElem_cons_zero, List.setIfInBounds_toArray, List.set_cons_succ, List.set_cons_zero]
        refine Wl.one (i := 10) (by kernel_rfl) rfl (fun K hK => ?_)
        go_simp
        try rw [hW9]
        refine hK.out _ _ (Wl.Kn.off (by kernel_rfl) HG9.out) (fun hk => ?_)
        clear hK K c81 c82 z8 hW9
        refine Wl.done (by kernel_rfl) ?_ _
        clear hk
        have H9d := Lib.hid H9.out.drew
        obtain ⟨w10, hrun10, h10⟩ := H9d.out.put (by rw [HKX.out]; exact HZW.out) (by have := HJL.out.2; omega) HNI.out
        rw [HKX.out] at hrun10
        have HRUN := Lib.hid hrun10
        have H10 := Lib.hid h10
        have HQ9 : Hid (W9.drew.cell? ⟨p, 2, none⟩ = some (.map (some g1)) ∧ W9.drew.heap[g3]? = some (.cells (kA z) TR (0, 0))) := Lib.hid ⟨(krow H9d.out.row).2.2.1, HG9.out⟩
        clear hrun10 h10
        go_upto_region 13 with fail
        refine Wl.start 6 (fun u => u.cell? ⟨p, 2, none⟩ = some (.map (some g1)) ∧ u.heap[g3]? = some (.cells (kA z) TR (0, 0))) (fun _ => True) (by kernel_rfl) HQ9.out trivial (fun hk => ?_)
        refine Wl.take (i := 0) (v := .pointer (some ⟨p, 0, none⟩)) [1, 2, 3, 6] rfl (by kernel_rfl) (by kernel_rfl) (by kernel_rfl) (by kernel_rfl) (by kernel_rfl) (fun _ _ _ h => h) (.inl ⟨by kernel_rfl, ?_⟩) hk ?_
        · intro wx hSw
          clear hSw hk
          go_simp
          try first | with_reducible rfl | kernel_rfl
        simp only [Act.put, List.getElem_toArray, List.getElem_cons_succ, List.getElem_cons_zero, List.setIfInBounds_toArray, List.set_cons_succ, List.set_cons_zero]
        refine Wl.take (i := 1) (v := .pointer (some ⟨p, 0, none⟩)) [2, 3, 6] rfl (by kernel_rfl) (by kernel_rfl) (by kernel_rfl) (by kernel_rfl) (by kernel_rfl) (fun _ _ _ h => h) (.inl ⟨by kernel_rfl, ?_⟩) hk ?_
        · intro wx hSw
          clear hSw hk
          go_simp
          try first | with_reducible rfl | kernel_rfl
        simp only [Act.put, List.getElem_toArray, List.getElem_cons_succ, List.getElem_cons_zero, List.setIfInBounds_toArray, List.set_cons_succ, List.set_cons_zero]
        refine Wl.take (i := 2) (v := .pointer (some ⟨p, 2, none⟩)) [3, 6] rfl (by kernel_rfl) (by kernel_rfl) (by kernel_rfl) (by kernel_rfl) (by kernel_rfl) (fun _ _ _ h => h) (.inl ⟨by kernel_rfl, ?_⟩) hk ?_
        · intro wx hSw
          clear hSw hk
          go_simp
          try first | with_reducible rfl | kernel_rfl
        simp only [Act.put, List.getElem_toArray, List.getElem_cons_succ, List.getElem_cons_zero, List.setIfInBounds_toArray, List.set_cons_succ, List.set_cons_zero]
        refine Wl.take (i := 3) (v := .map (some g1)) [6] rfl (by kernel_rfl) (by kernel_rfl) (by kernel_rfl) (by kernel_rfl) (by kernel_rfl) (fun _ _ _ h => h) (.inl ⟨by kernel_rfl, ?_⟩) hk ?_
        · intro wx hSw
          have cc := hSw.1.1
          clear hSw hk
          go_simp
          try first | with_reducible rfl | kernel_rfl
        simp only [Act.put, List.getElem_toArray, List.getElem_cons_succ, List.getElem_cons_zero, List.setIfInBounds_toArray, List.set_cons_succ, List.set_cons_zero]
        refine Wl.take (i := 4) (v := .agg (kA z)) [6] rfl (by kernel_rfl) (by kernel_rfl) (by kernel_rfl) (by kernel_rfl) (by kernel_rfl) (fun _ _ _ h => h) (yieldsIf_load_mid (by rfl) _ _ rfl _ _ rfl (krC z) _ (fun w h => (fun j v hv => Wl.rng_of_row h.1.2 j v hv)) Try.underlying106 rfl (by kernel_rfl)) hk ?_
        simp only [Act.put, List.getElem_toArray, List.getElem_cons_succ, List.getElem_cons_zero, List.setIfInBounds_toArray, List.set_cons_succ, List.set_cons_zero]
        refine Wl.take (i := 5) (v := .int .i64 x.since) [6] rfl (by kernel_rfl) (by kernel_rfl) (by kernel_rfl) (by kernel_rfl) (by kernel_rfl) (fun _ _ _ h => h) (.inl ⟨by kernel_rfl, ?_⟩) hk ?_
        · intro wx hSw
          clear hSw hk
          go_simp
          try first | with_reducible rfl | kernel_rfl
        simp only [Act.put, List.getElem_toArray, List.getElem_cons_succ, List.getElem_cons_zero, List.setIfInBounds_toArray, List.set_cons_succ, List.set_cons_zero]
        refine Wl.one (i := 6) (by kernel_rfl) rfl (fun K hK => ?_)
        have hrun := HRUN.out
        go_simp
        clear hrun
        refine hK.out _ _ (Wl.Kn.off (by kernel_rfl) trivial) (fun hk => ?_)
        clear hK K
        refine Wl.done (by kernel_rfl) ?_ _
        clear hk
        clear HQ9 HG9 HRUN H9 H9d
        go_wp2_with fail
        go_roundw
        case rel => exact ⟨j + 1, _, by omega, by go_num, Lib.hid (by rw [HTK.out]; exact H10.out)⟩
        case measure => simp [intOf]; omega
    · obtain rfl : j = l.held.length := by omega
      have HEND : Hid (Mc.Left (KpX p n T) S w wr) := Lib.hid (by
        have h1 := HR.out
        rw [List.take_of_length_le (Nat.le_of_eq HTL.out.1)] at h1
        exact h1.fin HTO.out)
      clear HR
      go_wp2_with fail
      (try simp only [Exit.inBlock, Exit.then])
      refine bodyPost_end (results_none rfl _ _ _) rfl ?_
      exact ⟨rfl, HT.out ▸ HEND.out⟩
end Ls
end Go.Proofs.Ytgbblegcjladaaa
