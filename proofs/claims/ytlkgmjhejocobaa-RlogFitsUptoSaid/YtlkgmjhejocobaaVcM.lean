/- Package values: CopyCmd, CopyEntry. No condition. slices.Clone of entries; an entry stored into a row of entries. No condition. values.CopyEntries. No condition. -/
import Derived.Test.YtlkgmjhejocobaaHdC
import Derived.Test.YtlkgmjhejocobaaHdS
import Derived.Test.YtlkgmjhejocobaaIns
namespace Go.Proofs.Ytlkgmjhejocobaa
open Go.ChangeShapes Go.WideShapes Go.ChangeAt Go.RowKit
set_option linter.unusedVariables false
set_option maxRecDepth 100000
namespace Vc
open Cm
set_option maxHeartbeats 1000000 in
theorem cmd_own (c : Cmd) (v : Value) (w : World) (h : IsCmd w v c) (hb8 : c.nodes.length * 8 ≤ 140737488351232) :
    Calls Try.prog 105 #[v] w (GivesCmdO c w) := by
  obtain ⟨vn, rfl, hsl, hwf⟩ := h
  have hb0 : ∀ A B, Below w.heap.size w ((w.alloc (.cells A 45)).alloc (.cells B 45)) := fun A B => ((Below.refl _ _).alloc (Nat.le_refl _) _).alloc (by simp) _
  have H0 := Lib.hid hb0
  have HS := Lib.hid (fun A B => hsl.below (hb0 A B) (Nat.le_refl _))
  clear hb0 hsl hwf
  go_enter Try.func105, Try.ntmps105
  go_wp2_with fail
  refine (Cl.clone_any c.nodes _ _ (HS.out _ _) hb8).mono ?_
  rintro e w1 ⟨v1, rfl, own1, hs1, hbq⟩
  obtain ⟨a1, cap1, rfl, -⟩ := id hs1
  have hb1 : Below (w.heap.size + 2) _ w1 := hbq.mono (by simp)
  obtain ⟨hh, hh2⟩ := copy_blocks hb1
  have hcell := copy_cell hh
  have hfz := frozen_of_row w1 w.heap.size 3 _ _ hh
  have hst := copy_store hh (.slice a1 c.nodes.length cap1)
  have hst2 := (heap_setCell_other w1 ⟨w.heap.size, 3, none⟩ (w.heap.size + 1) (.slice a1 c.nodes.length cap1) (by simp)).trans hh2
  have HB1 := Lib.hid hb1
  have HOW : Hid (OwnI w1 (w.heap.size + 2) (.slice a1 c.nodes.length cap1) c.nodes) := Lib.hid (OwnK.lower own1 (by simp))
  clear own1 hs1 hbq hb1 hh hh2
  go_wp2_with (first
    | (refine wpList_load_row rfl 45 (.tmp 1) rfl w.heap.size rfl 45 (cArr c (.slice a1 c.nodes.length cap1)) (0, 0) _ hst Try.underlying45 rfl (by kernel_rfl) ?_)
    | (refine wpList_store_row rfl 45 (.tmp 2) (.tmp 7) rfl (w.heap.size + 1) (cArr c (.slice a1 c.nodes.length cap1)) rfl rfl 45 _ hst2 (by kernel_rfl) rfl (cArr_one _ _ _ _) ?_))
  refine bodyPost_ret (v := .agg (cArr c (.slice a1 c.nodes.length cap1))) (results_cell_row rfl _ _ (w.heap.size + 1) 45 _ (0, 0) _ rfl (setRow_heap _ _ _ _ _ _ hst2) Try.underlying45 rfl (by kernel_rfl)) rfl ?_
  have hBx : Below w.heap.size w w1 := (H0.out _ _).trans (HB1.out.mono (by omega))
  have hB2 : Below w.heap.size w ((w1.setCell ⟨w.heap.size, 3, none⟩ (.slice a1 c.nodes.length cap1)).setRow (w.heap.size + 1) (cArr c (.slice a1 c.nodes.length cap1))) := below_setRow (hBx.setCell (Nat.le_refl _) _) (by omega) _
  exact ⟨_, rfl, OwnK.lower (own_past HOW.out (by omega) (by omega)) (by omega), hB2⟩
theorem mid8 {w2 : World} {g : Nat} {x : Ent} {vn : Value} (h : w2.heap[g]? = some (.cells (entC (x, vn)).toArray 47 (0, 0))) (un : Value) : (w2.setCells g 1 (cArr x.cmd un).toList).heap[g]? = some (.cells (entC (x, un)).toArray 47 (0, 0)) := by
  show ((((((((w2.setCell ⟨g, 1, none⟩ (.int .i64 x.cmd.kind)).setCell ⟨g, 2, none⟩ (.int .i64 x.cmd.node)).setCell ⟨g, 3, none⟩ (.int .i64 x.cmd.token)).setCell ⟨g, 4, none⟩ un).setCell ⟨g, 5, none⟩ (.int .u64 x.cmd.boot)).setCell ⟨g, 6, none⟩ (.int .u64 x.cmd.seq)).setCell ⟨g, 7, none⟩ (.int .u64 x.cmd.serial)).setCell ⟨g, 8, none⟩ (.int .u64 x.cmd.stamp)).heap[g]? = _
  rw [heap_setCell_same _ g 8 _ _ (.int .u64 x.cmd.stamp) (heap_setCell_same _ g 7 _ _ (.int .u64 x.cmd.serial) (heap_setCell_same _ g 6 _ _ (.int .u64 x.cmd.seq) (heap_setCell_same _ g 5 _ _ (.int .u64 x.cmd.boot) (heap_setCell_same _ g 4 _ _ un (heap_setCell_same _ g 3 _ _ (.int .i64 x.cmd.token) (heap_setCell_same _ g 2 _ _ (.int .i64 x.cmd.node) (heap_setCell_same w2 g 1 _ _ (.int .i64 x.cmd.kind) h)))))))]
  simp only [List.setIfInBounds_toArray, List.set_cons_zero, List.set_cons_succ]
theorem there8 {w2 : World} {g : Nat} {x : Ent} {vn : Value} (h : w2.heap[g]? = some (.cells (entC (x, vn)).toArray 47 (0, 0))) : w2.there g 1 8 := by
  intro j hj
  refine ⟨?_, frozen_of_row w2 g (1 + j) _ _ h⟩
  rw [cell_of_row w2 g (1 + j) _ _ _ h, Array.getElem?_eq_getElem (by simp; omega)]
  rfl
theorem ent_all (x : Ent) (a : Option Addr) (i j : Nat) : ((entC (x, .slice a i j)).toArray).all (·.oneCell') = true := by simp [Value.oneCell']
/-- an entry whose list is the call's own -/
def GivesEntO (x : Ent) (w : World) (e : Ending) (w' : World) : Prop := ∃ vn, e = .returned (.agg (entC (x, vn)).toArray) ∧ OwnK .i64 3 w' w.heap.size vn x.cmd.nodes ∧ Below w.heap.size w w'
set_option maxHeartbeats 2000000 in
theorem ent_own (x : Ent) (v : Value) (w : World) (h : Hd.IsEnt w v x) (hb8 : IsCmd.fits x.cmd) :
    Calls Try.prog 59 #[v] w (GivesEntO x w) := by
  obtain ⟨vn, rfl, hsl, hwf⟩ := h
  obtain ⟨a0, c0, rfl, -⟩ := id hsl
  have hb0 : ∀ A B, Below w.heap.size w ((w.alloc (.cells A 47)).alloc (.cells B 47)) := fun A B => ((Below.refl _ _).alloc (Nat.le_refl _) _).alloc (by simp) _
  have H0 := Lib.hid hb0
  have HS := Lib.hid (fun A B => (⟨_, rfl, hsl.below (hb0 A B) (Nat.le_refl _), hwf.2⟩ : IsCmd _ (.agg (cArr x.cmd (.slice a0 x.cmd.nodes.length c0))) x.cmd))
  have HNW := Lib.hid hsl.wf
  clear hb0 hsl hwf
  go_enter Try.func59, Try.ntmps59
  go_wp2_with fail
  refine (cmd_own x.cmd _ _ (HS.out _ _) hb8).mono ?_
  rintro e w1 ⟨un, rfl, own1, hbq⟩
  obtain ⟨a1, k1, rfl, -⟩ := own1.sl HNW.out
  have hA1 := (hbq.block w.heap.size (by simp; omega)).trans (heap_alloc2_old w _ _)
  have hB1 := (hbq.block (w.heap.size + 1) (by simp)).trans (heap_alloc2_new w _ _)
  have hth := there8 hA1
  have HA2 := Lib.hid (mid8 hA1 (.slice a1 x.cmd.nodes.length k1))
  have HB2 := Lib.hid ((cells_other (g := w.heap.size) (k := w.heap.size + 1) (by omega) (cArr x.cmd (.slice a1 x.cmd.nodes.length k1)).toList 1 w1).trans hB1)
  have HBW : Hid (Below w.heap.size w _) := Lib.hid (below_cells (g := w.heap.size) (Nat.le_refl _) (cArr x.cmd (.slice a1 x.cmd.nodes.length k1)).toList 1 _ ((H0.out _ _).trans (hbq.mono (by simp; omega))))
  have O1 : Hid (OwnI _ (w.heap.size + 2) _ x.cmd.nodes) := Lib.hid (owns_cells (g := w.heap.size) (by omega) (cArr x.cmd (.slice a1 x.cmd.nodes.length k1)).toList 1 _ (OwnK.lower own1 (by simp)))
  clear hbq hA1 hB1 own1
  generalize hW2 : w1.setCells w.heap.size 1 (cArr x.cmd (.slice a1 x.cmd.nodes.length k1)).toList = W2 at HA2 HB2 HBW O1
  have hA2 := HA2.out
  have hB2 := HB2.out
  go_wp2_with (first
    | (refine wpList_store_mid rfl 45 (.tmp 6) (.tmp 5) rfl w.heap.size 1 (cArr x.cmd (.slice a1 x.cmd.nodes.length k1)) rfl rfl hth (by kernel_rfl) (cArr_one _ _ _ _) ?_; rw [hW2]; clear hW2 hth)
    | (refine wpList_load_row rfl 47 (.tmp 1) rfl w.heap.size rfl 47 (entC (x, .slice a1 x.cmd.nodes.length k1)).toArray (0, 0) _ hA2 Try.underlying47 rfl (by kernel_rfl) ?_)
    | (refine wpList_store_row rfl 47 (.tmp 2) (.tmp 7) rfl (w.heap.size + 1) (entC (x, .slice a1 x.cmd.nodes.length k1)).toArray rfl rfl 47 _ hB2 (by kernel_rfl) rfl (ent_all _ _ _ _) ?_))
  refine bodyPost_ret (v := .agg (entC (x, .slice a1 x.cmd.nodes.length k1)).toArray) (results_cell_row rfl _ _ (w.heap.size + 1) 47 _ (0, 0) _ rfl (setRow_heap _ _ _ _ _ _ HB2.out) Try.underlying47 rfl (by kernel_rfl)) rfl ?_
  have q1 : OwnI _ (w.heap.size + 2) _ x.cmd.nodes := owns_row (g := w.heap.size + 1) (cs := (entC (x, .slice a1 x.cmd.nodes.length k1)).toArray) O1.out (by omega)
  exact ⟨_, rfl, OwnK.lower q1 (by omega), Ld.below_row HBW.out (by omega) _⟩
end Vc
end Go.Proofs.Ytlkgmjhejocobaa
namespace Go.Proofs.Ytlkgmjhejocobaa
open Go.ChangeShapes Go.WideShapes Go.ChangeAt Go.RowKit
set_option linter.unusedVariables false
set_option maxRecDepth 100000
namespace Vc
theorem appE {w : World} {ops : Array Oper} {rest : List Oper} {o : Oper} {a : Act} {Q : Exit → Act → World → Prop} (hgd : o.guard = none) (s x : Operand)
    (ho : o.op = .call { callee := .builtin .append, args := #[s, x], argTypes := #[41, 41] }) (base : Nat)
    (v : Value) (xs : List ERow) (hs : a.eval s = v) (hown : OwnR 9 entC 47 w base v xs) (u : Value) (zs : List ERow) (hx : a.eval x = u) (hsl : SlR 9 entC w u zs) (h1c : ∀ r ∈ zs, ∀ q ∈ entC r, q.oneCell' = true)
    (h63 : xs.length + zs.length ≤ maxLen) (hb : (xs.length + zs.length) * 88 ≤ 140737488355328) (hbase : base ≤ w.heap.size)
    (h : ∀ v' w', OwnR 9 entC 47 w' base v' (xs ++ zs) → Below base w w' → wpList Try.prog ops Q rest (a.put o.dst v') w') : wpList Try.prog ops Q (o :: rest) a w := by
  obtain ⟨i0, hi, hz0, hz1, hz2⟩ := info_parts info_ent
  refine wp_app hgd s x 41 ho base 47 i0 _ 9 88 Try.underlying41 hi hz0 hz1 hz2 rfl (by decide) v xs.length _ hs hown u zs.length (zs.flatMap entC) hx (hsl.src entC_len) (flat_len entC_len zs) (fun u hu => ?_) h63 hb hbase ?_
  · obtain ⟨y, hy1, hy⟩ := List.mem_flatMap.1 hu
    exact h1c y hy1 u hy
  · intro v' w' hown' hgrow
    refine h v' w' ?_ (Below.own (Below.refl _ _) hbase hown hgrow)
    unfold OwnR
    rw [List.flatMap_append, List.length_append]
    exact hown'
theorem ents_one {w : World} {rows : List ERow} (h : Ents w rows) : ∀ r ∈ rows, ∀ u ∈ entC r, u.oneCell' = true := by
  intro r hr u hu
  obtain ⟨a, c, e, -⟩ := (h r hr).1
  obtain ⟨x, vr⟩ := r
  simp only [] at e
  subst e
  simp [entC] at hu
  rcases hu with rfl | rfl | rfl | rfl | rfl | rfl | rfl | rfl | rfl <;> rfl
theorem ownE_new (w : World) (g : Nat) (hg : w.heap.size = g) {B : Nat} (hB : B ≤ g) : OwnR 9 entC 47 (w.alloc (.cells #[] 47)) B (.slice (some ⟨g, 0, none⟩) 0 0) ([] : List ERow) := by
  subst hg
  exact ⟨rfl, .inr ⟨w.heap.size, 0, #[], rfl, hB, heap_alloc_new _ _, Nat.le_refl _, Nat.zero_le _, rfl, rfl⟩⟩
/-- a row of its own with the same entries; their lists are shared -/
def ClonedE (rows : List ERow) (w : World) (e : Ending) (w' : World) : Prop := ∃ u, e = .returned u ∧ OwnR 9 entC 47 w' w.heap.size u rows ∧ Below w.heap.size w w'
set_option maxHeartbeats 1000000 in
theorem clone_any (rows : List ERow) (v : Value) (w : World) (h : SlR 9 entC w v rows) (he : Ents w rows) (hb8 : rows.length * 88 ≤ 140737488351232) :
    Calls Try.prog 127 #[v] w (ClonedE rows w) := by
  have H1 := Lib.hid (ents_one he)
  have hml := h.len
  have HS := Lib.hid (fun A => h.below ((Below.refl w.heap.size w).alloc (Nat.le_refl _) (.cells A 47)) (Nat.le_refl _))
  obtain ⟨a, cap, rfl, h1, h2, h4⟩ := h
  rcases h4 with ⟨rfl, rfl, hnil⟩ | ⟨b, off, sp, rfl, h5⟩
  · subst hnil
    clear HS
    have hq : ∀ w' : World, (binOp BinOp.eql 41 (.slice none 0 0) (.slice none 0 0)).run Try.prog w' = .ok (.bool true) w' := fun _ => by first | kernel_rfl | rfl
    go_enter Try.func127, Try.ntmps127
    go_wp2
    go_ret
    exact ⟨_, rfl, OwnR.nil _ _ _, Below.refl _ _⟩
  · clear h5
    have hq : ∀ w' : World, (binOp BinOp.eql 41 (.slice (some ⟨b, off, sp⟩) rows.length cap) (.slice none 0 0)).run Try.prog w' = .ok (.bool false) w' := fun _ => by first | kernel_rfl | rfl
    go_enter Try.func127, Try.ntmps127
    go_wp2_with (at_builtin; (refine appE rfl _ _ rfl w.heap.size _ [] rfl (ownE_new w w.heap.size rfl (Nat.le_refl _)) _ rows rfl (HS.out _) H1.out (by simpa using hml) (by simp; omega) (by simp) ?_; intro v1 w1 hown1 hb1; rw [List.nil_append] at hown1))
    go_ret
    exact ⟨_, rfl, hown1, ((Below.refl _ _).alloc (Nat.le_refl _) _).trans hb1⟩
/-- cells stored one behind the other into a row of the call's own -/
theorem stored_cells {base e size g n cap : Nat} : ∀ (L : List Value) (o : Nat) (w : World) (xs : List Value), w.ownsRow base e size (.slice (some ⟨g, 0, none⟩) n cap) n xs →
    ∃ ys, (w.setCells g o L).ownsRow base e size (.slice (some ⟨g, 0, none⟩) n cap) n ys ∧ ∀ j, ys[j]? = if o ≤ j ∧ j < o + L.length ∧ j < xs.length then L[j - o]? else xs[j]?
  | [], o, w, xs, h => ⟨xs, h, fun j => by rw [if_neg (by simp; omega)]⟩
  | u :: L, o, w, xs, h => by
    obtain ⟨ys, h1, h2⟩ := stored_cells L (o + 1) _ _ (h.stored o u).1
    refine ⟨ys, h1, fun j => ?_⟩
    rw [h2 j, List.length_set]
    by_cases c1 : o + 1 ≤ j ∧ j < o + 1 + L.length ∧ j < xs.length
    · rw [if_pos c1, if_pos (by simp only [List.length_cons]; omega), show j - o = (j - (o + 1)) + 1 by omega, List.getElem?_cons_succ]
    · rw [if_neg c1, List.getElem?_set]
      by_cases c2 : o = j
      · subst c2
        by_cases c3 : o < xs.length
        · rw [if_pos rfl, if_pos c3, if_pos (by simp only [List.length_cons]; omega), Nat.sub_self, List.getElem?_cons_zero]
        · rw [if_pos rfl, if_neg c3, if_neg (by omega), List.getElem?_eq_none (by omega)]
      · rw [if_neg c2, if_neg (by simp only [List.length_cons]; omega)]
theorem flat_set (rows : List ERow) (k : Nat) (r : ERow) (hk : k < rows.length) (ys : List Value) (hy : ∀ j, ys[j]? = if k * 9 ≤ j ∧ j < k * 9 + (entC r).length ∧ j < (rows.flatMap entC).length then (entC r)[j - k * 9]? else (rows.flatMap entC)[j]?) : ys = (rows.set k r).flatMap entC := by
  have hl := flat_len entC_len rows
  have hl2 : ((rows.set k r).flatMap entC).length = rows.length * 9 := by rw [flat_len entC_len, List.length_set]
  apply List.ext_getElem?
  intro j
  rw [hy j, hl]
  by_cases c : j < rows.length * 9
  · have hi : j / 9 < rows.length := by omega
    have hj : j = (j / 9) * 9 + j % 9 := by omega
    have h9 : j % 9 < 9 := by omega
    have e9 : (entC r).length = 9 := rfl
    by_cases c2 : j / 9 = k
    · rw [if_pos (by rw [e9]; omega)]
      obtain ⟨u, hu⟩ : ∃ u, (entC r)[j % 9]? = some u := ⟨_, List.getElem?_eq_getElem (by rw [e9]; exact h9)⟩
      rw [show j - k * 9 = j % 9 by omega, hu]
      have := flat_at entC_len (rows.set k r) (j / 9) (j % 9) r u (by rw [c2, List.getElem?_set, if_pos rfl, if_pos hk]) hu
      rw [← hj] at this
      exact this.symm
    · have e99 : (entC rows[j / 9]).length = 9 := rfl
      rw [if_neg (by rw [e9]; omega)]
      obtain ⟨u, hu⟩ : ∃ u, (entC rows[j / 9])[j % 9]? = some u := ⟨_, List.getElem?_eq_getElem (by rw [e99]; exact h9)⟩
      have h1 := flat_at entC_len rows (j / 9) (j % 9) _ u (List.getElem?_eq_getElem hi) hu
      have h2 := flat_at entC_len (rows.set k r) (j / 9) (j % 9) rows[j / 9] u (by rw [List.getElem?_set, if_neg (by omega)]; exact List.getElem?_eq_getElem hi) hu
      rw [← hj] at h1 h2
      rw [h1, h2]
  · rw [if_neg (by omega), List.getElem?_eq_none (by omega), List.getElem?_eq_none (by omega)]
/-- an entry stored whole into a row of the call's own -/
theorem stored_ent {w : World} {B g cap : Nat} {rows : List ERow} {e : TypeId} (h : OwnR 9 entC e w B (.slice (some ⟨g, 0, none⟩) rows.length cap) rows) (k : Nat) (hk : k < rows.length) (r : ERow) :
    OwnR 9 entC e (w.setCells g (k * 9) (entC r)) B (.slice (some ⟨g, 0, none⟩) rows.length cap) (rows.set k r) := by
  obtain ⟨ys, h1, h2⟩ := stored_cells (entC r) (k * 9) w _ h
  have := flat_set rows k r hk ys h2
  subst this
  unfold OwnR
  rw [List.length_set]
  exact h1
end Vc
end Go.Proofs.Ytlkgmjhejocobaa
namespace Go.Proofs.Ytlkgmjhejocobaa
open Go.ChangeShapes Go.WideShapes Go.ChangeAt Go.RowKit
set_option linter.unusedVariables false
set_option maxRecDepth 100000
namespace Vc
open Hd
theorem cells_grown {g : Nat} : ∀ (L : List Value) (o : Nat) (w : World), w.grownBy (w.setCells g o L) (some g)
  | [], _, w => ⟨rfl, rfl, rfl, Nat.le_refl _, fun _ _ _ => rfl⟩
  | u :: L, o, w => by
    have h := cells_grown (g := g) L (o + 1) (w.setCell ⟨g, o, none⟩ u)
    refine ⟨h.os.trans rfl, h.tape.trans rfl, h.output.trans rfl, Nat.le_trans (m := (w.setCell ⟨g, o, none⟩ u).heap.size) (Nat.le_of_eq (by simp)) h.size, fun k hk hne => (h.block k (by simpa using hk) hne).trans (heap_setCell_other _ _ _ _ (fun e => hne (by rw [e])))⟩
theorem there_own {w : World} {B g cap : Nat} {rows : List ERow} {e : TypeId} (h : OwnR 9 entC e w B (.slice (some ⟨g, 0, none⟩) rows.length cap) rows) (k : Nat) (hk : k < rows.length) : w.there g (k * 9) 9 := by
  intro j hj
  have e9 : (entC rows[k]).length = 9 := rfl
  have hc := World.ownsRow.cells h (g := g) rfl (k * 9 + j) _ (flat_at entC_len rows k j _ _ (List.getElem?_eq_getElem hk) (List.getElem?_eq_getElem (by rw [e9]; exact hj)))
  rw [add_plain, Nat.zero_add] at hc
  exact ⟨by rw [hc]; rfl, h.frozenAt _⟩
/-- the first k lists are the call's own and lie elsewhere -/
def EntsP (w : World) (B : Nat) (ob : Option Nat) (rs : List ERow) (k : Nat) : Prop := ∀ j r, rs[j]? = some r → j < k → OwnK .i64 3 w B r.2 r.1.cmd.nodes ∧ ∀ q, r.2.ownBlock = some q → some q ≠ ob
set_option maxHeartbeats 4000000 in
theorem entries_own (log : List Ent) (v : Value) (w : World) (h : IsLog w v log) (hf : log.length * 88 ≤ 140737488351232) (hfc : ∀ x ∈ log, IsCmd.fits x.cmd) :
    Calls Try.prog 104 #[v] w (GivesLogO log w) := by
  obtain ⟨rows, hs, he, rfl⟩ := h
  rw [List.length_map] at hf
  have HE := Lib.hid he
  have HF := Lib.hid hfc
  go_enter Try.func104, Try.ntmps104
  go_wp2_with fail
  refine (clone_any rows _ _ hs he hf).mono ?_
  rintro e w1 ⟨u, rfl, own1, hb1⟩
  obtain ⟨a3, c3, rfl, hc1, hc2, -⟩ := own1.sl entC_len
  unfold maxLen at hc2
  clear hs he hfc
  go_wp2
  go_loopw [10] (fun i wr => ∃ (k : Nat) (rs : List ERow), k ≤ rows.length ∧ i = .int .i64 k ∧ rs.length = rows.length ∧ OwnR 9 entC 47 wr w.heap.size (.slice a3 rows.length c3) rs ∧ Hid (EntsP wr w.heap.size (Value.slice a3 rows.length c3).ownBlock rs k ∧ (∀ j, k ≤ j → rs[j]? = rows[j]?) ∧ rs.map Prod.fst = rows.map Prod.fst) ∧ Below w.heap.size w wr) (fun i _ => rows.length - (intOf i).toNat)
  case atStart => exact ⟨0, rows, Nat.zero_le _, rfl, rfl, own1, Lib.hid ⟨fun j r _ hj => absurd hj (Nat.not_lt_zero _), fun _ _ => rfl, rfl⟩, hb1⟩
  case round =>
    clear own1 hb1
    obtain ⟨k, rs, hk, rfl, hrl, hown, HP, hb⟩ := hrel
    by_cases hlt : k < rows.length
    · have hlt2 : k < rs.length := by omega
      obtain ⟨g, rfl⟩ : ∃ g, a3 = some ⟨g, 0, none⟩ := by
        rcases hown.2 with ⟨h1, h2⟩ | ⟨g, cap, cur, h1, _⟩
        · omega
        · simp only [Value.slice.injEq] at h1
          exact ⟨g, h1.1⟩
      have hown' : OwnR 9 entC 47 wr w.heap.size (.slice (some ⟨g, 0, none⟩) rs.length c3) rs := by rw [hrl]; exact hown
      have hgl := World.ownsRow.lt hown g rfl
      have hrk : rs[k]? = some rows[k] := (HP.out.2.1 k (Nat.le_refl _)).trans (List.getElem?_eq_getElem hlt)
      have hce : ∀ j u, (entC rows[k])[j]? = some u → wr.cell? ⟨g, 0 + (k * 9 + j), none⟩ = some u := fun j u hu => by
        have hc := World.ownsRow.cells hown' (g := g) rfl (k * 9 + j) u (flat_at entC_len rs k j _ u hrk hu)
        rw [add_plain] at hc
        exact hc
      have hes := HE.out _ (List.getElem_mem hlt)
      have HSE := Lib.hid (hes.1.below hb (Nat.le_refl _))
      have HWF := Lib.hid hes.2
      have hfx := HF.out rows[k].1 (List.mem_map.2 ⟨_, List.getElem_mem hlt, rfl⟩)
      have HRK := Lib.hid hrk
      have HOW := Lib.hid hown'
      have HB := Lib.hid hb
      have HGL := Lib.hid hgl
      have HRL := Lib.hid hrl
      have hfst : Hid (∀ vn : Value, (rs.set k (rows[k].1, vn)).map Prod.fst = rows.map Prod.fst) := Lib.hid (fun vn => by
        rw [List.map_set, HP.out.2.2]
        apply List.ext_getElem?
        intro j
        rw [List.getElem?_set]
        by_cases c : k = j
        · subst c
          rw [if_pos rfl, if_pos (by simpa using hlt), List.getElem?_map, List.getElem?_eq_getElem hlt]
          rfl
        · rw [if_neg c])
      clear hes hrk hown hown' hb hgl
      generalize rows[k] = r at *
      obtain ⟨x, vr⟩ := r
      simp only [] at HSE HWF hfx hfst
      obtain ⟨ar, cr, hvr, -⟩ := id HSE.out
      subst hvr
      obtain ⟨e0, e1, e2, e3, e4, e5, e6, e7, e8⟩ := ent_cells hce
      simp only [Nat.zero_add] at e0 e1 e2 e3 e4 e5 e6 e7 e8
      have hkz : (k : Int) < (rows.length : Int) := by omega
      have hb4 : Below wr.heap.size wr (wr.alloc (.cells (entC (x, .slice ar x.cmd.nodes.length cr)).toArray 47)) := (Below.refl _ _).alloc (Nat.le_refl _) _
      have HB4 := Lib.hid hb4
      have HEN : Hid (IsEnt _ (.agg (entC (x, .slice ar x.cmd.nodes.length cr)).toArray) x) := Lib.hid ⟨_, rfl, HSE.out.below hb4 (Nat.le_refl _), HWF.out⟩
      clear hce hb4 hrl
      go_wp2_with fail
      refine (ent_own x _ _ HEN.out hfx).mono ?_
      rintro e w5 ⟨un, rfl, own5, hb5⟩
      obtain ⟨a5, c5, rfl, -⟩ := own5.sl HSE.out.wf
      have HB45 := Lib.hid (HB4.out.trans (hb5.mono (by simp)))
      have HOW5 := Lib.hid (HOW.out.below HB45.out (Nat.le_refl _))
      have HO5 := Lib.hid own5
      have hth := there_own HOW5.out k hlt2
      clear own5 hb5 e0 e1 e2 e3 e4 e5 e6 e7 e8
      generalize hW6 : w5.setCells g (k * 9) (entC (x, .slice a5 x.cmd.nodes.length c5)).toArray.toList = W6
      go_wp2_with (refine wpList_store_mid rfl 47 (.tmp 19) (.tmp 18) rfl g (k * 9) (entC (x, .slice a5 x.cmd.nodes.length c5)).toArray rfl rfl hth (by kernel_rfl) (ent_all _ _ _ _) ?_; rw [hW6]; clear hth)
      have hst : OwnR 9 entC 47 W6 w.heap.size (.slice (some ⟨g, 0, none⟩) rows.length c3) (rs.set k (x, .slice a5 x.cmd.nodes.length c5)) := by
        have := stored_ent HOW5.out k hlt2 (x, .slice a5 x.cmd.nodes.length c5)
        rw [HRL.out] at this
        rw [← hW6]
        exact this
      have hgr : w5.grownBy W6 (some g) := by rw [← hW6]; exact cells_grown _ _ _
      have hbW : Below w.heap.size w W6 := by rw [← hW6]; exact below_cells HGL.out.1 _ _ _ (HB.out.trans (HB45.out.mono HB.out.size))
      have hP : EntsP W6 w.heap.size (some g) (rs.set k (x, .slice a5 x.cmd.nodes.length c5)) (k + 1) := by
        intro j r hr hj
        rw [List.getElem?_set] at hr
        by_cases c : k = j
        · rw [if_pos c, if_pos (by omega)] at hr
          simp only [Option.some.injEq] at hr
          subst hr
          have hl := fun q hq => World.ownsRow.lt HO5.out q hq
          have hne : ∀ q, (Value.slice a5 x.cmd.nodes.length c5).ownBlock = some q → some q ≠ some g := fun q hq hqq => by
            have h1 := (hl q hq).1
            have h2 := HGL.out.2
            have h3 := Option.some.inj hqq
            simp at h1
            omega
          exact ⟨(HO5.out.lower (by have := HB.out.size; simp; omega)).far hgr hne, hne⟩
        · rw [if_neg c] at hr
          obtain ⟨h1, h2⟩ := HP.out.1 j r hr (by omega)
          exact ⟨(h1.below HB45.out (Nat.le_refl _)).far hgr h2, h2⟩
      have HQ : Hid (EntsP W6 w.heap.size (Value.slice (some ⟨g, 0, none⟩) rows.length c3).ownBlock (rs.set k (x, .slice a5 x.cmd.nodes.length c5)) (k + 1) ∧ (∀ j, k + 1 ≤ j → (rs.set k (x, .slice a5 x.cmd.nodes.length c5))[j]? = rows[j]?) ∧ (rs.set k (x, .slice a5 x.cmd.nodes.length c5)).map Prod.fst = rows.map Prod.fst) :=
        Lib.hid ⟨hP, fun j hj => by rw [List.getElem?_set, if_neg (by omega)]; exact HP.out.2.1 j (by omega), hfst.out _⟩
      have HST := Lib.hid hst
      have HBW := Lib.hid hbW
      clear hst hgr hbW hP hW6
      go_wp2
      go_roundw
      case rel => exact ⟨k + 1, _, by omega, by go_num, by rw [List.length_set]; exact HRL.out, HST.out, HQ.out |> Lib.hid, HBW.out⟩
      case measure => simp [intOf]; omega
    · obtain rfl : k = rows.length := by omega
      have HO : Hid (EntsO wr w.heap.size (Value.slice a3 rows.length c3).ownBlock rs) := Lib.hid (fun r hr => by
        obtain ⟨j, hj, rfl⟩ := List.mem_iff_getElem.1 hr
        obtain ⟨h1, h2⟩ := HP.out.1 j _ (List.getElem?_eq_getElem hj) (by omega)
        have hm : rs[j].1 ∈ rows.map Prod.fst := by rw [← HP.out.2.2]; exact List.mem_map.2 ⟨_, List.getElem_mem hj, rfl⟩
        obtain ⟨r', hr', he'⟩ := List.mem_map.1 hm
        have hE := HE.out r' hr'
        rw [he'] at hE
        exact ⟨h1, hE.2, hE.1.wf, h2⟩)
      have HOW := Lib.hid hown
      have HB := Lib.hid hb
      have HM := Lib.hid HP.out.2.2
      clear hown hb HP
      go_wp2
      go_ret
      exact ⟨_, rs, rfl, HOW.out, HO.out, HM.out, HB.out⟩
end Vc
end Go.Proofs.Ytlkgmjhejocobaa
