/- Whether two lists of entries are the same, where both are one. No condition. A list of entries in new memory. No condition. -/
import Derived.Test.YtlfaiemebfkajaaGreatDoorHdT
import Derived.Test.YtlfaiemebfkajaaGreatDoorCmdS
import Derived.Deep.QuietTactic
import Derived.BigQuiet
import Derived.BigRegion
import Derived.Lib.QuietBelow
import Derived.Test.YtlfaiemebfkajaaGreatDoorLcM
import Derived.Deep.RegionHeldLaw
import Derived.Deep.AppendLies
namespace Go.Proofs.YtlfaiemebfkajaaGreatDoor
open Go.ChangeShapes Go.WideShapes Go.ChangeAt Go.RowKit
set_option linter.unusedVariables false
set_option maxRecDepth 100000
namespace Hd
theorem log_rows {w : World} {v : Value} {log : List Ent} (h : IsLog w v log) : ∃ (rows : List ERow) (a : Option Addr) (cap : Nat), v = .slice a log.length cap ∧ rows.length = log.length ∧ log.length ≤ cap ∧ cap ≤ 9223372036854775807 ∧
    ((a = none ∧ cap = 0 ∧ rows = []) ∨ ∃ b off sp, a = some ⟨b, off, sp⟩ ∧ (rows = [] ∨ (sp = none ∧ b < w.heap.size ∧ ∀ i x, rows[i]? = some x → ∀ j u, (entC x)[j]? = some u → w.cell? ⟨b, off + (i * 9 + j), none⟩ = some u))) ∧ Ents w rows ∧
    (∀ k (hk : k < rows.length), log[k]? = some rows[k].1) := by
  obtain ⟨rows, ⟨a, cap, e, h1, h2, h3⟩, h4, rfl⟩ := h
  unfold maxLen at h2
  refine ⟨rows, a, cap, by rw [e, List.length_map], by rw [List.length_map], by rw [List.length_map]; exact h1, h2, h3, h4, fun k hk => ?_⟩
  rw [List.getElem?_map, List.getElem?_eq_getElem hk]; rfl
set_option maxHeartbeats 4000000 in
theorem ents_same (log : List Ent) (v u : Value) (w : World) (h : IsLog w v log) (g : IsLog w u log) :
    Calls Tryz.prog 19 #[v, u] w fun e w' => e = .returned (.bool true) ∧ Below w.heap.size w w' := by
  obtain ⟨rows, a, cap, rfl, hl, hc1, hc2, hr, he, hm⟩ := log_rows h
  obtain ⟨rows2, a2, cap2, rfl, gl, gc1, gc2, gr, ge, gm⟩ := log_rows g
  have HR := Lib.hid hr
  have HE := Lib.hid he
  have HM := Lib.hid hm
  have GR := Lib.hid gr
  have GE := Lib.hid ge
  have GM := Lib.hid gm
  clear h g hr he hm gr ge gm
  go_enter Tryz.func19, Tryz.ntmps19
  go_wp2
  go_loopw [13] (fun i wr => ∃ k : Nat, k ≤ log.length ∧ i = .int .i64 k ∧ Below w.heap.size w wr) (fun i _ => log.length - (intOf i).toNat)
  case atStart => exact ⟨0, Nat.zero_le _, rfl, Below.refl _ _⟩
  case round =>
    obtain ⟨k, hk, rfl, hb⟩ := hrel
    by_cases hlt2 : k < log.length
    · have hlt3 : k < rows.length := by omega
      have glt3 : k < rows2.length := by omega
      obtain ⟨b, off, rfl, hlt, hc⟩ := Ld.rows_open hlt3 HR.out
      obtain ⟨b2, off2, rfl, glt, gc⟩ := Ld.rows_open glt3 GR.out
      have hce := fun j u hu => (hb.cell (p := ⟨b, off + (k * 9 + j), none⟩) hlt).trans (hc k _ (Ld.rgetD hlt3) j u hu)
      have gce := fun j u hu => (hb.cell (p := ⟨b2, off2 + (k * 9 + j), none⟩) glt).trans (gc k _ (Ld.rgetD glt3) j u hu)
      have hes := HE.out _ (List.getElem_mem hlt3)
      have ges := GE.out _ (List.getElem_mem glt3)
      have hq := (HM.out k hlt3).symm.trans (GM.out k glt3)
      simp only [Option.some.injEq] at hq
      have HS := Lib.hid (hes.1.below hb (Nat.le_refl _))
      have GS := Lib.hid (ges.1.below hb (Nat.le_refl _))
      have HW := Lib.hid hes.2
      have HB := Lib.hid hb
      clear hc gc hb hes ges
      generalize rows[k] = r at *
      generalize rows2[k] = r2 at *
      obtain ⟨x, vr⟩ := r
      obtain ⟨y, vr2⟩ := r2
      simp only [] at hq HS GS HW
      subst hq
      obtain ⟨p00, p10, p20, p30, p40, p50, p60, p70, p80⟩ := ent_cells hce
      obtain ⟨q00, q10, q20, q30, q40, q50, q60, q70, q80⟩ := ent_cells gce
      clear hce gce
      have p0 : ∀ d os, (Go.Sort.grow (redrawn wr d) os).cell? ⟨b, off + k * 9, none⟩ = some (.int .u64 x.term) := cell_regrown p00
      have p1 : ∀ d os, (Go.Sort.grow (redrawn wr d) os).cell? ⟨b, off + k * 9 + 1, none⟩ = some (.int .i64 x.cmd.kind) := cell_regrown p10
      have p2 : ∀ d os, (Go.Sort.grow (redrawn wr d) os).cell? ⟨b, off + k * 9 + 2, none⟩ = some (.int .i64 x.cmd.node) := cell_regrown p20
      have p3 : ∀ d os, (Go.Sort.grow (redrawn wr d) os).cell? ⟨b, off + k * 9 + 3, none⟩ = some (.int .i64 x.cmd.token) := cell_regrown p30
      have p4 : ∀ d os, (Go.Sort.grow (redrawn wr d) os).cell? ⟨b, off + k * 9 + 4, none⟩ = some (vr) := cell_regrown p40
      have p5 : ∀ d os, (Go.Sort.grow (redrawn wr d) os).cell? ⟨b, off + k * 9 + 5, none⟩ = some (.int .u64 x.cmd.boot) := cell_regrown p50
      have p6 : ∀ d os, (Go.Sort.grow (redrawn wr d) os).cell? ⟨b, off + k * 9 + 6, none⟩ = some (.int .u64 x.cmd.seq) := cell_regrown p60
      have p7 : ∀ d os, (Go.Sort.grow (redrawn wr d) os).cell? ⟨b, off + k * 9 + 7, none⟩ = some (.int .u64 x.cmd.serial) := cell_regrown p70
      have p8 : ∀ d os, (Go.Sort.grow (redrawn wr d) os).cell? ⟨b, off + k * 9 + 8, none⟩ = some (.int .u64 x.cmd.stamp) := cell_regrown p80
      have q0 : ∀ d os, (Go.Sort.grow (redrawn wr d) os).cell? ⟨b2, off2 + k * 9, none⟩ = some (.int .u64 x.term) := cell_regrown q00
      have q1 : ∀ d os, (Go.Sort.grow (redrawn wr d) os).cell? ⟨b2, off2 + k * 9 + 1, none⟩ = some (.int .i64 x.cmd.kind) := cell_regrown q10
      have q2 : ∀ d os, (Go.Sort.grow (redrawn wr d) os).cell? ⟨b2, off2 + k * 9 + 2, none⟩ = some (.int .i64 x.cmd.node) := cell_regrown q20
      have q3 : ∀ d os, (Go.Sort.grow (redrawn wr d) os).cell? ⟨b2, off2 + k * 9 + 3, none⟩ = some (.int .i64 x.cmd.token) := cell_regrown q30
      have q4 : ∀ d os, (Go.Sort.grow (redrawn wr d) os).cell? ⟨b2, off2 + k * 9 + 4, none⟩ = some (vr2) := cell_regrown q40
      have q5 : ∀ d os, (Go.Sort.grow (redrawn wr d) os).cell? ⟨b2, off2 + k * 9 + 5, none⟩ = some (.int .u64 x.cmd.boot) := cell_regrown q50
      have q6 : ∀ d os, (Go.Sort.grow (redrawn wr d) os).cell? ⟨b2, off2 + k * 9 + 6, none⟩ = some (.int .u64 x.cmd.seq) := cell_regrown q60
      have q7 : ∀ d os, (Go.Sort.grow (redrawn wr d) os).cell? ⟨b2, off2 + k * 9 + 7, none⟩ = some (.int .u64 x.cmd.serial) := cell_regrown q70
      have q8 : ∀ d os, (Go.Sort.grow (redrawn wr d) os).cell? ⟨b2, off2 + k * 9 + 8, none⟩ = some (.int .u64 x.cmd.stamp) := cell_regrown q80
      have cA : ∀ (d : Nat) (os : Array Obj), Calls Tryz.prog 54 #[.agg (Cm.cArr x.cmd vr), .agg (Cm.cArr x.cmd vr2)] (Go.Sort.grow (redrawn wr d) os) fun e w'' => e = .returned (.bool true) ∧ ∃ p : Regrown, w'' = Go.Sort.grow (redrawn wr p.d) p.os := fun d os =>
        Calls.regrown_of (Cm.same_true x.cmd _ _ _ ⟨vr, rfl, HS.out.below (below_regrown wr d os) (Nat.le_refl _), HW.out.2⟩ ⟨vr2, rfl, GS.out.below (below_regrown wr d os) (Nat.le_refl _), HW.out.2⟩)
      have HCA := Lib.hid cA
      have hne : (x.term != x.term) = false := by simp
      have hkz : (k : Int) < (log.length : Int) := by omega
      clear cA p00 p10 p20 p30 p40 p50 p60 p70 p80 q00 q10 q20 q30 q40 q50 q60 q70 q80
      go_wp2_with fail
      refine wp_region_quiet_below (by kernel_rfl) (by kernel_rfl) ?_
      repeat (go_big_quiet_step ((go_at_call 54; exact HCA.out _ _)))
      refine wpQuiet_nil ?_
      intro _ hw'
      obtain ⟨⟨dq, osq⟩, hw''⟩ := hw'
      subst hw''
      have HW2 := Lib.hid (HB.out.trans ((below_regrown wr dq osq).mono HB.out.size))
      clear p0 p1 p2 p3 p4 p5 p6 p7 p8 q0 q1 q2 q3 q4 q5 q6 q7 q8
      go_wp2
      go_roundw
      case rel => exact ⟨k + 1, by omega, by go_num, HW2.out⟩
      case measure => simp [intOf]; omega
    · obtain rfl : k = log.length := by omega
      have HB := Lib.hid hb
      clear hb
      go_wp2
      go_ret
      exact ⟨rfl, HB.out⟩
end Hd
end Go.Proofs.YtlfaiemebfkajaaGreatDoor
namespace Go.Proofs.YtlfaiemebfkajaaGreatDoor
open Go.ChangeShapes Go.WideShapes Go.ChangeAt Go.RowKit
set_option linter.unusedVariables false
set_option maxRecDepth 100000
/-- an append to what the call owns, at a step of a region that draws its order -/
theorem stepR {α : Type} {sz : Nat} {C : α → List Value} {P : Program} (hC : ∀ x, (C x).length = sz) {t e : TypeId} (ht : P.underlying t = some (.slice e)) {z : Value} {bytes : Nat} (hzs : z.cells.size = sz) (hsz : 0 < sz) (hinfo : (P.info? e).map (fun i => (i.zero, i.size, i.bytes)) = some (some z, sz, bytes))
    {w : World} {ops : Array Oper} {o : Oper} {a : Act} {K : Act → World → Prop} {Q : Exit → Act → World → Prop} {E : Prop} (hgd : o.guard = none) (s x : Operand)
    (ho : o.op = .call { callee := .builtin .append, args := #[s, x], argTypes := #[t, t] }) (base : Nat)
    (v : Value) (xs : List α) (hs : a.eval s = v) (hown : OwnR sz C e w base v xs) (u : Value) (zs : List α) (hx : a.eval x = u) (hsl : SlR sz C w u zs) (hne : 0 < zs.length) (h1c : ∀ x ∈ zs, ∀ u ∈ C x, u.oneCell' = true)
    (h63 : xs.length + zs.length ≤ maxLen) (hb : (xs.length + zs.length) * bytes ≤ 140737488355328) (hbase : base ≤ w.heap.size)
    (H : Nat) (hH : w.heap.size = H)
    (h : ∀ g cap w', OwnR sz C e w' base (.slice (some ⟨g, 0, none⟩) (xs.length + zs.length) cap) (xs ++ zs) → w.grownBy w' v.ownBlock → (v.ownBlock = some g ∨ g = H) → K (a.put o.dst (.slice (some ⟨g, 0, none⟩) (xs.length + zs.length) cap)) w') :
    if Region.wanted o (yielded ops a.tmps) = true then Oper.wp P o a w K Q else E := by
  have hw : Region.wanted o (yielded ops a.tmps) = true := by simp [Region.wanted, hgd]
  rw [if_pos hw]
  obtain ⟨i0, hi, hz0, hz1, hz2⟩ := info_parts hinfo
  rcases hsl.src hC with ⟨_, h0, _⟩ | ⟨ad, c, rfl, hc⟩
  · omega
  · refine wp_append_lies w s x t ho base e i0 z sz bytes ht hi hz0 hz1 hz2 hzs hsz v xs.length _ hs hown ad zs.length c (zs.flatMap C) hx (flat_len hC zs) hc (fun u hu => ?_) hne h63 hb hbase H hH fun g cap w' h2 h3 h4 _ => h g cap w' ?_ h3 h4
    · obtain ⟨y, hy1, hy⟩ := List.mem_flatMap.1 hu
      exact h1c y hy1 u hy
    · unfold OwnR
      rw [List.flatMap_append, List.length_append]
      exact h2
theorem OwnK.lower {k : IntKind} {e : TypeId} {w : World} {B D : Nat} {v : Value} {zs : List Int} (h : OwnK k e w B v zs) (hD : D ≤ B) : OwnK k e w D v zs := by
  refine ⟨h.1, ?_⟩
  rcases h.2 with h2 | ⟨q, cap, cur, h2, h3, h4⟩
  · exact .inl h2
  · exact .inr ⟨q, cap, cur, h2, Nat.le_trans hD h3, h4⟩
theorem OwnK.far {k : IntKind} {e : TypeId} {w w' : World} {B : Nat} {row : Option Nat} {v : Value} {zs : List Int} (h : OwnK k e w B v zs) (hg : w.grownBy w' row) (hne : ∀ g, v.ownBlock = some g → some g ≠ row) : OwnK k e w' B v zs := by
  refine ⟨h.1, ?_⟩
  rcases h.2 with h2 | ⟨q, cap, cur, rfl, h3, h4, h5⟩
  · exact .inl h2
  · exact .inr ⟨q, cap, cur, rfl, h3, by rw [hg.block q (Array.getElem?_eq_some_iff.1 h4).1 (hne q rfl)]; exact h4, h5⟩
/-- the lists of some entries are the call's own, and none is the block ob -/
def EntsO (w : World) (B : Nat) (ob : Option Nat) (rows : List ERow) : Prop := ∀ r ∈ rows, OwnK .i64 3 w B r.2 r.1.cmd.nodes ∧ r.1.wf ∧ (∀ n ∈ r.1.cmd.nodes, (Lit.int .i64 n).wf = true) ∧ ∀ g, r.2.ownBlock = some g → some g ≠ ob
theorem EntsO.ents {w : World} {B : Nat} {ob : Option Nat} {rows : List ERow} (h : EntsO w B ob rows) : Ents w rows := fun r hr => ⟨(h r hr).1.sl (h r hr).2.2.1, (h r hr).2.1⟩
theorem EntsO.step {wr wc w2 : World} {B g2 : Nat} {ob : Option Nat} {rows : List ERow} (h : EntsO wr B ob rows) (hb : Below wr.heap.size wr wc) (hg : wc.grownBy w2 ob) (hor : ob = some g2 ∨ g2 = wc.heap.size)
    {x : Ent} {vn : Value} (hn : OwnK .i64 3 wc wr.heap.size vn x.cmd.nodes) (hob : ∀ g, ob = some g → g < wr.heap.size) (hB : B ≤ wr.heap.size) (hw : x.wf) (hwf : ∀ n ∈ x.cmd.nodes, (Lit.int .i64 n).wf = true) : EntsO w2 B (some g2) (rows ++ [(x, vn)]) := by
  have hs := hb.size
  intro r hr
  rcases List.mem_append.1 hr with hr | hr
  · obtain ⟨h1, h2, h3, h4⟩ := h r hr
    refine ⟨(h1.below hb (Nat.le_refl _)).far hg h4, h2, h3, fun g hq => ?_⟩
    have hl := (World.ownsRow.lt h1 g hq).2
    rcases hor with e | e
    · rw [← e]; exact h4 g hq
    · intro q
      have := Option.some.inj q
      omega
  · simp only [List.mem_cons, List.not_mem_nil, or_false] at hr
    subst hr
    refine ⟨(hn.lower hB).far hg fun g hq => ?_, hw, hwf, fun g hq => ?_⟩
    · have hl := World.ownsRow.lt hn g hq
      intro q
      have := hob g q.symm
      omega
    · have hl := World.ownsRow.lt hn g hq
      intro q
      have q2 := Option.some.inj q
      rcases hor with e | e
      · have := hob _ e
        omega
      · omega
theorem info_ent : (Tryz.prog.info? 88).map (fun i => (i.zero, i.size, i.bytes)) = some (some (.agg #[.int .u64 0, .int .i64 0, .int .i64 0, .int .i64 0, .slice none 0 0, .int .u64 0, .int .u64 0, .int .u64 0, .int .u64 0]), 9, 88) := by kernel_rfl
namespace Cm
def GivesCmdO (c : Cmd) (w : World) (e : Ending) (w' : World) : Prop := ∃ vn, e = .returned (.agg (cArr c vn)) ∧ OwnK .i64 3 w' w.heap.size vn c.nodes ∧ Below w.heap.size w w'
end Cm
namespace Hd
theorem es_mk {wr : World} {g : Nat} {x : Ent} {vn : Value} (h : wr.heap[g]? = some (.cells (entC (x, vn)).toArray 88 (0, 0))) : wr.heap[g]? = some (.cells (entC (x, vn)).toArray 88 (0, 0)) ∧ wr.cell? ⟨g, 0, none⟩ = some (.int .u64 x.term) ∧ wr.cell? ⟨g, 1, none⟩ = some (.int .i64 x.cmd.kind) ∧ wr.cell? ⟨g, 2, none⟩ = some (.int .i64 x.cmd.node) ∧ wr.cell? ⟨g, 3, none⟩ = some (.int .i64 x.cmd.token) ∧ wr.cell? ⟨g, 4, none⟩ = some (vn) ∧ wr.cell? ⟨g, 5, none⟩ = some (.int .u64 x.cmd.boot) ∧ wr.cell? ⟨g, 6, none⟩ = some (.int .u64 x.cmd.seq) ∧ wr.cell? ⟨g, 7, none⟩ = some (.int .u64 x.cmd.serial) ∧ wr.cell? ⟨g, 8, none⟩ = some (.int .u64 x.cmd.stamp) :=
  ⟨h, (cell_of_row wr _ 0 _ _ _ h).trans rfl, (cell_of_row wr _ 1 _ _ _ h).trans rfl, (cell_of_row wr _ 2 _ _ _ h).trans rfl, (cell_of_row wr _ 3 _ _ _ h).trans rfl, (cell_of_row wr _ 4 _ _ _ h).trans rfl, (cell_of_row wr _ 5 _ _ _ h).trans rfl, (cell_of_row wr _ 6 _ _ _ h).trans rfl, (cell_of_row wr _ 7 _ _ _ h).trans rfl, (cell_of_row wr _ 8 _ _ _ h).trans rfl⟩
/-- a row's block is none of those laid since -/
theorem own_ne {α : Type} {sz : Nat} {C : α → List Value} {e : TypeId} {w : World} {B : Nat} {v : Value} {xs : List α} (h : OwnR sz C e w B v xs) {g : Nat} (hg : w.heap.size ≤ g) : some g ≠ v.ownBlock := fun q => by
  have := (World.ownsRow.lt h g q.symm).2
  omega
theorem ent_one (x : Ent) (a : Option Addr) (i j : Nat) : ∀ r ∈ [((x, .slice a i j) : ERow)], ∀ u ∈ entC r, u.oneCell' = true := by
  intro r hr u hu
  simp only [List.mem_cons, List.not_mem_nil, or_false] at hr
  subst hr
  simp [entC] at hu
  rcases hu with rfl | rfl | rfl | rfl | rfl | rfl | rfl | rfl | rfl <;> rfl
def GivesLogO (l : List Ent) (w : World) (e : Ending) (w' : World) : Prop := ∃ v rows, e = .returned v ∧ OwnR 9 entC 88 w' w.heap.size v rows ∧ EntsO w' w.heap.size v.ownBlock rows ∧ rows.map Prod.fst = l ∧ Below w.heap.size w w'
def GivesLog (l : List Ent) (w : World) (e : Ending) (w' : World) : Prop := ∃ v, e = .returned v ∧ IsLog w' v l ∧ Below w.heap.size w w'
end Hd
end Go.Proofs.YtlfaiemebfkajaaGreatDoor
