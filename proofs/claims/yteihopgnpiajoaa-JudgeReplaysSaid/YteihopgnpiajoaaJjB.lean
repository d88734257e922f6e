/- Package judge: a trace, as landed. No condition. -/
import Derived.Test.YteihopgnpiajoaaJjA
namespace Go.Proofs.Yteihopgnpiajoaa
open Go.ChangeShapes Go.WideShapes Go.ChangeAt Go.RowKit Go.Deep
set_option linter.unusedVariables false
set_option maxRecDepth 100000
set_option linter.unusedSimpArgs false
namespace Jj
abbrev TT : TypeId := 64
abbrev TS : TypeId := 28
abbrev mT : TypeId := 61
abbrev MI (w : World) (m n : Nat) (f : Int → Option Value) : Prop := Mp.MapF Try.prog 3 (Lit.int .i64) Mp.okI w m n f
theorem KI : Mp.KeyT Try.prog 3 (Value.int .i64) (Lit.int .i64) Mp.okI := Mp.intK Try.underlying3
theorem zI (w : World) : (zeroValue 3).run Try.prog w = .ok (.int .i64 0) w := by kernel_rfl
def trV (lim : Int) (m : Nat) (cs : List Cx) (i : Nat) : Value := if i = 0 then .int .i64 lim else if i = 1 then .map (some m) else .int .i64 (manyN cs ((i - 2 : Nat) : Int))
def RowT (w : World) (p m : Nat) (lim : Int) (cs : List Cx) : Prop := w.rowIs p TT 10 (trV lim m cs)
variable {w w' : World} {p m n : Nat} {lim : Int} {cs : List Cx}
theorem RowT.c0 (h : RowT w p m lim cs) : w.cell? ⟨p, 0, none⟩ = some (.int .i64 lim) := World.rowIs.cell h (by omega)
theorem RowT.c1 (h : RowT w p m lim cs) : w.cell? ⟨p, 1, none⟩ = some (.map (some m)) := World.rowIs.cell h (by omega)
theorem RowT.cn (h : RowT w p m lim cs) (j : Nat) (hj : j < 8) : w.cell? ⟨p, 2 + j, none⟩ = some (.int .i64 (manyN cs (j : Int))) := by
  have := World.rowIs.cell h (show 2 + j < 10 by omega)
  rw [this]; unfold trV
  rw [if_neg (by omega), if_neg (by omega), show 2 + j - 2 = j by omega]
theorem RowT.z (h : RowT w p m lim cs) (i : Nat) : w.frozen? ⟨p, i, none⟩ = false := World.rowIs.frozen h i
theorem RowT.block (h : RowT w p m lim cs) (e : w'.heap[p]? = w.heap[p]?) : RowT w' p m lim cs := World.rowIs.of_block h e
theorem RowT.below (h : RowT w p m lim cs) (hb : Below w.heap.size w w') : RowT w' p m lim cs := h.block (hb.block _ (World.rowIs.lt h))
theorem RowT.row (h : RowT w p m lim cs) : ∃ c, w.heap[p]? = some (.cells c TT (0, 0)) := by obtain ⟨c, h1, -⟩ := h; exact ⟨c, h1⟩
theorem RowT.set {cs' : List Cx} (h : RowT w p m lim cs) (j : Nat) (hj : j < 8) (z : Int) (hz : z = manyN cs' (j : Int)) (ho : ∀ i : Nat, i < 8 → i ≠ j → manyN cs' (i : Int) = manyN cs (i : Int)) : RowT (w.setCell ⟨p, 2 + j, none⟩ (.int .i64 z)) p m lim cs' := by
  refine World.rowIs.congr (World.rowIs.set h (2 + j) _) (fun i hi => ?_)
  unfold trV
  by_cases e : i = 2 + j
  · subst e
    rw [if_pos rfl, if_neg (by omega), if_neg (by omega), show 2 + j - 2 = j by omega, hz]
  · rw [if_neg e]
    by_cases e0 : i = 0
    · rw [if_pos e0, if_pos e0]
    by_cases e1 : i = 1
    · rw [if_neg e0, if_pos e1, if_neg e0, if_pos e1]
    · rw [if_neg e0, if_neg e1, if_neg e0, if_neg e1, ho (i - 2) (by omega) (by omega)]
/-- a trace -/
def Tw (w : World) (p m n : Nat) (lim : Int) (cs : List Cx) : Prop := RowT w p m lim cs ∧ MI w m n (fO cs) ∧ OkC lim cs
theorem Tw.below (h : Tw w p m n lim cs) (hb : Below w.heap.size w w') : Tw w' p m n lim cs := ⟨h.1.below hb, h.2.1.below hb, h.2.2⟩
theorem Tw.ne (h : Tw w p m n lim cs) : m ≠ p := by obtain ⟨c, h1⟩ := h.1.row; exact h.2.1.row_ne h1
theorem fO_get (h : MI w m n (fO cs)) (t : Int) (ht : Mp.okI t) : (Instr.lookup mT (.map (some m)) (.int .i64 t) false).run Try.prog w = .ok (.int .i64 (ownZ cs t)) w := by
  have := h.look KI Try.underlying61 (zI w) ht false
  rw [if_neg (by simp)] at this
  rw [this]
  unfold ownZ fO
  cases ownO cs t <;> rfl
theorem fO_app (cs : List Cx) (c : Cx) (hno : ∀ d ∈ cs, d.tok ≠ c.tok) (t : Int) : Mp.upd (fO cs) c.tok (some (.int .i64 c.node)) t = fO (cs ++ [c]) t := by
  unfold fO ownO
  by_cases e : t = c.tok
  · subst e
    rw [Mp.upd_same, List.find?_append, List.find?_eq_none.2 (fun d hd => by simpa using hno d hd)]
    simp
  · rw [Mp.upd_ne _ _ e, List.find?_append]
    have : [c].find? (fun d => decide (d.tok = t)) = none := List.find?_eq_none.2 (fun d hd => by simp only [List.mem_singleton] at hd; subst hd; simpa using fun q => e q.symm)
    rw [this]; simp
theorem find_drop (q r : Cx → Bool) (h : ∀ c, q c = true → r c = true) : ∀ cs : List Cx, (cs.filter r).find? q = cs.find? q
  | [] => rfl
  | c :: cs => by
    by_cases hr : r c = true
    · rw [List.filter_cons_of_pos hr]
      by_cases hq : q c = true
      · rw [List.find?_cons_of_pos hq, List.find?_cons_of_pos hq]
      · rw [List.find?_cons_of_neg hq, List.find?_cons_of_neg hq, find_drop q r h cs]
    · rw [List.filter_cons_of_neg hr, List.find?_cons_of_neg (fun hq => hr (h c hq)), find_drop q r h cs]
theorem fO_del (cs : List Cx) (t : Int) (y : Int) : Mp.upd (fO cs) t none y = fO (cs.filter fun c => !decide (c.tok = t)) y := by
  unfold fO ownO
  by_cases e : y = t
  · subst e
    rw [Mp.upd_same, List.find?_eq_none.2 (fun d hd => by simpa using (List.mem_filter.1 hd).2)]; rfl
  · rw [Mp.upd_ne _ _ e, find_drop _ _ (fun c hc => by
      have : c.tok = y := by simpa using hc
      simpa [this] using e)]
theorem many_app (cs : List Cx) (c : Cx) (i : Int) : manyN (cs ++ [c]) i = manyN cs i + (if c.node = i then 1 else 0) := by
  unfold manyN
  rw [List.countP_append, List.countP_singleton]
  by_cases e : c.node = i <;> simp [e]
theorem many_del {lim : Int} {cs : List Cx} (h : OkC lim cs) {c : Cx} (hc : c ∈ cs) : ∀ i, manyN cs i = manyN (cs.filter fun d => !decide (d.tok = c.tok)) i + (if c.node = i then 1 else 0) := by
  intro i
  obtain ⟨s, t, rfl⟩ := List.append_of_mem hc
  have hs : ∀ d ∈ s, d.tok ≠ c.tok := fun d hd e => by
    have hn := h.nd
    rw [List.map_append, List.map_cons] at hn
    exact (List.nodup_append.1 hn).2.2 _ (List.mem_map.2 ⟨d, hd, rfl⟩) _ (List.mem_cons_self) e
  have ht : ∀ d ∈ t, d.tok ≠ c.tok := fun d hd e => by
    have hn := h.nd
    rw [List.map_append, List.map_cons] at hn
    have := (List.nodup_cons.1 (List.nodup_append.1 hn).2.1).1
    exact this (List.mem_map.2 ⟨d, hd, e⟩)
  have e1 : (s ++ c :: t).filter (fun d => !decide (d.tok = c.tok)) = s ++ t := by
    rw [List.filter_append, List.filter_eq_self.2 (fun d hd => by simpa using hs d hd), List.filter_cons_of_neg (by simp), List.filter_eq_self.2 (fun d hd => by simpa using ht d hd)]
  rw [e1]
  unfold manyN
  rw [List.countP_append, List.countP_append, List.countP_cons]
  by_cases e : c.node = i <;> simp [e]; omega
/-! ### walks -/
theorem isNode_any (z : Int) (w : World) : Calls Try.prog 57 #[.int .i64 z] w fun e w' => e = .returned (.bool (decide (1 ≤ z) && decide (z ≤ 7))) ∧ w' = w := by
  by_cases h1 : 1 ≤ z
  · by_cases h2 : z ≤ 7
    · rw [decide_eq_true h1, decide_eq_true h2]
      go_enter Try.func57, Try.ntmps57
      go_wp2
      go_ret
      exact ⟨rfl, rfl⟩
    · rw [decide_eq_true h1, decide_eq_false h2]
      go_enter Try.func57, Try.ntmps57
      go_wp2
      go_ret
      exact ⟨rfl, rfl⟩
  · rw [decide_eq_false h1]
    go_enter Try.func57, Try.ntmps57
    go_wp2
    go_ret
    exact ⟨rfl, rfl⟩
theorem isT (z : Int) (h1 : 1 ≤ z) (h2 : z ≤ 7) (w : World) : Calls Try.prog 57 #[.int .i64 z] w fun e w' => e = .returned (.bool true) ∧ w' = w := (isNode_any z w).mono fun e w' ⟨a, b⟩ => ⟨by rw [a, decide_eq_true h1, decide_eq_true h2]; rfl, b⟩
theorem isF (z : Int) (h : ¬ (1 ≤ z ∧ z ≤ 7)) (w : World) : Calls Try.prog 57 #[.int .i64 z] w fun e w' => e = .returned (.bool false) ∧ w' = w := (isNode_any z w).mono fun e w' ⟨a, b⟩ => ⟨by rw [a, ← Bool.decide_and, decide_eq_false h], b⟩
theorem fits_any (s : Sx) (w : World) (h : RowT w p m lim cs) : Calls Try.prog 44 #[.pointer (some ⟨p, 0, none⟩), .agg #[.int .i64 s.kind, .int .i64 s.node, .int .i64 s.tok]] w fun e w' => e = .returned (.bool (goodB lim s)) ∧ Below w.heap.size w w' := by
  obtain ⟨W1, hW1⟩ : ∃ q, w.alloc (.cells #[.int .i64 s.kind, .int .i64 s.node, .int .i64 s.tok] TS) = q := ⟨_, rfl⟩
  have hb1 : Below w.heap.size w W1 := by rw [← hW1]; exact (Below.refl _ _).alloc (Nat.le_refl _) _
  have hg1 : W1.heap[w.heap.size]? = some (.cells #[.int .i64 s.kind, .int .i64 s.node, .int .i64 s.tok] TS (0, 0)) := by rw [← hW1]; exact heap_alloc_new _ _
  obtain ⟨g, hg⟩ : ∃ q, w.heap.size = q := ⟨_, rfl⟩
  have hgl : g < W1.heap.size := by rw [← hg]; exact row_lt hg1
  rw [hg] at hg1
  have c0 := (h.below hb1).c0
  have k0 : W1.cell? ⟨g, 0, none⟩ = some (.int .i64 s.kind) := (cell_of_row W1 _ 0 _ _ _ hg1).trans rfl
  have k1 : W1.cell? ⟨g, 1, none⟩ = some (.int .i64 s.node) := (cell_of_row W1 _ 1 _ _ _ hg1).trans rfl
  have k2 : W1.cell? ⟨g, 2, none⟩ = some (.int .i64 s.tok) := (cell_of_row W1 _ 2 _ _ _ hg1).trans rfl
  have HB := Lib.hid hb1
  clear h hb1 hg1
  by_cases hl : lim < 1
  · have e : goodB lim s = false := by unfold goodB; rw [decide_eq_false (show ¬ 1 ≤ lim by omega)]; rfl
    rw [e]
    clear e
    go_enter Try.func44, Try.ntmps44
    go_wp2
    go_ret
    exact ⟨rfl, HB.out⟩
  by_cases hn : 1 ≤ s.node ∧ s.node ≤ 7
  · obtain ⟨hn1, hn2⟩ := hn
    have eg : goodB lim s = (((decide (s.kind = 1) || decide (s.kind = 2)) && decide (1 ≤ s.tok) && decide (s.tok ≤ lim)) || (decide (s.kind = 3) && decide (s.tok = 0))) := by
      unfold goodB; rw [decide_eq_true (show 1 ≤ lim by omega), decide_eq_true hn1, decide_eq_true hn2]; rfl
    rw [eg]
    clear eg
    by_cases g12 : s.kind = 1 ∨ s.kind = 2
    · have e : (((decide (s.kind = 1) || decide (s.kind = 2)) && decide (1 ≤ s.tok) && decide (s.tok ≤ lim)) || (decide (s.kind = 3) && decide (s.tok = 0))) = (decide (1 ≤ s.tok) && decide (s.tok ≤ lim)) := by
        rcases g12 with g | g <;> simp [g]
      rw [e]
      clear e
      by_cases t1 : 1 ≤ s.tok
      · by_cases t2 : s.tok ≤ lim
        · rw [decide_eq_true t1, decide_eq_true t2]
          rcases g12 with g | g
          · have d1 : (s.kind == 1) = true := by rw [g]; rfl
            clear g
            go_enter Try.func44, Try.ntmps44
            go_wp2_with (refine (isT s.node hn1 hn2 _).mono ?_; rintro e w' ⟨rfl, rfl⟩)
            go_quiet (fail)
            go_wp2
            go_ret
            exact ⟨rfl, HB.out.trans (show Below w.heap.size _ _ from ⟨rfl, rfl, rfl, Nat.le_refl _, fun _ _ => rfl⟩)⟩
          · have d1 : (s.kind == 1) = false := by rw [g]; rfl
            have d2 : (s.kind == 2) = true := by rw [g]; rfl
            clear g
            go_enter Try.func44, Try.ntmps44
            go_wp2_with (refine (isT s.node hn1 hn2 _).mono ?_; rintro e w' ⟨rfl, rfl⟩)
            go_quiet (fail)
            go_wp2
            go_ret
            exact ⟨rfl, HB.out.trans (show Below w.heap.size _ _ from ⟨rfl, rfl, rfl, Nat.le_refl _, fun _ _ => rfl⟩)⟩
        · rw [decide_eq_true t1, decide_eq_false t2]
          have t2b : decide (s.tok ≤ lim) = false := decide_eq_false t2
          rcases g12 with g | g
          · have d1 : (s.kind == 1) = true := by rw [g]; rfl
            clear g
            go_enter Try.func44, Try.ntmps44
            go_wp2_with (refine (isT s.node hn1 hn2 _).mono ?_; rintro e w' ⟨rfl, rfl⟩)
            go_quiet (fail)
            go_wp2
            go_ret
            exact ⟨rfl, HB.out.trans (show Below w.heap.size _ _ from ⟨rfl, rfl, rfl, Nat.le_refl _, fun _ _ => rfl⟩)⟩
          · have d1 : (s.kind == 1) = false := by rw [g]; rfl
            have d2 : (s.kind == 2) = true := by rw [g]; rfl
            clear g
            go_enter Try.func44, Try.ntmps44
            go_wp2_with (refine (isT s.node hn1 hn2 _).mono ?_; rintro e w' ⟨rfl, rfl⟩)
            go_quiet (fail)
            go_wp2
            go_ret
            exact ⟨rfl, HB.out.trans (show Below w.heap.size _ _ from ⟨rfl, rfl, rfl, Nat.le_refl _, fun _ _ => rfl⟩)⟩
      · rw [decide_eq_false t1]
        have t1b : decide (1 ≤ s.tok) = false := decide_eq_false t1
        rcases g12 with g | g
        · have d1 : (s.kind == 1) = true := by rw [g]; rfl
          clear g
          go_enter Try.func44, Try.ntmps44
          go_wp2_with (refine (isT s.node hn1 hn2 _).mono ?_; rintro e w' ⟨rfl, rfl⟩)
          go_quiet (fail)
          go_wp2
          go_ret
          exact ⟨rfl, HB.out.trans (show Below w.heap.size _ _ from ⟨rfl, rfl, rfl, Nat.le_refl _, fun _ _ => rfl⟩)⟩
        · have d1 : (s.kind == 1) = false := by rw [g]; rfl
          have d2 : (s.kind == 2) = true := by rw [g]; rfl
          clear g
          go_enter Try.func44, Try.ntmps44
          go_wp2_with (refine (isT s.node hn1 hn2 _).mono ?_; rintro e w' ⟨rfl, rfl⟩)
          go_quiet (fail)
          go_wp2
          go_ret
          exact ⟨rfl, HB.out.trans (show Below w.heap.size _ _ from ⟨rfl, rfl, rfl, Nat.le_refl _, fun _ _ => rfl⟩)⟩
    · have e : (((decide (s.kind = 1) || decide (s.kind = 2)) && decide (1 ≤ s.tok) && decide (s.tok ≤ lim)) || (decide (s.kind = 3) && decide (s.tok = 0))) = (decide (s.kind = 3) && decide (s.tok = 0)) := by
        have q1 : decide (s.kind = 1) = false := decide_eq_false (fun q => g12 (.inl q))
        have q2 : decide (s.kind = 2) = false := decide_eq_false (fun q => g12 (.inr q))
        rw [q1, q2]; rfl
      rw [e]
      have d1 : (s.kind == 1) = false := beq_eq_false_iff_ne.2 (fun q => g12 (.inl q))
      have d2 : (s.kind == 2) = false := beq_eq_false_iff_ne.2 (fun q => g12 (.inr q))
      clear e g12
      by_cases g3 : s.kind = 3
      · have d3 : (s.kind == 3) = true := by rw [g3]; rfl
        rw [decide_eq_true g3]
        by_cases t0 : s.tok = 0
        · have dt : (s.tok == 0) = true := by rw [t0]; rfl
          rw [decide_eq_true t0]
          clear g3 t0
          go_enter Try.func44, Try.ntmps44
          go_wp2_with (refine (isT s.node hn1 hn2 _).mono ?_; rintro e w' ⟨rfl, rfl⟩)
          go_ret
          exact ⟨rfl, HB.out⟩
        · have dt : (s.tok == 0) = false := beq_eq_false_iff_ne.2 t0
          rw [decide_eq_false t0]
          clear g3 t0
          go_enter Try.func44, Try.ntmps44
          go_wp2_with (refine (isT s.node hn1 hn2 _).mono ?_; rintro e w' ⟨rfl, rfl⟩)
          go_ret
          exact ⟨rfl, HB.out⟩
      · have d3 : (s.kind == 3) = false := beq_eq_false_iff_ne.2 g3
        rw [decide_eq_false g3]
        clear g3
        go_enter Try.func44, Try.ntmps44
        go_wp2_with (refine (isT s.node hn1 hn2 _).mono ?_; rintro e w' ⟨rfl, rfl⟩)
        go_ret
        exact ⟨rfl, HB.out⟩
  · have e : goodB lim s = false := by
      unfold goodB
      rcases Decidable.em (1 ≤ s.node) with q | q
      · rw [decide_eq_false (show ¬ s.node ≤ 7 from fun r => hn ⟨q, r⟩)]; simp
      · rw [decide_eq_false q]; simp
    rw [e]
    clear e
    go_enter Try.func44, Try.ntmps44
    go_wp2_with (refine (isF s.node hn _).mono ?_; rintro e w' ⟨rfl, rfl⟩)
    go_ret
    exact ⟨rfl, HB.out⟩
theorem wp_run_del {P : Program} {ops : Array Oper} {rest : List Oper} {o : Oper} {a : Act} {Q : Exit → Act → World → Prop} {w : World} (hg : o.guard = none) (m kx : Operand) (t k : TypeId) (hop : o.op = Op.call { callee := Callee.builtin Builtin.delete, args := #[m, kx], argTypes := #[t, k] }) (mv kv : Value)
    (hm : a.eval m = mv) (hk : a.eval kx = kv) (w' : World) (hrun : (Builtin.delete_ #[t, k] o.type #[mv, kv]).run P w = .ok (.tuple #[]) w') (h : wpList P ops Q rest (a.put o.dst (.tuple #[])) w') : wpList P ops Q (o :: rest) a w := by
  refine wpList_plain hg fun K' hK' => ?_
  unfold Oper.wp
  simp [execOp, hop, resolve, invoke, builtin, hm, hk, hrun, Result.andThen]
  exact hK' _ _ h
theorem close_any {Z : World → Prop} (t : Int) (j : Nat) (w : World) (h : RowT w p m lim cs) (hj : j < 8) (ok : OkC lim cs) (hc : ⟨(j : Int), t⟩ ∈ cs)
    (hl : ∀ u : World, u.heap[m]? = w.heap[m]? → (Instr.lookup mT (.map (some m)) (.int .i64 t) false).run Try.prog u = .ok (.int .i64 (j : Int)) u) (hmp : m ≠ p)
    (hd : ∀ (u : World) (ty : TypeId), u.heap[m]? = w.heap[m]? → RowT u p m lim (cs.filter fun c => !decide (c.tok = t)) → Only (fun k => k = p) w u → ∃ u', (Builtin.delete_ #[mT, 3] ty #[.map (some m), .int .i64 t]).run Try.prog u = .ok (.tuple #[]) u' ∧ Z u') :
    Calls Try.prog 46 #[.pointer (some ⟨p, 0, none⟩), .int .i64 t] w fun e w' => e = .returned (.tuple #[]) ∧ Z w' := by
  obtain ⟨z, hz⟩ : ∃ z : Int, (manyN cs (j : Int) : Int) = z := ⟨_, rfl⟩
  have HZ := Lib.hid hz
  have hmd : ∀ i : Int, manyN cs i = manyN (cs.filter fun d => !decide (d.tok = t)) i + (if (j : Int) = i then 1 else 0) := many_del ok hc
  have hzr : 0 ≤ z ∧ z ≤ 8 := by have := ok.many (j : Int); omega
  have hwz : IntKind.i64.wrap (z - 1) = z - 1 := by rw [IntKind.wrap_i64]; omega
  obtain ⟨W6, hW6⟩ : ∃ x, w.drew.setCell ⟨p, 2 + j, none⟩ (.int .i64 (z - 1)) = x := ⟨_, rfl⟩
  have HM6 : Hid (W6.heap[m]? = w.heap[m]?) := Lib.hid (by rw [← hW6]; exact Below.heap_setCell _ _ _ _ (by simpa using hmp))
  have hr6 : RowT W6 p m lim (cs.filter fun c => !decide (c.tok = t)) := by
    rw [← hW6]
    refine RowT.set (w := w.drew) h j hj _ ?_ (fun i hi hne => ?_)
    · have := hmd (j : Int); rw [if_pos rfl] at this; omega
    · have := hmd (i : Int); rw [if_neg (by omega)] at this; omega
  have ho6 : Only (fun k => k = p) w W6 := by rw [← hW6]; exact (Below.only ((Below.refl w.heap.size w).drew) _).trans (Only.setCell _ _ _ rfl)
  obtain ⟨u7, hd7⟩ : ∃ u' : World, ∀ ty : TypeId, (Builtin.delete_ #[mT, 3] ty #[.map (some m), .int .i64 t]).run Try.prog W6 = .ok (.tuple #[]) u' ∧ Z u' := by
    obtain ⟨u0, h0, hz0⟩ := hd W6 0 HM6.out hr6 ho6
    exact ⟨u0, fun ty => ⟨h0, hz0⟩⟩
  have HD7 := Lib.hid hd7
  have d1 := hr6.c1
  have q1 := h.cn j hj
  have q2 := h.z (2 + j)
  rw [hz] at q1
  clear hd hd7 hmd hz hr6 ho6 ok hc
  go_enter Try.func46, Try.ntmps46
  go_upto_region 0 with fail
  refine Wl.start 15 (fun u => RowT u p m lim cs) (fun u => u.heap[m]? = w.heap[m]?) (by kernel_rfl) h rfl (fun hk => ?_)
  refine Wl.take (i := 0) (v := .pointer (some ⟨p, 0, none⟩)) [7, 8, 9, 10, 11, 12, 13, 14, 15] rfl (by kernel_rfl) (by kernel_rfl) (by kernel_rfl) (by kernel_rfl) (by kernel_rfl) (fun _ _ _ h => h) (.inl ⟨by kernel_rfl, ?_⟩) hk ?_
  · intro wx hSw
    clear hSw hk
    go_simp
    try first | with_reducible rfl | kernel_rfl
  simp only [Act.put, List.getElem_toArray, List.getElem_cons_succ, List.getElem_cons_zero, List.setIfInBounds_toArray, List.set_cons_succ, List.set_cons_zero]
  refine Wl.take (i := 1) (v := .pointer (some ⟨p, 0, none⟩)) [2, 3, 4, 6, 9, 10, 11, 14, 15] rfl (by kernel_rfl) (by kernel_rfl) (by kernel_rfl) (by kernel_rfl) (by kernel_rfl) (fun _ _ _ h => h) (.inl ⟨by kernel_rfl, ?_⟩) hk ?_
  · intro wx hSw
    clear hSw hk
    go_simp
    try first | with_reducible rfl | kernel_rfl
  simp only [Act.put, List.getElem_toArray, List.getElem_cons_succ, List.getElem_cons_zero, List.setIfInBounds_toArray, List.set_cons_succ, List.set_cons_zero]
  refine Wl.take (i := 2) (v := .pointer (some ⟨p, 0, none⟩)) [3, 4, 6, 9, 10, 11, 14, 15] rfl (by kernel_rfl) (by kernel_rfl) (by kernel_rfl) (by kernel_rfl) (by kernel_rfl) (fun _ _ _ h => h) (.inl ⟨by kernel_rfl, ?_⟩) hk ?_
  · intro wx hSw
    clear hSw hk
    go_simp
    try first | with_reducible rfl | kernel_rfl
  simp only [Act.put, List.getElem_toArray, List.getElem_cons_succ, List.getElem_cons_zero, List.setIfInBounds_toArray, List.set_cons_succ, List.set_cons_zero]
  refine Wl.take (i := 3) (v := .pointer (some ⟨p, 1, none⟩)) [4, 6, 9, 10, 11, 14, 15] rfl (by kernel_rfl) (by kernel_rfl) (by kernel_rfl) (by kernel_rfl) (by kernel_rfl) (fun _ _ _ h => h) (.inl ⟨by kernel_rfl, ?_⟩) hk ?_
  · intro wx hSw
    clear hSw hk
    go_simp
    try first | with_reducible rfl | kernel_rfl
  simp only [Act.put, List.getElem_toArray, List.getElem_cons_succ, List.getElem_cons_zero, List.setIfInBounds_toArray, List.set_cons_succ, List.set_cons_zero]
  refine Wl.take (i := 4) (v := .map (some m)) [6, 9, 10, 11, 14, 15] rfl (by kernel_rfl) (by kernel_rfl) (by kernel_rfl) (by kernel_rfl) (by kernel_rfl) (fun _ _ _ h => h) (.inl ⟨by kernel_rfl, ?_⟩) hk ?_
  · intro wx hSw
    have cc := hSw.1.c1
    clear hSw hk
    go_simp
    try first | with_reducible rfl | kernel_rfl
  simp only [Act.put, List.getElem_toArray, List.getElem_cons_succ, List.getElem_cons_zero, List.setIfInBounds_toArray, List.set_cons_succ, List.set_cons_zero]
  refine Wl.take (i := 5) (v := .int .i64 t) [6, 9, 10, 11, 14, 15] rfl (by kernel_rfl) (by kernel_rfl) (by kernel_rfl) (by kernel_rfl) (by kernel_rfl) (fun _ _ _ h => h) (.inl ⟨by kernel_rfl, ?_⟩) hk ?_
  · intro wx hSw
    clear hSw hk
    go_simp
    try first | with_reducible rfl | kernel_rfl
  simp only [Act.put, List.getElem_toArray, List.getElem_cons_succ, List.getElem_cons_zero, List.setIfInBounds_toArray, List.set_cons_succ, List.set_cons_zero]
  refine Wl.take (i := 6) (v := .int .i64 (j : Int)) [9, 10, 11, 14, 15] rfl (by kernel_rfl) (by kernel_rfl) (by kernel_rfl) (by kernel_rfl) (by kernel_rfl) (fun _ _ _ h => h) (.inl ⟨by kernel_rfl, ?_⟩) hk ?_
  · intro wx hSw
    have cc := hl wx hSw.2
    clear hSw hk
    go_simp
    try first | with_reducible rfl | kernel_rfl
  simp only [Act.put, List.getElem_toArray, List.getElem_cons_succ, List.getElem_cons_zero, List.setIfInBounds_toArray, List.set_cons_succ, List.set_cons_zero]
  refine Wl.take (i := 7) (v := .pointer (some ⟨p, 0, none⟩)) [8, 9, 10, 11, 14, 15] rfl (by kernel_rfl) (by kernel_rfl) (by kernel_rfl) (by kernel_rfl) (by kernel_rfl) (fun _ _ _ h => h) (.inl ⟨by kernel_rfl, ?_⟩) hk ?_
  · intro wx hSw
    clear hSw hk
    go_simp
    try first | with_reducible rfl | kernel_rfl
  simp only [Act.put, List.getElem_toArray, List.getElem_cons_succ, List.getElem_cons_zero, List.setIfInBounds_toArray, List.set_cons_succ, List.set_cons_zero]
  refine Wl.take (i := 8) (v := .pointer (some ⟨p, 2, none⟩)) [9, 10, 11, 14, 15] rfl (by kernel_rfl) (by kernel_rfl) (by kernel_rfl) (by kernel_rfl) (by kernel_rfl) (fun _ _ _ h => h) (.inl ⟨by kernel_rfl, ?_⟩) hk ?_
  · intro wx hSw
    clear hSw hk
    go_simp
    try first | with_reducible rfl | kernel_rfl
  simp only [Act.put, List.getElem_toArray, List.getElem_cons_succ, List.getElem_cons_zero, List.setIfInBounds_toArray, List.set_cons_succ, List.set_cons_zero]
  refine Wl.take (i := 9) (v := .pointer (some ⟨p, 2 + j, none⟩)) [10, 11, 14, 15] rfl (by kernel_rfl) (by kernel_rfl) (by kernel_rfl) (by kernel_rfl) (by kernel_rfl) (fun _ _ _ h => h) (.inl ⟨by kernel_rfl, ?_⟩) hk ?_
  · intro wx hSw
    have hj1 : (j : Int) < 8 := by omega
    clear hSw hk
    go_simp
    try first | with_reducible rfl | kernel_rfl
  simp only [Act.put, List.getElem_toArray, List.getElem_cons_succ, List.getElem_cons_zero, List.setIfInBounds_toArray, List.set_cons_succ, List.set_cons_zero]
  refine Wl.take (i := 10) (v := .int .i64 z) [11, 14, 15] rfl (by kernel_rfl) (by kernel_rfl) (by kernel_rfl) (by kernel_rfl) (by kernel_rfl) (fun _ _ _ h => h) (.inl ⟨by kernel_rfl, ?_⟩) hk ?_
  · intro wx hSw
    have cc := hSw.1.cn j hj
    rw [HZ.out] at cc
    clear hSw hk
    go_simp
    try first | with_reducible rfl | kernel_rfl
  simp only [Act.put, List.getElem_toArray, List.getElem_cons_succ, List.getElem_cons_zero, List.setIfInBounds_toArray, List.set_cons_succ, List.set_cons_zero]
  refine Wl.take (i := 11) (v := .int .i64 (z - 1)) [14, 15] rfl (by kernel_rfl) (by kernel_rfl) (by kernel_rfl) (by kernel_rfl) (by kernel_rfl) (fun _ _ _ h => h) (.inl ⟨by kernel_rfl, ?_⟩) hk ?_
  · intro wx hSw
    have cc := hwz
    clear hSw hk
    go_simp
    try first | with_reducible rfl | kernel_rfl
  simp only [Act.put, List.getElem_toArray, List.getElem_cons_succ, List.getElem_cons_zero, List.setIfInBounds_toArray, List.set_cons_succ, List.set_cons_zero]
  refine Wl.take (i := 12) (v := .pointer (some ⟨p, 0, none⟩)) [13, 14, 15] rfl (by kernel_rfl) (by kernel_rfl) (by kernel_rfl) (by kernel_rfl) (by kernel_rfl) (fun _ _ _ h => h) (.inl ⟨by kernel_rfl, ?_⟩) hk ?_
  · intro wx hSw
    clear hSw hk
    go_simp
    try first | with_reducible rfl | kernel_rfl
  simp only [Act.put, List.getElem_toArray, List.getElem_cons_succ, List.getElem_cons_zero, List.setIfInBounds_toArray, List.set_cons_succ, List.set_cons_zero]
  refine Wl.take (i := 13) (v := .pointer (some ⟨p, 2, none⟩)) [14, 15] rfl (by kernel_rfl) (by kernel_rfl) (by kernel_rfl) (by kernel_rfl) (by kernel_rfl) (fun _ _ _ h => h) (.inl ⟨by kernel_rfl, ?_⟩) hk ?_
  · intro wx hSw
    clear hSw hk
    go_simp
    try first | with_reducible rfl | kernel_rfl
  simp only [Act.put, List.getElem_toArray, List.getElem_cons_succ, List.getElem_cons_zero, List.setIfInBounds_toArray, List.set_cons_succ, List.set_cons_zero]
  refine Wl.take (i := 14) (v := .pointer (some ⟨p, 2 + j, none⟩)) [15] rfl (by kernel_rfl) (by kernel_rfl) (by kernel_rfl) (by kernel_rfl) (by kernel_rfl) (fun _ _ _ h => h) (.inl ⟨by kernel_rfl, ?_⟩) hk ?_
  · intro wx hSw
    have hj1 : (j : Int) < 8 := by omega
    clear hSw hk
    go_simp
    try first | with_reducible rfl | kernel_rfl
  simp only [Act.put, List.getElem_toArray, List.getElem_cons_succ, List.getElem_cons_zero, List.setIfInBounds_toArray, List.set_cons_succ, List.set_cons_zero]
  refine Wl.one (i := 15) (by kernel_rfl) rfl (fun K hK => ?_)
  go_simp
  try rw [hW6]
  refine hK.out _ _ (Wl.Kn.off (by kernel_rfl) HM6.out) (fun hk => ?_)
  clear hK K
  refine Wl.done (by kernel_rfl) ?_ _
  clear hk
  clear hW6 hl q1 q2 hwz
  go_wp2_with (at_delete; refine wp_run_del rfl _ _ _ _ rfl _ _ rfl rfl _ (HD7.out _).1 ?_)
  go_end0
  exact ⟨rfl, (HD7.out 0).2⟩
end Jj
end Go.Proofs.Yteihopgnpiajoaa
