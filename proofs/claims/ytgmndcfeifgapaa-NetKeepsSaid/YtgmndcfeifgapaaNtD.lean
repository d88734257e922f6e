/- Package net: a letter more, one taken. No condition. -/
import Derived.Test.YtgmndcfeifgapaaNtC
namespace Go.Proofs.Ytgmndcfeifgapaa
open Go.ChangeShapes Go.WideShapes Go.ChangeAt Go.RowKit Go.Deep
set_option linter.unusedVariables false
set_option maxRecDepth 100000
/-- an append of rows, at a step of a region that draws its order: where it lies -/
theorem stepRx {α : Type} {sz : Nat} {C : α → List Value} {P : Program} (hC : ∀ x, (C x).length = sz) {t e : TypeId} (ht : P.underlying t = some (.slice e)) {z : Value} {bytes : Nat} (hzs : z.cells.size = sz) (hsz : 0 < sz) (hinfo : (P.info? e).map (fun i => (i.zero, i.size, i.bytes)) = some (some z, sz, bytes))
    {w : World} {ops : Array Oper} {o : Oper} {a : Act} {K : Act → World → Prop} {Q : Exit → Act → World → Prop} {E : Prop} (hgd : o.guard = none) (s x : Operand)
    (ho : o.op = .call { callee := .builtin .append, args := #[s, x], argTypes := #[t, t] }) (base : Nat)
    (v : Value) (xs : List α) (hs : a.eval s = v) (hown : OwnR sz C e w base v xs) (u : Value) (zs : List α) (hx : a.eval x = u) (hsl : SlR sz C w u zs) (hne : 0 < zs.length) (h1c : ∀ x ∈ zs, ∀ u ∈ C x, u.oneCell' = true)
    (h63 : xs.length + zs.length ≤ maxLen) (hb : (xs.length + zs.length) * bytes ≤ 140737488355328) (hbase : base ≤ w.heap.size)
    (H : Nat) (hH : w.heap.size = H)
    (h : ∀ g cap w', OwnR sz C e w' base (.slice (some ⟨g, 0, none⟩) (xs.length + zs.length) cap) (xs ++ zs) → w.grownBy w' v.ownBlock → (v.ownBlock = some g ∨ g = H) → K (a.put o.dst (.slice (some ⟨g, 0, none⟩) (xs.length + zs.length) cap)) w') :
    if Region.wanted o (yielded ops a.tmps) = true then Oper.wp P o a w K Q else E := by
  have hw : Region.wanted o (yielded ops a.tmps) = true := by simp [Region.wanted, hgd]
  rw [if_pos hw]
  obtain ⟨i0, hi, hz0, hz1, hz2⟩ := info_parts hinfo
  rcases hsl.src hC with ⟨_, h0, _⟩ | ⟨ad, c, rfl, hc⟩
  · omega
  · refine wp_append_lies w s x t ho base e i0 z sz bytes ht hi hz0 hz1 hz2 hzs hsz v xs.length _ hs hown ad zs.length c (zs.flatMap C) hx (flat_len hC zs) hc (fun u hu => ?_) hne h63 hb hbase H hH fun g cap w' h2 h3 h4 _ => h g cap w' ?_ h3 h4
    · obtain ⟨y, hy1, hy⟩ := List.mem_flatMap.1 hu
      exact h1c y hy1 u hy
    · unfold OwnR
      rw [List.flatMap_append, List.length_append]
      exact h2
namespace Nt
/-- behind the append, and the store into the net's box -/
theorem add_fin {TN TL : TypeId} (hne : TL ≠ TN) {B p : Nat} {v : Value} {ls ls' : List Letr} {w X w' : World} {g n cap : Nat} (hX : NetAt TN TL X B p v ls) (hb : Below w.heap.size w X)
    (own' : OwnR 3 letC TL w' B (.slice (some ⟨g, 0, none⟩) n cap) ls') (hgr : X.grownBy w' v.ownBlock) (hor : v.ownBlock = some g ∨ g = X.heap.size) :
    NetC TN TL B p v ls' w (w'.setCell ⟨p, 0, none⟩ (.slice (some ⟨g, 0, none⟩) n cap)) := by
  obtain ⟨h1, h2, h3⟩ := hX
  have hp : w'.heap[p]? = some (.cells #[v] TN (0, 0)) := by
    rw [hgr.block p (row_lt h1) (fun e => own_ty h2 h1 hne p e.symm rfl)]
    exact h1
  have hgp := own_ty own' hp hne
  refine ⟨.slice (some ⟨g, 0, none⟩) n cap, ⟨by rw [heap_setCell_same _ p 0 _ _ _ hp]; rfl, own_keep own' (fun q hq _ => Below.heap_setCell _ _ _ _ (by simpa using hgp q hq)), h3⟩, ?_, ?_⟩
  · exact ((Below.only hb _).trans (Only.mono (Only.grown (S := fun k => k = p ∨ v.ownBlock = some k) hgr (fun q hq => .inr hq)) (fun _ h => h))).trans (Only.setCell _ _ _ (.inl rfl))
  · rcases hor with e | e
    · exact .inl e.symm
    · refine .inr (fun q hq => ?_)
      simp only [Value.ownBlock, Option.some.injEq] at hq
      have := hb.size
      omega
set_option maxHeartbeats 2000000 in
theorem add_any {B p : Nat} {v : Value} {ls : List Letr} (x : Letr) (w : World) (h : NetN w B p v ls) (hB : B ≤ w.heap.size) (hl : ls.length ≤ 1000) :
    Calls Try.prog 18 #[.pointer (some ⟨p, 0, none⟩), .agg (letC x).toArray] w fun e w' => e = .returned (.int .i64 (addE ls)) ∧ NetC 50 31 B p v (addL ls x) w w' := by
  obtain ⟨W1, hW1⟩ : ∃ q, w.alloc (.cells #[.int .i64 x.src, .int .i64 x.dst, .string x.bytes] 31) = q := ⟨_, rfl⟩
  have hb1 : Below w.heap.size w W1 := by rw [← hW1]; exact (Below.refl _ _).alloc (Nat.le_refl _) _
  have hx1 : W1.heap[w.heap.size]? = some (.cells #[.int .i64 x.src, .int .i64 x.dst, .string x.bytes] 31 (0, 0)) := by rw [← hW1]; exact heap_alloc_new _ _
  have HN1 := Lib.hid (h.below hb1)
  have HB1 := Lib.hid hb1
  have HH := Lib.hid h
  obtain ⟨a, c, rfl⟩ := own_slice h.2.1
  have c0 := HN1.out.c0
  have f0 := HN1.out.f0
  clear h hb1
  by_cases h2 : 200 ≤ ls.length
  · have h2i : (200 : Int) ≤ (ls.length : Int) := by omega
    rw [show addE ls = 5 from if_pos h2, show addL ls x = ls from if_pos h2]
    clear h2 hx1
    go_enter Try.func18, Try.ntmps18
    go_wp2
    go_ret
    exact ⟨rfl, NetC.same HH.out HB1.out⟩
  · have h2i : ¬ (200 : Int) ≤ (ls.length : Int) := by omega
    rw [show addE ls = 0 from if_neg h2, show addL ls x = ls ++ [x] from if_neg h2]
    have x0 : W1.cell? ⟨w.heap.size, 0, none⟩ = some (.int .i64 x.src) := (cell_of_row W1 _ 0 _ _ _ hx1).trans rfl
    have x1 : W1.cell? ⟨w.heap.size, 1, none⟩ = some (.int .i64 x.dst) := (cell_of_row W1 _ 1 _ _ _ hx1).trans rfl
    have x2 : W1.cell? ⟨w.heap.size, 2, none⟩ = some (.string x.bytes) := (cell_of_row W1 _ 2 _ _ _ hx1).trans rfl
    have HA : Hid (NetN (W1.drew.alloc (.cells #[.int .i64 x.src, .int .i64 x.dst, .string x.bytes] 31)) B p (.slice a ls.length c) ls) := Lib.hid (HN1.out.below ((Below.refl W1.heap.size W1).drew.alloc (Nat.le_refl _) _))
    have HBA : Hid (Below w.heap.size w (W1.drew.alloc (.cells #[.int .i64 x.src, .int .i64 x.dst, .string x.bytes] 31))) := Lib.hid (HB1.out.drew.alloc HB1.out.size _)
    have ca : (W1.alloc (.cells #[.int .i64 x.src, .int .i64 x.dst, .string x.bytes] 31)).cell? ⟨p, 0, none⟩ = some (.slice a ls.length c) := (HN1.out.below ((Below.refl W1.heap.size W1).alloc (Nat.le_refl _) _)).c0
    have HSZ : Hid (B ≤ W1.heap.size) := Lib.hid (Nat.le_trans hB HB1.out.size)
    clear h2 hx1
    go_enter Try.func18, Try.ntmps18
    go_upto_region 3 with fail
    clear hW1
    go_region_law (refine stepRx letC_len Try.underlying46 rfl (by decide) info_let rfl (.tmp 15) (.tmp 17) rfl B (.slice a ls.length c) ls rfl HA.out.2.1 (.slice (some ⟨W1.heap.size, 0, none⟩) 1 1) [x] rfl (SlR.one letC_len W1.drew W1.heap.size rfl #[.int .i64 x.src, .int .i64 x.dst, .string x.bytes] x rfl) (Nat.lt_succ_self 0) (fun y hy => letC_one y) (by unfold maxLen; simp; omega) (by simp; omega) (by have := HSZ.out; simp; omega) (W1.heap.size + 1) (by simp) ?_; intro g5 c5 w5 own5 hgr5 hor5; have HF := Lib.hid (add_fin (by decide) HA.out HBA.out own5 hgr5 (hor5.imp id (fun e => by simpa using e))); have hp5 : w5.heap[p]? = some (.cells #[.slice a ls.length c] 50 (0, 0)) := (hgr5.block p (row_lt HA.out.1) (fun e => own_ty HA.out.2.1 HA.out.1 (by decide) p e.symm rfl)).trans HA.out.1; have ck : w5.cell? ⟨p, 0, none⟩ = some (.slice a ls.length c) := (cell_of_row w5 _ 0 _ _ _ hp5).trans rfl; have fk : w5.frozen? ⟨p, 0, none⟩ = false := frozen_of_row w5 _ 0 _ _ hp5; clear own5 hgr5 hor5 hp5)
    all_goals
      go_wp2
      go_ret
      exact ⟨rfl, HF.out⟩
theorem results_cell2 {P : Program} {fn : Func} {p a : Tmp} {ty : TypeId} (h : fn.results = #[.cell p ty, .tmp a]) (tmps : Array Value) (w : World) (g : Nat) (t : TypeId) (cs : Array Value) (fr : Nat × Nat) (d : TypeDesc)
    (hp : tmps.getD p undef = .pointer (some ⟨g, 0, none⟩)) (hg : w.heap[g]? = some (.cells cs t fr))
    (hu : P.underlying ty = some d) (hd : (match d with | .struct _ | .array _ _ => true | _ => false) = true) (hi : (P.info? ty).map (·.size) = some cs.size) {x : Value} (hx : tmps.getD a undef = x) :
    (results fn tmps).run P w = .ok (.tuple #[.agg cs, x]) w := by
  subst hx
  have hp' : tmps[p]?.getD undef = .pointer (some ⟨g, 0, none⟩) := by simpa using hp
  simp [results, h, hp', asAddr, run_loadVar_row w g t ty cs fr d hg hu hd hi]
theorem below_row {B g : Nat} {w w' : World} (h : Below B w w') (hg : B ≤ g) (cs : Array Value) : Below B w (w'.setRow g cs) :=
  ⟨h.os, h.tape, h.output, by simpa [World.setRow] using h.size, fun k hk => (setRow_other w' g k cs (by omega)).trans (h.block k hk)⟩
abbrev zLA : Array Value := #[.int .i64 0, .int .i64 0, .string { data := #[] }]
abbrev lA (x : Letr) : Array Value := #[.int .i64 x.src, .int .i64 x.dst, .string x.bytes]
theorem lA_one (x : Letr) : (lA x).all (·.oneCell') = true := by simp [Value.oneCell']
theorem let_cells {TL : TypeId} {w : World} {B k : Nat} {v : Value} {ls : List Letr} (h : OwnR 3 letC TL w B v ls) (hk : k < ls.length) : ∃ g c, v = .slice (some ⟨g, 0, none⟩) ls.length c ∧ ls.length ≤ c ∧ c ≤ 9223372036854775807 ∧ g < w.heap.size ∧ v.ownBlock = some g ∧ w.cell? ⟨g, k * 3, none⟩ = some (.int .i64 (ls.getD k zLet).src) ∧ w.cell? ⟨g, k * 3 + 1, none⟩ = some (.int .i64 (ls.getD k zLet).dst) ∧ w.cell? ⟨g, k * 3 + 2, none⟩ = some (.string (ls.getD k zLet).bytes) := by
  rcases SlR.cases (h.sl letC_len) with ⟨a, cap, e, rfl⟩ | ⟨b, off, cap, e, -, h1, h2, h3, h4⟩
  · simp at hk
  · rcases own_form h with ⟨rfl, -⟩ | ⟨g, c, cur, rfl, hh, -⟩
    · cases e
    · simp only [Value.slice.injEq, Option.some.injEq, Addr.mk.injEq] at e
      obtain ⟨⟨rfl, rfl, -⟩, -, rfl⟩ := e
      have hx : ls[k]? = some (ls.getD k zLet) := by rw [List.getD_eq_getElem?_getD, List.getElem?_eq_getElem hk]; rfl
      have a0 := h4 k _ hx 0 _ rfl
      have a1 := h4 k _ hx 1 _ rfl
      have a2 := h4 k _ hx 2 _ rfl
      rw [Nat.zero_add] at a0 a1 a2
      exact ⟨_, _, rfl, h1, h2, row_lt hh, rfl, a0, a1, a2⟩
set_option maxHeartbeats 2000000 in
theorem send_any {B p : Nat} {v : Value} {ls : List Letr} (x : Letr) (w : World) (h : NetN w B p v ls) (hB : B ≤ w.heap.size) (hl : ls.length ≤ 1000) :
    Calls Try.prog 7 #[.pointer (some ⟨p, 0, none⟩), .agg (letC x).toArray] w fun e w' => e = .returned (.int .i64 (sendE ls x)) ∧ NetC 50 31 B p v (sendL ls x) w w' := by
  obtain ⟨W1, hW1⟩ : ∃ q, w.alloc (.cells #[.int .i64 x.src, .int .i64 x.dst, .string x.bytes] 31) = q := ⟨_, rfl⟩
  have hb1 : Below w.heap.size w W1 := by rw [← hW1]; exact (Below.refl _ _).alloc (Nat.le_refl _) _
  have hx1 : W1.heap[w.heap.size]? = some (.cells #[.int .i64 x.src, .int .i64 x.dst, .string x.bytes] 31 (0, 0)) := by rw [← hW1]; exact heap_alloc_new _ _
  have HN1 := Lib.hid (h.below hb1)
  have HB1 := Lib.hid hb1
  have HH := Lib.hid h
  have HBW := Lib.hid (Nat.le_trans hB hb1.size)
  have x0 : W1.cell? ⟨w.heap.size, 0, none⟩ = some (.int .i64 x.src) := (cell_of_row W1 _ 0 _ _ _ hx1).trans rfl
  have x1 : W1.cell? ⟨w.heap.size, 1, none⟩ = some (.int .i64 x.dst) := (cell_of_row W1 _ 1 _ _ _ hx1).trans rfl
  have x2 : W1.cell? ⟨w.heap.size, 2, none⟩ = some (.string x.bytes) := (cell_of_row W1 _ 2 _ _ _ hx1).trans rfl
  clear h hb1 hx1 hB
  by_cases g1 : nodeP x.src
  · have d1 : decide (nodeP x.src) = true := decide_eq_true g1
    by_cases g2 : nodeP x.dst
    · have d2 : decide (nodeP x.dst) = true := decide_eq_true g2
      have hn : ¬ (¬ nodeP x.src ∨ ¬ nodeP x.dst) := by rintro (q | q); exact q g1; exact q g2
      by_cases g3 : 8200 < x.bytes.size
      · have g3i : (8200 : Int) < (x.bytes.size : Int) := by omega
        rw [show sendE ls x = 2 by unfold sendE; rw [if_neg hn, if_pos g3], show sendL ls x = ls by unfold sendL; rw [if_neg hn, if_pos g3]]
        clear hn g1 g2 g3
        go_enter Try.func7, Try.ntmps7
        go_wp2_with fail
        refine (isNode_any _ _).mono ?_
        rintro e w2 ⟨rfl, rfl⟩
        rw [d1]
        go_wp2_with fail
        refine (isNode_any _ _).mono ?_
        rintro e w2 ⟨rfl, rfl⟩
        rw [d2]
        go_wp2_with fail
        go_ret
        exact ⟨rfl, NetC.same HH.out HB1.out⟩
      · have g3i : ¬ (8200 : Int) < (x.bytes.size : Int) := by omega
        rw [show sendE ls x = addE ls by unfold sendE; rw [if_neg hn, if_neg g3], show sendL ls x = addL ls x by unfold sendL; rw [if_neg hn, if_neg g3]]
        clear hn g1 g2 g3
        go_enter Try.func7, Try.ntmps7
        go_wp2_with fail
        refine (isNode_any _ _).mono ?_
        rintro e w2 ⟨rfl, rfl⟩
        rw [d1]
        go_wp2_with fail
        refine (isNode_any _ _).mono ?_
        rintro e w2 ⟨rfl, rfl⟩
        rw [d2]
        go_wp2_with fail
        refine (add_any x _ HN1.out HBW.out hl).mono ?_
        rintro e w2 ⟨rfl, v', q1, q2, q3⟩
        have HF : Hid (NetC 50 31 B p v (addL ls x) w w2) := Lib.hid ⟨v', q1, (Below.only HB1.out _).trans q2, q3.imp id (fun h q hq => Nat.le_trans HB1.out.size (h q hq))⟩
        clear q1 q2 q3
        go_wp2_with fail
        go_ret
        exact ⟨rfl, HF.out⟩
    · have d2 : decide (nodeP x.dst) = false := decide_eq_false g2
      rw [show sendE ls x = 1 by unfold sendE; rw [if_pos (.inr g2)], show sendL ls x = ls by unfold sendL; rw [if_pos (.inr g2)]]
      clear g1 g2
      go_enter Try.func7, Try.ntmps7
      go_wp2_with fail
      refine (isNode_any _ _).mono ?_
      rintro e w2 ⟨rfl, rfl⟩
      rw [d1]
      go_wp2_with fail
      refine (isNode_any _ _).mono ?_
      rintro e w2 ⟨rfl, rfl⟩
      rw [d2]
      go_wp2_with fail
      go_ret
      exact ⟨rfl, NetC.same HH.out HB1.out⟩
  · have d1 : decide (nodeP x.src) = false := decide_eq_false g1
    rw [show sendE ls x = 1 by unfold sendE; rw [if_pos (.inl g1)], show sendL ls x = ls by unfold sendL; rw [if_pos (.inl g1)]]
    clear g1
    go_enter Try.func7, Try.ntmps7
    go_wp2_with fail
    refine (isNode_any _ _).mono ?_
    rintro e w2 ⟨rfl, rfl⟩
    rw [d1]
    go_wp2_with fail
    go_ret
    exact ⟨rfl, NetC.same HH.out HB1.out⟩
set_option maxHeartbeats 2000000 in
theorem double_any {B p : Nat} {v : Value} {ls : List Letr} (i : Int) (w : World) (h : NetN w B p v ls) (hB : B ≤ w.heap.size) (hl : ls.length ≤ 1000) :
    Calls Try.prog 11 #[.pointer (some ⟨p, 0, none⟩), .int .i64 i] w fun e w' => e = .returned (.int .i64 (dblE ls i)) ∧ NetC 50 31 B p v (dblL ls i) w w' := by
  have HH := Lib.hid h
  have c0 := h.c0
  clear h
  by_cases g : inP ls i
  · have d : decide (inP ls i) = true := decide_eq_true g
    rw [show dblE ls i = addE ls from if_pos g, show dblL ls i = addL ls (ls.getD i.toNat zLet) from if_pos g]
    obtain ⟨k, rfl⟩ : ∃ k : Nat, i = k := ⟨i.toNat, by have := g.1; omega⟩
    have hk : k < ls.length := by have := g.2; omega
    obtain ⟨gb, cp, rfl, -, -, -, -, a0, a1, a2⟩ := let_cells HH.out.2.1 hk
    rw [Int.toNat_natCast]
    obtain ⟨x, hx⟩ : ∃ x, ls.getD k zLet = x := ⟨_, rfl⟩
    rw [hx] at a0 a1 a2 ⊢
    have hki : (k : Int) < (ls.length : Int) := by omega
    clear g hx
    go_enter Try.func11, Try.ntmps11
    go_wp2_with fail
    refine (has_any _ _ HH.out).mono ?_
    rintro e w1 ⟨rfl, rfl⟩
    rw [d]
    go_wp2_with fail
    refine (add_any x _ HH.out hB hl).mono ?_
    rintro e w2 ⟨rfl, q1⟩
    have HF := Lib.hid q1
    clear q1
    go_wp2_with fail
    go_ret
    exact ⟨rfl, HF.out⟩
  · have d : decide (inP ls i) = false := decide_eq_false g
    rw [show dblE ls i = 4 from if_neg g, show dblL ls i = ls from if_neg g]
    clear g
    go_enter Try.func11, Try.ntmps11
    go_wp2_with fail
    refine (has_any _ _ HH.out).mono ?_
    rintro e w1 ⟨rfl, rfl⟩
    rw [d]
    go_wp2_with fail
    go_ret
    exact ⟨rfl, NetC.same HH.out (Below.refl _ _)⟩
set_option maxHeartbeats 2000000 in
theorem take_any {B p : Nat} {v : Value} {ls : List Letr} (i : Int) (w : World) (h : NetN w B p v ls) (hl : ls.length ≤ 1000) :
    Calls Try.prog 9 #[.pointer (some ⟨p, 0, none⟩), .int .i64 i] w fun e w' => e = .returned (.tuple #[.agg (lA (takeX ls i)), .int .i64 (takeE ls i)]) ∧ NetC 50 31 B p v (takeL ls i) w w' := by
  obtain ⟨W1, hW1⟩ : ∃ q, w.alloc (.cells #[.int .i64 0, .int .i64 0, .string { data := #[] }] 31) = q := ⟨_, rfl⟩
  have hb1 : Below w.heap.size w W1 := by rw [← hW1]; exact (Below.refl _ _).alloc (Nat.le_refl _) _
  have hx1 : W1.heap[w.heap.size]? = some (.cells zLA 31 (0, 0)) := by rw [← hW1]; exact heap_alloc_new _ _
  have hz1 : W1.heap.size = w.heap.size + 1 := by rw [← hW1]; simp
  have HH := Lib.hid h
  have HN1 := Lib.hid (h.below hb1)
  have HB1 := Lib.hid hb1
  have HX1 := Lib.hid hx1
  have HZ1 := Lib.hid hz1
  clear h hb1 hz1
  by_cases g : inP ls i
  · have d : decide (inP ls i) = true := decide_eq_true g
    rw [show takeE ls i = 0 from if_pos g, show takeX ls i = ls.getD i.toNat zLet from if_pos g, show takeL ls i = ls.take i.toNat ++ ls.drop (i.toNat + 1) from if_pos g]
    obtain ⟨k, rfl⟩ : ∃ k : Nat, i = k := ⟨i.toNat, by have := g.1; omega⟩
    have hk : k < ls.length := by have := g.2; omega
    rw [Int.toNat_natCast]
    obtain ⟨gb, cp, rfl, hc1, hc2, hgb, hob, a0, a1, a2⟩ := let_cells HN1.out.2.1 hk
    obtain ⟨x, hx⟩ : ∃ x, ls.getD k zLet = x := ⟨_, rfl⟩
    rw [hx] at a0 a1 a2 ⊢
    have hki : (k : Int) < (ls.length : Int) := by omega
    obtain ⟨W2, hW2⟩ : ∃ q, W1.alloc (.cells #[.int .i64 x.src, .int .i64 x.dst, .string x.bytes] 31) = q := ⟨_, rfl⟩
    have hb2 : Below W1.heap.size W1 W2 := by rw [← hW2]; exact (Below.refl _ _).alloc (Nat.le_refl _) _
    have HX2 : Hid (W2.heap[W1.heap.size]? = some (.cells (lA x) 31 (0, 0))) := Lib.hid (by rw [← hW2]; exact heap_alloc_new _ _)
    have HN2 := Lib.hid (HN1.out.below hb2)
    have HB2 := Lib.hid (HB1.out.trans (hb2.mono HB1.out.size))
    have HX12 := Lib.hid ((hb2.block _ (row_lt HX1.out)).trans HX1.out)
    have HGB : Hid (gb < w.heap.size) := Lib.hid (by
      rcases own_form HH.out.2.1 with ⟨e, -⟩ | ⟨g2, c2, cur, e, hh, -⟩
      · cases e
      · simp only [Value.slice.injEq, Option.some.injEq, Addr.mk.injEq] at e
        rw [e.1.1]; exact row_lt hh)
    have c1 := HN1.out.c0
    have c2 := HN2.out.c0
    clear g hx hb2 hgb hob hx1
    go_enter Try.func9, Try.ntmps9
    go_wp2_with fail
    clear hW1
    refine (has_any _ _ HN1.out).mono ?_
    rintro e w1 ⟨rfl, hw⟩
    rw [hw, d]
    clear hw
    go_wp2_with fail
    clear hW2
    rcases Iq.Row.of HN2.out.2.1 with ⟨e, -⟩ | ⟨g3, c3, cur, e, hg3, hrow⟩
    · cases e
    simp only [Value.slice.injEq, Option.some.injEq, Addr.mk.injEq] at e
    obtain ⟨⟨rfl, -, -⟩, -, rfl⟩ := e
    refine (Iq.delete_any ls k gb cp cur _ hk hrow B hg3).mono ?_
    rintro e w3 ⟨rfl, own3, hgr3⟩
    have hgr4 : W2.grownBy w3 (Value.slice (some ⟨gb, 0, none⟩) ls.length cp).ownBlock := hgr3
    have hp3 : w3.heap[p]? = some (.cells #[.slice (some ⟨gb, 0, none⟩) ls.length cp] 50 (0, 0)) := (hgr4.block p (row_lt HN2.out.1) (fun e => own_ty HN2.out.2.1 HN2.out.1 (by decide) p e.symm rfl)).trans HN2.out.1
    have ck : w3.cell? ⟨p, 0, none⟩ = some (.slice (some ⟨gb, 0, none⟩) ls.length cp) := (cell_of_row w3 _ 0 _ _ _ hp3).trans rfl
    have fk : w3.frozen? ⟨p, 0, none⟩ = false := frozen_of_row w3 _ 0 _ _ hp3
    have hf := add_fin (by decide) HN2.out HB2.out own3 hgr4 (.inl rfl)
    obtain ⟨W4, hW4⟩ : ∃ q, w3.setCell ⟨p, 0, none⟩ (.slice (some ⟨gb, 0, none⟩) (ls.length - 1) cp) = q := ⟨_, rfl⟩
    rw [hW4] at hf
    have hpl : p < w.heap.size := row_lt HH.out.1
    have hx4 : W4.heap[W1.heap.size]? = some (.cells (lA x) 31 (0, 0)) := by
      rw [← hW4, Below.heap_setCell _ _ _ _ (by have := HB1.out.size; simp; omega), hgr3.block _ (row_lt HX2.out) (fun e => by have := HGB.out; have := HB1.out.size; simp only [Option.some.injEq] at e; omega)]
      exact HX2.out
    have hr4 : W4.heap[w.heap.size]? = some (.cells zLA 31 (0, 0)) := by
      rw [← hW4, Below.heap_setCell _ _ _ _ (by simp; omega), hgr3.block _ (row_lt HX12.out) (fun e => by have := HGB.out; simp only [Option.some.injEq] at e; omega)]
      exact HX12.out
    obtain ⟨W5, hW5⟩ : ∃ q, W4.setRow w.heap.size (lA x) = q := ⟨_, rfl⟩
    have hq5 : W5.heap[w.heap.size]? = some (.cells (lA x) 31 (0, 0)) := by rw [← hW5]; exact setRow_heap _ _ _ _ _ _ hr4
    have HF : Hid (NetC 50 31 B p (.slice (some ⟨gb, 0, none⟩) ls.length cp) (ls.take k ++ ls.drop (k + 1)) w W5) := Lib.hid (by
      have hgw := HGB.out
      have hbk : ∀ q, q ≠ w.heap.size → W5.heap[q]? = W4.heap[q]? := fun q hq => by rw [← hW5]; exact setRow_other _ _ _ _ hq
      have hs5 : W4.heap.size ≤ W5.heap.size := by rw [← hW5]; simp [World.setRow]
      have hos : W5.os = W4.os ∧ W5.tape = W4.tape ∧ W5.output = W4.output := by rw [← hW5]; exact ⟨rfl, rfl, rfl⟩
      have own4 : OwnR 3 letC 31 W4 B (.slice (some ⟨gb, 0, none⟩) (ls.length - 1) cp) (ls.take k ++ ls.drop (k + 1)) := by
        rw [← hW4]
        exact own_keep own3 (fun q hq _ => Below.heap_setCell _ _ _ _ (by simpa using own_ty own3 hp3 (by decide) q hq))
      have hp4 : W4.heap[p]? = some (.cells #[.slice (some ⟨gb, 0, none⟩) (ls.length - 1) cp] 50 (0, 0)) := by rw [← hW4, heap_setCell_same _ p 0 _ _ _ hp3]; rfl
      obtain ⟨v', ⟨b1, b2, b3⟩, b4, b5⟩ := hf
      exact ⟨_, ⟨(hbk p (by omega)).trans hp4, own_keep own4 (fun q hq _ => hbk q (by simp only [Value.ownBlock, Option.some.injEq] at hq; omega)), b3⟩, ⟨hos.1.trans b4.1, hos.2.1.trans b4.2.1, hos.2.2.trans b4.2.2.1, Nat.le_trans b4.2.2.2.1 hs5, fun q hq hn => (hbk q (by omega)).trans (b4.2.2.2.2 q hq hn)⟩, .inl rfl⟩)
    clear own3 hgr3 hgr4 hf hpl hrow hg3
    go_wp2_with (first
      | (with_reducible refine wpList_load_row rfl 31 (.tmp 6) rfl W1.heap.size rfl 31 (lA x) (0, 0) _ hx4 Try.underlying31 rfl (by kernel_rfl) ?_)
      | (with_reducible refine wpList_store_row rfl 31 (.tmp 4) (.tmp 30) rfl w.heap.size (lA x) rfl rfl 31 _ hr4 (by kernel_rfl) rfl (lA_one x) ?_; rw [hW5]; clear hW5))
    refine bodyPost_ret (v := .tuple #[.agg (lA x), .int .i64 0]) (results_cell2 rfl _ _ w.heap.size 31 _ (0, 0) _ rfl hq5 Try.underlying31 rfl (by kernel_rfl) rfl) rfl ?_
    exact ⟨rfl, HF.out⟩
  · have d : decide (inP ls i) = false := decide_eq_false g
    rw [show takeE ls i = 4 from if_neg g, show takeX ls i = zLet from if_neg g, show takeL ls i = ls from if_neg g]
    clear g
    obtain ⟨W2, hW2⟩ : ∃ q, W1.setRow w.heap.size zLA = q := ⟨_, rfl⟩
    have hq2 : W2.heap[w.heap.size]? = some (.cells zLA 31 (0, 0)) := by rw [← hW2]; exact setRow_heap _ _ _ _ _ _ hx1
    have HB2 : Hid (Below w.heap.size w W2) := Lib.hid (by rw [← hW2]; exact below_row HB1.out (Nat.le_refl _) _)
    go_enter Try.func9, Try.ntmps9
    go_wp2_with fail
    clear hW1
    refine (has_any _ _ HN1.out).mono ?_
    rintro e w1 ⟨rfl, hw⟩
    rw [hw, d]
    clear hw
    go_wp2_with (first | (with_reducible refine wpList_store_row rfl 31 (.tmp 4) (.tmp 11) rfl w.heap.size zLA rfl rfl 31 _ hx1 (by kernel_rfl) rfl (by kernel_rfl) ?_; rw [hW2]; clear hW2) | fail)
    refine bodyPost_ret (v := .tuple #[.agg zLA, .int .i64 4]) (results_cell2 rfl _ _ w.heap.size 31 _ (0, 0) _ rfl hq2 Try.underlying31 rfl (by kernel_rfl) rfl) rfl ?_
    exact ⟨rfl, NetC.same HH.out HB2.out⟩
end Nt
end Go.Proofs.Ytgmndcfeifgapaa
