/- The law's example of a keeper. No condition. What is due behind one lease, and what it does to a ledger: lists alone. No condition. -/
import Derived.Test.YtgbblegcjladaaaLsC
import Derived.Test.YtgbblegcjladaaaCmdS
import Derived.Test.YtgbblegcjladaaaMcO
import Derived.Test.YtgbblegcjladaaaLaC
namespace Go.Proofs.Ytgbblegcjladaaa
open Go.ChangeShapes Go.WideShapes Go.ChangeAt Go.RowKit Go.Deep Go.Maps Go.ChangeMaps Go.MapKept
set_option linter.unusedVariables false
set_option maxRecDepth 100000
set_option linter.unusedSimpArgs false
namespace Ls
open Mc
variable {w w' a : World} {S O : Nat → Prop} {p q B : Nat} {n now : Int} {vh vl vx : Value} {L : List Row}
section
variable {w w' : World}
def recK (x : KR) : Cmd := ⟨6, 0, x.token, [], 0, 0, x.serial, x.stamp⟩
theorem isc (z : KR) (h : z.wf) (w : World) : IsCmd w (.agg (rcA z)) (recK z) :=
  ⟨.slice none 0 0, rfl, ⟨none, 0, rfl, Nat.le_refl _, Nat.zero_le _, by simp [recK], .inl ⟨rfl, rfl, rfl⟩⟩, rfl, rfl, h.1, rfl, rfl, h.2.1, h.2.2⟩
theorem rng_below {b o : Nat} {l : List Value} (h : w.rangeAt b o l) (hb : Below w.heap.size w w') : w'.rangeAt b o l := fun j v hv => by
  have h1 := h j v hv
  have h2 := World.block_lt_of_cell? _ _ h1
  exact (hb.cell (p := ⟨b, o + j, none⟩) h2).trans h1
end
abbrev KpO (p : Nat) (n : Int) (L : List Row) (O : Nat → Prop) (B : Nat) (a w : World) : Prop := OneO (KpX p n L) O B a w
theorem KpO.leads (h : KpO p n L O B a w) (now : Int) (l : Led) (hL : ∀ w', Below B a w' → (∀ k, O k → w'.heap[k]? = w.heap[k]?) → SlR 5 heldC w' vh l.held) (hlen : l.held.length ≤ 1000) (hw : ∀ x ∈ l.held, x.wf) (hn : (l.held.map keyR).Nodup) :
    Calls Try.prog 12 #[.pointer (some ⟨p, 0, none⟩), .int .i64 now, .agg (lArr l vh vl)] w fun e w' => e = .returned (.tuple #[]) ∧ KpO p n (seesV now [] l.held) O B a w' ∧ ∀ k, O k → w'.heap[k]? = w.heap[k]? := by
  have h0 := h
  refine OneO.call (goodK p n L) h (fun S hv hO hS => ?_)
  obtain ⟨vk, b, hv⟩ := hv
  obtain ⟨S0, -, -, h3, -, -⟩ := h
  refine (leads_any now l w hv (fun w' ho => hL w' (ho.below h0.bel.1 h0.bel.2 hS) (fun k hk => ho.2.2.2.2 k (h3 k hk).1 (hO k hk))) hlen hw hn).mono ?_
  rintro e w' ⟨he, hl⟩
  exact ⟨he, hl⟩
theorem KpO.sees (h : KpO p n L O B a w) (hok : OkL L) (now : Int) (l : Led) (hL : ∀ w', Below B a w' → (∀ k, O k → w'.heap[k]? = w.heap[k]?) → SlR 5 heldC w' vh l.held) (hlen : l.held.length ≤ 1000) (hw : ∀ x ∈ l.held, x.wf) (hn : (l.held.map keyR).Nodup) :
    Calls Try.prog 14 #[.pointer (some ⟨p, 0, none⟩), .int .i64 now, .agg (lArr l vh vl)] w fun e w' => e = .returned (.tuple #[]) ∧ KpO p n (seesV now L l.held) O B a w' ∧ ∀ k, O k → w'.heap[k]? = w.heap[k]? := by
  have h0 := h
  refine OneO.call (goodK p n L) h (fun S hv hO hS => ?_)
  obtain ⟨vk, b, hv⟩ := hv
  obtain ⟨S0, -, -, h3, -, -⟩ := h
  refine (sees_any now l w hv.toKnV hok (fun w' ho => hL w' (ho.below h0.bel.1 h0.bel.2 hS) (fun k hk => ho.2.2.2.2 k (h3 k hk).1 (hO k hk))) hlen hw hn).mono ?_
  rintro e w' ⟨he, hl⟩
  exact ⟨he, hl⟩
/-- what is due, in new blocks, nobody's -/
def DueO (p : Nat) (n now : Int) (L : List Row) (O : Nat → Prop) (B : Nat) (a w : World) (e : Ending) (w' : World) : Prop := ∃ vd, e = .returned vd ∧ OwnR 8 rcC TCm w' w.heap.size vd (dueK n now L) ∧ KpO p n (doneV n now L) (fun k => O k ∨ (w.heap.size ≤ k ∧ k < w'.heap.size)) B a w' ∧ ∀ k, O k → w'.heap[k]? = w.heap[k]?
theorem KpO.due (h : KpO p n L O B a w) (hok : OkL L) (hn : 1 ≤ n ∧ n ≤ 1073741824) (hlen : L.length ≤ 1000) (now : Int) :
    Calls Try.prog 17 #[.pointer (some ⟨p, 0, none⟩), .int .i64 now] w (DueO p n now L O B a w) := by
  refine (OneO.callS (Q := fun e w' => ∃ vd, e = .returned vd ∧ OwnR 8 rcC TCm w' w.heap.size vd (dueK n now L)) (V' := KpX p n (doneV n now L)) (goodK p n L) h (fun S hv hO hS => ?_)).mono ?_
  · obtain ⟨vk, b, hv⟩ := hv
    refine (due_any now w hv hok hn hlen).mono ?_
    rintro e w' ⟨vd, he, h1, h2, h3⟩
    exact ⟨⟨vd, he, h1⟩, h2, h3⟩
  · rintro e w' ⟨⟨vd, he, h1⟩, h2, h3⟩
    exact ⟨vd, he, h1, h2, h3⟩
/-! ### the example -/
abbrev E0 : Held := ⟨1, 1, 1, 1, 3⟩
abbrev Z0 : KR := ⟨1, 1, 3⟩
theorem e0_wf : ∀ x ∈ [E0], x.wf := by intro x hx; simp at hx; subst hx; exact ⟨rfl, rfl, rfl, rfl, rfl⟩
theorem ex1 : seesV 5 [] [E0] = [⟨E0, 5⟩] := rfl
theorem ex2 : dueK 10 14 [⟨E0, 5⟩] = [] ∧ doneV 10 14 [⟨E0, 5⟩] = [⟨E0, 5⟩] := by constructor <;> rfl
theorem ex3 : dueK 10 15 [⟨E0, 5⟩] = [Z0] ∧ doneV 10 15 [⟨E0, 5⟩] = [⟨E0, 15⟩] := by constructor <;> rfl
theorem ex4 : dueK 10 16 [⟨E0, 15⟩] = [] := by rfl
theorem okE (s : Int) (h0 : 0 ≤ s) (h1 : s ≤ 100) : OkL [⟨E0, s⟩] := ⟨fun x hx => by simp at hx; subst hx; exact ⟨rfl, rfl, rfl, rfl, rfl⟩, fun x hx => by simp at hx; subst hx; unfold top; exact ⟨h0, by show s ≤ _; omega⟩, by simp⟩
theorem same0 (w : World) : Calls Try.prog 43 #[.agg #[.int .i64 6, .int .i64 0, .int .i64 1, .slice none 0 0, .int .u64 0, .int .u64 0, .int .u64 1, .int .u64 3], .agg #[.int .i64 6, .int .i64 0, .int .i64 1, .slice none 0 0, .int .u64 0, .int .u64 0, .int .u64 1, .int .u64 3]] w fun e w' => e = .returned (.bool true) ∧ Below w.heap.size w w' := Cm.same_true (recK Z0) _ _ _ (isc Z0 ⟨rfl, rfl, rfl⟩ _) (isc Z0 ⟨rfl, rfl, rfl⟩ _)
set_option maxHeartbeats 4000000 in
theorem keeps_any (w : World) : Calls Try.prog 7 #[] w fun e w' => e = .returned (.bool true) ∧ Below w.heap.size w w' := by
  go_enter Try.func7, Try.ntmps7
  go_wp2_with fail
  refine (new_any 10 w).mono ?_
  rintro e w1 (⟨-, -, ⟨p, rfl, hk, hp⟩, hb⟩ | ⟨h, -⟩)
  rotate_left
  · exact absurd ⟨by decide, by decide⟩ h
  obtain ⟨g, hg⟩ : ∃ q, w1.heap.size = q := ⟨_, rfl⟩
  obtain ⟨W2, hW2⟩ : ∃ q, w1.alloc (.cells #[.int .i64 1, .int .i64 1, .int .u64 1, .int .u64 1, .int .u64 3] 47) = q := ⟨_, rfl⟩
  have hb2 : Below w1.heap.size w1 W2 := by rw [← hW2]; exact (Below.refl _ _).alloc (Nat.le_refl _) _
  have hr2 : W2.heap[g]? = some (.cells #[.int .i64 1, .int .i64 1, .int .u64 1, .int .u64 1, .int .u64 3] 47 (0, 0)) := by rw [← hW2, ← hg]; exact heap_alloc_new _ _
  have hbw : w.heap.size ≤ w1.heap.size := hb.size
  have H2 : Hid (KpO p 10 [] (fun k => k = g) w.heap.size w W2) := Lib.hid ⟨_, ⟨_, _, hk.keep (fun k hk2 => hb2.block k (hk.low k hk2)) hb2.size⟩, fun k e => e ▸ hp, fun k e => ⟨e ▸ row_lt hr2, fun e2 => by have := row_lt hk.row; omega, by omega⟩, hb.trans (hb2.mono hbw), Nat.le_trans hbw hb2.size⟩
  have HS : Hid (∀ w', w'.heap[g]? = W2.heap[g]? → SlR 5 heldC w' (.slice (some ⟨g, 0, none⟩) 1 1) [E0]) := Lib.hid (fun w' e => by
    refine ⟨_, 1, rfl, Nat.le_refl _, by decide, .inr ⟨g, 0, none, rfl, .inr ⟨rfl, row_lt (e.trans hr2), fun i y hy j u hu => ?_⟩⟩⟩
    match i, hy with
    | 0, hy =>
      simp only [List.getElem?_cons_zero, Option.some.injEq] at hy
      subst hy
      rw [cell_of_row _ _ _ _ _ _ (e.trans hr2)]
      simpa [heldC] using hu
    | i + 1, hy => simp at hy)
  have HC1 := Lib.hid (KpO.leads (vl := .slice none 0 0) H2.out 5 ⟨2, 2, [E0], []⟩ (fun w' _ ho => HS.out w' (ho g rfl)) (by decide) e0_wf (by simp))
  clear hk hp hb hb2 hr2 hbw
  go_upto_region 5 with (first | rw [hW2] | ((with_reducible refine HC1.out.mono ?_); rintro e w3 ⟨rfl, h3, -⟩; have H3 := Lib.hid h3; clear h3))
  rw [ex1] at H3
  have HC2 := Lib.hid (KpO.due H3.out (okE 5 (by decide) (by decide)) (by decide) (by decide) 14)
  go_upto_region 6 with (first | ((with_reducible refine HC2.out.mono ?_); rintro e w4 ⟨v1, rfl, o1, h4, -⟩; rw [ex2.1] at o1; rw [ex2.2] at h4; obtain ⟨a1, c1, hv1⟩ := own_slice o1; simp only [List.length_nil] at hv1; subst hv1; have H4 := Lib.hid h4; clear h4 o1))
  have HC3 := Lib.hid (KpO.due H4.out (okE 5 (by decide) (by decide)) (by decide) (by decide) 15)
  go_upto_region 7 with (first | ((with_reducible refine HC3.out.mono ?_); rintro e w5 ⟨v2, rfl, o2, h5, -⟩; rw [ex3.1] at o2; rw [ex3.2] at h5; obtain ⟨a2, c2, hv2⟩ := own_slice o2; simp only [List.length_singleton] at hv2; subst hv2; have H5 := Lib.hid h5; have O2 := Lib.hid o2; clear h5 o2))
  have HC4 := Lib.hid (KpO.due H5.out (okE 15 (by decide) (by decide)) (by decide) (by decide) 16)
  have HZ4 : Hid (w4.heap.size ≤ w5.heap.size ∧ w5.heap.size ≤ w5.heap.size) := Lib.hid ⟨by rcases own_form O2.out with ⟨-, h0⟩ | ⟨g2, c, cur, -, e2, hB⟩; simp at h0; have := row_lt e2; omega, Nat.le_refl _⟩
  go_upto_region 8 with (first | ((with_reducible refine HC4.out.mono ?_); rintro e w6 ⟨v3, rfl, o3, h6, k6⟩; rw [ex4] at o3; obtain ⟨a3, c3, hv3⟩ := own_slice o3; simp only [List.length_nil] at hv3; subst hv3; have H6 := Lib.hid h6; have K6 := Lib.hid k6; clear h6 o3 k6))
  have ho6 : OwnR 8 rcC TCm w6 w4.heap.size (.slice a2 1 c2) [Z0] := own_keep O2.out (fun q hq hl => K6.out q (.inr ⟨(World.ownsRow.lt O2.out q hq).1, hl⟩))
  have HEND : Hid (Below w.heap.size w w6) := Lib.hid H6.out.bel.1
  obtain ⟨b2, o2, rfl, y0, y1, y2, y3, y4, y5, y6, y7⟩ : ∃ b off, a2 = some ⟨b, off, none⟩ ∧ w6.cell? ⟨b, off, none⟩ = some (.int .i64 6) ∧ w6.cell? ⟨b, off + 1, none⟩ = some (.int .i64 0) ∧ w6.cell? ⟨b, off + 2, none⟩ = some (.int .i64 1) ∧ w6.cell? ⟨b, off + 3, none⟩ = some (.slice none 0 0) ∧ w6.cell? ⟨b, off + 4, none⟩ = some (.int .u64 0) ∧ w6.cell? ⟨b, off + 5, none⟩ = some (.int .u64 0) ∧ w6.cell? ⟨b, off + 6, none⟩ = some (.int .u64 1) ∧ w6.cell? ⟨b, off + 7, none⟩ = some (.int .u64 3) := by
    rcases SlR.cases (ho6.sl rcC_len) with ⟨a9, c9, e, hnil⟩ | ⟨b, off, c9, e, -, -, -, -, hc⟩
    · cases hnil
    · simp only [Value.slice.injEq] at e
      have hc := hc 0 Z0 rfl
      simp only [Nat.zero_mul, Nat.zero_add] at hc
      exact ⟨b, off, e.1, hc 0 _ rfl, hc 1 _ rfl, hc 2 _ rfl, hc 3 _ rfl, hc 4 _ rfl, hc 5 _ rfl, hc 6 _ rfl, hc 7 _ rfl⟩
  clear ho6
  go_wp2_with (first | ((with_reducible refine (same0 _).mono ?_); rintro e w7 ⟨rfl, hb7⟩; have HB7 := Lib.hid (HEND.out.trans (hb7.mono HEND.out.size)); clear hb7))
  go_ret
  exact ⟨rfl, HB7.out⟩
end Ls
end Go.Proofs.Ytgbblegcjladaaa
namespace Go.Proofs.Ytgbblegcjladaaa
open Go.ChangeShapes Go.WideShapes Go.ChangeAt Go.RowKit Go.Deep
set_option linter.unusedVariables false
set_option maxRecDepth 100000
set_option linter.unusedSimpArgs false
namespace Ls
open La Cm Ld
theorem held_nd {l : Led} (h : LedP l) : (l.held.map keyR).Nodup := by
  have hp := h.2.2.2.2.1.1
  refine List.pairwise_map.2 (hp.imp ?_)
  intro x y hxy e
  have := congrArg KR.token e
  have h1 : x.token = y.token := this
  have := hxy.1
  omega
theorem sees_again {now now' : Int} {H : List Held} (hn : (H.map keyR).Nodup) : seesV now' (seesV now [] H) H = seesV now [] H := by
  unfold seesV
  apply List.map_congr_left
  intro h hh
  have hm : (⟨h, sinceOf [] (keyR h) (timeV now)⟩ : Row) ∈ H.map fun h => (⟨h, sinceOf [] (keyR h) (timeV now)⟩ : Row) := List.mem_map_of_mem hh
  have hnd : ((H.map fun h => (⟨h, sinceOf [] (keyR h) (timeV now)⟩ : Row)).map keyX).Nodup := by rw [List.map_map]; exact hn
  have hf := find_at hnd hm
  rw [show keyX (⟨h, sinceOf [] (keyR h) (timeV now)⟩ : Row) = keyR h from rfl] at hf
  congr 1
  unfold sinceOf at hf ⊢
  rw [hf]
  rfl
theorem time_id {t : Int} (h0 : 0 ≤ t) (h1 : t ≤ 4611686018427387904) : timeV t = t := by unfold timeV top; omega
theorem due_all {n now more : Int} {H : List Held} (h0 : 0 ≤ now) (h1 : now ≤ 1125899906842624) (h2 : 0 ≤ more) (h3 : more ≤ 1125899906842624) : dueK n (now + more) (seesV now [] H) = if more < n then [] else H.map keyR := by
  unfold dueK seesV
  by_cases h : more < n
  · rw [if_pos h, List.map_eq_nil_iff, List.filter_eq_nil_iff]
    intro x hx
    obtain ⟨y, -, rfl⟩ := List.mem_map.1 hx
    unfold isDue
    show ¬ decide (n ≤ timeV (now + more) - timeV now) = true
    rw [time_id h0 (by omega), time_id (by omega) (by omega)]
    simp; omega
  · rw [if_neg h, List.filter_eq_self.2, List.map_map]
    · rfl
    · intro x hx
      obtain ⟨y, -, rfl⟩ := List.mem_map.1 hx
      unfold isDue
      show decide (n ≤ timeV (now + more) - timeV now) = true
      rw [time_id h0 (by omega), time_id (by omega) (by omega)]
      simp; omega
theorem rec_chk {l : Led} {x : Held} (h : LedP l) (hw : x.wf) (hx : x ∈ l.held) : chkC (recK (keyR x)) = true := by
  obtain ⟨h1, h2, h3, h4, h5, h6, h7, h8⟩ := h.2.2.2.2.1.2 x hx
  have hl := h.2.1
  have b3 := bounds_u64 hw.2.2.2.1
  have b4 := bounds_u64 hw.2.2.2.2
  refine chk_all rfl (fun g hg => ?_)
  unfold okF
  match g, hg with
  | 0, _ => rfl
  | 1, _ => rfl
  | 2, _ => rfl
  | 3, _ =>
    rw [if_pos (by show _ ∈ fieldsL 6; decide)]
    show decide (1 ≤ u64 x.token ∧ u64 x.token ≤ 65535) = true
    unfold u64
    rw [if_pos (by omega)]
    simp; omega
  | 4, _ =>
    rw [if_pos (by show _ ∈ fieldsL 6; decide)]
    show decide (1 ≤ x.serial) = true
    simp; omega
  | 5, _ =>
    rw [if_pos (by show _ ∈ fieldsL 6; decide)]
    show decide (1 ≤ x.stamp) = true
    simp; omega
  | 6, _ => rfl
theorem rec_does {l : Led} {x : Held} {xs : List Held} (hl : l.held = x :: xs) (i : Int) : doL l i (recK (keyR x)) = ({ l with held := xs }, ⟨5, 0, 0⟩) := by
  have hn : named (recK (keyR x)) x = true := by unfold named; simp [recK, keyR]
  have hf : fitAt (recK (keyR x)) l.held = 0 := by unfold fitAt; rw [hl, List.findIdx_cons, hn]; rfl
  unfold doL
  rw [if_neg (by simp [recK]), if_pos (show (recK (keyR x)).kind = 6 from rfl)]
  unfold execL
  rw [if_neg (by simp [recK]), hf, hl]
  simp [recK, cutAt]
/-- the ledger with some rows left -/
def leftL (l : Led) (j : Nat) : Led := { l with held := l.held.drop j }
theorem left_ok {l : Led} (h : LedP l) (hw : l.wf) (j : Nat) : LedP (leftL l j) ∧ (leftL l j).wf := by
  obtain ⟨h1, h2, h3, h4, h5, h6⟩ := h
  refine ⟨⟨h1, h2, h3, ?_, ⟨h5.1.sublist (List.drop_sublist _ _), fun x hx => h5.2 x (List.mem_of_mem_drop hx)⟩, h6⟩, hw.1, hw.2.1, fun x hx => hw.2.2.1 x (List.mem_of_mem_drop hx), hw.2.2.2⟩
  show (l.held.drop j).length ≤ 64
  rw [List.length_drop]; omega
theorem left_step {l : Led} (h : LedP l) (hw : l.wf) {j : Nat} {x : Held} (hx : l.held[j]? = some x) (i : Int) (hi : i ≠ 0) : applyL (leftL l j) i (recK (keyR x)) = leftL l (j + 1) ∧ answerL (leftL l j) i (recK (keyR x)) = ⟨5, 0, 0⟩ ∧ errL (leftL l j) i (recK (keyR x)) = 0 := by
  have hj := (List.getElem?_eq_some_iff.1 hx).1
  have e : l.held.drop j = x :: l.held.drop (j + 1) := by rw [List.drop_eq_getElem_cons hj]; congr 1; exact (List.getElem?_eq_some_iff.1 hx).2
  obtain ⟨g1, g2⟩ := left_ok h hw j
  have hm : x ∈ (leftL l j).held := by show x ∈ l.held.drop j; rw [e]; exact List.mem_cons_self
  have h0 : errL (leftL l j) i (recK (keyR x)) = 0 := err_zero.2 ⟨led_iff.2 g1, rec_chk g1 (g2.2.2.1 x hm) hm, hi⟩
  have hd := rec_does (l := leftL l j) (x := x) (xs := l.held.drop (j + 1)) e i
  unfold applyL answerL
  rw [if_pos h0, if_pos h0, hd]
  exact ⟨rfl, rfl, h0⟩
structure LedA (l : Led) : Prop where
  len : l.held.length ≤ 1000
  wf : ∀ x ∈ l.held, x.wf
  nd : (l.held.map keyR).Nodup
theorem leda_of {l : Led} (h : La.LedP l) (hw : l.wf) : LedA l := ⟨by have := h.2.2.2.1; omega, hw.2.2.1, held_nd h⟩
end Ls
end Go.Proofs.Ytgbblegcjladaaa
