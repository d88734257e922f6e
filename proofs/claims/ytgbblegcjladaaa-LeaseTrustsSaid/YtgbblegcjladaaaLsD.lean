/- The document's keeper of leases. No condition. -/
import Derived.Test.YtgbblegcjladaaaLsB
namespace Go.Proofs.Ytgbblegcjladaaa
open Go.ChangeShapes Go.WideShapes Go.ChangeAt Go.RowKit Go.Deep Go.Maps Go.ChangeMaps Go.MapKept
set_option linter.unusedVariables false
set_option maxRecDepth 100000
set_option linter.unusedSimpArgs false
namespace Ls
open Mc
/-! ### one cell of a row of one's own is written -/
theorem flat_set {α : Type} {sz : Nat} {C : α → List Value} (hC : ∀ x, (C x).length = sz) {u : Value} {i : Nat} (hi : i < sz) : ∀ (xs : List α) (j : Nat) (x x' : α), xs[j]? = some x → C x' = (C x).set i u → (xs.flatMap C).set (j * sz + i) u = (xs.set j x').flatMap C
  | [], j, x, x', h, _ => by simp at h
  | y :: xs, 0, x, x', h, he => by
    simp only [List.getElem?_cons_zero, Option.some.injEq] at h
    subst h
    rw [List.flatMap_cons, Nat.zero_mul, Nat.zero_add, List.set_append, if_pos (by rw [hC]; exact hi), List.set_cons_zero, List.flatMap_cons, he]
  | y :: xs, j + 1, x, x', h, he => by
    simp only [List.getElem?_cons_succ] at h
    rw [List.flatMap_cons, List.set_append, if_neg (by rw [hC, Nat.add_mul, Nat.one_mul]; omega), List.set_cons_succ, List.flatMap_cons, hC, show (j + 1) * sz + i - sz = j * sz + i by rw [Nat.add_mul, Nat.one_mul]; omega, flat_set hC hi xs j x x' h he]
theorem own_set {α : Type} {sz : Nat} {C : α → List Value} (hC : ∀ x, (C x).length = sz) {e : TypeId} {w : World} {B g n c : Nat} {xs : List α} (h : OwnR sz C e w B (.slice (some ⟨g, 0, none⟩) n c) xs) {j i : Nat} {x x' : α} (hj : xs[j]? = some x) (hi : i < sz) {u : Value} (hu : C x' = (C x).set i u) :
    OwnR sz C e (w.setCell ⟨g, j * sz + i, none⟩ u) B (.slice (some ⟨g, 0, none⟩) n c) (xs.set j x') := by
  rcases h.2 with ⟨h1, -⟩ | ⟨g2, cap, cur, h1, hg, hh, hle, hcm, hsz, htk⟩
  · cases h1
  · simp only [Value.slice.injEq, Option.some.injEq, Addr.mk.injEq, and_true] at h1
    obtain ⟨rfl, rfl, rfl⟩ := h1
    have hl : ((xs.set j x').flatMap C).length = xs.length * sz := by rw [flat_len hC, List.length_set]
    refine ⟨?_, .inr ⟨g, c, cur.setIfInBounds (j * sz + i) u, by rw [List.length_set], hg, heap_setCell_same w g _ _ _ u hh, by rw [List.length_set]; exact hle, hcm, by simpa using hsz, ?_⟩⟩
    · rw [hl, List.length_set]
    · rw [List.length_set, Array.toList_setIfInBounds, List.take_set, htk]
      exact flat_set hC hi xs j x x' hj hu
/-! ### its rows -/
abbrev TX : TypeId := 110
abbrev TQ : TypeId := 101
abbrev rxA (x : Row) : Array Value := #[.int .i64 x.h.token, .int .i64 x.h.node, .int .u64 x.h.boot, .int .u64 x.h.serial, .int .u64 x.h.stamp, .int .i64 x.since]
abbrev rxC (x : Row) : List Value := [.int .i64 x.h.token, .int .i64 x.h.node, .int .u64 x.h.boot, .int .u64 x.h.serial, .int .u64 x.h.stamp, .int .i64 x.since]
theorem rxC_len (x : Row) : (rxC x).length = 6 := rfl
theorem rxC_one (x : Row) : ∀ u ∈ rxC x, u.oneCell' = true := by intro u hu; simp at hu; rcases hu with rfl | rfl | rfl | rfl | rfl | rfl <;> rfl
theorem info_rx : (Try.prog.info? TX).map (fun i => (i.zero, i.size, i.bytes)) = some (some (.agg #[.int .i64 0, .int .i64 0, .int .u64 0, .int .u64 0, .int .u64 0, .int .i64 0]), 6, 48) := by kernel_rfl
structure KxV (w : World) (S : Nat → Prop) (q : Nat) (n : Int) (vl : Value) (L : List Row) : Prop where
  row : w.heap[q]? = some (.cells #[.int .i64 n, vl] TQ (0, 0))
  sp : S q
  l : OwnR 6 rxC TX w 0 vl L
  ls : ∀ k, vl.ownBlock = some k → S k
  low : ∀ k, S k → k < w.heap.size
def KxX (q : Nat) (n : Int) (L : List Row) (w : World) (S : Nat → Prop) : Prop := ∃ vl, KxV w S q n vl L
variable {w w' w1 w0 : World} {S : Nat → Prop} {q : Nat} {n : Int} {vh vl vx : Value} {L T : List Row}
theorem KxV.keep (h : KxV w S q n vl L) (hb : ∀ k, S k → w'.heap[k]? = w.heap[k]?) (hz : w.heap.size ≤ w'.heap.size) : KxV w' S q n vl L :=
  ⟨(hb q h.sp).trans h.row, h.sp, own_keep h.l (fun k hk _ => hb k (h.ls k hk)), h.ls, fun k hk => Nat.lt_of_lt_of_le (h.low k hk) hz⟩
theorem goodQ (q : Nat) (n : Int) (L : List Row) : Mc.Good (KxX q n L) := ⟨fun ⟨_, h⟩ => h.low, fun ⟨_, h⟩ hb hz => ⟨_, h.keep hb hz⟩⟩
theorem xrow {x y : Value} (h : w.heap[q]? = some (.cells #[x, y] TQ (0, 0))) : w.cell? ⟨q, 0, none⟩ = some x ∧ w.cell? ⟨q, 1, none⟩ = some y ∧ ∀ i, w.frozen? ⟨q, i, none⟩ = false :=
  ⟨(cell_of_row _ _ _ _ _ _ h).trans rfl, (cell_of_row _ _ _ _ _ _ h).trans rfl, fun i => frozen_of_row _ _ _ _ _ h⟩
theorem xset1 {x y v : Value} (h : w.heap[q]? = some (.cells #[x, y] TQ (0, 0))) : (w.setCell ⟨q, 1, none⟩ v).heap[q]? = some (.cells #[x, v] TQ (0, 0)) := (heap_setCell_same w q 1 _ TQ v h).trans rfl
def KxR (r : Value) (q : Nat) (n : Int) (L : List Row) (S : Nat → Prop) (w : World) (e : Ending) (w' : World) : Prop := e = .returned r ∧ Mc.Left (KxX q n L) S w w'
theorem time_any (t : Int) (w : World) : Calls Try.prog 46 #[.int .i64 t] w fun e w' => e = .returned (.int .i64 (timeV t)) ∧ w = w' := by
  rcases Int.lt_or_le 0 t with h | h
  · rcases Int.lt_or_le top t with h2 | h2
    · have HE : Hid (timeV t = 4611686018427387904) := Lib.hid (by unfold timeV; unfold top at *; omega)
      unfold top at h2
      go_enter Try.func46, Try.ntmps46
      go_wp2
      go_ret
      exact ⟨by rw [HE.out]; rfl, rfl⟩
    · have HE : Hid (timeV t = t) := Lib.hid (by unfold timeV; unfold top at *; omega)
      unfold top at h2
      have h3 : ¬ 4611686018427387904 < t := by omega
      go_enter Try.func46, Try.ntmps46
      go_wp2
      go_ret
      exact ⟨by rw [HE.out]; rfl, rfl⟩
  · have HE : Hid (timeV t = 0) := Lib.hid (by unfold timeV top; omega)
    rcases Int.lt_or_eq_of_le h with h3 | rfl
    · clear h
      go_enter Try.func46, Try.ntmps46
      go_wp2
      go_ret
      exact ⟨by rw [HE.out]; rfl, rfl⟩
    · clear h
      go_enter Try.func46, Try.ntmps46
      go_wp2
      go_ret
      exact ⟨by rw [HE.out]; rfl, rfl⟩
def NewX (n : Int) (w : World) (e : Ending) (w' : World) : Prop :=
  (1 ≤ n ∧ n ≤ 1073741824 ∧ (∃ p, e = .returned (.tuple #[.pointer (some ⟨p, 0, none⟩), .int .i64 0]) ∧ KxV w' (fun k => k = p) p n (.slice none 0 0) [] ∧ w.heap.size ≤ p) ∧ Below w.heap.size w w') ∨ (¬ (1 ≤ n ∧ n ≤ 1073741824) ∧ e = .returned (.tuple #[.pointer none, .int .i64 1]) ∧ w = w')
theorem rnew_any (n : Int) (w : World) : Calls Try.prog 9 #[.int .i64 n] w (NewX n w) := by
  by_cases h1 : n < 1
  · have HF : Hid (¬ (1 ≤ n ∧ n ≤ 1073741824)) := Lib.hid (by omega)
    go_enter Try.func9, Try.ntmps9
    go_wp2
    go_ret2
    exact .inr ⟨HF.out, rfl, rfl⟩
  by_cases h2 : 1073741824 < n
  · have HF : Hid (¬ (1 ≤ n ∧ n ≤ 1073741824)) := Lib.hid (by omega)
    go_enter Try.func9, Try.ntmps9
    go_wp2
    go_ret2
    exact .inr ⟨HF.out, rfl, rfl⟩
  obtain ⟨p, hp⟩ : ∃ q, w.heap.size = q := ⟨_, rfl⟩
  obtain ⟨W1, hW1⟩ : ∃ q, w.alloc (.cells #[.int .i64 n, .slice none 0 0] TQ) = q := ⟨_, rfl⟩
  have hr : W1.heap[p]? = some (.cells #[.int .i64 n, .slice none 0 0] TQ (0, 0)) := by rw [← hW1, ← hp]; exact heap_alloc_new _ _
  have HF : Hid (KxV W1 (fun k => k = p) p n (.slice none 0 0) [] ∧ w.heap.size ≤ p ∧ Below w.heap.size w W1) := Lib.hid ⟨⟨hr, rfl, OwnR.nil _ _ _, (fun q hq => by cases hq), fun k hk => hk ▸ row_lt hr⟩, Nat.le_of_eq hp, by rw [← hW1]; exact (Below.refl _ _).alloc (Nat.le_refl _) _⟩
  have HN : Hid (1 ≤ n ∧ n ≤ 1073741824) := Lib.hid (by omega)
  clear hr
  go_enter Try.func9, Try.ntmps9
  go_wp2
  go_ret2
  exact .inl ⟨HN.out.1, HN.out.2, ⟨p, rfl, HF.out.1, HF.out.2.1⟩, HF.out.2.2⟩
/-! ### Sees -/
theorem since_snoc {T : List Row} {x : Row} {z : KR} {d : Int} (hn : keyX x ∉ T.map keyX) : sinceOf (T ++ [x]) z d = if keyX x = z then x.since else sinceOf T z d := by
  unfold sinceOf
  rw [find_snoc]
  by_cases h : keyX x = z
  · subst h
    rw [if_pos rfl, find_none hn, if_pos rfl]; rfl
  · rw [if_neg h, if_neg h, Option.or_none]
theorem take_fresh {T : List Row} (hn : (T.map keyX).Nodup) {j : Nat} {x : Row} (hx : T[j]? = some x) : T.take (j + 1) = T.take j ++ [x] ∧ keyX x ∉ (T.take j).map keyX := by
  have h1 : T.take (j + 1) = T.take j ++ [x] := by rw [List.take_add_one, hx]; rfl
  refine ⟨h1, fun hm => ?_⟩
  rw [← List.take_append_drop (j + 1) T, h1, List.map_append, List.map_append] at hn
  exact (List.nodup_append.1 (List.nodup_append.1 hn).1).2.2 _ hm _ (by simp) rfl
theorem rx_cells {b off k : Nat} {x : Row} (h : ∀ j u, (rxC x)[j]? = some u → w.cell? ⟨b, off + (k * 6 + j), none⟩ = some u) :
    w.cell? ⟨b, off + k * 6, none⟩ = some (.int .i64 x.h.token) ∧ w.cell? ⟨b, off + k * 6 + 1, none⟩ = some (.int .i64 x.h.node) ∧ w.cell? ⟨b, off + k * 6 + 2, none⟩ = some (.int .u64 x.h.boot) ∧ w.cell? ⟨b, off + k * 6 + 3, none⟩ = some (.int .u64 x.h.serial) ∧ w.cell? ⟨b, off + k * 6 + 4, none⟩ = some (.int .u64 x.h.stamp) ∧ w.cell? ⟨b, off + k * 6 + 5, none⟩ = some (.int .i64 x.since) := by
  have h0 := h 0 _ rfl; have h1 := h 1 _ rfl; have h2 := h 2 _ rfl; have h3 := h 3 _ rfl; have h4 := h 4 _ rfl; have h5 := h 5 _ rfl
  simp only [← Nat.add_assoc, Nat.add_zero] at h0 h1 h2 h3 h4 h5
  exact ⟨h0, h1, h2, h3, h4, h5⟩
set_option maxHeartbeats 8000000 in
theorem rsees_any (now : Int) (l : Led) (w : World) (h : KxV w S q n vx L) (hok : OkL L) (hL : SlR 5 heldC w vh l.held) (hlen : l.held.length ≤ 1000) (hll : L.length ≤ 1000) (hw : ∀ x ∈ l.held, x.wf) (hn : (l.held.map keyR).Nodup) :
    Calls Try.prog 15 #[.pointer (some ⟨q, 0, none⟩), .int .i64 now, .agg (lArr l vh vl)] w (KxR (.tuple #[]) q n (seesV now L l.held) S w) := by
  obtain ⟨ah, ch, rfl, hlc, hcm, -⟩ := id hL
  unfold maxLen at hcm
  obtain ⟨ax, cx, hvx⟩ := own_slice h.l
  subst hvx
  obtain ⟨gl, hgl⟩ : ∃ q, w.heap.size = q := ⟨_, rfl⟩
  obtain ⟨W1, hW1⟩ : ∃ q, w.alloc (.cells (lArr l (.slice ah l.held.length ch) vl) 35) = q := ⟨_, rfl⟩
  have hb1 : Below w.heap.size w W1 := by rw [← hW1]; exact (Below.refl _ _).alloc (Nat.le_refl _) _
  have hr1 : W1.heap[gl]? = some (.cells (lArr l (.slice ah l.held.length ch) vl) 35 (0, 0)) := by rw [← hW1, ← hgl]; exact heap_alloc_new _ _
  have c12 : W1.cell? ⟨gl, 2, none⟩ = some (.slice ah l.held.length ch) := (cell_of_row _ _ 2 _ _ _ hr1).trans rfl
  have H := Lib.hid h
  have HL := Lib.hid hL
  have HW := Lib.hid hw
  have HOK := Lib.hid hok
  have HB1 := Lib.hid hb1
  obtain ⟨T, hT⟩ : ∃ q, seesV now L l.held = q := ⟨_, rfl⟩
  have HT := Lib.hid hT
  have HTL : Hid (T.length = l.held.length) := Lib.hid (by rw [← hT]; unfold seesV; simp)
  have HTO : Hid (OkL T) := Lib.hid (hT ▸ hok.sees now hw hn)
  clear hL hw hn hok hb1 hr1 h hT
  go_enter Try.func15, Try.ntmps15
  go_wp2_with (first | rw [hW1])
  clear c12 hW1 hgl
  go_loopw [6, 15] (fun vo i wr => ∃ (j : Nat) (v : Value), v = vo ∧ j ≤ l.held.length ∧ i = .int .i64 (j : Int) ∧ Hid (OwnR 6 rxC TX wr w.heap.size v (T.take j)) ∧ Hid (Below w.heap.size w wr)) (fun _ i _ => l.held.length - (intOf i).toNat)
  case atStart => exact ⟨0, _, rfl, Nat.zero_le _, rfl, Lib.hid (OwnR.nil _ _ _), HB1⟩
  case round =>
    obtain ⟨j, v, rfl, hj, rfl, HRO, HRJ⟩ := hrel
    by_cases hlt : j < l.held.length
    · have hlti : (j : Int) < (l.held.length : Int) := by omega
      obtain ⟨y, hy⟩ : ∃ y, l.held[j]? = some y := ⟨_, List.getElem?_eq_getElem hlt⟩
      have hyw := HW.out y (List.mem_of_getElem? hy)
      obtain ⟨z, hz⟩ : ∃ q, keyR y = q := ⟨_, rfl⟩
      have HZ := Lib.hid hz
      have HTX : Hid (T[j]? = some ⟨y, sinceOf L z (timeV now)⟩) := Lib.hid (by rw [← HT.out]; unfold seesV; rw [List.getElem?_map, hy, ← hz]; rfl)
      have HJL : Hid ((T.take j).length ≤ 1000) := Lib.hid (by have := HTL.out; rw [List.length_take]; omega)
      obtain ⟨b0, off, rfl, y0, y1, y2, y3, y4⟩ : ∃ b off, ah = some ⟨b, off, none⟩ ∧ wr.cell? ⟨b, off + j * 5, none⟩ = some (.int .i64 y.token) ∧ wr.cell? ⟨b, off + j * 5 + 1, none⟩ = some (.int .i64 y.node) ∧ wr.cell? ⟨b, off + j * 5 + 2, none⟩ = some (.int .u64 y.boot) ∧ wr.cell? ⟨b, off + j * 5 + 3, none⟩ = some (.int .u64 y.serial) ∧ wr.cell? ⟨b, off + j * 5 + 4, none⟩ = some (.int .u64 y.stamp) := by
        rcases SlR.cases (HL.out.below HRJ.out (Nat.le_refl _)) with ⟨a2, c2, e, hnil⟩ | ⟨b, off, c2, e, -, -, -, -, hc⟩
        · rw [hnil] at hlt; simp at hlt
        · simp only [Value.slice.injEq] at e
          exact ⟨b, off, e.1, Ld.held_cells (hc j y hy)⟩
      obtain ⟨g2, hg2⟩ : ∃ q, wr.heap.size = q := ⟨_, rfl⟩
      obtain ⟨W5, hW5⟩ : ∃ q, wr.alloc (.cells (La.hA y) 47) = q := ⟨_, rfl⟩
      have hb5 : Below wr.heap.size wr W5.drew := by rw [← hW5]; exact ((Below.refl _ _).alloc (Nat.le_refl _) _).drew
      have hr5 : W5.drew.heap[g2]? = some (.cells (La.hA y) 47 (0, 0)) := by rw [← hW5, ← hg2]; exact heap_alloc_new _ _
      have HG5 := Lib.hid hr5
      obtain ⟨g3, hg3⟩ : ∃ q, W5.heap.size = q := ⟨_, rfl⟩
      obtain ⟨W6, hW6⟩ : ∃ q, W5.drew.alloc (.cells #[.int .i64 0, .int .i64 0, .int .u64 0, .int .u64 0, .int .u64 0, .int .i64 0] TX) = q := ⟨_, rfl⟩
      have hb6 : Below W5.drew.heap.size W5.drew W6 := by rw [← hW6]; exact (Below.refl _ _).alloc (Nat.le_refl _) _
      have hr6 : W6.heap[g3]? = some (.cells #[.int .i64 0, .int .i64 0, .int .u64 0, .int .u64 0, .int .u64 0, .int .i64 0] TX (0, 0)) := by rw [← hW6, ← hg3]; exact heap_alloc_new _ _
      have HZ6 := Lib.hid hr6
      obtain ⟨W7, hW7⟩ : ∃ q, W6.setRow g3 #[.int .i64 y.token, .int .i64 y.node, .int .u64 y.boot, .int .u64 y.serial, .int .u64 y.stamp, .int .i64 (timeV now)] = q := ⟨_, rfl⟩
      have hr7 : W7.heap[g3]? = some (.cells #[.int .i64 y.token, .int .i64 y.node, .int .u64 y.boot, .int .u64 y.serial, .int .u64 y.stamp, .int .i64 (timeV now)] TX (0, 0)) := by rw [← hW7]; exact setRow_heap _ _ _ _ _ _ hr6
      have ho7 : ∀ k, k ≠ g3 → W7.heap[k]? = W6.heap[k]? := fun k hk => by rw [← hW7]; exact setRow_other _ _ _ _ hk
      have hz7 : W7.heap.size = W6.heap.size := by rw [← hW7]; simp
      have h32 : g2 ≠ g3 := by have := row_lt hr5; have e : W5.drew.heap.size = W5.heap.size := rfl; omega
      have HG7 : Hid (W7.heap[g2]? = some (.cells (La.hA y) 47 (0, 0))) := Lib.hid ((ho7 g2 h32).trans ((hb6.block _ (row_lt hr5)).trans hr5))
      have HG6 : Hid (W6.heap[g2]? = some (.cells (La.hA y) 47 (0, 0))) := Lib.hid ((hb6.block _ (row_lt hr5)).trans hr5)
      have HR7 := Lib.hid hr7
      have HB7 : Hid (Below w.heap.size w W7) := Lib.hid (by
        have z0 := HRJ.out.size
        have z5 := hb5.size
        have e := (HRJ.out.trans (hb5.mono z0)).trans (hb6.mono (by omega))
        exact ⟨by rw [← hW7]; exact e.os, by rw [← hW7]; exact e.tape, by rw [← hW7]; exact e.output, by rw [hz7]; exact e.size, fun k hk => (ho7 k (by have e2 : W5.drew.heap.size = W5.heap.size := rfl; omega)).trans (e.block k hk)⟩)
      have HO7 : Hid (OwnR 6 rxC TX W7 w.heap.size v (T.take j)) := Lib.hid (own_keep HRO.out (fun k hk hl => by
        have z5 := hb5.size
        have e2 : W5.drew.heap.size = W5.heap.size := rfl
        exact (ho7 k (by omega)).trans ((hb6.block k (by omega)).trans (hb5.block k hl))))
      have HG3 : Hid (w.heap.size ≤ g3) := Lib.hid (by have z0 := HRJ.out.size; have z5 := hb5.size; have e2 : W5.drew.heap.size = W5.heap.size := rfl; omega)
      have c7 : W7.cell? ⟨q, 1, none⟩ = some (.slice ax L.length cx) := (xrow ((HB7.out.block q (row_lt H.out.row)).trans H.out.row)).2.1
      have H32 : Hid (g2 ≠ g3) := Lib.hid h32
      have HV3 : Hid (∀ k, v.ownBlock = some k → k ≠ g3) := Lib.hid (fun k hk e => by have := (World.ownsRow.lt HRO.out k hk).2; have z5 := hb5.size; have e2 : W5.drew.heap.size = W5.heap.size := rfl; omega)
      clear hr7 ho7 hz7 h32 hr5 hr6 hb5 hb6 hy hyw hz
      go_upto_region 5 with (first | rw [hW5])
      clear y0 y1 y2 y3 y4 hW5
      refine Wl.start 999 (fun _ => True) (fun u => u.heap[g2]? = some (.cells (La.hA y) 47 (0, 0))) (by kernel_rfl) trivial HG5.out (fun hk => ?_)
      refine Wl.take0 (i := 0) (v := .agg (La.hA y)) rfl (by kernel_rfl) (by kernel_rfl) (by kernel_rfl) (by kernel_rfl) (fun _ _ _ h => h) (yieldsIf_load_mid (by rfl) _ _ rfl _ _ rfl (heldC y) _ (fun w h => (fun j v hv => Wl.rng_of_row h j v hv)) Try.underlying47 rfl (by kernel_rfl)) hk ?_
      simp only [Act.put, List.getElem_toArray, List.getElem_cons_succ, List.getElem_cons_zero, List.setIfInBounds_toArray, List.set_cons_succ, List.set_cons_zero]
      refine Wl.take0 (i := 1) (v := .int .i64 now) rfl (by kernel_rfl) (by kernel_rfl) (by kernel_rfl) (by kernel_rfl) (fun _ _ _ h => h) (.inl ⟨by kernel_rfl, ?_⟩) hk ?_
      · intro wx hSw
        clear hSw hk
        go_simp
        try first | with_reducible rfl | kernel_rfl
      simp only [Act.put, List.getElem_toArray, List.getElem_cons_succ, List.getElem_cons_zero, List.setIfInBounds_toArray, List.set_cons_succ, List.set_cons_zero]
      refine Wl.two (i := 2) (j := 4) (by kernel_rfl) rfl rfl (fun K hK => ?_) (fun K hK => ?_)
      · go_simp
        refine (time_any now _).mono ?_
        rintro e w' ⟨rfl, rfl⟩
        refine hK.out _ _ (Wl.Kn.on trivial HG5.out) (fun hk => ?_)
        clear hK K
        refine Wl.take0 (i := 3) (v := .agg #[.int .i64 y.token, .int .i64 y.node, .int .u64 y.boot, .int .u64 y.serial, .int .u64 y.stamp, .int .i64 (timeV now)]) rfl (by kernel_rfl) (by kernel_rfl) (by kernel_rfl) (by kernel_rfl) (fun _ _ _ h => h) (.inl ⟨by kernel_rfl, ?_⟩) hk ?_
        · intro wx hSw
          clear hSw hk
          go_simp
          try first | with_reducible rfl | kernel_rfl
        simp only [Act.put, List.getElem_toArray, List.getElem_cons_succ, List.getElem_cons_zero, List.setIfInBounds_toArray, List.set_cons_succ, List.set_cons_zero]
        refine Wl.one (i := 4) (by kernel_rfl) rfl (fun K hK => ?_)
        go_simp
        try rw [hW6]
        refine hK.out _ _ (Wl.Kn.on trivial HG6.out) (fun hk => ?_)
        clear hK K
        refine Wl.one (i := 5) (by kernel_rfl) rfl (fun K hK => ?_)
        rw [if_pos (by kernel_rfl)]
        refine wp_store_row TX (.tmp 9) (.tmp 22) (by kernel_rfl) g3 #[.int .i64 y.token, .int .i64 y.node, .int .u64 y.boot, .int .u64 y.serial, .int .u64 y.stamp, .int .i64 (timeV now)] (by kernel_rfl) (by kernel_rfl) TX #[.int .i64 0, .int .i64 0, .int .u64 0, .int .u64 0, .int .u64 0, .int .i64 0] HZ6.out (by kernel_rfl) (by kernel_rfl) (by first | rfl | simp [Value.oneCell']) ?_
        rw [hW7]
        refine hK.out _ _ (Wl.Kn.on trivial HG7.out) (fun hk => ?_)
        clear hK K
        refine Wl.done (by kernel_rfl) ?_ _
        clear hk
        clear hW6 hW7 hg2 hg3
        go_wp2_with fail
        clear c7
        go_loopw [28] (fun i wq => ∃ (k : Nat), k ≤ L.length ∧ i = .int .i64 (k : Int) ∧ Hid (wq.heap[g3]? = some (.cells #[.int .i64 y.token, .int .i64 y.node, .int .u64 y.boot, .int .u64 y.serial, .int .u64 y.stamp, .int .i64 (sinceOf (L.take k) z (timeV now))] TX (0, 0)) ∧ wq.heap[g2]? = some (.cells (La.hA y) 47 (0, 0)) ∧ Below w.heap.size w wq ∧ OwnR 6 rxC TX wq w.heap.size v (T.take j))) (fun i _ => L.length - (intOf i).toNat)
        case atStart => exact ⟨0, Nat.zero_le _, rfl, Lib.hid ⟨HR7.out, HG7.out, HB7.out, HO7.out⟩⟩
        case round =>
          obtain ⟨k, hk, rfl, HIN⟩ := hrel
          clear HR7 HG7 HB7 HO7 HRO HRJ HG5 HG6 HZ6
          by_cases hltk : k < L.length
          · have hltki : (k : Int) < (L.length : Int) := by omega
            obtain ⟨x, hx⟩ : ∃ x, L[k]? = some x := ⟨_, List.getElem?_eq_getElem hltk⟩
            obtain ⟨e1, e2⟩ := take_fresh HOK.out.nd hx
            have HSN : Hid (sinceOf (L.take (k + 1)) z (timeV now) = if keyX x = z then x.since else sinceOf (L.take k) z (timeV now)) := Lib.hid (by rw [e1, since_snoc e2])
            have HKZ : Hid (keyX x = z ↔ x.h.token = y.token ∧ x.h.serial = y.serial ∧ x.h.stamp = y.stamp) := Lib.hid (by rw [← HZ.out]; show keyR x.h = keyR y ↔ _; unfold keyR; simp)
            obtain ⟨b1, o1, rfl, x0, x1, x2, x3, x4, x5⟩ : ∃ b off, ax = some ⟨b, off, none⟩ ∧ wr.cell? ⟨b, off + k * 6, none⟩ = some (.int .i64 x.h.token) ∧ wr.cell? ⟨b, off + k * 6 + 1, none⟩ = some (.int .i64 x.h.node) ∧ wr.cell? ⟨b, off + k * 6 + 2, none⟩ = some (.int .u64 x.h.boot) ∧ wr.cell? ⟨b, off + k * 6 + 3, none⟩ = some (.int .u64 x.h.serial) ∧ wr.cell? ⟨b, off + k * 6 + 4, none⟩ = some (.int .u64 x.h.stamp) ∧ wr.cell? ⟨b, off + k * 6 + 5, none⟩ = some (.int .i64 x.since) := by
              rcases SlR.cases ((H.out.l.sl rxC_len).below HIN.out.2.2.1 (Nat.le_refl _)) with ⟨a2, c2, e, hnil⟩ | ⟨b, off, c2, e, -, -, -, -, hc⟩
              · rw [hnil] at hltk; simp at hltk
              · simp only [Value.slice.injEq] at e
                exact ⟨b, off, e.1, rx_cells (hc k x hx)⟩
            obtain ⟨s0, hs0⟩ : ∃ q, sinceOf (L.take k) z (timeV now) = q := ⟨_, rfl⟩
            rw [hs0] at HIN HSN
            obtain ⟨g4, hg4⟩ : ∃ q, wr.heap.size = q := ⟨_, rfl⟩
            obtain ⟨W8, hW8⟩ : ∃ q, wr.alloc (.cells (rxA x) TX) = q := ⟨_, rfl⟩
            have hb8 : Below wr.heap.size wr W8 := by rw [← hW8]; exact (Below.refl _ _).alloc (Nat.le_refl _) _
            have hr8 : W8.heap[g4]? = some (.cells (rxA x) TX (0, 0)) := by rw [← hW8, ← hg4]; exact heap_alloc_new _ _
            have hr38 : W8.heap[g3]? = some (.cells #[.int .i64 y.token, .int .i64 y.node, .int .u64 y.boot, .int .u64 y.serial, .int .u64 y.stamp, .int .i64 s0] TX (0, 0)) := (hb8.block _ (row_lt HIN.out.1)).trans HIN.out.1
            have hr28 : W8.heap[g2]? = some (.cells (La.hA y) 47 (0, 0)) := (hb8.block _ (row_lt HIN.out.2.1)).trans HIN.out.2.1
            have a0 : W8.cell? ⟨g4, 0, none⟩ = some (.int .i64 x.h.token) := (cell_of_row _ _ 0 _ _ _ hr8).trans rfl
            have a3 : W8.cell? ⟨g4, 3, none⟩ = some (.int .u64 x.h.serial) := (cell_of_row _ _ 3 _ _ _ hr8).trans rfl
            have a4 : W8.cell? ⟨g4, 4, none⟩ = some (.int .u64 x.h.stamp) := (cell_of_row _ _ 4 _ _ _ hr8).trans rfl
            have a5 : W8.cell? ⟨g4, 5, none⟩ = some (.int .i64 x.since) := (cell_of_row _ _ 5 _ _ _ hr8).trans rfl
            have d0 : W8.cell? ⟨g2, 0, none⟩ = some (.int .i64 y.token) := (cell_of_row _ _ 0 _ _ _ hr28).trans rfl
            have d3 : W8.cell? ⟨g2, 3, none⟩ = some (.int .u64 y.serial) := (cell_of_row _ _ 3 _ _ _ hr28).trans rfl
            have d4 : W8.cell? ⟨g2, 4, none⟩ = some (.int .u64 y.stamp) := (cell_of_row _ _ 4 _ _ _ hr28).trans rfl
            have s5 : W8.cell? ⟨g3, 5, none⟩ = some (.int .i64 s0) := (cell_of_row _ _ 5 _ _ _ hr38).trans rfl
            have z5 : W8.frozen? ⟨g3, 5, none⟩ = false := frozen_of_row _ _ _ _ _ hr38
            have HB8 : Hid (Below w.heap.size w W8) := Lib.hid (HIN.out.2.2.1.trans (hb8.mono HIN.out.2.2.1.size))
            have HO8 : Hid (OwnR 6 rxC TX W8 w.heap.size v (T.take j) ∧ ∀ q, v.ownBlock = some q → q ≠ g3) := Lib.hid ⟨own_keep HIN.out.2.2.2 (fun q _ hq => hb8.block q hq), fun q hq e => HV3.out q hq e⟩
            have HR8 := Lib.hid (And.intro hr38 hr28)
            have HIN8 : Hid (W8.heap[g3]? = some (.cells #[.int .i64 y.token, .int .i64 y.node, .int .u64 y.boot, .int .u64 y.serial, .int .u64 y.stamp, .int .i64 s0] TX (0, 0)) ∧ W8.heap[g2]? = some (.cells (La.hA y) 47 (0, 0)) ∧ Below w.heap.size w W8 ∧ OwnR 6 rxC TX W8 w.heap.size v (T.take j)) := Lib.hid ⟨hr38, hr28, HB8.out, HO8.out.1⟩
            clear hx e1 e2 hs0 hb8 hr8 hr38 hr28
            by_cases ht : x.h.token = y.token
            · have hbt : (x.h.token == y.token) = true := beq_iff_eq.2 ht
              by_cases hs : x.h.serial = y.serial
              · have hbs : (x.h.serial == y.serial) = true := beq_iff_eq.2 hs
                by_cases hm : x.h.stamp = y.stamp
                · have hbm : (x.h.stamp == y.stamp) = true := beq_iff_eq.2 hm
                  rw [if_pos (HKZ.out.2 ⟨ht, hs, hm⟩)] at HSN
                  obtain ⟨W9, hW9⟩ : ∃ q, W8.setCell ⟨g3, 5, none⟩ (.int .i64 x.since) = q := ⟨_, rfl⟩
                  have HIN9 : Hid (W9.heap[g3]? = some (.cells #[.int .i64 y.token, .int .i64 y.node, .int .u64 y.boot, .int .u64 y.serial, .int .u64 y.stamp, .int .i64 x.since] TX (0, 0)) ∧ W9.heap[g2]? = some (.cells (La.hA y) 47 (0, 0)) ∧ Below w.heap.size w W9 ∧ OwnR 6 rxC TX W9 w.heap.size v (T.take j)) := Lib.hid (by
                    rw [← hW9]
                    exact ⟨(heap_setCell_same _ g3 5 _ _ _ HR8.out.1).trans rfl, (heap_setCell_other W8 ⟨g3, 5, none⟩ g2 _ H32.out).trans HR8.out.2, below_cell HB8.out HG3.out _, own_keep HO8.out.1 (fun q hq _ => heap_setCell_other W8 ⟨g3, 5, none⟩ q _ (HO8.out.2 q hq))⟩)
                  clear ht hs hm HIN HIN8
                  go_wp2_with (first | rw [hW8] | rw [hW9])
                  go_roundw
                  case rel => exact ⟨k + 1, by omega, by go_num, Lib.hid (by rw [HSN.out]; exact HIN9.out)⟩
                  case measure => simp [intOf]; omega
                · have hbm : (x.h.stamp == y.stamp) = false := beq_eq_false_iff_ne.2 hm
                  rw [if_neg (fun q => hm (HKZ.out.1 q).2.2)] at HSN
                  clear ht hs hm HIN
                  go_wp2_with (first | rw [hW8])
                  go_roundw
                  case rel => exact ⟨k + 1, by omega, by go_num, Lib.hid (by rw [HSN.out]; exact HIN8.out)⟩
                  case measure => simp [intOf]; omega
              · have hbs : (x.h.serial == y.serial) = false := beq_eq_false_iff_ne.2 hs
                rw [if_neg (fun q => hs (HKZ.out.1 q).2.1)] at HSN
                clear ht hs HIN
                go_wp2_with (first | rw [hW8])
                go_roundw
                case rel => exact ⟨k + 1, by omega, by go_num, Lib.hid (by rw [HSN.out]; exact HIN8.out)⟩
                case measure => simp [intOf]; omega
            · have hbt : (x.h.token == y.token) = false := beq_eq_false_iff_ne.2 ht
              rw [if_neg (fun q => ht (HKZ.out.1 q).1)] at HSN
              clear ht HIN
              go_wp2_with (first | rw [hW8])
              go_roundw
              case rel => exact ⟨k + 1, by omega, by go_num, Lib.hid (by rw [HSN.out]; exact HIN8.out)⟩
              case measure => simp [intOf]; omega
          · obtain rfl : k = L.length := by omega
            rw [List.take_length] at HIN
            obtain ⟨X, hX⟩ : ∃ q, (⟨y, sinceOf L z (timeV now)⟩ : Row) = q := ⟨_, rfl⟩
            have hr3 : wr.heap[g3]? = some (.cells (rxA X) TX (0, 0)) := by rw [← hX]; exact HIN.out.1
            have a0 : wr.cell? ⟨g3, 0, none⟩ = some (.int .i64 X.h.token) := (cell_of_row _ _ 0 _ _ _ hr3).trans rfl
            have a1 : wr.cell? ⟨g3, 1, none⟩ = some (.int .i64 X.h.node) := (cell_of_row _ _ 1 _ _ _ hr3).trans rfl
            have a2 : wr.cell? ⟨g3, 2, none⟩ = some (.int .u64 X.h.boot) := (cell_of_row _ _ 2 _ _ _ hr3).trans rfl
            have a3 : wr.cell? ⟨g3, 3, none⟩ = some (.int .u64 X.h.serial) := (cell_of_row _ _ 3 _ _ _ hr3).trans rfl
            have a4 : wr.cell? ⟨g3, 4, none⟩ = some (.int .u64 X.h.stamp) := (cell_of_row _ _ 4 _ _ _ hr3).trans rfl
            have a5 : wr.cell? ⟨g3, 5, none⟩ = some (.int .i64 X.since) := (cell_of_row _ _ 5 _ _ _ hr3).trans rfl
            have HTK : Hid (T.take (j + 1) = T.take j ++ [X]) := Lib.hid (by rw [List.take_add_one, HTX.out, ← hX]; rfl)
            obtain ⟨W9, hW9⟩ : ∃ q, wr.alloc (.cells (rxA X) TX) = q := ⟨_, rfl⟩
            have HB9 : Hid (Below w.heap.size w W9) := Lib.hid (by rw [← hW9]; exact HIN.out.2.2.1.alloc HIN.out.2.2.1.size _)
            have HO9 : Hid (OwnR 6 rxC TX W9 w.heap.size v (T.take j)) := Lib.hid (by rw [← hW9]; exact HIN.out.2.2.2.alloc _)
            have HLIT : Hid (SlR 6 rxC W9 (.slice (some ⟨wr.heap.size, 0, none⟩) 1 1) [X]) := Lib.hid (by rw [← hW9]; exact SlR.one rxC_len wr _ rfl _ X rfl)
            clear HIN hX hr3
            go_wp2_with (first | rw [hW9] | (at_builtin; refine appR rxC_len rxC_one Try.underlying99 rfl (by decide) info_rx rfl (.tmp 58) (.tmp 60) rfl w.heap.size v (T.take j) rfl HO9.out (.slice (some ⟨wr.heap.size, 0, none⟩) 1 1) [X] rfl HLIT.out (by have := HJL.out; unfold maxLen; simp only [List.length_singleton]; omega) (by have := HJL.out; simp only [List.length_singleton]; omega) HB9.out.size ?_; intro v10 w10 own10 bel10; have HO10 := Lib.hid own10; have HB10 := Lib.hid (HB9.out.trans bel10); clear own10 bel10))
            go_roundw
            case rel => exact ⟨j + 1, _, rfl, by omega, by go_num, Lib.hid (by rw [HTK.out]; exact HO10.out), HB10⟩
            case measure => simp [intOf]; omega
      · go_simp
        try rw [hW6]
        refine hK.out _ _ (Wl.Kn.on trivial HG6.out) (fun hk => ?_)
        clear hK K
        refine Wl.one (i := 2) (by kernel_rfl) rfl (fun K hK => ?_)
        go_simp
        refine (time_any now _).mono ?_
        rintro e w' ⟨rfl, rfl⟩
        refine hK.out _ _ (Wl.Kn.on trivial HG6.out) (fun hk => ?_)
        clear hK K
        refine Wl.take0 (i := 3) (v := .agg #[.int .i64 y.token, .int .i64 y.node, .int .u64 y.boot, .int .u64 y.serial, .int .u64 y.stamp, .int .i64 (timeV now)]) rfl (by kernel_rfl) (by kernel_rfl) (by kernel_rfl) (by kernel_rfl) (fun _ _ _ h => h) (.inl ⟨by kernel_rfl, ?_⟩) hk ?_
        · intro wx hSw
          clear hSw hk
          go_simp
          try first | with_reducible rfl | kernel_rfl
        simp only [Act.put, List.getElem_toArray, List.getElem_cons_succ, List.getElem_cons_zero, List.setIfInBounds_toArray, List.set_cons_succ, List.set_cons_zero]
        refine Wl.one (i := 5) (by kernel_rfl) rfl (fun K hK => ?_)
        rw [if_pos (by kernel_rfl)]
        refine wp_store_row TX (.tmp 9) (.tmp 22) (by kernel_rfl) g3 #[.int .i64 y.token, .int .i64 y.node, .int .u64 y.boot, .int .u64 y.serial, .int .u64 y.stamp, .int .i64 (timeV now)] (by kernel_rfl) (by kernel_rfl) TX #[.int .i64 0, .int .i64 0, .int .u64 0, .int .u64 0, .int .u64 0, .int .i64 0] HZ6.out (by kernel_rfl) (by kernel_rfl) (by first | rfl | simp [Value.oneCell']) ?_
        rw [hW7]
        refine hK.out _ _ (Wl.Kn.on trivial HG7.out) (fun hk => ?_)
        clear hK K
        refine Wl.done (by kernel_rfl) ?_ _
        clear hk
        clear hW6 hW7 hg2 hg3
        go_wp2_with fail
        clear c7
        go_loopw [28] (fun i wq => ∃ (k : Nat), k ≤ L.length ∧ i = .int .i64 (k : Int) ∧ Hid (wq.heap[g3]? = some (.cells #[.int .i64 y.token, .int .i64 y.node, .int .u64 y.boot, .int .u64 y.serial, .int .u64 y.stamp, .int .i64 (sinceOf (L.take k) z (timeV now))] TX (0, 0)) ∧ wq.heap[g2]? = some (.cells (La.hA y) 47 (0, 0)) ∧ Below w.heap.size w wq ∧ OwnR 6 rxC TX wq w.heap.size v (T.take j))) (fun i _ => L.length - (intOf i).toNat)
        case atStart => exact ⟨0, Nat.zero_le _, rfl, Lib.hid ⟨HR7.out, HG7.out, HB7.out, HO7.out⟩⟩
        case round =>
          obtain ⟨k, hk, rfl, HIN⟩ := hrel
          clear HR7 HG7 HB7 HO7 HRO HRJ HG5 HG6 HZ6
          by_cases hltk : k < L.length
          · have hltki : (k : Int) < (L.length : Int) := by omega
            obtain ⟨x, hx⟩ : ∃ x, L[k]? = some x := ⟨_, List.getElem?_eq_getElem hltk⟩
            obtain ⟨e1, e2⟩ := take_fresh HOK.out.nd hx
            have HSN : Hid (sinceOf (L.take (k + 1)) z (timeV now) = if keyX x = z then x.since else sinceOf (L.take k) z (timeV now)) := Lib.hid (by rw [e1, since_snoc e2])
            have HKZ : Hid (keyX x = z ↔ x.h.token = y.token ∧ x.h.serial = y.serial ∧ x.h.stamp = y.stamp) := Lib.hid (by rw [← HZ.out]; show keyR x.h = keyR y ↔ _; unfold keyR; simp)
            obtain ⟨b1, o1, rfl, x0, x1, x2, x3, x4, x5⟩ : ∃ b off, ax = some ⟨b, off, none⟩ ∧ wr.cell? ⟨b, off + k * 6, none⟩ = some (.int .i64 x.h.token) ∧ wr.cell? ⟨b, off + k * 6 + 1, none⟩ = some (.int .i64 x.h.node) ∧ wr.cell? ⟨b, off + k * 6 + 2, none⟩ = some (.int .u64 x.h.boot) ∧ wr.cell? ⟨b, off + k * 6 + 3, none⟩ = some (.int .u64 x.h.serial) ∧ wr.cell? ⟨b, off + k * 6 + 4, none⟩ = some (.int .u64 x.h.stamp) ∧ wr.cell? ⟨b, off + k * 6 + 5, none⟩ = some (.int .i64 x.since) := by
              rcases SlR.cases ((H.out.l.sl rxC_len).below HIN.out.2.2.1 (Nat.le_refl _)) with ⟨a2, c2, e, hnil⟩ | ⟨b, off, c2, e, -, -, -, -, hc⟩
              · rw [hnil] at hltk; simp at hltk
              · simp only [Value.slice.injEq] at e
                exact ⟨b, off, e.1, rx_cells (hc k x hx)⟩
            obtain ⟨s0, hs0⟩ : ∃ q, sinceOf (L.take k) z (timeV now) = q := ⟨_, rfl⟩
            rw [hs0] at HIN HSN
            obtain ⟨g4, hg4⟩ : ∃ q, wr.heap.size = q := ⟨_, rfl⟩
            obtain ⟨W8, hW8⟩ : ∃ q, wr.alloc (.cells (rxA x) TX) = q := ⟨_, rfl⟩
            have hb8 : Below wr.heap.size wr W8 := by rw [← hW8]; exact (Below.refl _ _).alloc (Nat.le_refl _) _
            have hr8 : W8.heap[g4]? = some (.cells (rxA x) TX (0, 0)) := by rw [← hW8, ← hg4]; exact heap_alloc_new _ _
            have hr38 : W8.heap[g3]? = some (.cells #[.int .i64 y.token, .int .i64 y.node, .int .u64 y.boot, .int .u64 y.serial, .int .u64 y.stamp, .int .i64 s0] TX (0, 0)) := (hb8.block _ (row_lt HIN.out.1)).trans HIN.out.1
            have hr28 : W8.heap[g2]? = some (.cells (La.hA y) 47 (0, 0)) := (hb8.block _ (row_lt HIN.out.2.1)).trans HIN.out.2.1
            have a0 : W8.cell? ⟨g4, 0, none⟩ = some (.int .i64 x.h.token) := (cell_of_row _ _ 0 _ _ _ hr8).trans rfl
            have a3 : W8.cell? ⟨g4, 3, none⟩ = some (.int .u64 x.h.serial) := (cell_of_row _ _ 3 _ _ _ hr8).trans rfl
            have a4 : W8.cell? ⟨g4, 4, none⟩ = some (.int .u64 x.h.stamp) := (cell_of_row _ _ 4 _ _ _ hr8).trans rfl
            have a5 : W8.cell? ⟨g4, 5, none⟩ = some (.int .i64 x.since) := (cell_of_row _ _ 5 _ _ _ hr8).trans rfl
            have d0 : W8.cell? ⟨g2, 0, none⟩ = some (.int .i64 y.token) := (cell_of_row _ _ 0 _ _ _ hr28).trans rfl
            have d3 : W8.cell? ⟨g2, 3, none⟩ = some (.int .u64 y.serial) := (cell_of_row _ _ 3 _ _ _ hr28).trans rfl
            have d4 : W8.cell? ⟨g2, 4, none⟩ = some (.int .u64 y.stamp) := (cell_of_row _ _ 4 _ _ _ hr28).trans rfl
            have s5 : W8.cell? ⟨g3, 5, none⟩ = some (.int .i64 s0) := (cell_of_row _ _ 5 _ _ _ hr38).trans rfl
            have z5 : W8.frozen? ⟨g3, 5, none⟩ = false := frozen_of_row _ _ _ _ _ hr38
            have HB8 : Hid (Below w.heap.size w W8) := Lib.hid (HIN.out.2.2.1.trans (hb8.mono HIN.out.2.2.1.size))
            have HO8 : Hid (OwnR 6 rxC TX W8 w.heap.size v (T.take j) ∧ ∀ q, v.ownBlock = some q → q ≠ g3) := Lib.hid ⟨own_keep HIN.out.2.2.2 (fun q _ hq => hb8.block q hq), fun q hq e => HV3.out q hq e⟩
            have HR8 := Lib.hid (And.intro hr38 hr28)
            have HIN8 : Hid (W8.heap[g3]? = some (.cells #[.int .i64 y.token, .int .i64 y.node, .int .u64 y.boot, .int .u64 y.serial, .int .u64 y.stamp, .int .i64 s0] TX (0, 0)) ∧ W8.heap[g2]? = some (.cells (La.hA y) 47 (0, 0)) ∧ Below w.heap.size w W8 ∧ OwnR 6 rxC TX W8 w.heap.size v (T.take j)) := Lib.hid ⟨hr38, hr28, HB8.out, HO8.out.1⟩
            clear hx e1 e2 hs0 hb8 hr8 hr38 hr28
            by_cases ht : x.h.token = y.token
            · have hbt : (x.h.token == y.token) = true := beq_iff_eq.2 ht
              by_cases hs : x.h.serial = y.serial
              · have hbs : (x.h.serial == y.serial) = true := beq_iff_eq.2 hs
                by_cases hm : x.h.stamp = y.stamp
                · have hbm : (x.h.stamp == y.stamp) = true := beq_iff_eq.2 hm
                  rw [if_pos (HKZ.out.2 ⟨ht, hs, hm⟩)] at HSN
                  obtain ⟨W9, hW9⟩ : ∃ q, W8.setCell ⟨g3, 5, none⟩ (.int .i64 x.since) = q := ⟨_, rfl⟩
                  have HIN9 : Hid (W9.heap[g3]? = some (.cells #[.int .i64 y.token, .int .i64 y.node, .int .u64 y.boot, .int .u64 y.serial, .int .u64 y.stamp, .int .i64 x.since] TX (0, 0)) ∧ W9.heap[g2]? = some (.cells (La.hA y) 47 (0, 0)) ∧ Below w.heap.size w W9 ∧ OwnR 6 rxC TX W9 w.heap.size v (T.take j)) := Lib.hid (by
                    rw [← hW9]
                    exact ⟨(heap_setCell_same _ g3 5 _ _ _ HR8.out.1).trans rfl, (heap_setCell_other W8 ⟨g3, 5, none⟩ g2 _ H32.out).trans HR8.out.2, below_cell HB8.out HG3.out _, own_keep HO8.out.1 (fun q hq _ => heap_setCell_other W8 ⟨g3, 5, none⟩ q _ (HO8.out.2 q hq))⟩)
                  clear ht hs hm HIN HIN8
                  go_wp2_with (first | rw [hW8] | rw [hW9])
                  go_roundw
                  case rel => exact ⟨k + 1, by omega, by go_num, Lib.hid (by rw [HSN.out]; exact HIN9.out)⟩
                  case measure => simp [intOf]; omega
                · have hbm : (x.h.stamp == y.stamp) = false := beq_eq_false_iff_ne.2 hm
                  rw [if_neg (fun q => hm (HKZ.out.1 q).2.2)] at HSN
                  clear ht hs hm HIN
                  go_wp2_with (first | rw [hW8])
                  go_roundw
                  case rel => exact ⟨k + 1, by omega, by go_num, Lib.hid (by rw [HSN.out]; exact HIN8.out)⟩
                  case measure => simp [intOf]; omega
              · have hbs : (x.h.serial == y.serial) = false := beq_eq_false_iff_ne.2 hs
                rw [if_neg (fun q => hs (HKZ.out.1 q).2.1)] at HSN
                clear ht hs HIN
                go_wp2_with (first | rw [hW8])
                go_roundw
                case rel => exact ⟨k + 1, by omega, by go_num, Lib.hid (by rw [HSN.out]; exact HIN8.out)⟩
                case measure => simp [intOf]; omega
            · have hbt : (x.h.token == y.token) = false := beq_eq_false_iff_ne.2 ht
              rw [if_neg (fun q => ht (HKZ.out.1 q).1)] at HSN
              clear ht HIN
              go_wp2_with (first | rw [hW8])
              go_roundw
              case rel => exact ⟨k + 1, by omega, by go_num, Lib.hid (by rw [HSN.out]; exact HIN8.out)⟩
              case measure => simp [intOf]; omega
          · obtain rfl : k = L.length := by omega
            rw [List.take_length] at HIN
            obtain ⟨X, hX⟩ : ∃ q, (⟨y, sinceOf L z (timeV now)⟩ : Row) = q := ⟨_, rfl⟩
            have hr3 : wr.heap[g3]? = some (.cells (rxA X) TX (0, 0)) := by rw [← hX]; exact HIN.out.1
            have a0 : wr.cell? ⟨g3, 0, none⟩ = some (.int .i64 X.h.token) := (cell_of_row _ _ 0 _ _ _ hr3).trans rfl
            have a1 : wr.cell? ⟨g3, 1, none⟩ = some (.int .i64 X.h.node) := (cell_of_row _ _ 1 _ _ _ hr3).trans rfl
            have a2 : wr.cell? ⟨g3, 2, none⟩ = some (.int .u64 X.h.boot) := (cell_of_row _ _ 2 _ _ _ hr3).trans rfl
            have a3 : wr.cell? ⟨g3, 3, none⟩ = some (.int .u64 X.h.serial) := (cell_of_row _ _ 3 _ _ _ hr3).trans rfl
            have a4 : wr.cell? ⟨g3, 4, none⟩ = some (.int .u64 X.h.stamp) := (cell_of_row _ _ 4 _ _ _ hr3).trans rfl
            have a5 : wr.cell? ⟨g3, 5, none⟩ = some (.int .i64 X.since) := (cell_of_row _ _ 5 _ _ _ hr3).trans rfl
            have HTK : Hid (T.take (j + 1) = T.take j ++ [X]) := Lib.hid (by rw [List.take_add_one, HTX.out, ← hX]; rfl)
            obtain ⟨W9, hW9⟩ : ∃ q, wr.alloc (.cells (rxA X) TX) = q := ⟨_, rfl⟩
            have HB9 : Hid (Below w.heap.size w W9) := Lib.hid (by rw [← hW9]; exact HIN.out.2.2.1.alloc HIN.out.2.2.1.size _)
            have HO9 : Hid (OwnR 6 rxC TX W9 w.heap.size v (T.take j)) := Lib.hid (by rw [← hW9]; exact HIN.out.2.2.2.alloc _)
            have HLIT : Hid (SlR 6 rxC W9 (.slice (some ⟨wr.heap.size, 0, none⟩) 1 1) [X]) := Lib.hid (by rw [← hW9]; exact SlR.one rxC_len wr _ rfl _ X rfl)
            clear HIN hX hr3
            go_wp2_with (first | rw [hW9] | (at_builtin; refine appR rxC_len rxC_one Try.underlying99 rfl (by decide) info_rx rfl (.tmp 58) (.tmp 60) rfl w.heap.size v (T.take j) rfl HO9.out (.slice (some ⟨wr.heap.size, 0, none⟩) 1 1) [X] rfl HLIT.out (by have := HJL.out; unfold maxLen; simp only [List.length_singleton]; omega) (by have := HJL.out; simp only [List.length_singleton]; omega) HB9.out.size ?_; intro v10 w10 own10 bel10; have HO10 := Lib.hid own10; have HB10 := Lib.hid (HB9.out.trans bel10); clear own10 bel10))
            go_roundw
            case rel => exact ⟨j + 1, _, rfl, by omega, by go_num, Lib.hid (by rw [HTK.out]; exact HO10.out), HB10⟩
            case measure => simp [intOf]; omega
    · obtain rfl : j = l.held.length := by omega
      have HEND : Hid (OwnR 6 rxC TX wr w.heap.size v T) := Lib.hid (by
        have h1 := HRO.out
        rw [List.take_of_length_le (Nat.le_of_eq HTL.out)] at h1
        exact h1)
      obtain ⟨av, cv, hv⟩ := own_slice HEND.out
      subst hv
      have hrq := (HRJ.out.block q (row_lt H.out.row)).trans H.out.row
      have hvq := own_ty HEND.out hrq (by decide)
      have HF : Hid (Mc.Left (KxX q n T) S w (wr.setCell ⟨q, 1, none⟩ (.slice av T.length cv))) := Lib.hid (by
        refine ⟨⟨fun k => Grow S w (wr.setCell ⟨q, 1, none⟩ (.slice av T.length cv)) k, ⟨_, xset1 hrq, .inl H.out.sp, own_up (own_keep HEND.out (fun k hk _ => heap_setCell_other wr ⟨q, 1, none⟩ k _ (hvq k hk))) (fun k _ => Nat.zero_le _), fun k hk => .inr ⟨(World.ownsRow.lt HEND.out k hk).1, by have := (World.ownsRow.lt HEND.out k hk).2; simpa using this⟩, fun k hk => ?_⟩, fun k hk => hk⟩, (Below.only HRJ.out S).trans (Only.setCell wr ⟨q, 1, none⟩ _ H.out.sp)⟩
        have z0 := HRJ.out.size
        rcases hk with hk | hk
        · have := H.out.low k hk; simp; omega
        · have := hk.2; simpa using this)
      have c1 := (xrow hrq).2.1
      have z1 := (xrow hrq).2.2
      clear HRO hrq hvq HEND
      go_wp2_with fail
      go_end0
      exact ⟨rfl, HT.out ▸ HF.out⟩
end Ls
end Go.Proofs.Ytgbblegcjladaaa
