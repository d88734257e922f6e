/- Package lease's wallet, as landed: Asked, Drop. No condition. Package lease's wallet, as landed: Drop. No condition. Package lease's wallet, as landed: a copy of its map; a token put into it. No condition. -/
import Derived.Test.YtgbblegcjladaaaLtD
import Derived.Test.YtgbblegcjladaaaLedN
import Derived.Shelf.SlMaps.Clone
namespace Go.Proofs.Ytgbblegcjladaaa
open Go.ChangeShapes Go.WideShapes Go.ChangeAt Go.RowKit Go.Deep Go.Maps Go.ChangeMaps Go.MapKept
set_option linter.unusedVariables false
set_option maxRecDepth 100000
set_option linter.unusedSimpArgs false
namespace Lt
open Mp Mc
variable {w w' : World} {S : Nat → Prop} {p g : Nat} {n : Int} {s : Wa}
theorem wcells (h : w.heap[p]? = some (.cells (waA n s g) TW (0, 0))) : w.cell? ⟨p, 2, none⟩ = some (.int .i64 s.c.kind) ∧ w.cell? ⟨p, 3, none⟩ = some (.int .i64 s.c.node) ∧ w.cell? ⟨p, 4, none⟩ = some (.int .i64 s.c.token) ∧ w.cell? ⟨p, 5, none⟩ = some (.slice none 0 0) ∧ w.cell? ⟨p, 6, none⟩ = some (.int .u64 s.c.boot) ∧ w.cell? ⟨p, 7, none⟩ = some (.int .u64 s.c.seq) ∧ w.cell? ⟨p, 8, none⟩ = some (.int .u64 s.c.serial) ∧ w.cell? ⟨p, 9, none⟩ = some (.int .u64 s.c.stamp) :=
  ⟨(cell_of_row _ _ 2 _ _ _ h).trans rfl, (cell_of_row _ _ 3 _ _ _ h).trans rfl, (cell_of_row _ _ 4 _ _ _ h).trans rfl, (cell_of_row _ _ 5 _ _ _ h).trans rfl, (cell_of_row _ _ 6 _ _ _ h).trans rfl, (cell_of_row _ _ 7 _ _ _ h).trans rfl, (cell_of_row _ _ 8 _ _ _ h).trans rfl, (cell_of_row _ _ 9 _ _ _ h).trans rfl⟩
theorem chain8 {W : World} {r : Nat} {ty : TypeId} {x0 x1 x2 x3 x4 x5 x6 x7 : Value} (c : Cmd) (h : W.heap[r]? = some (.cells #[x0, x1, x2, x3, x4, x5, x6, x7] ty (0, 0))) : ((((((((W.setCell ⟨r, 0, none⟩ (.int .i64 c.kind)).setCell ⟨r, 1, none⟩ (.int .i64 c.node)).setCell ⟨r, 2, none⟩ (.int .i64 c.token)).setCell ⟨r, 3, none⟩ (.slice none 0 0)).setCell ⟨r, 4, none⟩ (.int .u64 c.boot)).setCell ⟨r, 5, none⟩ (.int .u64 c.seq)).setCell ⟨r, 6, none⟩ (.int .u64 c.serial)).setCell ⟨r, 7, none⟩ (.int .u64 c.stamp)).heap[r]? = some (.cells (cmA c) ty (0, 0)) := by
  have h0 : (W.setCell ⟨r, 0, none⟩ (.int .i64 c.kind)).heap[r]? = some (.cells #[.int .i64 c.kind, x1, x2, x3, x4, x5, x6, x7] ty (0, 0)) := (heap_setCell_same _ r 0 _ ty _ h).trans rfl
  have h1 : ((W.setCell ⟨r, 0, none⟩ (.int .i64 c.kind)).setCell ⟨r, 1, none⟩ (.int .i64 c.node)).heap[r]? = some (.cells #[.int .i64 c.kind, .int .i64 c.node, x2, x3, x4, x5, x6, x7] ty (0, 0)) := (heap_setCell_same _ r 1 _ ty _ h0).trans rfl
  have h2 : (((W.setCell ⟨r, 0, none⟩ (.int .i64 c.kind)).setCell ⟨r, 1, none⟩ (.int .i64 c.node)).setCell ⟨r, 2, none⟩ (.int .i64 c.token)).heap[r]? = some (.cells #[.int .i64 c.kind, .int .i64 c.node, .int .i64 c.token, x3, x4, x5, x6, x7] ty (0, 0)) := (heap_setCell_same _ r 2 _ ty _ h1).trans rfl
  have h3 : ((((W.setCell ⟨r, 0, none⟩ (.int .i64 c.kind)).setCell ⟨r, 1, none⟩ (.int .i64 c.node)).setCell ⟨r, 2, none⟩ (.int .i64 c.token)).setCell ⟨r, 3, none⟩ (.slice none 0 0)).heap[r]? = some (.cells #[.int .i64 c.kind, .int .i64 c.node, .int .i64 c.token, .slice none 0 0, x4, x5, x6, x7] ty (0, 0)) := (heap_setCell_same _ r 3 _ ty _ h2).trans rfl
  have h4 : (((((W.setCell ⟨r, 0, none⟩ (.int .i64 c.kind)).setCell ⟨r, 1, none⟩ (.int .i64 c.node)).setCell ⟨r, 2, none⟩ (.int .i64 c.token)).setCell ⟨r, 3, none⟩ (.slice none 0 0)).setCell ⟨r, 4, none⟩ (.int .u64 c.boot)).heap[r]? = some (.cells #[.int .i64 c.kind, .int .i64 c.node, .int .i64 c.token, .slice none 0 0, .int .u64 c.boot, x5, x6, x7] ty (0, 0)) := (heap_setCell_same _ r 4 _ ty _ h3).trans rfl
  have h5 : ((((((W.setCell ⟨r, 0, none⟩ (.int .i64 c.kind)).setCell ⟨r, 1, none⟩ (.int .i64 c.node)).setCell ⟨r, 2, none⟩ (.int .i64 c.token)).setCell ⟨r, 3, none⟩ (.slice none 0 0)).setCell ⟨r, 4, none⟩ (.int .u64 c.boot)).setCell ⟨r, 5, none⟩ (.int .u64 c.seq)).heap[r]? = some (.cells #[.int .i64 c.kind, .int .i64 c.node, .int .i64 c.token, .slice none 0 0, .int .u64 c.boot, .int .u64 c.seq, x6, x7] ty (0, 0)) := (heap_setCell_same _ r 5 _ ty _ h4).trans rfl
  have h6 : (((((((W.setCell ⟨r, 0, none⟩ (.int .i64 c.kind)).setCell ⟨r, 1, none⟩ (.int .i64 c.node)).setCell ⟨r, 2, none⟩ (.int .i64 c.token)).setCell ⟨r, 3, none⟩ (.slice none 0 0)).setCell ⟨r, 4, none⟩ (.int .u64 c.boot)).setCell ⟨r, 5, none⟩ (.int .u64 c.seq)).setCell ⟨r, 6, none⟩ (.int .u64 c.serial)).heap[r]? = some (.cells #[.int .i64 c.kind, .int .i64 c.node, .int .i64 c.token, .slice none 0 0, .int .u64 c.boot, .int .u64 c.seq, .int .u64 c.serial, x7] ty (0, 0)) := (heap_setCell_same _ r 6 _ ty _ h5).trans rfl
  have h7 : ((((((((W.setCell ⟨r, 0, none⟩ (.int .i64 c.kind)).setCell ⟨r, 1, none⟩ (.int .i64 c.node)).setCell ⟨r, 2, none⟩ (.int .i64 c.token)).setCell ⟨r, 3, none⟩ (.slice none 0 0)).setCell ⟨r, 4, none⟩ (.int .u64 c.boot)).setCell ⟨r, 5, none⟩ (.int .u64 c.seq)).setCell ⟨r, 6, none⟩ (.int .u64 c.serial)).setCell ⟨r, 7, none⟩ (.int .u64 c.stamp)).heap[r]? = some (.cells #[.int .i64 c.kind, .int .i64 c.node, .int .i64 c.token, .slice none 0 0, .int .u64 c.boot, .int .u64 c.seq, .int .u64 c.serial, .int .u64 c.stamp] ty (0, 0)) := (heap_setCell_same _ r 7 _ ty _ h6).trans rfl
  exact h7
theorem chainB {W : World} {r B : Nat} (c : Cmd) (h : B ≤ r) : Below B W ((((((((W.setCell ⟨r, 0, none⟩ (.int .i64 c.kind)).setCell ⟨r, 1, none⟩ (.int .i64 c.node)).setCell ⟨r, 2, none⟩ (.int .i64 c.token)).setCell ⟨r, 3, none⟩ (.slice none 0 0)).setCell ⟨r, 4, none⟩ (.int .u64 c.boot)).setCell ⟨r, 5, none⟩ (.int .u64 c.seq)).setCell ⟨r, 6, none⟩ (.int .u64 c.serial)).setCell ⟨r, 7, none⟩ (.int .u64 c.stamp)) := (((((((((Below.refl _ _).setCell (p := ⟨r, 0, none⟩) h _).setCell (p := ⟨r, 1, none⟩) h _).setCell (p := ⟨r, 2, none⟩) h _).setCell (p := ⟨r, 3, none⟩) h _).setCell (p := ⟨r, 4, none⟩) h _).setCell (p := ⟨r, 5, none⟩) h _).setCell (p := ⟨r, 6, none⟩) h _).setCell (p := ⟨r, 7, none⟩) h _)
set_option maxRecDepth 100000 in
set_option maxHeartbeats 8000000 in
theorem asked_any (w : World) (h : WaX p n s w S) :
    Calls Try.prog 40 #[.pointer (some ⟨p, 0, none⟩)] w fun e w' => e = .returned (.tuple #[.agg (cmA s.c), .bool (s.c.kind != 0)]) ∧ Below w.heap.size w w' := by
  obtain ⟨g, h⟩ := h
  obtain ⟨r, hr⟩ : ∃ q, w.heap.size = q := ⟨_, rfl⟩
  obtain ⟨W1, hW1⟩ : ∃ q, w.alloc (.cells #[.int .i64 0, .int .i64 0, .int .i64 0, .slice none 0 0, .int .u64 0, .int .u64 0, .int .u64 0, .int .u64 0] 58) = q := ⟨_, rfl⟩
  have hb1 : Below w.heap.size w W1 := by rw [← hW1]; exact (Below.refl _ _).alloc (Nat.le_refl _) _
  have hr1 : W1.heap[r]? = some (.cells #[.int .i64 0, .int .i64 0, .int .i64 0, .slice none 0 0, .int .u64 0, .int .u64 0, .int .u64 0, .int .u64 0] 58 (0, 0)) := by rw [← hW1, ← hr]; exact heap_alloc_new _ _
  have hp1 := (hb1.block p (row_lt h.row)).trans h.row
  have hne : p ≠ r := by have := row_lt h.row; omega
  obtain ⟨c2, c3, c4, c5, c6, c7, c8, c9⟩ := wcells hp1
  have f0 : W1.frozen? ⟨r, 0, none⟩ = false := frozen_of_row W1 _ _ _ _ hr1
  have f1 : W1.frozen? ⟨r, 1, none⟩ = false := frozen_of_row W1 _ _ _ _ hr1
  have f2 : W1.frozen? ⟨r, 2, none⟩ = false := frozen_of_row W1 _ _ _ _ hr1
  have f3 : W1.frozen? ⟨r, 3, none⟩ = false := frozen_of_row W1 _ _ _ _ hr1
  have f4 : W1.frozen? ⟨r, 4, none⟩ = false := frozen_of_row W1 _ _ _ _ hr1
  have f5 : W1.frozen? ⟨r, 5, none⟩ = false := frozen_of_row W1 _ _ _ _ hr1
  have f6 : W1.frozen? ⟨r, 6, none⟩ = false := frozen_of_row W1 _ _ _ _ hr1
  have f7 : W1.frozen? ⟨r, 7, none⟩ = false := frozen_of_row W1 _ _ _ _ hr1
  have e0 : W1.cell? ⟨r, 0, none⟩ = some (.int .i64 0) := (cell_of_row _ _ 0 _ _ _ hr1).trans rfl
  have e1 : W1.cell? ⟨r, 1, none⟩ = some (.int .i64 0) := (cell_of_row _ _ 1 _ _ _ hr1).trans rfl
  have e2 : W1.cell? ⟨r, 2, none⟩ = some (.int .i64 0) := (cell_of_row _ _ 2 _ _ _ hr1).trans rfl
  have e3 : W1.cell? ⟨r, 3, none⟩ = some (.slice none 0 0) := (cell_of_row _ _ 3 _ _ _ hr1).trans rfl
  have e4 : W1.cell? ⟨r, 4, none⟩ = some (.int .u64 0) := (cell_of_row _ _ 4 _ _ _ hr1).trans rfl
  have e5 : W1.cell? ⟨r, 5, none⟩ = some (.int .u64 0) := (cell_of_row _ _ 5 _ _ _ hr1).trans rfl
  have e6 : W1.cell? ⟨r, 6, none⟩ = some (.int .u64 0) := (cell_of_row _ _ 6 _ _ _ hr1).trans rfl
  have e7 : W1.cell? ⟨r, 7, none⟩ = some (.int .u64 0) := (cell_of_row _ _ 7 _ _ _ hr1).trans rfl
  have HB1 := Lib.hid hb1
  have HR1 := Lib.hid hr1
  have HRW := Lib.hid hr
  obtain ⟨kd, hkd⟩ : ∃ q, (s.c.kind != 0) = q := ⟨_, rfl⟩
  have HKD := Lib.hid hkd
  clear hb1 hr1 h
  go_enter Try.func40, Try.ntmps40
  go_upto_region 3 with (first | rw [hW1])
  go_region
  have h9 := chain8 s.c HR1.out
  have hb9 := chainB (W := W1) s.c (Nat.le_of_eq HRW.out)
  obtain ⟨W9, hW9⟩ : ∃ z, ((((((((W1.setCell ⟨r, 0, none⟩ (.int .i64 s.c.kind)).setCell ⟨r, 1, none⟩ (.int .i64 s.c.node)).setCell ⟨r, 2, none⟩ (.int .i64 s.c.token)).setCell ⟨r, 3, none⟩ (.slice none 0 0)).setCell ⟨r, 4, none⟩ (.int .u64 s.c.boot)).setCell ⟨r, 5, none⟩ (.int .u64 s.c.seq)).setCell ⟨r, 6, none⟩ (.int .u64 s.c.serial)).setCell ⟨r, 7, none⟩ (.int .u64 s.c.stamp)) = z := ⟨_, rfl⟩
  rw [hW9] at h9 hb9 ⊢
  have HB9 := Lib.hid (HB1.out.trans hb9)
  clear e0 e1 e2 e3 e4 e5 e6 e7 f0 f1 f2 f3 f4 f5 f6 f7 c2 c3 c4 c5 c6 c7 c8 c9 hb9 hW9 hp1
  have H9 : Hid (W9.drew.heap[r]? = some (.cells (cmA s.c) 58 (0, 0))) := Lib.hid h9
  clear h9
  go_wp2
  exact bodyPost_ret (v := .tuple #[.agg (cmA s.c), .bool kd]) (results_cell2 rfl _ _ r 58 _ (0, 0) _ rfl H9.out Try.underlying58 rfl (by kernel_rfl) rfl) rfl ⟨by rw [HKD.out], HB9.out.drew⟩
end Lt
end Go.Proofs.Ytgbblegcjladaaa
namespace Go.Proofs.Ytgbblegcjladaaa
open Go.ChangeShapes Go.WideShapes Go.ChangeAt Go.RowKit Go.Deep Go.Maps Go.ChangeMaps Go.MapKept
set_option linter.unusedVariables false
set_option maxRecDepth 100000
set_option linter.unusedSimpArgs false
namespace Lt
open Mp Mc
variable {w w' : World} {S : Nat → Prop} {p g : Nat} {n : Int} {s : Wa} {L : List Tr}
theorem TrM.look2 (h : TrM w g L) {t : Int} (ht : okI t) : (Instr.lookup 116 (.map (some g)) (.int .i64 t) true).run Try.prog w = .ok (.tuple #[(match fnd L t with | some x => trV x | none => .agg #[.int .i64 0, .int .u64 0, .int .i64 0]), .bool (fnd L t).isSome]) w := by
  have hz : (zeroValue 115).run Try.prog w = .ok (.agg #[.int .i64 0, .int .u64 0, .int .i64 0]) w := by kernel_rfl
  have := h.2.2.look tokK Try.underlying116 hz ht true
  rw [this]
  unfold OfL
  cases fnd L t <;> rfl
theorem upd_wo (hs : Srt L) (t u : Int) : Mp.upd (OfL L) t none u = OfL (woV t L) u := by
  unfold Mp.upd OfL
  rw [fnd_wo hs]
  split <;> rfl
/-- a token struck from the map: what the wallet then is -/
theorem WaG.del (h : WaG p n s g w S) {t : Int} {k : Nat} (hm : MapF Try.prog 3 (Lit.int .i64) okI w' g k (Mp.upd (OfL s.L) t none)) (hg : w.grownBy w' (some g)) : WaG p n { s with L := woV t s.L } g w' S := by
  have hpg : g ≠ p := h.m.2.2.row_ne h.row
  obtain ⟨-, -, -, h4, h5⟩ := hg
  exact ⟨(h5 p (row_lt h.row) (fun e => hpg (by cases e; rfl))).trans h.row, h.sp, h.sg, TrM.mk (h.m.1.wo t) (fun x hx => h.m.2.1 x (mem_wo.1 hx).1) hm (fun u _ => upd_wo h.m.1 t u), fun k hk => Nat.lt_of_lt_of_le (h.low k hk) h4⟩
theorem only_grown (hg : w.grownBy w' (some g)) (hs : S g) : Only S w w' := by
  obtain ⟨h1, h2, h3, h4, h5⟩ := hg
  exact ⟨by assumption, by assumption, by assumption, h4, fun k hk hn => h5 k hk (fun e => hn (by cases e; exact hs))⟩
set_option maxHeartbeats 8000000 in
theorem drop_any (t : Int) (w : World) (h : WaX p n s w S) (ht : okI t) (hn : s.L.length ≤ 1000) :
    Calls Try.prog 32 #[.pointer (some ⟨p, 0, none⟩), .int .i64 t] w fun e w' => e = .returned (.int .i64 (if (fnd s.L t).isSome then 0 else 4)) ∧ Mc.Left (WaX p n { s with L := woV t s.L }) S w w' := by
  obtain ⟨g, h⟩ := h
  have c11 : w.cell? ⟨p, 11, none⟩ = some (.map (some g)) := (cell_of_row _ _ 11 _ _ _ h.row).trans rfl
  have hlk := h.m.look2 ht
  have H := Lib.hid h
  have HT := Lib.hid ht
  cases hf : fnd s.L t with
  | none =>
    rw [hf] at hlk
    simp only [Option.isSome_none] at hlk ⊢
    obtain ⟨W1, hW1⟩ : ∃ q, w.alloc (.cells #[.int .i64 0, .int .u64 0, .int .i64 0] 115) = q := ⟨_, rfl⟩
    have HB : Hid (Below w.heap.size w W1) := Lib.hid (by rw [← hW1]; exact (Below.refl _ _).alloc (Nat.le_refl _) _)
    have HE : Hid ({ s with L := woV t s.L } = s) := Lib.hid (by rw [wo_same hf])
    have HW := Lib.hid hW1
    clear h ht hf hW1
    go_enter Try.func32, Try.ntmps32
    go_upto_region 4 with fail
    rw [HW.out]
    go_wp2
    go_ret
    exact ⟨rfl, by rw [HE.out]; exact Mc.Left.same (goodW p n s) ⟨g, H.out⟩ HB.out⟩
  | some x =>
    rw [hf] at hlk
    simp only [Option.isSome_some] at hlk ⊢
    obtain ⟨W1, hW1⟩ : ∃ q, w.alloc (.cells #[.int .i64 x.tok, .int .u64 x.ser, .int .i64 x.til] 115) = q := ⟨_, rfl⟩
    have HB : Hid (Below w.heap.size w W1) := Lib.hid (by rw [← hW1]; exact (Below.refl _ _).alloc (Nat.le_refl _) _)
    have H1 := Lib.hid (H.out.keep (w' := W1) (fun k hk => HB.out.block k (H.out.low k hk)) HB.out.size)
    have d11 : W1.cell? ⟨p, 11, none⟩ = some (.map (some g)) := (cell_of_row _ _ 11 _ _ _ H1.out.row).trans rfl
    clear h ht hf
    go_enter Try.func32, Try.ntmps32
    go_wp2_with (first | rw [hW1] | (at_delete; refine Mp.wp_del rfl _ _ _ rfl tokK Try.underlying116 g s.L.length (OfL s.L) rfl H1.out.m.2.2 t HT.out rfl ?_; intro w6 hm6 hg6; have H6 := Lib.hid (And.intro (H1.out.del hm6 hg6) ((Below.only HB.out S).trans (only_grown hg6 H.out.sg))); clear hm6 hg6))
    go_ret
    exact ⟨rfl, Mc.Left.mk (goodW p n _) ⟨g, H6.out.1⟩ H6.out.2⟩
end Lt
end Go.Proofs.Ytgbblegcjladaaa
namespace Go.Proofs.Ytgbblegcjladaaa
open Go.ChangeShapes Go.WideShapes Go.ChangeAt Go.RowKit Go.Deep Go.Maps Go.ChangeMaps Go.MapKept
set_option linter.unusedVariables false
set_option maxRecDepth 100000
set_option linter.unusedSimpArgs false
namespace Lt
open Mp Mc
variable {w w' : World} {S : Nat → Prop} {p g : Nat} {n : Int} {s : Wa} {L : List Tr}
theorem upd_wi (hs : Srt L) (x : Tr) (u : Int) : Mp.upd (OfL L) x.tok (some (trV x)) u = OfL (wiV x L) u := by
  unfold Mp.upd OfL
  rw [fnd_wi hs]
  split <;> rfl
/-- a trust put into the map: what the wallet then is -/
theorem WaG.put (h : WaG p n s g w S) {x : Tr} (hx : x.wf) {k : Nat} (hm : MapF Try.prog 3 (Lit.int .i64) okI w' g k (Mp.upd (OfL s.L) x.tok (some (trV x)))) (hg : w.grownBy w' (some g)) : WaG p n { s with L := wiV x s.L } g w' S := by
  have hpg : g ≠ p := h.m.2.2.row_ne h.row
  obtain ⟨-, -, -, h4, h5⟩ := hg
  exact ⟨(h5 p (row_lt h.row) (fun e => hpg (by cases e; rfl))).trans h.row, h.sp, h.sg, TrM.mk (h.m.1.wi x) (fun y hy => by rcases mem_wi.1 hy with rfl | hy; exact hx; exact h.m.2.1 y hy.1) hm (fun u _ => upd_wi h.m.1 x u), fun k hk => Nat.lt_of_lt_of_le (h.low k hk) h4⟩
abbrev MT : TypeId := 116
set_option maxHeartbeats 2000000 in
theorem mclone_any (w : World) (h : TrM w g L) :
    Calls Try.prog 55 #[.map (some g)] w fun e w' => e = .returned (.map (some w.heap.size)) ∧ TrM w' w.heap.size L ∧ Below w.heap.size w w' := by
  obtain ⟨hs, hw, Dt, ⟨es, clock, hb, hr⟩, hsy⟩ := id h
  have hq := fun w => run_eql_map_nil_sl (P := Try.prog) w MT _ _ (some g) Try.underlying116
  have hB : Below w.heap.size w (w.alloc (.map es clock)) := (Below.refl _ w).alloc (Nat.le_refl _) _
  have HB := Lib.hid hB
  have HM : Hid (TrM (w.alloc (.map es clock)) w.heap.size L) := Lib.hid ⟨hs, hw, ⟨Dt, ⟨es, clock, (MapKept.heap_alloc w _).1, hr⟩, hsy⟩⟩
  have HBB := Lib.hid hb
  clear hs hw hsy hr hB hb h
  go_enter Try.func55, Try.ntmps55
  go_wp2
  rw [run_callFunc_extern Try.func64 (by kernel_rfl) (by kernel_rfl) (by kernel_rfl) (e := Extern.MapsClone.clone) (by kernel_rfl), run_maps_clone_sl w MT HBB.out]
  simp only [Result.andThen]
  rw [Oper.upon_value]
  go_wp2
  rw [run_typeAssert_map_sl _ MT 20 _ _ _ Try.underlying116]
  simp only [Result.andThen]
  rw [Oper.upon_value]
  go_wp2
  go_ret
  exact ⟨rfl, HM.out, HB.out⟩
set_option maxRecDepth 100000 in
set_option maxHeartbeats 8000000 in
theorem clone_any (w : World) (h : WaX p n s w S) :
    Calls Try.prog 34 #[.pointer (some ⟨p, 0, none⟩)] w fun e w' => ∃ q, e = .returned (.pointer (some ⟨q, 0, none⟩)) ∧ WaX q n s w' (fun k => w.heap.size ≤ k ∧ k < w'.heap.size) ∧ Below w.heap.size w w' := by
  obtain ⟨g, h⟩ := h
  have c0 : w.cell? ⟨p, 0, none⟩ = some (.int .i64 n) := (cell_of_row _ _ 0 _ _ _ h.row).trans rfl
  have c1 : w.cell? ⟨p, 1, none⟩ = some (.int .i64 s.now) := (cell_of_row _ _ 1 _ _ _ h.row).trans rfl
  have c2 : w.cell? ⟨p, 2, none⟩ = some (.int .i64 s.c.kind) := (cell_of_row _ _ 2 _ _ _ h.row).trans rfl
  have c3 : w.cell? ⟨p, 3, none⟩ = some (.int .i64 s.c.node) := (cell_of_row _ _ 3 _ _ _ h.row).trans rfl
  have c4 : w.cell? ⟨p, 4, none⟩ = some (.int .i64 s.c.token) := (cell_of_row _ _ 4 _ _ _ h.row).trans rfl
  have c5 : w.cell? ⟨p, 5, none⟩ = some (.slice none 0 0) := (cell_of_row _ _ 5 _ _ _ h.row).trans rfl
  have c6 : w.cell? ⟨p, 6, none⟩ = some (.int .u64 s.c.boot) := (cell_of_row _ _ 6 _ _ _ h.row).trans rfl
  have c7 : w.cell? ⟨p, 7, none⟩ = some (.int .u64 s.c.seq) := (cell_of_row _ _ 7 _ _ _ h.row).trans rfl
  have c8 : w.cell? ⟨p, 8, none⟩ = some (.int .u64 s.c.serial) := (cell_of_row _ _ 8 _ _ _ h.row).trans rfl
  have c9 : w.cell? ⟨p, 9, none⟩ = some (.int .u64 s.c.stamp) := (cell_of_row _ _ 9 _ _ _ h.row).trans rfl
  have c10 : w.cell? ⟨p, 10, none⟩ = some (.int .i64 s.made) := (cell_of_row _ _ 10 _ _ _ h.row).trans rfl
  have c11 : w.cell? ⟨p, 11, none⟩ = some (.map (some g)) := (cell_of_row _ _ 11 _ _ _ h.row).trans rfl
  obtain ⟨q, hq⟩ : ∃ z, w.heap.size = z := ⟨_, rfl⟩
  obtain ⟨W1, hW1⟩ : ∃ z, w.alloc (.cells (waA n s g) TW) = z := ⟨_, rfl⟩
  have hb1 : Below w.heap.size w W1 := by rw [← hW1]; exact (Below.refl _ _).alloc (Nat.le_refl _) _
  have hr1 : W1.heap[q]? = some (.cells (waA n s g) TW (0, 0)) := by rw [← hW1, ← hq]; exact heap_alloc_new _ _
  have d11 : W1.cell? ⟨p, 11, none⟩ = some (.map (some g)) := (cell_of_row _ _ 11 _ _ _ ((hb1.block p (row_lt h.row)).trans h.row)).trans rfl
  have HM := Lib.hid (mclone_any W1 (h.m.block (hb1.block g h.m.2.2.lt)))
  have HB1 := Lib.hid hb1
  have HR1 := Lib.hid hr1
  have HQ := Lib.hid hq
  clear h hb1 hr1
  go_enter Try.func34, Try.ntmps34
  go_upto_region 4 with (first | rw [hW1, hq])
  clear c0 c1 c2 c3 c4 c5 c6 c7 c8 c9 c10 c11 hW1
  go_wp2_with fail
  refine HM.out.mono ?_
  rintro e w2 ⟨rfl, hm2, hb2⟩
  have hr2 := (hb2.block q (row_lt HR1.out)).trans HR1.out
  have e11 : w2.cell? ⟨q, 11, none⟩ = some (.map (some g)) := (cell_of_row _ _ 11 _ _ _ hr2).trans rfl
  have f11 : w2.frozen? ⟨q, 11, none⟩ = false := frozen_of_row w2 _ _ _ _ hr2
  obtain ⟨W3, hW3⟩ : ∃ z, w2.setCell ⟨q, 11, none⟩ (.map (some W1.heap.size)) = z := ⟨_, rfl⟩
  have hr3 : W3.heap[q]? = some (.cells (waA n s W1.heap.size) TW (0, 0)) := by rw [← hW3]; exact (heap_setCell_same w2 q 11 _ TW _ hr2).trans rfl
  have hne : W1.heap.size ≠ q := by have := row_lt HR1.out; omega
  have hm3 : TrM W3 W1.heap.size s.L := hm2.block (by rw [← hW3]; exact heap_setCell_other w2 ⟨q, 11, none⟩ _ _ hne)
  have hb3 : Below w.heap.size w W3 := by rw [← hW3]; exact (HB1.out.trans (hb2.mono HB1.out.size)).setCell (p := ⟨q, 11, none⟩) (Nat.le_of_eq HQ.out) _
  have HF : Hid (WaX q n s W3 (fun k => w.heap.size ≤ k ∧ k < W3.heap.size) ∧ Below w.heap.size w W3) := Lib.hid ⟨⟨_, hr3, ⟨Nat.le_of_eq HQ.out, row_lt hr3⟩, ⟨HB1.out.size, hm3.2.2.lt⟩, hm3, fun k hk => hk.2⟩, hb3⟩
  clear hm2 hb2 hr2 hr3 hne hm3 hb3
  go_wp2_with (first | rw [hW3])
  go_ret
  exact ⟨q, rfl, HF.out⟩
end Lt
end Go.Proofs.Ytgbblegcjladaaa
