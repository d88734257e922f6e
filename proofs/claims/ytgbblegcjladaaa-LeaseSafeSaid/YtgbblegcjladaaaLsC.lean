/- Package lease's keeper, as landed: Leads, Due, Clone. No condition. -/
import Derived.Test.YtgbblegcjladaaaLsB
import Derived.Test.YtgbblegcjladaaaInKRow
import Derived.Shelf.SlMaps.Clone
namespace Go.Proofs.Ytgbblegcjladaaa
open Go.ChangeShapes Go.WideShapes Go.ChangeAt Go.RowKit Go.Deep Go.Maps Go.ChangeMaps Go.MapKept
set_option linter.unusedVariables false
set_option maxRecDepth 100000
set_option linter.unusedSimpArgs false
namespace Ls
open Mc
variable {w w' w1 : World} {S : Nat → Prop} {p : Nat} {n : Int} {vh vl vk : Value} {b : Option Nat} {L : List Row}
set_option maxHeartbeats 4000000 in
theorem leads_any (now : Int) (l : Led) (w : World) (h : KpV w S p n vk b L) (hL : ∀ w', Only S w w' → SlR 5 heldC w' vh l.held) (hlen : l.held.length ≤ 1000) (hw : ∀ x ∈ l.held, x.wf) (hn : (l.held.map keyR).Nodup) :
    Calls Try.prog 12 #[.pointer (some ⟨p, 0, none⟩), .int .i64 now, .agg (lArr l vh vl)] w (KpR (.tuple #[]) p n (seesV now [] l.held) S w) := by
  obtain ⟨gl, hgl⟩ : ∃ q, w.heap.size = q := ⟨_, rfl⟩
  obtain ⟨W1, hW1⟩ : ∃ q, w.alloc (.cells (lArr l vh vl) 35) = q := ⟨_, rfl⟩
  have hb1 : Below w.heap.size w W1 := by rw [← hW1]; exact (Below.refl _ _).alloc (Nat.le_refl _) _
  have hr1 : W1.heap[gl]? = some (.cells (lArr l vh vl) 35 (0, 0)) := by rw [← hW1, ← hgl]; exact heap_alloc_new _ _
  have h1 : KpV W1 S p n vk b L := h.keep (fun k hk => hb1.block k (h.low k hk)) hb1.size
  have hpl : p ≠ gl := by have := row_lt h.row; omega
  obtain ⟨W2, hW2⟩ : ∃ q, W1.setCell ⟨p, 2, none⟩ (.map none) = q := ⟨_, rfl⟩
  have hp2 : W2.heap[p]? = some (.cells #[.int .i64 n, vk, .map none] TK (0, 0)) := by rw [← hW2]; exact kset2 h1.row
  have hr2 : W2.heap[gl]? = some (.cells (lArr l vh vl) 35 (0, 0)) := by rw [← hW2]; exact (heap_setCell_other W1 ⟨p, 2, none⟩ gl _ hpl.symm).trans hr1
  have ho : Only S w W2 := (Below.only hb1 S).trans (by rw [← hW2]; exact Only.setCell W1 ⟨p, 2, none⟩ _ h.sp)
  have hz2 : W2.heap.size = W1.heap.size := by rw [← hW2]; simp
  have H2 : Hid (KnV W2 S p n vk none []) := Lib.hid ⟨hp2, h.sp, .inl ⟨rfl, rfl⟩, fun k hk => by have := h.low k hk; have := hb1.size; omega⟩
  have HO := Lib.hid ho
  have HLW : Hid (∀ w', Only S W2 w' → SlR 5 heldC w' vh l.held) := Lib.hid (fun w' q => hL w' (ho.trans q))
  have hc := sees_any (vl := vl) now l W2 H2.out OkL.nil HLW.out hlen hw hn
  have HC := Lib.hid hc
  have c12 := (krow h1.row).2.2.1
  have z1 := (krow h1.row).2.2.2
  have k0 : W2.cell? ⟨gl, 0, none⟩ = some (.int .i64 l.limit) := (cell_of_row _ _ 0 _ _ _ hr2).trans rfl
  have k1 : W2.cell? ⟨gl, 1, none⟩ = some (.int .u64 l.next) := (cell_of_row _ _ 1 _ _ _ hr2).trans rfl
  have k2 : W2.cell? ⟨gl, 2, none⟩ = some vh := (cell_of_row _ _ 2 _ _ _ hr2).trans rfl
  have k3 : W2.cell? ⟨gl, 3, none⟩ = some vl := (cell_of_row _ _ 3 _ _ _ hr2).trans rfl
  clear hL hlen hw hn hb1 hr1 h1 hp2 hr2 ho hz2 h hc
  go_enter Try.func12, Try.ntmps12
  go_wp2_with (first | rw [hW1] | rw [hW2] | ((with_reducible refine HC.out.mono ?_); rintro e w9 ⟨rfl, h9⟩; have H9 := Lib.hid h9; clear h9))
  (try simp only [Exit.inBlock, Exit.then])
  refine bodyPost_end (results_none rfl _ _ _) rfl ?_
  exact ⟨rfl, Mc.Left.step HO.out (fun k hk => .inl hk) H9.out⟩
/-! ### Due -/
abbrev TCm : TypeId := 58
abbrev rcA (x : KR) : Array Value := #[.int .i64 6, .int .i64 0, .int .i64 x.token, .slice none 0 0, .int .u64 0, .int .u64 0, .int .u64 x.serial, .int .u64 x.stamp]
abbrev rcC (x : KR) : List Value := [.int .i64 6, .int .i64 0, .int .i64 x.token, .slice none 0 0, .int .u64 0, .int .u64 0, .int .u64 x.serial, .int .u64 x.stamp]
theorem rcC_len (x : KR) : (rcC x).length = 8 := rfl
theorem rcC_one (x : KR) : ∀ u ∈ rcC x, u.oneCell' = true := by intro u hu; simp at hu; rcases hu with rfl | rfl | rfl | rfl | rfl | rfl | rfl | rfl <;> rfl
theorem info_cm : (Try.prog.info? TCm).map (fun i => (i.zero, i.size, i.bytes)) = some (some (.agg #[.int .i64 0, .int .i64 0, .int .i64 0, .slice none 0 0, .int .u64 0, .int .u64 0, .int .u64 0, .int .u64 0]), 8, 80) := by kernel_rfl
/-- the rows that are due, as keys -/
def dueK (n now : Int) (L : List Row) : List KR := (L.filter (isDue n now)).map keyX
theorem dueK_snoc (n now : Int) (L : List Row) (x : Row) : dueK n now (L ++ [x]) = dueK n now L ++ (if isDue n now x then [keyX x] else []) := by
  unfold dueK
  rw [List.filter_append, List.map_append]
  congr 1
  by_cases h : isDue n now x = true <;> simp [h]
/-- what Due answers and leaves -/
def DueR (p : Nat) (n now : Int) (L : List Row) (S : Nat → Prop) (w : World) (e : Ending) (w' : World) : Prop := ∃ vd, e = .returned vd ∧ OwnR 8 rcC TCm w' w.heap.size vd (dueK n now L) ∧ KpX p n (doneV n now L) w' S ∧ Only S w w'
/-- while what is due is written: those of D are -/
structure DueW (w0 : World) (S : Nat → Prop) (p g m : Nat) (n now : Int) (L D : List Row) (vh : Value) (w : World) : Prop where
  row : w.heap[p]? = some (.cells #[.int .i64 n, vh, .map (some g)] TK (0, 0))
  h : OwnR 3 krC TR w 0 vh (L.map keyX)
  hs : ∀ q, vh.ownBlock = some q → S q
  f : ∃ f f', FitsM f L ∧ Mp.MapF Try.prog TR litR KR.wf w g m f' ∧ DoneM f f' D now
  o : Only S w0 w
  sg : S g
  sp : S p
  low : ∀ k, S k → k < w0.heap.size
variable {w0 : World} {g m : Nat} {now : Int} {D : List Row}
theorem DueW.start (h : KpV w S p n vh (some g) L) : DueW w S p g L.length n now L [] vh w := by
  rcases h.m with ⟨e, -⟩ | ⟨g2, f, e1, e2, e3, e4⟩
  · cases e
  · simp only [Option.some.injEq] at e1
    subst e1
    exact ⟨h.row, h.h, h.hs, ⟨f, f, e4, e3, DoneM.nil⟩, Only.refl _ _, e2, h.sp, h.low⟩
theorem DueW.below (h : DueW w0 S p g m n now L D vh w) (hb : Below w.heap.size w w') : DueW w0 S p g m n now L D vh w' := by
  obtain ⟨f, f', h1, h2, h3⟩ := h.f
  exact ⟨(hb.block p (row_lt h.row)).trans h.row, own_keep h.h (fun q _ hq => hb.block q hq), h.hs, ⟨f, f', h1, h2.below hb, h3⟩, h.o.trans (Below.only hb S), h.sg, h.sp, h.low⟩
theorem DueW.alloc (h : DueW w0 S p g m n now L D vh w) (o : Obj) : DueW w0 S p g m n now L D vh (w.alloc o) := h.below ((Below.refl _ _).alloc (Nat.le_refl _) o)
theorem DueW.put {x : Row} (h : DueW w0 S p g m n now L D vh w) (hw : (keyX x).wf) (hm : m < 1000000) : ∃ w1, (Instr.mapUpdate MT (.map (some g)) (.agg (kA (keyX x))) (.int .i64 (timeV now))).run Try.prog w = .ok () w1 ∧ DueW w0 S p g (m + 1) n now L (D ++ [x]) vh w1 ∧ w.grownBy w1 (some g) := by
  obtain ⟨f, f', h1, h2, h3⟩ := h.f
  obtain ⟨w1, hrun, hmp, hg⟩ := h2.put KK Try.underlying96 (by unfold maxLen; omega) hw (.int .i64 (timeV now))
  have hpg : p ≠ g := fun e => h2.row_ne (e ▸ h.row) rfl
  have hvg : ∀ q, vh.ownBlock = some q → q ≠ g := fun q hq e => by
    rcases own_form h.h with ⟨e1, -⟩ | ⟨g2, c, cur, e1, e2, -⟩
    · rw [e1] at hq; cases hq
    · rw [e1] at hq
      simp only [Value.ownBlock, Option.some.injEq] at hq
      subst hq
      exact h2.row_ne e2 e.symm
  exact ⟨w1, hrun, ⟨(hg.block p (row_lt h.row) (fun e => hpg (Option.some.inj e))).trans h.row, own_keep h.h (fun q hq hl => hg.block q hl (fun e => hvg q hq (Option.some.inj e))), h.hs, ⟨f, _, h1, hmp, h3.snoc⟩, h.o.trans (Only.grown hg (fun q e => by rw [← Option.some.inj e]; exact h.sg)), h.sg, h.sp, h.low⟩, hg⟩
theorem DueW.fin (h : DueW w0 S p g m n now L (L.filter (isDue n now)) vh w) (ho : OkL L) : KpX p n (doneV n now L) w S ∧ Only S w0 w := by
  obtain ⟨f, f', h1, h2, h3⟩ := h.f
  have hf := h3.fits h1 ho
  have hk : (doneV n now L).map keyX = L.map keyX := by unfold doneV; rw [List.map_map]; exact List.map_congr_left fun x _ => anew_key n now x
  have hd : Mp.Dom KR.wf f' ((doneV n now L).map keyX) := by
    refine ⟨hk ▸ ho.nd, fun k => ⟨fun hm => ?_, fun ⟨hw, hs⟩ => ?_⟩⟩
    · obtain ⟨x, hx, rfl⟩ := List.mem_map.1 hm
      have hw := keyR_wf ((ho.done n now).wf x hx)
      exact ⟨hw, by rw [hf.at (ho.done n now) hx]; rfl⟩
    · rw [hf k hw] at hs
      cases he : findX (doneV n now L) k with
      | none => rw [he] at hs; cases hs
      | some x =>
        obtain ⟨a, rfl⟩ := find_mem he
        exact List.mem_map_of_mem a
  obtain ⟨es, clock, -, -, hm⟩ := h2.card KK hd
  rw [List.length_map] at hm
  exact ⟨⟨vh, some g, ⟨⟨h.row, h.sp, .inr ⟨g, f', rfl, h.sg, hm, hf⟩, fun k hk => Nat.lt_of_lt_of_le (h.low k hk) h.o.2.2.2.1⟩, hk ▸ h.h, h.hs⟩⟩, h.o⟩
/-! ### Clone -/
set_option maxHeartbeats 2000000 in
theorem mclone_any (v : Option Nat) (w : World) (h : KnM w S v L) :
    Calls Try.prog 48 #[.map v] w fun e w' => ∃ v', e = .returned (.map v') ∧ KnM w' (fun k => w.heap.size ≤ k ∧ k < w'.heap.size) v' L ∧ Below w.heap.size w w' := by
  rcases h with ⟨rfl, rfl⟩ | ⟨g, f, rfl, hg, hm, hf⟩
  · have hq := fun w => run_eql_map_nil_sl (P := Try.prog) w MT _ _ none Try.underlying96
    go_enter Try.func48, Try.ntmps48
    go_wp2
    go_ret
    exact ⟨none, rfl, .inl ⟨rfl, rfl⟩, Below.refl _ _⟩
  · obtain ⟨Dt, ⟨es, clock, hb, hr⟩, hs⟩ := id hm
    have hq := fun w => run_eql_map_nil_sl (P := Try.prog) w MT _ _ (some g) Try.underlying96
    have hB : Below w.heap.size w (w.alloc (.map es clock)) := (Below.refl _ w).alloc (Nat.le_refl _) _
    have HB := Lib.hid hB
    have HM : Hid (KnM (w.alloc (.map es clock)) (fun k => w.heap.size ≤ k ∧ k < (w.alloc (.map es clock)).heap.size) (some w.heap.size) L) := Lib.hid (.inr ⟨w.heap.size, f, rfl, ⟨Nat.le_refl _, by simp⟩, ⟨Dt, ⟨es, clock, (MapKept.heap_alloc w _).1, hr⟩, hs⟩, hf⟩)
    have HBB := Lib.hid hb
    clear hm hf hs hr hB hb
    go_enter Try.func48, Try.ntmps48
    go_wp2
    rw [run_callFunc_extern Try.func64 (by kernel_rfl) (by kernel_rfl) (by kernel_rfl) (e := Extern.MapsClone.clone) (by kernel_rfl), run_maps_clone_sl w MT HBB.out]
    simp only [Result.andThen]
    rw [Oper.upon_value]
    go_wp2
    rw [run_typeAssert_map_sl _ MT 20 _ _ _ Try.underlying96]
    simp only [Result.andThen]
    rw [Oper.upon_value]
    go_wp2
    go_ret
    exact ⟨_, rfl, HM.out, HB.out⟩
/-! ### Due, walked -/
def DueP (w0 : World) (S : Nat → Prop) (p m : Nat) (n now : Int) (L D : List Row) (vh : Value) (b : Option Nat) (w : World) : Prop := (L = [] ∧ KpV w S p n vh b L ∧ Only S w0 w) ∨ ∃ g, b = some g ∧ DueW w0 S p g m n now L D vh w
theorem dueP_start (h : KpV w S p n vh b L) : DueP w S p L.length n now L [] vh b w := by
  rcases h.m with ⟨e, e2⟩ | ⟨g, f, e1, -, -, -⟩
  · exact .inl ⟨e2, h, Only.refl _ _⟩
  · subst e1; exact .inr ⟨g, rfl, DueW.start h⟩
theorem DueP.below (h : DueP w0 S p m n now L D vh b w) (hb : Below w.heap.size w w') : DueP w0 S p m n now L D vh b w' := by
  rcases h with ⟨e, h1, h2⟩ | ⟨g, e, h⟩
  · exact .inl ⟨e, h1.keep (fun k hk => hb.block k (h1.low k hk)) hb.size, h2.trans (Below.only hb S)⟩
  · exact .inr ⟨g, e, h.below hb⟩
theorem DueP.fin (h : DueP w0 S p m n now L (L.filter (isDue n now)) vh b w) (ho : OkL L) : KpX p n (doneV n now L) w S ∧ Only S w0 w := by
  rcases h with ⟨e, h1, h2⟩ | ⟨g, e, h⟩
  · subst e; exact ⟨⟨_, _, h1⟩, h2⟩
  · exact h.fin ho
theorem map_own {f : KR → Option Value} {B e sz c : Nat} {v : Value} {xs : List Value} (h : Mp.MapF Try.prog TR litR KR.wf w g m f) (hv : w.ownsRow B e sz v c xs) : ∀ q, v.ownBlock = some q → q ≠ g := fun q hq e => by
  rcases own_form hv with ⟨e1, -⟩ | ⟨g2, c, cur, e1, e2, -⟩
  · rw [e1] at hq; cases hq
  · rw [e1] at hq
    simp only [Value.ownBlock, Option.some.injEq] at hq
    subst hq
    exact h.row_ne e2 e.symm
set_option maxHeartbeats 8000000 in
theorem due_any (now : Int) (w : World) (h : KpV w S p n vh b L) (hok : OkL L) (hn : 1 ≤ n ∧ n ≤ 1073741824) (hlen : L.length ≤ 1000) :
    Calls Try.prog 17 #[.pointer (some ⟨p, 0, none⟩), .int .i64 now] w (DueR p n now L S w) := by
  obtain ⟨nt, hnt⟩ : ∃ q, timeV now = q := ⟨_, rfl⟩
  have HNT := Lib.hid hnt
  have HNR : Hid (0 ≤ nt ∧ nt ≤ 4611686018427387904) := Lib.hid (by have := time_lo now; rw [hnt] at this; exact this)
  obtain ⟨ah, ch, hvh⟩ := own_slice h.h
  rw [List.length_map] at hvh
  subst hvh
  have H := Lib.hid h
  have HOK := Lib.hid hok
  have c1 := (krow h.row).2.1
  obtain ⟨K, hK⟩ : ∃ q, dueK n now L = q := ⟨_, rfl⟩
  have HKD := Lib.hid hK
  have HKL : Hid (K.length ≤ L.length) := Lib.hid (by rw [← hK]; unfold dueK; rw [List.length_map]; exact List.length_filter_le _ _)
  clear h hok hnt hK
  go_enter Try.func17, Try.ntmps17
  go_wp2_with (first | ((with_reducible refine (clamp_any _ _).mono ?_); rintro e w' ⟨rfl, rfl⟩; rw [HNT.out]))
  clear c1
  go_loopw [5, 19] (fun vd i wr => ∃ (j : Nat) (v : Value), v = vd ∧ j ≤ L.length ∧ i = .int .i64 (j : Int) ∧ Hid (OwnR 8 rcC TCm wr w.heap.size v (dueK n now (L.take j))) ∧ Hid (Below w.heap.size w wr)) (fun _ i _ => L.length - (intOf i).toNat)
  case atStart => exact ⟨0, _, rfl, Nat.zero_le _, rfl, Lib.hid (OwnR.nil _ _ _), Lib.hid (Below.refl _ _)⟩
  case round =>
    obtain ⟨j, v, rfl, hj, rfl, HRO, HRJ⟩ := hrel
    by_cases hlt : j < L.length
    · have hlti : (j : Int) < (L.length : Int) := by omega
      obtain ⟨x, hx⟩ : ∃ x, L[j]? = some x := ⟨_, List.getElem?_eq_getElem hlt⟩
      obtain ⟨z, hz⟩ : ∃ q, keyX x = q := ⟨_, rfl⟩
      have hxm := List.mem_of_getElem? hx
      have HZW : Hid z.wf := Lib.hid (hz ▸ keyR_wf (HOK.out.wf x hxm))
      have HTK : Hid (dueK n now (L.take (j + 1)) = dueK n now (L.take j) ++ (if isDue n now x then [z] else [])) := Lib.hid (by rw [List.take_add_one, hx, Option.toList_some, dueK_snoc, hz])
      have HJL : Hid ((dueK n now (L.take j)).length ≤ 1000) := Lib.hid (by unfold dueK; rw [List.length_map]; refine Nat.le_trans (List.length_filter_le _ _) ?_; rw [List.length_take]; omega)
      obtain ⟨s0, hs0⟩ : ∃ q, x.since = q := ⟨_, rfl⟩
      have hsr := HOK.out.t x hxm
      unfold top at hsr
      rw [hs0] at hsr
      have HS0 : Hid (sinceOf L z 0 = s0) := Lib.hid (by unfold sinceOf; rw [← hz, find_at HOK.out.nd hxm, ← hs0]; rfl)
      have HWR : Hid (IntKind.i64.wrap (nt - s0) = nt - s0) := Lib.hid (by rw [IntKind.wrap_i64]; have := HNR.out; omega)
      obtain ⟨dd, hdd⟩ : ∃ q, decide (n ≤ nt - s0) = q := ⟨_, rfl⟩
      have HDD := Lib.hid hdd
      have HDX : Hid (isDue n now x = dd) := Lib.hid (by unfold isDue; rw [HNT.out, hs0, hdd])
      obtain ⟨bh, oh, rfl, y0, y1, y2⟩ : ∃ b off, ah = some ⟨b, off, none⟩ ∧ wr.cell? ⟨b, off + j * 3, none⟩ = some (.int .i64 z.token) ∧ wr.cell? ⟨b, off + j * 3 + 1, none⟩ = some (.int .u64 z.serial) ∧ wr.cell? ⟨b, off + j * 3 + 2, none⟩ = some (.int .u64 z.stamp) := by
        rcases SlR.cases ((H.out.h.sl krC_len).below HRJ.out (Nat.le_refl _)) with ⟨a2, c2, e, hnil⟩ | ⟨b, off, c2, e, -, -, -, -, hc⟩
        · rw [List.map_eq_nil_iff] at hnil; rw [hnil] at hlt; simp at hlt
        · simp only [Value.slice.injEq] at e
          have hc := hc j z (by rw [List.getElem?_map, hx, ← hz]; rfl)
          have h0 := hc 0 _ rfl; have h1 := hc 1 _ rfl; have h2 := hc 2 _ rfl
          simp only [← Nat.add_assoc, Nat.add_zero] at h0 h1 h2
          exact ⟨b, off, e.1, h0, h1, h2⟩
      obtain ⟨g3, hg3⟩ : ∃ q, wr.heap.size = q := ⟨_, rfl⟩
      obtain ⟨W5, hW5⟩ : ∃ q, wr.alloc (.cells (kA z) TR) = q := ⟨_, rfl⟩
      have hb5 : Below wr.heap.size wr W5 := by rw [← hW5]; exact (Below.refl _ _).alloc (Nat.le_refl _) _
      have hr5 : W5.heap[g3]? = some (.cells (kA z) TR (0, 0)) := by rw [← hW5, ← hg3]; exact heap_alloc_new _ _
      have HB5 : Hid (Below w.heap.size w W5.drew) := Lib.hid (HRJ.out.trans ((hb5.mono HRJ.out.size).drew))
      have HQ5 : Hid (KpV W5.drew S p n (.slice (some ⟨bh, oh, none⟩) L.length ch) b L ∧ W5.drew.heap[g3]? = some (.cells (kA z) TR (0, 0))) := Lib.hid ⟨H.out.keep (fun k hk => HB5.out.block k (H.out.low k hk)) HB5.out.size, hr5⟩
      have HO5 : Hid (OwnR 8 rcC TCm W5.drew w.heap.size v (dueK n now (L.take j))) := Lib.hid (own_keep HRO.out (fun q _ hq => hb5.block q hq))
      have HR5 := Lib.hid hr5
      clear hx hxm hz hs0 hsr hdd hb5 hr5
      go_upto_region 8 with (first | rw [hW5])
      clear y0 y1 y2 hW5 hg3
      refine Wl.start 999 (fun _ => True) (fun u => KpV u S p n (.slice (some ⟨bh, oh, none⟩) L.length ch) b L ∧ u.heap[g3]? = some (.cells (kA z) TR (0, 0))) (by kernel_rfl) trivial HQ5.out (fun hk => ?_)
      refine Wl.take0 (i := 0) (v := .int .i64 nt) rfl (by kernel_rfl) (by kernel_rfl) (by kernel_rfl) (by kernel_rfl) (fun _ _ _ h => h) (.inl ⟨by kernel_rfl, ?_⟩) hk ?_
      · intro wx hSw
        clear hSw hk
        go_simp
        try first | with_reducible rfl | kernel_rfl
      simp only [Act.put, List.getElem_toArray, List.getElem_cons_succ, List.getElem_cons_zero, List.setIfInBounds_toArray, List.set_cons_succ, List.set_cons_zero]
      refine Wl.take0 (i := 1) (v := .pointer (some ⟨p, 0, none⟩)) rfl (by kernel_rfl) (by kernel_rfl) (by kernel_rfl) (by kernel_rfl) (fun _ _ _ h => h) (.inl ⟨by kernel_rfl, ?_⟩) hk ?_
      · intro wx hSw
        clear hSw hk
        go_simp
        try first | with_reducible rfl | kernel_rfl
      simp only [Act.put, List.getElem_toArray, List.getElem_cons_succ, List.getElem_cons_zero, List.setIfInBounds_toArray, List.set_cons_succ, List.set_cons_zero]
      refine Wl.take0 (i := 2) (v := .pointer (some ⟨p, 0, none⟩)) rfl (by kernel_rfl) (by kernel_rfl) (by kernel_rfl) (by kernel_rfl) (fun _ _ _ h => h) (.inl ⟨by kernel_rfl, ?_⟩) hk ?_
      · intro wx hSw
        clear hSw hk
        go_simp
        try first | with_reducible rfl | kernel_rfl
      simp only [Act.put, List.getElem_toArray, List.getElem_cons_succ, List.getElem_cons_zero, List.setIfInBounds_toArray, List.set_cons_succ, List.set_cons_zero]
      refine Wl.take0 (i := 3) (v := .pointer (some ⟨p, 2, none⟩)) rfl (by kernel_rfl) (by kernel_rfl) (by kernel_rfl) (by kernel_rfl) (fun _ _ _ h => h) (.inl ⟨by kernel_rfl, ?_⟩) hk ?_
      · intro wx hSw
        clear hSw hk
        go_simp
        try first | with_reducible rfl | kernel_rfl
      simp only [Act.put, List.getElem_toArray, List.getElem_cons_succ, List.getElem_cons_zero, List.setIfInBounds_toArray, List.set_cons_succ, List.set_cons_zero]
      refine Wl.take0 (i := 4) (v := .map b) rfl (by kernel_rfl) (by kernel_rfl) (by kernel_rfl) (by kernel_rfl) (fun _ _ _ h => h) (.inl ⟨by kernel_rfl, ?_⟩) hk ?_
      · intro wx hSw
        have cc := (krow hSw.1.row).2.2.1
        clear hSw hk
        go_simp
        try first | with_reducible rfl | kernel_rfl
      simp only [Act.put, List.getElem_toArray, List.getElem_cons_succ, List.getElem_cons_zero, List.setIfInBounds_toArray, List.set_cons_succ, List.set_cons_zero]
      refine Wl.take0 (i := 5) (v := .agg (kA z)) rfl (by kernel_rfl) (by kernel_rfl) (by kernel_rfl) (by kernel_rfl) (fun _ _ _ h => h) (yieldsIf_load_mid (by rfl) _ _ rfl _ _ rfl (krC z) _ (fun w h => (fun j v hv => Wl.rng_of_row h.2 j v hv)) Try.underlying106 rfl (by kernel_rfl)) hk ?_
      simp only [Act.put, List.getElem_toArray, List.getElem_cons_succ, List.getElem_cons_zero, List.setIfInBounds_toArray, List.set_cons_succ, List.set_cons_zero]
      refine Wl.take0 (i := 6) (v := .int .i64 s0) rfl (by kernel_rfl) (by kernel_rfl) (by kernel_rfl) (by kernel_rfl) (fun _ _ _ h => h) (.inl ⟨by kernel_rfl, ?_⟩) hk ?_
      · intro wx hSw
        have cc := hSw.1.m.look HZW.out false
        rw [if_neg (by decide), HS0.out] at cc
        clear hSw hk
        go_simp
        try first | with_reducible rfl | kernel_rfl
      simp only [Act.put, List.getElem_toArray, List.getElem_cons_succ, List.getElem_cons_zero, List.setIfInBounds_toArray, List.set_cons_succ, List.set_cons_zero]
      refine Wl.take0 (i := 7) (v := .int .i64 (nt - s0)) rfl (by kernel_rfl) (by kernel_rfl) (by kernel_rfl) (by kernel_rfl) (fun _ _ _ h => h) (.inl ⟨by kernel_rfl, ?_⟩) hk ?_
      · intro wx hSw
        have cc := HWR.out
        clear hSw hk
        go_simp
        try first | with_reducible rfl | kernel_rfl
      simp only [Act.put, List.getElem_toArray, List.getElem_cons_succ, List.getElem_cons_zero, List.setIfInBounds_toArray, List.set_cons_succ, List.set_cons_zero]
      refine Wl.take0 (i := 8) (v := .pointer (some ⟨p, 0, none⟩)) rfl (by kernel_rfl) (by kernel_rfl) (by kernel_rfl) (by kernel_rfl) (fun _ _ _ h => h) (.inl ⟨by kernel_rfl, ?_⟩) hk ?_
      · intro wx hSw
        clear hSw hk
        go_simp
        try first | with_reducible rfl | kernel_rfl
      simp only [Act.put, List.getElem_toArray, List.getElem_cons_succ, List.getElem_cons_zero, List.setIfInBounds_toArray, List.set_cons_succ, List.set_cons_zero]
      refine Wl.take0 (i := 9) (v := .pointer (some ⟨p, 0, none⟩)) rfl (by kernel_rfl) (by kernel_rfl) (by kernel_rfl) (by kernel_rfl) (fun _ _ _ h => h) (.inl ⟨by kernel_rfl, ?_⟩) hk ?_
      · intro wx hSw
        clear hSw hk
        go_simp
        try first | with_reducible rfl | kernel_rfl
      simp only [Act.put, List.getElem_toArray, List.getElem_cons_succ, List.getElem_cons_zero, List.setIfInBounds_toArray, List.set_cons_succ, List.set_cons_zero]
      refine Wl.take0 (i := 10) (v := .pointer (some ⟨p, 0, none⟩)) rfl (by kernel_rfl) (by kernel_rfl) (by kernel_rfl) (by kernel_rfl) (fun _ _ _ h => h) (.inl ⟨by kernel_rfl, ?_⟩) hk ?_
      · intro wx hSw
        clear hSw hk
        go_simp
        try first | with_reducible rfl | kernel_rfl
      simp only [Act.put, List.getElem_toArray, List.getElem_cons_succ, List.getElem_cons_zero, List.setIfInBounds_toArray, List.set_cons_succ, List.set_cons_zero]
      refine Wl.take0 (i := 11) (v := .int .i64 n) rfl (by kernel_rfl) (by kernel_rfl) (by kernel_rfl) (by kernel_rfl) (fun _ _ _ h => h) (.inl ⟨by kernel_rfl, ?_⟩) hk ?_
      · intro wx hSw
        have cc := (krow hSw.1.row).1
        clear hSw hk
        go_simp
        try first | with_reducible rfl | kernel_rfl
      simp only [Act.put, List.getElem_toArray, List.getElem_cons_succ, List.getElem_cons_zero, List.setIfInBounds_toArray, List.set_cons_succ, List.set_cons_zero]
      refine Wl.take0 (i := 12) (v := .bool dd) rfl (by kernel_rfl) (by kernel_rfl) (by kernel_rfl) (by kernel_rfl) (fun _ _ _ h => h) (.inl ⟨by kernel_rfl, ?_⟩) hk ?_
      · intro wx hSw
        have cc := HDD.out
        clear hSw hk
        go_simp
        try first | with_reducible rfl | kernel_rfl
      simp only [Act.put, List.getElem_toArray, List.getElem_cons_succ, List.getElem_cons_zero, List.setIfInBounds_toArray, List.set_cons_succ, List.set_cons_zero]
      refine Wl.done (by kernel_rfl) ?_ _
      clear hk
      obtain ⟨wd, hwd⟩ : ∃ q, W5.drew = q := ⟨_, rfl⟩
      rw [hwd] at HB5 HQ5 HO5 ⊢
      clear hwd HR5
      cases dd
      · rw [HDX.out, if_neg (by decide), List.append_nil] at HTK
        go_wp2_with fail
        go_roundw
        case rel => exact ⟨j + 1, _, rfl, by omega, by go_num, Lib.hid (by rw [HTK.out]; exact HO5.out), HB5⟩
        case measure => simp [intOf]; omega
      · rw [HDX.out, if_pos rfl] at HTK
        have d0 : wd.cell? ⟨g3, 0, none⟩ = some (.int .i64 z.token) := (cell_of_row _ _ 0 _ _ _ HQ5.out.2).trans rfl
        have d1 : wd.cell? ⟨g3, 1, none⟩ = some (.int .u64 z.serial) := (cell_of_row _ _ 1 _ _ _ HQ5.out.2).trans rfl
        have d2 : wd.cell? ⟨g3, 2, none⟩ = some (.int .u64 z.stamp) := (cell_of_row _ _ 2 _ _ _ HQ5.out.2).trans rfl
        obtain ⟨W6, hW6⟩ : ∃ q, wd.alloc (.cells (rcA z) TCm) = q := ⟨_, rfl⟩
        have HB6 : Hid (Below w.heap.size w W6) := Lib.hid (by rw [← hW6]; exact HB5.out.alloc HB5.out.size _)
        have HO6 : Hid (OwnR 8 rcC TCm W6 w.heap.size v (dueK n now (L.take j))) := Lib.hid (by rw [← hW6]; exact HO5.out.alloc _)
        have HLIT : Hid (SlR 8 rcC W6 (.slice (some ⟨wd.heap.size, 0, none⟩) 1 1) [z]) := Lib.hid (by rw [← hW6]; exact SlR.one rcC_len wd _ rfl _ z rfl)
        clear HQ5 HO5 HB5
        go_wp2_with (first | rw [hW6] | (at_builtin; refine appR rcC_len rcC_one Try.underlying42 rfl (by decide) info_cm rfl (.tmp 36) (.tmp 44) rfl w.heap.size v (dueK n now (L.take j)) rfl HO6.out (.slice (some ⟨wd.heap.size, 0, none⟩) 1 1) [z] rfl HLIT.out (by have := HJL.out; unfold maxLen; simp only [List.length_singleton]; omega) (by have := HJL.out; simp only [List.length_singleton]; omega) HB6.out.size ?_; intro v7 w7 own7 bel7; have HO7 := Lib.hid own7; have HB7 := Lib.hid (HB6.out.trans bel7); clear own7 bel7))
        go_roundw
        case rel => exact ⟨j + 1, _, rfl, by omega, by go_num, Lib.hid (by rw [HTK.out]; exact HO7.out), HB7⟩
        case measure => simp [intOf]; omega
    · obtain rfl : j = L.length := by omega
      obtain ⟨wz, hwz⟩ : ∃ q, q = wr := ⟨_, rfl⟩
      subst hwz
      have HVZ : Hid (OwnR 8 rcC TCm wz w.heap.size v K) := Lib.hid (by have := HRO.out; rw [List.take_length, HKD.out] at this; exact this)
      have HPZ : Hid (DueP w S p L.length n now L [] (.slice ah L.length ch) b wz) := Lib.hid ((dueP_start H.out).below HRJ.out)
      obtain ⟨av, cv, hv⟩ := own_slice HVZ.out
      subst hv
      have hkl : K.length ≤ 1000 := by have := HKL.out; omega
      clear HRO
      go_wp2_with fail
      go_loopw [49] (fun i wr => ∃ (j : Nat), j ≤ K.length ∧ i = .int .i64 (j : Int) ∧ Hid (DueP w S p (L.length + j) n now L ((L.filter (isDue n now)).take j) (.slice ah L.length ch) b wr) ∧ Hid (OwnR 8 rcC TCm wr w.heap.size (.slice av K.length cv) K)) (fun i _ => K.length - (intOf i).toNat)
      case atStart => exact ⟨0, Nat.zero_le _, rfl, HPZ, HVZ⟩
      case round =>
        obtain ⟨j, hj, rfl, HDR, HVR⟩ := hrel
        clear HPZ HVZ HRJ
        by_cases hlt : j < K.length
        · have hlti : (j : Int) < (K.length : Int) := by omega
          obtain ⟨z, hz⟩ : ∃ z, K[j]? = some z := ⟨_, List.getElem?_eq_getElem hlt⟩
          obtain ⟨x, hx, hxz⟩ : ∃ x, (L.filter (isDue n now))[j]? = some x ∧ keyX x = z := by
            rw [← HKD.out] at hz
            unfold dueK at hz
            rw [List.getElem?_map] at hz
            cases he : (L.filter (isDue n now))[j]? with
            | none => rw [he] at hz; cases hz
            | some x => rw [he] at hz; exact ⟨x, rfl, by simpa using hz⟩
          have hxm := (List.mem_filter.1 (List.mem_of_getElem? hx)).1
          have HZW : Hid (keyX x).wf := Lib.hid (keyR_wf (HOK.out.wf x hxm))
          have HTK : Hid ((L.filter (isDue n now)).take (j + 1) = (L.filter (isDue n now)).take j ++ [x]) := Lib.hid (by rw [List.take_add_one, hx]; rfl)
          have HKX := Lib.hid hxz
          obtain ⟨g, hbg, hdw⟩ : ∃ g, b = some g ∧ DueW w S p g (L.length + j) n now L ((L.filter (isDue n now)).take j) (.slice ah L.length ch) wr := by
            rcases HDR.out with ⟨e, -, -⟩ | h
            · rw [e] at hxm; cases hxm
            · exact h
          subst hbg
          have HDW := Lib.hid hdw
          obtain ⟨bv, ov, rfl, y0, y1, y2, y3, y4, y5, y6, y7⟩ : ∃ b off, av = some ⟨b, off, none⟩ ∧ wr.cell? ⟨b, off + j * 8, none⟩ = some (.int .i64 6) ∧ wr.cell? ⟨b, off + j * 8 + 1, none⟩ = some (.int .i64 0) ∧ wr.cell? ⟨b, off + j * 8 + 2, none⟩ = some (.int .i64 z.token) ∧ wr.cell? ⟨b, off + j * 8 + 3, none⟩ = some (.slice none 0 0) ∧ wr.cell? ⟨b, off + j * 8 + 4, none⟩ = some (.int .u64 0) ∧ wr.cell? ⟨b, off + j * 8 + 5, none⟩ = some (.int .u64 0) ∧ wr.cell? ⟨b, off + j * 8 + 6, none⟩ = some (.int .u64 z.serial) ∧ wr.cell? ⟨b, off + j * 8 + 7, none⟩ = some (.int .u64 z.stamp) := by
            rcases SlR.cases (HVR.out.sl rcC_len) with ⟨a2, c2, e, hnil⟩ | ⟨b, off, c2, e, -, -, -, -, hc⟩
            · rw [hnil] at hlt; simp at hlt
            · simp only [Value.slice.injEq] at e
              have hc := hc j z hz
              have h0 := hc 0 _ rfl; have h1 := hc 1 _ rfl; have h2 := hc 2 _ rfl; have h3 := hc 3 _ rfl; have h4 := hc 4 _ rfl; have h5 := hc 5 _ rfl; have h6 := hc 6 _ rfl; have h7 := hc 7 _ rfl
              simp only [← Nat.add_assoc, Nat.add_zero] at h0 h1 h2 h3 h4 h5 h6 h7
              exact ⟨b, off, e.1, h0, h1, h2, h3, h4, h5, h6, h7⟩
          obtain ⟨g3, hg3⟩ : ∃ q, wr.heap.size = q := ⟨_, rfl⟩
          obtain ⟨W5, hW5⟩ : ∃ q, wr.alloc (.cells (rcA z) TCm) = q := ⟨_, rfl⟩
          have hb5 : Below wr.heap.size wr W5.drew := by rw [← hW5]; exact ((Below.refl _ _).alloc (Nat.le_refl _) _).drew
          have hr5 : W5.drew.heap[g3]? = some (.cells (rcA z) TCm (0, 0)) := by rw [← hW5, ← hg3]; exact heap_alloc_new _ _
          have HD5 := Lib.hid (HDW.out.below hb5)
          have HV5 : Hid (OwnR 8 rcC TCm W5.drew w.heap.size (.slice (some ⟨bv, ov, none⟩) K.length cv) K) := Lib.hid (own_keep HVR.out (fun q _ hq => hb5.block q hq))
          have HQ5 : Hid (W5.drew.cell? ⟨p, 2, none⟩ = some (.map (some g)) ∧ W5.drew.heap[g3]? = some (.cells (rcA z) TCm (0, 0))) := Lib.hid ⟨(krow HD5.out.row).2.2.1, hr5⟩
          obtain ⟨w6, hrun6, hd6, hg6⟩ := HD5.out.put HZW.out (by omega)
          rw [HKX.out, HNT.out] at hrun6
          have HRUN := Lib.hid hrun6
          have HD6 := Lib.hid hd6
          have HV6 : Hid (OwnR 8 rcC TCm w6 w.heap.size (.slice (some ⟨bv, ov, none⟩) K.length cv) K) := Lib.hid (by
            obtain ⟨f, f', -, hm5, -⟩ := HD5.out.f
            exact own_keep HV5.out (fun q hq hl => hg6.block q hl (fun e => map_own hm5 HV5.out q hq (Option.some.inj e))))
          clear hz hx hxz hxm hdw hb5 hr5 hrun6 hd6 hg6
          go_upto_region 14 with (first | rw [hW5])
          clear y0 y1 y2 y3 y4 y5 y6 y7 hW5 hg3
          refine Wl.start 12 (fun u => u.cell? ⟨p, 2, none⟩ = some (.map (some g)) ∧ u.heap[g3]? = some (.cells (rcA z) TCm (0, 0))) (fun _ => True) (by kernel_rfl) HQ5.out trivial (fun hk => ?_)
          refine Wl.take (i := 0) (v := .pointer (some ⟨p, 0, none⟩)) [1, 2, 3, 12] rfl (by kernel_rfl) (by kernel_rfl) (by kernel_rfl) (by kernel_rfl) (by kernel_rfl) (fun _ _ _ h => h) (.inl ⟨by kernel_rfl, ?_⟩) hk ?_
          · intro wx hSw
            clear hSw hk
            go_simp
            try first | with_reducible rfl | kernel_rfl
          simp only [Act.put, List.getElem_toArray, List.getElem_cons_succ, List.getElem_cons_zero, List.setIfInBounds_toArray, List.set_cons_succ, List.set_cons_zero]
          refine Wl.take (i := 1) (v := .pointer (some ⟨p, 0, none⟩)) [2, 3, 12] rfl (by kernel_rfl) (by kernel_rfl) (by kernel_rfl) (by kernel_rfl) (by kernel_rfl) (fun _ _ _ h => h) (.inl ⟨by kernel_rfl, ?_⟩) hk ?_
          · intro wx hSw
            clear hSw hk
            go_simp
            try first | with_reducible rfl | kernel_rfl
          simp only [Act.put, List.getElem_toArray, List.getElem_cons_succ, List.getElem_cons_zero, List.setIfInBounds_toArray, List.set_cons_succ, List.set_cons_zero]
          refine Wl.take (i := 2) (v := .pointer (some ⟨p, 2, none⟩)) [3, 12] rfl (by kernel_rfl) (by kernel_rfl) (by kernel_rfl) (by kernel_rfl) (by kernel_rfl) (fun _ _ _ h => h) (.inl ⟨by kernel_rfl, ?_⟩) hk ?_
          · intro wx hSw
            clear hSw hk
            go_simp
            try first | with_reducible rfl | kernel_rfl
          simp only [Act.put, List.getElem_toArray, List.getElem_cons_succ, List.getElem_cons_zero, List.setIfInBounds_toArray, List.set_cons_succ, List.set_cons_zero]
          refine Wl.take (i := 3) (v := .map (some g)) [12] rfl (by kernel_rfl) (by kernel_rfl) (by kernel_rfl) (by kernel_rfl) (by kernel_rfl) (fun _ _ _ h => h) (.inl ⟨by kernel_rfl, ?_⟩) hk ?_
          · intro wx hSw
            have cc := hSw.1.1
            clear hSw hk
            go_simp
            try first | with_reducible rfl | kernel_rfl
          simp only [Act.put, List.getElem_toArray, List.getElem_cons_succ, List.getElem_cons_zero, List.setIfInBounds_toArray, List.set_cons_succ, List.set_cons_zero]
          refine Wl.take (i := 4) (v := .pointer (some ⟨g3, 2, none⟩)) [5, 10, 12] rfl (by kernel_rfl) (by kernel_rfl) (by kernel_rfl) (by kernel_rfl) (by kernel_rfl) (fun _ _ _ h => h) (.inl ⟨by kernel_rfl, ?_⟩) hk ?_
          · intro wx hSw
            clear hSw hk
            go_simp
            try first | with_reducible rfl | kernel_rfl
          simp only [Act.put, List.getElem_toArray, List.getElem_cons_succ, List.getElem_cons_zero, List.setIfInBounds_toArray, List.set_cons_succ, List.set_cons_zero]
          refine Wl.take (i := 5) (v := .int .i64 z.token) [10, 12] rfl (by kernel_rfl) (by kernel_rfl) (by kernel_rfl) (by kernel_rfl) (by kernel_rfl) (fun _ _ _ h => h) (.inl ⟨by kernel_rfl, ?_⟩) hk ?_
          · intro wx hSw
            have cc : wx.cell? ⟨g3, 2, none⟩ = some (.int .i64 z.token) := (cell_of_row _ _ 2 _ _ _ hSw.1.2).trans rfl
            clear hSw hk
            go_simp
            try first | with_reducible rfl | kernel_rfl
          simp only [Act.put, List.getElem_toArray, List.getElem_cons_succ, List.getElem_cons_zero, List.setIfInBounds_toArray, List.set_cons_succ, List.set_cons_zero]
          refine Wl.take (i := 6) (v := .pointer (some ⟨g3, 6, none⟩)) [7, 10, 12] rfl (by kernel_rfl) (by kernel_rfl) (by kernel_rfl) (by kernel_rfl) (by kernel_rfl) (fun _ _ _ h => h) (.inl ⟨by kernel_rfl, ?_⟩) hk ?_
          · intro wx hSw
            clear hSw hk
            go_simp
            try first | with_reducible rfl | kernel_rfl
          simp only [Act.put, List.getElem_toArray, List.getElem_cons_succ, List.getElem_cons_zero, List.setIfInBounds_toArray, List.set_cons_succ, List.set_cons_zero]
          refine Wl.take (i := 7) (v := .int .u64 z.serial) [10, 12] rfl (by kernel_rfl) (by kernel_rfl) (by kernel_rfl) (by kernel_rfl) (by kernel_rfl) (fun _ _ _ h => h) (.inl ⟨by kernel_rfl, ?_⟩) hk ?_
          · intro wx hSw
            have cc : wx.cell? ⟨g3, 6, none⟩ = some (.int .u64 z.serial) := (cell_of_row _ _ 6 _ _ _ hSw.1.2).trans rfl
            clear hSw hk
            go_simp
            try first | with_reducible rfl | kernel_rfl
          simp only [Act.put, List.getElem_toArray, List.getElem_cons_succ, List.getElem_cons_zero, List.setIfInBounds_toArray, List.set_cons_succ, List.set_cons_zero]
          refine Wl.take (i := 8) (v := .pointer (some ⟨g3, 7, none⟩)) [9, 10, 12] rfl (by kernel_rfl) (by kernel_rfl) (by kernel_rfl) (by kernel_rfl) (by kernel_rfl) (fun _ _ _ h => h) (.inl ⟨by kernel_rfl, ?_⟩) hk ?_
          · intro wx hSw
            clear hSw hk
            go_simp
            try first | with_reducible rfl | kernel_rfl
          simp only [Act.put, List.getElem_toArray, List.getElem_cons_succ, List.getElem_cons_zero, List.setIfInBounds_toArray, List.set_cons_succ, List.set_cons_zero]
          refine Wl.take (i := 9) (v := .int .u64 z.stamp) [10, 12] rfl (by kernel_rfl) (by kernel_rfl) (by kernel_rfl) (by kernel_rfl) (by kernel_rfl) (fun _ _ _ h => h) (.inl ⟨by kernel_rfl, ?_⟩) hk ?_
          · intro wx hSw
            have cc : wx.cell? ⟨g3, 7, none⟩ = some (.int .u64 z.stamp) := (cell_of_row _ _ 7 _ _ _ hSw.1.2).trans rfl
            clear hSw hk
            go_simp
            try first | with_reducible rfl | kernel_rfl
          simp only [Act.put, List.getElem_toArray, List.getElem_cons_succ, List.getElem_cons_zero, List.setIfInBounds_toArray, List.set_cons_succ, List.set_cons_zero]
          refine Wl.take (i := 10) (v := .agg (kA z)) [12] rfl (by kernel_rfl) (by kernel_rfl) (by kernel_rfl) (by kernel_rfl) (by kernel_rfl) (fun _ _ _ h => h) (.inl ⟨by kernel_rfl, ?_⟩) hk ?_
          · intro wx hSw
            clear hSw hk
            go_simp
            try first | with_reducible rfl | kernel_rfl
          simp only [Act.put, List.getElem_toArray, List.getElem_cons_succ, List.getElem_cons_zero, List.setIfInBounds_toArray, List.set_cons_succ, List.set_cons_zero]
          refine Wl.take (i := 11) (v := .int .i64 nt) [12] rfl (by kernel_rfl) (by kernel_rfl) (by kernel_rfl) (by kernel_rfl) (by kernel_rfl) (fun _ _ _ h => h) (.inl ⟨by kernel_rfl, ?_⟩) hk ?_
          · intro wx hSw
            clear hSw hk
            go_simp
            try first | with_reducible rfl | kernel_rfl
          simp only [Act.put, List.getElem_toArray, List.getElem_cons_succ, List.getElem_cons_zero, List.setIfInBounds_toArray, List.set_cons_succ, List.set_cons_zero]
          refine Wl.one (i := 12) (by kernel_rfl) rfl (fun K hK => ?_)
          have hrun := HRUN.out
          go_simp
          clear hrun
          refine hK.out _ _ (Wl.Kn.off (by kernel_rfl) trivial) (fun hk => ?_)
          clear hK K
          refine Wl.done (by kernel_rfl) ?_ _
          clear hk
          clear HQ5 HRUN HD5 HV5 HDW HDR HVR
          go_wp2_with fail
          go_roundw
          case rel => exact ⟨j + 1, by omega, by go_num, Lib.hid (by rw [HTK.out]; exact .inr ⟨g, rfl, HD6.out⟩), HV6⟩
          case measure => simp [intOf]; omega
        · obtain rfl : j = K.length := by omega
          have hkf : K.length = (L.filter (isDue n now)).length := by rw [← HKD.out]; unfold dueK; rw [List.length_map]
          have HF : Hid (DueR p n now L S w (.returned (.slice av K.length cv)) wr) := Lib.hid (by
            have h1 := HDR.out
            rw [hkf, List.take_length] at h1
            obtain ⟨q1, q2⟩ := h1.fin HOK.out
            exact ⟨_, rfl, HKD.out ▸ HVR.out, q1, q2⟩)
          clear HDR HVR hkf HKD
          go_wp2
          go_ret
          exact HF.out
/-! ### Clone, walked -/
set_option maxHeartbeats 4000000 in
theorem clone_any (w : World) (h : KpV w S p n vh b L) (hlen : L.length ≤ 1000) :
    Calls Try.prog 19 #[.pointer (some ⟨p, 0, none⟩)] w fun e w' => ∃ q, e = .returned (.pointer (some ⟨q, 0, none⟩)) ∧ KpX q n L w' (fun k => w.heap.size ≤ k ∧ k < w'.heap.size) ∧ Below w.heap.size w w' := by
  have HLN := Lib.hid hlen
  have H := Lib.hid h
  have HD : Hid (KpV w.drew S p n vh b L) := Lib.hid (h.keep (fun _ _ => rfl) (Nat.le_refl _))
  clear h hlen
  go_enter Try.func19, Try.ntmps19
  go_upto_region 3 with fail
  refine Wl.start 999 (fun _ => True) (fun u => KpV u S p n vh b L) (by kernel_rfl) trivial HD.out (fun hk => ?_)
  refine Wl.take0 (i := 0) (v := .pointer (some ⟨p, 0, none⟩)) rfl (by kernel_rfl) (by kernel_rfl) (by kernel_rfl) (by kernel_rfl) (fun _ _ _ h => h) (.inl ⟨by kernel_rfl, ?_⟩) hk ?_
  · intro wx hSw
    clear hSw hk
    go_simp
    try first | with_reducible rfl | kernel_rfl
  simp only [Act.put, List.getElem_toArray, List.getElem_cons_succ, List.getElem_cons_zero, List.setIfInBounds_toArray, List.set_cons_succ, List.set_cons_zero]
  refine Wl.take0 (i := 1) (v := .pointer (some ⟨p, 0, none⟩)) rfl (by kernel_rfl) (by kernel_rfl) (by kernel_rfl) (by kernel_rfl) (fun _ _ _ h => h) (.inl ⟨by kernel_rfl, ?_⟩) hk ?_
  · intro wx hSw
    clear hSw hk
    go_simp
    try first | with_reducible rfl | kernel_rfl
  simp only [Act.put, List.getElem_toArray, List.getElem_cons_succ, List.getElem_cons_zero, List.setIfInBounds_toArray, List.set_cons_succ, List.set_cons_zero]
  refine Wl.take0 (i := 2) (v := .pointer (some ⟨p, 0, none⟩)) rfl (by kernel_rfl) (by kernel_rfl) (by kernel_rfl) (by kernel_rfl) (fun _ _ _ h => h) (.inl ⟨by kernel_rfl, ?_⟩) hk ?_
  · intro wx hSw
    clear hSw hk
    go_simp
    try first | with_reducible rfl | kernel_rfl
  simp only [Act.put, List.getElem_toArray, List.getElem_cons_succ, List.getElem_cons_zero, List.setIfInBounds_toArray, List.set_cons_succ, List.set_cons_zero]
  refine Wl.take0 (i := 3) (v := .int .i64 n) rfl (by kernel_rfl) (by kernel_rfl) (by kernel_rfl) (by kernel_rfl) (fun _ _ _ h => h) (.inl ⟨by kernel_rfl, ?_⟩) hk ?_
  · intro wx hSw
    have cc := (krow hSw.row).1
    clear hSw hk
    go_simp
    try first | with_reducible rfl | kernel_rfl
  simp only [Act.put, List.getElem_toArray, List.getElem_cons_succ, List.getElem_cons_zero, List.setIfInBounds_toArray, List.set_cons_succ, List.set_cons_zero]
  refine Wl.take0 (i := 4) (v := .pointer (some ⟨p, 0, none⟩)) rfl (by kernel_rfl) (by kernel_rfl) (by kernel_rfl) (by kernel_rfl) (fun _ _ _ h => h) (.inl ⟨by kernel_rfl, ?_⟩) hk ?_
  · intro wx hSw
    clear hSw hk
    go_simp
    try first | with_reducible rfl | kernel_rfl
  simp only [Act.put, List.getElem_toArray, List.getElem_cons_succ, List.getElem_cons_zero, List.setIfInBounds_toArray, List.set_cons_succ, List.set_cons_zero]
  refine Wl.take0 (i := 5) (v := .pointer (some ⟨p, 0, none⟩)) rfl (by kernel_rfl) (by kernel_rfl) (by kernel_rfl) (by kernel_rfl) (fun _ _ _ h => h) (.inl ⟨by kernel_rfl, ?_⟩) hk ?_
  · intro wx hSw
    clear hSw hk
    go_simp
    try first | with_reducible rfl | kernel_rfl
  simp only [Act.put, List.getElem_toArray, List.getElem_cons_succ, List.getElem_cons_zero, List.setIfInBounds_toArray, List.set_cons_succ, List.set_cons_zero]
  refine Wl.take0 (i := 6) (v := .pointer (some ⟨p, 1, none⟩)) rfl (by kernel_rfl) (by kernel_rfl) (by kernel_rfl) (by kernel_rfl) (fun _ _ _ h => h) (.inl ⟨by kernel_rfl, ?_⟩) hk ?_
  · intro wx hSw
    clear hSw hk
    go_simp
    try first | with_reducible rfl | kernel_rfl
  simp only [Act.put, List.getElem_toArray, List.getElem_cons_succ, List.getElem_cons_zero, List.setIfInBounds_toArray, List.set_cons_succ, List.set_cons_zero]
  refine Wl.take0 (i := 7) (v := vh) rfl (by kernel_rfl) (by kernel_rfl) (by kernel_rfl) (by kernel_rfl) (fun _ _ _ h => h) (.inl ⟨by kernel_rfl, ?_⟩) hk ?_
  · intro wx hSw
    have cc := (krow hSw.row).2.1
    clear hSw hk
    go_simp
    try first | with_reducible rfl | kernel_rfl
  simp only [Act.put, List.getElem_toArray, List.getElem_cons_succ, List.getElem_cons_zero, List.setIfInBounds_toArray, List.set_cons_succ, List.set_cons_zero]
  refine Wl.take0 (i := 9) (v := .pointer (some ⟨p, 0, none⟩)) rfl (by kernel_rfl) (by kernel_rfl) (by kernel_rfl) (by kernel_rfl) (fun _ _ _ h => h) (.inl ⟨by kernel_rfl, ?_⟩) hk ?_
  · intro wx hSw
    clear hSw hk
    go_simp
    try first | with_reducible rfl | kernel_rfl
  simp only [Act.put, List.getElem_toArray, List.getElem_cons_succ, List.getElem_cons_zero, List.setIfInBounds_toArray, List.set_cons_succ, List.set_cons_zero]
  refine Wl.take0 (i := 10) (v := .pointer (some ⟨p, 0, none⟩)) rfl (by kernel_rfl) (by kernel_rfl) (by kernel_rfl) (by kernel_rfl) (fun _ _ _ h => h) (.inl ⟨by kernel_rfl, ?_⟩) hk ?_
  · intro wx hSw
    clear hSw hk
    go_simp
    try first | with_reducible rfl | kernel_rfl
  simp only [Act.put, List.getElem_toArray, List.getElem_cons_succ, List.getElem_cons_zero, List.setIfInBounds_toArray, List.set_cons_succ, List.set_cons_zero]
  refine Wl.take0 (i := 11) (v := .pointer (some ⟨p, 2, none⟩)) rfl (by kernel_rfl) (by kernel_rfl) (by kernel_rfl) (by kernel_rfl) (fun _ _ _ h => h) (.inl ⟨by kernel_rfl, ?_⟩) hk ?_
  · intro wx hSw
    clear hSw hk
    go_simp
    try first | with_reducible rfl | kernel_rfl
  simp only [Act.put, List.getElem_toArray, List.getElem_cons_succ, List.getElem_cons_zero, List.setIfInBounds_toArray, List.set_cons_succ, List.set_cons_zero]
  refine Wl.take0 (i := 12) (v := .map b) rfl (by kernel_rfl) (by kernel_rfl) (by kernel_rfl) (by kernel_rfl) (fun _ _ _ h => h) (.inl ⟨by kernel_rfl, ?_⟩) hk ?_
  · intro wx hSw
    have cc := (krow hSw.row).2.2.1
    clear hSw hk
    go_simp
    try first | with_reducible rfl | kernel_rfl
  simp only [Act.put, List.getElem_toArray, List.getElem_cons_succ, List.getElem_cons_zero, List.setIfInBounds_toArray, List.set_cons_succ, List.set_cons_zero]
  refine Wl.one (i := 8) (by kernel_rfl) rfl (fun K hK => ?_)
  go_simp
  refine (Ik.clone_any (L.map keyX) vh _ (HD.out.h.sl krC_len) (by rw [List.length_map]; have := HLN.out; omega)).mono ?_
  rintro e w5 ⟨v5, rfl, own5, hb5⟩
  obtain ⟨a5, c5, hv5⟩ := own_slice own5
  rw [List.length_map] at hv5
  subst hv5
  have H5 := Lib.hid (HD.out.keep (w' := w5) (fun k hk => hb5.block k (HD.out.low k hk)) hb5.size)
  have HO5 := Lib.hid own5
  have HB5 := Lib.hid hb5
  clear own5 hb5
  refine hK.out _ _ (Wl.Kn.on trivial H5.out) (fun hk => ?_)
  clear hK K
  refine Wl.one (i := 13) (by kernel_rfl) rfl (fun K hK => ?_)
  go_simp
  refine (mclone_any b w5 H5.out.m).mono ?_
  rintro e w6 ⟨b6, rfl, hm6, hb6⟩
  have H6 := Lib.hid (H5.out.keep (w' := w6) (fun k hk => hb6.block k (H5.out.low k hk)) hb6.size)
  have HM6 := Lib.hid hm6
  have HB6 := Lib.hid hb6
  obtain ⟨g7, hg7⟩ : ∃ q, w6.heap.size = q := ⟨_, rfl⟩
  obtain ⟨W8, hW8⟩ : ∃ q, w6.alloc (.cells #[.int .i64 n, .slice a5 L.length c5, .map b6] TK) = q := ⟨_, rfl⟩
  have hb8 : Below w6.heap.size w6 W8 := by rw [← hW8]; exact (Below.refl _ _).alloc (Nat.le_refl _) _
  have hr8 : W8.heap[g7]? = some (.cells #[.int .i64 n, .slice a5 L.length c5, .map b6] TK (0, 0)) := by rw [← hW8, ← hg7]; exact heap_alloc_new _ _
  have H8 := Lib.hid (H6.out.keep (w' := W8) (fun k hk => hb8.block k (H6.out.low k hk)) hb8.size)
  have HFIN : Hid (KpX g7 n L W8 (fun k => w.heap.size ≤ k ∧ k < W8.heap.size) ∧ Below w.heap.size w W8) := Lib.hid (by
    have s5 : w.heap.size ≤ w5.heap.size := HB5.out.size
    have s6 := HB6.out.size
    have s8 := hb8.size
    have l8 := row_lt hr8
    refine ⟨⟨_, b6, ⟨⟨hr8, ⟨by omega, l8⟩, ?_, fun k hk => hk.2⟩, own_up (own_keep HO5.out (fun q _ hq => (hb8.block q (by omega)).trans (HB6.out.block q hq))) (fun q _ => Nat.zero_le _), fun q hq => ?_⟩⟩, ?_⟩
    · rcases hm6 with e | ⟨g, f, e1, e2, e3, e4⟩
      · exact .inl e
      · exact .inr ⟨g, f, e1, ⟨by omega, by omega⟩, e3.below hb8, e4⟩
    · have h1 := World.ownsRow.lt HO5.out q hq
      have h2 : w.heap.size ≤ q := h1.1
      have := h1.2
      exact ⟨h2, by omega⟩
    · have b5 : Below w.heap.size w w5 := ((Below.refl w.heap.size w).drew).trans HB5.out
      exact (b5.trans (HB6.out.mono s5)).trans (hb8.mono (by omega)))
  clear hm6 hb6 hb8 hr8
  refine hK.out _ _ (Wl.Kn.on trivial H6.out) (fun hk => ?_)
  clear hK K
  refine Wl.take0 (i := 14) (v := .agg #[.int .i64 n, .slice a5 L.length c5, .map b6]) rfl (by kernel_rfl) (by kernel_rfl) (by kernel_rfl) (by kernel_rfl) (fun _ _ _ h => h) (.inl ⟨by kernel_rfl, ?_⟩) hk ?_
  · intro wx hSw
    clear hSw hk
    go_simp
    try first | with_reducible rfl | kernel_rfl
  simp only [Act.put, List.getElem_toArray, List.getElem_cons_succ, List.getElem_cons_zero, List.setIfInBounds_toArray, List.set_cons_succ, List.set_cons_zero]
  refine Wl.one (i := 15) (by kernel_rfl) rfl (fun K hK => ?_)
  go_simp
  try rw [hW8]
  refine hK.out _ _ (Wl.Kn.on trivial H8.out) (fun hk => ?_)
  clear hK K
  refine Wl.take0 (i := 16) (v := .pointer (some ⟨g7, 0, none⟩)) rfl (by kernel_rfl) (by kernel_rfl) (by kernel_rfl) (by kernel_rfl) (fun _ _ _ h => h) (.inl ⟨by kernel_rfl, ?_⟩) hk ?_
  · intro wx hSw
    clear hSw hk
    go_simp
    try first | with_reducible rfl | kernel_rfl
  simp only [Act.put, List.getElem_toArray, List.getElem_cons_succ, List.getElem_cons_zero, List.setIfInBounds_toArray, List.set_cons_succ, List.set_cons_zero]
  refine Wl.done (by kernel_rfl) ?_ _
  clear hk
  clear hW8 hg7
  go_wp2
  go_ret
  exact ⟨g7, rfl, HFIN.out.1, HFIN.out.2⟩
end Ls
end Go.Proofs.Ytgbblegcjladaaa
