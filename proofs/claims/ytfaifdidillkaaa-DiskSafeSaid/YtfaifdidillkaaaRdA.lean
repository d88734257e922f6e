/- The document's disk: files in a row; Name, find. No condition. -/
import Derived.Test.YtfaifdidillkaaaDkP
namespace Go.Proofs.Ytfaifdidillkaaa
open Go.ChangeShapes Go.WideShapes Go.ChangeAt Go.RowKit Go.Deep
set_option linter.unusedVariables false
set_option maxRecDepth 100000
set_option linter.unusedSimpArgs false
namespace Rk
open Dk
abbrev TR : TypeId := 55
abbrev TE : TypeId := 60
abbrev rfC (f : Fl) : List Value := [.string f.name, .string (strOfNums f.zs), .int .i64 f.safe]
theorem rfC_len (f : Fl) : (rfC f).length = 3 := rfl
theorem rfC_one (f : Fl) : ∀ u ∈ rfC f, u.oneCell' = true := by intro u hu; simp at hu; rcases hu with rfl | rfl | rfl <;> rfl
theorem info_rf : (Try.prog.info? TE).map (fun i => (i.zero, i.size, i.bytes)) = some (some (.agg #[.string ⟨#[]⟩, .string ⟨#[]⟩, .int .i64 0]), 3, 40) := by kernel_rfl
theorem rfC_cells {w : World} {b o : Nat} {f : Fl} (h : ∀ j u, (rfC f)[j]? = some u → w.cell? ⟨b, o + j, none⟩ = some u) : w.cell? ⟨b, o, none⟩ = some (.string f.name) ∧ w.cell? ⟨b, o + 1, none⟩ = some (.string (strOfNums f.zs)) ∧ w.cell? ⟨b, o + 2, none⟩ = some (.int .i64 f.safe) := ⟨h 0 _ rfl, h 1 _ rfl, h 2 _ rfl⟩
structure RdV (w : World) (S : Nat → Prop) (q : Nat) (vF : Value) (arm : Int) (off : Bool) (F : List Fl) : Prop where
  row : w.heap[q]? = some (.cells #[vF, .int .i64 arm, .bool off] TR (0, 0))
  own : OwnR 3 rfC TE w 0 vF F
  sq : S q
  sf : ∀ k, vF.ownBlock = some k → S k
  low : ∀ k, S k → k < w.heap.size
variable {w w' : World} {S : Nat → Prop} {q : Nat} {vF : Value} {arm : Int} {off : Bool} {F : List Fl} {n : Nat}
theorem RdV.ne (h : RdV w S q vF arm off F) : ∀ k, vF.ownBlock = some k → k ≠ q := own_ty h.own h.row (by decide)
theorem RdV.keep (h : RdV w S q vF arm off F) (hb : ∀ k, S k → w'.heap[k]? = w.heap[k]?) (hz : w.heap.size ≤ w'.heap.size) : RdV w' S q vF arm off F :=
  ⟨(hb q h.sq).trans h.row, own_keep h.own (fun k hk _ => hb k (h.sf k hk)), h.sq, h.sf, fun k hk => Nat.lt_of_lt_of_le (h.low k hk) hz⟩
theorem RdV.below (h : RdV w S q vF arm off F) (hb : Below w.heap.size w w') : RdV w' S q vF arm off F := h.keep (fun k hk => hb.block k (h.low k hk)) hb.size
theorem RdV.only {T : Nat → Prop} (h : RdV w S q vF arm off F) (ho : Only T w w') (hT : ∀ k, S k → ¬ T k) : RdV w' S q vF arm off F := h.keep (fun k hk => ho.2.2.2.2 k (h.low k hk) (hT k hk)) ho.2.2.2.1
theorem RdV.mono {T : Nat → Prop} (h : RdV w S q vF arm off F) (hT : ∀ k, S k → T k) (hl : ∀ k, T k → k < w.heap.size) : RdV w T q vF arm off F := ⟨h.row, h.own, hT q h.sq, fun k hk => hT k (h.sf k hk), hl⟩
theorem RdV.grow (h : RdV w' S q vF arm off F) : RdV w' (Grow S w w') q vF arm off F := h.mono (fun k hk => .inl hk) (fun k hk => by
  rcases hk with hk | hk
  · exact h.low k hk
  · exact hk.2)
theorem RdV.c0 (h : RdV w S q vF arm off F) : w.cell? ⟨q, 0, none⟩ = some vF := (cell_of_row _ _ 0 _ _ _ h.row).trans rfl
theorem RdV.c1 (h : RdV w S q vF arm off F) : w.cell? ⟨q, 1, none⟩ = some (.int .i64 arm) := (cell_of_row _ _ 1 _ _ _ h.row).trans rfl
theorem RdV.c2 (h : RdV w S q vF arm off F) : w.cell? ⟨q, 2, none⟩ = some (.bool off) := (cell_of_row _ _ 2 _ _ _ h.row).trans rfl
theorem RdV.z (h : RdV w S q vF arm off F) (i : Nat) : w.frozen? ⟨q, i, none⟩ = false := frozen_of_row _ _ _ _ _ h.row
/-- a call's leavings -/
def RLeft (S : Nat → Prop) (q : Nat) (w w' : World) (arm : Int) (off : Bool) (F : List Fl) : Prop := (∃ vF, RdV w' (Grow S w w') q vF arm off F) ∧ Only S w w'
theorem RLeft.trans {w2 w3 : World} {arm2 arm3 : Int} {off2 off3 : Bool} {F2 F3 : List Fl} (h : RLeft S q w w2 arm2 off2 F2) (g : RLeft (Grow S w w2) q w2 w3 arm3 off3 F3) : RLeft S q w w3 arm3 off3 F3 := by
  obtain ⟨-, ho⟩ := h
  obtain ⟨⟨V, hv⟩, ho2⟩ := g
  have e1 := ho.2.2.2.1
  have e2 := ho2.2.2.2.1
  refine ⟨⟨V, hv.mono (fun k hk => ?_) (fun k hk => ?_)⟩, ho.after ho2 (fun i hi hk => ?_)⟩
  · rcases hk with (hk | hk) | hk
    · exact .inl hk
    · exact .inr ⟨hk.1, by omega⟩
    · exact .inr ⟨by omega, hk.2⟩
  · rcases hk with hk | hk
    · exact hv.low k (.inl (.inl hk))
    · exact hk.2
  · rcases hk with hk | hk
    · exact hk
    · omega
theorem RdV.leftB {w2 : World} (h : RdV w S q vF arm off F) (hb : Below w.heap.size w w2) : RLeft S q w w2 arm off F := ⟨⟨vF, (h.below hb).grow⟩, Below.only hb S⟩
/-- a cell of the box turned -/
theorem RdV.turn1 (h : RdV w S q vF arm off F) (a2 : Int) : RLeft S q w (w.setCell ⟨q, 1, none⟩ (.int .i64 a2)) a2 off F :=
  ⟨⟨vF, RdV.grow ⟨(heap_setCell_same w q 1 _ _ _ h.row).trans rfl, own_keep h.own (fun k hk _ => heap_setCell_other w ⟨q, 1, none⟩ k _ (h.ne k hk)), h.sq, h.sf, fun k hk => by simpa [World.setCell] using h.low k hk⟩⟩, Only.setCell w ⟨q, 1, none⟩ _ h.sq⟩
theorem RdV.turn2 (h : RdV w S q vF arm off F) (o2 : Bool) : RLeft S q w (w.setCell ⟨q, 2, none⟩ (.bool o2)) arm o2 F :=
  ⟨⟨vF, RdV.grow ⟨(heap_setCell_same w q 2 _ _ _ h.row).trans rfl, own_keep h.own (fun k hk _ => heap_setCell_other w ⟨q, 2, none⟩ k _ (h.ne k hk)), h.sq, h.sf, fun k hk => by simpa [World.setCell] using h.low k hk⟩⟩, Only.setCell w ⟨q, 2, none⟩ _ h.sq⟩
/-- another row of files in the box -/
theorem RdV.put {v' : Value} {F' : List Fl} {w2 : World} (h : RdV w S q vF arm off F) (ho : Only S w w2) (hr : w2.heap[q]? = w.heap[q]?) (hv : OwnR 3 rfC TE w2 w.heap.size v' F') : RLeft S q w (w2.setCell ⟨q, 0, none⟩ v') arm off F' := by
  have hq := hr.trans h.row
  have hne : ∀ k, v'.ownBlock = some k → k ≠ q := own_ty hv hq (by decide)
  refine ⟨⟨v', ⟨(heap_setCell_same w2 q 0 _ _ _ hq).trans rfl, own_up (own_keep hv (fun k hk _ => heap_setCell_other w2 ⟨q, 0, none⟩ k _ (hne k hk))) (fun _ _ => Nat.zero_le _), .inl h.sq, fun k hk => .inr ⟨(World.ownsRow.lt hv k hk).1, by simpa [World.setCell] using (World.ownsRow.lt hv k hk).2⟩, fun k hk => ?_⟩⟩, ho.trans (Only.setCell w2 ⟨q, 0, none⟩ _ h.sq)⟩
  rcases hk with hk | hk
  · have := h.low k hk
    have := ho.2.2.2.1
    simpa [World.setCell] using (by omega : k < w2.heap.size)
  · exact hk.2
theorem rnew_any (w : World) : Calls Try.prog 8 #[] w fun e w' => ∃ q, e = .returned (.pointer (some ⟨q, 0, none⟩)) ∧ RdV w' (fun k => w.heap.size ≤ k ∧ k < w'.heap.size) q (.slice none 0 0) (-1) false [] ∧ Below w.heap.size w w' := by
  obtain ⟨g, hg⟩ : ∃ q, w.heap.size = q := ⟨_, rfl⟩
  obtain ⟨W1, hW1⟩ : ∃ q, w.alloc (.cells #[.slice none 0 0, .int .i64 (-1), .bool false] TR) = q := ⟨_, rfl⟩
  have hb : Below w.heap.size w W1 := by rw [← hW1]; exact (Below.refl _ _).alloc (Nat.le_refl _) _
  have hg1 : W1.heap[g]? = some (.cells #[.slice none 0 0, .int .i64 (-1), .bool false] TR (0, 0)) := by rw [← hW1, ← hg]; exact heap_alloc_new _ _
  have H : Hid (RdV W1 (fun k => w.heap.size ≤ k ∧ k < W1.heap.size) g (.slice none 0 0) (-1) false []) := Lib.hid ⟨hg1, OwnR.nil _ _ _, ⟨by omega, row_lt hg1⟩, (fun k hk => by cases hk), fun k hk => hk.2⟩
  have HB := Lib.hid hb
  clear hb hg1
  go_enter Try.func8, Try.ntmps8
  go_wp2
  go_ret
  exact ⟨g, rfl, H.out, HB.out⟩
theorem take_none {x : ByteArray} {k : Nat} {f : Fl} (hf : F[k]? = some f) (hn : ∀ g ∈ F.take k, g.name ≠ x) (hne : f.name ≠ x) : ∀ g ∈ F.take (k + 1), g.name ≠ x := by
  rw [List.take_add_one, hf]
  intro g hg
  rcases List.mem_append.1 hg with hg | hg
  · exact hn g hg
  · simp at hg; subst hg; exact hne
theorem str_ne {s t : ByteArray} (h : s ≠ t) : (s.toList == t.toList) = false := by
  refine beq_eq_false_iff_ne.2 (fun e => h ?_)
  rw [ByteArray.toList_eq, ByteArray.toList_eq] at e
  exact nm_eq e
/-- where a file is -/
def FindP (F : List Fl) (x : ByteArray) (z : Int) : Prop := (z = -1 ∧ fndL F x = none) ∨ ∃ (k : Nat) (f : Fl), z = k ∧ F[k]? = some f ∧ f.name = x ∧ fndL F x = some f
set_option maxHeartbeats 4000000 in
theorem rfind_any (x : ByteArray) (w : World) (h : RdV w S q vF arm off F) (hs : OkF n F) : Calls Try.prog 38 #[.pointer (some ⟨q, 0, none⟩), .string x] w fun e w' => ∃ z, e = .returned (.int .i64 z) ∧ FindP F x z ∧ Below w.heap.size w w' := by
  obtain ⟨a, cap, hvF⟩ := own_slice h.own
  subst hvF
  have c0 := h.c0
  have HO := Lib.hid h.own
  have HS := Lib.hid hs
  have hcnt := hs.cnt
  clear h hs
  go_enter Try.func38, Try.ntmps38
  go_wp2
  go_loopw [12] (fun i wr => ∃ k : Nat, k ≤ F.length ∧ i = .int .i64 (k : Int) ∧ Hid (∀ g ∈ F.take k, g.name ≠ x) ∧ Hid (Below w.heap.size w wr)) (fun i _ => F.length - (intOf i).toNat)
  case atStart => exact ⟨0, Nat.zero_le _, rfl, Lib.hid (by simp), Lib.hid (Below.refl _ _)⟩
  case round =>
    obtain ⟨k, hk, rfl, HU, HB⟩ := hrel
    by_cases hlt : k < F.length
    · have hlti : (k : Int) < (F.length : Int) := by omega
      have BW := HB.out
      obtain ⟨b, off, cp, e1, -, -, -, hbl, hcs⟩ : ∃ b off cp, Value.slice a F.length cap = .slice (some ⟨b, off, none⟩) F.length cp ∧ 0 < F.length ∧ F.length ≤ cp ∧ cp ≤ 9223372036854775807 ∧ b < w.heap.size ∧ ∀ i x, F[i]? = some x → ∀ j u, (rfC x)[j]? = some u → w.cell? ⟨b, off + (i * 3 + j), none⟩ = some u := by
        rcases SlR.cases (HO.out.sl rfC_len) with ⟨a2, c2, e, hnil⟩ | h
        · rw [hnil] at hlt; simp at hlt
        · exact h
      simp only [Value.slice.injEq] at e1
      obtain ⟨rfl, -, rfl⟩ := e1
      obtain ⟨f, hx⟩ : ∃ x, F[k]? = some x := ⟨_, List.getElem?_eq_getElem hlt⟩
      obtain ⟨x0, x1, x2⟩ := rfC_cells (w := wr) (b := b) (o := off + k * 3) (fun j u hu => by rw [Nat.add_assoc]; exact (BW.cell (p := ⟨b, off + (k * 3 + j), none⟩) hbl).trans (hcs k f hx j u hu))
      have HX := Lib.hid hx
      have HB1 := HB
      clear hcs hx BW
      obtain ⟨W1, hW1⟩ : ∃ q, wr.alloc (.cells #[.string f.name, .string (strOfNums f.zs), .int .i64 f.safe] TE) = q := ⟨_, rfl⟩
      obtain ⟨g, hg⟩ : ∃ q, wr.heap.size = q := ⟨_, rfl⟩
      have hg1 : W1.heap[g]? = some (.cells #[.string f.name, .string (strOfNums f.zs), .int .i64 f.safe] TE (0, 0)) := by rw [← hW1, ← hg]; exact heap_alloc_new _ _
      have y0 : W1.cell? ⟨g, 0, none⟩ = some (.string f.name) := (cell_of_row _ _ 0 _ _ _ hg1).trans rfl
      have HBW : Hid (Below w.heap.size w W1) := Lib.hid (by rw [← hW1]; exact HB.out.alloc HB.out.size _)
      clear hg1
      by_cases he : f.name = x
      · have d1 : (f.name.toList == x.toList) = true := by rw [he]; simp
        have HE : Hid (FindP F x (k : Int)) := Lib.hid (.inr ⟨k, f, rfl, HX.out, he, by rw [← he]; exact HS.out.srt.fnd (List.mem_of_getElem? HX.out)⟩)
        clear he
        go_wp2
        go_ret
        exact ⟨_, rfl, HE.out, HBW.out⟩
      · have d1 : (f.name.toList == x.toList) = false := str_ne he
        have HU2 := Lib.hid (take_none HX.out HU.out he)
        clear he
        go_wp2
        go_roundw
        case rel => exact ⟨k + 1, by omega, by go_num, HU2, HBW⟩
        case measure => simp [intOf]; omega
    · obtain rfl : k = F.length := by omega
      have HE : Hid (FindP F x (-1)) := Lib.hid (.inl ⟨rfl, by
        have := HU.out
        rw [List.take_length] at this
        unfold fndL
        exact List.find?_eq_none.2 (fun g hg => by simpa using this g hg)⟩)
      go_wp2
      go_ret
      exact ⟨_, rfl, HE.out, HB.out⟩
end Rk
end Go.Proofs.Ytfaifdidillkaaa
