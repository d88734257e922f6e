/- The document's reading of a message's body. No condition. The document's Decode of a message answers what the program's does. Condition: the bytes are no more than a machine bears. -/
import Derived.Test.YtlfaiemebfkajaaGreatDoorMrM
import Derived.Test.YtlfaiemebfkajaaGreatDoorMdO
import Derived.Test.YtlfaiemebfkajaaGreatDoorMsW
import Derived.Test.YtlfaiemebfkajaaGreatDoorMxC
import Derived.Test.YtlfaiemebfkajaaGreatDoorMsH
import Derived.Test.YtlfaiemebfkajaaGreatDoorMdQ
import Derived.Test.YtlfaiemebfkajaaGreatDoorFrO
import Derived.Deep.RegionHeld
namespace Go.Proofs.YtlfaiemebfkajaaGreatDoor
open Go.ChangeShapes Go.WideShapes Go.ChangeAt Go.RowKit Go.Deep
set_option linter.unusedVariables false
set_option maxRecDepth 100000
namespace Ms
open Nv Cm Sc Rk
/-- what is known while the document reads a message -/
def RQ (w w0 : World) (g : Nat) (zs : List Int) (s : MSt) (W : World) : Prop :=
  RdR w0 g zs s.2 W ∧ Only (· = g) w W ∧ W.heap[w.heap.size]? = some (.cells zMB 33 (0, 0)) ∧ ∃ (m : Mes) (a1 : Option Addr) (i1 j1 : Nat) (a2 : Option Addr) (i2 j2 : Nat) (a3 : Option Addr) (i3 j3 : Nat) (a4 : Option Addr) (i4 j4 : Nat), W.heap[w.heap.size + 1]? = some (.cells (mArr m (.slice a1 i1 j1) (.slice a2 i2 j2) (.slice a3 i3 j3) (.slice a4 i4 j4)) 33 (0, 0)) ∧ (s.2.2 = 0 → m = s.1 ∧ ∃ rows, MM (w.heap.size + 2) (w.heap.size + 1) m (.slice a1 i1 j1) (.slice a2 i2 j2) (.slice a3 i3 j3) (.slice a4 i4 j4) rows W)
theorem RQ.call {w w0 W W1 : World} {g : Nat} {zs : List Int} {s : MSt} {st : Pst} (h : RQ w w0 g zs s W) (hg : g < w.heap.size) (hrk : RdR w0 g zs st W1) (ho : Only (· = g) W W1) (hb : st.2 = 0 → s.2.2 = 0) : RQ w w0 g zs (s.1, st) W1 := by
  obtain ⟨h1, h2, h3, m, a1, i1, j1, a2, i2, j2, a3, i3, j3, a4, i4, j4, h4, h5⟩ := h
  refine ⟨hrk, h2.trans ho, (ho.2.2.2.2 _ (row_lt h3) (by omega)).trans h3, m, a1, i1, j1, a2, i2, j2, a3, i3, j3, a4, i4, j4, (ho.2.2.2.2 _ (row_lt h4) (by omega)).trans h4, fun q => ?_⟩
  obtain ⟨e, rows, hM⟩ := h5 (hb q)
  exact ⟨e, rows, hM.only ho (by omega) (by omega)⟩
theorem RQ.set {w w0 W : World} {g j : Nat} {zs : List Int} {m0 : Mes} {st : Pst} {x : Value} (h : RQ w w0 g zs (m0, st) W) (hg : g < w.heap.size) (F : Mes → Mes) (hF : ∀ m, (F m).ents = m.ents ∧ (F m).shot = m.shot) (hw : st.2 = 0 → m0.wf → (F m0).wf) (hrow : ∀ m ve vn vh vl, W.heap[w.heap.size + 1]? = some (.cells (mArr m ve vn vh vl) 33 (0, 0)) → (W.setCell ⟨w.heap.size + 1, j, none⟩ x).heap[w.heap.size + 1]? = some (.cells (mArr (F m) ve vn vh vl) 33 (0, 0))) : RQ w w0 g zs (F m0, st) (W.setCell ⟨w.heap.size + 1, j, none⟩ x) := by
  obtain ⟨h1, h2, h3, m, a1, i1, j1, a2, i2, j2, a3, i3, j3, a4, i4, j4, h4, h5⟩ := h
  have ho : Only (· = w.heap.size + 1) W (W.setCell ⟨w.heap.size + 1, j, none⟩ x) := Only.setCell _ _ _ rfl
  refine ⟨h1.only ho (by omega), ?_, (ho.2.2.2.2 _ (row_lt h3) (by omega)).trans h3, F m, a1, i1, j1, a2, i2, j2, a3, i3, j3, a4, i4, j4, hrow _ _ _ _ _ h4, fun q => ?_⟩
  · exact ⟨ho.1.trans h2.1, ho.2.1.trans h2.2.1, ho.2.2.1.trans h2.2.2.1, Nat.le_trans h2.2.2.2.1 ho.2.2.2.1, fun q hq hn => (ho.2.2.2.2 q (Nat.lt_of_lt_of_le hq h2.2.2.2.1) (by omega)).trans (h2.2.2.2.2 q hq hn)⟩
  · obtain ⟨rfl, rows, hM⟩ := h5 q
    exact ⟨rfl, rows, hM.row ho (by omega) (hrow _ _ _ _ _ h4) (hF _).1 (hF _).2 (hw q hM.2.2.2.2.2.2.2.1)⟩
theorem oct_back {st : Pst} (h : (octS st).2.2 = 0) : st.2 = 0 := Classical.byContradiction fun q => by
  rw [octS_err (bne0 q)] at h; exact q h
theorem wide_back {st : Pst} (h : (wideS st).2.2 = 0) : st.2 = 0 := Classical.byContradiction fun q => by
  rw [show wideS st = (0, st) from pnum_stuck (bne0 q)] at h; exact q h
theorem oct_bd {zs : List Int} {u : Nat} {e : Int} {l : List Int} (hw : WfB zs) (h : (e == 0) = true → l = zs.drop u) : 0 ≤ (octS (l, e)).1 ∧ (octS (l, e)).1 ≤ 255 := by
  cases he : (e == 0) with
  | false => rw [octS_err (st := (l, e)) he]; exact (show (0 : Int) ≤ 0 ∧ (0 : Int) ≤ 255 by decide)
  | true =>
    obtain rfl : e = 0 := by simpa using he
    rw [h rfl]
    match hd : zs.drop u with
    | [] => exact ⟨by decide, by decide⟩
    | x :: r => exact bounds_u8 (hw x (List.mem_of_mem_drop (by rw [hd]; exact List.mem_cons_self)))
theorem i64_of {x : Int} (h : 0 ≤ x ∧ x ≤ 255) : (Lit.int .i64 x).wf = true := by
  simp [Lit.wf, IntKind.min, IntKind.max, IntKind.signed, IntKind.bits]; omega
def sr1Q (zs : List Int) : MSt := srcQ (kindQ zs)
theorem emp_str (k : Int) : (fieldT k).toList.isEmpty = !decide (1 ≤ k ∧ k ≤ 6) := by
  by_cases h : 1 ≤ k ∧ k ≤ 6
  · rw [decide_eq_true h]
    rcases (show k = 1 ∨ k = 2 ∨ k = 3 ∨ k = 4 ∨ k = 5 ∨ k = 6 by omega) with rfl | rfl | rfl | rfl | rfl | rfl <;> first | rfl | kernel_rfl | decide
  · rw [decide_eq_false h, fieldT_no h]; first | rfl | kernel_rfl | decide
theorem sbs_any (k : Int) : Cm.sbs (fieldT k) = (fieldsM k).map letB := by
  by_cases h : kindM k
  · exact sbs_fieldT h
  · rw [fieldT_no h]
    have : fieldsM k = [] := by
      unfold kindM at h
      unfold fieldsM; rw [if_neg (by omega), if_neg (by omega), if_neg (by omega), if_neg (by omega), if_neg (by omega), if_neg (by omega)]
    rw [this]; rfl
theorem oct_bdR {w0 W : World} {g : Nat} {zs : List Int} {st : Pst} (hr : RdR w0 g zs st W) (hw : WfB zs) : 0 ≤ (octS st).1 ∧ (octS st).1 ≤ 255 := by
  obtain ⟨l, e⟩ := st
  obtain ⟨v, u, -, -, -, h⟩ := hr
  exact oct_bd hw (fun q => (h q).2)
theorem no11 {P : Prop} : (11 : Int) = 0 → P := fun q => absurd q (by decide)
theorem no11b {P : Prop} : ((11 : Int) == 0) = true → P := fun q => absurd q (by decide)
theorem set_kind {W : World} {g : Nat} {x : Int} : ∀ (m : Mes) (ve vn vh vl : Value), W.heap[g]? = some (.cells (mArr m ve vn vh vl) 33 (0, 0)) → (W.setCell ⟨g, 0, none⟩ (.int .i64 x)).heap[g]? = some (.cells (mArr { m with kind := x } ve vn vh vl) 33 (0, 0)) := fun m ve vn vh vl h => by rw [heap_setCell_same W g 0 _ _ _ h]; rfl
theorem set_src {W : World} {g : Nat} {x : Int} : ∀ (m : Mes) (ve vn vh vl : Value), W.heap[g]? = some (.cells (mArr m ve vn vh vl) 33 (0, 0)) → (W.setCell ⟨g, 1, none⟩ (.int .i64 x)).heap[g]? = some (.cells (mArr { m with src := x } ve vn vh vl) 33 (0, 0)) := fun m ve vn vh vl h => by rw [heap_setCell_same W g 1 _ _ _ h]; rfl
theorem set_dst {W : World} {g : Nat} {x : Int} : ∀ (m : Mes) (ve vn vh vl : Value), W.heap[g]? = some (.cells (mArr m ve vn vh vl) 33 (0, 0)) → (W.setCell ⟨g, 2, none⟩ (.int .i64 x)).heap[g]? = some (.cells (mArr { m with dst := x } ve vn vh vl) 33 (0, 0)) := fun m ve vn vh vl h => by rw [heap_setCell_same W g 2 _ _ _ h]; rfl
theorem sl_blk {W W' : World} {fg n cap : Nat} {xs : List Int} (h : Sl .u8 W (.slice (some ⟨fg, 0, none⟩) n cap) xs) (hb : W'.heap[fg]? = W.heap[fg]?) (hz : W.heap.size ≤ W'.heap.size) : Sl .u8 W' (.slice (some ⟨fg, 0, none⟩) n cap) xs := by
  obtain ⟨a, c, e, h1, h2, h3, h4⟩ := h
  refine ⟨a, c, e, h1, h2, h3, ?_⟩
  rcases h4 with h4 | ⟨b, off, sp, rfl, h4 | ⟨rfl, h5, h6⟩⟩
  · exact .inl h4
  · exact .inr ⟨b, off, sp, rfl, .inl h4⟩
  · simp only [Value.slice.injEq, Option.some.injEq, Addr.mk.injEq] at e
    obtain ⟨⟨rfl, -, -⟩, -, -⟩ := e
    refine .inr ⟨_, off, none, rfl, .inr ⟨rfl, by omega, fun i hi => ?_⟩⟩
    have q := h6 i hi
    unfold World.cell? at q ⊢
    rw [hb]
    exact q
theorem RQ.below {w w0 W W1 : World} {g : Nat} {zs : List Int} {s : MSt} (h : RQ w w0 g zs s W) (hg : g < w.heap.size) (hb : Below W.heap.size W W1) : RQ w w0 g zs s W1 := by
  obtain ⟨h1, h2, h3, m, a1, i1, j1, a2, i2, j2, a3, i3, j3, a4, i4, j4, h4, h5⟩ := h
  refine ⟨h1.block (hb.block _ h1.lt), h2.trans (Below.only hb _), (hb.block _ (row_lt h3)).trans h3, m, a1, i1, j1, a2, i2, j2, a3, i3, j3, a4, i4, j4, (hb.block _ (row_lt h4)).trans h4, fun q => ?_⟩
  obtain ⟨e, rows, hM⟩ := h5 q
  exact ⟨e, rows, hM.below hb⟩
def RX (w w0 : World) (g : Nat) (s : MSt) (W : World) : Prop :=
  Only (· = g) w W ∧ W.heap[w.heap.size]? = some (.cells zMB 33 (0, 0)) ∧ ∃ (m : Mes) (a1 : Option Addr) (i1 j1 : Nat) (a2 : Option Addr) (i2 j2 : Nat) (a3 : Option Addr) (i3 j3 : Nat) (a4 : Option Addr) (i4 j4 : Nat), W.heap[w.heap.size + 1]? = some (.cells (mArr m (.slice a1 i1 j1) (.slice a2 i2 j2) (.slice a3 i3 j3) (.slice a4 i4 j4)) 33 (0, 0)) ∧ (s.2.2 = 0 → m = s.1 ∧ ∃ rows, MM (w.heap.size + 2) (w.heap.size + 1) m (.slice a1 i1 j1) (.slice a2 i2 j2) (.slice a3 i3 j3) (.slice a4 i4 j4) rows W)
/-- the letters of a kind's fields, as bytes -/
def FB (fg cap : Nat) (L : List Int) (W : World) : Prop := Sl .u8 W (.slice (some ⟨fg, 0, none⟩) L.length cap) (L.map letB) ∧ ∃ cs fr, W.heap[fg]? = some (.cells cs 5 fr)
theorem fb_blk {W W' : World} {fg cap : Nat} {L : List Int} (h : FB fg cap L W) (hb : W'.heap[fg]? = W.heap[fg]?) (hz : W.heap.size ≤ W'.heap.size) : FB fg cap L W' := by
  obtain ⟨h1, cs, fr, h2⟩ := h
  exact ⟨sl_blk h1 hb hz, cs, fr, hb.trans h2⟩
theorem fb_step {W W1 : World} {g fg cap : Nat} {L : List Int} (h : FB fg cap L W) (ho : Only (· = g) W W1) (hne : fg ≠ g) (hlt : fg < W.heap.size) : FB fg cap L W1 := fb_blk h (ho.2.2.2.2 _ hlt hne) ho.2.2.2.1
theorem run_bytesT (w : World) (s : ByteArray) (hl : s.size ≤ maxLen) : ∃ cap w', (convert 9 22 (.string s)).run Tryz.prog w = .ok (.slice (some ⟨w.heap.size, 0, none⟩) s.size cap) w' ∧
    Sl .u8 w' (.slice (some ⟨w.heap.size, 0, none⟩) s.size cap) (Cm.sbs s) ∧ Below w.heap.size w w' ∧ w.heap.size < w'.heap.size ∧ ∃ cs fr, w'.heap[w.heap.size]? = some (.cells cs 5 fr) := by
  refine ⟨_, _, run_bytes_of_string w _ _ 5 s Tryz.underlying9 Tryz.underlying22 Tryz.underlying5, ?_, (Below.refl _ _).drew.alloc (Nat.le_refl _) _, ?_, ⟨_, _, heap_alloc_new w.drew _⟩⟩
  · refine ⟨_, _, by rw [sbs_length], by rw [sbs_length]; exact grownCap_ge _ _ _ _, grownCap_le_maxLen _ _ _ _ hl, ?_, .inr ⟨w.heap.size, 0, none, rfl, .inr ⟨rfl, ?_, ?_⟩⟩⟩
    · intro n hn
      unfold sbs at hn
      obtain ⟨b, -, rfl⟩ := List.mem_map.1 hn
      have := b.toNat_lt
      exact Oc.wf_b ⟨by omega, by omega⟩
    · show w.heap.size < (w.heap.push _).size
      simp
    · intro i hi
      rw [sbs_length] at hi
      rw [Nat.zero_add]
      refine (World.cell?_alloc_mark w.drew _ _ _ i).trans ?_
      rw [bytesRow_at s _ i hi, sbs_get s i hi]
      rfl
  · show w.heap.size < (w.heap.push _).size
    simp
/-- what is known at each field -/
def RZ (w w0 : World) (g : Nat) (zs : List Int) (L : List Int) (fg cap k : Nat) (s : MSt) (W : World) : Prop :=
  (∃ v u, RB g v u s.2.2 W) ∧ ((k < L.length ∨ s.2.2 = 0) → RdR w0 g zs s.2 W) ∧ RX w w0 g s W ∧ FB fg cap L W
theorem RZ.of {w w0 W : World} {g fg cap k : Nat} {zs L : List Int} {s : MSt} (h : RQ w w0 g zs s W) (hs : FB fg cap L W) : RZ w w0 g zs L fg cap k s W := by
  obtain ⟨v, u, hrb, -⟩ := id h.1
  exact ⟨⟨v, u, hrb⟩, fun _ => h.1, h.2, hs⟩
theorem fld_vals (k : Int) : ∀ f ∈ fieldsM k, 0 ≤ f ∧ f ≤ 6 := by
  by_cases h : 1 ≤ k ∧ k ≤ 6
  · rcases (show k = 1 ∨ k = 2 ∨ k = 3 ∨ k = 4 ∨ k = 5 ∨ k = 6 by omega) with rfl | rfl | rfl | rfl | rfl | rfl <;> decide
  · have : fieldsM k = [] := by unfold fieldsM; rw [if_neg (by omega), if_neg (by omega), if_neg (by omega), if_neg (by omega), if_neg (by omega), if_neg (by omega)]
    rw [this]; intro f hf; exact absurd hf List.not_mem_nil
theorem set_n0 {W : World} {g : Nat} {x : Int} : ∀ (m : Mes) (ve vn vh vl : Value), W.heap[g]? = some (.cells (mArr m ve vn vh vl) 33 (0, 0)) → (W.setCell ⟨g, 3, none⟩ (.int .u64 x)).heap[g]? = some (.cells (mArr (setN m 0 x) ve vn vh vl) 33 (0, 0)) := fun m ve vn vh vl h => by rw [heap_setCell_same W g 3 _ _ _ h]; rfl
theorem set_n1 {W : World} {g : Nat} {x : Int} : ∀ (m : Mes) (ve vn vh vl : Value), W.heap[g]? = some (.cells (mArr m ve vn vh vl) 33 (0, 0)) → (W.setCell ⟨g, 4, none⟩ (.int .u64 x)).heap[g]? = some (.cells (mArr (setN m 1 x) ve vn vh vl) 33 (0, 0)) := fun m ve vn vh vl h => by rw [heap_setCell_same W g 4 _ _ _ h]; rfl
theorem set_n2 {W : World} {g : Nat} {x : Int} : ∀ (m : Mes) (ve vn vh vl : Value), W.heap[g]? = some (.cells (mArr m ve vn vh vl) 33 (0, 0)) → (W.setCell ⟨g, 5, none⟩ (.int .u64 x)).heap[g]? = some (.cells (mArr (setN m 2 x) ve vn vh vl) 33 (0, 0)) := fun m ve vn vh vl h => by rw [heap_setCell_same W g 5 _ _ _ h]; rfl
theorem set_n3 {W : World} {g : Nat} {x : Int} : ∀ (m : Mes) (ve vn vh vl : Value), W.heap[g]? = some (.cells (mArr m ve vn vh vl) 33 (0, 0)) → (W.setCell ⟨g, 6, none⟩ (.int .u64 x)).heap[g]? = some (.cells (mArr (setN m 3 x) ve vn vh vl) 33 (0, 0)) := fun m ve vn vh vl h => by rw [heap_setCell_same W g 6 _ _ _ h]; rfl
theorem u64_of {st : Pst} : (Lit.int .u64 (wideS st).1).wf = true := by
  obtain ⟨h1, h2⟩ := pnum_bd 18446744073709551615 (by decide) st
  have e : (wideS st).1 = (pnum 18446744073709551615 st).1 := rfl
  simp [Lit.wf, IntKind.min, IntKind.max, IntKind.signed, IntKind.bits]; omega
theorem setN_wf {m : Mes} {f : Nat} {x : Int} (h : m.wf) (hx : (Lit.int .u64 x).wf = true) : (setN m f x).wf := by
  obtain ⟨h1, h2, h3, h4, h5, h6, h7, h8⟩ := h
  unfold setN
  split
  · exact ⟨h1, h2, h3, hx, h5, h6, h7, h8⟩
  · exact ⟨h1, h2, h3, h4, hx, h6, h7, h8⟩
  · exact ⟨h1, h2, h3, h4, h5, hx, h7, h8⟩
  · exact ⟨h1, h2, h3, h4, h5, h6, hx, h8⟩
theorem sl_step {W W1 : World} {g fg cap n : Nat} {xs : List Int} (h : Sl .u8 W (.slice (some ⟨fg, 0, none⟩) n cap) xs) (ho : Only (· = g) W W1) (hne : fg ≠ g) (hlt : fg < W.heap.size) : Sl .u8 W1 (.slice (some ⟨fg, 0, none⟩) n cap) xs := sl_blk h (ho.2.2.2.2 _ hlt hne) ho.2.2.2.1
theorem failS_ne (st : Pst) : (failS 11 st).2 ≠ 0 := by
  unfold failS
  split
  · exact (show (11 : Int) ≠ 0 by decide)
  · rename_i h; intro q; rw [q] at h; exact h rfl
theorem rdr_fail {w0 W W' : World} {g : Nat} {zs : List Int} {st : Pst} {v : Value} {u : Nat} (hs : Sl .u8 w0 v zs) (hu : u ≤ zs.length + 1) (h : RB g v u (failE st.2 11) W') : RdR w0 g zs (failS 11 st) W' := by
  refine ⟨v, u, ?_, hs, hu, fun q => absurd (by simpa using q) (failS_ne st)⟩
  unfold failS failE at *
  split
  · rename_i q; rw [if_pos q] at h; exact h
  · rename_i q; rw [if_neg q] at h; exact h
theorem set_flag {W : World} {g : Nat} {b : Bool} : ∀ (m : Mes) (ve vn vh vl : Value), W.heap[g]? = some (.cells (mArr m ve vn vh vl) 33 (0, 0)) → (W.setCell ⟨g, 7, none⟩ (.bool b)).heap[g]? = some (.cells (mArr { m with flag := b } ve vn vh vl) 33 (0, 0)) := fun m ve vn vh vl h => by rw [heap_setCell_same W g 7 _ _ _ h]; rfl
/-- what the document's read answers -/
def ReadQE (w0 : World) (g : Nat) (zs : List Int) (w : World) (E : Ending) (W : World) : Prop := ∃ (m : Mes) (a1 : Option Addr) (i1 j1 : Nat) (a2 : Option Addr) (i2 j2 : Nat) (a3 : Option Addr) (i3 j3 : Nat) (a4 : Option Addr) (i4 j4 : Nat), E = .returned (.agg (mArr m (.slice a1 i1 j1) (.slice a2 i2 j2) (.slice a3 i3 j3) (.slice a4 i4 j4))) ∧ (∃ v u, RB g v u (readQ zs).2.2 W) ∧ ((readQ zs).2.2 = 0 → RdR w0 g zs (readQ zs).2 W ∧ m = (readQ zs).1 ∧ ∃ rows, MM (w.heap.size + 2) (w.heap.size + 1) m (.slice a1 i1 j1) (.slice a2 i2 j2) (.slice a3 i3 j3) (.slice a4 i4 j4) rows W) ∧ Only (· = g) w W
theorem readQ_of {zs : List Int} {K : Int} (h : (headQ zs).2.2 = 0 → K = (headQ zs).1.kind) : (fldsQ (fieldsM K) (headQ zs)).2.2 = (readQ zs).2.2 ∧ ((readQ zs).2.2 = 0 → fldsQ (fieldsM K) (headQ zs) = readQ zs) := by
  by_cases he : (headQ zs).2.2 = 0
  · rw [h he]; exact ⟨rfl, fun _ => rfl⟩
  · have h1 := fldsQ_err (fieldsM K) rfl he
    have h2 : (readQ zs).2.2 = (headQ zs).2.2 := fldsQ_err (fieldsM (headQ zs).1.kind) rfl he
    exact ⟨h1.trans h2.symm, fun q => absurd (h2.symm.trans q) he⟩
theorem onlyC {g : Nat} : ∀ (L : List Value) (o : Nat) (w : World), Only (· = g) w (w.setCells g o L)
  | [], _, w => Only.refl _ _
  | u :: L, o, w => Only.trans (Only.setCell (S := (· = g)) w ⟨g, o, none⟩ u rfl) (onlyC L (o + 1) _)
theorem oct_v {st : Pst} (h : V3 st.2) : V3 (octS st).2.2 := by
  obtain ⟨l, e⟩ := st
  by_cases he : e = 0
  · subst he
    match l with
    | [] => exact .inr (.inl rfl)
    | x :: r => exact .inl rfl
  · rw [octS_err (st := (l, e)) (bne0 he)]; exact h
theorem fail_v {st : Pst} (h : V3 st.2) : V3 (failS 11 st).2 := by
  unfold failS
  split
  · exact .inr (.inr rfl)
  · exact h
theorem cmd_v {st : Pst} (h : V3 st.2) : V3 (cmdS st).2.2 := by
  unfold cmdS
  split
  · exact rdK_v _
  · exact h
theorem wide_v {st : Pst} (h : V3 st.2) : V3 (wideS st).2.2 := pnum_v (m := 18446744073709551615) h
theorem ents_v (n : Nat) {s : MSt} (h : V3 s.2.2) : V3 (entsQ n s).2.2 := by
  induction n with
  | zero => exact h
  | succ n ih =>
    rw [entsQ]
    split
    · exact cmd_v (wide_v ih)
    · exact ih
theorem fldQ_v (f : Nat) {s : MSt} (h : V3 s.2.2) : V3 (fldQ f s).2.2 := by
  unfold fldQ
  split
  · unfold flagQ
    dsimp only
    split
    · exact fail_v (oct_v h)
    · exact oct_v h
  · split
    · exact ents_v _ (s := (s.1, (pnum 4 s.2).2)) (pnum_v (m := 4) h)
    · split
      · unfold shoQ
        split
        · rename_i q
          have e : s.2 = (s.2.1, 0) := Prod.ext rfl (by simpa using q)
          show V3 (shotR s.2).2.2
          rw [(shotR_eq s.2).1, e]
          exact shotS_v _
        · exact h
      · exact wide_v h
theorem flds_v (l : List Int) {s : MSt} (h : V3 s.2.2) : V3 (fldsQ l s).2.2 := by
  induction l generalizing s with
  | nil => exact h
  | cons f l ih => exact ih (fldQ_v f.toNat h)
theorem head_v (zs : List Int) : V3 (headQ zs).2.2 := by
  refine oct_v (oct_v (?_ : V3 (kindQ zs).2.2))
  unfold kindQ
  dsimp only
  split
  · exact .inr (.inr rfl)
  · exact oct_v (st := (zs, 0)) (.inl rfl)
theorem RQ.shot {w w0 W : World} {g B : Nat} {zs : List Int} {m0 : Mes} {st : Pst} (h : RQ w w0 g zs (m0, st) W) (hg : g < w.heap.size) (s' : Sho) {b1 b2 b3 : Option Addr} {n1 c1 n2 c2 n3 c3 : Nat} (hB : w.heap.size + 2 ≤ B) (o1 : OwnI W B (.slice b1 n1 c1) s'.nodes) (o2 : OwnR 5 heldC 110 W B (.slice b2 n2 c2) s'.led.held) (o3 : OwnR 6 lastC 114 W B (.slice b3 n3 c3) s'.led.last) (hw : st.2 = 0 → ShoW s') : RQ w w0 g zs ({ m0 with shot := s' }, st) (W.setCells (w.heap.size + 1) 9 (sArr s' (.slice b1 n1 c1) (.slice b2 n2 c2) (.slice b3 n3 c3)).toList) := by
  obtain ⟨h1, h2, h3, m, a1, i1, j1, a2, i2, j2, a3, i3, j3, a4, i4, j4, h4, h5⟩ := h
  have ho : Only (· = w.heap.size + 1) W (W.setCells (w.heap.size + 1) 9 (sArr s' (.slice b1 n1 c1) (.slice b2 n2 c2) (.slice b3 n3 c3)).toList) := onlyC _ _ _
  have hrow := mid16s h4 s' (.slice b1 n1 c1) (.slice b2 n2 c2) (.slice b3 n3 c3)
  refine ⟨h1.only ho (by omega), Sc.only_new h2 (Only.refl _ _) ho (by omega), (ho.2.2.2.2 _ (row_lt h3) (by omega)).trans h3, { m with shot := s' }, a1, i1, j1, b1, n1, c1, b2, n2, c2, b3, n3, c3, hrow, fun q => ?_⟩
  obtain ⟨rfl, rows, hM⟩ := h5 q
  have hke : ∀ {e sz n : Nat} {v : Value} {xs : List Value}, W.ownsRow (w.heap.size + 2) e sz v n xs → (W.setCells (w.heap.size + 1) 9 (sArr s' (.slice b1 n1 c1) (.slice b2 n2 c2) (.slice b3 n3 c3)).toList).ownsRow (w.heap.size + 2) e sz v n xs := fun q => owns_cells (by omega) _ _ _ q
  obtain ⟨g1, g2', g3, g4, g5, g6, g7, g8, g9⟩ := hM
  exact ⟨rfl, rows, hrow, hke g2', fun r hr => ⟨hke (g3 r hr).1, (g3 r hr).2⟩, g4, hke (OwnK.lower o1 hB), hke (o2.lower hB), hke (o3.lower hB), ⟨g8.1, g8.2.1, g8.2.2.1, g8.2.2.2.1, g8.2.2.2.2.1, g8.2.2.2.2.2.1, g8.2.2.2.2.2.2.1, (hw q).1⟩, (hw q).2⟩
theorem six_last (K : Int) (k : Nat) (hk : k < (fieldsM K).length) (h : (fieldsM K).getD k 0 = 6) : k + 1 = (fieldsM K).length := by
  by_cases q : 1 ≤ K ∧ K ≤ 6
  · have hall : ∀ K : Int, K = 1 ∨ K = 2 ∨ K = 3 ∨ K = 4 ∨ K = 5 ∨ K = 6 → ∀ k, k < (fieldsM K).length → (fieldsM K).getD k 0 = 6 → k + 1 = (fieldsM K).length := by
      intro K hK
      rcases hK with rfl | rfl | rfl | rfl | rfl | rfl <;> decide
    exact hall K (by omega) k hk h
  · have : fieldsM K = [] := by unfold fieldsM; rw [if_neg (by omega), if_neg (by omega), if_neg (by omega), if_neg (by omega), if_neg (by omega), if_neg (by omega)]
    rw [this] at hk; exact absurd hk (Nat.not_lt_zero _)
theorem RQ.stuck {w w0 W W1 : World} {g : Nat} {zs : List Int} {s : MSt} (h : RQ w w0 g zs s W) (hg : g < w.heap.size) (he : s.2.2 ≠ 0) (ho : Only (· = g) W W1) : W1.there (w.heap.size + 1) 9 7 ∧ RX w w0 g s (W1.setCells (w.heap.size + 1) 9 zSA.toList) := by
  obtain ⟨h1, h2, h3, m, a1, i1, j1, a2, i2, j2, a3, i3, j3, a4, i4, j4, h4, h5⟩ := h
  have r1 := (ho.2.2.2.2 _ (row_lt h4) (by omega)).trans h4
  have r0 := (ho.2.2.2.2 _ (row_lt h3) (by omega)).trans h3
  have o2 : Only (· = w.heap.size + 1) W1 (W1.setCells (w.heap.size + 1) 9 zSA.toList) := onlyC _ _ _
  have hrow := mid16s r1 zS (.slice none 0 0) (.slice none 0 0) (.slice none 0 0)
  exact ⟨there16 r1, Sc.only_new (h2.trans ho) (Only.refl _ _) o2 (by omega), (o2.2.2.2.2 _ (row_lt r0) (by omega)).trans r0, { m with shot := zS }, a1, i1, j1, none, 0, 0, none, 0, 0, none, 0, 0, hrow, fun q => absurd q he⟩
theorem zMBm : zMB = mArr nilM0 (.slice none 0 0) (.slice none 0 0) (.slice none 0 0) (.slice none 0 0) := rfl
theorem nilM0_wf' : nilM0.wf := ⟨by decide, by decide, by decide, by decide, by decide, by decide, by decide, by decide, by decide, by decide, by decide, by simp, by simp⟩
theorem pnum_back {m : Int} {st : Pst} (h : (pnum m st).2.2 = 0) : st.2 = 0 := Classical.byContradiction fun q => by
  rw [pnum_stuck (bne0 q)] at h; exact q h
theorem cmd_back {st : Pst} (h : (cmdS st).2.2 = 0) : st.2 = 0 := Classical.byContradiction fun q => by
  rw [cmdS_err (bne0 q)] at h; exact q h
theorem entsQ_len (n : Nat) (s : MSt) : (entsQ n s).1.ents.length ≤ s.1.ents.length + n := by
  induction n with
  | zero => exact Nat.le_refl _
  | succ n ih =>
    rw [entsQ]
    split
    · show ((entsQ n s).1.ents ++ [_]).length ≤ _
      rw [List.length_append]
      simp only [List.length_cons, List.length_nil]
      omega
    · omega
theorem entsQ_stop {j : Nat} {s : MSt} (h : ((entsQ j s).2.2 == 0) = false) : ∀ k, j ≤ k → entsQ k s = entsQ j s
  | 0, hk => by obtain rfl : j = 0 := by omega
                rfl
  | k + 1, hk => by
    rcases Nat.lt_or_ge k j with g | g
    · obtain rfl : j = k + 1 := by omega
      rfl
    · rw [entsQ, entsQ_stop h k g, if_neg (by rw [h]; decide)]
theorem five_first (K : Int) (k : Nat) (hk : k < (fieldsM K).length) (h : (fieldsM K).getD k 0 = 5) : ∀ f ∈ (fieldsM K).take k, 0 ≤ f ∧ f ≠ 5 := by
  by_cases q : 1 ≤ K ∧ K ≤ 6
  · have hall : ∀ K : Int, K = 1 ∨ K = 2 ∨ K = 3 ∨ K = 4 ∨ K = 5 ∨ K = 6 → ∀ k, k < (fieldsM K).length → (fieldsM K).getD k 0 = 5 → ∀ f ∈ (fieldsM K).take k, 0 ≤ f ∧ f ≠ 5 := by
      intro K hK
      rcases hK with rfl | rfl | rfl | rfl | rfl | rfl <;> decide
    exact hall K (by omega) k hk h
  · have : fieldsM K = [] := by unfold fieldsM; rw [if_neg (by omega), if_neg (by omega), if_neg (by omega), if_neg (by omega), if_neg (by omega), if_neg (by omega)]
    rw [this] at hk; exact absurd hk (Nat.not_lt_zero _)
theorem fld_ents (f : Nat) (hf : f ≠ 5) (s : MSt) : (fldQ f s).1.ents = s.1.ents := by
  unfold fldQ
  split
  · rfl
  · split
    · unfold shoQ
      split <;> rfl
    · exact setN_ents _ _ _
theorem flds_ents : ∀ (l : List Int) (s : MSt), (∀ f ∈ l, 0 ≤ f ∧ f ≠ 5) → (fldsQ l s).1.ents = s.1.ents
  | [], _, _ => rfl
  | f :: l, s, h => by
    rw [fldsQ, flds_ents l _ (fun g hg => h g (List.mem_cons_of_mem _ hg))]
    have := h f List.mem_cons_self
    exact fld_ents _ (by omega) _
theorem there9 {w2 : World} {g : Nat} {t : TypeId} {x0 x1 x2 x3 x4 x5 x6 x7 x8 : Value} (hh : w2.heap[g]? = some (.cells #[x0, x1, x2, x3, x4, x5, x6, x7, x8] t (0, 0))) : w2.there g 1 8 := by
  intro j hj
  refine ⟨?_, frozen_of_row w2 g (1 + j) _ _ hh⟩
  rw [cell_of_row w2 g (1 + j) _ _ _ hh, Array.getElem?_eq_getElem (by simp; omega)]
  rfl
theorem mid9 {w2 : World} {g : Nat} {t : TypeId} {x0 x1 x2 x3 x4 x5 x6 x7 x8 : Value} (hh : w2.heap[g]? = some (.cells #[x0, x1, x2, x3, x4, x5, x6, x7, x8] t (0, 0))) (c : Cmd) (vn : Value) : (w2.setCells g 1 (cArr c vn).toList).heap[g]? = some (.cells #[x0, .int .i64 c.kind, .int .i64 c.node, .int .i64 c.token, vn, .int .u64 c.boot, .int .u64 c.seq, .int .u64 c.serial, .int .u64 c.stamp] t (0, 0)) := by
  show ((((((((w2.setCell ⟨g, 1, none⟩ (.int .i64 c.kind)).setCell ⟨g, 2, none⟩ (.int .i64 c.node)).setCell ⟨g, 3, none⟩ (.int .i64 c.token)).setCell ⟨g, 4, none⟩ vn).setCell ⟨g, 5, none⟩ (.int .u64 c.boot)).setCell ⟨g, 6, none⟩ (.int .u64 c.seq)).setCell ⟨g, 7, none⟩ (.int .u64 c.serial)).setCell ⟨g, 8, none⟩ (.int .u64 c.stamp)).heap[g]? = _
  rw [heap_setCell_same _ g 8 _ _ (.int .u64 c.stamp) (heap_setCell_same _ g 7 _ _ (.int .u64 c.serial) (heap_setCell_same _ g 6 _ _ (.int .u64 c.seq) (heap_setCell_same _ g 5 _ _ (.int .u64 c.boot) (heap_setCell_same _ g 4 _ _ vn (heap_setCell_same _ g 3 _ _ (.int .i64 c.token) (heap_setCell_same _ g 2 _ _ (.int .i64 c.node) (heap_setCell_same w2 g 1 _ _ (.int .i64 c.kind) hh)))))))]
  simp only [List.setIfInBounds_toArray, List.set_cons_zero, List.set_cons_succ]
/-- an append of entries: what grew, and where it lies -/
theorem appEG {w : World} {ops : Array Oper} {rest : List Oper} {o : Oper} {a : Act} {Q : Exit → Act → World → Prop} (hgd : o.guard = none) (s x : Operand)
    (ho : o.op = .call { callee := .builtin .append, args := #[s, x], argTypes := #[24, 24] }) (base : Nat)
    (v : Value) (xs : List ERow) (hs : a.eval s = v) (hown : OwnR 9 entC 88 w base v xs) (u : Value) (zs : List ERow) (hx : a.eval x = u) (hsl : SlR 9 entC w u zs) (hne : 0 < zs.length) (h1c : ∀ r ∈ zs, ∀ q ∈ entC r, q.oneCell' = true)
    (h63 : xs.length + zs.length ≤ maxLen) (hb : (xs.length + zs.length) * 88 ≤ 140737488355328) (hbase : base ≤ w.heap.size) (H : Nat) (hH : w.heap.size = H)
    (h : ∀ g cap w', OwnR 9 entC 88 w' base (.slice (some ⟨g, 0, none⟩) (xs.length + zs.length) cap) (xs ++ zs) → w.grownBy w' v.ownBlock → (v.ownBlock = some g ∨ g = H) → wpList Tryz.prog ops Q rest (a.put o.dst (.slice (some ⟨g, 0, none⟩) (xs.length + zs.length) cap)) w') : wpList Tryz.prog ops Q (o :: rest) a w := by
  obtain ⟨i0, hi, hz0, hz1, hz2⟩ := info_parts info_ent
  rcases hsl.src entC_len with ⟨_, h0, _⟩ | ⟨ad, c, rfl, hc⟩
  · omega
  · refine wpList_append_lies w hgd s x 24 ho base 88 i0 _ 9 88 Tryz.underlying24 hi hz0 hz1 hz2 rfl (by decide) v xs.length _ hs hown ad zs.length c (zs.flatMap entC) hx (flat_len entC_len zs) hc (fun u hu => ?_) hne h63 hb hbase H hH fun g cap w' h2 h3 h4 _ => h g cap w' ?_ h3 h4
    · obtain ⟨y, hy1, hy⟩ := List.mem_flatMap.1 hu
      exact h1c y hy1 u hy
    · unfold OwnR
      rw [List.flatMap_append, List.length_append]
      exact h2
/-- an entry more, its nodes apart from the list's own row -/
theorem ents_more {wc w2 : World} {B g2 : Nat} {ob : Option Nat} {rows : List ERow} (h : EntsO wc B ob rows) (hg : wc.grownBy w2 ob) (hor : ob = some g2 ∨ g2 = wc.heap.size)
    {x : Ent} {vn : Value} (hn : OwnK .i64 3 wc B vn x.cmd.nodes) (hne : ∀ g, vn.ownBlock = some g → some g ≠ ob) (hw : x.wf) (hwf : ∀ n ∈ x.cmd.nodes, (Lit.int .i64 n).wf = true) : EntsO w2 B (some g2) (rows ++ [(x, vn)]) := by
  have apart : ∀ (v : Value) (zs : List Int), OwnK .i64 3 wc B v zs → (∀ g, v.ownBlock = some g → some g ≠ ob) → ∀ g, v.ownBlock = some g → some g ≠ some g2 := fun v zs o hv g hq => by
    rcases hor with e | e
    · rw [← e]; exact hv g hq
    · intro q
      have := Option.some.inj q
      have := (World.ownsRow.lt o g hq).2
      omega
  intro r hr
  rcases List.mem_append.1 hr with hr | hr
  · obtain ⟨h1, h2, h3, h4⟩ := h r hr
    exact ⟨own_far h1 hg h4, h2, h3, apart _ _ h1 h4⟩
  · simp only [List.mem_cons, List.not_mem_nil, or_false] at hr
    subst hr
    exact ⟨own_far hn hg hne, hw, hwf, apart _ _ hn hne⟩
/-- behind the append of an entry -/
theorem RQ.ent {w w0 wc w' : World} {g : Nat} {zs : List Int} {m m2 : Mes} {st : Pst} {x : Ent} {vx : Value} {a1 : Option Addr} {i1 j1 : Nat} {a2 : Option Addr} {i2 j2 : Nat} {a3 : Option Addr} {i3 j3 : Nat} {a4 : Option Addr} {i4 j4 : Nat} {rows : List ERow} {g5 n cap : Nat} {row : List ERow}
    (hg : g < w.heap.size) (hrd : RdR w0 g zs st wc) (hon : Only (· = g) w wc) (h0 : wc.heap[w.heap.size]? = some (.cells zMB 33 (0, 0)))
    (hM : MM (w.heap.size + 2) (w.heap.size + 1) m (.slice a1 i1 j1) (.slice a2 i2 j2) (.slice a3 i3 j3) (.slice a4 i4 j4) rows wc)
    (own' : OwnR 9 entC 88 w' (w.heap.size + 2) (.slice (some ⟨g5, 0, none⟩) n cap) (rows ++ row)) (hgr : wc.grownBy w' (Value.slice a1 i1 j1).ownBlock) (hor : (Value.slice a1 i1 j1).ownBlock = some g5 ∨ g5 = wc.heap.size)
    (hx : st.2 = 0 → m2 = { m with ents := m.ents ++ [x] } ∧ row = [(x, vx)] ∧ OwnK .i64 3 wc (w.heap.size + 2) vx x.cmd.nodes ∧ (∀ q, vx.ownBlock = some q → some q ≠ (Value.slice a1 i1 j1).ownBlock) ∧ EntW x) :
    RQ w w0 g zs (m2, st) (w'.setCell ⟨w.heap.size + 1, 8, none⟩ (.slice (some ⟨g5, 0, none⟩) n cap)) := by
  obtain ⟨h1, h2, h3, h4, h5, h6, h7, h8, h9⟩ := hM
  have hup : ∀ q, (Value.slice a1 i1 j1).ownBlock = some q → w.heap.size + 2 ≤ q := fun q hq => (World.ownsRow.lt h2 q hq).1
  have hrow : w'.heap[w.heap.size + 1]? = some (.cells (mArr m (.slice a1 i1 j1) (.slice a2 i2 j2) (.slice a3 i3 j3) (.slice a4 i4 j4)) 33 (0, 0)) := row_grown h1 h2 (by decide) hgr
  have hrow0 : w'.heap[w.heap.size]? = some (.cells zMB 33 (0, 0)) := row_grown h0 h2 (by decide) hgr
  have ho : Only (· = w.heap.size + 1) w' (w'.setCell ⟨w.heap.size + 1, 8, none⟩ (.slice (some ⟨g5, 0, none⟩) n cap)) := Only.setCell _ _ _ rfl
  refine ⟨(hrd.grown hgr (B := w.heap.size + 2) (by omega) hup).only ho (by omega), Sc.only_new (only_grown hon hgr (fun q hq => by have := hup q hq; omega)) (Only.refl _ _) ho (by omega), (ho.2.2.2.2 _ (row_lt hrow0) (by omega)).trans hrow0, { m with ents := m.ents ++ [x] }, _, n, cap, a2, i2, j2, a3, i3, j3, a4, i4, j4, store8 hrow _, fun q => ?_⟩
  obtain ⟨rfl, rfl, hox, hne, hxw⟩ := hx q
  have oK : ∀ {e sz k : Nat} {v : Value} {xs : List Value}, wc.ownsRow (w.heap.size + 2) e sz v k xs → 88 ≠ e → (w'.setCell ⟨w.heap.size + 1, 8, none⟩ (.slice (some ⟨g5, 0, none⟩) n cap)).ownsRow (w.heap.size + 2) e sz v k xs := fun {e sz k v xs} q hne => owns_cell (own_far q hgr (own_apart q h2 (fun y => hne y.symm))) (by omega)
  have hst := ents_more h3 hgr hor hox hne hxw.1 hxw.2
  exact ⟨rfl, rows ++ [(x, vx)], store8 hrow _, owns_cell own' (by omega), fun r hr => ⟨owns_cell (hst r hr).1 (by omega), (hst r hr).2⟩, by rw [List.map_append, h4]; rfl, oK h5 (by decide), oK h6 (by decide), oK h7 (by decide), h8, h9⟩
set_option maxHeartbeats 16000000 in
theorem rread8 (w0 : World) (g : Nat) (zs : List Int) (w : World) (hr : RdR w0 g zs (zs, 0) w) (hmx : zs.length ≤ 8192) (hwf : WfB zs) (hb : Below w0.heap.size w0 w) (hg : w0.heap.size ≤ g) :
    Calls Tryz.prog 14 #[.pointer (some ⟨g, 0, none⟩)] w (ReadQE w0 g zs w) := by
  have hgl : g < w.heap.size := hr.lt
  have hst : ((w.alloc (.cells zMB 33)).alloc (.cells zMB 33)).heap[w.heap.size + 1]? = some (.cells zMB 33 (0, 0)) := heap_alloc2_new _ _ _
  obtain ⟨W0, hW0⟩ : ∃ q, ((w.alloc (.cells zMB 33)).alloc (.cells zMB 33)).setRow (w.heap.size + 1) zMB = q := ⟨_, rfl⟩
  have hbo : Below w.heap.size w W0 := by rw [← hW0]; exact Ld.below_row (((Below.refl _ _).alloc (Nat.le_refl _) _).alloc (by simp) _) (by omega) _
  have hz0 : W0.heap.size = w.heap.size + 2 := by rw [← hW0]; simp
  have hs1 : W0.heap[w.heap.size + 1]? = some (.cells zMB 33 (0, 0)) := by rw [← hW0]; exact setRow_heap _ _ _ _ _ _ hst
  have hs0 : W0.heap[w.heap.size]? = some (.cells zMB 33 (0, 0)) := by rw [← hW0]; exact (setRow_other _ _ _ _ (by omega)).trans (heap_alloc2_old _ _ _)
  have HI : Hid (RQ w w0 g zs (nilM0, (zs, 0)) W0) := Lib.hid ⟨hr.block (hbo.block g hgl), Below.only hbo _, hs0, nilM0, none, 0, 0, none, 0, 0, none, 0, 0, none, 0, 0, hs1, fun _ => ⟨rfl, [], hs1, OwnR.nil _ _ _, fun r hr => by simp at hr, rfl, OwnK.nil _ _ _ _, OwnR.nil _ _ _, OwnR.nil _ _ _, nilM0_wf', by simp⟩⟩
  have HBW := Lib.hid hb
  have HG := Lib.hid hg
  have HGL := Lib.hid hgl
  have HWF := Lib.hid hwf
  have HMX := Lib.hid hmx
  have HB : Hid (∀ {s : MSt} {W : World}, RQ w w0 g zs s W → Below w0.heap.size w0 W) := Lib.hid (fun h => h.2.1.below hb hb.size (fun q hq => hq ▸ hg))
  clear hr hb hg hgl hbo hz0 hs1 hs0 hmx hwf
  go_enter Tryz.func14, Tryz.ntmps14
  go_wp2_with (first | (with_reducible refine wpList_store_row rfl 33 (.tmp 3) (.tmp 9) rfl (w.heap.size + 1) zMB rfl rfl 33 _ hst (by kernel_rfl) rfl zMB_one ?_; rw [hW0]; clear hW0 hst) | fail)
  have hoc := oct_any w0 g zs (zs, 0) _ HI.out.1 (HB.out HI.out) HG.out
  have hkb := oct_bd (u := 0) (l := zs) (e := 0) HWF.out (fun _ => rfl)
  rcases hk1 : octS (zs, 0) with ⟨k, st1⟩
  rw [hk1] at hoc hkb
  have HK1 := Lib.hid hk1
  have HKB := Lib.hid hkb
  clear hk1 hkb
  refine hoc.mono ?_
  clear hoc
  rintro E u1 ⟨rfl, hrk, hok, -⟩
  have HI1 := Lib.hid (HI.out.call HGL.out hrk hok (fun _ => rfl))
  clear hrk hok HI
  obtain ⟨m, a1, i1, j1, a2, i2, j2, a3, i3, j3, a4, i4, j4, hrow, hm⟩ := HI1.out.2.2.2
  have ck := (cell_of_row _ _ 0 _ _ _ hrow).trans rfl
  have fk : u1.frozen? ⟨w.heap.size + 1, 0, none⟩ = false := frozen_of_row _ _ 0 _ _ hrow
  clear hrow hm
  obtain ⟨W1, hW1⟩ : ∃ q, u1.setCell ⟨w.heap.size + 1, 0, none⟩ (.int .i64 k) = q := ⟨_, rfl⟩
  have HI : Hid (RQ w w0 g zs ({ nilM0 with kind := k }, st1) W1) := Lib.hid (by rw [← hW1]; exact HI1.out.set HGL.out (fun m => { m with kind := k }) (fun _ => ⟨rfl, rfl⟩) (fun _ h => ⟨i64_of HKB.out, h.2⟩) set_kind)
  obtain ⟨l1, e1⟩ := st1
  clear HI1
  go_upto_region 3 with fail
  clear ck fk hW1
  go_cut [3, 23] (fun s3 s23 wx => s3 = .pointer (some ⟨w.heap.size + 1, 0, none⟩) ∧ ∃ b, s23 = .bool b ∧ Hid (RQ w w0 g zs ({ nilM0 with kind := k }, (l1, e1)) wx) ∧ Hid (b = ((e1 == 0) && !decide (1 ≤ k ∧ k ≤ 6))))
  case first =>
    have c2 : W1.cell? ⟨g, 2, none⟩ = some (.int .i64 e1) := by obtain ⟨vr, ur, hrb, -⟩ := HI.out.1; exact hrb.c2
    cases he : (e1 == 0) with
    | false =>
      go_wp2_with fail
      go_meet
      exact ⟨rfl, false, rfl, HI, Lib.hid (by rw [he]; rfl)⟩
    | true =>
      obtain ⟨m, a1, i1, j1, a2, i2, j2, a3, i3, j3, a4, i4, j4, hrow, hm⟩ := HI.out.2.2.2
      obtain ⟨rfl, -⟩ := hm (by simpa using he)
      have ck : W1.cell? ⟨w.heap.size + 1, 0, none⟩ = some (.int .i64 k) := (cell_of_row _ _ 0 _ _ _ hrow).trans rfl
      clear hrow hm
      go_wp2_with fail
      refine (rfields_any _ _).mono ?_
      rintro E u2 ⟨rfl, rfl⟩
      go_wp2_with fail
      go_meet
      exact ⟨rfl, _, rfl, HI, Lib.hid (by rw [he, emp_str]; rfl)⟩
  case rest =>
    clear HI
    obtain ⟨rfl, b, rfl, HI, HBE⟩ := hcut
    go_upto_if 23 with fail
    go_cut [3] (fun s3 wx => s3 = .pointer (some ⟨w.heap.size + 1, 0, none⟩) ∧ Hid (RQ w w0 g zs (kindQ zs) wx))
    case first =>
      cases b with
      | false =>
        have HKQ : Hid (kindQ zs = ({ nilM0 with kind := k }, (l1, e1))) := Lib.hid (by
          unfold kindQ
          rw [HK1.out]
          dsimp only
          rw [if_neg]
          rintro ⟨q1, q2⟩
          have := HBE.out
          rw [q1, decide_eq_false q2] at this
          cases this)
        go_wp2_with fail
        go_meet
        exact ⟨rfl, by rw [HKQ.out]; exact HI⟩
      | true =>
        have hbe := HBE.out
        have he : (e1 == 0) = true := by cases hq : (e1 == 0) with
          | true => rfl
          | false => rw [hq, Bool.false_and] at hbe; cases hbe
        have hkk : ¬ (1 ≤ k ∧ k ≤ 6) := fun q => by rw [decide_eq_true q, he] at hbe; cases hbe
        obtain rfl : e1 = 0 := by simpa using he
        have HKQ : Hid (kindQ zs = ({ nilM0 with kind := k }, (l1, 11))) := Lib.hid (by
          unfold kindQ
          rw [HK1.out]
          dsimp only
          rw [if_pos ⟨rfl, hkk⟩])
        obtain ⟨vr, ur, hrb, hrs, hrl, -⟩ := HI.out.1
        have HRB := Lib.hid hrb
        have HRS := Lib.hid hrs
        have HRL := Lib.hid hrl
        clear hrb hrs hrl hkk he hbe
        go_wp2_with fail
        refine (fail_any g _ _ _ 11 _ HRB.out).mono ?_
        rintro E u3 ⟨rfl, q2, q3, q4⟩
        have HI3 := Lib.hid (HI.out.call (st := (l1, 11)) HGL.out ⟨vr, ur, q2, HRS.out, HRL.out, no11b⟩ q3 no11)
        clear q2 q3 q4
        go_wp2_with fail
        go_meet
        exact ⟨rfl, by rw [HKQ.out]; exact HI3⟩
    case rest =>
      clear HI HBE
      obtain ⟨rfl, HI⟩ := hcut
      go_wp2_with fail
      refine (oct_any w0 g zs (kindQ zs).2 _ HI.out.1 (HB.out HI.out) HG.out).mono ?_
      rintro E u3 ⟨rfl, hrk, hok, -⟩
      have HBD := Lib.hid (oct_bdR HI.out.1 HWF.out)
      have HI3 := Lib.hid (HI.out.call HGL.out hrk hok oct_back)
      clear hrk hok HI
      obtain ⟨m, a1, i1, j1, a2, i2, j2, a3, i3, j3, a4, i4, j4, hrow, hm⟩ := HI3.out.2.2.2
      have ck := (cell_of_row _ _ 1 _ _ _ hrow).trans rfl
      have fk : u3.frozen? ⟨w.heap.size + 1, 1, none⟩ = false := frozen_of_row _ _ 1 _ _ hrow
      clear hrow hm
      obtain ⟨V3, hV3⟩ : ∃ q, u3.setCell ⟨w.heap.size + 1, 1, none⟩ (.int .i64 (octS (kindQ zs).2).1) = q := ⟨_, rfl⟩
      have HI : Hid (RQ w w0 g zs (sr1Q zs) V3) := Lib.hid (by rw [← hV3]; exact HI3.out.set HGL.out (fun m => { m with src := (octS (kindQ zs).2).1 }) (fun _ => ⟨rfl, rfl⟩) (fun _ h => ⟨h.1, i64_of HBD.out, h.2.2⟩) set_src)
      clear HI3 HBD
      go_wp2_with fail
      clear ck fk hV3
      refine (oct_any w0 g zs (sr1Q zs).2 _ HI.out.1 (HB.out HI.out) HG.out).mono ?_
      rintro E u4 ⟨rfl, hrk, hok, -⟩
      have HBD := Lib.hid (oct_bdR HI.out.1 HWF.out)
      have HI4 := Lib.hid (HI.out.call HGL.out hrk hok oct_back)
      clear hrk hok HI
      obtain ⟨m, a1, i1, j1, a2, i2, j2, a3, i3, j3, a4, i4, j4, hrow, hm⟩ := HI4.out.2.2.2
      have ck := (cell_of_row _ _ 2 _ _ _ hrow).trans rfl
      have fk : u4.frozen? ⟨w.heap.size + 1, 2, none⟩ = false := frozen_of_row _ _ 2 _ _ hrow
      clear hrow hm
      obtain ⟨V4, hV4⟩ : ∃ q, u4.setCell ⟨w.heap.size + 1, 2, none⟩ (.int .i64 (octS (sr1Q zs).2).1) = q := ⟨_, rfl⟩
      have HI : Hid (RQ w w0 g zs (headQ zs) V4) := Lib.hid (by rw [← hV4]; exact HI4.out.set HGL.out (fun m => { m with dst := (octS (sr1Q zs).2).1 }) (fun _ => ⟨rfl, rfl⟩) (fun _ h => ⟨h.1, h.2.1, i64_of HBD.out, h.2.2.2⟩) set_dst)
      clear HI4 HBD
      go_upto_region 7 with fail
      clear ck fk hV4
      obtain ⟨mB, a1, i1, j1, a2, i2, j2, a3, i3, j3, a4, i4, j4, hrow, hm⟩ := HI.out.2.2.2
      have hkd : (headQ zs).2.2 = 0 → mB.kind = (headQ zs).1.kind := fun q => by rw [(hm q).1]
      have ck2 : V4.cell? ⟨w.heap.size + 1, 0, none⟩ = some (.int .i64 mB.kind) := (cell_of_row _ _ 0 _ _ _ hrow).trans rfl
      clear hrow hm
      obtain ⟨K, hK⟩ : ∃ q, mB.kind = q := ⟨_, rfl⟩
      rw [hK] at hkd ck2
      have HKD := Lib.hid hkd
      have HSB := Lib.hid (sbs_any K)
      have HFL := Lib.hid (fieldsM_len K)
      have hfz : (fieldT K).size = (fieldsM K).length := by rw [← sbs_length, HSB.out, List.length_map]
      obtain ⟨cap, w4, hq, hs4, hb4, hl4, hty4⟩ := run_bytesT V4 (fieldT K) (by have := HFL.out; unfold maxLen; omega)
      rw [HSB.out] at hs4
      rw [hfz] at hq hs4
      have HI4 := Lib.hid (HI.out.below HGL.out hb4)
      have hzz : w.heap.size + 2 ≤ V4.heap.size := by
        obtain ⟨-, -, -, m, a1, i1, j1, a2, i2, j2, a3, i3, j3, a4, i4, j4, hrow, -⟩ := HI.out
        have := row_lt hrow
        omega
      obtain ⟨fg, hfg⟩ : ∃ q, V4.heap.size = q := ⟨_, rfl⟩
      rw [hfg] at hq hs4 hl4 hzz hty4
      have HFG : Hid (fg ≠ g ∧ fg ≠ w.heap.size + 1) := Lib.hid (by have := HGL.out; omega)
      obtain ⟨L, hL⟩ : ∃ q, fieldsM K = q := ⟨_, rfl⟩
      have HLE := Lib.hid hL
      rw [hL] at hq hs4
      have HZ0 : Hid (RZ w w0 g zs L fg cap 0 (fldsQ (L.take 0) (headQ zs)) w4 ∧ fg < w4.heap.size) := Lib.hid ⟨RZ.of HI4.out ⟨hs4, hty4⟩, hl4⟩
      have HVAL : Hid (∀ f ∈ L, 0 ≤ f ∧ f ≤ 6) := Lib.hid (by rw [← hL]; exact fld_vals K)
      have hlen5 : L.length ≤ 5 := by rw [← hL]; exact HFL.out
      clear hb4 hs4 hty4 hl4 hfg hzz hfz hK hkd hL HI4
      go_wp2_with (go_at_call 41; refine (rfields_any _ _).mono ?_; rintro e w2 ⟨rfl, rfl⟩)
      clear hq HI ck2
      go_loopw [37] (fun i wr => ∃ (k : Nat), k ≤ L.length ∧ i = .int .i64 k ∧ Hid (RZ w w0 g zs L fg cap k (fldsQ (L.take k) (headQ zs)) wr ∧ fg < wr.heap.size)) (fun i _ => L.length - (intOf i).toNat)
      case atStart => exact ⟨0, Nat.zero_le _, rfl, HZ0⟩
      case round =>
        clear HZ0
        obtain ⟨k, hk, rfl, HM0⟩ := hrel
        by_cases hlt2 : k < L.length
        · have HM : Hid (RQ w w0 g zs (fldsQ (L.take k) (headQ zs)) wr) := Lib.hid ⟨HM0.out.1.2.1 (.inl hlt2), HM0.out.1.2.2.1⟩
          have HSX := Lib.hid HM0.out.1.2.2.2
          have HLT := Lib.hid HM0.out.2
          clear HM0
          obtain ⟨b, off, hbo, -, hcx⟩ := Sl.at HSX.out.1 (i := k) (by rw [List.length_map]; exact hlt2)
          cases hbo
          rw [Nat.zero_add, getD_map hlt2] at hcx
          obtain ⟨hf0, hf6⟩ := HVAL.out _ (Nd.mem_get hlt2)
          have HT := Lib.hid (Nd.take_get hlt2)
          have HSIX : Hid (L.getD k 0 = 6 → k + 1 = L.length) := Lib.hid (by rw [← HLE.out] at hlt2 ⊢; exact six_last K k hlt2)
          have HFIV : Hid (L.getD k 0 = 5 → (fldsQ (L.take k) (headQ zs)).1.ents = []) := Lib.hid (fun q => by rw [← HLE.out] at hlt2 q ⊢; exact (flds_ents _ _ (five_first K k hlt2 q)).trans rfl)
          generalize L.getD k 0 = z at *
          obtain ⟨f, rfl⟩ : ∃ f : Nat, z = f := ⟨z.toNat, by omega⟩
          have HNX : Hid (fldsQ (L.take (k + 1)) (headQ zs) = fldQ f (fldsQ (L.take k) (headQ zs))) := Lib.hid (by rw [HT.out, fldsQ_snoc, Int.toNat_natCast])
          obtain ⟨s, hs⟩ : ∃ q, fldsQ (L.take k) (headQ zs) = q := ⟨_, rfl⟩
          rw [hs] at HM HNX HFIV
          have HV : Hid (Cm.V3 s.2.2) := Lib.hid (by rw [← hs]; exact flds_v _ (head_v zs))
          clear hs HT hf0
          rcases (show f = 0 ∨ f = 1 ∨ f = 2 ∨ f = 3 ∨ f = 4 ∨ f = 5 ∨ f = 6 by omega) with rfl | rfl | rfl | rfl | rfl | rfl | rfl
          · have hx : wr.cell? ⟨fg, k, none⟩ = some (.int .u8 116) := hcx
            clear hcx hf6
            go_wp2_with fail
            refine (rw_any w0 g zs s.2 _ HM.out.1 (HB.out HM.out)).mono ?_
            rintro E u5 ⟨rfl, hrk, hok, -⟩
            have HM5 := Lib.hid (HM.out.call HGL.out hrk hok wide_back)
            have HS5 := Lib.hid (fb_step HSX.out hok HFG.out.1 HLT.out)
            have HL5 : Hid (fg < u5.heap.size) := Lib.hid (Nat.lt_of_lt_of_le HLT.out hok.2.2.2.1)
            clear hrk hok HM HSX
            obtain ⟨m, a1, i1, j1, a2, i2, j2, a3, i3, j3, a4, i4, j4, hrow, hm⟩ := HM5.out.2.2.2
            have ck := (cell_of_row _ _ 3 _ _ _ hrow).trans rfl
            have fk : u5.frozen? ⟨w.heap.size + 1, 3, none⟩ = false := frozen_of_row _ _ 3 _ _ hrow
            clear hrow hm
            obtain ⟨V5, hV5⟩ : ∃ q, u5.setCell ⟨w.heap.size + 1, 3, none⟩ (.int .u64 (wideS s.2).1) = q := ⟨_, rfl⟩
            have HM6 : Hid (RQ w w0 g zs (fldQ 0 s) V5) := Lib.hid (by rw [← hV5]; exact HM5.out.set HGL.out (fun m => setN m 0 (wideS s.2).1) (fun _ => ⟨setN_ents _ _ _, setN_shot _ _ _⟩) (fun _ h => setN_wf h u64_of) set_n0)
            have HS6 := Lib.hid (fb_step (W1 := V5) HS5.out (by rw [← hV5]; exact Only.setCell _ _ _ rfl) HFG.out.2 HL5.out)
            have HL6 : Hid (fg < V5.heap.size) := Lib.hid (by rw [← hV5]; simpa using HL5.out)
            clear HM5 HS5
            go_wp2_with fail
            clear ck fk hV5 hx
            go_roundw
            case rel => exact ⟨k + 1, by omega, by go_num, Lib.hid (by rw [HNX.out]; exact ⟨RZ.of HM6.out HS6.out, HL6.out⟩)⟩
            case measure => simp [intOf]; omega
          · have hx : wr.cell? ⟨fg, k, none⟩ = some (.int .u8 105) := hcx
            clear hcx hf6
            go_wp2_with fail
            refine (rw_any w0 g zs s.2 _ HM.out.1 (HB.out HM.out)).mono ?_
            rintro E u5 ⟨rfl, hrk, hok, -⟩
            have HM5 := Lib.hid (HM.out.call HGL.out hrk hok wide_back)
            have HS5 := Lib.hid (fb_step HSX.out hok HFG.out.1 HLT.out)
            have HL5 : Hid (fg < u5.heap.size) := Lib.hid (Nat.lt_of_lt_of_le HLT.out hok.2.2.2.1)
            clear hrk hok HM HSX
            obtain ⟨m, a1, i1, j1, a2, i2, j2, a3, i3, j3, a4, i4, j4, hrow, hm⟩ := HM5.out.2.2.2
            have ck := (cell_of_row _ _ 4 _ _ _ hrow).trans rfl
            have fk : u5.frozen? ⟨w.heap.size + 1, 4, none⟩ = false := frozen_of_row _ _ 4 _ _ hrow
            clear hrow hm
            obtain ⟨V5, hV5⟩ : ∃ q, u5.setCell ⟨w.heap.size + 1, 4, none⟩ (.int .u64 (wideS s.2).1) = q := ⟨_, rfl⟩
            have HM6 : Hid (RQ w w0 g zs (fldQ 1 s) V5) := Lib.hid (by rw [← hV5]; exact HM5.out.set HGL.out (fun m => setN m 1 (wideS s.2).1) (fun _ => ⟨setN_ents _ _ _, setN_shot _ _ _⟩) (fun _ h => setN_wf h u64_of) set_n1)
            have HS6 := Lib.hid (fb_step (W1 := V5) HS5.out (by rw [← hV5]; exact Only.setCell _ _ _ rfl) HFG.out.2 HL5.out)
            have HL6 : Hid (fg < V5.heap.size) := Lib.hid (by rw [← hV5]; simpa using HL5.out)
            clear HM5 HS5
            go_wp2_with fail
            clear ck fk hV5 hx
            go_roundw
            case rel => exact ⟨k + 1, by omega, by go_num, Lib.hid (by rw [HNX.out]; exact ⟨RZ.of HM6.out HS6.out, HL6.out⟩)⟩
            case measure => simp [intOf]; omega
          · have hx : wr.cell? ⟨fg, k, none⟩ = some (.int .u8 108) := hcx
            clear hcx hf6
            go_wp2_with fail
            refine (rw_any w0 g zs s.2 _ HM.out.1 (HB.out HM.out)).mono ?_
            rintro E u5 ⟨rfl, hrk, hok, -⟩
            have HM5 := Lib.hid (HM.out.call HGL.out hrk hok wide_back)
            have HS5 := Lib.hid (fb_step HSX.out hok HFG.out.1 HLT.out)
            have HL5 : Hid (fg < u5.heap.size) := Lib.hid (Nat.lt_of_lt_of_le HLT.out hok.2.2.2.1)
            clear hrk hok HM HSX
            obtain ⟨m, a1, i1, j1, a2, i2, j2, a3, i3, j3, a4, i4, j4, hrow, hm⟩ := HM5.out.2.2.2
            have ck := (cell_of_row _ _ 5 _ _ _ hrow).trans rfl
            have fk : u5.frozen? ⟨w.heap.size + 1, 5, none⟩ = false := frozen_of_row _ _ 5 _ _ hrow
            clear hrow hm
            obtain ⟨V5, hV5⟩ : ∃ q, u5.setCell ⟨w.heap.size + 1, 5, none⟩ (.int .u64 (wideS s.2).1) = q := ⟨_, rfl⟩
            have HM6 : Hid (RQ w w0 g zs (fldQ 2 s) V5) := Lib.hid (by rw [← hV5]; exact HM5.out.set HGL.out (fun m => setN m 2 (wideS s.2).1) (fun _ => ⟨setN_ents _ _ _, setN_shot _ _ _⟩) (fun _ h => setN_wf h u64_of) set_n2)
            have HS6 := Lib.hid (fb_step (W1 := V5) HS5.out (by rw [← hV5]; exact Only.setCell _ _ _ rfl) HFG.out.2 HL5.out)
            have HL6 : Hid (fg < V5.heap.size) := Lib.hid (by rw [← hV5]; simpa using HL5.out)
            clear HM5 HS5
            go_wp2_with fail
            clear ck fk hV5 hx
            go_roundw
            case rel => exact ⟨k + 1, by omega, by go_num, Lib.hid (by rw [HNX.out]; exact ⟨RZ.of HM6.out HS6.out, HL6.out⟩)⟩
            case measure => simp [intOf]; omega
          · have hx : wr.cell? ⟨fg, k, none⟩ = some (.int .u8 99) := hcx
            clear hcx hf6
            go_wp2_with fail
            refine (rw_any w0 g zs s.2 _ HM.out.1 (HB.out HM.out)).mono ?_
            rintro E u5 ⟨rfl, hrk, hok, -⟩
            have HM5 := Lib.hid (HM.out.call HGL.out hrk hok wide_back)
            have HS5 := Lib.hid (fb_step HSX.out hok HFG.out.1 HLT.out)
            have HL5 : Hid (fg < u5.heap.size) := Lib.hid (Nat.lt_of_lt_of_le HLT.out hok.2.2.2.1)
            clear hrk hok HM HSX
            obtain ⟨m, a1, i1, j1, a2, i2, j2, a3, i3, j3, a4, i4, j4, hrow, hm⟩ := HM5.out.2.2.2
            have ck := (cell_of_row _ _ 6 _ _ _ hrow).trans rfl
            have fk : u5.frozen? ⟨w.heap.size + 1, 6, none⟩ = false := frozen_of_row _ _ 6 _ _ hrow
            clear hrow hm
            obtain ⟨V5, hV5⟩ : ∃ q, u5.setCell ⟨w.heap.size + 1, 6, none⟩ (.int .u64 (wideS s.2).1) = q := ⟨_, rfl⟩
            have HM6 : Hid (RQ w w0 g zs (fldQ 3 s) V5) := Lib.hid (by rw [← hV5]; exact HM5.out.set HGL.out (fun m => setN m 3 (wideS s.2).1) (fun _ => ⟨setN_ents _ _ _, setN_shot _ _ _⟩) (fun _ h => setN_wf h u64_of) set_n3)
            have HS6 := Lib.hid (fb_step (W1 := V5) HS5.out (by rw [← hV5]; exact Only.setCell _ _ _ rfl) HFG.out.2 HL5.out)
            have HL6 : Hid (fg < V5.heap.size) := Lib.hid (by rw [← hV5]; simpa using HL5.out)
            clear HM5 HS5
            go_wp2_with fail
            clear ck fk hV5 hx
            go_roundw
            case rel => exact ⟨k + 1, by omega, by go_num, Lib.hid (by rw [HNX.out]; exact ⟨RZ.of HM6.out HS6.out, HL6.out⟩)⟩
            case measure => simp [intOf]; omega
          · have hx : wr.cell? ⟨fg, k, none⟩ = some (.int .u8 102) := hcx
            clear hcx hf6
            go_wp2_with fail
            have hoc := oct_any w0 g zs s.2 _ HM.out.1 (HB.out HM.out) HG.out
            have hbd := oct_bdR HM.out.1 HWF.out
            have hbk : (octS s.2).2.2 = 0 → s.2.2 = 0 := oct_back
            have hfq : fldQ 4 s = flagQ s := rfl
            unfold flagQ at hfq
            rcases ho : octS s.2 with ⟨n, st5⟩
            rw [ho] at hoc hbd hbk hfq
            dsimp only at hfq hbk hbd
            have HFQ := Lib.hid hfq
            refine hoc.mono ?_
            clear hoc ho hfq
            rintro E u5 ⟨rfl, hrk, hok, -⟩
            dsimp only at hrk
            have HM5 := Lib.hid (HM.out.call HGL.out hrk hok hbk)
            have HS5 := Lib.hid (fb_step HSX.out hok HFG.out.1 HLT.out)
            have HL5 : Hid (fg < u5.heap.size) := Lib.hid (Nat.lt_of_lt_of_le HLT.out hok.2.2.2.1)
            clear hrk hok HM HSX hbd hbk
            dsimp only
            obtain ⟨bb, hbb⟩ : ∃ b, (n == 1) = b := ⟨_, rfl⟩
            have hbb2 : decide (n = 1) = bb := by rw [← hbb]; rfl
            by_cases hn1 : 1 < n
            · have HFQ2 : Hid (fldQ 4 s = ({ s.1 with flag := bb }, failS 11 st5)) := Lib.hid (by rw [HFQ.out, if_pos hn1, hbb])
              obtain ⟨vr, ur, hrb, hrs, hrl, -⟩ := HM5.out.1
              have HRB := Lib.hid hrb
              have HRS := Lib.hid hrs
              have HRL := Lib.hid hrl
              clear hrb hrs hrl HFQ
              go_wp2_with fail
              refine (fail_any g _ _ _ 11 _ HRB.out).mono ?_
              rintro E u6 ⟨rfl, q2, q3, q4⟩
              have HM6 := Lib.hid (HM5.out.call (st := failS 11 st5) HGL.out (rdr_fail (W := u5) HRS.out HRL.out q2) q3 (fun q => absurd q (failS_ne _)))
              have HS6 := Lib.hid (fb_step HS5.out q3 HFG.out.1 HL5.out)
              have HL6 : Hid (fg < u6.heap.size) := Lib.hid (by rw [q4]; exact HL5.out)
              clear q2 q3 q4 HM5 HS5 HL5
              obtain ⟨m, a1, i1, j1, a2, i2, j2, a3, i3, j3, a4, i4, j4, hrow, hm⟩ := HM6.out.2.2.2
              have ck := (cell_of_row _ _ 7 _ _ _ hrow).trans rfl
              have fk : u6.frozen? ⟨w.heap.size + 1, 7, none⟩ = false := frozen_of_row _ _ 7 _ _ hrow
              clear hrow hm
              obtain ⟨V6, hV6⟩ : ∃ q, u6.setCell ⟨w.heap.size + 1, 7, none⟩ (.bool bb) = q := ⟨_, rfl⟩
              have HM7 : Hid (RQ w w0 g zs (fldQ 4 s) V6) := Lib.hid (by rw [HFQ2.out, ← hV6]; exact HM6.out.set HGL.out (fun m => { m with flag := bb }) (fun _ => ⟨rfl, rfl⟩) (fun _ h => h) set_flag)
              have HS7 := Lib.hid (fb_step (W1 := V6) HS6.out (by rw [← hV6]; exact Only.setCell _ _ _ rfl) HFG.out.2 HL6.out)
              have HL7 : Hid (fg < V6.heap.size) := Lib.hid (by rw [← hV6]; simpa using HL6.out)
              clear HM6 HS6
              go_wp2_with fail
              clear ck fk hV6 hx
              go_roundw
              case rel => exact ⟨k + 1, by omega, by go_num, Lib.hid (by rw [HNX.out]; exact ⟨RZ.of HM7.out HS7.out, HL7.out⟩)⟩
              case measure => simp [intOf]; omega
            · have hn2 : n ≤ 1 := by omega
              have HFQ2 : Hid (fldQ 4 s = ({ s.1 with flag := bb }, st5)) := Lib.hid (by rw [HFQ.out, if_neg hn1, hbb])
              obtain ⟨u6, hu6⟩ : ∃ q, u5 = q := ⟨_, rfl⟩
              have HM6 := HM5
              have HS6 := HS5
              have HL6 := HL5
              rw [hu6] at HM6 HS6 HL6
              subst hu6
              clear HM5 HS5 HL5 HFQ
              obtain ⟨m, a1, i1, j1, a2, i2, j2, a3, i3, j3, a4, i4, j4, hrow, hm⟩ := HM6.out.2.2.2
              have ck := (cell_of_row _ _ 7 _ _ _ hrow).trans rfl
              have fk : u5.frozen? ⟨w.heap.size + 1, 7, none⟩ = false := frozen_of_row _ _ 7 _ _ hrow
              clear hrow hm
              obtain ⟨V6, hV6⟩ : ∃ q, u5.setCell ⟨w.heap.size + 1, 7, none⟩ (.bool bb) = q := ⟨_, rfl⟩
              have HM7 : Hid (RQ w w0 g zs (fldQ 4 s) V6) := Lib.hid (by rw [HFQ2.out, ← hV6]; exact HM6.out.set HGL.out (fun m => { m with flag := bb }) (fun _ => ⟨rfl, rfl⟩) (fun _ h => h) set_flag)
              have HS7 := Lib.hid (fb_step (W1 := V6) HS6.out (by rw [← hV6]; exact Only.setCell _ _ _ rfl) HFG.out.2 HL6.out)
              have HL7 : Hid (fg < V6.heap.size) := Lib.hid (by rw [← hV6]; simpa using HL6.out)
              clear HM6 HS6
              go_wp2_with fail
              clear ck fk hV6 hx
              go_roundw
              case rel => exact ⟨k + 1, by omega, by go_num, Lib.hid (by rw [HNX.out]; exact ⟨RZ.of HM7.out HS7.out, HL7.out⟩)⟩
              case measure => simp [intOf]; omega
          · have hx : wr.cell? ⟨fg, k, none⟩ = some (.int .u8 101) := hcx
            clear hcx hf6
            go_wp2_with fail
            refine (rs_any w0 g zs 4 s.2 _ HM.out.1 (HB.out HM.out) (by decide) (by decide)).mono ?_
            rintro E u5 ⟨rfl, hrk, hok, -⟩
            obtain ⟨p0, p4⟩ := pnum_bd 4 (by decide) s.2
            obtain ⟨N, hN⟩ : ∃ n : Nat, (pnum 4 s.2).1 = (n : Int) := ⟨_, (Int.toNat_of_nonneg p0).symm⟩
            have hfq : fldQ 5 s = entsQ N (s.1, (pnum 4 s.2).2) := by
              show entsQ (pnum 4 s.2).1.toNat _ = _
              rw [hN, Int.toNat_natCast]
            have HM5 := Lib.hid (HM.out.call HGL.out hrk hok (fun q => pnum_back q))
            have HS5 := Lib.hid (fb_step HSX.out hok HFG.out.1 HLT.out)
            have HL5 : Hid (fg < u5.heap.size) := Lib.hid (Nat.lt_of_lt_of_le HLT.out hok.2.2.2.1)
            obtain ⟨s5, hs5⟩ : ∃ q, ((s.1, (pnum 4 s.2).2) : MSt) = q := ⟨_, rfl⟩
            have HE5 : Hid (s5.1.ents = []) := Lib.hid (by rw [← hs5]; exact HFIV.out rfl)
            rw [hN] at p4 ⊢
            rw [hs5] at HM5 hfq
            have HFQ := Lib.hid hfq
            have hN4 : N ≤ 4 := by omega
            clear hrk hok HM HSX hfq hs5 hN p0 p4
            dsimp only
            obtain ⟨wo, hwo⟩ : ∃ q, q = wr := ⟨_, rfl⟩
            subst hwo
            go_wp2_with fail
            clear hx
            go_loopw [7] (fun i wr => ∃ j : Nat, j ≤ N ∧ i = .int .i64 ((N : Int) - (j : Int)) ∧ Hid (RQ w w0 g zs (entsQ j s5) wr ∧ FB fg cap L wr ∧ fg < wr.heap.size)) (fun i _ => (intOf i).toNat)
            case atStart => exact ⟨0, Nat.zero_le _, by simp, Lib.hid ⟨HM5.out, HS5.out, HL5.out⟩⟩
            case round =>
              clear HM5 HS5 HL5
              obtain ⟨j, hj, rfl, HMj⟩ := hrel
              obtain ⟨p, hp⟩ : ∃ q, entsQ j s5 = q := ⟨_, rfl⟩
              have hpl : p.1.ents.length ≤ 4 := by
                have := entsQ_len j s5
                rw [hp, HE5.out] at this
                simp only [List.length_nil] at this
                omega
              have HPL := Lib.hid hpl
              rw [hp] at HMj
              have HP := Lib.hid hp
              have HMq := Lib.hid HMj.out.1
              have HSq := Lib.hid HMj.out.2.1
              have HLq := Lib.hid HMj.out.2.2
              clear HMj hp hpl
              obtain ⟨vr, ur, hrb, -⟩ := id HMq.out.1
              have c2 := hrb.c2
              clear hrb
              rcases Nat.lt_or_ge j N with hjN | hjN
              · have hgt : (0 : Int) < (N : Int) - (j : Int) := by omega
                cases he : (p.2.2 == 0) with
                | false =>
                  have HSTOP : Hid (fldQ 5 s = p) := Lib.hid (by rw [HFQ.out, entsQ_stop (j := j) (by rw [HP.out]; exact he) N hj, HP.out])
                  clear HP
                  go_wp2_with fail
                  clear c2
                  go_roundw
                  case rel => exact ⟨k + 1, by omega, by go_num, Lib.hid (by rw [HNX.out, HSTOP.out]; exact ⟨RZ.of HMq.out HSq.out, HLq.out⟩)⟩
                  case measure => simp [intOf]; omega
                | true =>
                  have hgr : g < wr.heap.size := HMq.out.1.lt
                  have hb0 := HB.out HMq.out
                  obtain ⟨-, hon, hq0, m, a1, i1, j1, a2, i2, j2, a3, i3, j3, a4, i4, j4, hrow, hm⟩ := id HMq.out
                  obtain ⟨rfl, rows, hMM⟩ := hm (by simpa using he)
                  clear hm hrow
                  have hstE : (wr.alloc (.cells Rk.zEA 88)).heap[wr.heap.size]? = some (.cells Rk.zEA 88 (0, 0)) := heap_alloc_new _ _
                  obtain ⟨W1, hW1⟩ : ∃ q, (wr.alloc (.cells Rk.zEA 88)).setRow wr.heap.size Rk.zEA = q := ⟨_, rfl⟩
                  have hbx : Below wr.heap.size wr W1 := by rw [← hW1]; exact Ld.below_row ((Below.refl _ _).alloc (Nat.le_refl _) _) (Nat.le_refl _) _
                  have HR : Hid (RowR 88 wr w0 g zs p.2 #[.int .u64 0, .int .i64 0, .int .i64 0, .int .i64 0, .slice none 0 0, .int .u64 0, .int .u64 0, .int .u64 0, .int .u64 0] wr.heap.size W1) := Lib.hid ⟨Nat.le_refl _, by rw [← hW1]; exact setRow_heap _ _ _ _ _ _ hstE, HMq.out.1.block (hbx.block g hgr), Below.only hbx _, hb0.trans (hbx.mono hb0.size)⟩
                  have HGR := Lib.hid hgr
                  have HMM := Lib.hid hMM
                  have HON := Lib.hid hon
                  have HQ0 := Lib.hid hq0
                  rcases hw5 : wideS p.2 with ⟨tt, st1⟩
                  rcases hc5 : cmdS st1 with ⟨cc, st2⟩
                  have HTW : Hid ((Lit.int .u64 tt).wf = true) := Lib.hid (by have := u64_of (st := p.2); rw [hw5] at this; exact this)
                  have HNX2 : Hid (entsQ (j + 1) s5 = ({ p.1 with ents := p.1.ents ++ [⟨tt, cc⟩] }, st2)) := Lib.hid (by rw [entsQ, HP.out, if_pos he]; unfold entQ; simp only [hw5, hc5])
                  have HW5 := Lib.hid hw5
                  have HC5 := Lib.hid hc5
                  clear hgr hb0 hon hq0 hMM hbx HP hw5 hc5
                  go_wp2_with (first | (refine wpList_store_row rfl 88 (.tmp 8) (.tmp 88) rfl wr.heap.size Rk.zEA rfl rfl 88 _ hstE (by kernel_rfl) rfl (by kernel_rfl) ?_; rw [hW1]; clear hW1 hstE) | fail)
                  clear c2
                  have hn : Calls Tryz.prog _ _ _ (NumR w0 g zs (wideS p.2) (.int .u64 (wideS p.2).1) _) := rw_any w0 g zs p.2 _ HR.out.2.2.1 HR.out.2.2.2.2
                  rw [HW5.out] at hn
                  refine hn.mono ?_
                  clear hn
                  rintro E y0 ⟨rfl, hrk, hok, -⟩
                  have HR0 := Lib.hid (HR.out.call HGR.out HG.out hrk hok)
                  clear hrk hok HR
                  have ck : y0.cell? ⟨wr.heap.size, 0, none⟩ = some (.int .u64 0) := (cell_of_row _ _ 0 _ _ _ HR0.out.2.1).trans rfl
                  have fk : y0.frozen? ⟨wr.heap.size, 0, none⟩ = false := frozen_of_row _ _ 0 _ _ HR0.out.2.1
                  obtain ⟨Y0, hY0⟩ : ∃ q, y0.setCell ⟨wr.heap.size, 0, none⟩ (.int .u64 tt) = q := ⟨_, rfl⟩
                  have HR : Hid (RowR 88 wr w0 g zs st1 #[.int .u64 tt, .int .i64 0, .int .i64 0, .int .i64 0, .slice none 0 0, .int .u64 0, .int .u64 0, .int .u64 0, .int .u64 0] wr.heap.size Y0) := Lib.hid (by rw [← hY0]; exact HR0.out.set HGR.out HG.out 0 _ (by rw [heap_setCell_same _ _ 0 _ _ _ HR0.out.2.1]; rfl))
                  clear HR0
                  go_wp2_with fail
                  clear ck fk hY0
                  refine (cmd_x w0 g zs st1 _ HR.out.2.2.1 (fun v hv w' ho => hv.below (ho.below HR.out.2.2.2.2 HR.out.2.2.2.2.size (fun q hq => hq ▸ HG.out)) (Nat.le_refl _))).mono ?_
                  rintro E y1 ⟨c, a9, q9, r9, rfl, hrk, hown, hok⟩
                  rw [HC5.out] at hrk hown
                  dsimp only at hrk hown
                  have HR1 := Lib.hid (HR.out.call HGR.out HG.out hrk hok)
                  have hY0z : wr.heap.size < Y0.heap.size := row_lt HR.out.2.1
                  have HY0Z := Lib.hid hY0z
                  have HOWN := Lib.hid hown
                  have hth := there9 HR1.out.2.1
                  obtain ⟨Y1, hY1⟩ : ∃ q, y1.setCells wr.heap.size 1 (cArr c (.slice a9 q9 r9)).toList = q := ⟨_, rfl⟩
                  have hyo : Only (· = wr.heap.size) y1 Y1 := by rw [← hY1]; exact onlyC _ _ _
                  have HYO := Lib.hid hyo
                  have HR : Hid (RowR 88 wr w0 g zs st2 #[.int .u64 tt, .int .i64 c.kind, .int .i64 c.node, .int .i64 c.token, .slice a9 q9 r9, .int .u64 c.boot, .int .u64 c.seq, .int .u64 c.serial, .int .u64 c.stamp] wr.heap.size Y1) := Lib.hid ⟨Nat.le_refl _, by rw [← hY1]; exact mid9 HR1.out.2.1 _ _, HR1.out.2.2.1.only hyo (by have := HGR.out; omega), HR1.out.2.2.2.1.trans (hyo.mono (fun _ e => .inr (by omega))), hyo.below HR1.out.2.2.2.2 HR1.out.2.2.2.2.size (fun k hk => by have := HG.out; have := HGR.out; omega)⟩
                  clear hrk hown hok HR1 hY0z hyo
                  go_upto_region 31 with (first
                    | (refine wpList_store_mid rfl 86 (.tmp 94) (.tmp 93) rfl wr.heap.size 1 (cArr c (.slice a9 q9 r9)) rfl rfl hth (by kernel_rfl) (Rk.cArr_one _ _ _ _) ?_; rw [hY1]; clear hY1 hth)
                    | fail)
                  have hbk : ∀ q, q < wr.heap.size → q ≠ g → Y1.heap[q]? = wr.heap[q]? := fun q hq hn => HR.out.2.2.2.1.2.2.2.2 q hq (by omega)
                  have HBK := Lib.hid hbk
                  have hgl2 := HGL.out
                  have HMX : Hid (MM (w.heap.size + 2) (w.heap.size + 1) p.1 (.slice a1 i1 j1) (.slice a2 i2 j2) (.slice a3 i3 j3) (.slice a4 i4 j4) rows Y1) := Lib.hid (HMM.out.blk (fun q hq hB => hbk q hq (by omega)) ((hbk _ (row_lt HMM.out.1) (by omega)).trans HMM.out.1) rfl rfl HMM.out.2.2.2.2.2.2.2.1)
                  have HQX : Hid (Y1.heap[w.heap.size]? = some (.cells zMB 33 (0, 0))) := Lib.hid ((hbk _ (row_lt HQ0.out) (by omega)).trans HQ0.out)
                  have hba : Below Y1.heap.size Y1 (Y1.alloc (.cells #[.int .u64 tt, .int .i64 c.kind, .int .i64 c.node, .int .i64 c.token, .slice a9 q9 r9, .int .u64 c.boot, .int .u64 c.seq, .int .u64 c.serial, .int .u64 c.stamp] 88)) := (Below.refl Y1.heap.size Y1).alloc (Nat.le_refl _) _
                  have HBA := Lib.hid hba
                  have HMA := Lib.hid (HMX.out.below hba)
                  have hroq : Only (fun b => b = g ∨ wr.heap.size ≤ b) wr Y1 := HR.out.2.2.2.1
                  have HON2 : Hid (Only (· = g) w (Y1.alloc (.cells #[.int .u64 tt, .int .i64 c.kind, .int .i64 c.node, .int .i64 c.token, .slice a9 q9 r9, .int .u64 c.boot, .int .u64 c.seq, .int .u64 c.serial, .int .u64 c.stamp] 88))) := Lib.hid (Only.trans ⟨hroq.1.trans HON.out.1, hroq.2.1.trans HON.out.2.1, hroq.2.2.1.trans HON.out.2.2.1, Nat.le_trans HON.out.2.2.2.1 hroq.2.2.2.1, fun k hk hn => (hbk k (Nat.lt_of_lt_of_le hk HON.out.2.2.2.1) hn).trans (HON.out.2.2.2.2 k hk hn)⟩ (Only.alloc _ _ _))
                  have HRD2 : Hid (RdR w0 g zs st2 (Y1.alloc (.cells #[.int .u64 tt, .int .i64 c.kind, .int .i64 c.node, .int .i64 c.token, .slice a9 q9 r9, .int .u64 c.boot, .int .u64 c.seq, .int .u64 c.serial, .int .u64 c.stamp] 88))) := Lib.hid (HR.out.2.2.1.block (hba.block g HR.out.2.2.1.lt))
                  have HLEN : Hid (rows.length ≤ 4) := Lib.hid (by have := HPL.out; rw [← HMM.out.2.2.2.1, List.length_map] at this; exact this)
                  have HSZY : Hid (wr.heap.size ≤ Y1.heap.size ∧ w.heap.size + 2 ≤ wr.heap.size) := Lib.hid ⟨hroq.2.2.2.1, by have := row_lt HMM.out.1; omega⟩
                  have hci := (cell_of_row _ _ 8 _ _ _ HMX.out.1).trans rfl
                  clear hbk hba hroq hgl2
                  go_wp2_with (first
                    | (with_reducible refine wpList_load_row rfl 88 (.tmp 8) rfl wr.heap.size rfl 88 #[.int .u64 tt, .int .i64 c.kind, .int .i64 c.node, .int .i64 c.token, .slice a9 q9 r9, .int .u64 c.boot, .int .u64 c.seq, .int .u64 c.serial, .int .u64 c.stamp] (0, 0) _ HR.out.2.1 Tryz.underlying88 rfl (by kernel_rfl) ?_)
                    | (refine wpList_load_rowG rfl 88 (.tmp 8) rfl wr.heap.size rfl 88 #[.int .u64 tt, .int .i64 c.kind, .int .i64 c.node, .int .i64 c.token, .slice a9 q9 r9, .int .u64 c.boot, .int .u64 c.seq, .int .u64 c.serial, .int .u64 c.stamp] (0, 0) _ HR.out.2.1 Tryz.underlying88 rfl (by kernel_rfl) ?_)
                    | (at_builtin; (refine appEG rfl _ _ rfl (w.heap.size + 2) (.slice a1 i1 j1) rows rfl HMA.out.2.1 _ [((⟨tt, c⟩, .slice a9 q9 r9) : ERow)] rfl (SlR.one entC_len _ _ rfl _ _ rfl) (by simp) (Hd.ent_one _ _ _ _) (by have := HLEN.out; unfold maxLen; simp; omega) (by have := HLEN.out; simp; omega) (by have := HSZY.out; simp; omega) _ rfl ?_)))
                  intro g5 cap5 w' own' hgr5 hor5
                  have HXR := Lib.hid (row_grown HMA.out.1 HMA.out.2.1 (by decide) hgr5)
                  have ck := (cell_of_row _ _ 8 _ _ _ HXR.out).trans rfl
                  have fk : w'.frozen? ⟨w.heap.size + 1, 8, none⟩ = false := frozen_of_row _ _ 8 _ _ HXR.out
                  obtain ⟨WS, hWS⟩ : ∃ q, w'.setCell ⟨w.heap.size + 1, 8, none⟩ (.slice (some ⟨g5, 0, none⟩) (rows.length + 1) cap5) = q := ⟨_, rfl⟩
                  have HM9 : Hid (RQ w w0 g zs (entsQ (j + 1) s5) WS) := Lib.hid (by
                    rw [HNX2.out, ← hWS]
                    refine RQ.ent (x := ⟨tt, cc⟩) (vx := .slice a9 q9 r9) HGL.out HRD2.out HON2.out ((HBA.out.block _ (row_lt HQX.out)).trans HQX.out) HMA.out own' hgr5 (hor5.imp id (fun e => by simpa using e)) (fun q => ?_)
                    obtain ⟨rfl, o1, o2, o3⟩ := HOWN.out q
                    have hz := HY0Z.out
                    have hs := HSZY.out
                    have o4 := own_blk o1 (own_ge o1 hz) (fun k hk hn => HYO.out.2.2.2.2 k hk hn)
                    exact ⟨rfl, rfl, OwnK.below (own_lowerx (by omega) o4) HBA.out (Nat.le_refl _), fun q hq e => by
                      have h1 := (World.ownsRow.lt o1 q hq).1
                      have h2 := (World.ownsRow.lt HMM.out.2.1 q e.symm).2
                      omega, ⟨⟨HTW.out, o2⟩, o3⟩⟩)
                  have HS9 : Hid (FB fg cap L WS) := Lib.hid (by
                    obtain ⟨hsl, cs, fr, hty⟩ := id HSq.out
                    have h1 := HBK.out fg HLq.out HFG.out.1
                    have h2 : (Y1.alloc (.cells #[.int .u64 tt, .int .i64 c.kind, .int .i64 c.node, .int .i64 c.token, .slice a9 q9 r9, .int .u64 c.boot, .int .u64 c.seq, .int .u64 c.serial, .int .u64 c.stamp] 88)).heap[fg]? = some (.cells cs 5 fr) := (HBA.out.block fg (by have := HSZY.out; have := HLq.out; omega)).trans (h1.trans hty)
                    have h3 : w'.heap[fg]? = some (.cells cs 5 fr) := row_grown h2 HMA.out.2.1 (by decide) hgr5
                    rw [← hWS]
                    refine fb_blk HSq.out (((Below.heap_setCell _ _ _ _ (by simpa using HFG.out.2)).trans h3).trans hty.symm) ?_
                    have h4 := HSZY.out.1
                    have h5 := HBA.out.size
                    have h6 := hgr5.size
                    simp only [World.size_setCell]
                    omega)
                  have HL9 : Hid (fg < WS.heap.size) := Lib.hid (by
                    have h4 := HSZY.out.1
                    have h5 := HBA.out.size
                    have h6 := hgr5.size
                    have h7 := HLq.out
                    rw [← hWS]
                    simp only [World.size_setCell]
                    omega)
                  clear own' hgr5 hor5 HXR hci HMX HMA HQX HBA HON2 HRD2 HR HMM HOWN HYO
                  go_wp2_with fail
                  clear ck fk hWS
                  go_roundw
                  case rel => exact ⟨j + 1, by omega, by go_num, Lib.hid ⟨HM9.out, HS9.out, HL9.out⟩⟩
                  case measure => simp [intOf]; omega
              · obtain rfl : j = N := by omega
                have HSTOP : Hid (fldQ 5 s = p) := Lib.hid (by rw [HFQ.out, HP.out])
                go_wp2_with fail
                clear c2
                go_roundw
                case rel => exact ⟨k + 1, by omega, by go_num, Lib.hid (by rw [HNX.out, HSTOP.out]; exact ⟨RZ.of HMq.out HSq.out, HLq.out⟩)⟩
                case measure => simp [intOf]; omega
          · have hx : wr.cell? ⟨fg, k, none⟩ = some (.int .u8 115) := hcx
            clear hcx hf6
            have h3m := HM.out.1
            obtain ⟨v, u, h1, h2, h3, h4⟩ := h3m
            have hzz : w.heap.size + 2 ≤ wr.heap.size := by
              obtain ⟨-, -, -, m, a1, i1, j1, a2, i2, j2, a3, i3, j3, a4, i4, j4, hrow, -⟩ := HM.out
              have := row_lt hrow
              omega
            by_cases he : s.2.2 = 0
            · obtain ⟨hu, hdr⟩ := h4 (by rw [he]; rfl)
              have hfq : fldQ 6 s = ({ s.1 with shot := (shotR (zs.drop u, 0)).1 }, (shotR (zs.drop u, 0)).2) := by
                have e2 : s.2 = (zs.drop u, 0) := Prod.ext hdr he
                show shoQ s = _
                unfold shoQ
                rw [if_pos (by rw [he]; rfl), e2]
              have HFQ := Lib.hid hfq
              have hcal := rread_any w0 g zs u v _ (by rw [he] at h1; exact h1) h2 hu HMX.out (HB.out HM.out) HG.out
              have hsw : (shotR (zs.drop u, 0)).2.2 = 0 → ShoW (shotR (zs.drop u, 0)).1 := fun q => by
                rw [(shotR_eq (zs.drop u, 0)).2 (by rw [← (shotR_eq (zs.drop u, 0)).1, q]; rfl)]; exact shotS_w _
              have HSW := Lib.hid hsw
              have HZZ := Lib.hid hzz
              have HE := Lib.hid he
              clear h1 h2 h3 h4 hu hdr hfq hsw hzz he
              go_wp2_with fail
              refine hcal.mono ?_
              clear hcal
              rintro E u5 ⟨vn, vh, vl, rfl, o1, o2, o3, hrk, hok⟩
              rcases hS : shotR (zs.drop u, 0) with ⟨S, st5⟩
              rw [hS] at o1 o2 o3 hrk HFQ HSW
              obtain ⟨b1, n1, c1, rfl⟩ := own_formx o1
              obtain ⟨b2, n2, c2, rfl⟩ := own_formx o2
              obtain ⟨b3, n3, c3, rfl⟩ := own_formx o3
              have HM5 := Lib.hid (HM.out.call HGL.out hrk hok (fun _ => HE.out))
              have HS5 := Lib.hid (fb_step HSX.out hok HFG.out.1 HLT.out)
              have HL5 : Hid (fg < u5.heap.size) := Lib.hid (Nat.lt_of_lt_of_le HLT.out hok.2.2.2.1)
              have HM6 := Lib.hid (HM5.out.shot HGL.out S HZZ.out o1 o2 o3 HSW.out)
              have hth : u5.there (w.heap.size + 1) 9 7 := by
                obtain ⟨-, -, -, m, a1, i1, j1, a2, i2, j2, a3, i3, j3, a4, i4, j4, hrow, -⟩ := HM5.out
                exact there16 hrow
              have hone := Sh.sArr_one S b1 b2 b3 n1 c1 n2 c2 n3 c3
              obtain ⟨V6, hV6⟩ : ∃ q, u5.setCells (w.heap.size + 1) 9 (sArr S (.slice b1 n1 c1) (.slice b2 n2 c2) (.slice b3 n3 c3)).toList = q := ⟨_, rfl⟩
              have HS6 := Lib.hid (fb_step (W1 := V6) HS5.out (by rw [← hV6]; exact onlyC _ _ _) HFG.out.2 HL5.out)
              have HL6 : Hid (fg < V6.heap.size) := Lib.hid (Nat.lt_of_lt_of_le HL5.out (by rw [← hV6]; exact (onlyC (g := w.heap.size + 1) _ _ _).2.2.2.1))
              rw [hV6] at HM6
              clear o1 o2 o3 hrk hok hS HM HSX HM5 HS5
              dsimp only
              go_wp2_with (first
                | (refine wpList_store_mid rfl 31 (.tmp 105) (.tmp 104) rfl (w.heap.size + 1) 9 (sArr S (.slice b1 n1 c1) (.slice b2 n2 c2) (.slice b3 n3 c3)) rfl rfl hth (by kernel_rfl) hone ?_; rw [hV6]; clear hV6 hth)
                | fail)
              clear hx
              go_roundw
              case rel => exact ⟨k + 1, by omega, by go_num, Lib.hid (by rw [HNX.out, HFQ.out]; exact ⟨RZ.of HM6.out HS6.out, HL6.out⟩)⟩
              case measure => simp [intOf]; omega
            · have hv2 : s.2.2 = 10 ∨ s.2.2 = 11 := by
                rcases HV.out with q | q | q
                · exact absurd q he
                · exact .inl q
                · exact .inr q
              have HE := Lib.hid he
              obtain ⟨av, cv, rfl, -⟩ := id h2
              have hcal := rread_stuck g av zs.length cv u s.2.2 wr h1 hv2 (by have := HMX.out; omega)
              have HK1 : Hid (k + 1 = L.length) := Lib.hid (HSIX.out rfl)
              have HFQ : Hid (fldQ 6 s = s) := Lib.hid (by show shoQ s = s; unfold shoQ; rw [if_neg (by rw [bne0 he]; decide)])
              clear h1 h2 h3 h4 hzz he hv2
              go_wp2_with fail
              refine hcal.mono ?_
              clear hcal
              rintro E u5 ⟨rfl, hrb, hok⟩
              obtain ⟨hth, hrx⟩ := HM.out.stuck HGL.out HE.out hok
              have HS5 := Lib.hid (fb_step HSX.out hok HFG.out.1 HLT.out)
              have HL5 : Hid (fg < u5.heap.size) := Lib.hid (Nat.lt_of_lt_of_le HLT.out hok.2.2.2.1)
              obtain ⟨V6, hV6⟩ : ∃ q, u5.setCells (w.heap.size + 1) 9 zSA.toList = q := ⟨_, rfl⟩
              have ho6 : Only (· = w.heap.size + 1) u5 V6 := by rw [← hV6]; exact onlyC _ _ _
              have HS6 := Lib.hid (fb_step (W1 := V6) HS5.out ho6 HFG.out.2 HL5.out)
              have HL6 : Hid (fg < V6.heap.size) := Lib.hid (Nat.lt_of_lt_of_le HL5.out ho6.2.2.2.1)
              have HB6 := Lib.hid (hrb.only ho6 (by have := HGL.out; omega))
              rw [hV6] at hrx
              have HX6 := Lib.hid hrx
              clear hrb hok HM HSX HS5 hrx ho6
              dsimp only
              go_wp2_with (first
                | (refine wpList_store_mid rfl 31 (.tmp 105) (.tmp 104) rfl (w.heap.size + 1) 9 zSA rfl rfl hth (by kernel_rfl) zSA_one ?_; rw [hV6]; clear hV6 hth)
                | fail)
              clear hx
              go_roundw
              case rel => exact ⟨k + 1, by omega, by go_num, Lib.hid (by rw [HNX.out, HFQ.out]; exact ⟨⟨⟨_, _, HB6.out⟩, fun q => by rcases q with q | q; (have := HK1.out; omega); exact absurd q HE.out, HX6.out, HS6.out⟩, HL6.out⟩)⟩
              case measure => simp [intOf]; omega
        · obtain rfl : k = L.length := by omega
          have hro := readQ_of (zs := zs) (K := K) HKD.out
          rw [HLE.out] at hro
          have HRO := Lib.hid hro
          obtain ⟨⟨⟨vr, ur, hrb⟩, hrd, hrx, -⟩, -⟩ := HM0.out
          rw [List.take_length] at hrb hrd hrx
          obtain ⟨hon, hq0, m, a1, i1, j1, a2, i2, j2, a3, i3, j3, a4, i4, j4, hq1, hmm⟩ := hrx
          have hone := mArr_one m a1 a2 a3 a4 i1 j1 i2 j2 i3 j3 i4 j4
          obtain ⟨WZ, hWZ⟩ : ∃ q, wr.setRow w.heap.size (mArr m (.slice a1 i1 j1) (.slice a2 i2 j2) (.slice a3 i3 j3) (.slice a4 i4 j4)) = q := ⟨_, rfl⟩
          have hqz : WZ.heap[w.heap.size]? = some (.cells (mArr m (.slice a1 i1 j1) (.slice a2 i2 j2) (.slice a3 i3 j3) (.slice a4 i4 j4)) 33 (0, 0)) := by rw [← hWZ]; exact setRow_heap _ _ _ _ _ _ hq0
          have hx : Only (· = w.heap.size) wr WZ := by rw [← hWZ]; exact Sc.only_row _ _ _
          have HFIN : Hid (ReadQE w0 g zs w (.returned (.agg (mArr m (.slice a1 i1 j1) (.slice a2 i2 j2) (.slice a3 i3 j3) (.slice a4 i4 j4)))) WZ) := Lib.hid (by
            have hgw := HGL.out
            refine ⟨m, a1, i1, j1, a2, i2, j2, a3, i3, j3, a4, i4, j4, rfl, ⟨vr, ur, ?_⟩, fun q => ?_, Sc.only_new hon (Only.refl _ _) hx (Nat.le_refl _)⟩
            · rw [← HRO.out.1]; exact hrb.only hx (by omega)
            · have e1 := HRO.out.2 q
              rw [e1] at hrd hmm
              obtain ⟨h1, rows, hM⟩ := hmm q
              exact ⟨(hrd (.inr q)).only hx (by omega), h1, rows, hM.only hx (by omega) (by omega)⟩)
          clear hrb hrd hmm hon hx HM0 hro
          go_wp2_with (first
            | (with_reducible refine wpList_load_row rfl 33 (.tmp 3) rfl (w.heap.size + 1) rfl 33 (mArr m (.slice a1 i1 j1) (.slice a2 i2 j2) (.slice a3 i3 j3) (.slice a4 i4 j4)) (0, 0) _ hq1 Tryz.underlying33 rfl (by kernel_rfl) ?_)
            | (with_reducible refine wpList_store_row rfl 33 (.tmp 2) (.tmp 107) rfl w.heap.size (mArr m (.slice a1 i1 j1) (.slice a2 i2 j2) (.slice a3 i3 j3) (.slice a4 i4 j4)) rfl rfl 33 _ hq0 (by kernel_rfl) rfl hone ?_; rw [hWZ]; clear hWZ))
          refine bodyPost_ret (v := .agg (mArr m (.slice a1 i1 j1) (.slice a2 i2 j2) (.slice a3 i3 j3) (.slice a4 i4 j4))) (results_cell_row rfl _ _ w.heap.size 33 _ (0, 0) _ rfl hqz Tryz.underlying33 rfl (by kernel_rfl)) rfl ?_
          exact HFIN.out
end Ms
end Go.Proofs.YtlfaiemebfkajaaGreatDoor
namespace Go.Proofs.YtlfaiemebfkajaaGreatDoor
open Go.ChangeShapes Go.WideShapes Go.ChangeAt Go.RowKit Go.Deep
set_option linter.unusedVariables false
set_option maxRecDepth 100000
namespace Ms
open Nv Cm Sc Rk Hd
theorem opens_wfb8 {zs xs : List Int} {k : Nat} {er : Int} (h : Fr.Opens zs xs k er) (hw : WfB zs) : WfB xs := by
  cases h
  all_goals first
    | exact fun n hn => hw n (List.mem_of_mem_drop (List.mem_of_mem_take hn))
    | exact fun n hn => absurd hn List.not_mem_nil
theorem decQ_err {xs : List Int} {e : Int} (h : endQ (readQ xs) = e) (he : e ≠ 0) : decQ xs = (nilM0, e) := by
  unfold decQ
  rw [if_pos (by rw [h]; exact he), h]
theorem decQ_ok {xs : List Int} {m : Mes} (h : endQ (readQ xs) = 0) (h1 : (readQ xs).1 = m) (ok : msgOk m) : decQ xs = (m, 0) := by rw [decQ_of h h1, if_pos ok]
theorem decQ_no {xs : List Int} {m : Mes} (h : endQ (readQ xs) = 0) (h1 : (readQ xs).1 = m) (ok : ¬ msgOk m) : decQ xs = (nilM0, 80) := by rw [decQ_of h h1, if_neg ok]
theorem MM.om {B0 g2 : Nat} {m : Mes} {ve vn vh vl : Value} {rows : List ERow} {W : World} (h : MM B0 g2 m ve vn vh vl rows W) : OM B0 m ve vn vh vl rows W := h.2
set_option maxHeartbeats 8000000 in
theorem rdec8 (v : Value) (zs : List Int) (w : World) (hs : Sl .u8 w v zs) (hbig : zs.length ≤ 140737488351232) : Calls Tryz.prog 6 #[v] w (DecME zs w) := by
  have HBY : Hid (∀ i, i < zs.length → 0 ≤ zs.getD i 0 ∧ zs.getD i 0 ≤ 255) := Lib.hid (fun i hi => bounds_u8 (hs.wf _ (Oc.ugetD hi).1))
  have HWF : Hid (WfB zs) := Lib.hid hs.wf
  obtain ⟨a, cap, rfl, -⟩ := id hs
  have hb0 : Below w.heap.size w (w.alloc (.cells zMB 33)) := (Below.refl _ _).alloc (Nat.le_refl _) _
  have HR0 : Hid ((w.alloc (.cells zMB 33)).heap[w.heap.size]? = some (.cells zMB 33 (0, 0))) := Lib.hid (heap_alloc_new _ _)
  have HS0 := Lib.hid (hs.below hb0 (Nat.le_refl _))
  have HB0 := Lib.hid hb0
  have HBIG := Lib.hid hbig
  have hlen := hs.len
  unfold maxLen at hlen
  clear hs hb0 hbig
  go_enter Tryz.func6, Tryz.ntmps6
  go_wp2_with fail
  refine (Fr.ropen_any _ _ _ HS0.out HBIG.out).mono ?_
  rintro e w1 ⟨v1, ys, k, er, rfl, hop, -, hs1, hb1⟩
  have HOP := Lib.hid hop
  have hr1 := (hb1.block _ (row_lt HR0.out)).trans HR0.out
  have HR1 := Lib.hid hr1
  have HB1 := Lib.hid (HB0.out.trans (hb1.mono HB0.out.size))
  have HS1 := Lib.hid hs1
  clear hop hb1 hs1
  by_cases he : er = 0
  rotate_left
  · have HE := Lib.hid he
    have he0 : (er != 0) = true := bne_t he
    clear he
    go_wp2_with (refine wpList_store_row rfl 33 (.tmp 2) (.tmp 18) rfl w.heap.size zMB rfl rfl 33 _ hr1 (by kernel_rfl) rfl zMB_one ?_)
    refine bodyPost_ret (v := .tuple #[.agg zMB, .int .i64 er]) (results_c2 rfl _ _ w.heap.size 33 _ (0, 0) _ rfl (setRow_heap _ _ _ _ _ _ hr1) Tryz.underlying33 rfl (by kernel_rfl) rfl) rfl ?_
    exact ⟨nilM0, er, _, _, _, _, [], rfl, ⟨ys, k, er, HOP.out, .inl ⟨HE.out, rfl, rfl⟩⟩, om_nil _ _, Ld.below_row HB1.out (Nat.le_refl _) _⟩
  subst he
  by_cases hk : k < zs.length
  · have hki : (k : Int) < (zs.length : Int) := by omega
    go_wp2_with (refine wpList_store_row rfl 33 (.tmp 2) (.tmp 24) rfl w.heap.size zMB rfl rfl 33 _ hr1 (by kernel_rfl) rfl zMB_one ?_)
    refine bodyPost_ret (v := .tuple #[.agg zMB, .int .i64 11]) (results_c2 rfl _ _ w.heap.size 33 _ (0, 0) _ rfl (setRow_heap _ _ _ _ _ _ hr1) Tryz.underlying33 rfl (by kernel_rfl) rfl) rfl ?_
    exact ⟨nilM0, 11, _, _, _, _, [], rfl, ⟨ys, k, 0, HOP.out, .inr (.inl ⟨rfl, hk, rfl, rfl⟩)⟩, om_nil _ _, Ld.below_row HB1.out (Nat.le_refl _) _⟩
  have hki : (zs.length : Int) ≤ (k : Int) := by omega
  have HK : Hid (zs.length ≤ k) := Lib.hid (by omega)
  have HYL : Hid (ys.length ≤ 8192) := Lib.hid (Fr.opens_same HBY.out HOP.out).1
  have HYW : Hid (WfB ys) := Lib.hid (opens_wfb8 HOP.out HWF.out)
  have HDQ : Hid (decQ ys = decM ys) := Lib.hid (decQ_eq HYW.out HYL.out)
  obtain ⟨av, cv, rfl, -⟩ := id HS1.out
  clear hk hr1
  obtain ⟨W2, hW2⟩ : ∃ q, w1.alloc (.cells #[.slice av ys.length cv, .int .i64 0, .int .i64 0] 47) = q := ⟨_, rfl⟩
  have hb2 : Below w1.heap.size w1 W2 := by rw [← hW2]; exact (Below.refl _ _).alloc (Nat.le_refl _) _
  have HRB2 : Hid (RB w1.heap.size (.slice av ys.length cv) 0 0 W2) := Lib.hid (by rw [← hW2]; exact heap_alloc_new _ _)
  have HB2 := Lib.hid (HB1.out.trans (hb2.mono HB1.out.size))
  have HBX2 := Lib.hid hb2
  have HR2 := Lib.hid ((hb2.block _ (row_lt HR1.out)).trans HR1.out)
  have HZ : Hid (w.heap.size < w1.heap.size ∧ w1.heap.size < W2.heap.size) := Lib.hid ⟨row_lt HR1.out, row_lt HRB2.out⟩
  clear hb2
  go_upto_region 7 with (fail)
  clear hW2
  go_wp2_with fail
  refine (rread8 w1 w1.heap.size ys W2 ⟨_, 0, HRB2.out, HS1.out, Nat.zero_le _, fun _ => ⟨Nat.zero_le _, rfl⟩⟩ HYL.out HYW.out HBX2.out (Nat.le_refl _)).mono ?_
  rintro e w3 ⟨mm, a1, i1, j1, a2, i2, j2, a3, i3, j3, a4, i4, j4, rfl, hrb, hq, ho⟩
  rcases hS : readQ ys with ⟨mq, rest, er⟩
  rw [hS] at hrb hq
  dsimp only at hrb hq
  have HS := Lib.hid hS
  have HB3 : Hid (Below w.heap.size w w3) := Lib.hid (ho.below HB2.out HB2.out.size (fun q hq => by have := HZ.out; omega))
  have HR3 := Lib.hid ((ho.2.2.2.2 _ (row_lt HR2.out) (by have := HZ.out; omega)).trans HR2.out)
  have HSZ : Hid (W2.heap.size ≤ w3.heap.size) := Lib.hid ho.2.2.2.1
  have hst : (w3.alloc (.cells zMB 33)).heap[w3.heap.size]? = some (.cells zMB 33 (0, 0)) := heap_alloc_new _ _
  obtain ⟨W4, hW4⟩ : ∃ q, (w3.alloc (.cells zMB 33)).setRow w3.heap.size (mArr mm (.slice a1 i1 j1) (.slice a2 i2 j2) (.slice a3 i3 j3) (.slice a4 i4 j4)) = q := ⟨_, rfl⟩
  have hb4 : Below w3.heap.size w3 W4 := by rw [← hW4]; exact Ld.below_row ((Below.refl _ _).alloc (Nat.le_refl _) _) (Nat.le_refl _) _
  have hq4 : W4.heap[w3.heap.size]? = some (.cells (mArr mm (.slice a1 i1 j1) (.slice a2 i2 j2) (.slice a3 i3 j3) (.slice a4 i4 j4)) 33 (0, 0)) := by rw [← hW4]; exact setRow_heap _ _ _ _ _ _ hst
  have HQ4 := Lib.hid hq4
  have HBX4 := Lib.hid hb4
  have HB4 := Lib.hid (HB3.out.trans (hb4.mono HB3.out.size))
  have HR4 := Lib.hid ((hb4.block _ (row_lt HR3.out)).trans HR3.out)
  have hone := mArr_one mm a1 a2 a3 a4 i1 j1 i2 j2 i3 j3 i4 j4
  have HEND : Hid (endQ (readQ ys) = if er = 0 ∧ 0 < rest.length then 11 else er) := Lib.hid (by rw [HS.out]; rfl)
  clear hS ho hb4
  by_cases her : er = 0
  rotate_left
  · have hne : (er != 0) = true := bne_t her
    have hne2 : (er == 0) = false := beq_f her
    have HD : Hid (decM ys = (nilM0, er)) := Lib.hid (by rw [← HDQ.out]; exact decQ_err (by rw [HEND.out, if_neg (fun q => her q.1)]) her)
    obtain ⟨vq, u, hrow0⟩ := hrb
    have hrow : RB w1.heap.size vq u er W4 := (HBX4.out.block _ (row_lt hrow0)).trans hrow0
    have HROW := Lib.hid hrow
    have e2 := hrow.c2
    clear hrow hrow0 hq her
    go_upto_region 11 with (first | (refine wpList_store_row rfl 33 (.tmp 8) (.tmp 29) rfl w3.heap.size (mArr mm (.slice a1 i1 j1) (.slice a2 i2 j2) (.slice a3 i3 j3) (.slice a4 i4 j4)) rfl rfl 33 _ hst (by kernel_rfl) rfl hone ?_; rw [hW4]; clear hW4 hst) | fail)
    obtain ⟨WZ, hWZ⟩ : ∃ q, W4.drew.setRow w.heap.size zMB = q := ⟨_, rfl⟩
    have HQD : Hid (W4.drew.heap[w.heap.size]? = some (.cells zMB 33 (0, 0))) := Lib.hid HR4.out
    have HQZ : Hid (WZ.heap[w.heap.size]? = some (.cells zMB 33 (0, 0))) := Lib.hid (by rw [← hWZ]; exact setRow_heap _ _ _ _ _ _ HQD.out)
    have HRZ : Hid (WZ.heap[w1.heap.size]? = some (.cells (rA vq u er) 47 (0, 0))) := Lib.hid (by rw [← hWZ]; exact (setRow_other _ _ _ _ (by have := HZ.out; omega)).trans HROW.out)
    have HBZ : Hid (Below w.heap.size w WZ) := Lib.hid (by rw [← hWZ]; exact Ld.below_row HB4.out.drew (Nat.le_refl _) _)
    refine wp_region_held_drew (S := fun w' => w'.heap[w1.heap.size]? = some (.cells (rA vq u er) 47 (0, 0))) (by kernel_rfl) HROW.out (fun hHeld => ?_)
    refine wpAnyH_take (i := 0) (v := (.agg zMB)) rfl (by kernel_rfl) (by kernel_rfl) (by kernel_rfl) (fun _ _ _ h => h) (Or.inl ⟨by kernel_rfl, ?_⟩) (by assumption) ?_
    · intro wx hSw
      clear hSw hHeld
      go_simp
      try first | with_reducible rfl | kernel_rfl
    simp only [Act.put, List.getElem_toArray, List.getElem_cons_zero, List.setIfInBounds_toArray, List.set_cons_succ, List.set_cons_zero]
    refine wpAnyH_take (i := 1) (v := .pointer (some ⟨w1.heap.size, 0, none⟩)) rfl (by kernel_rfl) (by kernel_rfl) (by kernel_rfl) (fun _ _ _ h => h) (Or.inl ⟨by kernel_rfl, ?_⟩) (by assumption) ?_
    · intro wx hSw
      clear hSw hHeld
      go_simp
      try first | with_reducible rfl | kernel_rfl
    simp only [Act.put, List.getElem_toArray, List.getElem_cons_succ, List.getElem_cons_zero, List.setIfInBounds_toArray, List.set_cons_succ, List.set_cons_zero]
    refine wpAnyH_take (i := 2) (v := .pointer (some ⟨w1.heap.size, 0, none⟩)) rfl (by kernel_rfl) (by kernel_rfl) (by kernel_rfl) (fun _ _ _ h => h) (Or.inl ⟨by kernel_rfl, ?_⟩) (by assumption) ?_
    · intro wx hSw
      clear hSw hHeld
      go_simp
      try first | with_reducible rfl | kernel_rfl
    simp only [Act.put, List.getElem_toArray, List.getElem_cons_succ, List.getElem_cons_zero, List.setIfInBounds_toArray, List.set_cons_succ, List.set_cons_zero]
    refine wpAnyH_take (i := 3) (v := .pointer (some ⟨w1.heap.size, 2, none⟩)) rfl (by kernel_rfl) (by kernel_rfl) (by kernel_rfl) (fun _ _ _ h => h) (Or.inl ⟨by kernel_rfl, ?_⟩) (by assumption) ?_
    · intro wx hSw
      clear hSw hHeld
      go_simp
      try first | with_reducible rfl | kernel_rfl
    simp only [Act.put, List.getElem_toArray, List.getElem_cons_succ, List.getElem_cons_zero, List.setIfInBounds_toArray, List.set_cons_succ, List.set_cons_zero]
    refine wpAnyH_take (i := 4) (v := (.int .i64 er)) rfl (by kernel_rfl) (by kernel_rfl) (by kernel_rfl) (fun _ _ _ h => h) (Or.inl ⟨by kernel_rfl, ?_⟩) (by assumption) ?_
    · intro wx hSw
      have cc : wx.cell? ⟨w1.heap.size, 2, none⟩ = some (.int .i64 er) := (cell_of_row wx _ 2 _ _ _ hSw).trans rfl
      clear hSw hHeld
      go_simp
      try first | with_reducible rfl | kernel_rfl
    simp only [Act.put, List.getElem_toArray, List.getElem_cons_succ, List.getElem_cons_zero, List.setIfInBounds_toArray, List.set_cons_succ, List.set_cons_zero]
    refine wpAnyH_ready (rs := [5]) (by kernel_rfl) (by simp) ?_
    refine AllReadyH.cons rfl (fun K hK => ?_) AllReadyH.nil
    rw [if_pos (by kernel_rfl)]
    refine wp_store_row 33 (.tmp 2) (.tmp 51) (by kernel_rfl) w.heap.size zMB (by kernel_rfl) (by kernel_rfl) 33 zMB HQD.out (by kernel_rfl) (by kernel_rfl) zMB_one ?_
    rw [hWZ]
    clear hHeld
    refine hK.out _ _ HRZ.out (fun hHeld => ?_)
    clear hK K
    refine wpAnyH_take (i := 6) (v := (.int .i64 er)) rfl (by kernel_rfl) (by kernel_rfl) (by kernel_rfl) (fun _ _ _ h => h) (Or.inl ⟨by kernel_rfl, ?_⟩) (by assumption) ?_
    · intro wx hSw
      clear hSw hHeld
      go_simp
      try first | with_reducible rfl | kernel_rfl
    simp only [Act.put, List.getElem_toArray, List.getElem_cons_succ, List.getElem_cons_zero, List.setIfInBounds_toArray, List.set_cons_succ, List.set_cons_zero]
    refine wpAnyH_done (by kernel_rfl) ?_ _
    clear hHeld
    go_wp2_with fail
    refine bodyPost_ret (v := .tuple #[.agg zMB, .int .i64 er]) (results_c2 rfl _ _ w.heap.size 33 _ (0, 0) _ rfl HQZ.out Tryz.underlying33 rfl (by kernel_rfl) rfl) rfl ?_
    exact ⟨nilM0, er, _, _, _, _, [], rfl, ⟨ys, k, 0, HOP.out, .inr (.inr ⟨rfl, HK.out, HD.out.symm⟩)⟩, om_nil _ _, HBZ.out⟩
  subst her
  obtain ⟨hrd, hmq, rows, hMM⟩ := hq rfl

  have HMQ : Hid ((readQ ys).1 = mm) := Lib.hid (by rw [HS.out]; exact hmq.symm)
  obtain ⟨vq, u, hrow0, -, -, hrest⟩ := hrd
  obtain ⟨hu, hru⟩ := hrest rfl
  dsimp only at hru hrow0
  have HOM4 : Hid (OM (W2.heap.size + 2) mm (.slice a1 i1 j1) (.slice a2 i2 j2) (.slice a3 i3 j3) (.slice a4 i4 j4) rows W4) := Lib.hid (hMM.om.blk (Nat.le_refl _) (fun q hq _ => HBX4.out.block q hq))
  have hrow : RB w1.heap.size vq u 0 W4 := (HBX4.out.block _ (row_lt hrow0)).trans hrow0
  have HROW := Lib.hid hrow
  have e1 := hrow.c1
  have e2 := hrow.c2
  clear hrow hrow0 hrest hMM hmq hrb hq
  by_cases hrl : u < ys.length
  · have hrl2 : (u : Int) < (ys.length : Int) := by omega
    have HD : Hid (decM ys = (nilM0, 11)) := Lib.hid (by rw [← HDQ.out]; exact decQ_err (by rw [HEND.out, if_pos ⟨rfl, by rw [hru, List.length_drop]; omega⟩]) (by decide))
    clear hru hu hrl
    go_wp2_with (first | (refine wpList_store_row rfl 33 (.tmp 8) (.tmp 29) rfl w3.heap.size (mArr mm (.slice a1 i1 j1) (.slice a2 i2 j2) (.slice a3 i3 j3) (.slice a4 i4 j4)) rfl rfl 33 _ hst (by kernel_rfl) rfl hone ?_; rw [hW4]; clear hW4 hst) | fail)
    refine (fail_any w1.heap.size vq u 0 11 W4 HROW.out).mono ?_
    rintro E W5 ⟨rfl, hr5, ho5, -⟩
    have HROW5 : Hid (RB w1.heap.size vq u 11 W5) := Lib.hid hr5
    have HR5 := Lib.hid ((ho5.2.2.2.2 _ (row_lt HR4.out) (by have := HZ.out; omega)).trans HR4.out)
    have HB5 : Hid (Below w.heap.size w W5) := Lib.hid (ho5.below HB4.out HB4.out.size (fun q hq => by have := HZ.out; omega))
    have g2 := HROW5.out.c2
    clear ho5 hr5 e1 e2 hq4
    go_upto_region 11 with (fail)
    obtain ⟨WZ, hWZ⟩ : ∃ q, W5.drew.setRow w.heap.size zMB = q := ⟨_, rfl⟩
    have HQD : Hid (W5.drew.heap[w.heap.size]? = some (.cells zMB 33 (0, 0))) := Lib.hid HR5.out
    have HQZ : Hid (WZ.heap[w.heap.size]? = some (.cells zMB 33 (0, 0))) := Lib.hid (by rw [← hWZ]; exact setRow_heap _ _ _ _ _ _ HQD.out)
    have HRZ : Hid (WZ.heap[w1.heap.size]? = some (.cells (rA vq u 11) 47 (0, 0))) := Lib.hid (by rw [← hWZ]; exact (setRow_other _ _ _ _ (by have := HZ.out; omega)).trans HROW5.out)
    have HBZ : Hid (Below w.heap.size w WZ) := Lib.hid (by rw [← hWZ]; exact Ld.below_row HB5.out.drew (Nat.le_refl _) _)
    refine wp_region_held_drew (S := fun w' => w'.heap[w1.heap.size]? = some (.cells (rA vq u 11) 47 (0, 0))) (by kernel_rfl) HROW5.out (fun hHeld => ?_)
    refine wpAnyH_take (i := 0) (v := (.agg zMB)) rfl (by kernel_rfl) (by kernel_rfl) (by kernel_rfl) (fun _ _ _ h => h) (Or.inl ⟨by kernel_rfl, ?_⟩) (by assumption) ?_
    · intro wx hSw
      clear hSw hHeld
      go_simp
      try first | with_reducible rfl | kernel_rfl
    simp only [Act.put, List.getElem_toArray, List.getElem_cons_zero, List.setIfInBounds_toArray, List.set_cons_succ, List.set_cons_zero]
    refine wpAnyH_take (i := 1) (v := .pointer (some ⟨w1.heap.size, 0, none⟩)) rfl (by kernel_rfl) (by kernel_rfl) (by kernel_rfl) (fun _ _ _ h => h) (Or.inl ⟨by kernel_rfl, ?_⟩) (by assumption) ?_
    · intro wx hSw
      clear hSw hHeld
      go_simp
      try first | with_reducible rfl | kernel_rfl
    simp only [Act.put, List.getElem_toArray, List.getElem_cons_succ, List.getElem_cons_zero, List.setIfInBounds_toArray, List.set_cons_succ, List.set_cons_zero]
    refine wpAnyH_take (i := 2) (v := .pointer (some ⟨w1.heap.size, 0, none⟩)) rfl (by kernel_rfl) (by kernel_rfl) (by kernel_rfl) (fun _ _ _ h => h) (Or.inl ⟨by kernel_rfl, ?_⟩) (by assumption) ?_
    · intro wx hSw
      clear hSw hHeld
      go_simp
      try first | with_reducible rfl | kernel_rfl
    simp only [Act.put, List.getElem_toArray, List.getElem_cons_succ, List.getElem_cons_zero, List.setIfInBounds_toArray, List.set_cons_succ, List.set_cons_zero]
    refine wpAnyH_take (i := 3) (v := .pointer (some ⟨w1.heap.size, 2, none⟩)) rfl (by kernel_rfl) (by kernel_rfl) (by kernel_rfl) (fun _ _ _ h => h) (Or.inl ⟨by kernel_rfl, ?_⟩) (by assumption) ?_
    · intro wx hSw
      clear hSw hHeld
      go_simp
      try first | with_reducible rfl | kernel_rfl
    simp only [Act.put, List.getElem_toArray, List.getElem_cons_succ, List.getElem_cons_zero, List.setIfInBounds_toArray, List.set_cons_succ, List.set_cons_zero]
    refine wpAnyH_take (i := 4) (v := (.int .i64 11)) rfl (by kernel_rfl) (by kernel_rfl) (by kernel_rfl) (fun _ _ _ h => h) (Or.inl ⟨by kernel_rfl, ?_⟩) (by assumption) ?_
    · intro wx hSw
      have cc : wx.cell? ⟨w1.heap.size, 2, none⟩ = some (.int .i64 11) := (cell_of_row wx _ 2 _ _ _ hSw).trans rfl
      clear hSw hHeld
      go_simp
      try first | with_reducible rfl | kernel_rfl
    simp only [Act.put, List.getElem_toArray, List.getElem_cons_succ, List.getElem_cons_zero, List.setIfInBounds_toArray, List.set_cons_succ, List.set_cons_zero]
    refine wpAnyH_ready (rs := [5]) (by kernel_rfl) (by simp) ?_
    refine AllReadyH.cons rfl (fun K hK => ?_) AllReadyH.nil
    rw [if_pos (by kernel_rfl)]
    refine wp_store_row 33 (.tmp 2) (.tmp 51) (by kernel_rfl) w.heap.size zMB (by kernel_rfl) (by kernel_rfl) 33 zMB HQD.out (by kernel_rfl) (by kernel_rfl) zMB_one ?_
    rw [hWZ]
    clear hHeld
    refine hK.out _ _ HRZ.out (fun hHeld => ?_)
    clear hK K
    refine wpAnyH_take (i := 6) (v := (.int .i64 11)) rfl (by kernel_rfl) (by kernel_rfl) (by kernel_rfl) (fun _ _ _ h => h) (Or.inl ⟨by kernel_rfl, ?_⟩) (by assumption) ?_
    · intro wx hSw
      clear hSw hHeld
      go_simp
      try first | with_reducible rfl | kernel_rfl
    simp only [Act.put, List.getElem_toArray, List.getElem_cons_succ, List.getElem_cons_zero, List.setIfInBounds_toArray, List.set_cons_succ, List.set_cons_zero]
    refine wpAnyH_done (by kernel_rfl) ?_ _
    clear hHeld
    go_wp2_with fail
    refine bodyPost_ret (v := .tuple #[.agg zMB, .int .i64 11]) (results_c2 rfl _ _ w.heap.size 33 _ (0, 0) _ rfl HQZ.out Tryz.underlying33 rfl (by kernel_rfl) rfl) rfl ?_
    exact ⟨nilM0, 11, _, _, _, _, [], rfl, ⟨ys, k, 0, HOP.out, .inr (.inr ⟨rfl, HK.out, HD.out.symm⟩)⟩, om_nil _ _, HBZ.out⟩
  have hrl2 : ¬ (u : Int) < (ys.length : Int) := by omega
  have HE0 : Hid (endQ (readQ ys) = 0) := Lib.hid (by rw [HEND.out, if_neg (fun q => by have := q.2; rw [hru, List.length_drop] at this; omega)])
  clear hru hu hrl
  go_wp2_with (first
    | (refine wpList_store_row rfl 33 (.tmp 8) (.tmp 29) rfl w3.heap.size (mArr mm (.slice a1 i1 j1) (.slice a2 i2 j2) (.slice a3 i3 j3) (.slice a4 i4 j4)) rfl rfl 33 _ hst (by kernel_rfl) rfl hone ?_; rw [hW4]; clear hW4 hst)
    | (with_reducible refine wpList_load_row rfl 33 (.tmp 8) rfl w3.heap.size rfl 33 (mArr mm (.slice a1 i1 j1) (.slice a2 i2 j2) (.slice a3 i3 j3) (.slice a4 i4 j4)) (0, 0) _ hq4 Tryz.underlying33 rfl (by kernel_rfl) ?_))
  refine (rcheck_any mm _ _ HOM4.out.msg).mono ?_
  rintro e w5 ⟨z, rfl, hz, hb5⟩
  have hq5 := (hb5.block _ (row_lt HQ4.out)).trans HQ4.out
  have hr5 := (hb5.block _ (row_lt HR4.out)).trans HR4.out
  have HB5 := Lib.hid (HB4.out.trans (hb5.mono HB4.out.size))
  have HOM5 : Hid (OM (W2.heap.size + 2) mm (.slice a1 i1 j1) (.slice a2 i2 j2) (.slice a3 i3 j3) (.slice a4 i4 j4) rows w5) := Lib.hid (HOM4.out.blk (Nat.le_refl _) (fun q hq _ => hb5.block q hq))
  clear hq4 e1 e2 hb5
  rcases hz with ⟨rfl, hok⟩ | ⟨rfl, hno⟩
  · have HD : Hid (decM ys = (mm, 0)) := Lib.hid (by rw [← HDQ.out]; exact decQ_ok HE0.out HMQ.out hok)
    have HFO : Hid (OM w.heap.size mm (.slice a1 i1 j1) (.slice a2 i2 j2) (.slice a3 i3 j3) (.slice a4 i4 j4) rows (w5.setRow w.heap.size (mArr mm (.slice a1 i1 j1) (.slice a2 i2 j2) (.slice a3 i3 j3) (.slice a4 i4 j4)))) := Lib.hid (HOM5.out.blk (by have := HZ.out; omega) (fun q hq hB => setRow_other _ _ _ _ (by have := HZ.out; omega)))
    clear hok
    go_wp2_with (first
      | (with_reducible refine wpList_load_row rfl 33 (.tmp 8) rfl w3.heap.size rfl 33 (mArr mm (.slice a1 i1 j1) (.slice a2 i2 j2) (.slice a3 i3 j3) (.slice a4 i4 j4)) (0, 0) _ hq5 Tryz.underlying33 rfl (by kernel_rfl) ?_)
      | (refine wpList_store_row rfl 33 (.tmp 2) (.tmp 62) rfl w.heap.size (mArr mm (.slice a1 i1 j1) (.slice a2 i2 j2) (.slice a3 i3 j3) (.slice a4 i4 j4)) rfl rfl 33 _ hr5 (by kernel_rfl) rfl hone ?_))
    refine bodyPost_ret (v := .tuple #[.agg (mArr mm (.slice a1 i1 j1) (.slice a2 i2 j2) (.slice a3 i3 j3) (.slice a4 i4 j4)), .int .i64 0]) (results_c2 rfl _ _ w.heap.size 33 _ (0, 0) _ rfl (setRow_heap _ _ _ _ _ _ hr5) Tryz.underlying33 rfl (by kernel_rfl) rfl) rfl ?_
    exact ⟨mm, 0, _, _, _, _, rows, rfl, ⟨ys, k, 0, HOP.out, .inr (.inr ⟨rfl, HK.out, HD.out.symm⟩)⟩, HFO.out, Ld.below_row HB5.out (Nat.le_refl _) _⟩
  · have HD : Hid (decM ys = (nilM0, 80)) := Lib.hid (by rw [← HDQ.out]; exact decQ_no HE0.out HMQ.out hno)
    clear hno
    go_wp2_with (refine wpList_store_row rfl 33 (.tmp 2) (.tmp 60) rfl w.heap.size zMB rfl rfl 33 _ hr5 (by kernel_rfl) rfl zMB_one ?_)
    refine bodyPost_ret (v := .tuple #[.agg zMB, .int .i64 80]) (results_c2 rfl _ _ w.heap.size 33 _ (0, 0) _ rfl (setRow_heap _ _ _ _ _ _ hr5) Tryz.underlying33 rfl (by kernel_rfl) rfl) rfl ?_
    exact ⟨nilM0, 80, _, _, _, _, [], rfl, ⟨ys, k, 0, HOP.out, .inr (.inr ⟨rfl, HK.out, HD.out.symm⟩)⟩, om_nil _ _, Ld.below_row HB5.out (Nat.le_refl _) _⟩
end Ms
end Go.Proofs.YtlfaiemebfkajaaGreatDoor
