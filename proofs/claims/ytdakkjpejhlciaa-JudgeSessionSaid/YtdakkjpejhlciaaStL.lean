/- A copy of a reader; some texts. No condition. -/
import Derived.Test.YtdakkjpejhlciaaStK
namespace Go.Proofs.Ytdakkjpejhlciaa
open Go.ChangeShapes Go.WideShapes Go.ChangeAt Go.RowKit
set_option linter.unusedVariables false
set_option maxRecDepth 100000
namespace St
def ClonedR (B : Nat) (s : Rst) (w : World) (e : Ending) (w' : World) : Prop := ∃ S', e = .returned (.pointer (some ⟨w.heap.size, 0, none⟩)) ∧ Rdr B w' w.heap.size s S' ∧ (∀ q, S' = some q → w.heap.size < q) ∧ Below w.heap.size w w'
set_option maxHeartbeats 4000000 in
theorem clone_any (B g : Nat) (s : Rst) (S : Option Nat) (w : World) (h : Rdr B w g s S) (hok : okR s) : Calls Try.prog 45 #[.pointer (some ⟨g, 0, none⟩)] w (ClonedR B s w) := by
  have hgl := h.lt
  obtain ⟨vt, k1, k2, hS, h4, h5⟩ := id h
  obtain ⟨h1, -, -, h48, hwf, -, -⟩ := hok
  have HSL := Lib.hid (k2.sl hwf)
  have HW := Lib.hid hwf
  obtain ⟨av, cv, rfl, hv1, hv2, -⟩ := k2.sl hwf
  unfold maxLen at hv2
  obtain ⟨d0, d1, d2, -, -, -⟩ := cells3 k1
  have hb1 : Below w.heap.size w (w.alloc (.cells #[.int .i64 s.st, .int .i64 s.want, .slice av s.text.length cv] 86)) := (Below.refl _ _).alloc (Nat.le_refl _) _
  have HB1 := Lib.hid hb1
  have HSL1 := Lib.hid (HSL.out.below hb1 (Nat.le_refl _))
  have HZ1 := Lib.hid (heap_alloc_new w (.cells #[.int .i64 s.st, .int .i64 s.want, .slice av s.text.length cv] 86))
  have HS1 : Hid ((w.alloc (.cells #[.int .i64 s.st, .int .i64 s.want, .slice av s.text.length cv] 86)).heap.size = w.heap.size + 1) := Lib.hid (by simp)
  have HBW : Hid (B ≤ w.heap.size) := Lib.hid (by omega)
  have HROW : Hid (∀ w', (w.alloc (.cells #[.int .i64 s.st, .int .i64 s.want, .slice av s.text.length cv] 86)).grownBy w' (Value.slice none 0 0).ownBlock → w'.heap[w.heap.size]? = some (.cells #[.int .i64 s.st, .int .i64 s.want, .slice av s.text.length cv] 86 (0, 0))) := Lib.hid (fun w' hg => (hg.block w.heap.size (by have := HS1.out; omega) (fun e => by cases e)).trans HZ1.out)
  clear h k1 k2 hS h4 hwf hb1
  go_enter Try.func45, Try.ntmps45
  go_wp2_with (at_builtin; refine app8q rfl (.const (.slice none 0 0)) (.tmp 12) rfl (w.heap.size + 1) (.slice none 0 0) [] rfl (Own.nil _ _) (.slice av s.text.length cv) s.text rfl HSL1.out (by simp; omega) (by have := HS1.out; omega) ?_; intro v2 w2 hown2 hgr2 hli2; rw [List.nil_append] at hown2; obtain ⟨a2, c2, hv2', -⟩ := id (hown2.sl HW.out); subst hv2'; have hrow2 := HROW.out w2 hgr2; have HROW2 := Lib.hid hrow2; have HOWN2 := Lib.hid hown2; have HGR2 := Lib.hid hgr2; obtain ⟨x0, x1, x2, y0, y1, y2⟩ := cells3 hrow2; clear hown2 hgr2 hli2 hrow2)
  go_ret
  have hn : ∀ q, (Value.slice a2 s.text.length c2).ownBlock = some q → w.heap.size + 1 ≤ q := fun q hq => (World.ownsRow.lt HOWN2.out q hq).1
  have hne : (Value.slice a2 s.text.length c2).ownBlock ≠ some w.heap.size := fun e => by have := hn _ e; omega
  refine ⟨_, rfl, ⟨_, thr2 HROW2.out, own_set ?_ hne, rfl, hne, HBW.out⟩, fun q hq => by have := hn q hq; omega, (HB1.out.grown HGR2.out (by have := HS1.out; omega) (fun q hq => by cases hq)).setCell (Nat.le_refl _) _⟩
  exact Own.mono HOWN2.out (by have := HBW.out; omega)
theorem XRd.same {w w' : World} {g : Nat} {s : Rst} (h : XRd w g s) (h1 : w'.heap[g]? = w.heap[g]?) : XRd w' g s := by
  obtain ⟨p, h2, h3⟩ := h
  exact ⟨p, h1.trans h2, h3⟩
theorem XRd.lt {w : World} {g : Nat} {s : Rst} (h : XRd w g s) : g < w.heap.size := by
  obtain ⟨p, h2, h3⟩ := h
  exact (Array.getElem?_eq_some_iff.1 h2).1
theorem pend_left {s : Rst} (h : okR s) : ((pend s).length : Int) = leftV s := by
  obtain ⟨h1, -⟩ := h
  unfold pend leftV
  rcases h1 with q | q | q | q
  · rw [if_neg (by omega), if_neg (by omega), if_neg (by omega), if_neg (by omega)]; rfl
  · rw [if_pos q, if_pos q]; rfl
  · rw [if_neg (by omega), if_pos q, if_neg (by omega), if_pos q]; simp; omega
  · rw [if_neg (by omega), if_neg (by omega), if_neg (by omega), if_neg (by omega)]; rfl
end St
end Go.Proofs.Ytdakkjpejhlciaa
