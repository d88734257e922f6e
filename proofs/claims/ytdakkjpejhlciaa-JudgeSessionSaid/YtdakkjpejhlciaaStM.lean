/- What a law writes into frames and bytes that were told. No condition. -/
import Derived.Test.YtdakkjpejhlciaaStL
namespace Go.Proofs.Ytdakkjpejhlciaa
open Go.ChangeShapes Go.WideShapes Go.ChangeAt Go.RowKit
set_option linter.unusedVariables false
set_option maxRecDepth 100000
namespace St
/-- '[]byte(s)', with its row -/
theorem conv_row (w : World) (s : ByteArray) (hl : s.size ≤ maxLen) : ∃ cap w', (convert 9 37 (.string s)).run Try.prog w = .ok (.slice (some ⟨w.heap.size, 0, none⟩) s.size cap) w' ∧
    (∀ w2, w2.heap[w.heap.size]? = w'.heap[w.heap.size]? → w'.heap.size ≤ w2.heap.size → Sl .u8 w2 (.slice (some ⟨w.heap.size, 0, none⟩) s.size cap) (sb s)) ∧ Below w.heap.size w w' ∧ w.heap.size < w'.heap.size ∧
    ∃ cur lo hi, w'.heap[w.heap.size]? = some (.cells cur 5 (lo, hi)) ∧ s.size ≤ cur.size ∧ s.size ≤ lo := by
  obtain ⟨cap, w', h1, h2, h3, h4⟩ := conv_bytes w s hl
  refine ⟨cap, w', h1, h2, h3, h4, ?_⟩
  have h5 := run_bytes_of_string (P := Try.prog) w _ _ 5 s Try.underlying9 Try.underlying37 Try.underlying5
  rw [h1] at h5
  obtain ⟨-, h6⟩ := Result.ok.inj h5
  have hz : s.size ≤ (bytesRow s (grownCap w s.size 0 5)).size := by
    unfold bytesRow
    rw [Array.size_append, Array.size_map]
    show s.data.size ≤ _
    omega
  refine ⟨bytesRow s (grownCap w s.size 0 5), (bytesRow s (grownCap w s.size 0 5)).size, (bytesRow s (grownCap w s.size 0 5)).size + 1, ?_, hz, hz⟩
  rw [h6]
  exact heap_alloc_new w.drew _
/-- n frames in a block from B on -/
def FrI (w : World) (B : Nat) (v : Value) (n : Nat) : Prop := n = 0 ∨ ∃ q cap cur, v = .slice (some ⟨q, 0, none⟩) n cap ∧ B ≤ q ∧ w.heap[q]? = some (Obj.cells cur 57 (0, 0)) ∧ n * 2 ≤ cur.size
theorem FrI.of {w : World} {B : Nat} {v : Value} {fs : List Frm} (h : OwnR 2 frmC 57 w B v fs) : FrI w B v fs.length := by
  rcases h.2 with ⟨rfl, h0⟩ | ⟨g, cap, cur, rfl, hg, hh, hle, hcm, hsz, htk⟩
  · exact .inl h0
  · exact .inr ⟨g, cap, cur, rfl, hg, hh, by rw [hsz]; exact Nat.mul_le_mul_right 2 hle⟩
theorem FrI.same {w w' : World} {B n : Nat} {v : Value} (h : FrI w B v n) (hs : ∀ q, B ≤ q → q < w.heap.size → w'.heap[q]? = w.heap[q]?) : FrI w' B v n := by
  rcases h with h | ⟨q, cap, cur, e, hq, hh, hn⟩
  · exact .inl h
  · exact .inr ⟨q, cap, cur, e, hq, (hs q hq (Array.getElem?_eq_some_iff.1 hh).1).trans hh, hn⟩
theorem FrI.at {w : World} {B n c k : Nat} {a : Option Addr} (h : FrI w B (.slice a n c) n) (hk : k < n) : ∃ q, a = some ⟨q, 0, none⟩ ∧ B ≤ q ∧ w.frozen? ⟨q, k * 2 + 1, none⟩ = false ∧ (∃ u, w.cell? ⟨q, k * 2 + 1, none⟩ = some u) ∧ ∃ cur, w.heap[q]? = some (Obj.cells cur 57 (0, 0)) := by
  rcases h with h | ⟨q, cap, cur, e, hq, hh, hn⟩
  · omega
  · simp only [Value.slice.injEq] at e
    obtain ⟨rfl, -, rfl⟩ := e
    refine ⟨q, rfl, hq, frozen_of_row w q _ _ _ hh, ⟨cur[k * 2 + 1]'(by omega), ?_⟩, cur, hh⟩
    rw [cell_of_row w q (k * 2 + 1) _ _ _ hh, Array.getElem?_eq_getElem (by omega)]
theorem FrI.set {w : World} {B n p j : Nat} {v u : Value} (h : FrI w B v n) : FrI (w.setCell ⟨p, j, none⟩ u) B v n := by
  rcases h with h | ⟨q, cap, cur, e, hq, hh, hn⟩
  · exact .inl h
  · by_cases hp : q = p
    · subst hp
      exact .inr ⟨q, cap, _, e, hq, heap_setCell_same w q j _ _ u hh, by simpa using hn⟩
    · exact .inr ⟨q, cap, cur, e, hq, (heap_setCell_other w ⟨p, j, none⟩ q u (by simpa using hp)).trans hh, hn⟩
/-- n bytes in block g, none of them shared with a string -/
def ByI (w : World) (g n : Nat) : Prop := ∃ cur lo hi, w.heap[g]? = some (Obj.cells cur 5 (lo, hi)) ∧ n ≤ cur.size ∧ n ≤ lo
theorem ByI.same {w w' : World} {g n : Nat} (h : ByI w g n) (hs : w'.heap[g]? = w.heap[g]?) : ByI w' g n := by
  obtain ⟨cur, lo, hi, hh, h1, h2⟩ := h
  exact ⟨cur, lo, hi, hs.trans hh, h1, h2⟩
theorem setCell_any {w : World} {g j : Nat} {u : Value} {cur : Array Value} {t : TypeId} {fr : Nat × Nat} (h : w.heap[g]? = some (Obj.cells cur t fr)) : (w.setCell ⟨g, j, none⟩ u).heap[g]? = some (Obj.cells (cur.setIfInBounds j u) t fr) := by
  obtain ⟨hlt, he⟩ := Array.getElem?_eq_some_iff.1 h
  simp [World.setCell, Array.getElem?_modify, h]
theorem ByI.at {w : World} {g n k : Nat} (h : ByI w g n) (hk : k < n) : w.frozen? ⟨g, k, none⟩ = false ∧ ∃ u, w.cell? ⟨g, k, none⟩ = some u := by
  obtain ⟨cur, lo, hi, hh, h1, h2⟩ := h
  refine ⟨?_, cur[k]'(by omega), ?_⟩
  · simp only [World.frozen?, hh]
    have : ¬ lo ≤ k := by omega
    simp [this]
  · simp only [World.cell?, hh]
    simp [Array.getElem?_eq_getElem (show k < cur.size by omega)]
theorem ByI.set {w : World} {g n p j : Nat} {u : Value} (h : ByI w g n) : ByI (w.setCell ⟨p, j, none⟩ u) g n := by
  obtain ⟨cur, lo, hi, hh, h1, h2⟩ := h
  by_cases hp : g = p
  · subst hp
    exact ⟨_, lo, hi, setCell_any hh, by simpa using h1, h2⟩
  · exact ⟨cur, lo, hi, (heap_setCell_other w ⟨p, j, none⟩ g u (by simpa using hp)).trans hh, h1, h2⟩
/-- frames are none of the reader's -/
theorem Rdr.frm {B : Nat} {w : World} {g q j : Nat} {s : Rst} {S : Option Nat} {u : Value} {cur : Array Value} (h : Rdr B w g s S) (hq : w.heap[q]? = some (Obj.cells cur 57 (0, 0))) : Rdr B (w.setCell ⟨q, j, none⟩ u) g s S := by
  refine h.cellNew (fun e => ?_) (fun e => ?_) j u
  · subst e
    obtain ⟨vt, h1, -⟩ := h
    rw [h1] at hq
    simp only [Option.some.injEq, Obj.cells.injEq] at hq
    exact absurd hq.2.1 (by decide)
  · obtain ⟨vt, -, h2, h3, -⟩ := h
    rw [e] at h3
    rcases h2.2 with ⟨e2, -⟩ | ⟨q2, cap, cur2, rfl, -, hh, -⟩
    · rw [e2] at h3
      cases h3
    · obtain rfl : q2 = q := by simpa [Value.ownBlock] using h3
      rw [hh] at hq
      simp only [Option.some.injEq, Obj.cells.injEq] at hq
      exact absurd hq.2.1 (by decide)
theorem XRd.other {w : World} {g q j : Nat} {s : Rst} {u : Value} (h : XRd w g s) (hq : g ≠ q) : XRd (w.setCell ⟨q, j, none⟩ u) g s :=
  h.same (heap_setCell_other w ⟨q, j, none⟩ g u (by simpa using hq))
/-- behind one piece -/
def FdS (w : World) (B gx g gb : Nat) (s : Rst) (v5 : Value) (n5 nb : Nat) (wx : World) : Prop := ∃ S, Rdr w.heap.size wx g s S ∧ okR s ∧ XRd wx gx s ∧ Below w.heap.size w wx ∧ (g ≠ gx ∧ S ≠ some gx) ∧ FrI wx B v5 n5 ∧ ByI wx gb nb ∧ g ≠ gb ∧ S ≠ some gb ∧ gx ≠ gb ∧ gx < B ∧ w.heap.size ≤ gb ∧ w.heap.size ≤ B
theorem FdS.frm {w : World} {B gx g gb : Nat} {s : Rst} {v5 : Value} {n5 nb : Nat} {wx : World} (h : FdS w B gx g gb s v5 n5 nb wx) {q j : Nat} {u : Value} {cur : Array Value} (hB : B ≤ q) (hq : wx.heap[q]? = some (Obj.cells cur 57 (0, 0))) : FdS w B gx g gb s v5 n5 nb (wx.setCell ⟨q, j, none⟩ u) := by
  obtain ⟨S, h1, h2, h3, h4, h5, h6, h7, h8, h9, h10, h11, h12, h13⟩ := h
  exact ⟨S, h1.frm hq, h2, h3.other (by omega), h4.setCell (by show w.heap.size ≤ q; omega) _, h5, h6.set, h7.set, h8, h9, h10, h11, h12, h13⟩
theorem FdS.byte {w : World} {B gx g gb : Nat} {s : Rst} {v5 : Value} {n5 nb : Nat} {wx : World} (h : FdS w B gx g gb s v5 n5 nb wx) {j : Nat} {u : Value} : FdS w B gx g gb s v5 n5 nb (wx.setCell ⟨gb, j, none⟩ u) := by
  obtain ⟨S, h1, h2, h3, h4, h5, h6, h7, h8, h9, h10, h11, h12, h13⟩ := h
  exact ⟨S, h1.cellNew h8 h9 j u, h2, h3.other h10, h4.setCell h12 _, h5, h6.set, h7.set, h8, h9, h10, h11, h12, h13⟩
end St
end Go.Proofs.Ytdakkjpejhlciaa
