/- The program's disk and the document's, in one world, apart. No condition. -/
import Derived.Test.YtfaifdidillkaaaRdE
import Derived.Test.YtfaifdidillkaaaDkI
namespace Go.Proofs.Ytfaifdidillkaaa
open Go.ChangeShapes Go.WideShapes Go.ChangeAt Go.RowKit Go.Deep
set_option linter.unusedVariables false
set_option maxRecDepth 100000
set_option linter.unusedSimpArgs false
namespace Rk
open Dk
variable {w w' W1 W2 W3 W4 : World} {S T Sd Sx U : Nat → Prop} {p q m : Nat} {V : ByteArray → Value} {vF : Value} {on on' : Bool} {lf lf' : Int} {F F' : List Fl} {n : Nat}
/-- both disks, of the same state -/
def Bth (w : World) (T : Nat → Prop) (p q : Nat) (s : St) : Prop := ∃ (Sd Sx : Nat → Prop) (m : Nat) (V : ByteArray → Value) (vF : Value), DkV w Sd p m V s.on s.left s.F ∧ RdV w Sx q vF s.left (!s.on) s.F ∧ (∀ k, Sd k → ¬ Sx k) ∧ (∀ k, Sd k → T k) ∧ (∀ k, Sx k → T k)
theorem Bth.same {s : St} (h : Bth w T p q s) (hb : Below w.heap.size w W2) : Bth W2 (Grow T w W2) p q s ∧ Only T w W2 := by
  obtain ⟨Sd, Sx, m, V, vF, hd, hx, h1, h2, h3⟩ := h
  exact ⟨⟨Sd, Sx, m, V, vF, hd.below hb, hx.below hb, h1, fun k hk => .inl (h2 k hk), fun k hk => .inl (h3 k hk)⟩, Below.only hb T⟩
/-- first the program's is turned, then what is nobody's, then the document's -/
theorem Bth.two {s : St} (hd : DkV W1 Sd p m V on lf F) (hx : RdV W1 Sx q vF lf (!on) F) (hdis : ∀ k, Sd k → ¬ Sx k) (hdT : ∀ k, Sd k → T k) (hxT : ∀ k, Sx k → T k) (hb : Below w.heap.size w W1)
    (hg : Dk.Left Sd p m W1 W2 s.on s.left s.F) (hu : Only U W2 W3) (hU : ∀ k, U k → w.heap.size ≤ k ∧ k < W1.heap.size ∧ ¬ Sd k ∧ ¬ Sx k) (hr : RLeft Sx q W3 W4 s.left (!s.on) s.F) : Bth W4 (Grow T w W4) p q s ∧ Only T w W4 := by
  obtain ⟨⟨V2, hv2⟩, ho⟩ := hg
  obtain ⟨⟨v4, hx4⟩, hr2⟩ := hr
  have z0 := hb.size
  have z1 := ho.2.2.2.1
  have z2 := hu.2.2.2.1
  have z3 := hr2.2.2.2.1
  have hd3 := hv2.only hu (fun k hk hk2 => by
    obtain ⟨u1, u2, u3, u4⟩ := hU k hk2
    rcases hk with hk | hk
    · exact u3 hk
    · omega)
  have hd4 := hd3.only hr2 (fun k hk hk2 => by
    rcases hk with hk | hk
    · exact hdis k hk hk2
    · have := hx.low k hk2; omega)
  refine ⟨⟨_, _, m, V2, v4, hd4, hx4, fun k hk hk2 => ?_, fun k hk => ?_, fun k hk => ?_⟩, ?_⟩
  · rcases hk with hk | hk
    · rcases hk2 with hk2 | hk2
      · exact hdis k hk hk2
      · have := hd.low k hk; omega
    · rcases hk2 with hk2 | hk2
      · have := hx.low k hk2; omega
      · omega
  · rcases hk with hk | hk
    · exact .inl (hdT k hk)
    · exact .inr ⟨by omega, by omega⟩
  · rcases hk with hk | hk
    · exact .inl (hxT k hk)
    · exact .inr ⟨by omega, by omega⟩
  · have o1 : Only T w W2 := (Below.only hb T).trans (ho.mono hdT)
    have o2 : Only T w W3 := o1.after hu (fun i hi hk => by have := (hU i hk).1; omega)
    exact o2.trans (hr2.mono hxT)
/-- a copy taken, and the old one spoilt -/
theorem Bth.copy {s : St} {p2 m2 : Nat} {V2 : ByteArray → Value} {S3 : Nat → Prop} (hd : DkV W1 Sd p m V on lf F) (hx : RdV W1 Sx q vF s.left (!s.on) s.F) (hdis : ∀ k, Sd k → ¬ Sx k) (hdT : ∀ k, Sd k → T k) (hxT : ∀ k, Sx k → T k) (hb : Below w.heap.size w W1)
    (hc : DkV W2 (fun k => W1.heap.size ≤ k ∧ k < W2.heap.size) p2 m2 V2 s.on s.left s.F) (hb2 : Below W1.heap.size W1 W2) (ho : Only S3 W2 W3) (hS3 : ∀ k, S3 k → Sd k) : Bth W3 (Grow T w W3) p2 q s ∧ Only T w W3 := by
  have z0 := hb.size
  have z1 := hb2.size
  have z2 := ho.2.2.2.1
  have hx2 := hx.below hb2
  refine ⟨⟨_, Sx, m2, V2, vF, hc.only ho (fun k hk hk2 => ?_), hx2.only ho (fun k hk hk2 => hdis k (hS3 k hk2) hk), fun k hk hk2 => ?_, fun k hk => .inr ⟨by omega, by omega⟩, fun k hk => .inl (hxT k hk)⟩, ?_⟩
  · have := hd.low k (hS3 k hk2); omega
  · have := hx.low k hk2; omega
  · exact ((Below.only hb T).trans (Below.only hb2 T)).trans (ho.mono (fun k hk => hdT k (hS3 k hk)))
def doS (s : St) (o : DOp) : St := if o.kind = 0 then appS s o.name (St.sb o.b) else if o.kind = 2 then ⟨s.on, s.left, syncF s.on s.F o.name⟩ else if o.kind = 3 then ⟨s.on, s.left, removeF s.on s.F o.name⟩ else if o.kind = 4 then ⟨s.on, armZ s.on s.left o.n, s.F⟩ else if o.kind = 5 then crashS s o.keep else if o.kind = 6 then powS s else s
def RowM (w : World) (g n : Nat) : Prop := ∃ cur t lo hi, w.heap[g]? = some (.cells cur t (lo, hi)) ∧ n ≤ cur.size ∧ n ≤ lo
theorem RowM.at {w : World} {g n : Nat} (h : RowM w g n) {i : Nat} (hi : i < n) : (∃ v, w.cell? ⟨g, i, none⟩ = some v) ∧ w.frozen? ⟨g, i, none⟩ = false ∧ ∀ x, RowM (w.setCell ⟨g, i, none⟩ x) g n := by
  obtain ⟨cur, t, lo, hi2, h1, h2, h3⟩ := h
  refine ⟨⟨cur[i], ?_⟩, ?_, fun x => ⟨cur.setIfInBounds i x, t, lo, hi2, ?_, by simpa using h2, h3⟩⟩
  · rw [cell_of_row _ _ _ _ _ _ h1]
    exact Array.getElem?_eq_getElem (by omega)
  · simp only [World.frozen?, h1]
    have : ¬ lo ≤ i := by omega
    simp [this]
  · unfold World.setCell
    simp only [Array.getElem?_modify, h1]
    simp
theorem RowM.keep {w w' : World} {g n : Nat} (h : RowM w g n) (e : w'.heap[g]? = w.heap[g]?) : RowM w' g n := by
  obtain ⟨cur, t, lo, hi2, h1, h2, h3⟩ := h
  exact ⟨cur, t, lo, hi2, e.trans h1, h2, h3⟩
theorem RowM.lt {w : World} {g n : Nat} (h : RowM w g n) : g < w.heap.size := by
  obtain ⟨cur, t, lo, hi2, h1, h2, h3⟩ := h
  exact row_lt h1
open _root_.Go.Proofs.Ytfaifdidillkaaa.St in
theorem conv2 (w : World) (s : ByteArray) (hl : s.size ≤ maxLen) : ∃ cap w', (convert 9 39 (.string s)).run Try.prog w = .ok (.slice (some ⟨w.heap.size, 0, none⟩) s.size cap) w' ∧
    SlR 1 byC w' (.slice (some ⟨w.heap.size, 0, none⟩) s.size cap) (sb s) ∧ Below w.heap.size w w' ∧ RowM w' w.heap.size s.size := by
  obtain ⟨cap, w', hr, h1, h2, -⟩ := conv_bytes w s hl
  refine ⟨cap, w', hr, h1, h2, ?_⟩
  have h3 := run_bytes_of_string (P := Try.prog) w _ _ 5 s Try.underlying9 Try.underlying39 Try.underlying5
  rw [hr] at h3
  obtain ⟨-, rfl⟩ := Result.ok.inj h3
  refine ⟨_, _, _, _, heap_alloc_new w.drew _, ?_, ?_⟩
  · unfold bytesRow; simp
  · unfold bytesRow; simp
end Rk
end Go.Proofs.Ytfaifdidillkaaa
