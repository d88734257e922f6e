/- The law's operations as an argument; replies held against themselves. No condition. -/
import Derived.Test.YtdakkjpejhlciaaMuI
import Derived.Test.YtdakkjpejhlciaaMuH
import Derived.Test.YtdakkjpejhlciaaMuG
import Derived.Test.YtdakkjpejhlciaaMvE
import Derived.Test.YtdakkjpejhlciaaRep
import Derived.Test.YtdakkjpejhlciaaStG
namespace Go.Proofs.Ytdakkjpejhlciaa
open Go.ChangeShapes Go.WideShapes Go.ChangeAt Go.RowKit Go.Deep
set_option linter.unusedVariables false
set_option maxRecDepth 100000
set_option linter.unusedSimpArgs false
namespace Mu
open St Mc
structure MOp where
  kind : Int
  text : ByteArray
  rep : Rep
abbrev mopC (x : MOp) : List Value := [.int .i64 x.kind, .string x.text, .int .i64 x.rep.kind, .int .i64 x.rep.node, .string x.rep.text]
theorem mopC_len (x : MOp) : (mopC x).length = 5 := rfl
def MOp.wf (x : MOp) : Prop := (Lit.int .i64 x.kind).wf = true ∧ x.text.size ≤ maxLen ∧ x.rep.wf
def IsMOps (w : World) (v : Value) (xs : List MOp) : Prop := SlR 5 mopC w v xs ∧ ∀ x ∈ xs, x.wf
def IsMOps.size (xs : List MOp) : Nat := xs.length
def IsMOps.fits (xs : List MOp) : Prop := xs.length * 56 ≤ 140737488351232
section
variable {H : Type} {enc : TypeId × Value → H} {W : World}
theorem trod_rep3 {n : Nat} {cs : List Value} {y : DataW H × List MemPlace} (h : DataW.trod enc Try.prog W 0 (fun _ => true) true n 34 cs = some y) : ∃ x, cs = repC x ∧ x.wf := by
  obtain ⟨xs, m, _, rfl, hlen, hxl, hf⟩ := DataW.trod_struct Try.underlying34 h
  have hl : cs.length = 3 := hlen.trans (by kernel_rfl)
  match cs, hl, xs, hxl with
  | [c0, c1, c2], _, [y0, y1, y2], _ =>
    have k1 : Try.prog.cellsOf 3 = 1 := by kernel_rfl
    have k3 : Try.prog.cellsOf 9 = 1 := by kernel_rfl
    obtain ⟨z0, rfl, w0⟩ := int_cell (P := Try.prog) Try.underlying3 (by simpa [k1] using hf 0 _ rfl)
    obtain ⟨z1, rfl, w1⟩ := int_cell (P := Try.prog) Try.underlying3 (by simpa [k1] using hf 1 _ rfl)
    obtain ⟨z2, rfl, w2⟩ := str_cell (P := Try.prog) Try.underlying9 (by simpa [k1, k3] using hf 2 _ rfl)
    exact ⟨⟨z0, z1, z2⟩, rfl, w0, w1, w2⟩
theorem trod_mop {n : Nat} {cs : List Value} {y : DataW H × List MemPlace} (h : DataW.trod enc Try.prog W 0 (fun _ => true) true n 36 cs = some y) : ∃ x, cs = mopC x ∧ x.wf := by
  obtain ⟨xs, m, _, rfl, hlen, hxl, hf⟩ := DataW.trod_struct Try.underlying36 h
  have hl : cs.length = 5 := hlen.trans (by kernel_rfl)
  match cs, hl, xs, hxl with
  | [c0, c1, c2, c3, c4], _, [y0, y1, y2], _ =>
    have k1 : Try.prog.cellsOf 3 = 1 := by kernel_rfl
    have k2 : Try.prog.cellsOf 9 = 1 := by kernel_rfl
    have k3 : Try.prog.cellsOf 34 = 3 := by kernel_rfl
    obtain ⟨z0, rfl, w0⟩ := int_cell (P := Try.prog) Try.underlying3 (by simpa [k1] using hf 0 _ rfl)
    obtain ⟨z1, rfl, w1⟩ := str_cell (P := Try.prog) Try.underlying9 (by simpa [k1, k2] using hf 1 _ rfl)
    obtain ⟨z2, h2, w2⟩ := trod_rep3 (by simpa [k1, k2, k3] using hf 2 _ rfl)
    simp only [repC, List.cons.injEq, and_true] at h2
    obtain ⟨rfl, rfl, rfl⟩ := h2
    exact ⟨⟨z0, z1, z2⟩, rfl, w0, w1, w2⟩
theorem open_mops {base : Nat} {v : Value} {d : DataW H} {ps : List MemPlace}
    (hok : Value.okWide Try.prog W .any base 22 v) (h : DataW.Trod enc Try.prog W 0 (fun _ => true) true 22 v d ps) : ∃ l, IsMOps W v l ∧ IsMOps.size l ≤ Rows.uptoBulk d ∧ (Wt Try.prog 22 d → IsMOps.fits l) := by
  obtain ⟨fuel, hf⟩ := h
  rw [slice_cells Try.underlying22 hok] at hf
  obtain ⟨xs, h1, h2, h3, h4⟩ := rows_cell (P := Try.prog) (C := mopC) (Q := MOp.wf) Try.underlying22 (sz := 5) (by kernel_rfl) (by omega) (fun m cs y h => trod_mop h) hf
  refine ⟨xs, ⟨h1, h2⟩, h3, fun hw => ?_⟩
  have := h4 hw
  rw [show Try.prog.bytesOf 36 = 56 from by kernel_rfl] at this
  simpa [reachBytes, IsMOps.fits] using this
end
theorem rep_cells {w : World} {b o k : Nat} {x : Rep} (h : ∀ j u, (repC x)[j]? = some u → w.cell? ⟨b, o + (k * 3 + j), none⟩ = some u) : w.cell? ⟨b, o + k * 3, none⟩ = some (.int .i64 x.kind) ∧ w.cell? ⟨b, o + k * 3 + 1, none⟩ = some (.int .i64 x.node) ∧ w.cell? ⟨b, o + k * 3 + 2, none⟩ = some (.string x.text) := by
  have h0 := h 0 _ rfl; have h1 := h 1 _ rfl; have h2 := h 2 _ rfl
  simp only [← Nat.add_assoc, Nat.add_zero] at h0 h1 h2
  exact ⟨h0, h1, h2⟩
set_option maxHeartbeats 1000000 in
theorem rsame_any (l : List Rep) (v u : Value) (w : World) (h : SlR 3 repC w v l) (g : SlR 3 repC w u l) :
    Calls Try.prog 24 #[v, u] w fun e w' => e = .returned (.bool true) ∧ Below w.heap.size w w' := by
  obtain ⟨a0, c0, rfl, hl0, hm0, hr0⟩ := h
  obtain ⟨a1, c1, rfl, hl1, hm1, hr1⟩ := g
  unfold maxLen at hm0 hm1
  have HR0 := Lib.hid hr0
  have HR1 := Lib.hid hr1
  clear hr0 hr1
  go_enter Try.func24, Try.ntmps24
  go_wp2
  go_loopw [5, 13] (fun _ i wr => ∃ k : Nat, k ≤ l.length ∧ i = .int .i64 k ∧ Hid (Below w.heap.size w wr)) (fun _ i _ => l.length - (intOf i).toNat)
  case atStart => exact ⟨0, Nat.zero_le _, rfl, Lib.hid (Below.refl _ _)⟩
  case round =>
    obtain ⟨k, hk, rfl, HB⟩ := hrel
    by_cases hlt : k < l.length
    · obtain ⟨b, off, rfl, hbl, hc⟩ := rows_open hlt HR0.out
      obtain ⟨b1, off1, rfl, hbl1, hc1⟩ := rows_open hlt HR1.out
      have hce := fun j u hu => (HB.out.cell (p := ⟨b, off + (k * 3 + j), none⟩) hbl).trans (hc k _ (rgetD hlt) j u hu)
      have hcf := fun j u hu => (HB.out.cell (p := ⟨b1, off1 + (k * 3 + j), none⟩) hbl1).trans (hc1 k _ (rgetD hlt) j u hu)
      clear hc hc1
      generalize l[k] = f at *
      obtain ⟨x0, x1, x2⟩ := rep_cells hce
      obtain ⟨y0, y1, y2⟩ := rep_cells hcf
      have hkz : (k : Int) < (l.length : Int) := by omega
      clear hce hcf
      go_wp2
      go_quiet (fail)
      go_wp2
      go_roundw
      case rel => exact ⟨k + 1, by omega, by go_num, Lib.hid (HB.out.trans ⟨rfl, rfl, rfl, Nat.le_refl _, fun _ _ => rfl⟩)⟩
      case measure => simp [intOf]; omega
    · obtain rfl : k = l.length := by omega
      go_wp2
      go_ret
      exact ⟨rfl, HB.out⟩

/-! sizes -/
theorem ok_feed4 {n m : Nat} {s : Ses} (h : okS n m s) (bs : List Int) (hb : ∀ x ∈ bs, (Lit.int .u8 x).wf = true) (hn : bs.length + 4 ≤ n) : okS n m (feedS s bs) := by
  have h2 := ok_feed h bs hb
  refine ⟨h2.1, h2.2.1, h2.2.2.1, h2.2.2.2.1, ?_, h2.2.2.2.2.2⟩
  unfold feedS
  split
  · exact h.2.2.2.2.1
  · split
    · exact h.2.2.2.2.1
    · rename_i h4
      have hl := run_len (s := s.rd) bs
      have hbl := bad_len s.rd.st (runV s.rd bs).2.st
      simp only [List.length_append]
      omega
/-! the example -/
def exB : List Int := [66, 81, 2, 104, 105, 69]
def hi : ByteArray := ⟨#[104, 105]⟩
def yo : ByteArray := ⟨#[121, 111]⟩
def ex1 : Ses := ⟨1, false, emp, zero, [⟨66, emp⟩, ⟨81, hi⟩, ⟨69, emp⟩], []⟩
def ex2 : Ses := ⟨2, true, emp, zero, [⟨81, hi⟩, ⟨69, emp⟩], []⟩
def ex3 : Ses := ⟨3, true, emp, zero, [⟨81, hi⟩, ⟨69, emp⟩], [rep 1]⟩
def ex4 : Ses := ⟨5, true, emp, zero, [⟨69, emp⟩], [rep 1]⟩
def ex5 : Ses := ⟨3, true, emp, zero, [⟨69, emp⟩], [rep 1, ⟨2, 0, yo⟩]⟩
def ex6 : Ses := ⟨1, true, emp, zero, [], [rep 1, ⟨2, 0, yo⟩, rep 3]⟩
theorem exS1 : feedS fresh exB = ex1 := by kernel_rfl
theorem exS2 : nextV ex1 = ((1, emp), ex2) := by kernel_rfl
theorem exS3 : gotS ex2 = ex3 ∧ gotE ex2 = 0 := ⟨by kernel_rfl, by kernel_rfl⟩
theorem exS4 : nextV ex3 = ((2, hi), ex4) := by kernel_rfl
theorem exS5 : ansS ex4 yo = ex5 ∧ ansE ex4 = 0 := ⟨by kernel_rfl, by kernel_rfl⟩
theorem exS6 : nextV ex5 = ((3, emp), ex6) := by kernel_rfl
end Mu
end Go.Proofs.Ytdakkjpejhlciaa
