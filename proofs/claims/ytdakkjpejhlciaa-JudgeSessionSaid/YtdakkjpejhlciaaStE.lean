/- A new reader, what is left, whether it is broken; the example. No condition. -/
import Derived.Test.YtdakkjpejhlciaaStD
import Derived.Lib.SlBytesConst
namespace Go.Proofs.Ytdakkjpejhlciaa
open Go.ChangeShapes Go.WideShapes Go.ChangeAt Go.RowKit
set_option linter.unusedVariables false
set_option maxRecDepth 100000
namespace St
theorem sl_row {k : IntKind} {w : World} {b n c : Nat} {t : TypeId} {fr : Nat × Nat} (zs : List Int) {cs : Array Value} (h : w.heap[b]? = some (.cells cs t fr)) (hcs : cs = (zs.map (Value.int k)).toArray) (hn : n = zs.length) (hc : n ≤ c) (hm : c ≤ maxLen) (hw : ∀ x ∈ zs, (Lit.int k x).wf = true) : Sl k w (.slice (some ⟨b, 0, none⟩) n c) zs := by
  subst hn; subst hcs
  refine ⟨_, c, rfl, hc, hm, hw, .inr ⟨b, 0, none, rfl, .inr ⟨rfl, (Array.getElem?_eq_some_iff.1 h).1, fun i hi => ?_⟩⟩⟩
  rw [Nat.zero_add, cell_of_row w b i _ _ _ h]
  simp [List.getElem?_eq_getElem hi, List.getD]
theorem new_any (w : World) : Calls Try.prog 33 #[] w fun e w' => e = .returned (.pointer (some ⟨w.heap.size, 0, none⟩)) ∧ w' = w.alloc (.cells #[.int .i64 0, .int .i64 0, .slice none 0 0] 86) := by
  go_enter Try.func33, Try.ntmps33
  go_wp2
  go_ret
  exact ⟨rfl, rfl⟩
theorem rdr_new {B : Nat} (w : World) (hB : B ≤ w.heap.size) : Rdr B (w.alloc (.cells #[.int .i64 0, .int .i64 0, .slice none 0 0] 86)) w.heap.size zero none :=
  ⟨.slice none 0 0, heap_alloc_new _ _, Own.nil _ _, rfl, by simp, hB⟩
def leftV (s : Rst) : Int := if s.st = 1 then 1 else if s.st = 2 then 2 + s.text.length else 0
set_option maxHeartbeats 2000000 in
theorem broken_any (B g : Nat) (s : Rst) (S : Option Nat) (w : World) (h : Rdr B w g s S) : Calls Try.prog 34 #[.pointer (some ⟨g, 0, none⟩)] w fun e w' => e = .returned (.bool (decide (s.st = 3))) ∧ w = w' := by
  obtain ⟨vt, k1, -⟩ := h
  obtain ⟨d0, d1, d2, -, -, -⟩ := cells3 k1
  clear k1
  by_cases q : s.st = 3
  · have HE : Hid (true = decide (s.st = 3)) := Lib.hid (by simp [q])
    rw [q] at d0; clear q
    go_enter Try.func34, Try.ntmps34
    go_wp2
    go_ret
    exact ⟨ret_bool HE.out, rfl⟩
  · have HE : Hid (false = decide (s.st = 3)) := Lib.hid (by simp [q])
    have e : (s.st == 3) = false := beq_eq_false_iff_ne.2 q
    clear q
    go_enter Try.func34, Try.ntmps34
    go_wp2
    go_ret
    exact ⟨ret_bool HE.out, rfl⟩
/-- a feed of bytes that lie in a block of their own -/
theorem feed_row (B g b n c : Nat) (s : Rst) (S : Option Nat) (bs : List Int) {cs : Array Value} {t : TypeId} {fr : Nat × Nat} (w : World) (h : Rdr B w g s S) (hok : okR s) (hr : w.heap[b]? = some (.cells cs t fr)) (hcs : cs = (bs.map (Value.int .u8)).toArray) (hn : n = bs.length) (hc : n ≤ c) (hm : c ≤ maxLen) (hw : ∀ x ∈ bs, (Lit.int .u8 x).wf = true) (hg : b ≠ g) (hS : S ≠ some b) (hl : bs.length ≤ 1000000) :
    Calls Try.prog 35 #[.pointer (some ⟨g, 0, none⟩), .slice (some ⟨b, 0, none⟩) n c] w (FeedR B g s S bs w) :=
  feed_any B g s S bs _ w h hok (fun w' hf => sl_row bs ((hf.2 b (Array.getElem?_eq_some_iff.1 hr).1 hg (fun e => hS e.symm)).trans hr) hcs hn hc hm hw) hl
theorem ex1 : runV zero [66, 81] = ([⟨66, ⟨#[]⟩⟩], ⟨1, 0, []⟩) := rfl
theorem ex2 : runV ⟨1, 0, []⟩ [2, 104] = ([], ⟨2, 2, [104]⟩) := rfl
theorem ex3 : runV ⟨2, 2, [104]⟩ [105, 69] = ([⟨81, ⟨#[104, 105]⟩⟩, ⟨69, ⟨#[]⟩⟩], zero) := by
  have e : strOfNums [104, 105] = ⟨#[104, 105]⟩ := by kernel_rfl
  rw [← e]; rfl
theorem ex4 : runV zero [120] = ([], ⟨3, 0, []⟩) := rfl
theorem ok2 : okR ⟨1, 0, []⟩ := by unfold okR; simp
theorem ok3 : okR ⟨2, 2, [104]⟩ := by unfold okR; simp; decide
end St
end Go.Proofs.Ytdakkjpejhlciaa
