/- Package lease's inOrder, as landed: a wallet's trusts in increasing order. No condition. -/
import Derived.Test.YtgbblegcjladaaaLtB
import Derived.Test.YtgbblegcjladaaaLdB
import Derived.Test.YtgbblegcjladaaaLsC
namespace Go.Proofs.Ytgbblegcjladaaa
open Go.ChangeShapes Go.WideShapes Go.ChangeAt Go.RowKit Go.Deep Go.Maps Go.ChangeMaps Go.MapKept
set_option linter.unusedVariables false
set_option maxRecDepth 100000
set_option linter.unusedSimpArgs false
namespace Lt
open Mp
variable {w w' : World} {b g : Nat} {L : List Tr}
abbrev tkC (x : Tr) : List Value := [.int .i64 x.tok]
theorem tkC_len (x : Tr) : (tkC x).length = 1 := rfl
theorem trC_one (x : Tr) : ∀ u ∈ trC x, u.oneCell' = true := by intro u hu; simp at hu; rcases hu with rfl | rfl | rfl <;> rfl
theorem flat_tk (L : List Tr) : L.flatMap tkC = L.map (fun x => Value.int .i64 x.tok) := by
  induction L with
  | nil => rfl
  | cons x l ih => rw [List.flatMap_cons, ih]; rfl
theorem info_tr : (Try.prog.info? 115).map (fun i => (i.zero, i.size, i.bytes)) = some (some (.agg #[.int .i64 0, .int .u64 0, .int .i64 0]), 3, 24) := by kernel_rfl
theorem TrM.look (h : TrM w b L) {x : Tr} (hx : x ∈ L) : (Instr.lookup 116 (.map (some b)) (.int .i64 x.tok) false).run Try.prog w = .ok (trV x) w := by
  have hz : (zeroValue 115).run Try.prog w = .ok (.agg #[.int .i64 0, .int .u64 0, .int .i64 0]) w := by kernel_rfl
  have := h.2.2.look tokK Try.underlying116 hz (h.2.1 x hx).1 false
  rw [this]
  unfold OfL
  rw [(fnd_iff h.1).2 ⟨hx, rfl⟩]
  rfl
set_option maxHeartbeats 4000000 in
theorem inorder_any (w : World) (h : TrM w b L) (hn : L.length ≤ 1000) :
    Calls Try.prog 65 #[.map (some b)] w fun e w' => ∃ v, e = .returned v ∧ OwnR 3 trC 115 w' w.heap.size v L ∧ Below w.heap.size w w' := by
  obtain ⟨g, hg⟩ : ∃ q, w.heap.size = q := ⟨_, rfl⟩
  obtain ⟨W1, hW1⟩ : ∃ q, w.alloc (.cells #[.map (some b)] 116) = q := ⟨_, rfl⟩
  have hb1 : Below w.heap.size w W1 := by rw [← hW1]; exact (Below.refl _ _).alloc (Nat.le_refl _) _
  have hr1 : W1.heap[g]? = some (.cells #[.map (some b)] 116 (0, 0)) := by rw [← hW1, ← hg]; exact heap_alloc_new _ _
  have hm1 : TrM W1 b L := h.block (hb1.block b h.2.2.lt)
  have hS := sorted_c W1 hm1 (by omega) (row_lt hr1) ((cell_of_row _ _ 0 _ _ _ hr1).trans rfl)
  have HS := Lib.hid hS
  have HK : Hid (∀ w2, Below W1.heap.size W1 w2 → Below w.heap.size w w2 ∧ TrM w2 b L) := Lib.hid (fun w2 h2 => ⟨hb1.trans (h2.mono hb1.size), hm1.block (h2.block b hm1.2.2.lt)⟩)
  have HZ : Hid (w.heap.size ≤ W1.heap.size) := Lib.hid hb1.size
  clear hS hb1 hr1 hm1 h
  go_enter Try.func65, Try.ntmps65
  go_wp2_with (first | ((with_reducible refine (keys_c _ _).mono ?_); rintro e w1 ⟨rfl, rfl⟩; rw [hW1, hg]) | ((with_reducible refine HS.out.mono ?_); rintro e w2 ⟨vs, rfl, os, bs⟩; have HO := Lib.hid (show OwnR 1 tkC 3 w2 W1.heap.size vs L by unfold OwnR; rw [flat_tk]; exact os); have HB := Lib.hid bs; clear os bs; obtain ⟨ak, ck, rfl⟩ := own_slice HO.out))
  clear hW1 hg
  go_loopw [3, 10] (fun u i wr => ∃ (j : Nat) (v : Value), v = u ∧ j ≤ L.length ∧ i = .int .i64 (j : Int) ∧ Hid (OwnR 3 trC 115 wr w2.heap.size v (L.take j) ∧ Below w2.heap.size w2 wr)) (fun _ i _ => L.length - (intOf i).toNat)
  case atStart => exact ⟨0, _, rfl, Nat.zero_le _, rfl, Lib.hid ⟨OwnR.nil _ _ _, Below.refl _ _⟩⟩
  case round =>
    obtain ⟨j, v, rfl, hj, rfl, HR⟩ := hrel
    by_cases hlt : j < L.length
    · have hlti : (j : Int) < (L.length : Int) := by omega
      obtain ⟨x, hx⟩ : ∃ x, L[j]? = some x := ⟨_, List.getElem?_eq_getElem hlt⟩
      have HTK : Hid (L.take (j + 1) = L.take j ++ [x]) := Lib.hid (by rw [List.take_add_one, hx]; rfl)
      have hbr : Below W1.heap.size W1 wr := HB.out.trans (HR.out.2.mono HB.out.size)
      have hlk := (HK.out _ hbr).2.look (List.mem_of_getElem? hx)
      obtain ⟨b0, off, rfl, y0⟩ : ∃ b off, ak = some ⟨b, off, none⟩ ∧ wr.cell? ⟨b, off + j, none⟩ = some (.int .i64 x.tok) := by
        have ho : OwnR 1 tkC 3 wr W1.heap.size (.slice ak L.length ck) L := HO.out.below HR.out.2 (Nat.le_refl _)
        rcases SlR.cases (ho.sl tkC_len) with ⟨a9, c9, e, hnil⟩ | ⟨b, off, c9, e, -, -, -, -, hc⟩
        · rw [hnil] at hlt; simp at hlt
        · simp only [Value.slice.injEq] at e
          have h0 := hc j x hx 0 _ rfl
          simp only [Nat.mul_one, Nat.add_zero] at h0
          exact ⟨b, off, e.1, h0⟩
      obtain ⟨W6, hW6⟩ : ∃ q, wr.alloc (.cells #[.int .i64 x.tok, .int .u64 x.ser, .int .i64 x.til] 115) = q := ⟨_, rfl⟩
      have HLIT : Hid (SlR 3 trC W6 (.slice (some ⟨wr.heap.size, 0, none⟩) 1 1) [x]) := Lib.hid (by rw [← hW6]; exact SlR.one trC_len wr _ rfl _ x rfl)
      have HO6 : Hid (OwnR 3 trC 115 W6 w2.heap.size v (L.take j)) := Lib.hid (by rw [← hW6]; exact HR.out.1.alloc _)
      have HB6 : Hid (Below w2.heap.size w2 W6) := Lib.hid (by rw [← hW6]; exact HR.out.2.alloc HR.out.2.size _)
      have HJL : Hid ((L.take j).length = j ∧ j < 1000) := Lib.hid (by rw [List.length_take]; omega)
      clear hx hbr HR
      go_wp2_with (first | rw [hW6] | (at_builtin; refine appR trC_len trC_one Try.underlying66 rfl (by decide) info_tr rfl (.tmp 14) (.tmp 18) rfl w2.heap.size v (L.take j) rfl HO6.out (.slice (some ⟨wr.heap.size, 0, none⟩) 1 1) [x] rfl HLIT.out (by have := HJL.out; unfold maxLen; simp only [List.length_singleton]; omega) (by have := HJL.out; simp only [List.length_singleton]; omega) HB6.out.size ?_; intro v7 w7 own7 bel7; have HO7 := Lib.hid own7; have HB7 := Lib.hid bel7; clear own7 bel7))
      go_roundw
      case rel => exact ⟨j + 1, _, rfl, by omega, by go_num, Lib.hid ⟨by rw [HTK.out]; exact HO7.out, HB6.out.trans HB7.out⟩⟩
      case measure => simp [intOf]; omega
    · obtain rfl : j = L.length := by omega
      have HE := Lib.hid HR.out
      clear HR
      go_wp2
      go_ret
      exact ⟨_, rfl, by have := HE.out.1; rw [List.take_length] at this; exact ownsRow_base_a this (HK.out _ HB.out).1.size, (HK.out _ (HB.out.trans (HE.out.2.mono HB.out.size))).1⟩
end Lt
end Go.Proofs.Ytgbblegcjladaaa
