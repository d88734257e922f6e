/- Frames' bytes: the document's, for any number of frames that an argument may have. No condition. -/
import Derived.Test.YtdakkjpejhlciaaStH
namespace Go.Proofs.Ytdakkjpejhlciaa
open Go.ChangeShapes Go.WideShapes Go.ChangeAt Go.RowKit
set_option linter.unusedVariables false
set_option maxRecDepth 100000
namespace St
set_option maxHeartbeats 8000000 in
theorem rbytes_big (l : List Frm) (v0 : Value) (w : World) (h0 : IsFrms w v0 l) (hl : l.length ≤ 6000000000000) : Calls Try.prog 28 #[v0] w (RBytesR l w) := by
  obtain ⟨a0, c0, rfl, hl0, hm0, hr0⟩ := h0.1
  unfold maxLen at hm0
  have HR0 := Lib.hid hr0
  clear h0 hr0
  go_enter Try.func28, Try.ntmps28
  go_wp2
  go_loopw [4, 9] (fun b i wr => ∃ (k : Nat) (s : ByteArray), k ≤ l.length ∧ i = .int .i64 k ∧ b = .string s ∧ Hid (s = strOfNums ((l.take k).flatMap byteF)) ∧ Hid (∀ f ∈ l.take k, fitF f) ∧ Hid (Below w.heap.size w wr)) (fun _ i _ => l.length - (intOf i).toNat)
  case atStart => exact ⟨0, _, Nat.zero_le _, rfl, rfl, Lib.hid rfl, Lib.hid (by simp), Lib.hid (Below.refl _ _)⟩
  case round =>
    obtain ⟨k, s, hk, rfl, rfl, HZS, HFI, HB⟩ := hrel
    by_cases hlt : k < l.length
    · obtain ⟨b, off, rfl, hbl, hc⟩ := rows_open hlt HR0.out
      have hce := fun j u hu => (HB.out.cell (p := ⟨b, off + (k * 2 + j), none⟩) hbl).trans (hc k _ (rgetD hlt) j u hu)
      have HTK : Hid (l.take (k + 1) = l.take k ++ [l[k]]) := Lib.hid (List.take_succ_eq_append_getElem hlt)
      have HMEM : Hid (l[k] ∈ l) := Lib.hid (List.getElem_mem hlt)
      have hbl2 := bytes_len _ HFI.out
      have HLEN : Hid (s.size ≤ 300000000000000) := Lib.hid (by rw [HZS.out, strOfNums_size]; rw [List.length_take] at hbl2; omega)
      clear hc hbl2
      generalize l[k] = f at *
      obtain ⟨x0, x1⟩ := frm_cells hce
      have hkz : (k : Int) < (l.length : Int) := by omega
      clear hce
      have HB1 := Lib.hid (HB.out.alloc HB.out.size (.cells (fArr f) 57))
      have hlen := HLEN.out
      have HFKN : Hid (fitF f → (∀ g ∈ l.take (k + 1), fitF g) ∧ (l.take (k + 1)).flatMap byteF = (l.take k).flatMap byteF ++ byteF f) := Lib.hid (fun hf => ⟨fun g hg => by
          rw [HTK.out] at hg
          rcases List.mem_append.1 hg with q | q
          · exact HFI.out g q
          · simp at q; subst q; exact hf, by rw [HTK.out, List.flatMap_append]; simp⟩)
      obtain ⟨fk, ft⟩ := f
      by_cases h1 : fk = 66 ∨ fk = 69
      · by_cases he : ft = emp
        · have HK := Lib.hid (HFKN.out (.inl ⟨h1, he⟩))
          subst he
          unfold emp at x1
          have HBY : Hid (byteF ⟨fk, emp⟩ = [fk]) := Lib.hid (by unfold byteF; rw [if_neg (by rcases h1 with r | r <;> (rw [r]; decide))])
          have hcv : (convert 37 9 (.slice (some ⟨wr.heap.size + 1, 0, none⟩) 1 1)).run Try.prog ((wr.alloc (.cells #[.int .u8 fk, .string ⟨#[]⟩] 57)).alloc (.cells #[.int .u8 fk] 5)) = .ok (.string (strOfNums [fk])) ((wr.alloc (.cells #[.int .u8 fk, .string ⟨#[]⟩] 57)).alloc (.cells #[.int .u8 fk] 5)) := run_str (Sl.newAt _ (wr.heap.size + 1) (by simp) #[.int .u8 fk] [fk] rfl rfl (Nat.le_refl _) (by decide) (by intro y hy; simp at hy; subst hy; rcases h1 with r | r <;> (rw [r]; decide)))
          have hn : ¬ 9223372036854775807 < s.size + (strOfNums [fk]).size := by rw [strOfNums_size]; simp; omega
          have HS : Hid (s ++ strOfNums [fk] = strOfNums ((l.take (k + 1)).flatMap byteF)) := Lib.hid (by rw [HK.out.2, HBY.out, HZS.out, str_app])
          rcases h1 with rfl | rfl
          all_goals
            go_wp2
            go_roundw
            case rel => exact ⟨k + 1, _, by omega, by go_num, rfl, Lib.hid HS.out, Lib.hid HK.out.1, Lib.hid (HB1.out.alloc HB1.out.size _)⟩
            case measure => simp [intOf]; omega
        · have HN : Hid (¬ ∀ f ∈ l, fitF f) := Lib.hid (fun q => by
            rcases q _ HMEM.out with ⟨_, q⟩ | ⟨q, _⟩
            · exact he q
            · simp only [] at q; omega)
          have e5 : ft.toList.isEmpty = false := by have := (ne_emp he).2; simpa using this
          clear he
          rcases h1 with rfl | rfl
          all_goals
            go_wp2
            go_ret2
            exact .inr ⟨HN.out, rfl, HB1.out⟩
      · have e1 : (fk == 66) = false := beq_eq_false_iff_ne.2 (by omega)
        have e2 : (fk == 69) = false := beq_eq_false_iff_ne.2 (by omega)
        by_cases h81 : fk = 81
        · subst h81
          by_cases h48 : ft.size ≤ 48
          · have h48' : (ft.size : Int) ≤ 48 := by omega
            have HK := Lib.hid (HFKN.out (.inr ⟨rfl, h48⟩))
            have HBY : Hid (byteF ⟨81, ft⟩ = [81, (ft.size : Int)] ++ sb ft) := Lib.hid (by unfold byteF; rw [if_pos rfl])
            have hcv : (convert 37 9 (.slice (some ⟨wr.heap.size + 1, 0, none⟩) 2 2)).run Try.prog ((wr.alloc (.cells #[.int .u8 81, .string ft] 57)).alloc (.cells #[.int .u8 81, .int .u8 (ft.size : Int)] 5)) = .ok (.string (strOfNums [81, (ft.size : Int)])) ((wr.alloc (.cells #[.int .u8 81, .string ft] 57)).alloc (.cells #[.int .u8 81, .int .u8 (ft.size : Int)] 5)) := run_str (Sl.newAt _ (wr.heap.size + 1) (by simp) #[.int .u8 81, .int .u8 (ft.size : Int)] [81, (ft.size : Int)] rfl rfl (Nat.le_refl _) (by decide) (by
              intro y hy
              simp only [List.mem_cons, List.not_mem_nil, or_false] at hy
              rcases hy with rfl | rfl
              · decide
              · exact WalkArith.wf_u8 ⟨by omega, by omega⟩))
            have hz2 : (strOfNums [81, (ft.size : Int)]).size = 2 := strOfNums_size _
            have hn1 : ¬ 9223372036854775807 < (strOfNums [81, (ft.size : Int)]).size + ft.size := by rw [hz2]; omega
            have hn2 : ¬ 9223372036854775807 < s.size + (strOfNums [81, (ft.size : Int)] ++ ft).size := by rw [ByteArray.size_append, hz2]; omega
            have hn3 : ¬ 9223372036854775807 < s.size + ((strOfNums [81, (ft.size : Int)]).size + ft.size) := by rw [hz2]; omega
            have HS : Hid (s ++ (strOfNums [81, (ft.size : Int)] ++ ft) = strOfNums ((l.take (k + 1)).flatMap byteF)) := Lib.hid (by
              rw [HK.out.2, HBY.out, HZS.out, ← str_app, ← str_app, sb_str])
            clear hz2 h48
            go_wp2
            go_roundw
            case rel => exact ⟨k + 1, _, by omega, by go_num, rfl, Lib.hid HS.out, Lib.hid HK.out.1, Lib.hid (HB1.out.alloc HB1.out.size _)⟩
            case measure => simp [intOf]; omega
          · have HN : Hid (¬ ∀ f ∈ l, fitF f) := Lib.hid (fun q => by
              rcases q _ HMEM.out with ⟨q, _⟩ | ⟨_, q⟩
              · simp only [] at q; omega
              · exact h48 q)
            have h48' : (48 : Int) < (ft.size : Int) := by omega
            clear h48
            go_wp2
            go_ret2
            exact .inr ⟨HN.out, rfl, HB1.out⟩
        · have HN : Hid (¬ ∀ f ∈ l, fitF f) := Lib.hid (fun q => by
            rcases q _ HMEM.out with ⟨q, _⟩ | ⟨q, _⟩
            · exact h1 q
            · exact h81 q)
          have e8 : (fk == 81) = false := beq_eq_false_iff_ne.2 h81
          clear h1 h81
          go_wp2
          go_ret2
          exact .inr ⟨HN.out, rfl, HB1.out⟩
    · obtain rfl : k = l.length := by omega
      have HE : Hid (RBytesR l w (.returned (.tuple #[.string s, .int .i64 0])) wr) := Lib.hid (by
        have h1 := HZS.out
        have h2 := HFI.out
        rw [List.take_length] at h1 h2
        rw [h1]
        exact .inl ⟨h2, rfl, HB.out⟩)
      go_wp2
      go_ret2
      exact HE.out

end St
end Go.Proofs.Ytdakkjpejhlciaa
