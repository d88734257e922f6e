/- The chapter's first example of a message holds. Condition: the table octet.steps reads as the program's text lays it. -/
import Derived.Test.YtbdjihmgdkailaaDoorMxB
import Derived.Test.YtbdjihmgdkailaaDoorFrN
namespace Go.Proofs.YtbdjihmgdkailaaDoor
open Go.ChangeShapes Go.WideShapes Go.ChangeAt Go.RowKit Go.Deep
set_option linter.unusedVariables false
set_option maxRecDepth 100000
namespace Ms
open Nv Cm Sc
abbrev exV : Mes := ⟨2, 1, 2, 5, 0, 0, 0, true, [], ⟨0, 0, [], ⟨0, 0, [], []⟩⟩⟩
theorem exV_ok : msgOk exV := by
  refine ⟨⟨by decide, by decide⟩, ⟨by decide, by decide⟩, ⟨by decide, by decide⟩, by decide, fun f hf hn => ?_, fun h => absurd h (by decide), fun _ => by decide, fun h => absurd h (by decide), fun h => absurd h (by decide), fun h => absurd h (by decide)⟩
  rcases (show f = 0 ∨ f = 1 ∨ f = 2 ∨ f = 3 ∨ f = 4 ∨ f = 5 ∨ f = 6 by omega) with rfl | rfl | rfl | rfl | rfl | rfl | rfl
  · exact absurd (by decide) hn
  · exact (rfl : (0 : Int) = 0)
  · exact (rfl : (0 : Int) = 0)
  · exact (rfl : (0 : Int) = 0)
  · exact absurd (by decide) hn
  · exact (rfl : (0 : Nat) = 0)
  · exact (⟨rfl, rfl, rfl, rfl, rfl, rfl, rfl⟩ : zSho exV.shot)
theorem exV_enc : msgB exV = [2, 1, 2, 1, 5, 1] := by
  have e : msgB exV = [2, 1, 2] ++ (numI 5 ++ ([1] ++ [])) := rfl
  rw [e, numI_one (n := 5) (by omega) (by omega)]
  rfl
theorem exV_msg (w : World) : IsMsg w (.agg (mArr exV (.slice none 0 0) (.slice none 0 0) (.slice none 0 0) (.slice none 0 0))) exV :=
  ⟨_, _, _, _, rfl, ⟨[], SlR.nil _, fun r hr => by simp at hr, rfl⟩, Cm.sl_nil _ _, SlR.nil _, SlR.nil _, by decide, by decide, by decide, by decide, by decide, by decide, by decide, by decide, by decide, by decide, by decide, by simp, by simp⟩
abbrev zMA : Array Value := #[.int .i64 0, .int .i64 0, .int .i64 0, .int .u64 0, .int .u64 0, .int .u64 0, .int .u64 0, .bool false, .slice none 0 0, .int .u64 0, .int .u64 0, .slice none 0 0, .int .i64 0, .int .u64 0, .slice none 0 0, .slice none 0 0]
theorem vote_any (w : World) : Calls Tryd.prog 22 #[] w fun e w' => e = .returned (.agg (mArr exV (.slice none 0 0) (.slice none 0 0) (.slice none 0 0) (.slice none 0 0))) ∧ Below w.heap.size w w' := by
  have hst : (w.alloc (.cells zMA 32)).heap[w.heap.size]? = some (.cells zMA 32 (0, 0)) := heap_alloc_new _ _
  have hb : Below w.heap.size w (w.alloc (.cells zMA 32)) := (Below.refl _ _).alloc (Nat.le_refl _) _
  go_enter Tryd.func22, Tryd.ntmps22
  go_wp2_with (refine wpList_store_row rfl 32 (.tmp 0) (.tmp 1) rfl w.heap.size (mArr exV (.slice none 0 0) (.slice none 0 0) (.slice none 0 0) (.slice none 0 0)) rfl rfl 32 _ hst (by kernel_rfl) rfl (by kernel_rfl) ?_)
  refine bodyPost_ret (v := .agg (mArr exV (.slice none 0 0) (.slice none 0 0) (.slice none 0 0) (.slice none 0 0))) (results_cell_row rfl _ _ w.heap.size 32 _ (0, 0) _ rfl (setRow_heap _ _ _ _ _ _ hst) Tryd.underlying32 rfl (by kernel_rfl)) rfl ?_
  exact ⟨rfl, Ld.below_row hb (Nat.le_refl _) _⟩
theorem seal_mid {zs : List Int} : ((Fr.sealL zs).drop 4).take zs.length = zs := by
  unfold Fr.sealL
  rw [List.append_assoc, List.drop_append_of_le_length (by rw [Fr.hd_len]; exact Nat.le_refl _)]
  rw [show (Fr.hd zs.length).drop 4 = [] from rfl, List.nil_append, List.take_append_of_le_length (Nat.le_refl _), List.take_length]
theorem own_slice {w : World} {B : Nat} {v : Value} {zs : List Int} (h : Own w B v zs) (h0 : 0 < zs.length) : ∃ g cap, v = .slice (some ⟨g, 0, none⟩) zs.length cap ∧ zs.length ≤ cap := by
  rcases h.2 with ⟨_, h2⟩ | ⟨g, cap, cur, rfl, _, _, h3, _⟩
  · omega
  · exact ⟨g, cap, rfl, h3⟩
set_option maxHeartbeats 4000000 in
theorem live_any (w : World) (ht : Oc.Tab w) : Calls Tryd.prog 9 #[] w fun e w' => e = .returned (.bool true) ∧ Below w.heap.size w w' := by
  have HT := Lib.hid ht
  clear ht
  have k1 : ((strOfNums [2, 1, 2, 1, 5, 1]).toList == [2, 1, 2, 1, 5, 1]) = true := by kernel_rfl
  go_enter Tryd.func9, Tryd.ntmps9
  go_wp2_with fail
  refine (vote_any _).mono ?_
  rintro e w1 ⟨rfl, hb1⟩
  have HB1 := Lib.hid hb1
  have HT1 := Lib.hid (HT.out.below hb1 (Nat.le_refl _))
  clear hb1
  go_wp2_with fail
  refine (enc_any exV _ _ (exV_msg _) HT1.out).mono ?_
  rintro e w2 ⟨v2, z, bs, rfl, hz, ho, hs, hb2⟩
  obtain ⟨rfl, rfl⟩ : z = 0 ∧ bs = Fr.sealL (msgB exV) := by
    rcases hz with ⟨h1, -, h2⟩ | ⟨-, h, -⟩
    · exact ⟨h1, h2⟩
    · exact absurd exV_ok h
  have HB2 := Lib.hid (HB1.out.trans (hb2.mono HB1.out.size))
  have hl : (Fr.sealL (msgB exV)).length = 14 := by rw [Fr.seal_len, exV_enc]; rfl
  obtain ⟨g, cap, rfl, hcap⟩ := own_slice ho (by rw [hl]; decide)
  have hsub := Fr.sub_plain hs 4 6 (by rw [hl]; decide)
  rw [show ((Fr.sealL (msgB exV)).drop 4).take 6 = [2, 1, 2, 1, 5, 1] from by
    have q := seal_mid (zs := msgB exV)
    rw [exV_enc] at q ⊢
    exact q, Nat.zero_add] at hsub
  have hq1 := run_str hsub
  rw [hl] at hcap ⊢
  clear hz ho hs hsub hb2 hl
  go_wp2
  go_ret
  exact ⟨rfl, HB2.out⟩
end Ms
end Go.Proofs.YtbdjihmgdkailaaDoor
