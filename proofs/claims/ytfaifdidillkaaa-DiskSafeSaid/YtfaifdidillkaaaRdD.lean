/- The document's disk: Read, Sync, Remove, Loose, Set. No condition. -/
import Derived.Test.YtfaifdidillkaaaRdC
namespace Go.Proofs.Ytfaifdidillkaaa
open Go.ChangeShapes Go.WideShapes Go.ChangeAt Go.RowKit Go.Deep
set_option linter.unusedVariables false
set_option maxRecDepth 100000
set_option linter.unusedSimpArgs false
namespace Rk
open Dk
variable {w w' : World} {S : Nat → Prop} {q : Nat} {vF : Value} {arm : Int} {off : Bool} {F : List Fl} {n : Nat}
theorem RdV.file {k : Nat} {f : Fl} (h : RdV w S q vF arm off F) (hk : F[k]? = some f) : ∃ g cap, vF = .slice (some ⟨g, 0, none⟩) F.length cap ∧ F.length ≤ cap ∧ cap ≤ 9223372036854775807 ∧ w.cell? ⟨g, k * 3, none⟩ = some (.string f.name) ∧ w.cell? ⟨g, k * 3 + 1, none⟩ = some (.string (strOfNums f.zs)) ∧ w.cell? ⟨g, k * 3 + 2, none⟩ = some (.int .i64 f.safe) ∧ ∀ i, w.frozen? ⟨g, i, none⟩ = false := by
  have hlt : k < F.length := (List.getElem?_eq_some_iff.1 hk).1
  obtain ⟨g, cg, cur, rfl, hgc⟩ : ∃ g c cur, vF = .slice (some ⟨g, 0, none⟩) F.length c ∧ w.heap[g]? = some (.cells cur TE (0, 0)) := by
    rcases own_form h.own with ⟨e, h0⟩ | ⟨g, c, cur, e, hg, -⟩
    · omega
    · exact ⟨g, c, cur, e, hg⟩
  obtain ⟨b, off', cp, e2, -, hlc, hcm, hbl, hcs⟩ : ∃ b off cp, Value.slice (some ⟨g, 0, none⟩) F.length cg = .slice (some ⟨b, off, none⟩) F.length cp ∧ 0 < F.length ∧ F.length ≤ cp ∧ cp ≤ 9223372036854775807 ∧ b < w.heap.size ∧ ∀ i x, F[i]? = some x → ∀ j u, (rfC x)[j]? = some u → w.cell? ⟨b, off + (i * 3 + j), none⟩ = some u := by
    rcases SlR.cases (h.own.sl rfC_len) with ⟨a2, c2, e, hnil⟩ | h
    · rw [hnil] at hlt; simp at hlt
    · exact h
  simp only [Value.slice.injEq, Option.some.injEq, Addr.mk.injEq] at e2
  obtain ⟨⟨rfl, rfl, -⟩, -, rfl⟩ := e2
  obtain ⟨y0, y1, y2⟩ := rfC_cells (w := w) (b := g) (o := k * 3) (fun i u hu => by have := hcs k f hk i u hu; rwa [Nat.zero_add] at this)
  exact ⟨g, cg, rfl, hlc, hcm, y0, y1, y2, fun i => frozen_of_row _ _ _ _ _ hgc⟩
theorem del_at {f : Fl} {k : Nat} {x : ByteArray} (hs : SrtF F) (hk : F[k]? = some f) (hn : f.name = x) : delF F x = F.take k ++ F.drop (k + 1) := by
  obtain ⟨hlt, hx⟩ := List.getElem?_eq_some_iff.1 hk
  have e : F = F.take k ++ f :: F.drop (k + 1) := by rw [← hx, ← List.drop_eq_getElem_cons hlt, List.take_append_drop]
  have hp := hs
  unfold SrtF at hp
  rw [e, List.pairwise_append, List.pairwise_cons] at hp
  obtain ⟨-, ⟨h2, -⟩, h3⟩ := hp
  unfold delF
  have h : (F.take k ++ f :: F.drop (k + 1)).filter (fun f => !decide (f.name = x)) = F.take k ++ F.drop (k + 1) := by
    rw [List.filter_append, List.filter_cons_of_neg (by simp [hn])]
    rw [List.filter_eq_self.2 (fun a ha => by
      have := h3 a ha f (by simp)
      simp only [Bool.not_eq_true', decide_eq_false_iff_not]
      intro q
      rw [q, ← hn] at this
      exact nm_irrefl _ this)]
    rw [List.filter_eq_self.2 (fun a ha => by
      have := h2 a ha
      simp only [Bool.not_eq_true', decide_eq_false_iff_not]
      intro q
      rw [q, ← hn] at this
      exact nm_irrefl _ this)]
  rw [← e] at h
  exact h
set_option maxHeartbeats 8000000 in
theorem rread_any (x : ByteArray) (w : World) (h : RdV w S q vF arm off F) (hs : OkF n F) (hn : n ≤ 1000000000) : Calls Try.prog 21 #[.pointer (some ⟨q, 0, none⟩), .string x] w fun e w' => e = .returned (.tuple #[.string (strOfNums (readL (!off) F x)), .int .i64 (findE (!off) F x)]) ∧ Below w.heap.size w w' := by
  have H := Lib.hid h
  have HS := Lib.hid hs
  have hcnt := hs.cnt
  clear h hs
  go_enter Try.func21, Try.ntmps21
  go_wp2_with fail
  refine (rfind_any x w H.out HS.out).mono ?_
  rintro e w2 ⟨z, rfl, hfp, hb⟩
  have HB := Lib.hid hb
  have HL2 := Lib.hid (H.out.leftB hb)
  have H2 := Lib.hid (RdV.grow (w := w) (H.out.below hb))
  have c2 := H2.out.c2
  clear hb
  cases off
  case true =>
    have HE : Hid (strOfNums (readL (!true) F x) = ⟨#[]⟩ ∧ findE (!true) F x = 7) := Lib.hid ⟨rfl, rfl⟩
    go_wp2_with fail
    go_ret2
    exact ⟨by rw [HE.out.1, HE.out.2]; rfl, HB.out⟩
  rcases hfp with ⟨rfl, hfd⟩ | ⟨k, f, rfl, hk, hnm, hfd⟩
  · have HE : Hid (strOfNums (readL (!false) F x) = ⟨#[]⟩ ∧ findE (!false) F x = 4) := Lib.hid ⟨by unfold readL fileL oldF; rw [hfd]; rfl, by unfold findE; rw [hfd]; rfl⟩
    clear hfd
    go_wp2_with fail
    go_ret2
    exact ⟨by rw [HE.out.1, HE.out.2]; rfl, HB.out⟩
  · have HE : Hid (strOfNums (readL (!false) F x) = strOfNums f.zs ∧ findE (!false) F x = 0) := Lib.hid ⟨by unfold readL fileL oldF; rw [hfd]; rfl, by unfold findE; rw [hfd]; rfl⟩
    obtain ⟨g, cap, hvF, hlc, hcm, y0, y1, y2, hyz⟩ := H2.out.file hk
    subst hvF
    have c0 := H2.out.c0
    have hlt : k < F.length := (List.getElem?_eq_some_iff.1 hk).1
    have hki : (k : Int) < (F.length : Int) := by omega
    have hm := List.mem_of_getElem? hk
    have hfl := (HS.out.len f hm).2
    have hfs := HS.out.safe f hm
    have hn3 : (strOfNums f.zs).size = f.zs.length := strOfNums_size _
    have HN3 := Lib.hid hn3
    have hof : oldF F x = f := by unfold oldF; rw [hfd]; rfl
    clear hk hnm hfd hof hm hfs hfl
    go_wp2_with fail
    go_ret2
    exact ⟨by rw [HE.out.1, HE.out.2]; rfl, HB.out⟩
set_option maxHeartbeats 8000000 in
theorem rsync_any (x : ByteArray) (w : World) (h : RdV w S q vF arm off F) (hs : OkF n F) (hn : n ≤ 1000000000) : Calls Try.prog 22 #[.pointer (some ⟨q, 0, none⟩), .string x] w fun e w' => e = .returned (.int .i64 (findE (!off) F x)) ∧ RLeft S q w w' arm off (syncF (!off) F x) := by
  have H := Lib.hid h
  have HS := Lib.hid hs
  have hcnt := hs.cnt
  clear h hs
  go_enter Try.func22, Try.ntmps22
  go_wp2_with fail
  refine (rfind_any x w H.out HS.out).mono ?_
  rintro e w2 ⟨z, rfl, hfp, hb⟩
  have HB := Lib.hid hb
  have HL2 := Lib.hid (H.out.leftB hb)
  have H2 := Lib.hid (RdV.grow (w := w) (H.out.below hb))
  have c2 := H2.out.c2
  clear hb
  cases off
  case true =>
    have HE : Hid (findE (!true) F x = 7 ∧ syncF (!true) F x = F) := Lib.hid ⟨rfl, rfl⟩
    go_wp2_with fail
    go_ret
    exact ⟨by rw [HE.out.1]; rfl, by rw [HE.out.2]; exact HL2.out⟩
  rcases hfp with ⟨rfl, hfd⟩ | ⟨k, f, rfl, hk, hnm, hfd⟩
  · have HE : Hid (findE (!false) F x = 4 ∧ syncF (!false) F x = F) := Lib.hid ⟨by unfold findE; rw [hfd]; rfl, by unfold syncF findE; rw [hfd]; rfl⟩
    clear hfd
    go_wp2_with fail
    go_ret
    exact ⟨by rw [HE.out.1]; rfl, by rw [HE.out.2]; exact HL2.out⟩
  · have HE : Hid (findE (!false) F x = 0) := Lib.hid (by unfold findE; rw [hfd]; rfl)
    obtain ⟨g, cap, hvF, hlc, hcm, y0, y1, y2, hyz⟩ := H2.out.file hk
    subst hvF
    have c0 := H2.out.c0
    have hlt : k < F.length := (List.getElem?_eq_some_iff.1 hk).1
    have hki : (k : Int) < (F.length : Int) := by omega
    have hm := List.mem_of_getElem? hk
    have hfl := (HS.out.len f hm).2
    have hfs := HS.out.safe f hm
    have hn3 : (strOfNums f.zs).size = f.zs.length := strOfNums_size _
    have HN3 := Lib.hid hn3
    have hof : oldF F x = f := by unfold oldF; rw [hfd]; rfl
    have HSY : Hid (syncF (!false) F x = F.set k ⟨x, f.zs, f.zs.length⟩) := Lib.hid (by
      unfold syncF
      rw [if_pos HE.out, hof]
      exact set_at HS.out.srt hk hnm.symm)
    have HD := Lib.hid (H2.out.below ((Below.refl w2.heap.size w2).drew))
    have hL5 := HD.out.turnF (f' := ⟨x, f.zs, f.zs.length⟩) (j := 2) (u := .int .i64 (f.zs.length : Int)) hk (by decide) (by show [_, _, _] = [_, _, _]; rw [hnm])
    obtain ⟨W5, hW5⟩ : ∃ z, w2.drew.setCell ⟨g, k * 3 + 2, none⟩ (.int .i64 (f.zs.length : Int)) = z := ⟨_, rfl⟩
    rw [hW5] at hL5
    have HL5 : Hid (RLeft S q w W5 arm false (F.set k ⟨x, f.zs, f.zs.length⟩)) := Lib.hid (HL2.out.trans hL5)
    have HCC : Hid (w2.drew.cell? ⟨q, 0, none⟩ = some (.slice (some ⟨g, 0, none⟩) F.length cap) ∧ w2.drew.cell? ⟨g, k * 3 + 1, none⟩ = some (.string (strOfNums f.zs))) := Lib.hid ⟨HD.out.c0, y1⟩
    have zz : w2.drew.frozen? ⟨g, k * 3 + 2, none⟩ = false := hyz _
    have y2d : w2.drew.cell? ⟨g, k * 3 + 2, none⟩ = some (.int .i64 f.safe) := y2
    have hkm : k * 3 < 9223372036854775807 := by omega
    clear hk hnm hfd hof hm hfs hL5 y0 y1 y2 hyz
    go_upto_region 6 with fail
    refine Wl.start 16 (fun u => u.cell? ⟨q, 0, none⟩ = some (.slice (some ⟨g, 0, none⟩) F.length cap) ∧ u.cell? ⟨g, k * 3 + 1, none⟩ = some (.string (strOfNums f.zs))) (fun _ => True) (by kernel_rfl) HCC.out trivial (fun hk => ?_)
    refine Wl.take (i := 0) (v := .pointer (some ⟨q, 0, none⟩)) [1, 2, 3, 14, 15, 16] rfl (by kernel_rfl) (by kernel_rfl) (by kernel_rfl) (by kernel_rfl) (by kernel_rfl) (fun _ _ _ h => h) (.inl ⟨by kernel_rfl, ?_⟩) hk ?_
    · intro wx hSw
      clear hSw hk
      go_simp
      try first | with_reducible rfl | kernel_rfl
    simp only [Act.put, List.getElem_toArray, List.getElem_cons_succ, List.getElem_cons_zero, List.setIfInBounds_toArray, List.set_cons_succ, List.set_cons_zero]
    refine Wl.take (i := 1) (v := .pointer (some ⟨q, 0, none⟩)) [2, 3, 14, 15, 16] rfl (by kernel_rfl) (by kernel_rfl) (by kernel_rfl) (by kernel_rfl) (by kernel_rfl) (fun _ _ _ h => h) (.inl ⟨by kernel_rfl, ?_⟩) hk ?_
    · intro wx hSw
      clear hSw hk
      go_simp
      try first | with_reducible rfl | kernel_rfl
    simp only [Act.put, List.getElem_toArray, List.getElem_cons_succ, List.getElem_cons_zero, List.setIfInBounds_toArray, List.set_cons_succ, List.set_cons_zero]
    refine Wl.take (i := 2) (v := .pointer (some ⟨q, 0, none⟩)) [3, 14, 15, 16] rfl (by kernel_rfl) (by kernel_rfl) (by kernel_rfl) (by kernel_rfl) (by kernel_rfl) (fun _ _ _ h => h) (.inl ⟨by kernel_rfl, ?_⟩) hk ?_
    · intro wx hSw
      clear hSw hk
      go_simp
      try first | with_reducible rfl | kernel_rfl
    simp only [Act.put, List.getElem_toArray, List.getElem_cons_succ, List.getElem_cons_zero, List.setIfInBounds_toArray, List.set_cons_succ, List.set_cons_zero]
    refine Wl.take (i := 3) (v := .slice (some ⟨g, 0, none⟩) F.length cap) [14, 15, 16] rfl (by kernel_rfl) (by kernel_rfl) (by kernel_rfl) (by kernel_rfl) (by kernel_rfl) (fun _ _ _ h => h) (.inl ⟨by kernel_rfl, ?_⟩) hk ?_
    · intro wx hSw
      have cc := hSw.1.1
      clear hSw hk
      go_simp
      try first | with_reducible rfl | kernel_rfl
    simp only [Act.put, List.getElem_toArray, List.getElem_cons_succ, List.getElem_cons_zero, List.setIfInBounds_toArray, List.set_cons_succ, List.set_cons_zero]
    refine Wl.take (i := 4) (v := .int .i64 (k : Int)) [14, 15, 16] rfl (by kernel_rfl) (by kernel_rfl) (by kernel_rfl) (by kernel_rfl) (by kernel_rfl) (fun _ _ _ h => h) (.inl ⟨by kernel_rfl, ?_⟩) hk ?_
    · intro wx hSw
      clear hSw hk
      go_simp
      try first | with_reducible rfl | kernel_rfl
    simp only [Act.put, List.getElem_toArray, List.getElem_cons_succ, List.getElem_cons_zero, List.setIfInBounds_toArray, List.set_cons_succ, List.set_cons_zero]
    refine Wl.take (i := 5) (v := .pointer (some ⟨q, 0, none⟩)) [6, 7, 8, 10, 11, 12, 13, 14, 15, 16] rfl (by kernel_rfl) (by kernel_rfl) (by kernel_rfl) (by kernel_rfl) (by kernel_rfl) (fun _ _ _ h => h) (.inl ⟨by kernel_rfl, ?_⟩) hk ?_
    · intro wx hSw
      clear hSw hk
      go_simp
      try first | with_reducible rfl | kernel_rfl
    simp only [Act.put, List.getElem_toArray, List.getElem_cons_succ, List.getElem_cons_zero, List.setIfInBounds_toArray, List.set_cons_succ, List.set_cons_zero]
    refine Wl.take (i := 6) (v := .pointer (some ⟨q, 0, none⟩)) [7, 8, 10, 11, 12, 13, 14, 15, 16] rfl (by kernel_rfl) (by kernel_rfl) (by kernel_rfl) (by kernel_rfl) (by kernel_rfl) (fun _ _ _ h => h) (.inl ⟨by kernel_rfl, ?_⟩) hk ?_
    · intro wx hSw
      clear hSw hk
      go_simp
      try first | with_reducible rfl | kernel_rfl
    simp only [Act.put, List.getElem_toArray, List.getElem_cons_succ, List.getElem_cons_zero, List.setIfInBounds_toArray, List.set_cons_succ, List.set_cons_zero]
    refine Wl.take (i := 7) (v := .pointer (some ⟨q, 0, none⟩)) [8, 10, 11, 12, 13, 14, 15, 16] rfl (by kernel_rfl) (by kernel_rfl) (by kernel_rfl) (by kernel_rfl) (by kernel_rfl) (fun _ _ _ h => h) (.inl ⟨by kernel_rfl, ?_⟩) hk ?_
    · intro wx hSw
      clear hSw hk
      go_simp
      try first | with_reducible rfl | kernel_rfl
    simp only [Act.put, List.getElem_toArray, List.getElem_cons_succ, List.getElem_cons_zero, List.setIfInBounds_toArray, List.set_cons_succ, List.set_cons_zero]
    refine Wl.take (i := 8) (v := .slice (some ⟨g, 0, none⟩) F.length cap) [10, 11, 12, 13, 14, 15, 16] rfl (by kernel_rfl) (by kernel_rfl) (by kernel_rfl) (by kernel_rfl) (by kernel_rfl) (fun _ _ _ h => h) (.inl ⟨by kernel_rfl, ?_⟩) hk ?_
    · intro wx hSw
      have cc := hSw.1.1
      clear hSw hk
      go_simp
      try first | with_reducible rfl | kernel_rfl
    simp only [Act.put, List.getElem_toArray, List.getElem_cons_succ, List.getElem_cons_zero, List.setIfInBounds_toArray, List.set_cons_succ, List.set_cons_zero]
    refine Wl.take (i := 9) (v := .int .i64 (k : Int)) [10, 11, 12, 13, 14, 15, 16] rfl (by kernel_rfl) (by kernel_rfl) (by kernel_rfl) (by kernel_rfl) (by kernel_rfl) (fun _ _ _ h => h) (.inl ⟨by kernel_rfl, ?_⟩) hk ?_
    · intro wx hSw
      clear hSw hk
      go_simp
      try first | with_reducible rfl | kernel_rfl
    simp only [Act.put, List.getElem_toArray, List.getElem_cons_succ, List.getElem_cons_zero, List.setIfInBounds_toArray, List.set_cons_succ, List.set_cons_zero]
    refine Wl.take (i := 10) (v := .pointer (some ⟨g, k * 3, none⟩)) [11, 12, 13, 14, 15, 16] rfl (by kernel_rfl) (by kernel_rfl) (by kernel_rfl) (by kernel_rfl) (by kernel_rfl) (fun _ _ _ h => h) (.inl ⟨by kernel_rfl, ?_⟩) hk ?_
    · intro wx hSw
      clear hSw hk
      go_simp
      try first | with_reducible rfl | kernel_rfl
    simp only [Act.put, List.getElem_toArray, List.getElem_cons_succ, List.getElem_cons_zero, List.setIfInBounds_toArray, List.set_cons_succ, List.set_cons_zero]
    refine Wl.take (i := 11) (v := .pointer (some ⟨g, k * 3 + 1, none⟩)) [12, 13, 14, 15, 16] rfl (by kernel_rfl) (by kernel_rfl) (by kernel_rfl) (by kernel_rfl) (by kernel_rfl) (fun _ _ _ h => h) (.inl ⟨by kernel_rfl, ?_⟩) hk ?_
    · intro wx hSw
      clear hSw hk
      go_simp
      try first | with_reducible rfl | kernel_rfl
    simp only [Act.put, List.getElem_toArray, List.getElem_cons_succ, List.getElem_cons_zero, List.setIfInBounds_toArray, List.set_cons_succ, List.set_cons_zero]
    refine Wl.take (i := 12) (v := .string (strOfNums f.zs)) [13, 14, 15, 16] rfl (by kernel_rfl) (by kernel_rfl) (by kernel_rfl) (by kernel_rfl) (by kernel_rfl) (fun _ _ _ h => h) (.inl ⟨by kernel_rfl, ?_⟩) hk ?_
    · intro wx hSw
      have cc := hSw.1.2
      clear hSw hk
      go_simp
      try first | with_reducible rfl | kernel_rfl
    simp only [Act.put, List.getElem_toArray, List.getElem_cons_succ, List.getElem_cons_zero, List.setIfInBounds_toArray, List.set_cons_succ, List.set_cons_zero]
    refine Wl.take (i := 13) (v := .int .i64 (f.zs.length : Int)) [14, 15, 16] rfl (by kernel_rfl) (by kernel_rfl) (by kernel_rfl) (by kernel_rfl) (by kernel_rfl) (fun _ _ _ h => h) (.inl ⟨by kernel_rfl, ?_⟩) hk ?_
    · intro wx hSw
      have hn3 := HN3.out
      clear hSw hk
      go_simp
      try first | with_reducible rfl | kernel_rfl
    simp only [Act.put, List.getElem_toArray, List.getElem_cons_succ, List.getElem_cons_zero, List.setIfInBounds_toArray, List.set_cons_succ, List.set_cons_zero]
    refine Wl.take (i := 14) (v := .pointer (some ⟨g, k * 3, none⟩)) [15, 16] rfl (by kernel_rfl) (by kernel_rfl) (by kernel_rfl) (by kernel_rfl) (by kernel_rfl) (fun _ _ _ h => h) (.inl ⟨by kernel_rfl, ?_⟩) hk ?_
    · intro wx hSw
      clear hSw hk
      go_simp
      try first | with_reducible rfl | kernel_rfl
    simp only [Act.put, List.getElem_toArray, List.getElem_cons_succ, List.getElem_cons_zero, List.setIfInBounds_toArray, List.set_cons_succ, List.set_cons_zero]
    refine Wl.take (i := 15) (v := .pointer (some ⟨g, k * 3 + 2, none⟩)) [16] rfl (by kernel_rfl) (by kernel_rfl) (by kernel_rfl) (by kernel_rfl) (by kernel_rfl) (fun _ _ _ h => h) (.inl ⟨by kernel_rfl, ?_⟩) hk ?_
    · intro wx hSw
      clear hSw hk
      go_simp
      try first | with_reducible rfl | kernel_rfl
    simp only [Act.put, List.getElem_toArray, List.getElem_cons_succ, List.getElem_cons_zero, List.setIfInBounds_toArray, List.set_cons_succ, List.set_cons_zero]
    refine Wl.one (i := 16) (by kernel_rfl) rfl (fun K hK => ?_)
    go_simp
    try rw [hW5]
    refine hK.out _ _ (Wl.Kn.off (by kernel_rfl) trivial) (fun hk => ?_)
    clear hK K
    refine Wl.done (by kernel_rfl) ?_ _
    clear hk
    clear zz y2d hW5
    go_wp2_with fail
    go_ret
    exact ⟨by rw [HE.out]; rfl, by rw [HSY.out]; exact HL5.out⟩
set_option maxHeartbeats 8000000 in
theorem rloose_any (x : ByteArray) (w : World) (h : RdV w S q vF arm off F) (hs : OkF n F) (hn : n ≤ 1000000000) : Calls Try.prog 29 #[.pointer (some ⟨q, 0, none⟩), .string x] w fun e w' => e = .returned (.int .i64 (looseL F x)) ∧ Below w.heap.size w w' := by
  have H := Lib.hid h
  have HS := Lib.hid hs
  have hcnt := hs.cnt
  clear h hs
  go_enter Try.func29, Try.ntmps29
  go_wp2_with fail
  refine (rfind_any x w H.out HS.out).mono ?_
  rintro e w2 ⟨z, rfl, hfp, hb⟩
  have HB := Lib.hid hb
  have HL2 := Lib.hid (H.out.leftB hb)
  have H2 := Lib.hid (RdV.grow (w := w) (H.out.below hb))
  have c2 := H2.out.c2
  clear hb
  rcases hfp with ⟨rfl, hfd⟩ | ⟨k, f, rfl, hk, hnm, hfd⟩
  · have HE : Hid (looseL F x = 0) := Lib.hid (by unfold looseL; rw [hfd])
    clear hfd
    go_wp2_with fail
    go_ret
    exact ⟨by rw [HE.out]; rfl, HB.out⟩
  · have HE : Hid (looseL F x = (f.zs.length : Int) - f.safe) := Lib.hid (by unfold looseL; rw [hfd])
    obtain ⟨g, cap, hvF, hlc, hcm, y0, y1, y2, hyz⟩ := H2.out.file hk
    subst hvF
    have c0 := H2.out.c0
    have hlt : k < F.length := (List.getElem?_eq_some_iff.1 hk).1
    have hki : (k : Int) < (F.length : Int) := by omega
    have hm := List.mem_of_getElem? hk
    have hfl := (HS.out.len f hm).2
    have hfs := HS.out.safe f hm
    have hn3 : (strOfNums f.zs).size = f.zs.length := strOfNums_size _
    have HN3 := Lib.hid hn3
    have hof : oldF F x = f := by unfold oldF; rw [hfd]; rfl
    have HCC : Hid (w2.drew.cell? ⟨q, 0, none⟩ = some (.slice (some ⟨g, 0, none⟩) F.length cap) ∧ w2.drew.cell? ⟨g, k * 3 + 1, none⟩ = some (.string (strOfNums f.zs)) ∧ w2.drew.cell? ⟨g, k * 3 + 2, none⟩ = some (.int .i64 (f.safe : Int))) := Lib.hid ⟨c0, y1, y2⟩
    have hkm : k * 3 < 9223372036854775807 := by omega
    clear hk hnm hfd hof hm y0 y1 y2 hyz
    go_upto_region 4 with fail
    refine Wl.start 999 (fun _ => True) (fun u => u.cell? ⟨q, 0, none⟩ = some (.slice (some ⟨g, 0, none⟩) F.length cap) ∧ u.cell? ⟨g, k * 3 + 1, none⟩ = some (.string (strOfNums f.zs)) ∧ u.cell? ⟨g, k * 3 + 2, none⟩ = some (.int .i64 (f.safe : Int))) (by kernel_rfl) trivial HCC.out (fun hk => ?_)
    refine Wl.take0 (i := 0) (v := .pointer (some ⟨q, 0, none⟩)) rfl (by kernel_rfl) (by kernel_rfl) (by kernel_rfl) (by kernel_rfl) (fun _ _ _ h => h) (.inl ⟨by kernel_rfl, ?_⟩) hk ?_
    · intro wx hSw
      clear hSw hk
      go_simp
      try first | with_reducible rfl | kernel_rfl
    simp only [Act.put, List.getElem_toArray, List.getElem_cons_succ, List.getElem_cons_zero, List.setIfInBounds_toArray, List.set_cons_succ, List.set_cons_zero]
    refine Wl.take0 (i := 1) (v := .pointer (some ⟨q, 0, none⟩)) rfl (by kernel_rfl) (by kernel_rfl) (by kernel_rfl) (by kernel_rfl) (fun _ _ _ h => h) (.inl ⟨by kernel_rfl, ?_⟩) hk ?_
    · intro wx hSw
      clear hSw hk
      go_simp
      try first | with_reducible rfl | kernel_rfl
    simp only [Act.put, List.getElem_toArray, List.getElem_cons_succ, List.getElem_cons_zero, List.setIfInBounds_toArray, List.set_cons_succ, List.set_cons_zero]
    refine Wl.take0 (i := 2) (v := .pointer (some ⟨q, 0, none⟩)) rfl (by kernel_rfl) (by kernel_rfl) (by kernel_rfl) (by kernel_rfl) (fun _ _ _ h => h) (.inl ⟨by kernel_rfl, ?_⟩) hk ?_
    · intro wx hSw
      clear hSw hk
      go_simp
      try first | with_reducible rfl | kernel_rfl
    simp only [Act.put, List.getElem_toArray, List.getElem_cons_succ, List.getElem_cons_zero, List.setIfInBounds_toArray, List.set_cons_succ, List.set_cons_zero]
    refine Wl.take0 (i := 3) (v := .slice (some ⟨g, 0, none⟩) F.length cap) rfl (by kernel_rfl) (by kernel_rfl) (by kernel_rfl) (by kernel_rfl) (fun _ _ _ h => h) (.inl ⟨by kernel_rfl, ?_⟩) hk ?_
    · intro wx hSw
      have cc := hSw.1
      clear hSw hk
      go_simp
      try first | with_reducible rfl | kernel_rfl
    simp only [Act.put, List.getElem_toArray, List.getElem_cons_succ, List.getElem_cons_zero, List.setIfInBounds_toArray, List.set_cons_succ, List.set_cons_zero]
    refine Wl.take0 (i := 4) (v := .int .i64 (k : Int)) rfl (by kernel_rfl) (by kernel_rfl) (by kernel_rfl) (by kernel_rfl) (fun _ _ _ h => h) (.inl ⟨by kernel_rfl, ?_⟩) hk ?_
    · intro wx hSw
      clear hSw hk
      go_simp
      try first | with_reducible rfl | kernel_rfl
    simp only [Act.put, List.getElem_toArray, List.getElem_cons_succ, List.getElem_cons_zero, List.setIfInBounds_toArray, List.set_cons_succ, List.set_cons_zero]
    refine Wl.take0 (i := 5) (v := .pointer (some ⟨g, k * 3, none⟩)) rfl (by kernel_rfl) (by kernel_rfl) (by kernel_rfl) (by kernel_rfl) (fun _ _ _ h => h) (.inl ⟨by kernel_rfl, ?_⟩) hk ?_
    · intro wx hSw
      clear hSw hk
      go_simp
      try first | with_reducible rfl | kernel_rfl
    simp only [Act.put, List.getElem_toArray, List.getElem_cons_succ, List.getElem_cons_zero, List.setIfInBounds_toArray, List.set_cons_succ, List.set_cons_zero]
    refine Wl.take0 (i := 6) (v := .pointer (some ⟨g, k * 3 + 1, none⟩)) rfl (by kernel_rfl) (by kernel_rfl) (by kernel_rfl) (by kernel_rfl) (fun _ _ _ h => h) (.inl ⟨by kernel_rfl, ?_⟩) hk ?_
    · intro wx hSw
      clear hSw hk
      go_simp
      try first | with_reducible rfl | kernel_rfl
    simp only [Act.put, List.getElem_toArray, List.getElem_cons_succ, List.getElem_cons_zero, List.setIfInBounds_toArray, List.set_cons_succ, List.set_cons_zero]
    refine Wl.take0 (i := 7) (v := .string (strOfNums f.zs)) rfl (by kernel_rfl) (by kernel_rfl) (by kernel_rfl) (by kernel_rfl) (fun _ _ _ h => h) (.inl ⟨by kernel_rfl, ?_⟩) hk ?_
    · intro wx hSw
      have cc := hSw.2.1
      clear hSw hk
      go_simp
      try first | with_reducible rfl | kernel_rfl
    simp only [Act.put, List.getElem_toArray, List.getElem_cons_succ, List.getElem_cons_zero, List.setIfInBounds_toArray, List.set_cons_succ, List.set_cons_zero]
    refine Wl.take0 (i := 8) (v := .int .i64 (f.zs.length : Int)) rfl (by kernel_rfl) (by kernel_rfl) (by kernel_rfl) (by kernel_rfl) (fun _ _ _ h => h) (.inl ⟨by kernel_rfl, ?_⟩) hk ?_
    · intro wx hSw
      have hn3 := HN3.out
      clear hSw hk
      go_simp
      try first | with_reducible rfl | kernel_rfl
    simp only [Act.put, List.getElem_toArray, List.getElem_cons_succ, List.getElem_cons_zero, List.setIfInBounds_toArray, List.set_cons_succ, List.set_cons_zero]
    refine Wl.take0 (i := 9) (v := .pointer (some ⟨q, 0, none⟩)) rfl (by kernel_rfl) (by kernel_rfl) (by kernel_rfl) (by kernel_rfl) (fun _ _ _ h => h) (.inl ⟨by kernel_rfl, ?_⟩) hk ?_
    · intro wx hSw
      clear hSw hk
      go_simp
      try first | with_reducible rfl | kernel_rfl
    simp only [Act.put, List.getElem_toArray, List.getElem_cons_succ, List.getElem_cons_zero, List.setIfInBounds_toArray, List.set_cons_succ, List.set_cons_zero]
    refine Wl.take0 (i := 10) (v := .pointer (some ⟨q, 0, none⟩)) rfl (by kernel_rfl) (by kernel_rfl) (by kernel_rfl) (by kernel_rfl) (fun _ _ _ h => h) (.inl ⟨by kernel_rfl, ?_⟩) hk ?_
    · intro wx hSw
      clear hSw hk
      go_simp
      try first | with_reducible rfl | kernel_rfl
    simp only [Act.put, List.getElem_toArray, List.getElem_cons_succ, List.getElem_cons_zero, List.setIfInBounds_toArray, List.set_cons_succ, List.set_cons_zero]
    refine Wl.take0 (i := 11) (v := .pointer (some ⟨q, 0, none⟩)) rfl (by kernel_rfl) (by kernel_rfl) (by kernel_rfl) (by kernel_rfl) (fun _ _ _ h => h) (.inl ⟨by kernel_rfl, ?_⟩) hk ?_
    · intro wx hSw
      clear hSw hk
      go_simp
      try first | with_reducible rfl | kernel_rfl
    simp only [Act.put, List.getElem_toArray, List.getElem_cons_succ, List.getElem_cons_zero, List.setIfInBounds_toArray, List.set_cons_succ, List.set_cons_zero]
    refine Wl.take0 (i := 12) (v := .slice (some ⟨g, 0, none⟩) F.length cap) rfl (by kernel_rfl) (by kernel_rfl) (by kernel_rfl) (by kernel_rfl) (fun _ _ _ h => h) (.inl ⟨by kernel_rfl, ?_⟩) hk ?_
    · intro wx hSw
      have cc := hSw.1
      clear hSw hk
      go_simp
      try first | with_reducible rfl | kernel_rfl
    simp only [Act.put, List.getElem_toArray, List.getElem_cons_succ, List.getElem_cons_zero, List.setIfInBounds_toArray, List.set_cons_succ, List.set_cons_zero]
    refine Wl.take0 (i := 13) (v := .int .i64 (k : Int)) rfl (by kernel_rfl) (by kernel_rfl) (by kernel_rfl) (by kernel_rfl) (fun _ _ _ h => h) (.inl ⟨by kernel_rfl, ?_⟩) hk ?_
    · intro wx hSw
      clear hSw hk
      go_simp
      try first | with_reducible rfl | kernel_rfl
    simp only [Act.put, List.getElem_toArray, List.getElem_cons_succ, List.getElem_cons_zero, List.setIfInBounds_toArray, List.set_cons_succ, List.set_cons_zero]
    refine Wl.take0 (i := 14) (v := .pointer (some ⟨g, k * 3, none⟩)) rfl (by kernel_rfl) (by kernel_rfl) (by kernel_rfl) (by kernel_rfl) (fun _ _ _ h => h) (.inl ⟨by kernel_rfl, ?_⟩) hk ?_
    · intro wx hSw
      clear hSw hk
      go_simp
      try first | with_reducible rfl | kernel_rfl
    simp only [Act.put, List.getElem_toArray, List.getElem_cons_succ, List.getElem_cons_zero, List.setIfInBounds_toArray, List.set_cons_succ, List.set_cons_zero]
    refine Wl.take0 (i := 15) (v := .pointer (some ⟨g, k * 3 + 2, none⟩)) rfl (by kernel_rfl) (by kernel_rfl) (by kernel_rfl) (by kernel_rfl) (fun _ _ _ h => h) (.inl ⟨by kernel_rfl, ?_⟩) hk ?_
    · intro wx hSw
      clear hSw hk
      go_simp
      try first | with_reducible rfl | kernel_rfl
    simp only [Act.put, List.getElem_toArray, List.getElem_cons_succ, List.getElem_cons_zero, List.setIfInBounds_toArray, List.set_cons_succ, List.set_cons_zero]
    refine Wl.take0 (i := 16) (v := .int .i64 (f.safe : Int)) rfl (by kernel_rfl) (by kernel_rfl) (by kernel_rfl) (by kernel_rfl) (fun _ _ _ h => h) (.inl ⟨by kernel_rfl, ?_⟩) hk ?_
    · intro wx hSw
      have cc := hSw.2.2
      clear hSw hk
      go_simp
      try first | with_reducible rfl | kernel_rfl
    simp only [Act.put, List.getElem_toArray, List.getElem_cons_succ, List.getElem_cons_zero, List.setIfInBounds_toArray, List.set_cons_succ, List.set_cons_zero]
    refine Wl.take0 (i := 17) (v := .int .i64 ((f.zs.length : Int) - f.safe)) rfl (by kernel_rfl) (by kernel_rfl) (by kernel_rfl) (by kernel_rfl) (fun _ _ _ h => h) (.inl ⟨by kernel_rfl, ?_⟩) hk ?_
    · intro wx hSw
      have hwr : IntKind.i64.wrap ((f.zs.length : Int) - f.safe) = (f.zs.length : Int) - f.safe := by rw [IntKind.wrap_i64]; omega
      clear hSw hk
      go_simp
      try first | with_reducible rfl | kernel_rfl
    simp only [Act.put, List.getElem_toArray, List.getElem_cons_succ, List.getElem_cons_zero, List.setIfInBounds_toArray, List.set_cons_succ, List.set_cons_zero]
    refine Wl.take0 (i := 18) (v := .int .i64 ((f.zs.length : Int) - f.safe)) rfl (by kernel_rfl) (by kernel_rfl) (by kernel_rfl) (by kernel_rfl) (fun _ _ _ h => h) (.inl ⟨by kernel_rfl, ?_⟩) hk ?_
    · intro wx hSw
      clear hSw hk
      go_simp
      try first | with_reducible rfl | kernel_rfl
    simp only [Act.put, List.getElem_toArray, List.getElem_cons_succ, List.getElem_cons_zero, List.setIfInBounds_toArray, List.set_cons_succ, List.set_cons_zero]
    refine Wl.done (by kernel_rfl) ?_ _
    clear hk
    go_wp2_with fail
    go_ret
    exact ⟨by rw [HE.out]; rfl, HB.out.drew⟩
set_option maxHeartbeats 8000000 in
theorem rremove_any (x : ByteArray) (w : World) (h : RdV w S q vF arm off F) (hs : OkF n F) (hn : n ≤ 1000000000) : Calls Try.prog 24 #[.pointer (some ⟨q, 0, none⟩), .string x] w fun e w' => e = .returned (.int .i64 (findE (!off) F x)) ∧ RLeft S q w w' arm off (removeF (!off) F x) := by
  have H := Lib.hid h
  have HS := Lib.hid hs
  have hcnt := hs.cnt
  clear h hs
  go_enter Try.func24, Try.ntmps24
  go_wp2_with fail
  refine (rfind_any x w H.out HS.out).mono ?_
  rintro e w2 ⟨z, rfl, hfp, hb⟩
  have HB := Lib.hid hb
  have HL2 := Lib.hid (H.out.leftB hb)
  have H2 := Lib.hid (RdV.grow (w := w) (H.out.below hb))
  have c2 := H2.out.c2
  clear hb
  cases off
  case true =>
    have HE : Hid (findE (!true) F x = 7 ∧ removeF (!true) F x = F) := Lib.hid ⟨rfl, rfl⟩
    go_wp2_with fail
    go_ret
    exact ⟨by rw [HE.out.1]; rfl, by rw [HE.out.2]; exact HL2.out⟩
  rcases hfp with ⟨rfl, hfd⟩ | ⟨k, f, rfl, hk, hnm, hfd⟩
  · have HE : Hid (findE (!false) F x = 4 ∧ removeF (!false) F x = F) := Lib.hid ⟨by unfold findE; rw [hfd]; rfl, by unfold removeF findE; rw [hfd]; rfl⟩
    clear hfd
    go_wp2_with fail
    go_ret
    exact ⟨by rw [HE.out.1]; rfl, by rw [HE.out.2]; exact HL2.out⟩
  · have HE : Hid (findE (!false) F x = 0) := Lib.hid (by unfold findE; rw [hfd]; rfl)
    obtain ⟨g, cap, hvF, hlc, hcm, y0, y1, y2, hyz⟩ := H2.out.file hk
    subst hvF
    have c0 := H2.out.c0
    have hlt : k < F.length := (List.getElem?_eq_some_iff.1 hk).1
    have hki : (k : Int) < (F.length : Int) := by omega
    have hm := List.mem_of_getElem? hk
    have hfl := (HS.out.len f hm).2
    have hfs := HS.out.safe f hm
    have hn3 : (strOfNums f.zs).size = f.zs.length := strOfNums_size _
    have HN3 := Lib.hid hn3
    have hof : oldF F x = f := by unfold oldF; rw [hfd]; rfl
    have HRM : Hid (removeF (!false) F x = F.take k ++ F.drop (k + 1)) := Lib.hid (by
      unfold removeF
      rw [if_pos HE.out]
      exact del_at HS.out.srt hk hnm)
    have HD := Lib.hid (H2.out.below ((Below.refl w2.heap.size w2).drew))
    obtain ⟨AD, hAD⟩ : ∃ q, (if cap = k + 1 then (some (⟨g, 0, none⟩ : Addr)) else some ⟨g, (k + 1) * 3, none⟩) = q := ⟨_, rfl⟩
    have HTK : Hid (SlR 3 rfC w2.drew (.slice (some ⟨g, 0, none⟩) k cap) (F.take k)) := Lib.hid ((HD.out.own.sl rfC_len).takes k (by omega))
    have HDP : Hid (SlR 3 rfC w2.drew (.slice AD (F.length - (k + 1)) (cap - (k + 1))) (F.drop (k + 1))) := Lib.hid (by
      rw [← hAD]
      by_cases hc : cap = k + 1
      · rw [if_pos hc, show F.length - (k + 1) = 0 by omega, show cap - (k + 1) = 0 by omega, List.drop_of_length_le (by omega)]
        exact SlR.none_left _ _
      · rw [if_neg hc]
        exact (HD.out.own.sl rfC_len).drops (k + 1) (by omega))
    clear hk hnm hfd hof hm hfs hfl hyz
    go_upto_region 6 with fail
    clear y0 y1 y2
    have hkc : k ≤ cap := by omega
    have hkc1 : k + 1 ≤ cap := by omega
    have hkl1 : k + 1 ≤ F.length := by omega
    have hb0 : (0 : Int) ≤ (k : Int) + 1 := by omega
    have hb1 : ¬ (F.length : Int) < (k : Int) + 1 := by omega
    refine Wl.start 18 (fun u => u.cell? ⟨q, 0, none⟩ = some (.slice (some ⟨g, 0, none⟩) F.length cap)) (fun _ => True) (by kernel_rfl) c0 trivial (fun hk => ?_)
    refine Wl.take (i := 0) (v := .pointer (some ⟨q, 0, none⟩)) [16, 17, 18] rfl (by kernel_rfl) (by kernel_rfl) (by kernel_rfl) (by kernel_rfl) (by kernel_rfl) (fun _ _ _ h => h) (.inl ⟨by kernel_rfl, ?_⟩) hk ?_
    · intro wx hSw
      clear hSw hk
      go_simp
      try first | with_reducible rfl | kernel_rfl
    simp only [Act.put, List.getElem_toArray, List.getElem_cons_succ, List.getElem_cons_zero, List.setIfInBounds_toArray, List.set_cons_succ, List.set_cons_zero]
    refine Wl.take (i := 1) (v := .pointer (some ⟨q, 0, none⟩)) [2, 3, 4, 6, 7, 15, 16, 17, 18] rfl (by kernel_rfl) (by kernel_rfl) (by kernel_rfl) (by kernel_rfl) (by kernel_rfl) (fun _ _ _ h => h) (.inl ⟨by kernel_rfl, ?_⟩) hk ?_
    · intro wx hSw
      clear hSw hk
      go_simp
      try first | with_reducible rfl | kernel_rfl
    simp only [Act.put, List.getElem_toArray, List.getElem_cons_succ, List.getElem_cons_zero, List.setIfInBounds_toArray, List.set_cons_succ, List.set_cons_zero]
    refine Wl.take (i := 2) (v := .pointer (some ⟨q, 0, none⟩)) [3, 4, 6, 7, 15, 16, 17, 18] rfl (by kernel_rfl) (by kernel_rfl) (by kernel_rfl) (by kernel_rfl) (by kernel_rfl) (fun _ _ _ h => h) (.inl ⟨by kernel_rfl, ?_⟩) hk ?_
    · intro wx hSw
      clear hSw hk
      go_simp
      try first | with_reducible rfl | kernel_rfl
    simp only [Act.put, List.getElem_toArray, List.getElem_cons_succ, List.getElem_cons_zero, List.setIfInBounds_toArray, List.set_cons_succ, List.set_cons_zero]
    refine Wl.take (i := 3) (v := .pointer (some ⟨q, 0, none⟩)) [4, 6, 7, 15, 16, 17, 18] rfl (by kernel_rfl) (by kernel_rfl) (by kernel_rfl) (by kernel_rfl) (by kernel_rfl) (fun _ _ _ h => h) (.inl ⟨by kernel_rfl, ?_⟩) hk ?_
    · intro wx hSw
      clear hSw hk
      go_simp
      try first | with_reducible rfl | kernel_rfl
    simp only [Act.put, List.getElem_toArray, List.getElem_cons_succ, List.getElem_cons_zero, List.setIfInBounds_toArray, List.set_cons_succ, List.set_cons_zero]
    refine Wl.take (i := 4) (v := .slice (some ⟨g, 0, none⟩) F.length cap) [6, 7, 15, 16, 17, 18] rfl (by kernel_rfl) (by kernel_rfl) (by kernel_rfl) (by kernel_rfl) (by kernel_rfl) (fun _ _ _ h => h) (.inl ⟨by kernel_rfl, ?_⟩) hk ?_
    · intro wx hSw
      have cc := hSw.1
      clear hSw hk
      go_simp
      try first | with_reducible rfl | kernel_rfl
    simp only [Act.put, List.getElem_toArray, List.getElem_cons_succ, List.getElem_cons_zero, List.setIfInBounds_toArray, List.set_cons_succ, List.set_cons_zero]
    refine Wl.take (i := 5) (v := .int .i64 (k : Int)) [6, 7, 15, 16, 17, 18] rfl (by kernel_rfl) (by kernel_rfl) (by kernel_rfl) (by kernel_rfl) (by kernel_rfl) (fun _ _ _ h => h) (.inl ⟨by kernel_rfl, ?_⟩) hk ?_
    · intro wx hSw
      clear hSw hk
      go_simp
      try first | with_reducible rfl | kernel_rfl
    simp only [Act.put, List.getElem_toArray, List.getElem_cons_succ, List.getElem_cons_zero, List.setIfInBounds_toArray, List.set_cons_succ, List.set_cons_zero]
    refine Wl.take (i := 6) (v := .slice (some ⟨g, 0, none⟩) k cap) [7, 15, 16, 17, 18] rfl (by kernel_rfl) (by kernel_rfl) (by kernel_rfl) (by kernel_rfl) (by kernel_rfl) (fun _ _ _ h => h) (.inl ⟨by kernel_rfl, ?_⟩) hk ?_
    · intro wx hSw
      clear hSw hk
      go_simp
      try first | with_reducible rfl | kernel_rfl
    simp only [Act.put, List.getElem_toArray, List.getElem_cons_succ, List.getElem_cons_zero, List.setIfInBounds_toArray, List.set_cons_succ, List.set_cons_zero]
    refine Wl.take (i := 8) (v := .pointer (some ⟨q, 0, none⟩)) [9, 10, 11, 14, 15, 16, 17, 18] rfl (by kernel_rfl) (by kernel_rfl) (by kernel_rfl) (by kernel_rfl) (by kernel_rfl) (fun _ _ _ h => h) (.inl ⟨by kernel_rfl, ?_⟩) hk ?_
    · intro wx hSw
      clear hSw hk
      go_simp
      try first | with_reducible rfl | kernel_rfl
    simp only [Act.put, List.getElem_toArray, List.getElem_cons_succ, List.getElem_cons_zero, List.setIfInBounds_toArray, List.set_cons_succ, List.set_cons_zero]
    refine Wl.take (i := 9) (v := .pointer (some ⟨q, 0, none⟩)) [10, 11, 14, 15, 16, 17, 18] rfl (by kernel_rfl) (by kernel_rfl) (by kernel_rfl) (by kernel_rfl) (by kernel_rfl) (fun _ _ _ h => h) (.inl ⟨by kernel_rfl, ?_⟩) hk ?_
    · intro wx hSw
      clear hSw hk
      go_simp
      try first | with_reducible rfl | kernel_rfl
    simp only [Act.put, List.getElem_toArray, List.getElem_cons_succ, List.getElem_cons_zero, List.setIfInBounds_toArray, List.set_cons_succ, List.set_cons_zero]
    refine Wl.take (i := 10) (v := .pointer (some ⟨q, 0, none⟩)) [11, 14, 15, 16, 17, 18] rfl (by kernel_rfl) (by kernel_rfl) (by kernel_rfl) (by kernel_rfl) (by kernel_rfl) (fun _ _ _ h => h) (.inl ⟨by kernel_rfl, ?_⟩) hk ?_
    · intro wx hSw
      clear hSw hk
      go_simp
      try first | with_reducible rfl | kernel_rfl
    simp only [Act.put, List.getElem_toArray, List.getElem_cons_succ, List.getElem_cons_zero, List.setIfInBounds_toArray, List.set_cons_succ, List.set_cons_zero]
    refine Wl.take (i := 11) (v := .slice (some ⟨g, 0, none⟩) F.length cap) [14, 15, 16, 17, 18] rfl (by kernel_rfl) (by kernel_rfl) (by kernel_rfl) (by kernel_rfl) (by kernel_rfl) (fun _ _ _ h => h) (.inl ⟨by kernel_rfl, ?_⟩) hk ?_
    · intro wx hSw
      have cc := hSw.1
      clear hSw hk
      go_simp
      try first | with_reducible rfl | kernel_rfl
    simp only [Act.put, List.getElem_toArray, List.getElem_cons_succ, List.getElem_cons_zero, List.setIfInBounds_toArray, List.set_cons_succ, List.set_cons_zero]
    refine Wl.take (i := 12) (v := .int .i64 (k : Int)) [13, 14, 15, 16, 17, 18] rfl (by kernel_rfl) (by kernel_rfl) (by kernel_rfl) (by kernel_rfl) (by kernel_rfl) (fun _ _ _ h => h) (.inl ⟨by kernel_rfl, ?_⟩) hk ?_
    · intro wx hSw
      clear hSw hk
      go_simp
      try first | with_reducible rfl | kernel_rfl
    simp only [Act.put, List.getElem_toArray, List.getElem_cons_succ, List.getElem_cons_zero, List.setIfInBounds_toArray, List.set_cons_succ, List.set_cons_zero]
    refine Wl.take (i := 13) (v := .int .i64 ((k : Int) + 1)) [14, 15, 16, 17, 18] rfl (by kernel_rfl) (by kernel_rfl) (by kernel_rfl) (by kernel_rfl) (by kernel_rfl) (fun _ _ _ h => h) (.inl ⟨by kernel_rfl, ?_⟩) hk ?_
    · intro wx hSw
      have hwr : IntKind.i64.wrap ((k : Int) + 1) = (k : Int) + 1 := by rw [IntKind.wrap_i64]; omega
      clear hSw hk
      go_simp
      try first | with_reducible rfl | kernel_rfl
    simp only [Act.put, List.getElem_toArray, List.getElem_cons_succ, List.getElem_cons_zero, List.setIfInBounds_toArray, List.set_cons_succ, List.set_cons_zero]
    refine Wl.take (i := 14) (v := .slice AD (F.length - (k + 1)) (cap - (k + 1))) [15, 16, 17, 18] rfl (by kernel_rfl) (by kernel_rfl) (by kernel_rfl) (by kernel_rfl) (by kernel_rfl) (fun _ _ _ h => h) (.inl ⟨by kernel_rfl, ?_⟩) hk ?_
    · intro wx hSw
      rw [← hAD]
      by_cases hc : cap = k + 1
      · subst hc
        clear hSw hk
        go_simp
        try first | with_reducible rfl | kernel_rfl
      clear hSw hk
      go_simp
      try first | with_reducible rfl | kernel_rfl
    simp only [Act.put, List.getElem_toArray, List.getElem_cons_succ, List.getElem_cons_zero, List.setIfInBounds_toArray, List.set_cons_succ, List.set_cons_zero]
    refine Wl.one (i := 7) (by kernel_rfl) rfl (fun K hK => ?_)
    refine stepRq rfC_len Try.underlying53 rfl (by decide) info_rf rfl (.const (.slice none 0 0)) (.tmp 21) rfl w2.heap.size (.slice none 0 0) ([] : List Fl) rfl (OwnR.nil _ _ _) (.slice (some ⟨g, 0, none⟩) k cap) (F.take k) rfl HTK.out (fun y hy => rfC_one y) (by rw [List.length_take]; unfold maxLen; simp; omega) (by rw [List.length_take]; simp; omega) (by show w2.heap.size ≤ w2.heap.size; exact Nat.le_refl _) ?_
    intro v3 w3 own3 hgr3 hor3
    rw [List.nil_append] at own3
    obtain ⟨a3, c3, rfl⟩ := own_slice own3
    have hgr3n : w2.drew.grownBy w3 none := hgr3
    have hb3 : Below w2.heap.size w2.drew w3 := ⟨hgr3n.os, hgr3n.tape, hgr3n.output, hgr3n.size, fun q hq => hgr3n.block q hq (fun e => by cases e)⟩
    have HN3 := Lib.hid (HD.out.below hb3)
    have HO3 := Lib.hid own3
    have HG3 := Lib.hid hgr3n
    have HDP3 := Lib.hid (HDP.out.below hb3 (Nat.le_refl _))
    have HS3 : Hid (w2.heap.size ≤ w3.heap.size) := Lib.hid hb3.size
    clear own3 hgr3 hor3 hgr3n hb3
    refine hK.out _ _ (Wl.Kn.on HN3.out.c0 trivial) (fun hk => ?_)
    clear hK K
    refine Wl.one (i := 15) (by kernel_rfl) rfl (fun K hK => ?_)
    refine stepRq rfC_len Try.underlying53 rfl (by decide) info_rf rfl (.tmp 22) (.tmp 29) rfl w2.heap.size (.slice a3 (F.take k).length c3) (F.take k) rfl HO3.out (.slice AD (F.length - (k + 1)) (cap - (k + 1))) (F.drop (k + 1)) rfl HDP3.out (fun y hy => rfC_one y) (by rw [List.length_take, List.length_drop]; unfold maxLen; omega) (by rw [List.length_take, List.length_drop]; omega) HS3.out ?_
    intro v4 w4 own4 hgr4 hor4
    obtain ⟨n4, hn4⟩ : ∃ q, (F.take k ++ F.drop (k + 1)).length = q := ⟨_, rfl⟩
    obtain ⟨a4, c4, hv4⟩ := own_slice own4
    rw [hn4] at hv4
    subst hv4
    have hrow3 : ∀ q, (Value.slice a3 (F.take k).length c3).ownBlock = some q → w2.drew.heap.size ≤ q := fun q hq => (World.ownsRow.lt HO3.out q hq).1
    have hg4 : w2.drew.grownBy w4 none := grown_two HG3.out hgr4 hrow3
    have hb4 : Below w2.drew.heap.size w2.drew w4 := ⟨hg4.os, hg4.tape, hg4.output, hg4.size, fun q hq => hg4.block q hq (fun e => by cases e)⟩
    have hpc := HD.out.put (Below.only hb4 _) (hb4.block q (HD.out.low q HD.out.sq)) own4
    have hr4 := HD.out.below hb4
    have ck := hr4.c0
    have fk := hr4.z 0
    obtain ⟨W6, hW6⟩ : ∃ x, w4.setCell ⟨q, 0, none⟩ (.slice a4 n4 c4) = x := ⟨_, rfl⟩
    rw [hW6] at hpc
    have HFF := Lib.hid hpc
    clear own4 hgr4 hor4 hrow3 hg4 hb4 hpc hr4
    refine hK.out _ _ (Wl.Kn.on ck trivial) (fun hk => ?_)
    clear hK K
    refine Wl.take (i := 16) (v := .pointer (some ⟨q, 0, none⟩)) [17, 18] rfl (by kernel_rfl) (by kernel_rfl) (by kernel_rfl) (by kernel_rfl) (by kernel_rfl) (fun _ _ _ h => h) (.inl ⟨by kernel_rfl, ?_⟩) hk ?_
    · intro wx hSw
      clear hSw hk
      go_simp
      try first | with_reducible rfl | kernel_rfl
    simp only [Act.put, List.getElem_toArray, List.getElem_cons_succ, List.getElem_cons_zero, List.setIfInBounds_toArray, List.set_cons_succ, List.set_cons_zero]
    refine Wl.take (i := 17) (v := .pointer (some ⟨q, 0, none⟩)) [18] rfl (by kernel_rfl) (by kernel_rfl) (by kernel_rfl) (by kernel_rfl) (by kernel_rfl) (fun _ _ _ h => h) (.inl ⟨by kernel_rfl, ?_⟩) hk ?_
    · intro wx hSw
      clear hSw hk
      go_simp
      try first | with_reducible rfl | kernel_rfl
    simp only [Act.put, List.getElem_toArray, List.getElem_cons_succ, List.getElem_cons_zero, List.setIfInBounds_toArray, List.set_cons_succ, List.set_cons_zero]
    refine Wl.one (i := 18) (by kernel_rfl) rfl (fun K hK => ?_)
    go_simp
    try rw [hW6]
    refine hK.out _ _ (Wl.Kn.off (by kernel_rfl) trivial) (fun hk => ?_)
    clear hK K
    refine Wl.done (by kernel_rfl) ?_ _
    clear hk
    clear hW6
    go_wp2_with fail
    go_ret
    have he1 : findE true F x = 0 := HE.out
    have he2 : removeF true F x = F.take k ++ F.drop (k + 1) := HRM.out
    exact ⟨by rw [he1]; rfl, by rw [he2]; exact HL2.out.trans HFF.out⟩
set_option maxHeartbeats 4000000 in
theorem rset_any (z : Int) (w : World) (h : RdV w S q vF arm off F) : Calls Try.prog 25 #[.pointer (some ⟨q, 0, none⟩), .int .i64 z] w fun e w' => e = .returned (.tuple #[]) ∧ RLeft S q w w' (armZ (!off) arm z) off F := by
  have c1 := h.c1
  have c2 := h.c2
  have z1 := h.z 1
  cases off
  · have HE : Hid (armZ (!false) arm z = max z (-1)) := Lib.hid rfl
    have HL := Lib.hid (h.turn1 (max z (-1)))
    clear h
    go_enter Try.func25, Try.ntmps25
    go_wp2_with fail
    go_end0
    exact ⟨rfl, by rw [HE.out]; exact HL.out⟩
  · have HE : Hid (armZ (!true) arm z = arm) := Lib.hid rfl
    have HL := Lib.hid (h.leftB (Below.refl _ _))
    clear h
    go_enter Try.func25, Try.ntmps25
    go_wp2_with fail
    go_end0
    exact ⟨rfl, by rw [HE.out]; exact HL.out⟩
end Rk
end Go.Proofs.Ytfaifdidillkaaa
