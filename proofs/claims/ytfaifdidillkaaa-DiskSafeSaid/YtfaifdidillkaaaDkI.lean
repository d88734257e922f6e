/- Package disk: Clone. No condition. -/
import Derived.Test.YtfaifdidillkaaaDkP
namespace Go.Proofs.Ytfaifdidillkaaa
open Go.ChangeShapes Go.WideShapes Go.ChangeAt Go.RowKit Go.Deep
set_option linter.unusedVariables false
set_option maxRecDepth 100000
set_option linter.unusedSimpArgs false
namespace Dk
variable {w w' : World} {S : Nat → Prop} {p m : Nat} {V : ByteArray → Value} {on : Bool} {lf : Int} {F : List Fl} {n : Nat}
open Classical in
noncomputable def inA (A : List ByteArray) (V : ByteArray → Value) (F : List Fl) (x : ByteArray) : Option Value := if x ∈ A then fV V F x else none
open Classical in
theorem inA_upd {A : List ByteArray} {f : Fl} (hs : SrtF F) (hf : f ∈ F) (u : Value) (x : ByteArray) : Mp.upd (inA A V F) f.name (some (flV u f)) x = inA (A ++ [f.name]) (fun y => if y = f.name then u else V y) F x := by
  unfold inA
  by_cases e : x = f.name
  · subst e
    rw [Mp.upd_same, if_pos (by simp)]
    unfold fV
    rw [hs.fnd hf]
    simp
  · rw [Mp.upd_ne _ _ e]
    by_cases q : x ∈ A
    · rw [if_pos q, if_pos (by simp [q])]
      unfold fV
      simp only [if_neg e]
    · rw [if_neg q, if_neg (by simp [q, e])]
theorem dk_low (h : DkV w S p m V on lf F) : p < w.heap.size ∧ m < w.heap.size := ⟨h.low p h.sp, h.low m h.sm⟩
set_option maxHeartbeats 16000000 in
theorem clone_any (w : World) (h : DkV w S p m V on lf F) (hs : OkF n F) (hn : n ≤ 1000000000) : Calls Try.prog 28 #[.pointer (some ⟨p, 0, none⟩)] w fun e w' => ∃ p' m' V', e = .returned (.pointer (some ⟨p', 0, none⟩)) ∧ DkV w' (fun k => w.heap.size ≤ k ∧ k < w'.heap.size) p' m' V' on lf F ∧ Below w.heap.size w w' := by
  have H := Lib.hid h
  have HS := Lib.hid hs
  have HN := Lib.hid hn
  obtain ⟨m2, hm2⟩ : ∃ z, w.drew.heap.size = z := ⟨_, rfl⟩
  obtain ⟨W1, hW1⟩ : ∃ z, w.drew.alloc (.map #[] 0) = z := ⟨_, rfl⟩
  obtain ⟨p2, hp2⟩ : ∃ z, W1.heap.size = z := ⟨_, rfl⟩
  obtain ⟨W2, hW2⟩ : ∃ z, W1.alloc (.cells #[.map (some m2), .bool on, .int .i64 lf] TD) = z := ⟨_, rfl⟩
  have hbd : Below w.heap.size w w.drew := (Below.refl _ _).drew
  have hdz : w.drew.heap.size = w.heap.size := rfl
  have e1 : W1.heap.size = w.heap.size + 1 := by rw [← hW1, ← hdz]; simp
  have e2 : W2.heap.size = w.heap.size + 2 := by rw [← hW2]; simp [e1]
  have hb1 : Below w.heap.size w W1 := by rw [← hW1]; exact hbd.alloc hbd.size _
  have hb2 : Below w.heap.size w W2 := by rw [← hW2]; exact hb1.alloc hb1.size _
  have HNUM : Hid (m2 = w.heap.size ∧ p2 = w.heap.size + 1 ∧ W2.heap.size = w.heap.size + 2) := Lib.hid ⟨by omega, by omega, e2⟩
  have HROW : Hid (W2.rowIs p2 TD 3 (dkV m2 on lf)) := Lib.hid (by
    rw [← hW2, ← hp2]
    exact World.rowIs_alloc W1 _ _ _ (fun i hi => by
      have hi3 : i < 3 := by simpa using hi
      match i, hi3 with
      | 0, _ => rfl
      | 1, _ => rfl
      | 2, _ => rfl))
  have HMM : Hid (MS W2 m2 0 (fun _ => none)) := Lib.hid (by
    rw [← hW2]
    refine Mp.MapF.alloc ?_ _
    rw [← hW1, ← hm2]; exact Mp.made _ _ _ _ _)
  have HB2 := Lib.hid hb2
  have HC0 : Hid (w.drew.cell? ⟨p, 1, none⟩ = some (.bool on) ∧ w.drew.cell? ⟨p, 2, none⟩ = some (.int .i64 lf)) := Lib.hid ⟨(H.out.below hbd).c1, (H.out.below hbd).c2⟩
  have HC1 : Hid (W1.cell? ⟨p, 1, none⟩ = some (.bool on) ∧ W1.cell? ⟨p, 2, none⟩ = some (.int .i64 lf)) := Lib.hid ⟨(H.out.below hb1).c1, (H.out.below hb1).c2⟩
  clear h hs hn hbd hdz e1 e2 hb1 hb2
  go_enter Try.func28, Try.ntmps28
  go_upto_region 3 with fail
  refine Wl.start 10 (fun u => u.cell? ⟨p, 1, none⟩ = some (.bool on) ∧ u.cell? ⟨p, 2, none⟩ = some (.int .i64 lf)) (fun _ => True) (by kernel_rfl) HC0.out trivial (fun hk => ?_)
  refine Wl.take (i := 1) (v := .pointer (some ⟨p, 0, none⟩)) [2, 3, 4, 9, 10] rfl (by kernel_rfl) (by kernel_rfl) (by kernel_rfl) (by kernel_rfl) (by kernel_rfl) (fun _ _ _ h => h) (.inl ⟨by kernel_rfl, ?_⟩) hk ?_
  · intro wx hSw
    clear hSw hk
    go_simp
    try first | with_reducible rfl | kernel_rfl
  simp only [Act.put, List.getElem_toArray, List.getElem_cons_succ, List.getElem_cons_zero, List.setIfInBounds_toArray, List.set_cons_succ, List.set_cons_zero]
  refine Wl.take (i := 2) (v := .pointer (some ⟨p, 0, none⟩)) [3, 4, 9, 10] rfl (by kernel_rfl) (by kernel_rfl) (by kernel_rfl) (by kernel_rfl) (by kernel_rfl) (fun _ _ _ h => h) (.inl ⟨by kernel_rfl, ?_⟩) hk ?_
  · intro wx hSw
    clear hSw hk
    go_simp
    try first | with_reducible rfl | kernel_rfl
  simp only [Act.put, List.getElem_toArray, List.getElem_cons_succ, List.getElem_cons_zero, List.setIfInBounds_toArray, List.set_cons_succ, List.set_cons_zero]
  refine Wl.take (i := 3) (v := .pointer (some ⟨p, 1, none⟩)) [4, 9, 10] rfl (by kernel_rfl) (by kernel_rfl) (by kernel_rfl) (by kernel_rfl) (by kernel_rfl) (fun _ _ _ h => h) (.inl ⟨by kernel_rfl, ?_⟩) hk ?_
  · intro wx hSw
    clear hSw hk
    go_simp
    try first | with_reducible rfl | kernel_rfl
  simp only [Act.put, List.getElem_toArray, List.getElem_cons_succ, List.getElem_cons_zero, List.setIfInBounds_toArray, List.set_cons_succ, List.set_cons_zero]
  refine Wl.take (i := 4) (v := .bool on) [9, 10] rfl (by kernel_rfl) (by kernel_rfl) (by kernel_rfl) (by kernel_rfl) (by kernel_rfl) (fun _ _ _ h => h) (.inl ⟨by kernel_rfl, ?_⟩) hk ?_
  · intro wx hSw
    have cc := hSw.1.1
    clear hSw hk
    go_simp
    try first | with_reducible rfl | kernel_rfl
  simp only [Act.put, List.getElem_toArray, List.getElem_cons_succ, List.getElem_cons_zero, List.setIfInBounds_toArray, List.set_cons_succ, List.set_cons_zero]
  refine Wl.take (i := 5) (v := .pointer (some ⟨p, 0, none⟩)) [6, 7, 8, 9, 10] rfl (by kernel_rfl) (by kernel_rfl) (by kernel_rfl) (by kernel_rfl) (by kernel_rfl) (fun _ _ _ h => h) (.inl ⟨by kernel_rfl, ?_⟩) hk ?_
  · intro wx hSw
    clear hSw hk
    go_simp
    try first | with_reducible rfl | kernel_rfl
  simp only [Act.put, List.getElem_toArray, List.getElem_cons_succ, List.getElem_cons_zero, List.setIfInBounds_toArray, List.set_cons_succ, List.set_cons_zero]
  refine Wl.take (i := 6) (v := .pointer (some ⟨p, 0, none⟩)) [7, 8, 9, 10] rfl (by kernel_rfl) (by kernel_rfl) (by kernel_rfl) (by kernel_rfl) (by kernel_rfl) (fun _ _ _ h => h) (.inl ⟨by kernel_rfl, ?_⟩) hk ?_
  · intro wx hSw
    clear hSw hk
    go_simp
    try first | with_reducible rfl | kernel_rfl
  simp only [Act.put, List.getElem_toArray, List.getElem_cons_succ, List.getElem_cons_zero, List.setIfInBounds_toArray, List.set_cons_succ, List.set_cons_zero]
  refine Wl.take (i := 7) (v := .pointer (some ⟨p, 2, none⟩)) [8, 9, 10] rfl (by kernel_rfl) (by kernel_rfl) (by kernel_rfl) (by kernel_rfl) (by kernel_rfl) (fun _ _ _ h => h) (.inl ⟨by kernel_rfl, ?_⟩) hk ?_
  · intro wx hSw
    clear hSw hk
    go_simp
    try first | with_reducible rfl | kernel_rfl
  simp only [Act.put, List.getElem_toArray, List.getElem_cons_succ, List.getElem_cons_zero, List.setIfInBounds_toArray, List.set_cons_succ, List.set_cons_zero]
  refine Wl.take (i := 8) (v := .int .i64 lf) [9, 10] rfl (by kernel_rfl) (by kernel_rfl) (by kernel_rfl) (by kernel_rfl) (by kernel_rfl) (fun _ _ _ h => h) (.inl ⟨by kernel_rfl, ?_⟩) hk ?_
  · intro wx hSw
    have cc := hSw.1.2
    clear hSw hk
    go_simp
    try first | with_reducible rfl | kernel_rfl
  simp only [Act.put, List.getElem_toArray, List.getElem_cons_succ, List.getElem_cons_zero, List.setIfInBounds_toArray, List.set_cons_succ, List.set_cons_zero]
  refine Wl.one (i := 0) (by kernel_rfl) rfl (fun K hK => ?_)
  have hmm := @run_makeMap Try.prog
  go_simp
  try rw [hW1]
  try rw [hm2]
  clear hmm
  refine hK.out _ _ (Wl.Kn.on HC1.out trivial) (fun hk => ?_)
  clear hK K
  refine Wl.take (i := 9) (v := .agg #[.map (some m2), .bool on, .int .i64 lf]) [10] rfl (by kernel_rfl) (by kernel_rfl) (by kernel_rfl) (by kernel_rfl) (by kernel_rfl) (fun _ _ _ h => h) (.inl ⟨by kernel_rfl, ?_⟩) hk ?_
  · intro wx hSw
    clear hSw hk
    go_simp
    try first | with_reducible rfl | kernel_rfl
  simp only [Act.put, List.getElem_toArray, List.getElem_cons_succ, List.getElem_cons_zero, List.setIfInBounds_toArray, List.set_cons_succ, List.set_cons_zero]
  refine Wl.one (i := 10) (by kernel_rfl) rfl (fun K hK => ?_)
  go_simp
  try rw [hW2]
  try rw [hp2]
  refine hK.out _ _ (Wl.Kn.off (by kernel_rfl) trivial) (fun hk => ?_)
  clear hK K
  refine Wl.take0 (i := 11) (v := .pointer (some ⟨p2, 0, none⟩)) rfl (by kernel_rfl) (by kernel_rfl) (by kernel_rfl) (by kernel_rfl) (fun _ _ _ h => h) (.inl ⟨by kernel_rfl, ?_⟩) hk ?_
  · intro wx hSw
    clear hSw hk
    go_simp
    try first | with_reducible rfl | kernel_rfl
  simp only [Act.put, List.getElem_toArray, List.getElem_cons_succ, List.getElem_cons_zero, List.setIfInBounds_toArray, List.set_cons_succ, List.set_cons_zero]
  refine Wl.done (by kernel_rfl) ?_ _
  clear hk
  clear hW1 hW2 hm2 hp2
  have c02 := (H.out.below HB2.out).c0
  go_wp2_with (at_range; refine Mp.wp_range rfl _ _ rfl KS Try.underlying50 m F.length _ rfl (H.out.below HB2.out).map ?_; intro w3 cnt0 hrg0 hgr0 hsz0)
  go_frame
  have hb3 : Below W2.heap.size W2 w3 := ⟨hgr0.os, hgr0.tape, hgr0.output, hgr0.size, fun k hk => hgr0.block k hk (by simp)⟩
  obtain ⟨r, hr⟩ : ∃ q, W2.heap.size = q := ⟨_, rfl⟩
  rw [hr] at hrg0
  have HRG0 := Lib.hid hrg0
  obtain ⟨D, hD⟩ : ∃ q, w3.heap.size = q := ⟨_, rfl⟩
  have HMR : Hid (m < w.heap.size ∧ p2 ≠ m2 ∧ r ≠ m2 ∧ r ≠ p2 ∧ m2 < D ∧ p2 < D ∧ r < D ∧ w.heap.size ≤ m2 ∧ w.heap.size ≤ p2 ∧ w.heap.size ≤ r ∧ w.heap.size ≤ D) := Lib.hid (by
    have h1 := HNUM.out
    have h2 := (dk_low H.out).2
    have h3 := hrg0.lt
    have h4 := hb3.size
    omega)
  have HD0 : Hid (D ≤ w3.heap.size) := Lib.hid (by rw [hD]; exact Nat.le_refl _)
  have HB0 : Hid (Below w.heap.size w w3) := Lib.hid (HB2.out.trans (hb3.mono HB2.out.size))
  have HW0 : Hid (w3.rowIs p2 TD 3 (dkV m2 on lf)) := Lib.hid (World.rowIs.of_block HROW.out (hb3.block p2 (by have := HNUM.out; omega)))
  have HM0 : Hid (MS w3 m2 0 (fun _ => none)) := Lib.hid (HMM.out.below hb3)
  rw [hr]
  clear hD hrg0 hgr0 hsz0 hb3 c02 hr HROW HMM HNUM HC0 HC1
  go_loopw [4] (fun _ wr => ∃ (left : ByteArray → Bool) (cnt : Nat) (A : List ByteArray) (V2 : ByteArray → Value), Hid (RS wr m r F.length (fV V F) left cnt) ∧ Hid (A.Nodup ∧ ∀ x, (x ∈ A ↔ (∃ f ∈ F, f.name = x) ∧ left x = false)) ∧ Hid (Below w.heap.size w wr) ∧ Hid (wr.rowIs p2 TD 3 (dkV m2 on lf)) ∧ Hid (MS wr m2 A.length (inA A V2 F)) ∧ Hid (D ≤ wr.heap.size ∧ (∀ f ∈ F, f.name ∈ A → OwnR 1 byC TB wr D (V2 f.name) f.zs) ∧ (∀ f ∈ F, ∀ g ∈ F, f.name ∈ A → g.name ∈ A → f.name ≠ g.name → ∀ q, (V2 f.name).ownBlock = some q → (V2 g.name).ownBlock ≠ some q))) (fun _ wr => wr.rangeLeft m r)
  case atStart => exact ⟨_, _, [], fun _ => .slice none 0 0, HRG0, Lib.hid ⟨List.nodup_nil, fun x => by
    simp only [List.not_mem_nil, false_iff, not_and, Bool.not_eq_false]
    rintro ⟨f, hf, rfl⟩
    unfold fV
    rw [HS.out.srt.fnd hf]; rfl⟩, HB0, HW0, Lib.hid (HM0.out.congr (fun x _ => by unfold inA; rw [if_neg (by simp)])), Lib.hid ⟨HD0.out, fun f _ hf => absurd hf (by simp), fun f _ g _ hf => absurd hf (by simp)⟩⟩
  case round =>
    clear HRG0 HB0 HD0 HW0 HM0 HB2
    obtain ⟨left, cnt, A, V2, HRG, HA, HBW, HRW, HM, HO⟩ := hrel
    have HAL0 : Hid (A.length ≤ 64) := Lib.hid (by
      have := Mp.length_sub HA.out.1 (c := F.map Fl.name) (fun x hx => by
        obtain ⟨f, hf, e⟩ := ((HA.out.2 x).1 hx).1
        exact List.mem_map.2 ⟨f, hf, e⟩)
      rw [List.length_map] at this
      exact Nat.le_trans this HS.out.cnt)
    go_wp2_with (at_next; refine Mp.wp_next rfl _ rfl KS m r F.length _ _ _ rfl HRG.out ?_ ?_)
    · intro h0 hl0
      have HFIN : Hid (DkV wr (fun k => w.heap.size ≤ k ∧ k < wr.heap.size) p2 m2 V2 on lf F) := Lib.hid (by
        have hall : ∀ f ∈ F, f.name ∈ A := fun f hf => (HA.out.2 f.name).2 ⟨⟨f, hf, rfl⟩, hl0 f.name (by
          have := name_size (HS.out.nm f hf)
          unfold Mp.okS maxLen; omega)⟩
        have hm1 := HM.out.congr (g := fV V2 F) (fun x _ => by
          unfold inA
          by_cases q : x ∈ A
          · rw [if_pos q]
          · rw [if_neg q]
            unfold fV
            rcases fnd_cases (F := F) x with ⟨h1, -⟩ | ⟨f, hf, hn, -⟩
            · rw [h1]; rfl
            · subst hn; exact absurd (hall f hf) q)
        obtain ⟨-, -, -, -, hm2⟩ := Mp.MapF.card hm1 KS (names_dom (V := V2) HS.out)
        have h1 := HMR.out
        have h2 := HO.out.1
        refine ⟨HRW.out, by simpa using hm2, ⟨fun f hf => own_up (HO.out.2.1 f hf (hall f hf)) (fun _ _ => Nat.zero_le _), fun f hf q hq => ?_, fun f hf g hg hne => HO.out.2.2 f hf g hg (hall f hf) (hall g hg) hne⟩, by omega, by omega, fun k hk => hk.2⟩
        have := World.ownsRow.lt (HO.out.2.1 f hf (hall f hf)) q hq
        omega)
      clear h0 hl0
      go_wp2_with fail
      go_ret
      exact ⟨_, _, _, rfl, HFIN.out, HBW.out⟩
    · intro x v w4 cnt4 hok hlx hfx hrg4 hlt4 hgr4 hsz4 hen
      have hxf : ∃ f ∈ F, f.name = x ∧ v = flV (V x) f := by
        unfold fV at hfx
        rcases fnd_cases (F := F) x with ⟨q, -⟩ | ⟨f, hf, hn, hfd⟩
        · rw [q] at hfx; cases hfx
        · rw [hfd] at hfx; exact ⟨f, hf, hn, (Option.some.inj hfx).symm⟩
      obtain ⟨f, hf, rfl, rfl⟩ := hxf
      have HF := Lib.hid hf
      have HOKX := Lib.hid hok
      have HLX := Lib.hid hlx
      have HFL : Hid (f.zs.length ≤ 1000000000) := Lib.hid (Nat.le_trans (HS.out.len f hf).2 HN.out)
      have HR4 := Lib.hid hrg4
      have HLT := Lib.hid hlt4
      have hb4 : Below w.heap.size wr w4 := (Only.grown (S := fun k => k = r) hgr4 (fun q hq => (Option.some.inj hq).symm)).below (Below.refl _ _) HBW.out.size (fun k hk => by subst hk; exact HMR.out.2.2.2.2.2.2.2.2.2.1)
      have HB4 : Hid (Below w.heap.size w w4) := Lib.hid (HBW.out.trans hb4)
      have hblk : ∀ k, k < wr.heap.size → k ≠ r → w4.heap[k]? = wr.heap[k]? := fun k hk hne => hgr4.block k hk (fun e => hne (Option.some.inj e))
      obtain ⟨a, cc, hav⟩ := own_slice (H.out.rows.own f hf)
      have hen2 : (Instr.entry (.pointer (some ⟨r, 0, none⟩))).run Try.prog w4 = .ok (.tuple #[.string f.name, .agg #[.slice a f.zs.length cc, .int .i64 (f.safe : Int)]]) w4 := by rw [hen]; unfold flV; rw [hav]
      have HAV := Lib.hid hav
      clear hen hav hfx hok hlx hf
      obtain ⟨g, hg⟩ : ∃ q, w4.heap.size = q := ⟨_, rfl⟩
      obtain ⟨W5, hW5⟩ : ∃ q, w4.alloc (.cells #[.slice a f.zs.length cc, .int .i64 (f.safe : Int)] TF) = q := ⟨_, rfl⟩
      have hg5 : W5.heap[g]? = some (.cells #[.slice a f.zs.length cc, .int .i64 (f.safe : Int)] TF (0, 0)) := by rw [← hW5, ← hg]; exact heap_alloc_new _ _
      have hb5 : Below w4.heap.size w4 W5 := by rw [← hW5]; exact (Below.refl _ _).alloc (Nat.le_refl _) _
      have hb5d : Below w4.heap.size w4 W5.drew := hb5.drew
      have HB5 : Hid (Below w.heap.size w W5.drew) := Lib.hid (HB4.out.trans (hb5d.mono HB4.out.size))
      have hfr : ∀ k, k < wr.heap.size → k ≠ r → W5.drew.heap[k]? = wr.heap[k]? := fun k hk hne => (hb5d.block k (by omega)).trans (hblk k hk hne)
      have HM5 : Hid (MS W5.drew m2 A.length (inA A V2 F)) := Lib.hid (HM.out.block (hfr m2 (by have := HMR.out; have := HO.out.1; omega) (by have := HMR.out; omega)))
      have HRW5 : Hid (W5.drew.rowIs p2 TD 3 (dkV m2 on lf)) := Lib.hid (World.rowIs.of_block HRW.out (hfr p2 (by have := HMR.out; have := HO.out.1; omega) (by have := HMR.out; omega)))
      have HR5 : Hid (RS W5.drew m r F.length (fV V F) (fun y => left y && !decide (y = f.name)) cnt4) := Lib.hid (HR4.out.below hb5d)
      have HLT2 : Hid (p2 < W5.drew.heap.size ∧ g < W5.drew.heap.size) := Lib.hid ⟨by have := HMR.out; have := HO.out.1; have := hb5d.size; omega, row_lt hg5⟩
      have HC7 : Hid (W5.drew.cell? ⟨p2, 0, none⟩ = some (.map (some m2)) ∧ W5.drew.cell? ⟨g, 0, none⟩ = some (.slice a f.zs.length cc) ∧ W5.drew.cell? ⟨g, 1, none⟩ = some (.int .i64 (f.safe : Int))) := Lib.hid ⟨World.rowIs.cell HRW5.out (by omega), (cell_of_row _ _ 0 _ _ _ hg5).trans rfl, (cell_of_row _ _ 1 _ _ _ hg5).trans rfl⟩
      have HSV : Hid (SlR 1 byC W5.drew (.slice a f.zs.length cc) f.zs) := Lib.hid (by
        rw [← HAV.out]
        exact ((H.out.below HB5.out).rows.own f HF.out).sl byC_len)
      have HAL : Hid (A.length < maxLen) := Lib.hid (by have := HAL0.out; unfold maxLen; omega)
      have HSZ5 : Hid (wr.heap.size ≤ W5.drew.heap.size ∧ r < wr.heap.size) := Lib.hid ⟨by have := hb5d.size; omega, HRG.out.lt⟩
      have HFR : Hid (∀ k, k < wr.heap.size → k ≠ r → W5.drew.heap[k]? = wr.heap[k]?) := Lib.hid hfr
      clear hg5 hb5 hb5d hfr hblk hb4 hgr4 hsz4 hrg4 hlt4
      go_upto_region 7 with fail
      clear hen2
      refine Wl.start 11 (fun u => u.cell? ⟨p2, 0, none⟩ = some (.map (some m2)) ∧ u.cell? ⟨g, 0, none⟩ = some (.slice a f.zs.length cc) ∧ u.cell? ⟨g, 1, none⟩ = some (.int .i64 (f.safe : Int))) (fun _ => True) (by kernel_rfl) HC7.out trivial (fun hk => ?_)
      refine Wl.take (i := 0) (v := .pointer (some ⟨p2, 0, none⟩)) [1, 2, 3, 11] rfl (by kernel_rfl) (by kernel_rfl) (by kernel_rfl) (by kernel_rfl) (by kernel_rfl) (fun _ _ _ h => h) (.inl ⟨by kernel_rfl, ?_⟩) hk ?_
      · intro wx hSw
        clear hSw hk
        go_simp
        try first | with_reducible rfl | kernel_rfl
      simp only [Act.put, List.getElem_toArray, List.getElem_cons_succ, List.getElem_cons_zero, List.setIfInBounds_toArray, List.set_cons_succ, List.set_cons_zero]
      refine Wl.take (i := 1) (v := .pointer (some ⟨p2, 0, none⟩)) [2, 3, 11] rfl (by kernel_rfl) (by kernel_rfl) (by kernel_rfl) (by kernel_rfl) (by kernel_rfl) (fun _ _ _ h => h) (.inl ⟨by kernel_rfl, ?_⟩) hk ?_
      · intro wx hSw
        clear hSw hk
        go_simp
        try first | with_reducible rfl | kernel_rfl
      simp only [Act.put, List.getElem_toArray, List.getElem_cons_succ, List.getElem_cons_zero, List.setIfInBounds_toArray, List.set_cons_succ, List.set_cons_zero]
      refine Wl.take (i := 2) (v := .pointer (some ⟨p2, 0, none⟩)) [3, 11] rfl (by kernel_rfl) (by kernel_rfl) (by kernel_rfl) (by kernel_rfl) (by kernel_rfl) (fun _ _ _ h => h) (.inl ⟨by kernel_rfl, ?_⟩) hk ?_
      · intro wx hSw
        clear hSw hk
        go_simp
        try first | with_reducible rfl | kernel_rfl
      simp only [Act.put, List.getElem_toArray, List.getElem_cons_succ, List.getElem_cons_zero, List.setIfInBounds_toArray, List.set_cons_succ, List.set_cons_zero]
      refine Wl.take (i := 3) (v := .map (some m2)) [11] rfl (by kernel_rfl) (by kernel_rfl) (by kernel_rfl) (by kernel_rfl) (by kernel_rfl) (fun _ _ _ h => h) (.inl ⟨by kernel_rfl, ?_⟩) hk ?_
      · intro wx hSw
        have kc := hSw.1.1
        clear hSw hk
        go_simp
        try first | with_reducible rfl | kernel_rfl
      simp only [Act.put, List.getElem_toArray, List.getElem_cons_succ, List.getElem_cons_zero, List.setIfInBounds_toArray, List.set_cons_succ, List.set_cons_zero]
      refine Wl.take (i := 4) (v := .string f.name) [11] rfl (by kernel_rfl) (by kernel_rfl) (by kernel_rfl) (by kernel_rfl) (by kernel_rfl) (fun _ _ _ h => h) (.inl ⟨by kernel_rfl, ?_⟩) hk ?_
      · intro wx hSw
        clear hSw hk
        go_simp
        try first | with_reducible rfl | kernel_rfl
      simp only [Act.put, List.getElem_toArray, List.getElem_cons_succ, List.getElem_cons_zero, List.setIfInBounds_toArray, List.set_cons_succ, List.set_cons_zero]
      refine Wl.take (i := 5) (v := .pointer (some ⟨g, 0, none⟩)) [6, 7, 10, 11] rfl (by kernel_rfl) (by kernel_rfl) (by kernel_rfl) (by kernel_rfl) (by kernel_rfl) (fun _ _ _ h => h) (.inl ⟨by kernel_rfl, ?_⟩) hk ?_
      · intro wx hSw
        clear hSw hk
        go_simp
        try first | with_reducible rfl | kernel_rfl
      simp only [Act.put, List.getElem_toArray, List.getElem_cons_succ, List.getElem_cons_zero, List.setIfInBounds_toArray, List.set_cons_succ, List.set_cons_zero]
      refine Wl.take (i := 6) (v := .slice a f.zs.length cc) [7, 10, 11] rfl (by kernel_rfl) (by kernel_rfl) (by kernel_rfl) (by kernel_rfl) (by kernel_rfl) (fun _ _ _ h => h) (.inl ⟨by kernel_rfl, ?_⟩) hk ?_
      · intro wx hSw
        have kc := hSw.1.2.1
        clear hSw hk
        go_simp
        try first | with_reducible rfl | kernel_rfl
      simp only [Act.put, List.getElem_toArray, List.getElem_cons_succ, List.getElem_cons_zero, List.setIfInBounds_toArray, List.set_cons_succ, List.set_cons_zero]
      refine Wl.take (i := 8) (v := .pointer (some ⟨g, 1, none⟩)) [9, 10, 11] rfl (by kernel_rfl) (by kernel_rfl) (by kernel_rfl) (by kernel_rfl) (by kernel_rfl) (fun _ _ _ h => h) (.inl ⟨by kernel_rfl, ?_⟩) hk ?_
      · intro wx hSw
        clear hSw hk
        go_simp
        try first | with_reducible rfl | kernel_rfl
      simp only [Act.put, List.getElem_toArray, List.getElem_cons_succ, List.getElem_cons_zero, List.setIfInBounds_toArray, List.set_cons_succ, List.set_cons_zero]
      refine Wl.take (i := 9) (v := .int .i64 (f.safe : Int)) [10, 11] rfl (by kernel_rfl) (by kernel_rfl) (by kernel_rfl) (by kernel_rfl) (by kernel_rfl) (fun _ _ _ h => h) (.inl ⟨by kernel_rfl, ?_⟩) hk ?_
      · intro wx hSw
        have kc := hSw.1.2.2
        clear hSw hk
        go_simp
        try first | with_reducible rfl | kernel_rfl
      simp only [Act.put, List.getElem_toArray, List.getElem_cons_succ, List.getElem_cons_zero, List.setIfInBounds_toArray, List.set_cons_succ, List.set_cons_zero]
      refine Wl.one (i := 7) (by kernel_rfl) rfl (fun K hK => ?_)
      go_simp
      refine (Ib.clone_any f.zs _ _ HSV.out (by have := HFL.out; omega)).mono ?_
      rintro e w6 ⟨u, rfl, ou, hb6⟩
      obtain ⟨a6, c6, rfl⟩ := own_slice ou
      have HU6 := Lib.hid ou
      have HB6 := Lib.hid hb6
      clear ou hb6
      refine hK.out _ _ (Wl.Kn.on ⟨(HB6.out.cell HLT2.out.1).trans HC7.out.1, (HB6.out.cell HLT2.out.2).trans HC7.out.2.1, (HB6.out.cell HLT2.out.2).trans HC7.out.2.2⟩ trivial) (fun hk => ?_)
      clear hK K
      refine Wl.take (i := 10) (v := .agg #[.slice a6 f.zs.length c6, .int .i64 (f.safe : Int)]) [11] rfl (by kernel_rfl) (by kernel_rfl) (by kernel_rfl) (by kernel_rfl) (by kernel_rfl) (fun _ _ _ h => h) (.inl ⟨by kernel_rfl, ?_⟩) hk ?_
      · intro wx hSw
        clear hSw hk
        go_simp
        try first | with_reducible rfl | kernel_rfl
      simp only [Act.put, List.getElem_toArray, List.getElem_cons_succ, List.getElem_cons_zero, List.setIfInBounds_toArray, List.set_cons_succ, List.set_cons_zero]
      refine Wl.one (i := 11) (by kernel_rfl) rfl (fun K hK => ?_)
      obtain ⟨w7, hrun, hm7, hg7⟩ := Mp.MapF.put (HM5.out.below HB6.out) KS Try.underlying50 HAL.out HOKX.out (.agg #[.slice a6 f.zs.length c6, .int .i64 (f.safe : Int)])
      have HM7 := Lib.hid hm7
      have HG7 := Lib.hid hg7
      clear hm7 hg7
      go_simp
      clear hrun
      refine hK.out _ _ (Wl.Kn.off (by kernel_rfl) trivial) (fun hk => ?_)
      clear hK K
      refine Wl.done (by kernel_rfl) ?_ _
      clear hk
      have h7 : ∀ k, k < w6.heap.size → k ≠ m2 → w7.heap[k]? = w6.heap[k]? := fun k hk hne => HG7.out.block k hk (fun e => hne (Option.some.inj e))
      have h67 : ∀ k, k < W5.drew.heap.size → k ≠ m2 → w7.heap[k]? = W5.drew.heap[k]? := fun k hk hne => (h7 k (Nat.lt_of_lt_of_le hk HB6.out.size) hne).trans (HB6.out.block k hk)
      have hN := HMR.out
      have hO := HO.out
      have hS5 := HSZ5.out
      have hg7z := HG7.out.size
      have hb6z := HB6.out.size
      have HB7 : Hid (Below w.heap.size w w7) := Lib.hid (HB5.out.trans ((HB6.out.mono HB5.out.size).trans ((Only.grown (S := fun k => k = m2) HG7.out (fun q hq => (Option.some.inj hq).symm)).below (Below.refl _ _) (by have := HB5.out.size; omega) (fun k hk => by subst hk; omega))))
      have HR7 : Hid (RS w7 m r F.length (fV V F) (fun y => left y && !decide (y = f.name)) cnt4) := Lib.hid (HR5.out.block (h67 m HR5.out.map.lt (by omega)) (h67 r HR5.out.lt (by omega)))
      have HRW7 : Hid (w7.rowIs p2 TD 3 (dkV m2 on lf)) := Lib.hid (World.rowIs.of_block HRW5.out (h67 p2 HLT2.out.1 (by omega)))
      have hnA : f.name ∉ A := fun q => by
        have := ((HA.out.2 _).1 q).2
        rw [HLX.out] at this; cases this
      have hlen : (A ++ [f.name]).length = A.length + 1 := by simp
      have HMM7 : Hid (MS w7 m2 (A ++ [f.name]).length (inA (A ++ [f.name]) (fun y => if y = f.name then .slice a6 f.zs.length c6 else V2 y) F)) := Lib.hid (by
        rw [hlen]
        exact HM7.out.congr (fun y _ => inA_upd HS.out.srt HF.out _ y))
      have HA7 : Hid ((A ++ [f.name]).Nodup ∧ ∀ y, (y ∈ A ++ [f.name] ↔ (∃ f ∈ F, f.name = y) ∧ (left y && !decide (y = f.name)) = false)) := Lib.hid (by
        refine ⟨List.nodup_append.2 ⟨HA.out.1, by simp, fun a ha b hb => by
          simp only [List.mem_singleton] at hb
          subst hb
          exact fun q => hnA (q ▸ ha)⟩, fun y => ?_⟩
        rw [List.mem_append, HA.out.2 y, List.mem_singleton]
        constructor
        · rintro (⟨h1, h2⟩ | rfl)
          · exact ⟨h1, by rw [h2]; rfl⟩
          · exact ⟨⟨f, HF.out, rfl⟩, by simp⟩
        · rintro ⟨h1, h2⟩
          by_cases e : y = f.name
          · exact .inr e
          · exact .inl ⟨h1, by simpa [e] using h2⟩)
      have hrw : ∀ k cs t fr, wr.heap[k]? = some (.cells cs t fr) → k ≠ m2 ∧ k ≠ r := fun k cs t fr hk => ⟨fun e => HM.out.row_ne (e ▸ hk) rfl, fun e => (HRG.out.row_ne (e ▸ hk)).2 rfl⟩
      have hold : ∀ g ∈ F, g.name ∈ A → ∀ q, (V2 g.name).ownBlock = some q → q ≠ m2 ∧ q ≠ r ∧ q < wr.heap.size := fun g hg hgA q hq => by
        rcases own_form (hO.2.1 g hg hgA) with ⟨e1, -⟩ | ⟨b, c0, cur, e1, hgb, -⟩
        · rw [e1] at hq; cases hq
        · rw [e1] at hq
          have e2 : b = q := Option.some.inj hq
          subst e2
          exact ⟨(hrw b _ _ _ hgb).1, (hrw b _ _ _ hgb).2, row_lt hgb⟩
      have hnew : ∀ q, (Value.slice a6 f.zs.length c6).ownBlock = some q → W5.drew.heap.size ≤ q ∧ q < w6.heap.size := fun q hq => World.ownsRow.lt HU6.out q hq
      have HO7 : Hid (D ≤ w7.heap.size ∧ (∀ f' ∈ F, f'.name ∈ A ++ [f.name] → OwnR 1 byC TB w7 D ((fun y => if y = f.name then .slice a6 f.zs.length c6 else V2 y) f'.name) f'.zs) ∧ (∀ f' ∈ F, ∀ g' ∈ F, f'.name ∈ A ++ [f.name] → g'.name ∈ A ++ [f.name] → f'.name ≠ g'.name → ∀ q, ((fun y => if y = f.name then .slice a6 f.zs.length c6 else V2 y) f'.name).ownBlock = some q → ((fun y => if y = f.name then .slice a6 f.zs.length c6 else V2 y) g'.name).ownBlock ≠ some q)) := Lib.hid (by
        have hin : ∀ g' : Fl, g'.name ∈ A ++ [f.name] → g'.name ≠ f.name → g'.name ∈ A := fun g' h1 h2 => by
          rcases List.mem_append.1 h1 with q | q
          · exact q
          · exact absurd (List.mem_singleton.1 q) h2
        refine ⟨by omega, fun f' hf' hA' => ?_, fun f' hf' g' hg' hfA hgA hne q hq => ?_⟩
        · by_cases e : f'.name = f.name
          · have := HS.out.srt.uniq hf' HF.out e
            subst this
            simp only [if_pos]
            exact own_up (own_keep HU6.out (fun q hq hl => h7 q hl (fun e => by have := hnew q hq; omega))) (fun q hq => by have := hnew q hq; omega)
          · simp only [if_neg e]
            have h1 := hin f' hA' e
            refine own_keep (hO.2.1 f' hf' h1) (fun q hq hl => ?_)
            have h2 := hold f' hf' h1 q hq
            exact (h67 q (by omega) h2.1).trans (HFR.out q h2.2.2 h2.2.1)
        · by_cases e : f'.name = f.name
          · by_cases e2 : g'.name = f.name
            · exact absurd (e.trans e2.symm) hne
            · simp only [if_pos e] at hq
              simp only [if_neg e2]
              intro q2
              have h2 := hold g' hg' (hin g' hgA e2) q q2
              have h3 := hnew q hq
              omega
          · simp only [if_neg e] at hq
            have h2 := hold f' hf' (hin f' hfA e) q hq
            by_cases e2 : g'.name = f.name
            · simp only [if_pos e2]
              intro q2
              have h3 := hnew q q2
              omega
            · simp only [if_neg e2]
              exact hO.2.2 f' hf' g' hg' (hin f' hfA e) (hin g' hgA e2) hne q hq)
      clear h7 h67 hN hO hS5 hg7z hb6z hnA hlen hrw hold hnew
      go_wp2_with fail
      go_roundw
      case rel => exact ⟨_, cnt4, _, _, HR7, HA7, HB7, HRW7, HMM7, HO7⟩
      case measure =>
        have h1 := HR7.out.left_eq
        have h2 := HRG.out.left_eq
        have h3 := HLT.out
        rw [h1, h2]; omega
end Dk
end Go.Proofs.Ytfaifdidillkaaa
