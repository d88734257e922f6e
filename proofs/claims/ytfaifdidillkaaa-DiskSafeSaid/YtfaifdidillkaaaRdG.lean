/- The law's do: what one operation leaves of both disks. No condition. -/
import Derived.Test.YtfaifdidillkaaaRdF
namespace Go.Proofs.Ytfaifdidillkaaa
open Go.ChangeShapes Go.WideShapes Go.ChangeAt Go.RowKit Go.Deep
set_option linter.unusedVariables false
set_option maxRecDepth 100000
set_option linter.unusedSimpArgs false
namespace Rk
open Dk
/-- what an append leaves is well-formed, of at most so many bytes more -/
theorem _root_.Go.Proofs.Ytfaifdidillkaaa.Dk.OkF.app {on : Bool} {lf : Int} {F : List Fl} {n : Nat} {x : ByteArray} {zs : List Int} (h : OkF n F) (hw : ∀ z ∈ zs, (Lit.int .u8 z).wf = true) : OkF (n + zs.length) (appS ⟨on, lf, F⟩ x zs).F := by
  have hm := h.mono (T := n + zs.length) (by omega)
  unfold appS
  split
  · exact hm
  · split
    · exact hm
    · rename_i h1 h2
      split
      · exact hm
      · rename_i h3
        have hx : nameB x = true := by simpa using h2
        have hc := nf_cond (F := F) (x := x) (zs := zs) (by simpa using h3)
        split
        · exact h.add hx hw hc
        · split
          · refine OkF.mono (h.add (zs := zs.take lf.toNat) hx (fun z hz => hw z (List.mem_of_mem_take hz)) ?_) (by rw [List.length_take]; omega)
            rcases hc with q | q
            · exact .inl (by rw [List.length_take]; omega)
            · exact .inr q
          · exact h.add hx hw hc
open _root_.Go.Proofs.Ytfaifdidillkaaa.St in
set_option maxHeartbeats 32000000 in
theorem do_any {T : Nat → Prop} {p q n : Nat} (w : World) (s : St) (o : DOp) (vk : Value) (h : Bth w T p q s) (hs : OkF n s.F) (hle : leftOk s.left) (hw : o.wf) (hk : ∀ w', Only T w w' → SlR 1 inC w' vk o.keep) (hn : n + o.b.size ≤ 999999990) :
    Calls Try.prog 9 #[.pointer (some ⟨p, 0, none⟩), .pointer (some ⟨q, 0, none⟩), .agg #[.int .i64 o.kind, .int .i64 o.n, .string o.name, .string o.b, vk]] w fun e w' => ∃ p', e = .returned (.tuple #[.pointer (some ⟨p', 0, none⟩), .bool true]) ∧ Bth w' (Grow T w w') p' q (doS s o) ∧ Only T w w' := by
  obtain ⟨on, lf, F⟩ := s
  obtain ⟨kind, nn, x, b, ks⟩ := o
  have HBT := Lib.hid h
  obtain ⟨Sd, Sx, m, V, vF, hd, hx, hdis, hdT, hxT⟩ := h
  simp only at hs hle hn hk hd hx
  obtain ⟨-, -, hxm, hbm⟩ := hw
  simp only at hxm hbm
  have HS := Lib.hid hs
  have HLE := Lib.hid hle
  have HN := Lib.hid hn
  have HN9 : Hid (n ≤ 1000000000) := Lib.hid (by omega)
  have HXM := Lib.hid hxm
  have HBM := Lib.hid hbm
  have HDIS := Lib.hid hdis
  have HDT := Lib.hid hdT
  have HXT := Lib.hid hxT
  have HK := Lib.hid hk
  obtain ⟨ak, ck, hvk, -⟩ := hk w (Only.refl _ _)
  obtain ⟨nk, hnk⟩ : ∃ z, ks.length = z := ⟨_, rfl⟩
  rw [hnk] at hvk
  subst hvk
  obtain ⟨g, hg⟩ : ∃ z, w.heap.size = z := ⟨_, rfl⟩
  obtain ⟨W1, hW1⟩ : ∃ z, w.alloc (.cells #[.int .i64 kind, .int .i64 nn, .string x, .string b, .slice ak nk ck] 30) = z := ⟨_, rfl⟩
  have hg1 : W1.heap[g]? = some (.cells #[.int .i64 kind, .int .i64 nn, .string x, .string b, .slice ak nk ck] 30 (0, 0)) := by rw [← hW1, ← hg]; exact heap_alloc_new _ _
  have y0 : W1.cell? ⟨g, 0, none⟩ = some (.int .i64 kind) := (cell_of_row _ _ 0 _ _ _ hg1).trans rfl
  have y1 : W1.cell? ⟨g, 1, none⟩ = some (.int .i64 nn) := (cell_of_row _ _ 1 _ _ _ hg1).trans rfl
  have y2 : W1.cell? ⟨g, 2, none⟩ = some (.string x) := (cell_of_row _ _ 2 _ _ _ hg1).trans rfl
  have y3 : W1.cell? ⟨g, 3, none⟩ = some (.string b) := (cell_of_row _ _ 3 _ _ _ hg1).trans rfl
  have y4 : W1.cell? ⟨g, 4, none⟩ = some (.slice ak nk ck) := (cell_of_row _ _ 4 _ _ _ hg1).trans rfl
  have hb1 : Below w.heap.size w W1 := by rw [← hW1]; exact (Below.refl _ _).alloc (Nat.le_refl _) _
  have HB1 := Lib.hid hb1
  have HG1 := Lib.hid hg1
  have HD1 := Lib.hid (hd.below hb1)
  have HX1 := Lib.hid (hx.below hb1)
  have HGD : Hid (¬ Sd g) := Lib.hid (fun k => by have := hd.low g k; omega)
  have HGX : Hid (¬ Sx g) := Lib.hid (fun k => by have := hx.low g k; omega)
  have HGW : Hid (w.heap.size ≤ g) := Lib.hid (by omega)
  clear hd hx hdis hdT hxT hs hle hn hk hxm hbm hb1 hg1
  go_enter Try.func9, Try.ntmps9
  by_cases hk2 : kind = 2
  · subst hk2
    have HDO : Hid (doS ⟨on, lf, F⟩ ⟨2, nn, x, b, ks⟩ = ⟨on, lf, syncF on F x⟩) := Lib.hid rfl
    obtain ⟨ez, hez⟩ : ∃ z, findE on F x = z := ⟨_, rfl⟩
    have HEZ := Lib.hid hez
    have HD2 := Lib.hid (HD1.out.below ((Below.refl W1.heap.size W1).drew))
    have HX2d := Lib.hid (HX1.out.below ((Below.refl W1.heap.size W1).drew))
    have HB2 : Hid (Below w.heap.size w W1.drew) := Lib.hid HB1.out.drew
    have HC2 : Hid (W1.drew.cell? ⟨g, 2, none⟩ = some (.string x)) := Lib.hid y2
    have HGL : Hid (g < W1.drew.heap.size ∧ ¬ Sd g) := Lib.hid ⟨row_lt HG1.out, HGD.out⟩
    clear hez
    go_upto_region 16 with fail
    clear hW1
    refine Wl.start 8 (fun u => u.cell? ⟨g, 2, none⟩ = some (.string x)) (fun _ => True) (by kernel_rfl) HC2.out trivial (fun hk => ?_)
    refine Wl.take0 (i := 0) (v := .pointer (some ⟨p, 0, none⟩)) rfl (by kernel_rfl) (by kernel_rfl) (by kernel_rfl) (by kernel_rfl) (fun _ _ _ h => h) (.inl ⟨by kernel_rfl, ?_⟩) hk ?_
    · intro wx hSw
      clear hSw hk
      go_simp
      try first | with_reducible rfl | kernel_rfl
    simp only [Act.put, List.getElem_toArray, List.getElem_cons_succ, List.getElem_cons_zero, List.setIfInBounds_toArray, List.set_cons_succ, List.set_cons_zero]
    refine Wl.take (i := 1) (v := .pointer (some ⟨p, 0, none⟩)) [4, 8] rfl (by kernel_rfl) (by kernel_rfl) (by kernel_rfl) (by kernel_rfl) (by kernel_rfl) (fun _ _ _ h => h) (.inl ⟨by kernel_rfl, ?_⟩) hk ?_
    · intro wx hSw
      clear hSw hk
      go_simp
      try first | with_reducible rfl | kernel_rfl
    simp only [Act.put, List.getElem_toArray, List.getElem_cons_succ, List.getElem_cons_zero, List.setIfInBounds_toArray, List.set_cons_succ, List.set_cons_zero]
    refine Wl.take (i := 2) (v := .pointer (some ⟨g, 2, none⟩)) [3, 4, 8] rfl (by kernel_rfl) (by kernel_rfl) (by kernel_rfl) (by kernel_rfl) (by kernel_rfl) (fun _ _ _ h => h) (.inl ⟨by kernel_rfl, ?_⟩) hk ?_
    · intro wx hSw
      clear hSw hk
      go_simp
      try first | with_reducible rfl | kernel_rfl
    simp only [Act.put, List.getElem_toArray, List.getElem_cons_succ, List.getElem_cons_zero, List.setIfInBounds_toArray, List.set_cons_succ, List.set_cons_zero]
    refine Wl.take (i := 3) (v := .string x) [4, 8] rfl (by kernel_rfl) (by kernel_rfl) (by kernel_rfl) (by kernel_rfl) (by kernel_rfl) (fun _ _ _ h => h) (.inl ⟨by kernel_rfl, ?_⟩) hk ?_
    · intro wx hSw
      have cc := hSw.1
      clear hSw hk
      go_simp
      try first | with_reducible rfl | kernel_rfl
    simp only [Act.put, List.getElem_toArray, List.getElem_cons_succ, List.getElem_cons_zero, List.setIfInBounds_toArray, List.set_cons_succ, List.set_cons_zero]
    refine Wl.take (i := 5) (v := .pointer (some ⟨q, 0, none⟩)) [8] rfl (by kernel_rfl) (by kernel_rfl) (by kernel_rfl) (by kernel_rfl) (by kernel_rfl) (fun _ _ _ h => h) (.inl ⟨by kernel_rfl, ?_⟩) hk ?_
    · intro wx hSw
      clear hSw hk
      go_simp
      try first | with_reducible rfl | kernel_rfl
    simp only [Act.put, List.getElem_toArray, List.getElem_cons_succ, List.getElem_cons_zero, List.setIfInBounds_toArray, List.set_cons_succ, List.set_cons_zero]
    refine Wl.take (i := 6) (v := .pointer (some ⟨g, 2, none⟩)) [7, 8] rfl (by kernel_rfl) (by kernel_rfl) (by kernel_rfl) (by kernel_rfl) (by kernel_rfl) (fun _ _ _ h => h) (.inl ⟨by kernel_rfl, ?_⟩) hk ?_
    · intro wx hSw
      clear hSw hk
      go_simp
      try first | with_reducible rfl | kernel_rfl
    simp only [Act.put, List.getElem_toArray, List.getElem_cons_succ, List.getElem_cons_zero, List.setIfInBounds_toArray, List.set_cons_succ, List.set_cons_zero]
    refine Wl.take (i := 7) (v := .string x) [8] rfl (by kernel_rfl) (by kernel_rfl) (by kernel_rfl) (by kernel_rfl) (by kernel_rfl) (fun _ _ _ h => h) (.inl ⟨by kernel_rfl, ?_⟩) hk ?_
    · intro wx hSw
      have cc := hSw.1
      clear hSw hk
      go_simp
      try first | with_reducible rfl | kernel_rfl
    simp only [Act.put, List.getElem_toArray, List.getElem_cons_succ, List.getElem_cons_zero, List.setIfInBounds_toArray, List.set_cons_succ, List.set_cons_zero]
    refine Wl.one (i := 4) (by kernel_rfl) rfl (fun K hK => ?_)
    go_simp
    refine (sync_any x _ HD2.out HS.out HXM.out HN9.out).mono ?_
    rintro e w2 ⟨he2, hl2⟩
    rw [HEZ.out] at he2
    subst he2
    have HL2 := Lib.hid hl2
    have HX2 := Lib.hid (HX2d.out.only hl2.2 (fun k hk hk2 => HDIS.out k hk2 hk))
    have HC2b : Hid (w2.cell? ⟨g, 2, none⟩ = some (.string x)) := Lib.hid (by
      refine Eq.trans ?_ HC2.out
      exact World.cell?_of_block (a := ⟨g, 2, none⟩) (hl2.2.2.2.2.2 g HGL.out.1 HGL.out.2))
    clear hl2
    refine hK.out _ _ (Wl.Kn.on HC2b.out trivial) (fun hk => ?_)
    clear hK K
    refine Wl.one (i := 8) (by kernel_rfl) rfl (fun K hK => ?_)
    go_simp
    have hrx := rsync_any x w2 HX2.out HS.out HN9.out
    simp only [Bool.not_not] at hrx
    refine hrx.mono ?_
    rintro e w4 ⟨he4, hl4⟩
    rw [HEZ.out] at he4
    subst he4
    have HL4 := Lib.hid hl4
    clear hl4
    refine hK.out _ _ (Wl.Kn.off (by kernel_rfl) trivial) (fun hk => ?_)
    clear hK K
    refine Wl.take0 (i := 9) (v := .bool true) rfl (by kernel_rfl) (by kernel_rfl) (by kernel_rfl) (by kernel_rfl) (fun _ _ _ h => h) (.inl ⟨by kernel_rfl, ?_⟩) hk ?_
    · intro wx hSw
      clear hSw hk
      go_simp
      try first | with_reducible rfl | kernel_rfl
    simp only [Act.put, List.getElem_toArray, List.getElem_cons_succ, List.getElem_cons_zero, List.setIfInBounds_toArray, List.set_cons_succ, List.set_cons_zero]
    refine Wl.take0 (i := 10) (v := .pointer (some ⟨p, 0, none⟩)) rfl (by kernel_rfl) (by kernel_rfl) (by kernel_rfl) (by kernel_rfl) (fun _ _ _ h => h) (.inl ⟨by kernel_rfl, ?_⟩) hk ?_
    · intro wx hSw
      clear hSw hk
      go_simp
      try first | with_reducible rfl | kernel_rfl
    simp only [Act.put, List.getElem_toArray, List.getElem_cons_succ, List.getElem_cons_zero, List.setIfInBounds_toArray, List.set_cons_succ, List.set_cons_zero]
    refine Wl.take0 (i := 11) (v := .bool true) rfl (by kernel_rfl) (by kernel_rfl) (by kernel_rfl) (by kernel_rfl) (fun _ _ _ h => h) (.inl ⟨by kernel_rfl, ?_⟩) hk ?_
    · intro wx hSw
      clear hSw hk
      go_simp
      try first | with_reducible rfl | kernel_rfl
    simp only [Act.put, List.getElem_toArray, List.getElem_cons_succ, List.getElem_cons_zero, List.setIfInBounds_toArray, List.set_cons_succ, List.set_cons_zero]
    refine Wl.done (by kernel_rfl) ?_ _
    clear hk
    go_wp2_with fail
    go_ret2
    have hfin := Bth.two (s := ⟨on, lf, syncF on F x⟩) (U := fun _ => False) HD2.out HX2d.out HDIS.out HDT.out HXT.out HB2.out HL2.out (Only.refl _ _) (fun k hk => hk.elim) HL4.out
    exact ⟨p, rfl, by rw [HDO.out]; exact hfin.1, hfin.2⟩
  by_cases hk3 : kind = 3
  · subst hk3
    have HDO : Hid (doS ⟨on, lf, F⟩ ⟨3, nn, x, b, ks⟩ = ⟨on, lf, removeF on F x⟩) := Lib.hid rfl
    obtain ⟨ez, hez⟩ : ∃ z, findE on F x = z := ⟨_, rfl⟩
    have HEZ := Lib.hid hez
    have HD2 := Lib.hid (HD1.out.below ((Below.refl W1.heap.size W1).drew))
    have HX2d := Lib.hid (HX1.out.below ((Below.refl W1.heap.size W1).drew))
    have HB2 : Hid (Below w.heap.size w W1.drew) := Lib.hid HB1.out.drew
    have HC2 : Hid (W1.drew.cell? ⟨g, 2, none⟩ = some (.string x)) := Lib.hid y2
    have HGL : Hid (g < W1.drew.heap.size ∧ ¬ Sd g) := Lib.hid ⟨row_lt HG1.out, HGD.out⟩
    clear hez
    go_upto_region 18 with fail
    clear hW1
    refine Wl.start 8 (fun u => u.cell? ⟨g, 2, none⟩ = some (.string x)) (fun _ => True) (by kernel_rfl) HC2.out trivial (fun hk => ?_)
    refine Wl.take0 (i := 0) (v := .pointer (some ⟨p, 0, none⟩)) rfl (by kernel_rfl) (by kernel_rfl) (by kernel_rfl) (by kernel_rfl) (fun _ _ _ h => h) (.inl ⟨by kernel_rfl, ?_⟩) hk ?_
    · intro wx hSw
      clear hSw hk
      go_simp
      try first | with_reducible rfl | kernel_rfl
    simp only [Act.put, List.getElem_toArray, List.getElem_cons_succ, List.getElem_cons_zero, List.setIfInBounds_toArray, List.set_cons_succ, List.set_cons_zero]
    refine Wl.take (i := 1) (v := .pointer (some ⟨p, 0, none⟩)) [4, 8] rfl (by kernel_rfl) (by kernel_rfl) (by kernel_rfl) (by kernel_rfl) (by kernel_rfl) (fun _ _ _ h => h) (.inl ⟨by kernel_rfl, ?_⟩) hk ?_
    · intro wx hSw
      clear hSw hk
      go_simp
      try first | with_reducible rfl | kernel_rfl
    simp only [Act.put, List.getElem_toArray, List.getElem_cons_succ, List.getElem_cons_zero, List.setIfInBounds_toArray, List.set_cons_succ, List.set_cons_zero]
    refine Wl.take (i := 2) (v := .pointer (some ⟨g, 2, none⟩)) [3, 4, 8] rfl (by kernel_rfl) (by kernel_rfl) (by kernel_rfl) (by kernel_rfl) (by kernel_rfl) (fun _ _ _ h => h) (.inl ⟨by kernel_rfl, ?_⟩) hk ?_
    · intro wx hSw
      clear hSw hk
      go_simp
      try first | with_reducible rfl | kernel_rfl
    simp only [Act.put, List.getElem_toArray, List.getElem_cons_succ, List.getElem_cons_zero, List.setIfInBounds_toArray, List.set_cons_succ, List.set_cons_zero]
    refine Wl.take (i := 3) (v := .string x) [4, 8] rfl (by kernel_rfl) (by kernel_rfl) (by kernel_rfl) (by kernel_rfl) (by kernel_rfl) (fun _ _ _ h => h) (.inl ⟨by kernel_rfl, ?_⟩) hk ?_
    · intro wx hSw
      have cc := hSw.1
      clear hSw hk
      go_simp
      try first | with_reducible rfl | kernel_rfl
    simp only [Act.put, List.getElem_toArray, List.getElem_cons_succ, List.getElem_cons_zero, List.setIfInBounds_toArray, List.set_cons_succ, List.set_cons_zero]
    refine Wl.take (i := 5) (v := .pointer (some ⟨q, 0, none⟩)) [8] rfl (by kernel_rfl) (by kernel_rfl) (by kernel_rfl) (by kernel_rfl) (by kernel_rfl) (fun _ _ _ h => h) (.inl ⟨by kernel_rfl, ?_⟩) hk ?_
    · intro wx hSw
      clear hSw hk
      go_simp
      try first | with_reducible rfl | kernel_rfl
    simp only [Act.put, List.getElem_toArray, List.getElem_cons_succ, List.getElem_cons_zero, List.setIfInBounds_toArray, List.set_cons_succ, List.set_cons_zero]
    refine Wl.take (i := 6) (v := .pointer (some ⟨g, 2, none⟩)) [7, 8] rfl (by kernel_rfl) (by kernel_rfl) (by kernel_rfl) (by kernel_rfl) (by kernel_rfl) (fun _ _ _ h => h) (.inl ⟨by kernel_rfl, ?_⟩) hk ?_
    · intro wx hSw
      clear hSw hk
      go_simp
      try first | with_reducible rfl | kernel_rfl
    simp only [Act.put, List.getElem_toArray, List.getElem_cons_succ, List.getElem_cons_zero, List.setIfInBounds_toArray, List.set_cons_succ, List.set_cons_zero]
    refine Wl.take (i := 7) (v := .string x) [8] rfl (by kernel_rfl) (by kernel_rfl) (by kernel_rfl) (by kernel_rfl) (by kernel_rfl) (fun _ _ _ h => h) (.inl ⟨by kernel_rfl, ?_⟩) hk ?_
    · intro wx hSw
      have cc := hSw.1
      clear hSw hk
      go_simp
      try first | with_reducible rfl | kernel_rfl
    simp only [Act.put, List.getElem_toArray, List.getElem_cons_succ, List.getElem_cons_zero, List.setIfInBounds_toArray, List.set_cons_succ, List.set_cons_zero]
    refine Wl.one (i := 4) (by kernel_rfl) rfl (fun K hK => ?_)
    go_simp
    refine (remove_any x _ HD2.out HS.out HXM.out HN9.out).mono ?_
    rintro e w2 ⟨he2, hl2⟩
    rw [HEZ.out] at he2
    subst he2
    have HL2 := Lib.hid hl2
    have HX2 := Lib.hid (HX2d.out.only hl2.2 (fun k hk hk2 => HDIS.out k hk2 hk))
    have HC2b : Hid (w2.cell? ⟨g, 2, none⟩ = some (.string x)) := Lib.hid (by
      refine Eq.trans ?_ HC2.out
      exact World.cell?_of_block (a := ⟨g, 2, none⟩) (hl2.2.2.2.2.2 g HGL.out.1 HGL.out.2))
    clear hl2
    refine hK.out _ _ (Wl.Kn.on HC2b.out trivial) (fun hk => ?_)
    clear hK K
    refine Wl.one (i := 8) (by kernel_rfl) rfl (fun K hK => ?_)
    go_simp
    have hrx := rremove_any x w2 HX2.out HS.out HN9.out
    simp only [Bool.not_not] at hrx
    refine hrx.mono ?_
    rintro e w4 ⟨he4, hl4⟩
    rw [HEZ.out] at he4
    subst he4
    have HL4 := Lib.hid hl4
    clear hl4
    refine hK.out _ _ (Wl.Kn.off (by kernel_rfl) trivial) (fun hk => ?_)
    clear hK K
    refine Wl.take0 (i := 9) (v := .bool true) rfl (by kernel_rfl) (by kernel_rfl) (by kernel_rfl) (by kernel_rfl) (fun _ _ _ h => h) (.inl ⟨by kernel_rfl, ?_⟩) hk ?_
    · intro wx hSw
      clear hSw hk
      go_simp
      try first | with_reducible rfl | kernel_rfl
    simp only [Act.put, List.getElem_toArray, List.getElem_cons_succ, List.getElem_cons_zero, List.setIfInBounds_toArray, List.set_cons_succ, List.set_cons_zero]
    refine Wl.take0 (i := 10) (v := .pointer (some ⟨p, 0, none⟩)) rfl (by kernel_rfl) (by kernel_rfl) (by kernel_rfl) (by kernel_rfl) (fun _ _ _ h => h) (.inl ⟨by kernel_rfl, ?_⟩) hk ?_
    · intro wx hSw
      clear hSw hk
      go_simp
      try first | with_reducible rfl | kernel_rfl
    simp only [Act.put, List.getElem_toArray, List.getElem_cons_succ, List.getElem_cons_zero, List.setIfInBounds_toArray, List.set_cons_succ, List.set_cons_zero]
    refine Wl.take0 (i := 11) (v := .bool true) rfl (by kernel_rfl) (by kernel_rfl) (by kernel_rfl) (by kernel_rfl) (fun _ _ _ h => h) (.inl ⟨by kernel_rfl, ?_⟩) hk ?_
    · intro wx hSw
      clear hSw hk
      go_simp
      try first | with_reducible rfl | kernel_rfl
    simp only [Act.put, List.getElem_toArray, List.getElem_cons_succ, List.getElem_cons_zero, List.setIfInBounds_toArray, List.set_cons_succ, List.set_cons_zero]
    refine Wl.done (by kernel_rfl) ?_ _
    clear hk
    go_wp2_with fail
    go_ret2
    have hfin := Bth.two (s := ⟨on, lf, removeF on F x⟩) (U := fun _ => False) HD2.out HX2d.out HDIS.out HDT.out HXT.out HB2.out HL2.out (Only.refl _ _) (fun k hk => hk.elim) HL4.out
    exact ⟨p, rfl, by rw [HDO.out]; exact hfin.1, hfin.2⟩
  have hgl : g < W1.heap.size := row_lt HG1.out
  have HGL : Hid (g < W1.heap.size) := Lib.hid hgl
  clear hgl
  by_cases hk4 : kind = 4
  · subst hk4
    have HDO : Hid (doS ⟨on, lf, F⟩ ⟨4, nn, x, b, ks⟩ = ⟨on, armZ on lf nn, F⟩) := Lib.hid rfl
    go_wp2_with fail
    clear hW1
    refine (arm_any nn W1 HD1.out).mono ?_
    rintro e w2 ⟨rfl, hv, ho⟩
    have HL2 := Lib.hid (DkV.only_left hv ho)
    clear hv ho
    have HX2 := Lib.hid (HX1.out.only HL2.out.2 (fun k hk hk2 => HDIS.out k hk2 hk))
    have HG2 := Lib.hid ((HL2.out.2.2.2.2.2 g HGL.out HGD.out).trans HG1.out)
    have y1b : w2.cell? ⟨g, 1, none⟩ = some (.int .i64 nn) := (cell_of_row _ _ 1 _ _ _ HG2.out).trans rfl
    go_wp2_with fail
    have hrx := rset_any nn w2 HX2.out
    simp only [Bool.not_not] at hrx
    refine hrx.mono ?_
    rintro e w4 ⟨rfl, hl4⟩
    have HL4 := Lib.hid hl4
    clear hl4 hrx
    go_wp2_with fail
    go_ret2
    have hfin := Bth.two (s := ⟨on, armZ on lf nn, F⟩) (U := fun _ => False) HD1.out HX1.out HDIS.out HDT.out HXT.out HB1.out HL2.out (Only.refl _ _) (fun k hk => hk.elim) HL4.out
    exact ⟨p, rfl, by rw [HDO.out]; exact hfin.1, hfin.2⟩
  by_cases hk5 : kind = 5
  · subst hk5
    have HDO : Hid (doS ⟨on, lf, F⟩ ⟨5, nn, x, b, ks⟩ = crashS ⟨on, lf, F⟩ ks) := Lib.hid rfl
    go_wp2_with fail
    clear hW1
    refine (crash_any _ ks W1 HD1.out HS.out HN9.out (fun w' ho => HK.out w' ((Below.only HB1.out T).trans (ho.mono HDT.out)))).mono ?_
    rintro e w2 ⟨rfl, hl2⟩
    have HL2 := Lib.hid hl2
    clear hl2
    have HX2 := Lib.hid (HX1.out.only HL2.out.2 (fun k hk hk2 => HDIS.out k hk2 hk))
    have HG2 := Lib.hid ((HL2.out.2.2.2.2.2 g HGL.out HGD.out).trans HG1.out)
    have y4b : w2.cell? ⟨g, 4, none⟩ = some (.slice ak nk ck) := (cell_of_row _ _ 4 _ _ _ HG2.out).trans rfl
    go_wp2_with fail
    refine (rcrash_any _ ks w2 HX2.out HS.out HN9.out (fun w' ho => HK.out w' (((Below.only HB1.out T).trans (HL2.out.2.mono HDT.out)).trans (ho.mono HXT.out)))).mono ?_
    rintro e w4 ⟨rfl, hl4⟩
    have HL4 := Lib.hid hl4
    clear hl4
    go_wp2_with fail
    go_ret2
    have hfin := Bth.two (s := crashS ⟨on, lf, F⟩ ks) (U := fun _ => False) HD1.out HX1.out HDIS.out HDT.out HXT.out HB1.out HL2.out (Only.refl _ _) (fun k hk => hk.elim) HL4.out
    exact ⟨p, rfl, by rw [HDO.out]; exact hfin.1, hfin.2⟩
  by_cases hk6 : kind = 6
  · subst hk6
    have HDO : Hid (doS ⟨on, lf, F⟩ ⟨6, nn, x, b, ks⟩ = powS ⟨on, lf, F⟩) := Lib.hid rfl
    go_wp2_with fail
    clear hW1
    refine (power_any W1 HD1.out HS.out HN9.out).mono ?_
    rintro e w2 ⟨rfl, hl2⟩
    unfold LeftS at hl2
    have HL2 := Lib.hid hl2
    clear hl2
    have HX2 := Lib.hid (HX1.out.only HL2.out.2 (fun k hk hk2 => HDIS.out k hk2 hk))
    have HG2 := Lib.hid ((HL2.out.2.2.2.2.2 g HGL.out HGD.out).trans HG1.out)
    go_wp2_with fail
    have hrx := rpower_any w2 HX2.out HS.out HN9.out
    simp only [Bool.not_not] at hrx
    refine hrx.mono ?_
    rintro e w4 ⟨rfl, hl4⟩
    unfold RLeftS at hl4
    have HL4 := Lib.hid hl4
    clear hl4 hrx
    go_wp2_with fail
    go_ret2
    have hfin := Bth.two (s := powS ⟨on, lf, F⟩) (U := fun _ => False) HD1.out HX1.out HDIS.out HDT.out HXT.out HB1.out HL2.out (Only.refl _ _) (fun k hk => hk.elim) HL4.out
    exact ⟨p, rfl, by rw [HDO.out]; exact hfin.1, hfin.2⟩
  by_cases hk1 : kind = 1
  · subst hk1
    have HDO : Hid (doS ⟨on, lf, F⟩ ⟨1, nn, x, b, ks⟩ = ⟨on, lf, F⟩) := Lib.hid rfl
    go_wp2_with fail
    clear hW1
    refine (read_any x W1 HD1.out HS.out HXM.out HN9.out).mono ?_
    rintro e w2 ⟨u, rfl, hu, hb2⟩
    obtain ⟨ez, hez⟩ : ∃ z, findE on F x = z := ⟨_, rfl⟩
    have HEZ := Lib.hid hez
    rw [hez]
    obtain ⟨zs, hzs⟩ : ∃ z, readL on F x = z := ⟨_, rfl⟩
    have HZS := Lib.hid hzs
    have hwf := (file_len (on := on) HS.out x).2.2
    change ∀ z ∈ readL on F x, _ at hwf
    rw [hzs] at hu hwf
    have HB2 := Lib.hid hb2
    have HU := Lib.hid hu
    have HWF := Lib.hid hwf
    have hg2 := (hb2.block g HGL.out).trans HG1.out
    have y2b : w2.cell? ⟨g, 2, none⟩ = some (.string x) := (cell_of_row _ _ 2 _ _ _ hg2).trans rfl
    have HX2 := Lib.hid (HX1.out.below hb2)
    obtain ⟨au, cu, hau⟩ := own_slice hu
    subst hau
    clear hez hzs hu hb2 hwf hg2
    go_wp2_with fail
    have hrx := rread_any x w2 HX2.out HS.out HN9.out
    simp only [Bool.not_not] at hrx
    rw [HEZ.out, HZS.out] at hrx
    refine hrx.mono ?_
    rintro e w4 ⟨rfl, hb4⟩
    have HB4 : Hid (Below w.heap.size w w4) := Lib.hid (HB1.out.trans ((HB2.out.mono HB1.out.size).trans (hb4.mono (Nat.le_trans HB1.out.size HB2.out.size))))
    have e1 := run_str (own_sl (HU.out.below hb4 (Nat.le_refl _)) HWF.out)
    clear hrx hb4
    go_wp2_with fail
    go_ret2
    have hfin := Bth.same HBT.out HB4.out
    exact ⟨p, rfl, by rw [HDO.out]; exact hfin.1, hfin.2⟩
  by_cases hk0 : kind = 0
  · subst hk0
    have HDO : Hid (doS ⟨on, lf, F⟩ ⟨0, nn, x, b, ks⟩ = appS ⟨on, lf, F⟩ x (sb b)) := Lib.hid rfl
    obtain ⟨cv, W2, hcv, hsl, hb2, hrm⟩ := conv2 W1 b HBM.out
    obtain ⟨bb, hbb⟩ : ∃ z, W1.heap.size = z := ⟨_, rfl⟩
    rw [hbb] at hcv hsl hrm
    have HSL := Lib.hid hsl
    have HB2 := Lib.hid hb2
    have HRM := Lib.hid hrm
    have HBB := Lib.hid hbb
    have hz1 := HB1.out.size
    have hgb : ¬ g = bb := by have := HGL.out; omega
    have hbg : ¬ bb = g := fun e => hgb e.symm
    have HGB := Lib.hid hgb
    have HBSd : Hid (¬ Sd bb) := Lib.hid (fun k => by have := HD1.out.low bb k; omega)
    have HBSx : Hid (¬ Sx bb) := Lib.hid (fun k => by have := HX1.out.low bb k; omega)
    have HBW : Hid (w.heap.size ≤ bb) := Lib.hid (by omega)
    have HD2 := Lib.hid (HD1.out.below hb2)
    have HX2 := Lib.hid (HX1.out.below hb2)
    have HG2 := Lib.hid ((hb2.block g HGL.out).trans HG1.out)
    have y2b : W2.cell? ⟨g, 2, none⟩ = some (.string x) := (cell_of_row _ _ 2 _ _ _ HG2.out).trans rfl
    have HB02 : Hid (Below w.heap.size w W2) := Lib.hid (HB1.out.trans (hb2.mono hz1))
    have HNS : Hid (n + (sb b).length ≤ 1000000000) := Lib.hid (by rw [sb_length]; have := HN.out; omega)
    clear hsl hb2 hrm hz1 hbb
    go_wp2_with fail
    clear hcv hW1 y0 y1 y2 y3 y4
    refine (append_any x _ (sb b) W2 HD2.out HS.out HXM.out HSL.out (sb_wf b) HNS.out HLE.out).mono ?_
    rintro e w3 ⟨rfl, hl3⟩
    unfold LeftS at hl3
    have HL3 := Lib.hid hl3
    obtain ⟨ez, hez⟩ : ∃ z, appE ⟨on, lf, F⟩ x (sb b) = z := ⟨_, rfl⟩
    have HEZ := Lib.hid hez
    rw [hez]
    have HRM3 : Hid (RowM w3 bb b.size) := Lib.hid (HRM.out.keep (hl3.2.2.2.2.2 bb HRM.out.lt HBSd.out))
    have HG3 := Lib.hid ((hl3.2.2.2.2.2 g (row_lt HG2.out) HGD.out).trans HG2.out)
    have HX3 := Lib.hid (HX2.out.only hl3.2 (fun k hk hk2 => HDIS.out k hk2 hk))
    have hbm := HBM.out
    unfold maxLen at hbm
    clear hl3 hez y2b
    go_wp2_with fail
    go_loopw [30] (fun i wr => ∃ k : Nat, k ≤ b.size ∧ i = .int .i64 (k : Int) ∧ Hid (RowM wr bb b.size ∧ Only (fun k => k = bb) w3 wr)) (fun i _ => b.size - (intOf i).toNat)
    case atStart => exact ⟨0, Nat.zero_le _, rfl, Lib.hid ⟨HRM3.out, Only.refl _ _⟩⟩
    case round =>
      obtain ⟨k, hk, rfl, HR⟩ := hrel
      by_cases hlt : k < b.size
      · have hlti : (k : Int) < (b.size : Int) := by omega
        obtain ⟨⟨r1v, r1⟩, r2, r3⟩ := HR.out.1.at hlt
        obtain ⟨Wz, hWz⟩ : ∃ z, wr.setCell ⟨bb, k, none⟩ (.int .u8 122) = z := ⟨_, rfl⟩
        have HF : Hid (RowM Wz bb b.size ∧ Only (fun k => k = bb) w3 Wz) := Lib.hid (by rw [← hWz]; exact ⟨r3 _, HR.out.2.trans (Only.setCell wr ⟨bb, k, none⟩ _ rfl)⟩)
        clear r3
        go_wp2_with fail
        clear hWz
        go_roundw
        case rel => exact ⟨k + 1, by omega, by go_num, HF⟩
        case measure => simp [intOf]; omega
      · obtain rfl : k = b.size := by omega
        have hgr := (HR.out.2.2.2.2.2 g (row_lt HG3.out) HGB.out).trans HG3.out
        have y2c : wr.cell? ⟨g, 2, none⟩ = some (.string x) := (cell_of_row _ _ 2 _ _ _ hgr).trans rfl
        have y3c : wr.cell? ⟨g, 3, none⟩ = some (.string b) := (cell_of_row _ _ 3 _ _ _ hgr).trans rfl
        have HXR := Lib.hid (HX3.out.only HR.out.2 (fun k hk hk2 => by subst hk2; exact HBSx.out hk))
        clear hgr
        go_wp2_with fail
        have hrx := rappend_any x (sb b) wr HXR.out HS.out HXM.out (sb_wf b) HNS.out HLE.out
        simp only [Bool.not_not, sb_str] at hrx
        rw [HEZ.out] at hrx
        refine hrx.mono ?_
        rintro e w4 ⟨rfl, hl4⟩
        unfold RLeftS at hl4
        have HL4 := Lib.hid hl4
        clear hl4 hrx
        go_wp2_with fail
        go_ret2
        have hfin := Bth.two (s := appS ⟨on, lf, F⟩ x (sb b)) (U := fun k => k = bb) HD2.out HX2.out HDIS.out HDT.out HXT.out HB02.out HL3.out HR.out.2 (fun k hk => by subst hk; exact ⟨HBW.out, HRM.out.lt, HBSd.out, HBSx.out⟩) HL4.out
        exact ⟨p, rfl, by rw [HDO.out]; exact hfin.1, hfin.2⟩
  by_cases hk7 : kind = 7
  · subst hk7
    have HDO : Hid (doS ⟨on, lf, F⟩ ⟨7, nn, x, b, ks⟩ = ⟨on, lf, F⟩) := Lib.hid rfl
    go_wp2_with fail
    clear hW1
    refine (Dk.clone_any W1 HD1.out HS.out HN9.out).mono ?_
    rintro e w2 ⟨p2, m2, V2, rfl, hc, hb2⟩
    have HC := Lib.hid hc
    have HB2 := Lib.hid hb2
    obtain ⟨W3, hW3⟩ : ∃ z, w2.alloc (.cells #[.int .u8 115, .int .u8 112, .int .u8 111, .int .u8 105, .int .u8 108, .int .u8 116] 5 (6, 6 + 1)) = z := ⟨_, rfl⟩
    have hb3 : Below w2.heap.size w2 W3 := by rw [← hW3]; exact (Below.refl _ _).alloc (Nat.le_refl _) _
    have HSL : Hid (SlR 1 byC W3 (.slice (some ⟨w2.heap.size, 0, none⟩) 6 6) [115, 112, 111, 105, 108, 116]) := Lib.hid (by rw [← hW3]; exact slr_marked w2 [115, 112, 111, 105, 108, 116] 6 rfl (by decide) _ rfl _)
    have HD3 := Lib.hid ((HD1.out.below hb2).below hb3)
    have kc := fun (w : World) (C : Array Value) (n c : Nat) => Lib.run_convert_bytes_const (P := Try.prog) w 39 5 C n c Try.underlying39 Try.underlying5
    have HON3 : Hid (Only Sd w2 W3) := Lib.hid (Below.only hb3 Sd)
    clear hc hb2 hb3
    go_wp2_with fail
    clear hW3 kc
    refine (append_any ⟨#[97]⟩ _ [115, 112, 111, 105, 108, 116] W3 HD3.out HS.out (by decide) HSL.out (by decide) (by have := HN.out; simp only [List.length_cons, List.length_nil]; omega) HLE.out).mono ?_
    rintro e w4 ⟨rfl, hl4⟩
    unfold LeftS at hl4
    obtain ⟨s2, hs2⟩ : ∃ z, appS ⟨on, lf, F⟩ ⟨#[97]⟩ [115, 112, 111, 105, 108, 116] = z := ⟨_, rfl⟩
    have HS2 := Lib.hid hs2
    rw [hs2] at hl4
    have HL4 := Lib.hid hl4
    obtain ⟨⟨V4, hv4⟩, -⟩ := hl4
    have HV4 := Lib.hid hv4
    obtain ⟨n2, hn2, hok2⟩ : ∃ n2, n2 ≤ 1000000000 ∧ OkF n2 s2.F := ⟨n + 6, by have := HN.out; omega, by
      rw [← hs2]
      exact OkF.app (zs := [115, 112, 111, 105, 108, 116]) HS.out (by decide)⟩
    have HOK2 := Lib.hid hok2
    clear hs2 hv4 hok2
    go_wp2_with fail
    refine (crash_any _ [] w4 HV4.out HOK2.out hn2 (fun w' _ => slr_nil w')).mono ?_
    rintro e w5 ⟨rfl, hl5⟩
    have HL5 := Lib.hid (HL4.out.trans hl5)
    clear hl5
    go_wp2_with fail
    go_ret2
    have hfin := Bth.copy (s := ⟨on, lf, F⟩) (S3 := Sd) HD1.out HX1.out HDIS.out HDT.out HXT.out HB1.out HC.out HB2.out (HON3.out.trans HL5.out.2) (fun k hk => hk)
    exact ⟨p2, rfl, by rw [HDO.out]; exact hfin.1, hfin.2⟩
  have HDO : Hid (doS ⟨on, lf, F⟩ ⟨kind, nn, x, b, ks⟩ = ⟨on, lf, F⟩) := Lib.hid (by
    unfold doS
    simp only [if_neg hk0, if_neg hk2, if_neg hk3, if_neg hk4, if_neg hk5, if_neg hk6])
  have d0 : (kind == 0) = false := by simpa using hk0
  have d1 : (kind == 1) = false := by simpa using hk1
  have d2 : (kind == 2) = false := by simpa using hk2
  have d3 : (kind == 3) = false := by simpa using hk3
  have d4 : (kind == 4) = false := by simpa using hk4
  have d5 : (kind == 5) = false := by simpa using hk5
  have d6 : (kind == 6) = false := by simpa using hk6
  have d7 : (kind == 7) = false := by simpa using hk7
  clear hk0 hk1 hk2 hk3 hk4 hk5 hk6 hk7
  go_wp2_with fail
  go_ret2
  have hfin := Bth.same HBT.out HB1.out
  exact ⟨p, rfl, by rw [HDO.out]; exact hfin.1, hfin.2⟩
end Rk
end Go.Proofs.Ytfaifdidillkaaa
