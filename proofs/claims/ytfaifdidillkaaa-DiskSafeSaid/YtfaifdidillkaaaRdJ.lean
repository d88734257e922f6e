/- The law's do, of disks of different states. No condition. -/
import Derived.Test.YtfaifdidillkaaaRdI
namespace Go.Proofs.Ytfaifdidillkaaa
open Go.ChangeShapes Go.WideShapes Go.ChangeAt Go.RowKit Go.Deep
set_option linter.unusedVariables false
set_option maxRecDepth 100000
set_option linter.unusedSimpArgs false
namespace Rk
open Dk
variable {W1 W2 W3 W4 : World} {U : Nat → Prop}
def Dof (w : World) (T : Nat → Prop) (p m : Nat) (s : St) : Prop := ∃ (Sd : Nat → Prop) (V : ByteArray → Value), DkV w Sd p m V s.on s.left s.F ∧ ∀ k, Sd k → T k
theorem Bth.two2 {w : World} {T Sd Sx : Nat → Prop} {p q m : Nat} {V : ByteArray → Value} {vF : Value} {on off' : Bool} {lf lf' : Int} {F F' : List Fl} {s : St} (hd : DkV W1 Sd p m V on lf F) (hx : RdV W1 Sx q vF lf' off' F') (hdis : ∀ k, Sd k → ¬ Sx k) (hdT : ∀ k, Sd k → T k) (hxT : ∀ k, Sx k → T k) (hb : Below w.heap.size w W1)
    (hg : Dk.Left Sd p m W1 W2 s.on s.left s.F) (hu : Only U W2 W3) (hU : ∀ k, U k → w.heap.size ≤ k ∧ k < W1.heap.size ∧ ¬ Sd k ∧ ¬ Sx k) (hr2 : Only Sx W3 W4) : Dof W4 (Grow T w W4) p m s ∧ Only T w W4 := by
  obtain ⟨⟨V2, hv2⟩, ho⟩ := hg
  have z0 := hb.size
  have z1 := ho.2.2.2.1
  have z2 := hu.2.2.2.1
  have z3 := hr2.2.2.2.1
  have hd3 := hv2.only hu (fun k hk hk2 => by
    obtain ⟨u1, u2, u3, u4⟩ := hU k hk2
    rcases hk with hk | hk
    · exact u3 hk
    · omega)
  have hd4 := hd3.only hr2 (fun k hk hk2 => by
    rcases hk with hk | hk
    · exact hdis k hk hk2
    · have := hx.low k hk2; omega)
  refine ⟨⟨_, V2, hd4, fun k hk => ?_⟩, ?_⟩
  · rcases hk with hk | hk
    · exact .inl (hdT k hk)
    · exact .inr ⟨by omega, by omega⟩
  · have o1 : Only T w W2 := (Below.only hb T).trans (ho.mono hdT)
    have o2 : Only T w W3 := o1.after hu (fun i hi hk => by have := (hU i hk).1; omega)
    exact o2.trans (hr2.mono hxT)
theorem Dof.below {w w2 : World} {T : Nat → Prop} {p m : Nat} {s : St} (h : Dof w T p m s) (hb : Below w.heap.size w w2) : Dof w2 T p m s := by
  obtain ⟨Sd, V, hd, h1⟩ := h
  exact ⟨Sd, V, hd.below hb, h1⟩
open _root_.Go.Proofs.Ytfaifdidillkaaa.St in
set_option maxHeartbeats 32000000 in
theorem do2_any {T Sd Sx : Nat → Prop} {p q n m : Nat} {V : ByteArray → Value} {vF : Value} (w : World) (s s2 : St) (o : DOp) (vk : Value) (hd : DkV w Sd p m V s.on s.left s.F) (hx : RdV w Sx q vF s2.left (!s2.on) s2.F) (hdis : ∀ k, Sd k → ¬ Sx k) (hdT : ∀ k, Sd k → T k) (hxT : ∀ k, Sx k → T k) (hs : OkF n s.F) (hle : leftOk s.left) (hs2 : OkF n s2.F) (hle2 : leftOk s2.left) (hw : o.wf) (hk : ∃ a c, vk = .slice a o.keep.length c) (hn : n + o.b.size ≤ 999999990) (hkd : o.kind ≤ 3) :
    Calls Try.prog 9 #[.pointer (some ⟨p, 0, none⟩), .pointer (some ⟨q, 0, none⟩), .agg #[.int .i64 o.kind, .int .i64 o.n, .string o.name, .string o.b, vk]] w fun e w' => ∃ z, e = .returned (.tuple #[.pointer (some ⟨p, 0, none⟩), .bool z]) ∧ Dof w' (Grow T w w') p m (doS s o) ∧ Only T w w' := by
  obtain ⟨on, lf, F⟩ := s
  obtain ⟨on2, lf2, F2⟩ := s2
  obtain ⟨kind, nn, x, b, ks⟩ := o
  simp only at hs hle hs2 hle2 hn hk hd hx hkd
  have HS2 := Lib.hid hs2
  have HLE2 := Lib.hid hle2
  obtain ⟨-, -, hxm, hbm⟩ := hw
  simp only at hxm hbm
  have HS := Lib.hid hs
  have HLE := Lib.hid hle
  have HN := Lib.hid hn
  have HN9 : Hid (n ≤ 1000000000) := Lib.hid (by omega)
  have HXM := Lib.hid hxm
  have HBM := Lib.hid hbm
  have HDIS := Lib.hid hdis
  have HDT := Lib.hid hdT
  have HXT := Lib.hid hxT
  obtain ⟨ak, ck, hvk⟩ := hk
  obtain ⟨nk, hnk⟩ : ∃ z, ks.length = z := ⟨_, rfl⟩
  rw [hnk] at hvk
  subst hvk
  obtain ⟨g, hg⟩ : ∃ z, w.heap.size = z := ⟨_, rfl⟩
  obtain ⟨W1, hW1⟩ : ∃ z, w.alloc (.cells #[.int .i64 kind, .int .i64 nn, .string x, .string b, .slice ak nk ck] 30) = z := ⟨_, rfl⟩
  have hg1 : W1.heap[g]? = some (.cells #[.int .i64 kind, .int .i64 nn, .string x, .string b, .slice ak nk ck] 30 (0, 0)) := by rw [← hW1, ← hg]; exact heap_alloc_new _ _
  have y0 : W1.cell? ⟨g, 0, none⟩ = some (.int .i64 kind) := (cell_of_row _ _ 0 _ _ _ hg1).trans rfl
  have y1 : W1.cell? ⟨g, 1, none⟩ = some (.int .i64 nn) := (cell_of_row _ _ 1 _ _ _ hg1).trans rfl
  have y2 : W1.cell? ⟨g, 2, none⟩ = some (.string x) := (cell_of_row _ _ 2 _ _ _ hg1).trans rfl
  have y3 : W1.cell? ⟨g, 3, none⟩ = some (.string b) := (cell_of_row _ _ 3 _ _ _ hg1).trans rfl
  have y4 : W1.cell? ⟨g, 4, none⟩ = some (.slice ak nk ck) := (cell_of_row _ _ 4 _ _ _ hg1).trans rfl
  have hb1 : Below w.heap.size w W1 := by rw [← hW1]; exact (Below.refl _ _).alloc (Nat.le_refl _) _
  have HB1 := Lib.hid hb1
  have HG1 := Lib.hid hg1
  have HD1 := Lib.hid (hd.below hb1)
  have HX1 := Lib.hid (hx.below hb1)
  have HGD : Hid (¬ Sd g) := Lib.hid (fun k => by have := hd.low g k; omega)
  have HGX : Hid (¬ Sx g) := Lib.hid (fun k => by have := hx.low g k; omega)
  have HGW : Hid (w.heap.size ≤ g) := Lib.hid (by omega)
  clear hd hx hdis hdT hxT hs hle hs2 hle2 hn hxm hbm hb1 hg1
  go_enter Try.func9, Try.ntmps9
  by_cases hk2 : kind = 2
  · subst hk2
    have HDO : Hid (doS ⟨on, lf, F⟩ ⟨2, nn, x, b, ks⟩ = ⟨on, lf, syncF on F x⟩) := Lib.hid rfl
    obtain ⟨ez, hez⟩ : ∃ z, findE on F x = z := ⟨_, rfl⟩
    have HEZ := Lib.hid hez
    obtain ⟨ez2, hez2⟩ : ∃ z, findE on2 F2 x = z := ⟨_, rfl⟩
    have HEZ2 := Lib.hid hez2
    have HD2 := Lib.hid (HD1.out.below ((Below.refl W1.heap.size W1).drew))
    have HX2d := Lib.hid (HX1.out.below ((Below.refl W1.heap.size W1).drew))
    have HB2 : Hid (Below w.heap.size w W1.drew) := Lib.hid HB1.out.drew
    have HC2 : Hid (W1.drew.cell? ⟨g, 2, none⟩ = some (.string x)) := Lib.hid y2
    have HGL : Hid (g < W1.drew.heap.size ∧ ¬ Sd g) := Lib.hid ⟨row_lt HG1.out, HGD.out⟩
    clear hez hez2
    go_upto_region 16 with fail
    clear hW1
    refine Wl.start 8 (fun u => u.cell? ⟨g, 2, none⟩ = some (.string x)) (fun _ => True) (by kernel_rfl) HC2.out trivial (fun hk => ?_)
    refine Wl.take0 (i := 0) (v := .pointer (some ⟨p, 0, none⟩)) rfl (by kernel_rfl) (by kernel_rfl) (by kernel_rfl) (by kernel_rfl) (fun _ _ _ h => h) (.inl ⟨by kernel_rfl, ?_⟩) hk ?_
    · intro wx hSw
      clear hSw hk
      go_simp
      try first | with_reducible rfl | kernel_rfl
    simp only [Act.put, List.getElem_toArray, List.getElem_cons_succ, List.getElem_cons_zero, List.setIfInBounds_toArray, List.set_cons_succ, List.set_cons_zero]
    refine Wl.take (i := 1) (v := .pointer (some ⟨p, 0, none⟩)) [4, 8] rfl (by kernel_rfl) (by kernel_rfl) (by kernel_rfl) (by kernel_rfl) (by kernel_rfl) (fun _ _ _ h => h) (.inl ⟨by kernel_rfl, ?_⟩) hk ?_
    · intro wx hSw
      clear hSw hk
      go_simp
      try first | with_reducible rfl | kernel_rfl
    simp only [Act.put, List.getElem_toArray, List.getElem_cons_succ, List.getElem_cons_zero, List.setIfInBounds_toArray, List.set_cons_succ, List.set_cons_zero]
    refine Wl.take (i := 2) (v := .pointer (some ⟨g, 2, none⟩)) [3, 4, 8] rfl (by kernel_rfl) (by kernel_rfl) (by kernel_rfl) (by kernel_rfl) (by kernel_rfl) (fun _ _ _ h => h) (.inl ⟨by kernel_rfl, ?_⟩) hk ?_
    · intro wx hSw
      clear hSw hk
      go_simp
      try first | with_reducible rfl | kernel_rfl
    simp only [Act.put, List.getElem_toArray, List.getElem_cons_succ, List.getElem_cons_zero, List.setIfInBounds_toArray, List.set_cons_succ, List.set_cons_zero]
    refine Wl.take (i := 3) (v := .string x) [4, 8] rfl (by kernel_rfl) (by kernel_rfl) (by kernel_rfl) (by kernel_rfl) (by kernel_rfl) (fun _ _ _ h => h) (.inl ⟨by kernel_rfl, ?_⟩) hk ?_
    · intro wx hSw
      have cc := hSw.1
      clear hSw hk
      go_simp
      try first | with_reducible rfl | kernel_rfl
    simp only [Act.put, List.getElem_toArray, List.getElem_cons_succ, List.getElem_cons_zero, List.setIfInBounds_toArray, List.set_cons_succ, List.set_cons_zero]
    refine Wl.take (i := 5) (v := .pointer (some ⟨q, 0, none⟩)) [8] rfl (by kernel_rfl) (by kernel_rfl) (by kernel_rfl) (by kernel_rfl) (by kernel_rfl) (fun _ _ _ h => h) (.inl ⟨by kernel_rfl, ?_⟩) hk ?_
    · intro wx hSw
      clear hSw hk
      go_simp
      try first | with_reducible rfl | kernel_rfl
    simp only [Act.put, List.getElem_toArray, List.getElem_cons_succ, List.getElem_cons_zero, List.setIfInBounds_toArray, List.set_cons_succ, List.set_cons_zero]
    refine Wl.take (i := 6) (v := .pointer (some ⟨g, 2, none⟩)) [7, 8] rfl (by kernel_rfl) (by kernel_rfl) (by kernel_rfl) (by kernel_rfl) (by kernel_rfl) (fun _ _ _ h => h) (.inl ⟨by kernel_rfl, ?_⟩) hk ?_
    · intro wx hSw
      clear hSw hk
      go_simp
      try first | with_reducible rfl | kernel_rfl
    simp only [Act.put, List.getElem_toArray, List.getElem_cons_succ, List.getElem_cons_zero, List.setIfInBounds_toArray, List.set_cons_succ, List.set_cons_zero]
    refine Wl.take (i := 7) (v := .string x) [8] rfl (by kernel_rfl) (by kernel_rfl) (by kernel_rfl) (by kernel_rfl) (by kernel_rfl) (fun _ _ _ h => h) (.inl ⟨by kernel_rfl, ?_⟩) hk ?_
    · intro wx hSw
      have cc := hSw.1
      clear hSw hk
      go_simp
      try first | with_reducible rfl | kernel_rfl
    simp only [Act.put, List.getElem_toArray, List.getElem_cons_succ, List.getElem_cons_zero, List.setIfInBounds_toArray, List.set_cons_succ, List.set_cons_zero]
    refine Wl.one (i := 4) (by kernel_rfl) rfl (fun K hK => ?_)
    go_simp
    refine (sync_any x _ HD2.out HS.out HXM.out HN9.out).mono ?_
    rintro e w2 ⟨he2, hl2⟩
    rw [HEZ.out] at he2
    subst he2
    have HL2 := Lib.hid hl2
    have HX2 := Lib.hid (HX2d.out.only hl2.2 (fun k hk hk2 => HDIS.out k hk2 hk))
    have HC2b : Hid (w2.cell? ⟨g, 2, none⟩ = some (.string x)) := Lib.hid (by
      refine Eq.trans ?_ HC2.out
      exact World.cell?_of_block (a := ⟨g, 2, none⟩) (hl2.2.2.2.2.2 g HGL.out.1 HGL.out.2))
    clear hl2
    refine hK.out _ _ (Wl.Kn.on HC2b.out trivial) (fun hk => ?_)
    clear hK K
    refine Wl.one (i := 8) (by kernel_rfl) rfl (fun K hK => ?_)
    go_simp
    have hrx := rsync_any x w2 HX2.out HS2.out HN9.out
    simp only [Bool.not_not] at hrx
    refine hrx.mono ?_
    rintro e w4 ⟨he4, hl4⟩
    rw [HEZ2.out] at he4
    subst he4
    have HL4 := Lib.hid hl4
    clear hl4
    refine hK.out _ _ (Wl.Kn.off (by kernel_rfl) trivial) (fun hk => ?_)
    clear hK K
    refine Wl.take0 (i := 9) (v := .bool (ez == ez2)) rfl (by kernel_rfl) (by kernel_rfl) (by kernel_rfl) (by kernel_rfl) (fun _ _ _ h => h) (.inl ⟨by kernel_rfl, ?_⟩) hk ?_
    · intro wx hSw
      clear hSw hk
      go_simp
      try first | with_reducible rfl | kernel_rfl
    simp only [Act.put, List.getElem_toArray, List.getElem_cons_succ, List.getElem_cons_zero, List.setIfInBounds_toArray, List.set_cons_succ, List.set_cons_zero]
    refine Wl.take0 (i := 10) (v := .pointer (some ⟨p, 0, none⟩)) rfl (by kernel_rfl) (by kernel_rfl) (by kernel_rfl) (by kernel_rfl) (fun _ _ _ h => h) (.inl ⟨by kernel_rfl, ?_⟩) hk ?_
    · intro wx hSw
      clear hSw hk
      go_simp
      try first | with_reducible rfl | kernel_rfl
    simp only [Act.put, List.getElem_toArray, List.getElem_cons_succ, List.getElem_cons_zero, List.setIfInBounds_toArray, List.set_cons_succ, List.set_cons_zero]
    refine Wl.take0 (i := 11) (v := .bool (ez == ez2)) rfl (by kernel_rfl) (by kernel_rfl) (by kernel_rfl) (by kernel_rfl) (fun _ _ _ h => h) (.inl ⟨by kernel_rfl, ?_⟩) hk ?_
    · intro wx hSw
      clear hSw hk
      go_simp
      try first | with_reducible rfl | kernel_rfl
    simp only [Act.put, List.getElem_toArray, List.getElem_cons_succ, List.getElem_cons_zero, List.setIfInBounds_toArray, List.set_cons_succ, List.set_cons_zero]
    refine Wl.done (by kernel_rfl) ?_ _
    clear hk
    go_wp2_with fail
    go_ret2
    have hfin := Bth.two2 (s := ⟨on, lf, syncF on F x⟩) (U := fun _ => False) HD2.out HX2d.out HDIS.out HDT.out HXT.out HB2.out HL2.out (Only.refl _ _) (fun k hk => hk.elim) HL4.out.2
    exact ⟨_, rfl, by rw [HDO.out]; exact hfin.1, hfin.2⟩
  by_cases hk3 : kind = 3
  · subst hk3
    have HDO : Hid (doS ⟨on, lf, F⟩ ⟨3, nn, x, b, ks⟩ = ⟨on, lf, removeF on F x⟩) := Lib.hid rfl
    obtain ⟨ez, hez⟩ : ∃ z, findE on F x = z := ⟨_, rfl⟩
    have HEZ := Lib.hid hez
    obtain ⟨ez2, hez2⟩ : ∃ z, findE on2 F2 x = z := ⟨_, rfl⟩
    have HEZ2 := Lib.hid hez2
    have HD2 := Lib.hid (HD1.out.below ((Below.refl W1.heap.size W1).drew))
    have HX2d := Lib.hid (HX1.out.below ((Below.refl W1.heap.size W1).drew))
    have HB2 : Hid (Below w.heap.size w W1.drew) := Lib.hid HB1.out.drew
    have HC2 : Hid (W1.drew.cell? ⟨g, 2, none⟩ = some (.string x)) := Lib.hid y2
    have HGL : Hid (g < W1.drew.heap.size ∧ ¬ Sd g) := Lib.hid ⟨row_lt HG1.out, HGD.out⟩
    clear hez hez2
    go_upto_region 18 with fail
    clear hW1
    refine Wl.start 8 (fun u => u.cell? ⟨g, 2, none⟩ = some (.string x)) (fun _ => True) (by kernel_rfl) HC2.out trivial (fun hk => ?_)
    refine Wl.take0 (i := 0) (v := .pointer (some ⟨p, 0, none⟩)) rfl (by kernel_rfl) (by kernel_rfl) (by kernel_rfl) (by kernel_rfl) (fun _ _ _ h => h) (.inl ⟨by kernel_rfl, ?_⟩) hk ?_
    · intro wx hSw
      clear hSw hk
      go_simp
      try first | with_reducible rfl | kernel_rfl
    simp only [Act.put, List.getElem_toArray, List.getElem_cons_succ, List.getElem_cons_zero, List.setIfInBounds_toArray, List.set_cons_succ, List.set_cons_zero]
    refine Wl.take (i := 1) (v := .pointer (some ⟨p, 0, none⟩)) [4, 8] rfl (by kernel_rfl) (by kernel_rfl) (by kernel_rfl) (by kernel_rfl) (by kernel_rfl) (fun _ _ _ h => h) (.inl ⟨by kernel_rfl, ?_⟩) hk ?_
    · intro wx hSw
      clear hSw hk
      go_simp
      try first | with_reducible rfl | kernel_rfl
    simp only [Act.put, List.getElem_toArray, List.getElem_cons_succ, List.getElem_cons_zero, List.setIfInBounds_toArray, List.set_cons_succ, List.set_cons_zero]
    refine Wl.take (i := 2) (v := .pointer (some ⟨g, 2, none⟩)) [3, 4, 8] rfl (by kernel_rfl) (by kernel_rfl) (by kernel_rfl) (by kernel_rfl) (by kernel_rfl) (fun _ _ _ h => h) (.inl ⟨by kernel_rfl, ?_⟩) hk ?_
    · intro wx hSw
      clear hSw hk
      go_simp
      try first | with_reducible rfl | kernel_rfl
    simp only [Act.put, List.getElem_toArray, List.getElem_cons_succ, List.getElem_cons_zero, List.setIfInBounds_toArray, List.set_cons_succ, List.set_cons_zero]
    refine Wl.take (i := 3) (v := .string x) [4, 8] rfl (by kernel_rfl) (by kernel_rfl) (by kernel_rfl) (by kernel_rfl) (by kernel_rfl) (fun _ _ _ h => h) (.inl ⟨by kernel_rfl, ?_⟩) hk ?_
    · intro wx hSw
      have cc := hSw.1
      clear hSw hk
      go_simp
      try first | with_reducible rfl | kernel_rfl
    simp only [Act.put, List.getElem_toArray, List.getElem_cons_succ, List.getElem_cons_zero, List.setIfInBounds_toArray, List.set_cons_succ, List.set_cons_zero]
    refine Wl.take (i := 5) (v := .pointer (some ⟨q, 0, none⟩)) [8] rfl (by kernel_rfl) (by kernel_rfl) (by kernel_rfl) (by kernel_rfl) (by kernel_rfl) (fun _ _ _ h => h) (.inl ⟨by kernel_rfl, ?_⟩) hk ?_
    · intro wx hSw
      clear hSw hk
      go_simp
      try first | with_reducible rfl | kernel_rfl
    simp only [Act.put, List.getElem_toArray, List.getElem_cons_succ, List.getElem_cons_zero, List.setIfInBounds_toArray, List.set_cons_succ, List.set_cons_zero]
    refine Wl.take (i := 6) (v := .pointer (some ⟨g, 2, none⟩)) [7, 8] rfl (by kernel_rfl) (by kernel_rfl) (by kernel_rfl) (by kernel_rfl) (by kernel_rfl) (fun _ _ _ h => h) (.inl ⟨by kernel_rfl, ?_⟩) hk ?_
    · intro wx hSw
      clear hSw hk
      go_simp
      try first | with_reducible rfl | kernel_rfl
    simp only [Act.put, List.getElem_toArray, List.getElem_cons_succ, List.getElem_cons_zero, List.setIfInBounds_toArray, List.set_cons_succ, List.set_cons_zero]
    refine Wl.take (i := 7) (v := .string x) [8] rfl (by kernel_rfl) (by kernel_rfl) (by kernel_rfl) (by kernel_rfl) (by kernel_rfl) (fun _ _ _ h => h) (.inl ⟨by kernel_rfl, ?_⟩) hk ?_
    · intro wx hSw
      have cc := hSw.1
      clear hSw hk
      go_simp
      try first | with_reducible rfl | kernel_rfl
    simp only [Act.put, List.getElem_toArray, List.getElem_cons_succ, List.getElem_cons_zero, List.setIfInBounds_toArray, List.set_cons_succ, List.set_cons_zero]
    refine Wl.one (i := 4) (by kernel_rfl) rfl (fun K hK => ?_)
    go_simp
    refine (remove_any x _ HD2.out HS.out HXM.out HN9.out).mono ?_
    rintro e w2 ⟨he2, hl2⟩
    rw [HEZ.out] at he2
    subst he2
    have HL2 := Lib.hid hl2
    have HX2 := Lib.hid (HX2d.out.only hl2.2 (fun k hk hk2 => HDIS.out k hk2 hk))
    have HC2b : Hid (w2.cell? ⟨g, 2, none⟩ = some (.string x)) := Lib.hid (by
      refine Eq.trans ?_ HC2.out
      exact World.cell?_of_block (a := ⟨g, 2, none⟩) (hl2.2.2.2.2.2 g HGL.out.1 HGL.out.2))
    clear hl2
    refine hK.out _ _ (Wl.Kn.on HC2b.out trivial) (fun hk => ?_)
    clear hK K
    refine Wl.one (i := 8) (by kernel_rfl) rfl (fun K hK => ?_)
    go_simp
    have hrx := rremove_any x w2 HX2.out HS2.out HN9.out
    simp only [Bool.not_not] at hrx
    refine hrx.mono ?_
    rintro e w4 ⟨he4, hl4⟩
    rw [HEZ2.out] at he4
    subst he4
    have HL4 := Lib.hid hl4
    clear hl4
    refine hK.out _ _ (Wl.Kn.off (by kernel_rfl) trivial) (fun hk => ?_)
    clear hK K
    refine Wl.take0 (i := 9) (v := .bool (ez == ez2)) rfl (by kernel_rfl) (by kernel_rfl) (by kernel_rfl) (by kernel_rfl) (fun _ _ _ h => h) (.inl ⟨by kernel_rfl, ?_⟩) hk ?_
    · intro wx hSw
      clear hSw hk
      go_simp
      try first | with_reducible rfl | kernel_rfl
    simp only [Act.put, List.getElem_toArray, List.getElem_cons_succ, List.getElem_cons_zero, List.setIfInBounds_toArray, List.set_cons_succ, List.set_cons_zero]
    refine Wl.take0 (i := 10) (v := .pointer (some ⟨p, 0, none⟩)) rfl (by kernel_rfl) (by kernel_rfl) (by kernel_rfl) (by kernel_rfl) (fun _ _ _ h => h) (.inl ⟨by kernel_rfl, ?_⟩) hk ?_
    · intro wx hSw
      clear hSw hk
      go_simp
      try first | with_reducible rfl | kernel_rfl
    simp only [Act.put, List.getElem_toArray, List.getElem_cons_succ, List.getElem_cons_zero, List.setIfInBounds_toArray, List.set_cons_succ, List.set_cons_zero]
    refine Wl.take0 (i := 11) (v := .bool (ez == ez2)) rfl (by kernel_rfl) (by kernel_rfl) (by kernel_rfl) (by kernel_rfl) (fun _ _ _ h => h) (.inl ⟨by kernel_rfl, ?_⟩) hk ?_
    · intro wx hSw
      clear hSw hk
      go_simp
      try first | with_reducible rfl | kernel_rfl
    simp only [Act.put, List.getElem_toArray, List.getElem_cons_succ, List.getElem_cons_zero, List.setIfInBounds_toArray, List.set_cons_succ, List.set_cons_zero]
    refine Wl.done (by kernel_rfl) ?_ _
    clear hk
    go_wp2_with fail
    go_ret2
    have hfin := Bth.two2 (s := ⟨on, lf, removeF on F x⟩) (U := fun _ => False) HD2.out HX2d.out HDIS.out HDT.out HXT.out HB2.out HL2.out (Only.refl _ _) (fun k hk => hk.elim) HL4.out.2
    exact ⟨_, rfl, by rw [HDO.out]; exact hfin.1, hfin.2⟩
  have hgl : g < W1.heap.size := row_lt HG1.out
  have HGL : Hid (g < W1.heap.size) := Lib.hid hgl
  clear hgl
  by_cases hk1 : kind = 1
  · subst hk1
    have HDO : Hid (doS ⟨on, lf, F⟩ ⟨1, nn, x, b, ks⟩ = ⟨on, lf, F⟩) := Lib.hid rfl
    go_wp2_with fail
    clear hW1
    refine (read_any x W1 HD1.out HS.out HXM.out HN9.out).mono ?_
    rintro e w2 ⟨u, rfl, hu, hb2⟩
    obtain ⟨ez, hez⟩ : ∃ z, findE on F x = z := ⟨_, rfl⟩
    have HEZ := Lib.hid hez
    rw [hez]
    obtain ⟨zs, hzs⟩ : ∃ z, readL on F x = z := ⟨_, rfl⟩
    have HZS := Lib.hid hzs
    have hwf := (file_len (on := on) HS.out x).2.2
    change ∀ z ∈ readL on F x, _ at hwf
    rw [hzs] at hu hwf
    have HB2 := Lib.hid hb2
    have HU := Lib.hid hu
    have HWF := Lib.hid hwf
    have hg2 := (hb2.block g HGL.out).trans HG1.out
    have y2b : w2.cell? ⟨g, 2, none⟩ = some (.string x) := (cell_of_row _ _ 2 _ _ _ hg2).trans rfl
    have HX2 := Lib.hid (HX1.out.below hb2)
    obtain ⟨au, cu, hau⟩ := own_slice hu
    subst hau
    clear hez hzs hu hb2 hwf hg2
    go_wp2_with fail
    have hrx := rread_any x w2 HX2.out HS2.out HN9.out
    simp only [Bool.not_not] at hrx
    refine hrx.mono ?_
    rintro e w4 ⟨rfl, hb4⟩
    have HB4 : Hid (Below w.heap.size w w4) := Lib.hid (HB1.out.trans ((HB2.out.mono HB1.out.size).trans (hb4.mono (Nat.le_trans HB1.out.size HB2.out.size))))
    have e1 := run_str (own_sl (HU.out.below hb4 (Nat.le_refl _)) HWF.out)
    have hb14 : Below W1.heap.size w2 w4 := hb4.mono HB2.out.size
    have HB14 := Lib.hid hb14
    clear hrx hb4 hb14
    have hfin : Dof w4 (Grow T w w4) p m (doS ⟨on, lf, F⟩ ⟨1, nn, x, b, ks⟩) ∧ Only T w w4 := ⟨by rw [HDO.out]; exact ⟨Sd, V, HD1.out.below ((HB2.out.mono (Nat.le_refl _)).trans HB14.out), fun k hk => .inl (HDT.out k hk)⟩, Below.only HB4.out T⟩
    have HFIN := Lib.hid hfin
    clear hfin
    obtain ⟨t2, ht2⟩ : ∃ z, strOfNums (readL on2 F2 x) = z := ⟨_, rfl⟩
    obtain ⟨ez2, hez2⟩ : ∃ z, findE on2 F2 x = z := ⟨_, rfl⟩
    obtain ⟨t1, ht1⟩ : ∃ z, strOfNums zs = z := ⟨_, rfl⟩
    rw [ht2, hez2]
    rw [ht1] at e1
    clear ht1 ht2 hez2
    by_cases hse : t1 = t2
    · have d1 : (t1.toList == t2.toList) = true := by rw [hse]; simp
      clear hse
      go_wp2_with fail
      go_ret2
      exact ⟨_, rfl, HFIN.out⟩
    · have d1 : (t1.toList == t2.toList) = false := str_ne hse
      clear hse
      go_wp2_with fail
      go_ret2
      exact ⟨_, rfl, HFIN.out⟩
  by_cases hk0 : kind = 0
  · subst hk0
    have HDO : Hid (doS ⟨on, lf, F⟩ ⟨0, nn, x, b, ks⟩ = appS ⟨on, lf, F⟩ x (sb b)) := Lib.hid rfl
    obtain ⟨cv, W2, hcv, hsl, hb2, hrm⟩ := conv2 W1 b HBM.out
    obtain ⟨bb, hbb⟩ : ∃ z, W1.heap.size = z := ⟨_, rfl⟩
    rw [hbb] at hcv hsl hrm
    have HSL := Lib.hid hsl
    have HB2 := Lib.hid hb2
    have HRM := Lib.hid hrm
    have HBB := Lib.hid hbb
    have hz1 := HB1.out.size
    have hgb : ¬ g = bb := by have := HGL.out; omega
    have hbg : ¬ bb = g := fun e => hgb e.symm
    have HGB := Lib.hid hgb
    have HBSd : Hid (¬ Sd bb) := Lib.hid (fun k => by have := HD1.out.low bb k; omega)
    have HBSx : Hid (¬ Sx bb) := Lib.hid (fun k => by have := HX1.out.low bb k; omega)
    have HBW : Hid (w.heap.size ≤ bb) := Lib.hid (by omega)
    have HD2 := Lib.hid (HD1.out.below hb2)
    have HX2 := Lib.hid (HX1.out.below hb2)
    have HG2 := Lib.hid ((hb2.block g HGL.out).trans HG1.out)
    have y2b : W2.cell? ⟨g, 2, none⟩ = some (.string x) := (cell_of_row _ _ 2 _ _ _ HG2.out).trans rfl
    have HB02 : Hid (Below w.heap.size w W2) := Lib.hid (HB1.out.trans (hb2.mono hz1))
    have HNS : Hid (n + (sb b).length ≤ 1000000000) := Lib.hid (by rw [sb_length]; have := HN.out; omega)
    clear hsl hb2 hrm hz1 hbb
    go_wp2_with fail
    clear hcv hW1 y0 y1 y2 y3 y4
    refine (append_any x _ (sb b) W2 HD2.out HS.out HXM.out HSL.out (sb_wf b) HNS.out HLE.out).mono ?_
    rintro e w3 ⟨rfl, hl3⟩
    unfold LeftS at hl3
    have HL3 := Lib.hid hl3
    obtain ⟨ez, hez⟩ : ∃ z, appE ⟨on, lf, F⟩ x (sb b) = z := ⟨_, rfl⟩
    have HEZ := Lib.hid hez
    rw [hez]
    have HRM3 : Hid (RowM w3 bb b.size) := Lib.hid (HRM.out.keep (hl3.2.2.2.2.2 bb HRM.out.lt HBSd.out))
    have HG3 := Lib.hid ((hl3.2.2.2.2.2 g (row_lt HG2.out) HGD.out).trans HG2.out)
    have HX3 := Lib.hid (HX2.out.only hl3.2 (fun k hk hk2 => HDIS.out k hk2 hk))
    have hbm := HBM.out
    unfold maxLen at hbm
    clear hl3 hez y2b
    go_wp2_with fail
    go_loopw [30] (fun i wr => ∃ k : Nat, k ≤ b.size ∧ i = .int .i64 (k : Int) ∧ Hid (RowM wr bb b.size ∧ Only (fun k => k = bb) w3 wr)) (fun i _ => b.size - (intOf i).toNat)
    case atStart => exact ⟨0, Nat.zero_le _, rfl, Lib.hid ⟨HRM3.out, Only.refl _ _⟩⟩
    case round =>
      obtain ⟨k, hk, rfl, HR⟩ := hrel
      by_cases hlt : k < b.size
      · have hlti : (k : Int) < (b.size : Int) := by omega
        obtain ⟨⟨r1v, r1⟩, r2, r3⟩ := HR.out.1.at hlt
        obtain ⟨Wz, hWz⟩ : ∃ z, wr.setCell ⟨bb, k, none⟩ (.int .u8 122) = z := ⟨_, rfl⟩
        have HF : Hid (RowM Wz bb b.size ∧ Only (fun k => k = bb) w3 Wz) := Lib.hid (by rw [← hWz]; exact ⟨r3 _, HR.out.2.trans (Only.setCell wr ⟨bb, k, none⟩ _ rfl)⟩)
        clear r3
        go_wp2_with fail
        clear hWz
        go_roundw
        case rel => exact ⟨k + 1, by omega, by go_num, HF⟩
        case measure => simp [intOf]; omega
      · obtain rfl : k = b.size := by omega
        have hgr := (HR.out.2.2.2.2.2 g (row_lt HG3.out) HGB.out).trans HG3.out
        have y2c : wr.cell? ⟨g, 2, none⟩ = some (.string x) := (cell_of_row _ _ 2 _ _ _ hgr).trans rfl
        have y3c : wr.cell? ⟨g, 3, none⟩ = some (.string b) := (cell_of_row _ _ 3 _ _ _ hgr).trans rfl
        have HXR := Lib.hid (HX3.out.only HR.out.2 (fun k hk hk2 => by subst hk2; exact HBSx.out hk))
        clear hgr
        go_wp2_with fail
        have hrx := rappend_any x (sb b) wr HXR.out HS2.out HXM.out (sb_wf b) HNS.out HLE2.out
        simp only [Bool.not_not, sb_str] at hrx
        refine hrx.mono ?_
        rintro e w4 ⟨rfl, hl4⟩
        unfold RLeftS at hl4
        have HL4 := Lib.hid hl4
        clear hl4 hrx
        go_wp2_with fail
        go_ret2
        have hfin := Bth.two2 (s := appS ⟨on, lf, F⟩ x (sb b)) (U := fun k => k = bb) HD2.out HX2.out HDIS.out HDT.out HXT.out HB02.out HL3.out HR.out.2 (fun k hk => by subst hk; exact ⟨HBW.out, HRM.out.lt, HBSd.out, HBSx.out⟩) HL4.out.2
        exact ⟨_, rfl, by rw [HDO.out]; exact hfin.1, hfin.2⟩
  have hk4 : ¬ kind = 4 := by omega
  have hk5 : ¬ kind = 5 := by omega
  have hk6 : ¬ kind = 6 := by omega
  have hk7 : ¬ kind = 7 := by omega
  have HDO : Hid (doS ⟨on, lf, F⟩ ⟨kind, nn, x, b, ks⟩ = ⟨on, lf, F⟩) := Lib.hid (by
    unfold doS
    simp only [if_neg hk0, if_neg hk2, if_neg hk3, if_neg hk4, if_neg hk5, if_neg hk6])
  have d0 : (kind == 0) = false := by simpa using hk0
  have d1 : (kind == 1) = false := by simpa using hk1
  have d2 : (kind == 2) = false := by simpa using hk2
  have d3 : (kind == 3) = false := by simpa using hk3
  have d4 : (kind == 4) = false := by simpa using hk4
  have d5 : (kind == 5) = false := by simpa using hk5
  have d6 : (kind == 6) = false := by simpa using hk6
  have d7 : (kind == 7) = false := by simpa using hk7
  clear hk0 hk1 hk2 hk3 hk4 hk5 hk6 hk7
  go_wp2_with fail
  go_ret2
  exact ⟨_, rfl, by rw [HDO.out]; exact ⟨Sd, V, HD1.out, fun k hk => .inl (HDT.out k hk)⟩, Below.only HB1.out T⟩
end Rk
end Go.Proofs.Ytfaifdidillkaaa
