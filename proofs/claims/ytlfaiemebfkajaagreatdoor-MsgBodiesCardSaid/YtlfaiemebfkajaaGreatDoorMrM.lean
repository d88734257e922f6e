/- The document's octet; its reading of a snapshot behind an error. No condition. The document's reading of a snapshot behind an error. No condition. The document's reading of a message's body, on lists: it answers what the program's does. No condition. -/
import Derived.Test.YtlfaiemebfkajaaGreatDoorEdX
import Derived.Test.YtlfaiemebfkajaaGreatDoorRkW
import Derived.Test.YtlfaiemebfkajaaGreatDoorMdL
namespace Go.Proofs.YtlfaiemebfkajaaGreatDoor
open Go.ChangeShapes Go.WideShapes Go.ChangeAt Go.RowKit Go.Deep
set_option linter.unusedVariables false
set_option maxRecDepth 100000
namespace Ms
open Nv Cm Sc
def octS (st : Pst) : Int × Pst := if (st.2 == 0) = true then (match st.1 with
  | [] => (0, ([], 10))
  | x :: r => (x, (r, 0))) else (0, st)
theorem octS_err {st : Pst} (h : (st.2 == 0) = false) : octS st = (0, st) := by unfold octS; rw [if_neg (by rw [h]; simp)]
theorem octS_nil {zs : List Int} {u : Nat} (h : u = zs.length) : octS (zs.drop u, 0) = (0, ([], 10)) := by subst h; rw [List.drop_length]; rfl
theorem octS_cons {zs : List Int} {u : Nat} {x : Int} (h : zs.drop u = x :: zs.drop (u + 1)) : octS (zs.drop u, 0) = (x, (zs.drop (u + 1), 0)) := by rw [h]; rfl
set_option maxHeartbeats 2000000 in
theorem oct_stuck (g : Nat) (v : Value) (u : Nat) (e : Int) (w : World) (h : RB g v u e w) (he : (e == 0) = false) :
    Calls Tryz.prog 40 #[.pointer (some ⟨g, 0, none⟩)] w fun E w' => E = .returned (.int .i64 0) ∧ w' = w := by
  have c2 := h.c2
  have hne : (e != 0) = true := by rw [bne, he]; rfl
  clear h he
  go_enter Tryz.func40, Tryz.ntmps40
  go_wp2
  go_ret
  exact ⟨rfl, rfl⟩
set_option maxHeartbeats 4000000 in
theorem oct_any (w0 : World) (g : Nat) (zs : List Int) (st : Pst) (w : World) (hr : RdR w0 g zs st w) (hb : Below w0.heap.size w0 w) (hg : w0.heap.size ≤ g) :
    Calls Tryz.prog 40 #[.pointer (some ⟨g, 0, none⟩)] w (NumR w0 g zs (octS st) (.int .i64 (octS st).1) w) := by
  obtain ⟨s1, e⟩ := st
  obtain ⟨v, u, h1, h2, h3, h4⟩ := hr
  cases he : (e == 0) with
  | false =>
    refine (oct_stuck g v u e w h1 he).mono ?_
    rintro E w' ⟨rfl, rfl⟩
    rw [octS_err (st := (s1, e)) he]
    exact ⟨rfl, ⟨v, u, h1, h2, h3, h4⟩, Only.refl _ _, rfl⟩
  | true =>
    obtain rfl : e = 0 := by simpa using he
    obtain ⟨hu, rfl⟩ := h4 rfl
    clear h4 h3 he
    replace h1 : RB g v u 0 w := h1
    have hsw := h2.below hb (Nat.le_refl _)
    obtain ⟨av, cv, rfl, hlc, hcm, -⟩ := id hsw
    unfold maxLen at hcm
    have HRB := Lib.hid h1
    have HSL := Lib.hid h2
    have HSW := Lib.hid hsw
    have c0 := h1.c0
    have c1 := h1.c1
    have c2 := h1.c2
    have f1 := h1.f 1
    rcases Nat.lt_or_ge u zs.length with g1 | g1
    · have G1 := Lib.hid g1
      obtain ⟨x, hx, hxd⟩ : ∃ x, zs.getD u 0 = x ∧ zs.drop u = x :: zs.drop (u + 1) := ⟨_, rfl, by rw [List.drop_eq_getElem_cons g1, List.getD_eq_getElem?_getD, List.getElem?_eq_getElem g1]; rfl⟩
      have HX := Lib.hid hxd
      have HXV := Lib.hid hx
      have HOC := Lib.hid (octS_cons hxd)
      have hgl := row_lt h1
      have HON : Hid (∀ (n : Nat), Only (· = g) w (w.drewN n)) := Lib.hid (fun n => Below.only (Nd.below_drewN _ _) _)
      have hnb : decide (zs.length ≤ u) = false := decide_eq_false (by omega)
      have hlu : (u : Int) < (zs.length : Int) := by omega
      have hl2 : (zs.length : Int) ≤ 9223372036854775807 := by omega
      have hu0 : (0 : Int) ≤ (u : Int) := by omega
      have HBW := Lib.hid hb
      have HG := Lib.hid hg
      clear hu hlc hcm g1 hxd h1 h2 hsw hb hg
      go_enter Tryz.func40, Tryz.ntmps40
      go_upto_region 3 with fail
      go_quiet (fail)
      obtain ⟨W1, hW1⟩ : ∃ q, w.drewN nq = q := ⟨_, rfl⟩
      rw [hW1]
      have HO1 : Hid (Only (· = g) w W1) := Lib.hid (by rw [← hW1]; exact HON.out nq)
      have HR1 : RB g (.slice av zs.length cv) u 0 W1 := by rw [← hW1]; exact HRB.out
      have HZ1 : Hid (W1.heap.size = w.heap.size) := Lib.hid (by rw [← hW1]; rfl)
      obtain ⟨W2, hW2⟩ : ∃ q, W1.setCell ⟨g, 1, none⟩ (.int .i64 ((u : Int) + 1)) = q := ⟨_, rfl⟩
      have HR2 : RB g (.slice av zs.length cv) (u + 1) 0 W2 := by rw [← hW2]; exact HR1.u (k := u + 1)
      have HO2 : Hid (Only (· = g) w W2) := Lib.hid (HO1.out.trans (by rw [← hW2]; exact Only.setCell _ _ _ rfl))
      have HZ2 : Hid (W2.heap.size = w.heap.size) := Lib.hid (by rw [← hW2]; simpa using HZ1.out)
      have hs2 := HSL.out.below (HO2.out.below HBW.out HBW.out.size (fun q hq => hq ▸ HG.out)) (Nat.le_refl _)
      obtain ⟨a9, c9, e9, -, -, -, h9⟩ := hs2
      simp only [Value.slice.injEq] at e9
      obtain ⟨rfl, -, rfl⟩ := e9
      have c0 := HR1.c0
      have c1 := HR1.c1
      have f1 := HR1.f 1
      have d0 := HR2.c0
      have d1 : W2.cell? ⟨g, 1, none⟩ = some (.int .i64 ((u : Int) + 1)) := HR2.c1
      have HRR := Lib.hid HR2
      clear HR1 HR2
      rcases h9 with ⟨-, -, h9⟩ | ⟨b, off, sp, rfl, h9 | ⟨rfl, hlt, h9⟩⟩
      · exact absurd G1.out (by rw [h9]; simp)
      · exact absurd G1.out (by rw [h9]; simp)
      have hx1 := h9 u G1.out
      rw [hx] at hx1
      clear hx h9 hlt hW1
      go_upto_region 7 with (first | (rw [hW2]; clear hW2) | fail)
      go_quiet (fail)
      go_wp2
      have hxb := bounds_u8 (HSL.out.wf _ (Nd.mem_get G1.out))
      rw [HXV.out] at hxb
      have hwr : wrap64 x = x := by unfold wrap64; omega
      rw [hwr]
      obtain ⟨W3, hW3⟩ : ∃ q, W2.drewN nq = q := ⟨_, rfl⟩
      rw [hW3]
      have HR3 : RB g (.slice (some ⟨b, off, none⟩) zs.length cv) (u + 1) 0 W3 := by rw [← hW3]; exact HRR.out
      have HO3 : Only (· = g) W2 W3 := by rw [← hW3]; exact Below.only (Nd.below_drewN _ _) _
      have HZ3 : W3.heap.size = W2.heap.size := by rw [← hW3]; rfl
      go_ret
      rw [HOC.out]
      exact ⟨rfl, ⟨_, u + 1, HR3, HSL.out, by have := G1.out; omega, fun _ => ⟨G1.out, rfl⟩⟩, HO2.out.trans HO3, HZ3.trans HZ2.out⟩
    · have G1 : Hid (u = zs.length) := Lib.hid (by omega)
      have HOC := Lib.hid (octS_nil G1.out)
      have HON : Hid (∀ (n : Nat), Only (· = g) w (w.drewN n)) := Lib.hid (fun n => Below.only (Nd.below_drewN _ _) _)
      have hnb : decide (zs.length ≤ u) = true := decide_eq_true (by omega)
      clear hu hlc hcm g1 h1 h2 hsw hb hg HSW
      go_enter Tryz.func40, Tryz.ntmps40
      go_upto_region 3 with fail
      go_quiet (fail)
      obtain ⟨W1, hW1⟩ : ∃ q, w.drewN nq = q := ⟨_, rfl⟩
      rw [hW1]
      have HO1 : Hid (Only (· = g) w W1) := Lib.hid (by rw [← hW1]; exact HON.out nq)
      have HR1 : RB g (.slice av zs.length cv) u 0 W1 := by rw [← hW1]; exact HRB.out
      have HZ1 : Hid (W1.heap.size = w.heap.size) := Lib.hid (by rw [← hW1]; rfl)
      clear hW1
      go_wp2_with fail
      refine (fail_any g _ _ _ 10 _ HR1).mono ?_
      rintro E w2 ⟨rfl, q2, q3, q4⟩
      rw [show failE 0 10 = 10 from rfl] at q2
      have Q2 := Lib.hid q2
      have HO2 := Lib.hid (HO1.out.trans q3)
      have HZ2 := Lib.hid (q4.trans HZ1.out)
      clear q2 q3 q4
      go_wp2
      go_ret
      rw [HOC.out]
      exact ⟨rfl, ⟨_, u, Q2.out, HSL.out, by have := G1.out; omega, fun h => by simp at h⟩, HO2.out, HZ2.out⟩
end Ms
end Go.Proofs.YtlfaiemebfkajaaGreatDoor
namespace Go.Proofs.YtlfaiemebfkajaaGreatDoor
open Go.ChangeShapes Go.WideShapes Go.ChangeAt Go.RowKit Go.Deep
set_option linter.unusedVariables false
set_option maxRecDepth 100000
namespace Ms
open Nv Cm Sc
/-- what stays while the document's Read walks behind an error -/
def StI (w : World) (g : Nat) (v : Value) (u : Nat) (e : Int) (wr : World) : Prop :=
  wr.heap[w.heap.size + 1]? = some (.cells zSA 31 (0, 0)) ∧ wr.heap[w.heap.size]? = some (.cells zSA 31 (0, 0)) ∧ RB g v u e wr ∧ Only (· = g) w wr
theorem StI.set {w wr : World} {g u j : Nat} {v x : Value} {e : Int} (h : StI w g v u e wr) (hg : g < w.heap.size) (hx : (wr.setCell ⟨w.heap.size + 1, j, none⟩ x).heap[w.heap.size + 1]? = some (.cells zSA 31 (0, 0))) : StI w g v u e (wr.setCell ⟨w.heap.size + 1, j, none⟩ x) := by
  have ho : Only (· = w.heap.size + 1) wr (wr.setCell ⟨w.heap.size + 1, j, none⟩ x) := Only.setCell _ _ _ rfl
  refine ⟨hx, (ho.2.2.2.2 _ (row_lt h.2.1) (by omega)).trans h.2.1, h.2.2.1.only ho (by omega), ?_⟩
  exact ⟨ho.1.trans h.2.2.2.1, ho.2.1.trans h.2.2.2.2.1, ho.2.2.1.trans h.2.2.2.2.2.1, Nat.le_trans h.2.2.2.2.2.2.1 ho.2.2.2.1, fun q hq hn => (ho.2.2.2.2 q (Nat.lt_of_lt_of_le hq h.2.2.2.2.2.2.1) (by omega)).trans (h.2.2.2.2.2.2.2 q hq hn)⟩
theorem StI.drewN {w wr : World} {g u : Nat} {v : Value} {e : Int} (h : StI w g v u e wr) (n : Nat) : StI w g v u e (wr.drewN n) := by
  have hb : Below wr.heap.size wr (wr.drewN n) := Nd.below_drewN _ _
  exact ⟨(hb.block _ (row_lt h.1)).trans h.1, (hb.block _ (row_lt h.2.1)).trans h.2.1, (hb.block _ (row_lt h.2.2.1)).trans h.2.2.1, h.2.2.2.trans (Below.only hb _)⟩
set_option maxHeartbeats 4000000 in
theorem rread_stuck10 (g : Nat) (a : Option Addr) (ln cp u : Nat) (w : World) (h : RB g (.slice a ln cp) u 10 w) (hu : u ≤ 100000) :
    Calls Tryz.prog 45 #[.pointer (some ⟨g, 0, none⟩)] w fun E w' => E = .returned (.agg zSA) ∧ RB g (.slice a ln cp) (u + 1) 10 w' ∧ Only (· = g) w w' := by
  have hgl : g < w.heap.size := row_lt h
  have hsA : ((w.alloc (.cells zSA 31)).alloc (.cells zSA 31)).heap[w.heap.size + 1]? = some (.cells zSA 31 (0, 0)) := heap_alloc2_new _ _ _
  obtain ⟨W0, hW0⟩ : ∃ q, ((w.alloc (.cells zSA 31)).alloc (.cells zSA 31)).setRow (w.heap.size + 1) zSA = q := ⟨_, rfl⟩
  have hbo : Below w.heap.size w W0 := by rw [← hW0]; exact Ld.below_row (((Below.refl _ _).alloc (Nat.le_refl _) _).alloc (by simp) _) (by omega) _
  have HI : Hid (StI w g (.slice a ln cp) u 10 W0) := Lib.hid ⟨by rw [← hW0]; exact setRow_heap _ _ _ _ _ _ hsA, by rw [← hW0]; exact (setRow_other _ _ _ _ (by omega)).trans (heap_alloc2_old _ _ _), (hbo.block g hgl).trans h, Below.only hbo _⟩
  have HGL := Lib.hid hgl
  have HE : Hid (((10 : Int) == 0) = false) := Lib.hid rfl
  have c2 := HI.out.2.2.1.c2
  have c1 := HI.out.2.2.1.c1
  have c0 := HI.out.2.2.1.c0
  have HON : Hid (∀ (n : Nat) (wx : World), StI w g (.slice a ln cp) u 10 wx → StI w g (.slice a ln cp) u 10 (wx.drewN n)) := Lib.hid (fun n wx hx => hx.drewN n)
  have hu1 : (u : Int) ≤ 100000 := by omega
  have hu0 : (0 : Int) ≤ (u : Int) := by omega
  clear h hbo hgl hu
  go_enter Tryz.func45, Tryz.ntmps45
  go_upto_region 2 with (first | (with_reducible refine wpList_store_row rfl 31 (.tmp 3) (.tmp 10) rfl (w.heap.size + 1) zSA rfl rfl 31 _ hsA (by kernel_rfl) rfl zSA_one ?_; rw [hW0]; clear hW0 hsA) | fail)
  simp only [Act.put]
  go_cut [3, 27] (fun s3 s27 wx => s3 = .pointer (some ⟨w.heap.size + 1, 0, none⟩) ∧ s27 = .bool false ∧ Hid (StI w g (.slice a ln cp) u 10 wx))
  case first =>
    go_quiet (fail)
    go_wp2_with fail
    go_meet
    exact ⟨rfl, rfl, Lib.hid (HON.out nq _ HI.out)⟩
  clear HI c0 c1 c2
  obtain ⟨rfl, rfl, HI⟩ := hcut
  have HI1 := HI
  clear HI
  go_upto_if 27 with fail
  go_cut [3] (fun s3 wx => s3 = .pointer (some ⟨w.heap.size + 1, 0, none⟩) ∧ Hid (StI w g (.slice a ln cp) u 10 wx))
  case first =>
    go_wp2_with fail
    go_meet
    exact ⟨rfl, HI1⟩
  clear HI1
  obtain ⟨rfl, HI1⟩ := hcut
  have c2 := HI1.out.2.2.1.c2
  have c1 := HI1.out.2.2.1.c1
  have c0 := HI1.out.2.2.1.c0
  go_upto_region 4 with fail
  go_cut [47] (fun s47 wx => s47 = .bool false ∧ Hid (StI w g (.slice a ln cp) u 10 wx))
  case first =>
    go_quiet (fail)
    go_wp2_with fail
    go_meet
    exact ⟨rfl, Lib.hid (HON.out nq _ HI1.out)⟩
  clear HI1 c0 c1 c2
  obtain ⟨rfl, HI2⟩ := hcut
  go_upto_if 47 with fail
  go_cut [3] (fun s3 wx => s3 = .pointer (some ⟨w.heap.size + 1, 0, none⟩) ∧ Hid (StI w g (.slice a ln cp) u 10 wx))
  case first =>
    go_wp2_with fail
    go_meet
    exact ⟨rfl, HI2⟩
  clear HI2
  obtain ⟨rfl, HI2⟩ := hcut
  obtain ⟨W2, hW2⟩ : ∃ q, wc = q := ⟨_, rfl⟩
  rw [hW2] at HI2 ⊢
  have c1 := HI2.out.2.2.1.c1
  have f1 := HI2.out.2.2.1.f 1
  obtain ⟨Wk, hWk⟩ : ∃ q, W2.setCell ⟨g, 1, none⟩ (.int .i64 ((u : Int) + 1)) = q := ⟨_, rfl⟩
  have hrb2 : RB g (.slice a ln cp) (u + 1) 10 Wk := by
    rw [← hWk]
    have q := HI2.out.2.2.1.u (k := u + 1)
    rw [show ((u + 1 : Nat) : Int) = (u : Int) + 1 from rfl] at q
    exact q
  have hok : Only (· = g) W2 Wk := by rw [← hWk]; exact Only.setCell _ _ _ rfl
  have HI : Hid (StI w g (.slice a ln cp) (u + 1) 10 Wk) := Lib.hid ⟨(hok.2.2.2.2 _ (row_lt HI2.out.1) (by have := HGL.out; omega)).trans HI2.out.1, (hok.2.2.2.2 _ (row_lt HI2.out.2.1) (by have := HGL.out; omega)).trans HI2.out.2.1, hrb2, HI2.out.2.2.2.trans hok⟩
  clear hrb2 hok hW2 HI2
  go_wp2_with fail
  clear c1 f1 hWk
  refine (rnum_stuck g (.slice a ln cp) (u + 1) 10 _ HI.out.2.2.1 HE.out).mono ?_
  rintro E u0 ⟨rfl, hux⟩
  rw [hux]
  clear hux u0
  have ck := (cell_of_row _ _ 0 _ _ _ HI.out.1).trans rfl
  have fk : Wk.frozen? ⟨w.heap.size + 1, 0, none⟩ = false := frozen_of_row _ _ 0 _ _ HI.out.1
  obtain ⟨V0, hV⟩ : ∃ q, Wk.setCell ⟨w.heap.size + 1, 0, none⟩ (.int .u64 0) = q := ⟨_, rfl⟩
  have HI : Hid (StI w g (.slice a ln cp) (u + 1) 10 V0) := Lib.hid (by rw [← hV]; exact HI.out.set HGL.out (by rw [heap_setCell_same _ _ 0 _ _ _ HI.out.1]; rfl))
  go_wp2_with fail
  clear ck fk hV
  refine (rnum_stuck g (.slice a ln cp) (u + 1) 10 _ HI.out.2.2.1 HE.out).mono ?_
  rintro E u1 ⟨rfl, hux⟩
  rw [hux]
  clear hux u1
  have ck := (cell_of_row _ _ 1 _ _ _ HI.out.1).trans rfl
  have fk : V0.frozen? ⟨w.heap.size + 1, 1, none⟩ = false := frozen_of_row _ _ 1 _ _ HI.out.1
  obtain ⟨V1, hV⟩ : ∃ q, V0.setCell ⟨w.heap.size + 1, 1, none⟩ (.int .u64 0) = q := ⟨_, rfl⟩
  have HI : Hid (StI w g (.slice a ln cp) (u + 1) 10 V1) := Lib.hid (by rw [← hV]; exact HI.out.set HGL.out (by rw [heap_setCell_same _ _ 1 _ _ _ HI.out.1]; rfl))
  go_wp2_with fail
  clear ck fk hV
  refine (rsmall_stuck g (.slice a ln cp) (u + 1) 10 64 _ HI.out.2.2.1 HE.out (by decide) (by decide)).mono ?_
  rintro E u2 ⟨rfl, hux⟩
  rw [hux]
  clear hux u2
  go_wp2_with fail
  go_loopw [4] (fun s wr => s = .int .i64 0 ∧ Hid (StI w g (.slice a ln cp) (u + 1) 10 wr)) (fun _ _ => 0)
  case atStart => exact ⟨rfl, HI⟩
  case round =>
    clear HI
    obtain ⟨rfl, HI⟩ := hrel
    go_wp2_with fail
    refine (rsmall_stuck g (.slice a ln cp) (u + 1) 10 65535 _ HI.out.2.2.1 HE.out (by decide) (by decide)).mono ?_
    rintro E u3 ⟨rfl, hux⟩
    rw [hux]
    clear hux u3
    have ck := (cell_of_row _ _ 3 _ _ _ HI.out.1).trans rfl
    have fk : wr.frozen? ⟨w.heap.size + 1, 3, none⟩ = false := frozen_of_row _ _ 3 _ _ HI.out.1
    obtain ⟨V3, hV⟩ : ∃ q, wr.setCell ⟨w.heap.size + 1, 3, none⟩ (.int .i64 0) = q := ⟨_, rfl⟩
    have HI : Hid (StI w g (.slice a ln cp) (u + 1) 10 V3) := Lib.hid (by rw [← hV]; exact HI.out.set HGL.out (by rw [heap_setCell_same _ _ 3 _ _ _ HI.out.1]; rfl))
    go_wp2_with fail
    clear ck fk hV
    refine (rnum_stuck g (.slice a ln cp) (u + 1) 10 _ HI.out.2.2.1 HE.out).mono ?_
    rintro E u4 ⟨rfl, hux⟩
    rw [hux]
    clear hux u4
    have ck := (cell_of_row _ _ 4 _ _ _ HI.out.1).trans rfl
    have fk : V3.frozen? ⟨w.heap.size + 1, 4, none⟩ = false := frozen_of_row _ _ 4 _ _ HI.out.1
    obtain ⟨V4, hV⟩ : ∃ q, V3.setCell ⟨w.heap.size + 1, 4, none⟩ (.int .u64 0) = q := ⟨_, rfl⟩
    have HI : Hid (StI w g (.slice a ln cp) (u + 1) 10 V4) := Lib.hid (by rw [← hV]; exact HI.out.set HGL.out (by rw [heap_setCell_same _ _ 4 _ _ _ HI.out.1]; rfl))
    go_wp2_with fail
    clear ck fk hV
    refine (rsmall_stuck g (.slice a ln cp) (u + 1) 10 64 _ HI.out.2.2.1 HE.out (by decide) (by decide)).mono ?_
    rintro E u5 ⟨rfl, hux⟩
    rw [hux]
    clear hux u5
    go_wp2_with fail
    go_loopw [6] (fun s wr => s = .int .i64 0 ∧ Hid (StI w g (.slice a ln cp) (u + 1) 10 wr)) (fun _ _ => 0)
    case atStart => exact ⟨rfl, HI⟩
    case round =>
      clear HI
      obtain ⟨rfl, HI⟩ := hrel
      go_wp2_with fail
      refine (rsmall_stuck g (.slice a ln cp) (u + 1) 10 64 _ HI.out.2.2.1 HE.out (by decide) (by decide)).mono ?_
      rintro E u6 ⟨rfl, hux⟩
      rw [hux]
      clear hux u6
      go_wp2_with fail
      go_loopw [8] (fun s wr => s = .int .i64 0 ∧ Hid (StI w g (.slice a ln cp) (u + 1) 10 wr)) (fun _ _ => 0)
      case atStart => exact ⟨rfl, HI⟩
      case round =>
        clear HI
        obtain ⟨rfl, HI⟩ := hrel
        have hq1 : wr.heap[w.heap.size + 1]? = some (.cells zSA 31 (0, 0)) := HI.out.1
        have hq0 : wr.heap[w.heap.size]? = some (.cells zSA 31 (0, 0)) := HI.out.2.1
        obtain ⟨WZ, hWZ⟩ : ∃ q, wr.setRow w.heap.size zSA = q := ⟨_, rfl⟩
        have HQZ : Hid (WZ.heap[w.heap.size]? = some (.cells zSA 31 (0, 0))) := Lib.hid (by rw [← hWZ]; exact setRow_heap _ _ _ _ _ _ HI.out.2.1)
        have HZ : Hid (RB g (.slice a ln cp) (u + 1) 10 WZ ∧ Only (· = g) w WZ) := Lib.hid (by
          have hx : Only (· = w.heap.size) wr WZ := by rw [← hWZ]; exact only_row _ _ _
          exact ⟨HI.out.2.2.1.only hx (by have := HGL.out; omega), only_new HI.out.2.2.2 (Only.refl _ _) hx (Nat.le_refl _)⟩)
        go_wp2_with (first
          | (with_reducible refine wpList_load_row rfl 31 (.tmp 3) rfl (w.heap.size + 1) rfl 31 zSA (0, 0) _ hq1 Tryz.underlying31 rfl (by kernel_rfl) ?_)
          | (with_reducible refine wpList_store_row rfl 31 (.tmp 2) (.tmp 172) rfl w.heap.size zSA rfl rfl 31 _ hq0 (by kernel_rfl) rfl zSA_one ?_; rw [hWZ]; clear hWZ))
        refine bodyPost_ret (v := .agg zSA) (results_cell_row rfl _ _ w.heap.size 31 _ (0, 0) _ rfl HQZ.out Tryz.underlying31 rfl (by kernel_rfl)) rfl ?_
        exact ⟨rfl, HZ.out.1, HZ.out.2⟩
set_option maxHeartbeats 4000000 in
theorem rread_stuck11 (g : Nat) (a : Option Addr) (ln cp u : Nat) (w : World) (h : RB g (.slice a ln cp) u 11 w) (hu : u ≤ 100000) :
    Calls Tryz.prog 45 #[.pointer (some ⟨g, 0, none⟩)] w fun E w' => E = .returned (.agg zSA) ∧ RB g (.slice a ln cp) (u + 1) 11 w' ∧ Only (· = g) w w' := by
  have hgl : g < w.heap.size := row_lt h
  have hsA : ((w.alloc (.cells zSA 31)).alloc (.cells zSA 31)).heap[w.heap.size + 1]? = some (.cells zSA 31 (0, 0)) := heap_alloc2_new _ _ _
  obtain ⟨W0, hW0⟩ : ∃ q, ((w.alloc (.cells zSA 31)).alloc (.cells zSA 31)).setRow (w.heap.size + 1) zSA = q := ⟨_, rfl⟩
  have hbo : Below w.heap.size w W0 := by rw [← hW0]; exact Ld.below_row (((Below.refl _ _).alloc (Nat.le_refl _) _).alloc (by simp) _) (by omega) _
  have HI : Hid (StI w g (.slice a ln cp) u 11 W0) := Lib.hid ⟨by rw [← hW0]; exact setRow_heap _ _ _ _ _ _ hsA, by rw [← hW0]; exact (setRow_other _ _ _ _ (by omega)).trans (heap_alloc2_old _ _ _), (hbo.block g hgl).trans h, Below.only hbo _⟩
  have HGL := Lib.hid hgl
  have HE : Hid (((11 : Int) == 0) = false) := Lib.hid rfl
  have c2 := HI.out.2.2.1.c2
  have c1 := HI.out.2.2.1.c1
  have c0 := HI.out.2.2.1.c0
  have HON : Hid (∀ (n : Nat) (wx : World), StI w g (.slice a ln cp) u 11 wx → StI w g (.slice a ln cp) u 11 (wx.drewN n)) := Lib.hid (fun n wx hx => hx.drewN n)
  have hu1 : (u : Int) ≤ 100000 := by omega
  have hu0 : (0 : Int) ≤ (u : Int) := by omega
  clear h hbo hgl hu
  go_enter Tryz.func45, Tryz.ntmps45
  go_upto_region 2 with (first | (with_reducible refine wpList_store_row rfl 31 (.tmp 3) (.tmp 10) rfl (w.heap.size + 1) zSA rfl rfl 31 _ hsA (by kernel_rfl) rfl zSA_one ?_; rw [hW0]; clear hW0 hsA) | fail)
  simp only [Act.put]
  go_cut [3, 27] (fun s3 s27 wx => s3 = .pointer (some ⟨w.heap.size + 1, 0, none⟩) ∧ s27 = .bool false ∧ Hid (StI w g (.slice a ln cp) u 11 wx))
  case first =>
    go_quiet (fail)
    go_wp2_with fail
    go_meet
    exact ⟨rfl, rfl, Lib.hid (HON.out nq _ HI.out)⟩
  clear HI c0 c1 c2
  obtain ⟨rfl, rfl, HI⟩ := hcut
  have HI1 := HI
  clear HI
  go_upto_if 27 with fail
  go_cut [3] (fun s3 wx => s3 = .pointer (some ⟨w.heap.size + 1, 0, none⟩) ∧ Hid (StI w g (.slice a ln cp) u 11 wx))
  case first =>
    go_wp2_with fail
    go_meet
    exact ⟨rfl, HI1⟩
  clear HI1
  obtain ⟨rfl, HI1⟩ := hcut
  have c2 := HI1.out.2.2.1.c2
  have c1 := HI1.out.2.2.1.c1
  have c0 := HI1.out.2.2.1.c0
  go_upto_region 4 with fail
  go_cut [47] (fun s47 wx => s47 = .bool false ∧ Hid (StI w g (.slice a ln cp) u 11 wx))
  case first =>
    go_quiet (fail)
    go_wp2_with fail
    go_meet
    exact ⟨rfl, Lib.hid (HON.out nq _ HI1.out)⟩
  clear HI1 c0 c1 c2
  obtain ⟨rfl, HI2⟩ := hcut
  go_upto_if 47 with fail
  go_cut [3] (fun s3 wx => s3 = .pointer (some ⟨w.heap.size + 1, 0, none⟩) ∧ Hid (StI w g (.slice a ln cp) u 11 wx))
  case first =>
    go_wp2_with fail
    go_meet
    exact ⟨rfl, HI2⟩
  clear HI2
  obtain ⟨rfl, HI2⟩ := hcut
  obtain ⟨W2, hW2⟩ : ∃ q, wc = q := ⟨_, rfl⟩
  rw [hW2] at HI2 ⊢
  have c1 := HI2.out.2.2.1.c1
  have f1 := HI2.out.2.2.1.f 1
  obtain ⟨Wk, hWk⟩ : ∃ q, W2.setCell ⟨g, 1, none⟩ (.int .i64 ((u : Int) + 1)) = q := ⟨_, rfl⟩
  have hrb2 : RB g (.slice a ln cp) (u + 1) 11 Wk := by
    rw [← hWk]
    have q := HI2.out.2.2.1.u (k := u + 1)
    rw [show ((u + 1 : Nat) : Int) = (u : Int) + 1 from rfl] at q
    exact q
  have hok : Only (· = g) W2 Wk := by rw [← hWk]; exact Only.setCell _ _ _ rfl
  have HI : Hid (StI w g (.slice a ln cp) (u + 1) 11 Wk) := Lib.hid ⟨(hok.2.2.2.2 _ (row_lt HI2.out.1) (by have := HGL.out; omega)).trans HI2.out.1, (hok.2.2.2.2 _ (row_lt HI2.out.2.1) (by have := HGL.out; omega)).trans HI2.out.2.1, hrb2, HI2.out.2.2.2.trans hok⟩
  clear hrb2 hok hW2 HI2
  go_wp2_with fail
  clear c1 f1 hWk
  refine (rnum_stuck g (.slice a ln cp) (u + 1) 11 _ HI.out.2.2.1 HE.out).mono ?_
  rintro E u0 ⟨rfl, hux⟩
  rw [hux]
  clear hux u0
  have ck := (cell_of_row _ _ 0 _ _ _ HI.out.1).trans rfl
  have fk : Wk.frozen? ⟨w.heap.size + 1, 0, none⟩ = false := frozen_of_row _ _ 0 _ _ HI.out.1
  obtain ⟨V0, hV⟩ : ∃ q, Wk.setCell ⟨w.heap.size + 1, 0, none⟩ (.int .u64 0) = q := ⟨_, rfl⟩
  have HI : Hid (StI w g (.slice a ln cp) (u + 1) 11 V0) := Lib.hid (by rw [← hV]; exact HI.out.set HGL.out (by rw [heap_setCell_same _ _ 0 _ _ _ HI.out.1]; rfl))
  go_wp2_with fail
  clear ck fk hV
  refine (rnum_stuck g (.slice a ln cp) (u + 1) 11 _ HI.out.2.2.1 HE.out).mono ?_
  rintro E u1 ⟨rfl, hux⟩
  rw [hux]
  clear hux u1
  have ck := (cell_of_row _ _ 1 _ _ _ HI.out.1).trans rfl
  have fk : V0.frozen? ⟨w.heap.size + 1, 1, none⟩ = false := frozen_of_row _ _ 1 _ _ HI.out.1
  obtain ⟨V1, hV⟩ : ∃ q, V0.setCell ⟨w.heap.size + 1, 1, none⟩ (.int .u64 0) = q := ⟨_, rfl⟩
  have HI : Hid (StI w g (.slice a ln cp) (u + 1) 11 V1) := Lib.hid (by rw [← hV]; exact HI.out.set HGL.out (by rw [heap_setCell_same _ _ 1 _ _ _ HI.out.1]; rfl))
  go_wp2_with fail
  clear ck fk hV
  refine (rsmall_stuck g (.slice a ln cp) (u + 1) 11 64 _ HI.out.2.2.1 HE.out (by decide) (by decide)).mono ?_
  rintro E u2 ⟨rfl, hux⟩
  rw [hux]
  clear hux u2
  go_wp2_with fail
  go_loopw [4] (fun s wr => s = .int .i64 0 ∧ Hid (StI w g (.slice a ln cp) (u + 1) 11 wr)) (fun _ _ => 0)
  case atStart => exact ⟨rfl, HI⟩
  case round =>
    clear HI
    obtain ⟨rfl, HI⟩ := hrel
    go_wp2_with fail
    refine (rsmall_stuck g (.slice a ln cp) (u + 1) 11 65535 _ HI.out.2.2.1 HE.out (by decide) (by decide)).mono ?_
    rintro E u3 ⟨rfl, hux⟩
    rw [hux]
    clear hux u3
    have ck := (cell_of_row _ _ 3 _ _ _ HI.out.1).trans rfl
    have fk : wr.frozen? ⟨w.heap.size + 1, 3, none⟩ = false := frozen_of_row _ _ 3 _ _ HI.out.1
    obtain ⟨V3, hV⟩ : ∃ q, wr.setCell ⟨w.heap.size + 1, 3, none⟩ (.int .i64 0) = q := ⟨_, rfl⟩
    have HI : Hid (StI w g (.slice a ln cp) (u + 1) 11 V3) := Lib.hid (by rw [← hV]; exact HI.out.set HGL.out (by rw [heap_setCell_same _ _ 3 _ _ _ HI.out.1]; rfl))
    go_wp2_with fail
    clear ck fk hV
    refine (rnum_stuck g (.slice a ln cp) (u + 1) 11 _ HI.out.2.2.1 HE.out).mono ?_
    rintro E u4 ⟨rfl, hux⟩
    rw [hux]
    clear hux u4
    have ck := (cell_of_row _ _ 4 _ _ _ HI.out.1).trans rfl
    have fk : V3.frozen? ⟨w.heap.size + 1, 4, none⟩ = false := frozen_of_row _ _ 4 _ _ HI.out.1
    obtain ⟨V4, hV⟩ : ∃ q, V3.setCell ⟨w.heap.size + 1, 4, none⟩ (.int .u64 0) = q := ⟨_, rfl⟩
    have HI : Hid (StI w g (.slice a ln cp) (u + 1) 11 V4) := Lib.hid (by rw [← hV]; exact HI.out.set HGL.out (by rw [heap_setCell_same _ _ 4 _ _ _ HI.out.1]; rfl))
    go_wp2_with fail
    clear ck fk hV
    refine (rsmall_stuck g (.slice a ln cp) (u + 1) 11 64 _ HI.out.2.2.1 HE.out (by decide) (by decide)).mono ?_
    rintro E u5 ⟨rfl, hux⟩
    rw [hux]
    clear hux u5
    go_wp2_with fail
    go_loopw [6] (fun s wr => s = .int .i64 0 ∧ Hid (StI w g (.slice a ln cp) (u + 1) 11 wr)) (fun _ _ => 0)
    case atStart => exact ⟨rfl, HI⟩
    case round =>
      clear HI
      obtain ⟨rfl, HI⟩ := hrel
      go_wp2_with fail
      refine (rsmall_stuck g (.slice a ln cp) (u + 1) 11 64 _ HI.out.2.2.1 HE.out (by decide) (by decide)).mono ?_
      rintro E u6 ⟨rfl, hux⟩
      rw [hux]
      clear hux u6
      go_wp2_with fail
      go_loopw [8] (fun s wr => s = .int .i64 0 ∧ Hid (StI w g (.slice a ln cp) (u + 1) 11 wr)) (fun _ _ => 0)
      case atStart => exact ⟨rfl, HI⟩
      case round =>
        clear HI
        obtain ⟨rfl, HI⟩ := hrel
        have hq1 : wr.heap[w.heap.size + 1]? = some (.cells zSA 31 (0, 0)) := HI.out.1
        have hq0 : wr.heap[w.heap.size]? = some (.cells zSA 31 (0, 0)) := HI.out.2.1
        obtain ⟨WZ, hWZ⟩ : ∃ q, wr.setRow w.heap.size zSA = q := ⟨_, rfl⟩
        have HQZ : Hid (WZ.heap[w.heap.size]? = some (.cells zSA 31 (0, 0))) := Lib.hid (by rw [← hWZ]; exact setRow_heap _ _ _ _ _ _ HI.out.2.1)
        have HZ : Hid (RB g (.slice a ln cp) (u + 1) 11 WZ ∧ Only (· = g) w WZ) := Lib.hid (by
          have hx : Only (· = w.heap.size) wr WZ := by rw [← hWZ]; exact only_row _ _ _
          exact ⟨HI.out.2.2.1.only hx (by have := HGL.out; omega), only_new HI.out.2.2.2 (Only.refl _ _) hx (Nat.le_refl _)⟩)
        go_wp2_with (first
          | (with_reducible refine wpList_load_row rfl 31 (.tmp 3) rfl (w.heap.size + 1) rfl 31 zSA (0, 0) _ hq1 Tryz.underlying31 rfl (by kernel_rfl) ?_)
          | (with_reducible refine wpList_store_row rfl 31 (.tmp 2) (.tmp 172) rfl w.heap.size zSA rfl rfl 31 _ hq0 (by kernel_rfl) rfl zSA_one ?_; rw [hWZ]; clear hWZ))
        refine bodyPost_ret (v := .agg zSA) (results_cell_row rfl _ _ w.heap.size 31 _ (0, 0) _ rfl HQZ.out Tryz.underlying31 rfl (by kernel_rfl)) rfl ?_
        exact ⟨rfl, HZ.out.1, HZ.out.2⟩
theorem rread_stuck (g : Nat) (a : Option Addr) (ln cp u : Nat) (e : Int) (w : World) (h : RB g (.slice a ln cp) u e w) (he : e = 10 ∨ e = 11) (hu : u ≤ 100000) :
    Calls Tryz.prog 45 #[.pointer (some ⟨g, 0, none⟩)] w fun E w' => E = .returned (.agg zSA) ∧ RB g (.slice a ln cp) (u + 1) e w' ∧ Only (· = g) w w' := by
  rcases he with rfl | rfl
  · exact rread_stuck10 g a ln cp u w h hu
  · exact rread_stuck11 g a ln cp u w h hu
end Ms
end Go.Proofs.YtlfaiemebfkajaaGreatDoor
namespace Go.Proofs.YtlfaiemebfkajaaGreatDoor
open Go.ChangeShapes Go.WideShapes Go.ChangeAt Go.RowKit Go.Deep
set_option linter.unusedVariables false
set_option maxRecDepth 100000
namespace Ms
open Nv Cm Sc Rk
def failS (x : Int) (st : Pst) : Pst := if (st.2 == 0) = true then (st.1, x) else st
def kindQ (zs : List Int) : MSt := ({ nilM0 with kind := (octS (zs, 0)).1 }, if ((octS (zs, 0)).2.2 == 0) = true ∧ ¬ (1 ≤ (octS (zs, 0)).1 ∧ (octS (zs, 0)).1 ≤ 6) then ((octS (zs, 0)).2.1, 11) else (octS (zs, 0)).2)
def srcQ (s : MSt) : MSt := ({ s.1 with src := (octS s.2).1 }, (octS s.2).2)
def dstQ (s : MSt) : MSt := ({ s.1 with dst := (octS s.2).1 }, (octS s.2).2)
def headQ (zs : List Int) : MSt := dstQ (srcQ (kindQ zs))
def numQ (f : Nat) (s : MSt) : MSt := (setN s.1 f (wideS s.2).1, (wideS s.2).2)
def flagQ (s : MSt) : MSt := ({ s.1 with flag := (octS s.2).1 == 1 }, if 1 < (octS s.2).1 then failS 11 (octS s.2).2 else (octS s.2).2)
def entQ (s : MSt) : MSt := ({ s.1 with ents := s.1.ents ++ [⟨(wideS s.2).1, (cmdS (wideS s.2).2).1⟩] }, (cmdS (wideS s.2).2).2)
def entsQ : Nat → MSt → MSt
  | 0, s => s
  | n + 1, s => if ((entsQ n s).2.2 == 0) = true then entQ (entsQ n s) else entsQ n s
def shoQ (s : MSt) : MSt := if (s.2.2 == 0) = true then ({ s.1 with shot := (shotR s.2).1 }, (shotR s.2).2) else s
def fldQ (f : Nat) (s : MSt) : MSt := if f = 4 then flagQ s else if f = 5 then entsQ (pnum 4 s.2).1.toNat (s.1, (pnum 4 s.2).2) else if f = 6 then shoQ s else numQ f s
def fldsQ : List Int → MSt → MSt
  | [], s => s
  | f :: l, s => fldsQ l (fldQ f.toNat s)
theorem fldsQ_snoc (l : List Int) (f : Int) (s : MSt) : fldsQ (l ++ [f]) s = fldQ f.toNat (fldsQ l s) := by
  induction l generalizing s with
  | nil => rfl
  | cons g l ih => exact ih _
def readQ (zs : List Int) : MSt := fldsQ (fieldsM (headQ zs).1.kind) (headQ zs)
def endQ (s : MSt) : Int := if s.2.2 = 0 ∧ 0 < s.2.1.length then 11 else s.2.2
open Classical in
noncomputable def decQ (zs : List Int) : Mes × Int := if endQ (readQ zs) ≠ 0 then (nilM0, endQ (readQ zs)) else if msgOk (readQ zs).1 then ((readQ zs).1, 0) else (nilM0, 80)
def Bad (m : Mes) : Prop := ∃ x ∈ m.ents, chkC x.cmd = false
theorem bad_no {m : Mes} (h : Bad m) : ¬ msgOk m := by
  rintro ⟨hk, -, -, -, hz, h6, -, -, h3, -⟩
  obtain ⟨x, hx, hc⟩ := h
  have hk2 : 1 ≤ m.kind ∧ m.kind ≤ 6 := hk
  have hn : ∀ k : Int, m.kind = k → (5 : Int) ∉ fieldsM k → False := fun k e g => by
    have q : m.ents.length = 0 := hz 5 (by decide) (by rw [e]; exact g)
    rw [List.length_eq_zero_iff.1 q] at hx
    exact List.not_mem_nil hx
  rcases (show m.kind = 1 ∨ m.kind = 2 ∨ m.kind = 3 ∨ m.kind = 4 ∨ m.kind = 5 ∨ m.kind = 6 by omega) with k | k | k | k | k | k
  · exact hn _ k (by decide)
  · exact hn _ k (by decide)
  · rw [feed_chk (h3 k).2 x hx] at hc; exact absurd hc (by decide)
  · exact hn _ k (by decide)
  · exact hn _ k (by decide)
  · obtain ⟨y, hy, -, -, g, -⟩ := h6 k
    rw [hy, List.mem_singleton] at hx
    subst hx
    rw [g] at hc; exact absurd hc (by decide)
/-- the document's state and the program's -/
def Rl (s p : MSt) : Prop := s.2.2 = p.2.2 ∧ (s.2.2 = 0 → s.2.1 = p.2.1 ∧ WfB s.2.1 ∧ s.2.1.length ≤ 8192 ∧ s.1.kind = p.1.kind ∧ (s.1 = p.1 ∨ (Bad s.1 ∧ Bad p.1)))
theorem Rl.err {s p : MSt} {e : Int} (h1 : s.2.2 = e) (h2 : p.2.2 = e) (he : e ≠ 0) : Rl s p := ⟨h1.trans h2.symm, fun q => absurd (h1.symm.trans q) he⟩
theorem bne0 {e : Int} (h : e ≠ 0) : (e == 0) = false := beq_eq_false_iff_ne.2 h
theorem setN_kind (m : Mes) (f : Nat) (x : Int) : (setN m f x).kind = m.kind := by unfold setN; split <;> rfl
theorem setN_ents (m : Mes) (f : Nat) (x : Int) : (setN m f x).ents = m.ents := by unfold setN; split <;> rfl
theorem wfd {zs : List Int} (h : WfB zs) (k : Nat) : WfB (zs.drop k) := fun n hn => h n (List.mem_of_mem_drop hn)
theorem lnd {zs : List Int} (h : zs.length ≤ 8192) (k : Nat) : (zs.drop k).length ≤ 8192 := by rw [List.length_drop]; omega
theorem wide_err (l : List Int) {e : Int} (he : e ≠ 0) : wideS (l, e) = (0, (l, e)) := pnum_stuck (bne0 he)
theorem rel_num {f : Nat} {s p : MSt} (h : Rl s p) : Rl (numQ f s) (numP f p) := by
  obtain ⟨m, l, e⟩ := s
  obtain ⟨m', l', e'⟩ := p
  obtain ⟨h1, h2⟩ := h
  dsimp only at h1 h2
  subst h1
  by_cases he : e = 0
  · subst he
    obtain ⟨rfl, hw, hl, hk, hm⟩ := h2 rfl
    unfold numQ numP
    dsimp only
    rw [if_pos rfl]
    rcases hr : Oc.rdL l with ⟨n, k, er⟩
    by_cases hee : er = 0
    · subst hee
      obtain ⟨-, hkk, hn, -⟩ := Oc.rd_back hw hr
      rw [show wideS (l, 0) = ((n : Int), (l.drop k, 0)) from pnum_ok hr (by omega)]
      refine ⟨rfl, fun _ => ⟨rfl, wfd hw k, lnd hl k, by rw [setN_kind, setN_kind]; exact hk, ?_⟩⟩
      rcases hm with rfl | ⟨b1, b2⟩
      · exact .inl rfl
      · exact .inr ⟨by unfold Bad; rw [setN_ents]; exact b1, by unfold Bad; rw [setN_ents]; exact b2⟩
    · rw [show wideS (l, 0) = (0, (l, er)) from pnum_err hr (bne0 hee)]
      exact Rl.err rfl rfl hee
  · unfold numQ numP
    dsimp only
    rw [if_neg he, wide_err l he]
    exact Rl.err rfl rfl he
theorem rel_flag {s p : MSt} (h : Rl s p) : Rl (flagQ s) (flagP p) := by
  obtain ⟨m, l, e⟩ := s
  obtain ⟨m', l', e'⟩ := p
  obtain ⟨h1, h2⟩ := h
  dsimp only at h1 h2
  subst h1
  by_cases he : e = 0
  · subst he
    obtain ⟨rfl, hw, hl, hk, hm⟩ := h2 rfl
    unfold flagQ flagP
    dsimp only
    rw [if_pos rfl]
    match l, hw, hl with
    | [], _, _ => exact Rl.err (e := 10) rfl rfl (by decide)
    | x :: r, hw, hl =>
      rw [show octS (x :: r, 0) = (x, (r, 0)) from rfl]
      dsimp only
      by_cases hx : 1 < x
      · rw [if_pos hx, if_pos hx]; exact Rl.err (e := 11) rfl rfl (by decide)
      · rw [if_neg hx, if_neg hx]
        refine ⟨rfl, fun _ => ⟨rfl, fun n hn => hw n (List.mem_cons_of_mem _ hn), by simp only [List.length_cons] at hl; show r.length ≤ 8192; omega, hk, ?_⟩⟩
        rcases hm with rfl | ⟨b1, b2⟩
        · exact .inl rfl
        · exact .inr ⟨b1, b2⟩
  · unfold flagQ flagP
    dsimp only
    rw [if_neg he, octS_err (st := (l, e)) (bne0 he)]
    dsimp only
    rw [if_neg (show ¬ (1 : Int) < 0 by decide)]
    exact Rl.err rfl rfl he
theorem Bad.app {m : Mes} (h : Bad m) (x : Ent) : Bad { m with ents := m.ents ++ [x] } := by
  obtain ⟨y, hy, hc⟩ := h
  exact ⟨y, List.mem_append_left _ hy, hc⟩
theorem Bad.new (m : Mes) {x : Ent} (h : chkC x.cmd = false) : Bad { m with ents := m.ents ++ [x] } := ⟨x, List.mem_append_right _ (List.mem_singleton_self _), h⟩
theorem rel_ent {s p : MSt} (h : Rl s p) : Rl (if (s.2.2 == 0) = true then entQ s else s) (entP p) := by
  obtain ⟨m, l, e⟩ := s
  obtain ⟨m', l', e'⟩ := p
  obtain ⟨h1, h2⟩ := h
  dsimp only at h1 h2
  subst h1
  by_cases he : e = 0
  · subst he
    obtain ⟨rfl, hw, hl, hk, hm⟩ := h2 rfl
    dsimp only
    rw [if_pos (show ((0 : Int) == 0) = true from rfl)]
    unfold entQ entP
    dsimp only
    rw [if_pos rfl]
    rcases hr : Oc.rdL l with ⟨n, k, er⟩
    by_cases hee : er = 0
    · subst hee
      obtain ⟨-, hkk, hn, -⟩ := Oc.rd_back hw hr
      rw [show wideS (l, 0) = ((n : Int), (l.drop k, 0)) from pnum_ok hr (by omega)]
      dsimp only
      rcases hc : rdK (l.drop k) with ⟨c, ek, u⟩
      rw [cmdS_ok hc]
      dsimp only
      by_cases hek : ek = 0
      · subst hek
        cases hck : chkC c with
        | true =>
          rw [entD_ok hr (decK_ok hc hck)]
          refine ⟨rfl, fun _ => ⟨?_, wfd (wfd hw k) u, lnd (lnd hl k) u, hk, ?_⟩⟩
          · show (l.drop k).drop u = l.drop (k + u); rw [List.drop_drop]
          · rcases hm with rfl | ⟨b1, b2⟩
            · exact .inl rfl
            · exact .inr ⟨b1.app _, b2.app _⟩
        | false =>
          rw [entD_40 hr (decK_no hc hck), lenC_eq (wfd hw k) hc hck]
          refine ⟨rfl, fun _ => ⟨?_, wfd (wfd hw k) u, lnd (lnd hl k) u, hk, .inr ⟨Bad.new _ hck, Bad.new _ (show chkC zeroC = false by decide)⟩⟩⟩
          show (l.drop k).drop u = l.drop (k + u); rw [List.drop_drop]
      · have hv : V3 ek := by have := rdK_v (l.drop k); rw [hc] at this; exact this
        have h40 : ¬ ek = 40 := by intro q; subst q; rcases hv with q | q | q <;> exact absurd q (by decide)
        rw [entD_no hr (decK_err hc (bne0 hek)) (beq_eq_false_iff_ne.2 h40) (bne0 hek)]
        exact Rl.err rfl rfl hek
    · rw [show wideS (l, 0) = (0, (l, er)) from pnum_err hr (bne0 hee)]
      dsimp only
      rw [cmdS_err (st := (l, er)) (bne0 hee), entD_err hr (bne0 hee)]
      exact Rl.err rfl rfl hee
  · dsimp only
    rw [if_neg (by rw [bne0 he]; decide)]
    unfold entP
    dsimp only
    rw [if_neg he]
    exact Rl.err rfl rfl he
theorem rel_ents (n : Nat) {s p : MSt} (h : Rl s p) : Rl (entsQ n s) (entsP n p) := by
  induction n with
  | zero => exact h
  | succ n ih => rw [entsQ, entsP]; exact rel_ent ih
theorem entsQ_err (n : Nat) {s : MSt} {e : Int} (h : s.2.2 = e) (he : e ≠ 0) : entsQ n s = s := by
  induction n with
  | zero => rfl
  | succ n ih => rw [entsQ, ih, if_neg (by rw [h, bne0 he]; decide)]
theorem entsP_err (n : Nat) {s : MSt} {e : Int} (h : s.2.2 = e) (he : e ≠ 0) : entsP n s = s := by
  induction n with
  | zero => rfl
  | succ n ih => rw [entsP, ih]; unfold entP; rw [if_neg (by rw [h]; exact he)]
theorem rd_zero {zs : List Int} {n k : Nat} {e : Int} (h : Oc.rdL zs = (n, k, e)) (he : e ≠ 0) : n = 0 := by
  unfold Oc.rdL at h
  split at h
  · simp only [Prod.mk.injEq] at h; omega
  · repeat' split at h
    all_goals simp only [Prod.mk.injEq] at h; omega
theorem rel_many {s p : MSt} (h : Rl s p) : Rl (entsQ (pnum 4 s.2).1.toNat (s.1, (pnum 4 s.2).2)) (entsP (manyP p.2).1 (p.1, (manyP p.2).2)) := by
  obtain ⟨m, l, e⟩ := s
  obtain ⟨m', l', e'⟩ := p
  obtain ⟨h1, h2⟩ := h
  dsimp only at h1 h2
  subst h1
  by_cases he : e = 0
  · subst he
    obtain ⟨rfl, hw, hl, hk, hm⟩ := h2 rfl
    unfold manyP
    dsimp only
    rw [if_pos rfl]
    rcases hr : Oc.rdL l with ⟨n, k, er⟩
    by_cases hee : er = 0
    · subst hee
      obtain ⟨-, hkk, hn, -⟩ := Oc.rd_back hw hr
      by_cases h4 : 4 < n
      · rw [if_pos h4, show pnum 4 (l, 0) = (0, (l, 11)) by unfold pnum; simp only [hr]; simp; omega]
        exact Rl.err (e := 11) rfl rfl (by decide)
      · rw [if_neg h4, show pnum 4 (l, 0) = ((n : Int), (l.drop k, 0)) from pnum_ok hr (by omega)]
        dsimp only
        rw [Int.toNat_natCast]
        exact rel_ents n ⟨rfl, fun _ => ⟨rfl, wfd hw k, lnd hl k, hk, hm⟩⟩
    · rw [show pnum 4 (l, 0) = (0, (l, er)) from pnum_err hr (bne0 hee)]
      have h4 : ¬ 4 < n := by have := rd_zero hr hee; omega
      rw [if_neg h4]
      dsimp only
      rw [entsQ_err _ (s := (m, (l, er))) rfl hee, entsP_err _ (s := (m', (l.drop k, er))) rfl hee]
      exact Rl.err rfl rfl hee
  · unfold manyP
    dsimp only
    rw [if_neg he, show pnum 4 (l, e) = (0, (l, e)) from pnum_stuck (bne0 he), entsQ_err _ (s := (m, (l, e))) rfl he, entsP_err _ (s := (m', (l', e))) rfl he]
    exact Rl.err rfl rfl he
theorem rel_fld {f : Nat} {s p : MSt} (h : Rl s p) (hf : f ≠ 6) : Rl (fldQ f s) (fldP f p) := by
  unfold fldQ fldP
  by_cases h4 : f = 4
  · rw [if_pos h4, if_pos h4]; exact rel_flag h
  · rw [if_neg h4, if_neg h4]
    by_cases h5 : f = 5
    · rw [if_pos h5, if_pos h5]; exact rel_many h
    · rw [if_neg h5, if_neg h5, if_neg hf, if_neg hf]; exact rel_num h
theorem rel_flds (l : List Int) (hl : ∀ f ∈ l, f.toNat ≠ 6) {s p : MSt} (h : Rl s p) : Rl (fldsQ l s) (fldsP l p) := by
  induction l generalizing s p with
  | nil => exact h
  | cons f l ih => exact ih (fun g hg => hl g (List.mem_cons_of_mem _ hg)) (rel_fld h (hl f List.mem_cons_self))
theorem fldQ_err (f : Nat) {s : MSt} {e : Int} (h : s.2.2 = e) (he : e ≠ 0) : (fldQ f s).2.2 = e := by
  obtain ⟨m, l, e'⟩ := s
  obtain rfl : e' = e := h
  unfold fldQ
  split
  · unfold flagQ
    rw [octS_err (st := (l, e')) (bne0 he)]
    dsimp only
    rw [if_neg (show ¬ (1 : Int) < 0 by decide)]
  · split
    · rw [show pnum 4 (l, e') = (0, (l, e')) from pnum_stuck (bne0 he), entsQ_err _ (s := (m, (l, e'))) rfl he]
    · split
      · unfold shoQ; rw [if_neg (by dsimp only; rw [bne0 he]; decide)]
      · unfold numQ; dsimp only; rw [wide_err l he]
theorem fldsQ_err (l : List Int) {s : MSt} {e : Int} (h : s.2.2 = e) (he : e ≠ 0) : (fldsQ l s).2.2 = e := by
  induction l generalizing s with
  | nil => exact h
  | cons f l ih => exact ih (fldQ_err f.toNat h he)
theorem fldP_err (f : Nat) {s : MSt} {e : Int} (h : s.2.2 = e) (he : e ≠ 0) : (fldP f s).2.2 = e := by
  have hn : ¬ s.2.2 = 0 := by rw [h]; exact he
  unfold fldP
  split
  · unfold flagP; rw [if_neg hn]; exact h
  · split
    · have hm : manyP s.2 = (0, s.2) := by unfold manyP; rw [if_neg hn]
      rw [hm, entsP_err _ (s := (s.1, s.2)) h he]
      exact h
    · split
      · unfold shotP; rw [if_neg hn]; exact h
      · unfold numP; rw [if_neg hn]; exact h
theorem fldsP_err (l : List Int) {s : MSt} {e : Int} (h : s.2.2 = e) (he : e ≠ 0) : (fldsP l s).2.2 = e := by
  induction l generalizing s with
  | nil => exact h
  | cons f l ih => exact ih (fldP_err f.toNat h he)
theorem rel_head {zs : List Int} (hw : WfB zs) (hl : zs.length ≤ 8192) : Rl (headQ zs) (headP zs) := by
  match zs, hw, hl with
  | [], _, _ => exact Rl.err (e := 10) rfl rfl (by decide)
  | x :: r, hw, hl =>
    by_cases hx : 1 ≤ x ∧ x ≤ 6
    · have q1 : kindQ (x :: r) = ({ nilM0 with kind := x }, (r, 0)) := by
        unfold kindQ
        rw [show octS (x :: r, 0) = (x, (r, 0)) from rfl]
        dsimp only
        rw [if_neg (fun q => q.2 hx)]
      have q2 : kindP (nilM0, (x :: r, 0)) = ({ nilM0 with kind := x }, (r, 0)) := by
        unfold kindP
        dsimp only
        rw [if_pos rfl, if_pos hx]
      unfold headQ headP
      rw [q1, q2]
      match r, hw, hl with
      | [], _, _ => exact Rl.err (e := 10) rfl rfl (by decide)
      | y :: r2, hw, hl => match r2, hw, hl with
        | [], _, _ => exact Rl.err (e := 10) rfl rfl (by decide)
        | z :: r3, hw, hl => exact ⟨rfl, fun _ => ⟨rfl, fun n hn => hw n (List.mem_cons_of_mem _ (List.mem_cons_of_mem _ (List.mem_cons_of_mem _ hn))), by simp only [List.length_cons] at hl; show r3.length ≤ 8192; omega, rfl, .inl rfl⟩⟩
    · have q1 : kindQ (x :: r) = ({ nilM0 with kind := x }, (r, 11)) := by
        unfold kindQ
        rw [show octS (x :: r, 0) = (x, (r, 0)) from rfl]
        dsimp only
        rw [if_pos ⟨rfl, hx⟩]
      have q2 : kindP (nilM0, (x :: r, 0)) = ({ nilM0 with kind := x }, (x :: r, 11)) := by
        unfold kindP
        dsimp only
        rw [if_pos rfl, if_neg hx]
      unfold headQ headP
      rw [q1, q2]
      exact Rl.err (e := 11) rfl rfl (by decide)
theorem headQ_kind {zs : List Int} (h : (headQ zs).2.2 = 0) (hw : WfB zs) (hl : zs.length ≤ 8192) : 1 ≤ (headQ zs).1.kind ∧ (headQ zs).1.kind ≤ 6 := by
  obtain ⟨h1, h2⟩ := rel_head hw hl
  have := headP_kind zs (h1.symm.trans h)
  rw [(h2 h).2.2.2.1]
  exact this
theorem dec_err' {zs : List Int} {e : Int} (h1 : endQ (readQ zs) = e) (h2 : (readP zs).2.2 = e) (he : e ≠ 0) : decQ zs = decM zs := by
  unfold decQ decM
  rw [if_pos (by rw [h1]; exact he), if_pos (by rw [h2]; exact he), h1, h2]
theorem endP_err {s : MSt} {e : Int} (h : s.2.2 = e) (he : e ≠ 0) : (endP s).2.2 = e := by unfold endP; rw [if_neg (by rw [h]; exact he)]; exact h
theorem endQ_err {s : MSt} {e : Int} (h : s.2.2 = e) (he : e ≠ 0) : endQ s = e := by unfold endQ; rw [if_neg (fun q => he (h.symm.trans q.1))]; exact h
open Classical in
theorem decQ_of {zs : List Int} {m : Mes} (h : endQ (readQ zs) = 0) (h1 : (readQ zs).1 = m) : decQ zs = if msgOk m then (m, 0) else (nilM0, 80) := by
  subst h1
  unfold decQ
  rw [if_neg (fun q => q h)]
open Classical in
theorem decM_of {zs l : List Int} {m : Mes} (h : readP zs = (m, (l, 0))) : decM zs = if msgOk m then (m, 0) else (nilM0, 80) := by
  unfold decM
  rw [h, if_neg (fun q => q rfl)]
theorem fin_of {zs : List Int} (h : Rl (readQ zs) (fldsP (fieldsM (headP zs).1.kind) (headP zs))) : decQ zs = decM zs := by
  rcases hs : readQ zs with ⟨m, l, e⟩
  rcases hp : fldsP (fieldsM (headP zs).1.kind) (headP zs) with ⟨m', l', e'⟩
  rw [hs, hp] at h
  obtain ⟨h1, h2⟩ := h
  dsimp only at h1 h2
  subst h1
  have hrp : readP zs = endP (m', (l', e)) := by unfold readP; rw [hp]
  by_cases he : e = 0
  · subst he
    obtain ⟨rfl, -, -, -, hm⟩ := h2 rfl
    match l with
    | x :: r =>
      refine dec_err' (e := 11) ?_ ?_ (by decide)
      · rw [hs]; rfl
      · rw [hrp]; rfl
    | [] =>
      have g1 : endQ (readQ zs) = 0 := by rw [hs]; rfl
      have g2 : readP zs = (m', ([], 0)) := by rw [hrp]; rfl
      rw [decQ_of g1 (by rw [hs]), decM_of g2]
      rcases hm with rfl | ⟨b1, b2⟩
      · rfl
      · rw [if_neg (bad_no b1), if_neg (bad_no b2)]
  · refine dec_err' (e := e) ?_ ?_ he
    · rw [hs]; exact endQ_err rfl he
    · rw [hrp]; exact endP_err rfl he
theorem no6 {k : Int} (h1 : 1 ≤ k ∧ k ≤ 6) (h : k ≠ 5) : ∀ f ∈ fieldsM k, f.toNat ≠ 6 := by
  rcases (show k = 1 ∨ k = 2 ∨ k = 3 ∨ k = 4 ∨ k = 6 by omega) with rfl | rfl | rfl | rfl | rfl <;> decide
theorem setN_shot (m : Mes) (f : Nat) (x : Int) : (setN m f x).shot = m.shot := by unfold setN; split <;> rfl
theorem ship_no {m : Mes} (hk : m.kind = 5) (h : ¬ Sh.shotOk m.shot) : ¬ msgOk m := fun ok => h (ok.2.2.2.2.2.2.2.2.2 hk).1
theorem zS_no : ¬ Sh.shotOk zS := fun ok => absurd (show Nd.chk zS.nodes = true from ok.1) (by decide)
theorem Bad.shot {m : Mes} (h : Bad m) (q : Sho) : Bad { m with shot := q } := h
theorem errS_v (l : List Int) : errS l ≠ 60 := by
  unfold errS
  split
  · decide
  · have := shotS_v l
    rcases this with q | q | q <;> rw [q] <;> decide
theorem sho_tie {zs : List Int} {s p : MSt} (h : Rl s p) (hk : s.2.2 = 0 → s.1.kind = 5) (h1 : readQ zs = shoQ s) (h2 : readP zs = endP (shotP p)) : decQ zs = decM zs := by
  obtain ⟨m, l, e⟩ := s
  obtain ⟨m', l', e'⟩ := p
  obtain ⟨h3, h4⟩ := h
  dsimp only at h3 h4 hk
  subst h3
  by_cases he : e = 0
  · subst he
    obtain ⟨rfl, hw, hl, hk2, hm⟩ := h4 rfl
    have k5 := hk rfl
    have k5' : m'.kind = 5 := hk2.symm.trans k5
    have hq : readQ zs = ({ m with shot := (shotR (l, 0)).1 }, (shotR (l, 0)).2) := by rw [h1]; rfl
    have he2 : endQ (readQ zs) = errS l := by
      rw [hq, (shotR_eq (l, 0)).1]
      unfold endQ errS
      dsimp only
      by_cases g : (shotS (l, 0)).2.2 = 0 ∧ 0 < (shotS (l, 0)).2.1.length
      · rw [if_pos g, if_pos ⟨by rw [g.1]; rfl, g.2⟩]
      · rw [if_neg g, if_neg (fun q => g ⟨by simpa using q.1, q.2⟩)]
    have hl2 : ¬ 8192 < l.length := by omega
    by_cases hz : errS l = 0
    · have hsz := err_zero.1 hz
      have hR1 : (shotR (l, 0)).1 = (shotS (l, 0)).1 := (shotR_eq (l, 0)).2 (by rw [hsz]; rfl)
      rw [hR1, (shotR_eq (l, 0)).1, hsz] at hq
      by_cases ok : Sh.shotOk (shotS (l, 0)).1
      · have hp : readP zs = ({ m' with shot := (shotS (l, 0)).1 }, ([], 0)) := by
          rw [h2]
          unfold shotP
          dsimp only
          rw [if_pos rfl, dec_ok hl2 hz ok, if_neg (fun q => q.1 rfl)]
          rfl
        rw [decQ_of (he2.trans hz) (by rw [hq]), decM_of hp]
        rcases hm with rfl | ⟨b1, b2⟩
        · rfl
        · rw [if_neg (bad_no (b1.shot _)), if_neg (bad_no (b2.shot _))]
      · have hp : readP zs = ({ m' with shot := zS }, ([], 0)) := by
          rw [h2]
          unfold shotP
          dsimp only
          rw [if_pos rfl, dec_no hl2 hz ok, if_neg (fun q => q.2 rfl)]
          rfl
        rw [decQ_of (he2.trans hz) (by rw [hq]), decM_of hp]
        rw [if_neg (ship_no (m := { m with shot := (shotS (l, 0)).1 }) k5 ok), if_neg (ship_no (m := { m' with shot := zS }) k5' zS_no)]
    · refine dec_err' (e := errS l) he2 ?_ hz
      rw [h2]
      refine endP_err ?_ hz
      unfold shotP
      dsimp only
      rw [if_pos rfl, dec_err hl2 hz, if_pos ⟨hz, errS_v l⟩]
  · refine dec_err' (e := e) ?_ ?_ he
    · rw [h1]; unfold shoQ; dsimp only; rw [if_neg (by rw [bne0 he]; decide)]; exact endQ_err rfl he
    · rw [h2]; refine endP_err ?_ he; unfold shotP; dsimp only; rw [if_neg he]
/-- the document's reading answers as the program's -/
theorem decQ_eq {zs : List Int} (hw : WfB zs) (hl : zs.length ≤ 8192) : decQ zs = decM zs := by
  have H := rel_head hw hl
  by_cases he : (headQ zs).2.2 = 0
  · have hk := headQ_kind he hw hl
    have hkk := (H.2 he).2.2.2.1
    by_cases h5 : (headQ zs).1.kind = 5
    · refine sho_tie (s := numQ 0 (headQ zs)) (p := numP 0 (headP zs)) (rel_num H) (fun _ => ?_) ?_ ?_
      · unfold numQ; rw [setN_kind]; exact h5
      · unfold readQ; rw [h5]; rfl
      · unfold readP; rw [← hkk, h5]; rfl
    · refine fin_of ?_
      unfold readQ
      rw [← hkk]
      exact rel_flds _ (no6 hk h5) H
  · refine dec_err' (e := (headQ zs).2.2) ?_ ?_ he
    · exact endQ_err (fldsQ_err _ rfl he) he
    · exact endP_err (fldsP_err _ H.1.symm he) he
end Ms
end Go.Proofs.YtlfaiemebfkajaaGreatDoor
