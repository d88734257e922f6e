/- The document's own reader: Fail, Num, Small. No condition. -/
import Derived.Test.YtlfaiemebfkajaaGreatDoorNum
namespace Go.Proofs.YtlfaiemebfkajaaGreatDoor
open Go.ChangeShapes Go.WideShapes Go.ChangeAt Go.RowKit
set_option linter.unusedVariables false
set_option maxRecDepth 100000
namespace Cm
open Nm

/-- the reader at g: the bytes' slice, how many are read, the first error -/
abbrev rA (v : Value) (u : Nat) (e : Int) : Array Value := #[v, .int .i64 u, .int .i64 e]
def RB (g : Nat) (v : Value) (u : Nat) (e : Int) (w : World) : Prop := w.heap[g]? = some (.cells (rA v u e) 47 (0, 0))
theorem RB.c0 {g : Nat} {v : Value} {u : Nat} {e : Int} {w : World} (h : RB g v u e w) : w.cell? ⟨g, 0, none⟩ = some v := by rw [cell_of_row w g 0 _ _ _ h]; rfl
theorem RB.c1 {g : Nat} {v : Value} {u : Nat} {e : Int} {w : World} (h : RB g v u e w) : w.cell? ⟨g, 1, none⟩ = some (.int .i64 u) := by rw [cell_of_row w g 1 _ _ _ h]; rfl
theorem RB.c2 {g : Nat} {v : Value} {u : Nat} {e : Int} {w : World} (h : RB g v u e w) : w.cell? ⟨g, 2, none⟩ = some (.int .i64 e) := by rw [cell_of_row w g 2 _ _ _ h]; rfl
theorem RB.f {g : Nat} {v : Value} {u : Nat} {e : Int} {w : World} (h : RB g v u e w) (i : Nat) : w.frozen? ⟨g, i, none⟩ = false := frozen_of_row w g i _ _ h
theorem RB.e {g : Nat} {v : Value} {u : Nat} {e x : Int} {w : World} (h : RB g v u e w) : RB g v u x (w.setCell ⟨g, 2, none⟩ (.int .i64 x)) := by
  unfold RB; rw [heap_setCell_same w g 2 _ _ _ h]; rfl
theorem RB.u {g : Nat} {v : Value} {u k : Nat} {e : Int} {w : World} (h : RB g v u e w) : RB g v k e (w.setCell ⟨g, 1, none⟩ (.int .i64 (k : Int))) := by
  unfold RB; rw [heap_setCell_same w g 1 _ _ _ h]; rfl
theorem RB.only {g : Nat} {v : Value} {u : Nat} {e : Int} {w w' : World} (h : RB g v u e w) {S : Nat → Prop} (ho : Only S w w') (hs : ¬ S g) : RB g v u e w' :=
  (ho.2.2.2.2 g (Array.getElem?_eq_some_iff.1 h).1 hs).trans h

def failE (e x : Int) : Int := if (e == 0) = true then x else e
def Fail (g : Nat) (v : Value) (u : Nat) (e x : Int) (w : World) (E : Ending) (w' : World) : Prop :=
  E = .returned (.tuple #[]) ∧ RB g v u (failE e x) w' ∧ Only (· = g) w w' ∧ w'.heap.size = w.heap.size

set_option maxHeartbeats 400000 in
theorem fail_any (g : Nat) (v : Value) (u : Nat) (e x : Int) (w : World) (h : RB g v u e w) :
    Calls Tryz.prog 15 #[.pointer (some ⟨g, 0, none⟩), .int .i64 x] w (Fail g v u e x w) := by
  have c2 := h.c2
  have f2 := h.f 2
  have H := Lib.hid h
  have HS := Lib.hid (h.e (x := x))
  clear h
  cases he : (e == 0) with
  | false =>
    have hE : failE e x = e := by unfold failE; rw [he]; rfl
    have HE := Lib.hid hE
    clear hE
    go_enter Tryz.func15, Tryz.ntmps15
    go_wp2
    refine bodyPost_end (results_none rfl _ _ _) rfl ?_
    exact ⟨rfl, by rw [HE.out]; exact H.out, Only.refl _ _, rfl⟩
  | true =>
    have hE : failE e x = x := by unfold failE; rw [he]; rfl
    have HE := Lib.hid hE
    have he0 : e = 0 := by simpa using he
    subst he0
    clear hE he
    go_enter Tryz.func15, Tryz.ntmps15
    go_wp2
    refine bodyPost_end (results_none rfl _ _ _) rfl ?_
    exact ⟨rfl, by rw [HE.out]; exact HS.out, Only.setCell _ _ _ rfl, by simp⟩

theorem rread_q {v : Value} {zs : List Int} {w : World} {n k : Nat} {e : Int} (hr : Oc.rdL zs = (n, k, e)) (hs : Sl .u8 w v zs) :
    Calls Tryz.prog 75 #[v] w fun E w' => E = .returned (.tuple #[.int .u64 n, .int .i64 k, .int .i64 e]) ∧ w = w' := by
  refine (Oc.rread_any v zs w hs).mono ?_
  rintro E w' ⟨h1, h2⟩
  unfold Oc.rdEnd at h1
  rw [hr] at h1
  exact ⟨h1, h2⟩

/-- a number read by the document's own reader: the number, the error, how many bytes are read then -/
def rn (zs : List Int) (u : Nat) (e : Int) : Int × Int × Nat := if (e == 0) = true then nx zs u 18446744073709551615 else (0, e, u)
def Num (g : Nat) (v : Value) (zs : List Int) (u : Nat) (e : Int) (w : World) (E : Ending) (w' : World) : Prop :=
  E = .returned (.int .u64 (rn zs u e).1) ∧ RB g v (rn zs u e).2.2 (rn zs u e).2.1 w' ∧ Only (· = g) w w' ∧ w'.heap.size = w.heap.size

set_option maxHeartbeats 1000000 in
theorem rnum_any' (g : Nat) (v : Value) (zs : List Int) (u : Nat) (e : Int) (w : World) (h : RB g v u e w) (hs : Sl .u8 w v zs) (hu : u ≤ zs.length) :
    Calls Tryz.prog 42 #[.pointer (some ⟨g, 0, none⟩)] w (Num g v zs u e w) := by
  have c2 := h.c2
  have c0 := h.c0
  have c1 := h.c1
  have H := Lib.hid h
  clear h
  cases he : (e == 0) with
  | false =>
    have hE : rn zs u e = (0, e, u) := by unfold rn; rw [he]; rfl
    have HE := Lib.hid hE
    have hne : (e != 0) = true := by rw [bne, he]; rfl
    clear hE he
    go_enter Tryz.func42, Tryz.ntmps42
    go_wp2
    go_ret
    exact ⟨by rw [HE.out]; rfl, by rw [HE.out]; exact H.out, Only.refl _ _, rfl⟩
  | true =>
    have he0 : e = 0 := by simpa using he
    subst he0
    have hE : rn zs u 0 = nx zs u 18446744073709551615 := rfl
    have HE := Lib.hid hE
    have HWF := Lib.hid hs.wf
    clear hE he
    obtain ⟨a, cap, rfl, hlc, hcm, -⟩ := id hs
    unfold maxLen at hcm
    rcases hr : Oc.rdL (zs.drop u) with ⟨n, k, er⟩
    have f1 : (u : Int) ≤ (zs.length : Int) := by omega
    have f2 : (zs.length : Int) ≤ (cap : Int) := by omega
    have hsub := from_k hs hu
    clear hs
    rcases Oc.rd_err hr with hee | hee
    · subst hee
      have hn64 := (Oc.rd_back (fun x hx => HWF.out x (List.mem_of_mem_drop hx)) hr).2.2.1
      have HN := Lib.hid (HE.out.trans (nx_ok hr (by omega)))
      have hk := rd_len hr
      rw [List.length_drop] at hk
      have HR := Lib.hid hr
      have huk : (u : Int) + (k : Int) ≤ 9223372036854775807 := by omega
      clear hr hn64 hk
      rcases hsub with ⟨rfl, rfl, rfl, rfl⟩ | ⟨b, off, sp, rfl, ⟨rfl, hzl, hsl⟩ | ⟨hcu, hsl⟩⟩
      · have hsl : Sl .u8 w (.slice none 0 0) ([].drop 0) := ⟨none, 0, rfl, Nat.le_refl _, Nat.zero_le _, by simp, .inl ⟨rfl, rfl, rfl⟩⟩
        have HS := Lib.hid hsl
        clear hsl
        go_enter Tryz.func42, Tryz.ntmps42
        go_wp2_with fail
        go_quiet (first | (go_at_call 75; exact quiet_mine (rread_q HR.out (HS.out.below (Nd.below_drewN _ _) (Nat.le_refl _)))))
        rename_i nq
        have hd1 : (w.drewN nq).cell? ⟨g, 1, none⟩ = some (.int .i64 ((0 : Nat) : Int)) := c1
        have hdf : (w.drewN nq).frozen? ⟨g, 1, none⟩ = false := H.out.f 1
        go_wp2
        go_ret
        have HH : RB g (.slice none 0 0) 0 0 (w.drewN nq) := H.out
        exact ⟨by rw [HN.out]; rfl, by rw [HN.out]; show RB g _ (0 + k) 0 _; rw [Nat.zero_add]; exact HH.u, Only.trans (Below.only (Nd.below_drewN w _) _) (Only.setCell _ _ _ rfl), by simp [World.drewN]⟩
      · have HS := Lib.hid hsl
        clear hsl
        go_enter Tryz.func42, Tryz.ntmps42
        go_wp2_with fail
        go_quiet (first | (go_at_call 75; exact quiet_mine (rread_q HR.out (HS.out.below (Nd.below_drewN _ _) (Nat.le_refl _)))))
        rename_i nq
        have hd1 : (w.drewN nq).cell? ⟨g, 1, none⟩ = some (.int .i64 cap) := c1
        have hdf : (w.drewN nq).frozen? ⟨g, 1, none⟩ = false := H.out.f 1
        go_wp2
        go_ret
        have HH : RB g (.slice (some ⟨b, off, sp⟩) zs.length cap) cap 0 (w.drewN nq) := H.out
        exact ⟨by rw [HN.out]; rfl, by rw [HN.out]; exact HH.u, Only.trans (Below.only (Nd.below_drewN w _) _) (Only.setCell _ _ _ rfl), by simp [World.drewN]⟩
      · have HS := Lib.hid hsl
        clear hsl
        go_enter Tryz.func42, Tryz.ntmps42
        go_wp2_with fail
        go_quiet (first | (go_at_call 75; exact quiet_mine (rread_q HR.out (HS.out.below (Nd.below_drewN _ _) (Nat.le_refl _)))))
        rename_i nq
        have hd1 : (w.drewN nq).cell? ⟨g, 1, none⟩ = some (.int .i64 u) := c1
        have hdf : (w.drewN nq).frozen? ⟨g, 1, none⟩ = false := H.out.f 1
        go_wp2
        go_ret
        have HH : RB g (.slice (some ⟨b, off, sp⟩) zs.length cap) u 0 (w.drewN nq) := H.out
        exact ⟨by rw [HN.out]; rfl, by rw [HN.out]; exact HH.u, Only.trans (Below.only (Nd.below_drewN w _) _) (Only.setCell _ _ _ rfl), by simp [World.drewN]⟩
    · have HN := Lib.hid (HE.out.trans (nx_err (m := 18446744073709551615) hr hee))
      have hne : (er != 0) = true := by rw [bne, hee]; rfl
      have HFE : Hid (failE 0 er = er) := Lib.hid rfl
      have HR := Lib.hid hr
      clear hr
      rcases hsub with ⟨rfl, rfl, rfl, rfl⟩ | ⟨b, off, sp, rfl, ⟨rfl, hzl, hsl⟩ | ⟨hcu, hsl⟩⟩
      · have hsl : Sl .u8 w (.slice none 0 0) ([].drop 0) := ⟨none, 0, rfl, Nat.le_refl _, Nat.zero_le _, by simp, .inl ⟨rfl, rfl, rfl⟩⟩
        have HS := Lib.hid hsl
        clear hsl
        go_enter Tryz.func42, Tryz.ntmps42
        go_wp2_with fail
        go_quiet (first | (go_at_call 75; exact quiet_mine (rread_q HR.out (HS.out.below (Nd.below_drewN _ _) (Nat.le_refl _)))))
        rename_i nq
        have HH : RB g (.slice none 0 0) 0 0 (w.drewN nq) := H.out
        go_wp2_with fail
        refine (fail_any g _ _ _ er _ HH).mono ?_
        rintro e w2 ⟨rfl, hr2, ho2, hz2⟩
        go_wp2
        go_ret
        exact ⟨by rw [HN.out]; rfl, by rw [HN.out]; exact hr2, Only.trans (Below.only (Nd.below_drewN w _) _) ho2, hz2⟩
      · have HS := Lib.hid hsl
        clear hsl
        go_enter Tryz.func42, Tryz.ntmps42
        go_wp2_with fail
        go_quiet (first | (go_at_call 75; exact quiet_mine (rread_q HR.out (HS.out.below (Nd.below_drewN _ _) (Nat.le_refl _)))))
        rename_i nq
        have HH : RB g (.slice (some ⟨b, off, sp⟩) zs.length cap) cap 0 (w.drewN nq) := H.out
        go_wp2_with fail
        refine (fail_any g _ _ _ er _ HH).mono ?_
        rintro e w2 ⟨rfl, hr2, ho2, hz2⟩
        go_wp2
        go_ret
        exact ⟨by rw [HN.out]; rfl, by rw [HN.out]; exact hr2, Only.trans (Below.only (Nd.below_drewN w _) _) ho2, hz2⟩
      · have HS := Lib.hid hsl
        clear hsl
        go_enter Tryz.func42, Tryz.ntmps42
        go_wp2_with fail
        go_quiet (first | (go_at_call 75; exact quiet_mine (rread_q HR.out (HS.out.below (Nd.below_drewN _ _) (Nat.le_refl _)))))
        rename_i nq
        have HH : RB g (.slice (some ⟨b, off, sp⟩) zs.length cap) u 0 (w.drewN nq) := H.out
        go_wp2_with fail
        refine (fail_any g _ _ _ er _ HH).mono ?_
        rintro e w2 ⟨rfl, hr2, ho2, hz2⟩
        go_wp2
        go_ret
        exact ⟨by rw [HN.out]; rfl, by rw [HN.out]; exact hr2, Only.trans (Below.only (Nd.below_drewN w _) _) ho2, hz2⟩

/-- a number of at most m -/
def sm (zs : List Int) (u : Nat) (e m : Int) : Int × Int × Nat :=
  if ((rn zs u e).2.1 == 0) = true then if m < (rn zs u e).1 then (0, 11, (rn zs u e).2.2) else ((rn zs u e).1, 0, (rn zs u e).2.2) else (0, (rn zs u e).2.1, (rn zs u e).2.2)
theorem rn_bd {zs : List Int} {u : Nat} (hu : u ≤ zs.length) (e : Int) : (rn zs u e).2.2 ≤ zs.length ∧ 0 ≤ (rn zs u e).1 ∧ (rn zs u e).1 ≤ 18446744073709551615 := by
  unfold rn
  split
  · exact nx_bd hu (by omega)
  · exact ⟨hu, Int.le_refl _, by omega⟩
theorem rn_zero {zs : List Int} {u : Nat} {e : Int} (h : ((rn zs u e).2.1 == 0) = false) : (rn zs u e).1 = 0 := by
  unfold rn at *
  split
  · rename_i he; rw [if_pos he] at h; exact nx_zero h
  · rfl
theorem sm_bd {zs : List Int} {u : Nat} (hu : u ≤ zs.length) (e : Int) {m : Int} (hm : 0 ≤ m) : (sm zs u e m).2.2 ≤ zs.length ∧ 0 ≤ (sm zs u e m).1 ∧ (sm zs u e m).1 ≤ m := by
  have hb := rn_bd hu e
  unfold sm
  split
  · split
    · exact ⟨hb.1, Int.le_refl _, hm⟩
    · exact ⟨hb.1, hb.2.1, by omega⟩
  · exact ⟨hb.1, Int.le_refl _, hm⟩
def Small (g : Nat) (v : Value) (zs : List Int) (u : Nat) (e m : Int) (w : World) (E : Ending) (w' : World) : Prop :=
  E = .returned (.int .i64 (sm zs u e m).1) ∧ RB g v (sm zs u e m).2.2 (sm zs u e m).2.1 w' ∧ Only (· = g) w w' ∧ w'.heap.size = w.heap.size

set_option maxHeartbeats 400000 in
theorem small_any (g : Nat) (v : Value) (zs : List Int) (u : Nat) (e m : Int) (w : World) (h : RB g v u e w) (hs : Sl .u8 w v zs) (hu : u ≤ zs.length) (m0 : 0 ≤ m) (m1 : m ≤ 65535) :
    Calls Tryz.prog 43 #[.pointer (some ⟨g, 0, none⟩), .int .i64 m] w (Small g v zs u e m w) := by
  have HR := Lib.hid (rnum_any' g v zs u e w h hs hu)
  obtain ⟨b1, b2, b3⟩ := rn_bd hu e
  have hz := fun h => rn_zero (zs := zs) (u := u) (e := e) h
  have hsm : sm zs u e m = if ((rn zs u e).2.1 == 0) = true then if m < (rn zs u e).1 then (0, 11, (rn zs u e).2.2) else ((rn zs u e).1, 0, (rn zs u e).2.2) else (0, (rn zs u e).2.1, (rn zs u e).2.2) := rfl
  have HSM := Lib.hid hsm
  have hN : Num g v zs u e w = fun E w' => E = .returned (.int .u64 (rn zs u e).1) ∧ RB g v (rn zs u e).2.2 (rn zs u e).2.1 w' ∧ Only (· = g) w w' ∧ w'.heap.size = w.heap.size := rfl
  rw [hN] at HR
  clear hsm hN h hs
  generalize rn zs u e = x at *
  obtain ⟨n, er, u1⟩ := x
  cases he : (er == 0) with
  | false =>
    have hn0 : n = 0 := hz he
    subst hn0
    have HF : Hid (sm zs u e m = (0, er, u1)) := Lib.hid (by rw [HSM.out]; simp only [he, Bool.false_eq_true, if_false])
    clear hz he HSM
    go_enter Tryz.func43, Tryz.ntmps43
    go_wp2_with fail
    refine HR.out.mono ?_
    rintro E w2 ⟨rfl, hr2, ho2, hz2⟩
    go_wp2
    go_ret
    exact ⟨by rw [HF.out]; rfl, by rw [HF.out]; exact hr2, ho2, hz2⟩
  | true =>
    have he0 : er = 0 := by simpa using he
    subst he0
    by_cases hm : m < n
    · have HF : Hid (sm zs u e m = (0, 11, u1)) := Lib.hid (by rw [HSM.out]; simp only [beq_self_eq_true, if_true, if_pos hm])
      have HFE : Hid (failE 0 11 = 11) := Lib.hid rfl
      clear hz he HSM
      go_enter Tryz.func43, Tryz.ntmps43
      go_wp2_with fail
      refine HR.out.mono ?_
      rintro E w2 ⟨rfl, hr2, ho2, hz2⟩
      go_wp2_with fail
      refine (fail_any g _ _ _ 11 _ hr2).mono ?_
      rintro E w3 ⟨rfl, hr3, ho3, hz3⟩
      rw [HFE.out] at hr3
      go_wp2
      go_ret
      exact ⟨by rw [HF.out]; rfl, by rw [HF.out]; exact hr3, ho2.trans ho3, hz3.trans hz2⟩
    · have HF : Hid (sm zs u e m = (n, 0, u1)) := Lib.hid (by rw [HSM.out]; simp only [beq_self_eq_true, if_true, if_neg hm])
      have hle : n ≤ m := by omega
      clear hz he HSM hm
      go_enter Tryz.func43, Tryz.ntmps43
      go_wp2_with fail
      refine HR.out.mono ?_
      rintro E w2 ⟨rfl, hr2, ho2, hz2⟩
      go_wp2
      go_ret
      exact ⟨by rw [HF.out]; rfl, by rw [HF.out]; exact hr2, ho2, hz2⟩
end Cm
end Go.Proofs.YtlfaiemebfkajaaGreatDoor
