/- A number read out of cmd's reader. No condition. A field that was read, put into the command. No condition. A field of the list read: put with the list's field. No condition. The list of a command read. No condition. cmd.reader.readList. No condition. cmd.reader.read: one field read. No condition. What cmd.Decode hands back. No condition. What cmd.Decode hands back where there is a kind. No condition. -/
import Derived.Test.YtlfaiemebfkajaaGreatDoorCeB
import Derived.Test.YtlfaiemebfkajaaGreatDoorOctR
import Derived.BigRegion
namespace Go.Proofs.YtlfaiemebfkajaaGreatDoor
open Go.ChangeShapes Go.WideShapes Go.ChangeAt Go.RowKit
set_option linter.unusedVariables false
set_option maxRecDepth 100000

namespace Cm
def Next (g : Nat) (v : Value) (zs : List Int) (u : Nat) (m : Int) (w : World) (e : Ending) (w' : World) : Prop :=
  e = .returned (.tuple #[.int .u64 (nx zs u m).1, .int .i64 (nx zs u m).2.1]) ∧ w'.heap[g]? = some (.cells #[v, .int .i64 (nx zs u m).2.2] 136 (0, 0)) ∧ Only (· = g) w w' ∧ w'.heap.size = w.heap.size

theorem next_store {w : World} {g u : Nat} {v : Value} {k : Int} (h : w.heap[g]? = some (.cells #[v, .int .i64 u] 136 (0, 0))) : (w.setCell ⟨g, 1, none⟩ (.int .i64 k)).heap[g]? = some (.cells #[v, .int .i64 k] 136 (0, 0)) := by
  rw [heap_setCell_same w g 1 _ _ _ h]; rfl

set_option maxHeartbeats 1000000 in
theorem next_any (g : Nat) (v : Value) (zs : List Int) (u : Nat) (m : Int) (w : World) (hh : w.heap[g]? = some (.cells #[v, .int .i64 u] 136 (0, 0))) (hs : Sl .u8 w v zs) (hu : u ≤ zs.length) :
    Calls Tryz.prog 99 #[.pointer (some ⟨g, 0, none⟩), .int .u64 m] w (Next g v zs u m w) := by
  obtain ⟨a, cap, rfl, hlc, hcm, hwf, h4⟩ := id hs
  have hc0 : w.cell? ⟨g, 0, none⟩ = some (.slice a zs.length cap) := by unfold World.cell?; rw [hh]; rfl
  have hc1 : w.cell? ⟨g, 1, none⟩ = some (.int .i64 u) := by unfold World.cell?; rw [hh]; rfl
  unfold maxLen at hcm
  have HH := Lib.hid hh
  clear hwf hh
  rcases hr : Oc.rdL (zs.drop u) with ⟨n, k, e⟩
  have f1 : (u : Int) ≤ (zs.length : Int) := by omega
  have f2 : (zs.length : Int) ≤ (cap : Int) := by omega
  rcases h4 with ⟨rfl, rfl, rfl⟩ | ⟨b, off, sp, rfl, -⟩
  · have hu0 : u = 0 := by simpa using hu
    subst hu0
    have HS := Lib.hid hs
    clear hs
    rcases Oc.rd_err hr with he | he
    · subst he
      by_cases hm : m < (n : Int)
      · have HN := Lib.hid (nx_form hr hm)
        have HR := Lib.hid hr
        clear hr
        go_enter Tryz.func99, Tryz.ntmps99
        go_wp2_with fail
        go_quiet (first | (go_at_call 61; exact quiet_mine (read_q HR.out (HS.out.below (Nd.below_drewN _ _) (Nat.le_refl _)))))
        go_wp2
        go_ret2
        exact ⟨by rw [HN.out]; rfl, by rw [HN.out]; exact HH.out, Below.only (Nd.below_drewN w _) _, rfl⟩
      · have hn : (n : Int) ≤ m := by omega
        have HN := Lib.hid (nx_ok hr hn)
        have hk := rd_len hr
        rw [List.length_drop] at hk
        have HR := Lib.hid hr
        have huk : (((0 : Nat) : Int) : Int) + (k : Int) ≤ 9223372036854775807 := by omega
        clear hr hm
        go_enter Tryz.func99, Tryz.ntmps99
        go_wp2_with fail
        go_quiet (first | (go_at_call 61; exact quiet_mine (read_q HR.out (HS.out.below (Nd.below_drewN _ _) (Nat.le_refl _)))))
        rename_i nq
        have hd1 : (w.drewN nq).cell? ⟨g, 1, none⟩ = some (.int .i64 ((0 : Nat) : Int)) := hc1
        have hdf : (w.drewN nq).frozen? ⟨g, 1, none⟩ = false := frozen_of_row (w.drewN nq) g 1 _ _ HH.out
        go_wp2
        go_ret2
        exact ⟨by rw [HN.out]; rfl, by rw [HN.out]; show _ = some (Obj.cells #[_, Value.int .i64 ((0 + k : Nat) : Int)] _ _); rw [Nat.zero_add]; exact next_store HH.out, Only.trans (Below.only (Nd.below_drewN w _) _) (Only.setCell _ _ _ rfl), by simp [World.drewN]⟩
    · have HN := Lib.hid (nx_err (m := m) hr he)
      have HR := Lib.hid hr
      clear hr
      go_enter Tryz.func99, Tryz.ntmps99
      go_wp2_with fail
      go_quiet (first | (go_at_call 61; exact quiet_mine (read_q HR.out (HS.out.below (Nd.below_drewN _ _) (Nat.le_refl _)))))
      go_wp2
      go_ret2
      exact ⟨by rw [HN.out]; rfl, by rw [HN.out]; exact HH.out, Below.only (Nd.below_drewN w _) _, rfl⟩
  · by_cases hcu : cap = u
    · have hd : zs.drop u = [] := List.drop_eq_nil_of_le (by omega)
      have HS : Hid (Sl .u8 w (.slice (some ⟨b, off, sp⟩) 0 0) (zs.drop u)) := Lib.hid (by rw [hd]; exact Sl.empty _ (Nat.zero_le _))
      have hzl : zs.length = u := by omega
      clear hs hd
      subst hcu
      rcases Oc.rd_err hr with he | he
      · subst he
        by_cases hm : m < (n : Int)
        · have HN := Lib.hid (nx_form hr hm)
          have HR := Lib.hid hr
          clear hr
          go_enter Tryz.func99, Tryz.ntmps99
          go_wp2_with fail
          go_quiet (first | (go_at_call 61; exact quiet_mine (read_q HR.out (HS.out.below (Nd.below_drewN _ _) (Nat.le_refl _)))))
          go_wp2
          go_ret2
          exact ⟨by rw [HN.out]; rfl, by rw [HN.out]; exact HH.out, Below.only (Nd.below_drewN w _) _, rfl⟩
        · have hn : (n : Int) ≤ m := by omega
          have HN := Lib.hid (nx_ok hr hn)
          have hk := rd_len hr
          rw [List.length_drop] at hk
          have HR := Lib.hid hr
          have huk : (cap : Int) + (k : Int) ≤ 9223372036854775807 := by omega
          clear hr hm
          go_enter Tryz.func99, Tryz.ntmps99
          go_wp2_with fail
          go_quiet (first | (go_at_call 61; exact quiet_mine (read_q HR.out (HS.out.below (Nd.below_drewN _ _) (Nat.le_refl _)))))
          rename_i nq
          have hd1 : (w.drewN nq).cell? ⟨g, 1, none⟩ = some (.int .i64 cap) := hc1
          have hdf : (w.drewN nq).frozen? ⟨g, 1, none⟩ = false := frozen_of_row (w.drewN nq) g 1 _ _ HH.out
          go_wp2
          go_ret2
          exact ⟨by rw [HN.out]; rfl, by rw [HN.out]; exact next_store HH.out, Only.trans (Below.only (Nd.below_drewN w _) _) (Only.setCell _ _ _ rfl), by simp [World.drewN]⟩
      · have HN := Lib.hid (nx_err (m := m) hr he)
        have HR := Lib.hid hr
        clear hr
        go_enter Tryz.func99, Tryz.ntmps99
        go_wp2_with fail
        go_quiet (first | (go_at_call 61; exact quiet_mine (read_q HR.out (HS.out.below (Nd.below_drewN _ _) (Nat.le_refl _)))))
        go_wp2
        go_ret2
        exact ⟨by rw [HN.out]; rfl, by rw [HN.out]; exact HH.out, Below.only (Nd.below_drewN w _) _, rfl⟩
    · have hsub := hs.sub u (zs.length - u) (by omega)
      rw [List.take_of_length_le (by rw [List.length_drop]; omega)] at hsub
      have HS := Lib.hid hsub
      clear hsub hs
      rcases Oc.rd_err hr with he | he
      · subst he
        by_cases hm : m < (n : Int)
        · have HN := Lib.hid (nx_form hr hm)
          have HR := Lib.hid hr
          clear hr
          go_enter Tryz.func99, Tryz.ntmps99
          go_wp2_with fail
          go_quiet (first | (go_at_call 61; exact quiet_mine (read_q HR.out (HS.out.below (Nd.below_drewN _ _) (Nat.le_refl _)))))
          go_wp2
          go_ret2
          exact ⟨by rw [HN.out]; rfl, by rw [HN.out]; exact HH.out, Below.only (Nd.below_drewN w _) _, rfl⟩
        · have hn : (n : Int) ≤ m := by omega
          have HN := Lib.hid (nx_ok hr hn)
          have hk := rd_len hr
          rw [List.length_drop] at hk
          have HR := Lib.hid hr
          have huk : (u : Int) + (k : Int) ≤ 9223372036854775807 := by omega
          clear hr hm
          go_enter Tryz.func99, Tryz.ntmps99
          go_wp2_with fail
          go_quiet (first | (go_at_call 61; exact quiet_mine (read_q HR.out (HS.out.below (Nd.below_drewN _ _) (Nat.le_refl _)))))
          rename_i nq
          have hd1 : (w.drewN nq).cell? ⟨g, 1, none⟩ = some (.int .i64 u) := hc1
          have hdf : (w.drewN nq).frozen? ⟨g, 1, none⟩ = false := frozen_of_row (w.drewN nq) g 1 _ _ HH.out
          go_wp2
          go_ret2
          exact ⟨by rw [HN.out]; rfl, by rw [HN.out]; exact next_store HH.out, Only.trans (Below.only (Nd.below_drewN w _) _) (Only.setCell _ _ _ rfl), by simp [World.drewN]⟩
      · have HN := Lib.hid (nx_err (m := m) hr he)
        have HR := Lib.hid hr
        clear hr
        go_enter Tryz.func99, Tryz.ntmps99
        go_wp2_with fail
        go_quiet (first | (go_at_call 61; exact quiet_mine (read_q HR.out (HS.out.below (Nd.below_drewN _ _) (Nat.le_refl _)))))
        go_wp2
        go_ret2
        exact ⟨by rw [HN.out]; rfl, by rw [HN.out]; exact HH.out, Below.only (Nd.below_drewN w _) _, rfl⟩
end Cm
end Go.Proofs.YtlfaiemebfkajaaGreatDoor
namespace Go.Proofs.YtlfaiemebfkajaaGreatDoor
open Go.ChangeShapes Go.WideShapes Go.ChangeAt Go.RowKit
set_option linter.unusedVariables false
set_option maxRecDepth 100000
namespace Cm
def putC (c : Cmd) (f : Nat) (n : Int) : Cmd :=
  match f with
  | 0 => { c with node := n }
  | 1 => { c with boot := n }
  | 2 => { c with seq := n }
  | 3 => { c with token := n }
  | 4 => { c with serial := n }
  | 5 => { c with stamp := n }
  | _ => { c with nodes := c.nodes ++ [n] }
def Put (h : Nat) (c : Cmd) (vn : Value) (f : Nat) (n : Int) (w : World) (e : Ending) (w' : World) : Prop :=
  e = .returned (.tuple #[]) ∧ w'.heap[h]? = some (.cells (cArr (putC c f n) vn) 86 (0, 0)) ∧ Only (· = h) w w' ∧ w'.heap.size = w.heap.size

set_option maxHeartbeats 1000000 in
theorem put_any (h : Nat) (c : Cmd) (vn : Value) (f : Nat) (hf : f ≤ 5) (n : Int) (w : World) (hh : w.heap[h]? = some (.cells (cArr c vn) 86 (0, 0))) (h0 : 0 ≤ n) (h1 : n ≤ 18446744073709551615) (h2 : f = 0 ∨ f = 3 → n ≤ 65535) :
    Calls Tryz.prog 116 #[.pointer (some ⟨h, 0, none⟩), .int .i64 f, .int .u64 n] w (Put h c vn f n w) := by
  rcases (show f = 0 ∨ f = 1 ∨ f = 2 ∨ f = 3 ∨ f = 4 ∨ f = 5 by omega) with rfl | rfl | rfl | rfl | rfl | rfl
  · obtain ⟨c1, c2, c3, c4, c5, c6, c7⟩ := fld_cells hh
    have hfr := frozen_of_row w h 1 _ _ hh
    have hst : (w.setCell ⟨h, 1, none⟩ (.int .i64 n)).heap[h]? = some (.cells (cArr (putC c 0 n) vn) 86 (0, 0)) := by rw [heap_setCell_same w h 1 _ _ _ hh]; rfl
    have HST := Lib.hid hst
    clear hst hh
    go_enter Tryz.func116, Tryz.ntmps116
    go_wp2
    refine bodyPost_end (results_none rfl _ _ _) rfl ?_
    exact ⟨rfl, HST.out, Only.setCell _ _ _ rfl, by simp⟩
  · obtain ⟨c1, c2, c3, c4, c5, c6, c7⟩ := fld_cells hh
    have hfr := frozen_of_row w h 4 _ _ hh
    have hst : (w.setCell ⟨h, 4, none⟩ (.int .u64 n)).heap[h]? = some (.cells (cArr (putC c 1 n) vn) 86 (0, 0)) := by rw [heap_setCell_same w h 4 _ _ _ hh]; rfl
    have HST := Lib.hid hst
    clear hst hh
    go_enter Tryz.func116, Tryz.ntmps116
    go_wp2
    refine bodyPost_end (results_none rfl _ _ _) rfl ?_
    exact ⟨rfl, HST.out, Only.setCell _ _ _ rfl, by simp⟩
  · obtain ⟨c1, c2, c3, c4, c5, c6, c7⟩ := fld_cells hh
    have hfr := frozen_of_row w h 5 _ _ hh
    have hst : (w.setCell ⟨h, 5, none⟩ (.int .u64 n)).heap[h]? = some (.cells (cArr (putC c 2 n) vn) 86 (0, 0)) := by rw [heap_setCell_same w h 5 _ _ _ hh]; rfl
    have HST := Lib.hid hst
    clear hst hh
    go_enter Tryz.func116, Tryz.ntmps116
    go_wp2
    refine bodyPost_end (results_none rfl _ _ _) rfl ?_
    exact ⟨rfl, HST.out, Only.setCell _ _ _ rfl, by simp⟩
  · obtain ⟨c1, c2, c3, c4, c5, c6, c7⟩ := fld_cells hh
    have hfr := frozen_of_row w h 2 _ _ hh
    have hst : (w.setCell ⟨h, 2, none⟩ (.int .i64 n)).heap[h]? = some (.cells (cArr (putC c 3 n) vn) 86 (0, 0)) := by rw [heap_setCell_same w h 2 _ _ _ hh]; rfl
    have HST := Lib.hid hst
    clear hst hh
    go_enter Tryz.func116, Tryz.ntmps116
    go_wp2
    refine bodyPost_end (results_none rfl _ _ _) rfl ?_
    exact ⟨rfl, HST.out, Only.setCell _ _ _ rfl, by simp⟩
  · obtain ⟨c1, c2, c3, c4, c5, c6, c7⟩ := fld_cells hh
    have hfr := frozen_of_row w h 6 _ _ hh
    have hst : (w.setCell ⟨h, 6, none⟩ (.int .u64 n)).heap[h]? = some (.cells (cArr (putC c 4 n) vn) 86 (0, 0)) := by rw [heap_setCell_same w h 6 _ _ _ hh]; rfl
    have HST := Lib.hid hst
    clear hst hh
    go_enter Tryz.func116, Tryz.ntmps116
    go_wp2
    refine bodyPost_end (results_none rfl _ _ _) rfl ?_
    exact ⟨rfl, HST.out, Only.setCell _ _ _ rfl, by simp⟩
  · obtain ⟨c1, c2, c3, c4, c5, c6, c7⟩ := fld_cells hh
    have hfr := frozen_of_row w h 7 _ _ hh
    have hst : (w.setCell ⟨h, 7, none⟩ (.int .u64 n)).heap[h]? = some (.cells (cArr (putC c 5 n) vn) 86 (0, 0)) := by rw [heap_setCell_same w h 7 _ _ _ hh]; rfl
    have HST := Lib.hid hst
    clear hst hh
    go_enter Tryz.func116, Tryz.ntmps116
    go_wp2
    refine bodyPost_end (results_none rfl _ _ _) rfl ?_
    exact ⟨rfl, HST.out, Only.setCell _ _ _ rfl, by simp⟩
end Cm
end Go.Proofs.YtlfaiemebfkajaaGreatDoor
namespace Go.Proofs.YtlfaiemebfkajaaGreatDoor
open Go.ChangeShapes Go.WideShapes Go.ChangeAt Go.RowKit
set_option linter.unusedVariables false
set_option maxRecDepth 100000
namespace Cm
/-- the command at h has the nodes zs, lying in memory from B on -/
def PutN (B h : Nat) (c : Cmd) (zs : List Int) (w : World) (e : Ending) (w' : World) : Prop :=
  e = .returned (.tuple #[]) ∧ ∃ vn, w'.heap[h]? = some (.cells (cArr c vn) 86 (0, 0)) ∧ OwnI w' B vn zs ∧ Past B (· = h) w w'

set_option maxHeartbeats 1000000 in
theorem putn_any (B h : Nat) (c : Cmd) (vn : Value) (zs : List Int) (n : Int) (w : World) (hh : w.heap[h]? = some (.cells (cArr c vn) 86 (0, 0))) (hown : OwnI w B vn zs) (hB : h < B) (hBw : B ≤ w.heap.size) (h0 : 0 ≤ n) (h1 : n ≤ 65535) (hl : zs.length ≤ 1000) :
    Calls Tryz.prog 116 #[.pointer (some ⟨h, 0, none⟩), .int .i64 6, .int .u64 n] w (PutN B h c (zs ++ [n]) w) := by
  obtain ⟨c1, c2, c3, c4, c5, c6, c7⟩ := fld_cells hh
  have hfr := frozen_of_row w h 3 _ _ hh
  have hnw := Lib.hid (show (Lit.int .i64 n).wf = true from WalkArith.wf_i64 (by omega))
  go_enter Tryz.func116, Tryz.ntmps116
  go_wp2_with (at_builtin; (refine appI rfl _ _ rfl B _ _ rfl (hown.alloc _) _ [n] rfl (Sl.new (fr := (0, 0)) w #[Value.int .i64 n] [n] rfl rfl (Nat.le_refl _) (by decide) (by intro y hy; simp at hy; subst hy; exact hnw.out)) (by simp; omega) (by simp; omega) ?_; intro u1 w1 hown1 hb1; obtain ⟨a1, n1, q1, hv1⟩ := own_form hown1; subst hv1; have hh1 := (hb1.block h hB).trans ((Below.heap_alloc w _ h (by omega)).trans hh); obtain ⟨d1, d2, d3, d4, d5, d6, d7⟩ := fld_cells hh1; have hf1 := frozen_of_row w1 h 3 _ _ hh1))
  refine bodyPost_end (results_none rfl _ _ _) rfl ?_
  exact ⟨rfl, _, copy_store hh1 _, own_set hown1 hB, ((Past.below ((Below.refl _ _).alloc hBw _) _).trans (Past.below hb1 _)).trans (Past.setCell _ _ _ rfl)⟩
end Cm
end Go.Proofs.YtlfaiemebfkajaaGreatDoor
namespace Go.Proofs.YtlfaiemebfkajaaGreatDoor
open Go.ChangeShapes Go.WideShapes Go.ChangeAt Go.RowKit
set_option linter.unusedVariables false
set_option maxRecDepth 100000
namespace Cm
/-- k numbers read from u on: the numbers, the error, how many bytes are read then -/
def st (zs : List Int) (u : Nat) : Nat → List Int × Int × Nat
  | 0 => ([], 0, u)
  | k + 1 => if ((st zs u k).2.1 == 0) = true then ((st zs u k).1 ++ [(nx zs (st zs u k).2.2 65535).1], (nx zs (st zs u k).2.2 65535).2.1, (nx zs (st zs u k).2.2 65535).2.2) else st zs u k
theorem st_stop {zs : List Int} {u k : Nat} (h : ((st zs u k).2.1 == 0) = false) : ∀ j, st zs u (k + j) = st zs u k
  | 0 => rfl
  | j + 1 => by
    have ih := st_stop h j
    show (if ((st zs u (k + j)).2.1 == 0) = true then _ else st zs u (k + j)) = _
    rw [ih, h, if_neg (by decide)]
theorem st_bd {zs : List Int} {u : Nat} (hu : u ≤ zs.length) : ∀ k, (st zs u k).2.2 ≤ zs.length ∧ (st zs u k).1.length ≤ k ∧ ∀ n ∈ (st zs u k).1, 0 ≤ n ∧ n ≤ 65535
  | 0 => ⟨hu, Nat.le_refl _, by simp [st]⟩
  | k + 1 => by
    have ih := st_bd hu k
    have hb := nx_bd (m := 65535) ih.1 (by omega)
    unfold st
    split
    · refine ⟨hb.1, by simp only [List.length_append, List.length_singleton]; omega, fun n hn => ?_⟩
      rcases List.mem_append.1 hn with hn | hn
      · exact ih.2.2 n hn
      · rw [List.mem_singleton.1 hn]; exact hb.2
    · exact ⟨ih.1, by omega, ih.2.2⟩
end Cm
end Go.Proofs.YtlfaiemebfkajaaGreatDoor
namespace Go.Proofs.YtlfaiemebfkajaaGreatDoor
open Go.ChangeShapes Go.WideShapes Go.ChangeAt Go.RowKit
set_option linter.unusedVariables false
set_option maxRecDepth 100000
namespace Cm
/-- what readList comes to: the numbers, the error, how many bytes are read -/
def li (zs : List Int) (u : Nat) : List Int × Int × Nat :=
  if ((nx zs u 7).2.1 == 0) = true then st zs (nx zs u 7).2.2 (nx zs u 7).1.toNat else ([], (nx zs u 7).2.1, (nx zs u 7).2.2)
def ReadL (B g h : Nat) (v : Value) (c : Cmd) (zs : List Int) (u : Nat) (w : World) (e : Ending) (w' : World) : Prop :=
  e = .returned (.int .i64 (li zs u).2.1) ∧ w'.heap[g]? = some (.cells #[v, .int .i64 (li zs u).2.2] 136 (0, 0)) ∧ (∃ vn, w'.heap[h]? = some (.cells (cArr c vn) 86 (0, 0)) ∧ OwnI w' B vn (li zs u).1) ∧ Past B (fun k => k = g ∨ k = h) w w'

set_option maxHeartbeats 1000000 in
theorem readList_any (g h : Nat) (v : Value) (c : Cmd) (zs : List Int) (u : Nat) (w : World) (hg : w.heap[g]? = some (.cells #[v, .int .i64 u] 136 (0, 0))) (hh : w.heap[h]? = some (.cells (cArr c (.slice none 0 0)) 86 (0, 0)))
    (hgh : g ≠ h) (hS : ∀ w', Past w.heap.size (fun k => k = g ∨ k = h) w w' → Sl .u8 w' v zs) (hu : u ≤ zs.length) :
    Calls Tryz.prog 115 #[.pointer (some ⟨g, 0, none⟩), .pointer (some ⟨h, 0, none⟩)] w (ReadL w.heap.size g h v c zs u w) := by
  have hs0 := hS w ⟨rfl, rfl, rfl, Nat.le_refl _, fun _ _ _ => rfl⟩
  have hb7 := nx_bd (m := 7) hu (by omega)
  have hgl : g < w.heap.size := (Array.getElem?_eq_some_iff.1 hg).1
  have hhl : h < w.heap.size := (Array.getElem?_eq_some_iff.1 hh).1
  have HS := Lib.hid hS
  clear hS
  cases he : ((nx zs u 7).2.1 == 0) with
  | false =>
    have hn0 : (nx zs u 7).1 = 0 := nx_zero he
    have hli : li zs u = ([], (nx zs u 7).2.1, (nx zs u 7).2.2) := by unfold li; rw [he]; rfl
    have HN0 := Lib.hid hn0
    have HLI := Lib.hid hli
    clear hli hn0
    go_enter Tryz.func115, Tryz.ntmps115
    go_wp2_with (go_at_call 99; refine (next_any g v zs u 7 _ hg hs0 hu).mono ?_; rintro e w1 ⟨rfl, hg1, ho1, hz1⟩; rw [HN0.out])
    refine wp_loop_rounds 1 ?_
    rw [rounds_succ]
    go_wp2
    go_ret
    refine ⟨by rw [HLI.out]; rfl, by rw [HLI.out]; exact hg1, ⟨.slice none 0 0, (ho1.2.2.2.2 h hhl (by omega)).trans hh, by rw [HLI.out]; exact OwnK.nil _ _ _ _⟩, Past.of_only (ho1.mono fun k hk => .inl hk)⟩
  | true =>
    go_enter Tryz.func115, Tryz.ntmps115
    go_wp2_with (go_at_call 99; refine (next_any g v zs u 7 _ hg hs0 hu).mono ?_; rintro e w1 ⟨rfl, hg1, ho1, hz1⟩)
    have hli : li zs u = st zs (nx zs u 7).2.2 (nx zs u 7).1.toNat := by unfold li; rw [he]; rfl
    have HLI := Lib.hid hli
    obtain ⟨b1, b2, b3⟩ := hb7
    have he0 : (nx zs u 7).2.1 = 0 := by simpa using he
    clear hli he
    have hp1 : Past w.heap.size (fun k => k = g ∨ k = h) w w1 := Past.of_only (ho1.mono fun k hk => .inl hk)
    have hh1 := (ho1.2.2.2.2 h hhl (by omega)).trans hh
    generalize hu1 : (nx zs u 7).2.2 = u1 at *
    generalize hm1 : (nx zs u 7).1 = m1 at *
    clear ho1 hs0 hg hu1 hm1 hz1
    rw [he0]
    go_loopw [6, 7] (fun e i wr => ∃ k : Nat, (k : Int) ≤ m1 ∧ i = .int .u64 k ∧ e = .int .i64 (st zs u1 k).2.1 ∧ wr.heap[g]? = some (.cells #[v, .int .i64 (st zs u1 k).2.2] 136 (0, 0)) ∧ (∃ vn, wr.heap[h]? = some (.cells (cArr c vn) 86 (0, 0)) ∧ OwnI wr w.heap.size vn (st zs u1 k).1) ∧ Past w.heap.size (fun k => k = g ∨ k = h) w wr) (fun _ i _ => (m1 - intOf i).toNat)
    case atStart => exact ⟨0, by omega, rfl, rfl, hg1, ⟨_, hh1, OwnK.nil _ _ _ _⟩, hp1⟩
    case round =>
      obtain ⟨k, hk, rfl, rfl, hgr, ⟨vn, hhr, hown⟩, hp⟩ := hrel
      clear hg1 hh1 hp1
      cases hst : ((st zs u1 k).2.1 == 0) with
      | false =>
        obtain ⟨j, hj⟩ : ∃ j, m1.toNat = k + j := ⟨m1.toNat - k, by omega⟩
        have HF := Lib.hid (HLI.out.trans ((congrArg (st zs u1) hj).trans (st_stop hst j)))
        clear hj
        by_cases hlt : (k : Int) < m1
        · go_wp2
          go_ret
          exact ⟨by rw [HF.out]; rfl, by rw [HF.out]; exact hgr, ⟨vn, hhr, by rw [HF.out]; exact hown⟩, hp⟩
        · go_wp2
          go_ret
          exact ⟨by rw [HF.out]; rfl, by rw [HF.out]; exact hgr, ⟨vn, hhr, by rw [HF.out]; exact hown⟩, hp⟩
      | true =>
        have hse : (st zs u1 k).2.1 = 0 := by simpa using hst
        by_cases hlt : (k : Int) < m1
        · have hsk : st zs u1 (k + 1) = ((st zs u1 k).1 ++ [(nx zs (st zs u1 k).2.2 65535).1], (nx zs (st zs u1 k).2.2 65535).2.1, (nx zs (st zs u1 k).2.2 65535).2.2) := by
            show (if ((st zs u1 k).2.1 == 0) = true then _ else _) = _
            rw [if_pos hst]
          have hbd := st_bd b1 k
          have hnb := nx_bd (m := 65535) hbd.1 (by omega)
          have hu2 := hbd.1
          have hl2 := hbd.2.1
          obtain ⟨c1, c2, c3⟩ := hnb
          have HSK := Lib.hid hsk
          clear hsk hbd
          rw [hse]
          generalize st zs u1 k = s at *
          obtain ⟨ys, es, us⟩ := s
          go_wp2_with (first
            | (go_at_call 99; refine (next_any g v zs us 65535 _ hgr (HS.out _ hp) hu2).mono ?_; rintro e w2 ⟨rfl, hg2, ho2, hz2⟩; have hh2 := (ho2.2.2.2.2 h (by have := hp.2.2.2.1; omega) (by omega)).trans hhr; have hown2 := own_only hown ho2 hgl)
            | (go_at_call 116; refine (putn_any w.heap.size h c vn ys (nx zs us 65535).1 _ hh2 hown2 hhl (by have := hp.2.2.2.1; omega) c2 c3 (by omega)).mono ?_; rintro e w3 ⟨rfl, ⟨vn3, hh3, hown3, hp3⟩⟩))
          go_roundw
          case rel => exact ⟨k + 1, by omega, by go_num, by rw [HSK.out], by rw [HSK.out]; exact (hp3.2.2.2.2 g hgl hgh).trans hg2, ⟨vn3, hh3, by rw [HSK.out]; exact hown3⟩, (hp.trans (Past.of_only2 ho2 hp.2.2.2.1 fun k hk => .inl hk)).trans (hp3.mono fun k hk => .inr hk)⟩
          case measure => simp [intOf]; omega
        · have hkm : m1.toNat = k := by omega
          rw [hkm] at HLI
          go_wp2
          go_ret
          exact ⟨by rw [HLI.out, hse]; rfl, by rw [HLI.out]; exact hgr, ⟨vn, hhr, by rw [HLI.out]; exact hown⟩, hp⟩
end Cm
end Go.Proofs.YtlfaiemebfkajaaGreatDoor
namespace Go.Proofs.YtlfaiemebfkajaaGreatDoor
open Go.ChangeShapes Go.WideShapes Go.ChangeAt Go.RowKit
set_option linter.unusedVariables false
set_option maxRecDepth 100000
namespace Cm
def mostF (f : Nat) : Int := if f = 0 ∨ f = 3 then 65535 else 18446744073709551615
def le16 (f : Nat) (n : Int) : Prop := f = 0 ∨ f = 3 → n ≤ 65535
/-- a number's field read: the error, how many bytes are read -/
def ReadF (g h : Nat) (v : Value) (c : Cmd) (f : Nat) (zs : List Int) (u : Nat) (w : World) (e : Ending) (w' : World) : Prop :=
  e = .returned (.int .i64 (nx zs u (mostF f)).2.1) ∧ w'.heap[g]? = some (.cells #[v, .int .i64 (nx zs u (mostF f)).2.2] 136 (0, 0)) ∧ w'.heap[h]? = some (.cells (cArr (putC c f (nx zs u (mostF f)).1) (.slice none 0 0)) 86 (0, 0)) ∧ Only (fun k => k = g ∨ k = h) w w'

set_option maxHeartbeats 1000000 in
theorem readf_any (g h : Nat) (v : Value) (c : Cmd) (f : Nat) (hf : f ≤ 5) (zs : List Int) (u : Nat) (w : World) (hg : w.heap[g]? = some (.cells #[v, .int .i64 u] 136 (0, 0))) (hh : w.heap[h]? = some (.cells (cArr c (.slice none 0 0)) 86 (0, 0)))
    (hgh : g ≠ h) (hs : Sl .u8 w v zs) (hu : u ≤ zs.length) :
    Calls Tryz.prog 102 #[.pointer (some ⟨g, 0, none⟩), .pointer (some ⟨h, 0, none⟩), .int .i64 f] w (ReadF g h v c f zs u w) := by
  have hb := nx_bd (m := mostF f) hu (by unfold mostF; split <;> omega)
  have hgl : g < w.heap.size := (Array.getElem?_eq_some_iff.1 hg).1
  have hhl : h < w.heap.size := (Array.getElem?_eq_some_iff.1 hh).1
  obtain ⟨b1, b2, b3⟩ := hb
  have hm18 : (nx zs u (mostF f)).1 ≤ 18446744073709551615 := by unfold mostF at b3 ⊢; split at b3 <;> rename_i h1 <;> first | (rw [if_pos h1]; omega) | (rw [if_neg h1]; omega)
  have hm16 : le16 f (nx zs u (mostF f)).1 := by intro h1; unfold mostF at b3 ⊢; rw [if_pos h1] at b3 ⊢; exact b3
  rcases (show f = 0 ∨ f = 1 ∨ f = 2 ∨ f = 3 ∨ f = 4 ∨ f = 5 by omega) with rfl | rfl | rfl | rfl | rfl | rfl
  all_goals
    go_enter Tryz.func102, Tryz.ntmps102
    go_wp2_with (first
      | (go_at_call 99; refine (next_any g v zs u _ _ hg hs hu).mono ?_; rintro e w2 ⟨rfl, hg2, ho2, hz2⟩; have hh2 := (ho2.2.2.2.2 h hhl (by omega)).trans hh)
      | (go_at_call 116; refine (put_any h c _ _ (by omega) _ _ hh2 b2 hm18 hm16).mono ?_; rintro e w3 ⟨rfl, hh3, ho3, hz3⟩))
    go_ret
    exact ⟨rfl, (ho3.2.2.2.2 g (by have := ho2.2.2.2.1; omega) hgh).trans hg2, hh3, (ho2.mono fun k hk => .inl hk).trans (ho3.mono fun k hk => .inr hk)⟩
end Cm
end Go.Proofs.YtlfaiemebfkajaaGreatDoor
namespace Go.Proofs.YtlfaiemebfkajaaGreatDoor
open Go.ChangeShapes Go.WideShapes Go.ChangeAt Go.RowKit
set_option linter.unusedVariables false
set_option maxRecDepth 100000
theorem results_cell3 {P : Program} {fn : Func} {p a b : Tmp} {ty : TypeId} (h : fn.results = #[.cell p ty, .tmp a, .tmp b]) (tmps : Array Value) (w : World) (g : Nat) (t : TypeId) (cs : Array Value) (fr : Nat × Nat) (d : TypeDesc)
    (hp : tmps.getD p undef = .pointer (some ⟨g, 0, none⟩)) (hg : w.heap[g]? = some (.cells cs t fr))
    (hu : P.underlying ty = some d) (hd : (match d with | .struct _ | .array _ _ => true | _ => false) = true) (hi : (P.info? ty).map (·.size) = some cs.size) {x y : Value} (hx : tmps.getD a undef = x) (hy : tmps.getD b undef = y) :
    (results fn tmps).run P w = .ok (.tuple #[.agg cs, x, y]) w := by
  subst hx hy
  have hp' : tmps[p]?.getD undef = .pointer (some ⟨g, 0, none⟩) := by simpa using hp
  simp [results, h, hp', asAddr, run_loadVar_row w g t ty cs fr d hg hu hd hi]
namespace Cm
theorem set_row {w : World} {g : Nat} {t : TypeId} {cs ds : Array Value} (h : w.heap[g]? = some (.cells cs t (0, 0))) : (w.setRow g ds).heap[g]? = some (.cells ds t (0, 0)) := setRow_heap _ _ _ _ _ _ h
theorem below_row {B : Nat} {a w : World} (h : Below B a w) {g : Nat} (hg : B ≤ g) (cs : Array Value) : Below B a (w.setRow g cs) :=
  h.trans ⟨rfl, rfl, rfl, by simp, fun k hk => setRow_other w g k cs (by omega)⟩

set_option maxHeartbeats 1000000 in
theorem readl_any (g h : Nat) (v : Value) (c : Cmd) (zs : List Int) (u : Nat) (w : World) (hg : w.heap[g]? = some (.cells #[v, .int .i64 u] 136 (0, 0))) (hh : w.heap[h]? = some (.cells (cArr c (.slice none 0 0)) 86 (0, 0)))
    (hgh : g ≠ h) (hS : ∀ w', Past w.heap.size (fun k => k = g ∨ k = h) w w' → Sl .u8 w' v zs) (hu : u ≤ zs.length) :
    Calls Tryz.prog 102 #[.pointer (some ⟨g, 0, none⟩), .pointer (some ⟨h, 0, none⟩), .int .i64 6] w (ReadL w.heap.size g h v c zs u w) := by
  have HR := Lib.hid (readList_any g h v c zs u w hg hh hgh hS hu)
  clear hg hh hgh hS hu
  go_enter Tryz.func102, Tryz.ntmps102
  go_wp2_with (go_at_call 115; refine HR.out.mono ?_; rintro e w2 ⟨rfl, h2, h3, h4⟩)
  go_ret
  exact ⟨rfl, h2, h3, h4⟩

def zeroC : Cmd := ⟨0, 0, 0, [], 0, 0, 0, 0⟩
def kindC (k : Int) : Cmd := ⟨k, 0, 0, [], 0, 0, 0, 0⟩
/-- one field read: the command, the error, how many bytes are read then -/
def rd1 (zs : List Int) (c : Cmd) (f : Nat) (u : Nat) : Cmd × Int × Nat :=
  if f = 6 then ({ c with nodes := (li zs u).1 }, (li zs u).2.1, (li zs u).2.2) else (putC c f (nx zs u (mostF f)).1, (nx zs u (mostF f)).2.1, (nx zs u (mostF f)).2.2)
/-- the fields read one behind the other -/
def rdF (zs : List Int) : List Int → Cmd → Nat → Cmd × Int × Nat
  | [], c, u => (c, 0, u)
  | f :: fs, c, u => if ((rd1 zs c f.toNat u).2.1 == 0) = true then rdF zs fs (rd1 zs c f.toNat u).1 (rd1 zs c f.toNat u).2.2 else rd1 zs c f.toNat u
/-- all fields of a kind -/
def rdC (zs : List Int) (k : Int) (u : Nat) : Cmd × Int × Nat := rdF zs (fieldsL k) (kindC k) u
/-- what Decode comes to: the command, how many bytes it takes, the error -/
def decL (zs : List Int) : Cmd × Nat × Int :=
  if ((nx zs 0 18446744073709551615).2.1 == 0) = true then
    if kindB (nx zs 0 18446744073709551615).1 = true then
      if ((rdC zs (nx zs 0 18446744073709551615).1 (nx zs 0 18446744073709551615).2.2).2.1 == 0) = true then
        if chkC (rdC zs (nx zs 0 18446744073709551615).1 (nx zs 0 18446744073709551615).2.2).1 = true then ((rdC zs (nx zs 0 18446744073709551615).1 (nx zs 0 18446744073709551615).2.2).1, (rdC zs (nx zs 0 18446744073709551615).1 (nx zs 0 18446744073709551615).2.2).2.2, 0) else (zeroC, 0, 40)
      else (zeroC, 0, (rdC zs (nx zs 0 18446744073709551615).1 (nx zs 0 18446744073709551615).2.2).2.1)
    else (zeroC, 0, 11)
  else (zeroC, 0, (nx zs 0 18446744073709551615).2.1)
def Dec (zs : List Int) (w : World) (e : Ending) (w' : World) : Prop :=
  ∃ vn, e = .returned (.tuple #[.agg (cArr (decL zs).1 vn), .int .i64 (decL zs).2.1, .int .i64 (decL zs).2.2]) ∧ OwnI w' w.heap.size vn (decL zs).1.nodes ∧ IsCmd w' (.agg (cArr (decL zs).1 vn)) (decL zs).1 ∧ Below w.heap.size w w'

theorem dec_err {zs : List Int} (h : ((nx zs 0 18446744073709551615).2.1 == 0) = false) : decL zs = (zeroC, 0, (nx zs 0 18446744073709551615).2.1) := by
  unfold decL; rw [h, if_neg (by decide)]
theorem dec_form {zs : List Int} (h : ((nx zs 0 18446744073709551615).2.1 == 0) = true) (h2 : kindB (nx zs 0 18446744073709551615).1 = false) : decL zs = (zeroC, 0, 11) := by
  unfold decL; rw [h, if_pos rfl, h2, if_neg (by decide)]
theorem zeroC_wf : zeroC.wf := ⟨by decide, by decide, by decide, by decide, by decide, by decide, by decide⟩
theorem zeroC_is (w : World) : IsCmd w (.agg (cArr zeroC (.slice none 0 0))) zeroC := ⟨_, rfl, ⟨none, 0, rfl, Nat.le_refl _, Nat.zero_le _, by simp [zeroC], .inl ⟨rfl, rfl, rfl⟩⟩, zeroC_wf⟩

theorem dec_zero {zs : List Int} {w w' : World} {er : Int} (h : decL zs = (zeroC, 0, er)) (hb : Below w.heap.size w w') : Dec zs w (.returned (.tuple #[.agg (cArr zeroC (.slice none 0 0)), .int .i64 0, .int .i64 er])) w' :=
  ⟨.slice none 0 0, by rw [h]; rfl, by rw [h]; exact OwnK.nil _ _ _ _, by rw [h]; exact zeroC_is _, hb⟩
theorem dec_some {zs : List Int} {w w' : World} {c : Cmd} {k B : Nat} {vn : Value} (h : decL zs = (c, k, 0)) (hV : OwnI w' B vn c.nodes) (hB : w.heap.size ≤ B) (hc : Sl .i64 w' vn c.nodes) (hw : c.wf) (hb : Below w.heap.size w w') : Dec zs w (.returned (.tuple #[.agg (cArr c vn), .int .i64 k, .int .i64 0])) w' :=
  ⟨vn, by rw [h], by rw [h]; exact ⟨hV.1, hV.2.imp id (fun ⟨g, cap, cur, h2, h3, h4⟩ => ⟨g, cap, cur, h2, Nat.le_trans hB h3, h4⟩)⟩, by rw [h]; exact ⟨_, rfl, hc, hw⟩, hb⟩
/-- the worlds in which Decode begins -/
structure Begun (w : World) (v : Value) (w0 : World) : Prop where
  reader : w0.heap[w.heap.size + 1]? = some (.cells #[v, .int .i64 ((0 : Nat) : Int)] 136 (0, 0))
  result : w0.heap[w.heap.size]? = some (.cells (cArr zeroC (.slice none 0 0)) 86 (0, 0))
  below : Below w.heap.size w w0
  size : w0.heap.size = w.heap.size + 2
theorem begun (w : World) (v : Value) : Begun w v ((w.alloc (.cells (cArr zeroC (.slice none 0 0)) 86)).alloc (.cells #[v, .int .i64 0] 136)) :=
  ⟨heap_alloc2_new _ _ _, heap_alloc2_old _ _ _, ((Below.refl _ _).alloc (Nat.le_refl _) _).alloc (by simp) _, by simp⟩

set_option maxHeartbeats 1000000 in
theorem decode_form (v : Value) (zs : List Int) (w : World) (hs : Sl .u8 w v zs) (he : ((nx zs 0 18446744073709551615).2.1 == 0) = true) (hk : kindB (nx zs 0 18446744073709551615).1 = false) :
    Calls Tryz.prog 86 #[v] w (Dec zs w) := by
  obtain ⟨a, cap, rfl, -⟩ := id hs
  have HG := Lib.hid (begun w (.slice a zs.length cap))
  have hs0 := hs.below HG.out.below (Nat.le_refl _)
  have HD := Lib.hid (dec_form he hk)
  have HE := Lib.hid he
  have HK := Lib.hid hk
  have hbd := nx_bd (u := 0) (zs := zs) (m := 18446744073709551615) (Nat.zero_le _) (by omega)
  obtain ⟨b1, b2, b3⟩ := hbd
  clear hs he hk
  go_enter Tryz.func86, Tryz.ntmps86
  go_wp2_with fail
  refine (next_any (w.heap.size + 1) _ zs 0 18446744073709551615 _ HG.out.reader hs0 (Nat.zero_le _)).mono ?_
  rintro e w1 ⟨rfl, hg1, ho1, hz1⟩
  have hne : ((nx zs 0 18446744073709551615).2.1 != 0) = false := by rw [bne, HE.out]; rfl
  have hr1 := (ho1.2.2.2.2 w.heap.size (by simp; omega) (by simp)).trans HG.out.result
  have hB1 : Below w.heap.size w w1 := ho1.below HG.out.below HG.out.below.size fun k hk => by omega
  generalize nx zs 0 18446744073709551615 = x at *
  obtain ⟨n, er, u⟩ := x
  go_wp2_with (first
    | (go_at_call 100; refine (isKind_any n _ b2 b3).mono ?_; rintro e w2 ⟨rfl, rfl⟩; rw [HK.out])
    | (refine wpList_store_row rfl 86 (.tmp 2) (.tmp 26) rfl w.heap.size (cArr zeroC (.slice none 0 0)) rfl rfl 86 _ hr1 (by kernel_rfl) rfl (cArr_one _ _ _ _) ?_))
  refine bodyPost_ret (v := .tuple #[.agg (cArr zeroC (.slice none 0 0)), .int .i64 0, .int .i64 11]) (results_cell3 rfl _ _ w.heap.size 86 _ (0, 0) _ rfl (set_row hr1) Tryz.underlying86 rfl (by kernel_rfl) rfl rfl) rfl ?_
  exact dec_zero HD.out (below_row hB1 (Nat.le_refl _) _)

set_option maxHeartbeats 1000000 in
theorem decode_err (v : Value) (zs : List Int) (w : World) (hs : Sl .u8 w v zs) (he : ((nx zs 0 18446744073709551615).2.1 == 0) = false) :
    Calls Tryz.prog 86 #[v] w (Dec zs w) := by
  obtain ⟨a, cap, rfl, -⟩ := id hs
  have hh0 : ((w.alloc (.cells (cArr zeroC (.slice none 0 0)) 86)).alloc (.cells #[.slice a zs.length cap, .int .i64 0] 136)).heap[w.heap.size + 1]? = some (.cells #[.slice a zs.length cap, .int .i64 ((0 : Nat) : Int)] 136 (0, 0)) := heap_alloc2_new _ _ _
  have hr0 : ((w.alloc (.cells (cArr zeroC (.slice none 0 0)) 86)).alloc (.cells #[.slice a zs.length cap, .int .i64 0] 136)).heap[w.heap.size]? = some (.cells (cArr zeroC (.slice none 0 0)) 86 (0, 0)) := heap_alloc2_old _ _ _
  have hB0 : Below w.heap.size w ((w.alloc (.cells (cArr zeroC (.slice none 0 0)) 86)).alloc (.cells #[.slice a zs.length cap, .int .i64 0] 136)) := ((Below.refl _ _).alloc (Nat.le_refl _) _).alloc (by simp) _
  have hs0 := hs.below hB0 (Nat.le_refl _)
  have HH0 := Lib.hid hh0
  have HR0 := Lib.hid hr0
  have HB0 := Lib.hid hB0
  have HD := Lib.hid (dec_err he)
  have HE := Lib.hid he
  clear hh0 hr0 hB0 hs he
  go_enter Tryz.func86, Tryz.ntmps86
  go_wp2_with fail
  refine (next_any (w.heap.size + 1) _ zs 0 18446744073709551615 _ HH0.out hs0 (Nat.zero_le _)).mono ?_
  rintro e w1 ⟨rfl, hg1, ho1, hz1⟩
  have hne : ((nx zs 0 18446744073709551615).2.1 != 0) = true := by rw [bne, HE.out]; rfl
  have hr1 := (ho1.2.2.2.2 w.heap.size (by simp; omega) (by simp)).trans HR0.out
  generalize hx : nx zs 0 18446744073709551615 = x at *
  clear hx
  obtain ⟨n, er, u⟩ := x
  go_wp2_with (refine wpList_store_row rfl 86 (.tmp 2) (.tmp 21) rfl w.heap.size (cArr zeroC (.slice none 0 0)) rfl rfl 86 _ hr1 (by kernel_rfl) rfl (cArr_one _ _ _ _) ?_)
  have hB1 : Below w.heap.size w w1 := ho1.below HB0.out HB0.out.size fun k hk => by omega
  refine bodyPost_ret (v := .tuple #[.agg (cArr zeroC (.slice none 0 0)), .int .i64 0, .int .i64 er]) (results_cell3 rfl _ _ w.heap.size 86 _ (0, 0) _ rfl (set_row hr1) Tryz.underlying86 rfl (by kernel_rfl) rfl rfl) rfl ?_
  exact dec_zero HD.out (below_row hB1 (Nat.le_refl _) _)
end Cm
end Go.Proofs.YtlfaiemebfkajaaGreatDoor
namespace Go.Proofs.YtlfaiemebfkajaaGreatDoor
open Go.ChangeShapes Go.WideShapes Go.ChangeAt Go.RowKit
set_option linter.unusedVariables false
set_option maxRecDepth 100000
namespace Cm

theorem OwnK.past {k : IntKind} {e : TypeId} {w w' : World} {B0 B : Nat} {S : Nat → Prop} {v : Value} {zs : List Int} (hown : OwnK k e w B0 v zs) (h : Past B S w w') (hB : w.heap.size ≤ B) (hS : ∀ g, S g → g < B0) : OwnK k e w' B0 v zs := by
  rcases hown.2 with h2 | ⟨q, cap, cur, e2, hk, hh, hr⟩
  · exact ⟨hown.1, .inl h2⟩
  · have hq := (Array.getElem?_eq_some_iff.1 hh).1
    exact ⟨hown.1, .inr ⟨q, cap, cur, e2, hk, (h.2.2.2.2 q (by omega) fun hs => by have := hS q hs; omega).trans hh, hr⟩⟩
theorem OwnK.mono {k : IntKind} {e : TypeId} {w : World} {B B' : Nat} {v : Value} {zs : List Int} (h : OwnK k e w B v zs) (hB : B' ≤ B) : OwnK k e w B' v zs := by
  refine ⟨h.1, ?_⟩
  rcases h.2 with h2 | ⟨g, cap, cur, h2, h3, h4⟩
  · exact .inl h2
  · exact .inr ⟨g, cap, cur, h2, by omega, h4⟩
theorem own_nil {w : World} {B : Nat} {zs : List Int} (h : OwnI w B (.slice none 0 0) zs) : zs = [] := by
  rcases h.2 with ⟨_, h0⟩ | ⟨q, cap, cur, e2, _⟩
  · exact List.eq_nil_of_length_eq_zero h0
  · cases e2
theorem putC_nodes (c : Cmd) {f : Nat} (n : Int) (hf : f ≤ 5) : (putC c f n).nodes = c.nodes := by
  rcases (show f = 0 ∨ f = 1 ∨ f = 2 ∨ f = 3 ∨ f = 4 ∨ f = 5 by omega) with rfl | rfl | rfl | rfl | rfl | rfl <;> rfl
theorem putC_wf {c : Cmd} {f : Nat} {n : Int} (h : c.wf) (hf : f ≤ 5) (h0 : 0 ≤ n) (h1 : n ≤ 18446744073709551615) (h2 : f = 0 ∨ f = 3 → n ≤ 65535) : (putC c f n).wf := by
  obtain ⟨w0, w1, w2, w3, w4, w5, w6⟩ := h
  have hu : (Lit.int .u64 n).wf = true := WalkArith.wf_u64 (by omega)
  rcases (show f = 0 ∨ f = 1 ∨ f = 2 ∨ f = 3 ∨ f = 4 ∨ f = 5 by omega) with rfl | rfl | rfl | rfl | rfl | rfl
  · exact ⟨w0, (by show (Lit.int .i64 n).wf = true; have := h2 (.inl rfl); exact WalkArith.wf_i64 (by omega)), w2, w3, w4, w5, w6⟩
  · exact ⟨w0, w1, w2, hu, w4, w5, w6⟩
  · exact ⟨w0, w1, w2, w3, hu, w5, w6⟩
  · exact ⟨w0, w1, (by show (Lit.int .i64 n).wf = true; have := h2 (.inr rfl); exact WalkArith.wf_i64 (by omega)), w3, w4, w5, w6⟩
  · exact ⟨w0, w1, w2, w3, w4, hu, w6⟩
  · exact ⟨w0, w1, w2, w3, w4, w5, hu⟩
theorem kindC_wf {k : Int} (h : 1 ≤ k ∧ k ≤ 6) : (kindC k).wf := by
  rcases (show k = 1 ∨ k = 2 ∨ k = 3 ∨ k = 4 ∨ k = 5 ∨ k = 6 by omega) with rfl | rfl | rfl | rfl | rfl | rfl <;> exact ⟨by decide, by decide, by decide, by decide, by decide, by decide, by decide⟩
theorem li_bd {zs : List Int} {u : Nat} (hu : u ≤ zs.length) : (li zs u).2.2 ≤ zs.length ∧ ∀ n ∈ (li zs u).1, 0 ≤ n ∧ n ≤ 65535 := by
  have h7 := nx_bd (m := 7) hu (by omega)
  unfold li
  split
  · have := st_bd h7.1 (nx zs u 7).1.toNat
    exact ⟨this.1, this.2.2⟩
  · exact ⟨h7.1, by simp⟩
theorem six_last {k : Int} {i : Nat} (h : i < (fieldsL k).length) (h6 : (fieldsL k).getD i 0 = 6) : i + 1 = (fieldsL k).length := by
  unfold fieldsL at *
  by_cases h1 : k = 2
  · rw [if_pos h1] at *; simp at h ⊢; omega
  · rw [if_neg h1] at *
    repeat' split at h
    all_goals
      simp only [*, if_true, if_false] at h h6 ⊢
      try (simp at h; done)
      try (rcases i with _ | _ | _ | _ | _ | i <;> simp at h h6 ⊢ <;> omega)
theorem rd1_num {zs : List Int} {c : Cmd} {f u : Nat} (hf : f ≤ 5) : rd1 zs c f u = (putC c f (nx zs u (mostF f)).1, (nx zs u (mostF f)).2.1, (nx zs u (mostF f)).2.2) := if_neg (by omega)
theorem rd1_six {zs : List Int} {c : Cmd} {u : Nat} : rd1 zs c 6 u = ({ c with nodes := (li zs u).1 }, (li zs u).2.1, (li zs u).2.2) := if_pos rfl
theorem rdF_ok {zs fs : List Int} {c : Cmd} {f : Int} {u : Nat} (h : ((rd1 zs c f.toNat u).2.1 == 0) = true) : rdF zs (f :: fs) c u = rdF zs fs (rd1 zs c f.toNat u).1 (rd1 zs c f.toNat u).2.2 := if_pos h
theorem rdF_no {zs fs : List Int} {c : Cmd} {f : Int} {u : Nat} (h : ((rd1 zs c f.toNat u).2.1 == 0) = false) : rdF zs (f :: fs) c u = rd1 zs c f.toNat u := by
  show (if _ then _ else _) = _
  rw [h]; rfl
theorem dec_read {zs : List Int} {n : Int} {u : Nat} (h : nx zs 0 18446744073709551615 = (n, 0, u)) (hk : kindB n = true) {er : Int} (he : (rdC zs n u).2.1 = er) (h2 : (er == 0) = false) : decL zs = (zeroC, 0, er) := by
  unfold decL
  rw [h]
  simp only [beq_self_eq_true, if_true, hk, he, h2, Bool.false_eq_true, if_false]
theorem dec_cmd {zs : List Int} {n : Int} {u u2 : Nat} {c : Cmd} (h : nx zs 0 18446744073709551615 = (n, 0, u)) (hk : kindB n = true) (hr : rdC zs n u = (c, 0, u2)) (hc : chkC c = false) : decL zs = (zeroC, 0, 40) := by
  unfold decL
  rw [h]
  simp only [beq_self_eq_true, if_true, hk, hr, hc, Bool.false_eq_true, if_false]
theorem dec_yes {zs : List Int} {n : Int} {u u2 : Nat} {c : Cmd} (h : nx zs 0 18446744073709551615 = (n, 0, u)) (hk : kindB n = true) (hr : rdC zs n u = (c, 0, u2)) (hc : chkC c = true) : decL zs = (c, u2, 0) := by
  unfold decL
  rw [h]
  simp only [beq_self_eq_true, if_true, hk, hr, hc]

theorem row8 {w : World} {g : Nat} {t : TypeId} {z0 z1 z2 z3 z4 z5 z6 z7 : Value} (v0 v1 v2 v3 v4 v5 v6 v7 : Value) (h : w.heap[g]? = some (.cells #[z0, z1, z2, z3, z4, z5, z6, z7] t (0, 0))) :
    ((((((((w.setCell ⟨g, 0, none⟩ v0).setCell ⟨g, 1, none⟩ v1).setCell ⟨g, 2, none⟩ v2).setCell ⟨g, 3, none⟩ v3).setCell ⟨g, 4, none⟩ v4).setCell ⟨g, 5, none⟩ v5).setCell ⟨g, 6, none⟩ v6).setCell ⟨g, 7, none⟩ v7).drew.heap[g]? = some (.cells #[v0, v1, v2, v3, v4, v5, v6, v7] t (0, 0)) := by
  generalize hw0 : w.setCell ⟨g, 0, none⟩ v0 = w0
  have h0 : w0.heap[g]? = some (.cells #[v0, z1, z2, z3, z4, z5, z6, z7] t (0, 0)) := by rw [← hw0]; exact heap_setCell_same _ g 0 _ _ v0 h
  generalize hw1 : w0.setCell ⟨g, 1, none⟩ v1 = w1
  have h1 : w1.heap[g]? = some (.cells #[v0, v1, z2, z3, z4, z5, z6, z7] t (0, 0)) := by rw [← hw1]; exact heap_setCell_same _ g 1 _ _ v1 h0
  generalize hw2 : w1.setCell ⟨g, 2, none⟩ v2 = w2
  have h2 : w2.heap[g]? = some (.cells #[v0, v1, v2, z3, z4, z5, z6, z7] t (0, 0)) := by rw [← hw2]; exact heap_setCell_same _ g 2 _ _ v2 h1
  generalize hw3 : w2.setCell ⟨g, 3, none⟩ v3 = w3
  have h3 : w3.heap[g]? = some (.cells #[v0, v1, v2, v3, z4, z5, z6, z7] t (0, 0)) := by rw [← hw3]; exact heap_setCell_same _ g 3 _ _ v3 h2
  generalize hw4 : w3.setCell ⟨g, 4, none⟩ v4 = w4
  have h4 : w4.heap[g]? = some (.cells #[v0, v1, v2, v3, v4, z5, z6, z7] t (0, 0)) := by rw [← hw4]; exact heap_setCell_same _ g 4 _ _ v4 h3
  generalize hw5 : w4.setCell ⟨g, 5, none⟩ v5 = w5
  have h5 : w5.heap[g]? = some (.cells #[v0, v1, v2, v3, v4, v5, z6, z7] t (0, 0)) := by rw [← hw5]; exact heap_setCell_same _ g 5 _ _ v5 h4
  generalize hw6 : w5.setCell ⟨g, 6, none⟩ v6 = w6
  have h6 : w6.heap[g]? = some (.cells #[v0, v1, v2, v3, v4, v5, v6, z7] t (0, 0)) := by rw [← hw6]; exact heap_setCell_same _ g 6 _ _ v6 h5
  generalize hw7 : w6.setCell ⟨g, 7, none⟩ v7 = w7
  have h7 : w7.heap[g]? = some (.cells #[v0, v1, v2, v3, v4, v5, v6, v7] t (0, 0)) := by rw [← hw7]; exact heap_setCell_same _ g 7 _ _ v7 h6
  exact h7
theorem pstep {a w : World} {B g i : Nat} {v : Value} (h : Past B (fun j => j = g) a w) : Past B (fun j => j = g) a (w.setCell ⟨g, i, none⟩ v) := h.trans (Past.setCell w ⟨g, i, none⟩ v rfl)
theorem prefl (w : World) (B g : Nat) : Past B (fun j => j = g) w w := ⟨rfl, rfl, rfl, Nat.le_refl _, fun _ _ _ => rfl⟩
theorem pdrew {a w : World} {B g : Nat} (h : Past B (fun j => j = g) a w) : Past B (fun j => j = g) a w.drew := ⟨h.1, h.2.1, h.2.2.1, h.2.2.2.1, h.2.2.2.2⟩
theorem past8 (w : World) (B g : Nat) (v0 v1 v2 v3 v4 v5 v6 v7 : Value) : Past B (fun j => j = g) w ((((((((w.setCell ⟨g, 0, none⟩ v0).setCell ⟨g, 1, none⟩ v1).setCell ⟨g, 2, none⟩ v2).setCell ⟨g, 3, none⟩ v3).setCell ⟨g, 4, none⟩ v4).setCell ⟨g, 5, none⟩ v5).setCell ⟨g, 6, none⟩ v6).setCell ⟨g, 7, none⟩ v7).drew := by
  have h0 := pstep (i := 0) (v := v0) (prefl w B g)
  have h1 := pstep (i := 1) (v := v1) h0
  have h2 := pstep (i := 2) (v := v2) h1
  have h3 := pstep (i := 3) (v := v3) h2
  have h4 := pstep (i := 4) (v := v4) h3
  have h5 := pstep (i := 5) (v := v5) h4
  have h6 := pstep (i := 6) (v := v6) h5
  have h7 := pstep (i := 7) (v := v7) h6
  exact pdrew h7
set_option maxHeartbeats 1600000 in
theorem decode_kind (v : Value) (zs : List Int) (w : World) (hs : Sl .u8 w v zs) {n : Int} {u : Nat} (hx : nx zs 0 18446744073709551615 = (n, 0, u)) (hk : kindB n = true) :
    Calls Tryz.prog 86 #[v] w (Dec zs w) := by
  obtain ⟨a, cap, rfl, -⟩ := id hs
  have HG := Lib.hid (begun w (.slice a zs.length cap))
  have hs0 := hs.below HG.out.below (Nat.le_refl _)
  have HS := Lib.hid (fun w' (hb : Below w.heap.size w w') => hs.below hb (Nat.le_refl _))
  have hbd := nx_bd (u := 0) (zs := zs) (m := 18446744073709551615) (Nat.zero_le _) (by omega)
  rw [hx] at hbd
  obtain ⟨b1, b2, b3⟩ := hbd
  have hk16 : 1 ≤ n ∧ n ≤ 6 := of_decide_eq_true hk
  obtain ⟨k1, k6⟩ := hk16
  have HX := Lib.hid hx
  have HK := Lib.hid hk
  clear hs hx hk
  go_enter Tryz.func86, Tryz.ntmps86
  go_wp2_with fail
  refine (next_any (w.heap.size + 1) _ zs 0 18446744073709551615 _ HG.out.reader hs0 (Nat.zero_le _)).mono ?_
  rintro e w1 ⟨rfl, hg1, ho1, hz1⟩
  have hr1 := (ho1.2.2.2.2 w.heap.size (by simp; omega) (by simp)).trans HG.out.result
  have hB1 : Below w.heap.size w w1 := ho1.below HG.out.below HG.out.below.size fun k hk => by omega
  have hz1' : w1.heap.size = w.heap.size + 2 := hz1.trans HG.out.size
  rw [HX.out] at hg1 ⊢
  clear ho1 hz1 hs0
  go_wp2_with (first
    | (go_at_call 100; refine (isKind_any n _ b2 b3).mono ?_; rintro e w2 ⟨rfl, rfl⟩; rw [HK.out]))
  have hc1 : Below w.heap.size w (w1.alloc (.cells (cArr (kindC n) (.slice none 0 0)) 86)) := hB1.alloc (by omega) _
  have hh1 : (w1.alloc (.cells (cArr (kindC n) (.slice none 0 0)) 86)).heap[w1.heap.size]? = some (.cells (cArr (kindC n) (.slice none 0 0)) 86 (0, 0)) := heap_alloc_new _ _
  have hg2 := (heap_alloc_old w1 (.cells (cArr (kindC n) (.slice none 0 0)) 86) (Array.getElem?_eq_some_iff.1 hg1).1).trans hg1
  have hr2 := (heap_alloc_old w1 (.cells (cArr (kindC n) (.slice none 0 0)) 86) (Array.getElem?_eq_some_iff.1 hr1).1).trans hr1
  refine (fields_own n _ ⟨k1, k6⟩).mono ?_
  rintro e w3 ⟨v3, rfl, hown3, hs3, hb3⟩
  have hz3 : w.heap.size + 3 ≤ w3.heap.size := by have := hb3.size; simp at this; omega
  have hB3 : Below w.heap.size w w3 := hc1.trans (hb3.mono hc1.size)
  have hg3 := (hb3.block (w.heap.size + 1) (by simp; omega)).trans hg2
  have hr3 := (hb3.block w.heap.size (by simp; omega)).trans hr2
  have hh3 := (hb3.block w1.heap.size (by simp)).trans hh1
  have hfo : OwnK .i64 142 w3 (w.heap.size + 3) v3 (fieldsL n) := OwnK.mono hown3 (by simp; omega)
  obtain ⟨hfl, hfb⟩ := fieldsL_bd n
  have HFB := Lib.hid hfb
  rw [hz1'] at hh3
  obtain ⟨a3, cap3, rfl, hn3⟩ := id hs3
  have HN3 := Lib.hid hn3
  clear hc1 hh1 hg2 hr2 hown3 hb3 hg1 hr1 hB1 hz1' hn3 hfb
  go_wp2_with fail
  go_loopw [34] (fun i wr => ∃ (k : Nat) (c : Cmd) (q : Nat) (vn : Value), k ≤ (fieldsL n).length ∧ i = .int .i64 k ∧ Hid (rdC zs n u = rdF zs ((fieldsL n).drop k) c q) ∧ Hid c.wf ∧ q ≤ zs.length ∧ wr.heap[w.heap.size + 1]? = some (.cells #[.slice a zs.length cap, .int .i64 q] 136 (0, 0)) ∧ wr.heap[w.heap.size + 2]? = some (.cells (cArr c vn) 86 (0, 0)) ∧ OwnI wr (w.heap.size + 3) vn c.nodes ∧ Hid (∀ x ∈ c.nodes, 0 ≤ x ∧ x ≤ 65535) ∧ (k < (fieldsL n).length → vn = .slice none 0 0) ∧ Past w3.heap.size (fun j => j = w.heap.size + 1 ∨ j = w.heap.size + 2) w3 wr) (fun i _ => (fieldsL n).length - (intOf i).toNat)
  case atStart => exact ⟨0, kindC n, u, .slice none 0 0, Nat.zero_le _, rfl, Lib.hid rfl, Lib.hid (kindC_wf ⟨k1, k6⟩), b1, hg3, hh3, OwnK.nil _ _ _ _, Lib.hid (by simp [kindC]), fun _ => rfl, ⟨rfl, rfl, rfl, Nat.le_refl _, fun _ _ _ => rfl⟩⟩
  case round =>
    obtain ⟨k, c, q, vn, hk, rfl, HO, HW, hq, hgr, hhr, hvn, HNB, hlast, hp⟩ := hrel
    have hsz := hp.2.2.2.1
    have hrr := (hp.2.2.2.2 w.heap.size (by omega) (by omega)).trans hr3
    have hBr : Below w.heap.size w wr := ⟨hp.1.trans hB3.os, hp.2.1.trans hB3.tape, hp.2.2.1.trans hB3.output, Nat.le_trans hB3.size hsz, fun j hj => (hp.2.2.2.2 j (by omega) (by omega)).trans (hB3.block j hj)⟩
    have hsr := (OwnK.past hfo hp (Nat.le_refl _) (fun g hg => by omega)).sl hs3.wf
    clear hg3 hh3 hr3
    by_cases hlt : k < (fieldsL n).length
    · obtain rfl := hlast hlt
      have hnn := own_nil hvn
      obtain ⟨b, off, rfl, -, hcx⟩ := Sl.at hsr hlt
      have hfb := HFB.out _ (Nd.mem_get hlt)
      have HD := Lib.hid (Nd.drop_get hlt)
      have H6 := Lib.hid (six_last hlt)
      generalize (fieldsL n).getD k 0 = z at *
      obtain ⟨f, rfl⟩ : ∃ f : Nat, z = f := ⟨z.toNat, by omega⟩
      have hfz : ((f : Int)).toNat = f := by omega
      have hO := HO.out
      rw [HD.out] at hO
      by_cases hf6 : f = 6
      · subst hf6
        have hkl := H6.out rfl
        have hlb := li_bd hq
        have hqb := hlb.1
        have HLB := Lib.hid hlb.2
        have h1 : rd1 zs c ((6 : Nat) : Int).toNat q = ({ c with nodes := (li zs q).1 }, (li zs q).2.1, (li zs q).2.2) := rd1_six
        have HCW : Hid ({ c with nodes := (li zs q).1 } : Cmd).wf := Lib.hid HW.out
        have HR := Lib.hid (readl_any (w.heap.size + 1) (w.heap.size + 2) (.slice a zs.length cap) c zs q wr hgr hhr (by omega) (fun w' hp' => HS.out w' (Only.below (show Only _ wr w' from hp') hBr hBr.size fun j hj => by omega)) hq)
        clear hlb
        cases he : ((li zs q).2.1 == 0) with
        | false =>
          have hne : ((li zs q).2.1 != 0) = true := by rw [bne, he]; rfl
          have hO2 : (rdC zs n u).2.1 = (li zs q).2.1 := by rw [hO, rdF_no (by rw [h1]; exact he), h1]
          have HDE := Lib.hid (dec_read HX.out HK.out hO2 he)
          clear hO2 hO h1 he hgr hhr
          go_wp2_with fail
          refine HR.out.mono ?_
          rintro e w4 ⟨rfl, hg4, ⟨vn4, hh4, hown4⟩, ho4⟩
          have hr4 := (ho4.2.2.2.2 w.heap.size (by omega) (by omega)).trans hrr
          have ho5 : Only (fun j => j = w.heap.size + 1 ∨ j = w.heap.size + 2) wr w4 := ho4
          have hB4 : Below w.heap.size w w4 := Only.below ho5 hBr hBr.size fun j hj => by omega
          generalize (li zs q).2.1 = er at *
          go_wp2_with (refine wpList_store_row rfl 86 (.tmp 2) (.tmp 42) rfl w.heap.size (cArr zeroC (.slice none 0 0)) rfl rfl 86 _ hr4 (by kernel_rfl) rfl (cArr_one _ _ _ _) ?_)
          refine bodyPost_ret (v := .tuple #[.agg (cArr zeroC (.slice none 0 0)), .int .i64 0, .int .i64 er]) (results_cell3 rfl _ _ w.heap.size 86 _ (0, 0) _ rfl (set_row hr4) Tryz.underlying86 rfl (by kernel_rfl) rfl rfl) rfl ?_
          exact dec_zero HDE.out (below_row hB4 (Nat.le_refl _) _)
        | true =>
          have hne : ((li zs q).2.1 != 0) = false := by rw [bne, he]; rfl
          have hO2 : rdC zs n u = rdF zs ((fieldsL n).drop (k + 1)) { c with nodes := (li zs q).1 } (li zs q).2.2 := by rw [hO, rdF_ok (by rw [h1]; exact he), h1]
          have HO2 := Lib.hid hO2
          clear hO2 hO h1 he hgr hhr
          go_wp2_with fail
          refine HR.out.mono ?_
          rintro e w4 ⟨rfl, hg4, ⟨vn4, hh4, hown4⟩, ho4⟩
          have ho5 : Only (fun j => j = w.heap.size + 1 ∨ j = w.heap.size + 2) wr w4 := ho4
          have hp4 := hp.trans (Past.of_only2 ho5 hsz fun j hj => hj)
          have hown5 : OwnI w4 (w.heap.size + 3) vn4 (li zs q).1 := OwnK.mono hown4 (by omega)
          generalize (li zs q).1 = x1 at *
          generalize (li zs q).2.1 = er at *
          generalize (li zs q).2.2 = q2 at *
          go_wp2_with fail
          go_roundw
          case rel => exact ⟨k + 1, { c with nodes := x1 }, q2, vn4, by omega, by go_num, HO2, HCW, hqb, hg4, hh4, hown5, HLB, fun hlt => absurd hlt (by omega), hp4⟩
          case measure => simp [intOf]; omega
      · have hf5 : f ≤ 5 := by omega
        have hb := nx_bd (m := mostF f) hq (by unfold mostF; split <;> omega)
        have hm18 : (nx zs q (mostF f)).1 ≤ 18446744073709551615 := by have := hb.2.2; unfold mostF at this ⊢; split at this <;> rename_i h1 <;> first | (rw [if_pos h1]; omega) | (rw [if_neg h1]; omega)
        have hm16 : f = 0 ∨ f = 3 → (nx zs q (mostF f)).1 ≤ 65535 := by intro h1; have := hb.2.2; unfold mostF at this ⊢; rw [if_pos h1] at this ⊢; exact this
        have HPW := Lib.hid (putC_wf HW.out hf5 hb.2.1 hm18 hm16)
        have hqb := hb.1
        have h1 : rd1 zs c (f : Int).toNat q = (putC c f (nx zs q (mostF f)).1, (nx zs q (mostF f)).2.1, (nx zs q (mostF f)).2.2) := by rw [hfz]; exact rd1_num hf5
        have hpn : (putC c f (nx zs q (mostF f)).1).nodes = [] := (putC_nodes c _ hf5).trans hnn
        have HPN := Lib.hid hpn
        clear hb hm18 hm16 hpn
        cases he : ((nx zs q (mostF f)).2.1 == 0) with
        | false =>
          have hne : ((nx zs q (mostF f)).2.1 != 0) = true := by rw [bne, he]; rfl
          have hO2 : (rdC zs n u).2.1 = (nx zs q (mostF f)).2.1 := by rw [hO, rdF_no (by rw [h1]; exact he), h1]
          have HDE := Lib.hid (dec_read HX.out HK.out hO2 he)
          have HR := Lib.hid (readf_any (w.heap.size + 1) (w.heap.size + 2) (.slice a zs.length cap) c f hf5 zs q wr hgr hhr (by omega) (HS.out _ hBr) hq)
          clear hO2 hO h1 he hgr hhr
          go_wp2_with fail
          refine HR.out.mono ?_
          rintro e w4 ⟨rfl, hg4, hh4, ho4⟩
          have hr4 := (ho4.2.2.2.2 w.heap.size (by omega) (by omega)).trans hrr
          have hB4 : Below w.heap.size w w4 := ho4.below hBr hBr.size fun j hj => by omega
          generalize (nx zs q (mostF f)).2.1 = er at *
          go_wp2_with (refine wpList_store_row rfl 86 (.tmp 2) (.tmp 42) rfl w.heap.size (cArr zeroC (.slice none 0 0)) rfl rfl 86 _ hr4 (by kernel_rfl) rfl (cArr_one _ _ _ _) ?_)
          refine bodyPost_ret (v := .tuple #[.agg (cArr zeroC (.slice none 0 0)), .int .i64 0, .int .i64 er]) (results_cell3 rfl _ _ w.heap.size 86 _ (0, 0) _ rfl (set_row hr4) Tryz.underlying86 rfl (by kernel_rfl) rfl rfl) rfl ?_
          exact dec_zero HDE.out (below_row hB4 (Nat.le_refl _) _)
        | true =>
          have hne : ((nx zs q (mostF f)).2.1 != 0) = false := by rw [bne, he]; rfl
          have hO2 : rdC zs n u = rdF zs ((fieldsL n).drop (k + 1)) (putC c f (nx zs q (mostF f)).1) (nx zs q (mostF f)).2.2 := by rw [hO, rdF_ok (by rw [h1]; exact he), h1]
          have HO2 := Lib.hid hO2
          have HR := Lib.hid (readf_any (w.heap.size + 1) (w.heap.size + 2) (.slice a zs.length cap) c f hf5 zs q wr hgr hhr (by omega) (HS.out _ hBr) hq)
          clear hO2 hO h1 he hgr hhr
          go_wp2_with fail
          refine HR.out.mono ?_
          rintro e w4 ⟨rfl, hg4, hh4, ho4⟩
          have hp4 := hp.trans (Past.of_only2 ho4 hsz fun j hj => hj)
          generalize (nx zs q (mostF f)).1 = x1 at *
          generalize (nx zs q (mostF f)).2.1 = er at *
          generalize (nx zs q (mostF f)).2.2 = q2 at *
          go_wp2_with fail
          go_roundw
          case rel => exact ⟨k + 1, _, q2, .slice none 0 0, by omega, by go_num, HO2, HPW, hqb, hg4, hh4, by rw [HPN.out]; exact OwnK.nil _ _ _ _, Lib.hid (by rw [HPN.out]; simp), fun _ => rfl, hp4⟩
          case measure => simp [intOf]; omega
    · obtain rfl : k = (fieldsL n).length := by omega
      have hO := HO.out
      rw [List.drop_length] at hO
      have hO2 : rdC zs n u = (c, 0, q) := hO
      have hslc := hvn.sl (fun x hx => by have := HNB.out x hx; exact WalkArith.wf_i64 (by omega))
      obtain ⟨an, capn, rfl, -⟩ := id hslc
      have hic : IsCmd wr (.agg (cArr c (.slice an c.nodes.length capn))) c := ⟨_, rfl, hslc, HW.out⟩
      have HIC := Lib.hid hic
      have HSLC := Lib.hid hslc
      have HVN := Lib.hid hvn
      clear hO hic hslc hvn hsr
      cases hck : chkC c with
      | false =>
        have HDE := Lib.hid (dec_cmd HX.out HK.out hO2 hck)
        have hce : cErr (chkC c) = 40 := by rw [hck]; rfl
        have HCE := Lib.hid hce
        clear hck hce hO2
        go_wp2_with (refine wpList_load_row rfl 86 (.tmp 8) rfl (w.heap.size + 2) rfl 86 (cArr c (.slice an c.nodes.length capn)) (0, 0) _ hhr Tryz.underlying86 rfl (by kernel_rfl) ?_)
        refine (check_any c _ _ HIC.out).mono ?_
        rintro e w5 ⟨rfl, hb5⟩
        rw [HCE.out]
        have hr5 := (hb5.block w.heap.size (by omega)).trans hrr
        have hB5 : Below w.heap.size w w5 := hBr.trans (hb5.mono hBr.size)
        go_wp2_with (refine wpList_store_row rfl 86 (.tmp 2) (.tmp 49) rfl w.heap.size (cArr zeroC (.slice none 0 0)) rfl rfl 86 _ hr5 (by kernel_rfl) rfl (cArr_one _ _ _ _) ?_)
        refine bodyPost_ret (v := .tuple #[.agg (cArr zeroC (.slice none 0 0)), .int .i64 0, .int .i64 40]) (results_cell3 rfl _ _ w.heap.size 86 _ (0, 0) _ rfl (set_row hr5) Tryz.underlying86 rfl (by kernel_rfl) rfl rfl) rfl ?_
        exact dec_zero HDE.out (below_row hB5 (Nat.le_refl _) _)
      | true =>
        have HDE := Lib.hid (dec_yes HX.out HK.out hO2 hck)
        have hce : cErr (chkC c) = 0 := by rw [hck]; rfl
        have HCE := Lib.hid hce
        clear hck hce hO2
        go_wp2_with (refine wpList_load_row rfl 86 (.tmp 8) rfl (w.heap.size + 2) rfl 86 (cArr c (.slice an c.nodes.length capn)) (0, 0) _ hhr Tryz.underlying86 rfl (by kernel_rfl) ?_)
        refine (check_any c _ _ HIC.out).mono ?_
        rintro e w5 ⟨rfl, hb5⟩
        rw [HCE.out]
        have hr5 := (hb5.block w.heap.size (by omega)).trans hrr
        have hg5 := (hb5.block (w.heap.size + 1) (by omega)).trans hgr
        have hh5 := (hb5.block (w.heap.size + 2) (by omega)).trans hhr
        have hB5 : Below w.heap.size w w5 := hBr.trans (hb5.mono hBr.size)
        have hV5 : OwnI w5 (w.heap.size + 3) (.slice an c.nodes.length capn) c.nodes := OwnK.below HVN.out hb5 (Nat.le_refl _)
        have HV5 := Lib.hid hV5
        have HR5 := Lib.hid hr5
        have hz5 := hb5.size
        clear hV5
        have d0 := cell_of_row w5 (w.heap.size + 2) 0 _ _ _ hh5
        have d1 := cell_of_row w5 (w.heap.size + 2) 1 _ _ _ hh5
        have d2 := cell_of_row w5 (w.heap.size + 2) 2 _ _ _ hh5
        have d3 := cell_of_row w5 (w.heap.size + 2) 3 _ _ _ hh5
        have d4 := cell_of_row w5 (w.heap.size + 2) 4 _ _ _ hh5
        have d5 := cell_of_row w5 (w.heap.size + 2) 5 _ _ _ hh5
        have d6 := cell_of_row w5 (w.heap.size + 2) 6 _ _ _ hh5
        have d7 := cell_of_row w5 (w.heap.size + 2) 7 _ _ _ hh5
        have r0 := cell_of_row w5 w.heap.size 0 _ _ _ hr5
        have z0 := frozen_of_row w5 w.heap.size 0 _ _ hr5
        have r1 := cell_of_row w5 w.heap.size 1 _ _ _ hr5
        have z1 := frozen_of_row w5 w.heap.size 1 _ _ hr5
        have r2 := cell_of_row w5 w.heap.size 2 _ _ _ hr5
        have z2 := frozen_of_row w5 w.heap.size 2 _ _ hr5
        have r3 := cell_of_row w5 w.heap.size 3 _ _ _ hr5
        have z3 := frozen_of_row w5 w.heap.size 3 _ _ hr5
        have r4 := cell_of_row w5 w.heap.size 4 _ _ _ hr5
        have z4 := frozen_of_row w5 w.heap.size 4 _ _ hr5
        have r5 := cell_of_row w5 w.heap.size 5 _ _ _ hr5
        have z5 := frozen_of_row w5 w.heap.size 5 _ _ hr5
        have r6 := cell_of_row w5 w.heap.size 6 _ _ _ hr5
        have z6 := frozen_of_row w5 w.heap.size 6 _ _ hr5
        have r7 := cell_of_row w5 w.heap.size 7 _ _ _ hr5
        have z7 := frozen_of_row w5 w.heap.size 7 _ _ hr5
        have e1 := cell_of_row w5 (w.heap.size + 1) 1 _ _ _ hg5
        simp only [cArr, zeroC, List.getElem?_toArray, List.getElem?_cons_zero, List.getElem?_cons_succ] at d0 d1 d2 d3 d4 d5 d6 d7 e1 r0 r1 r2 r3 r4 r5 r6 r7
        go_wp2_with fail
        go_region
        go_wp2
        have hrow := row8 (.int .i64 c.kind) (.int .i64 c.node) (.int .i64 c.token) (.slice an c.nodes.length capn) (.int .u64 c.boot) (.int .u64 c.seq) (.int .u64 c.serial) (.int .u64 c.stamp) HR5.out
        have hpast := past8 w5 w5.heap.size w.heap.size (.int .i64 c.kind) (.int .i64 c.node) (.int .i64 c.token) (.slice an c.nodes.length capn) (.int .u64 c.boot) (.int .u64 c.seq) (.int .u64 c.serial) (.int .u64 c.stamp)
        revert hrow hpast
        generalize ((((((((w5.setCell ⟨w.heap.size, 0, none⟩ (.int .i64 c.kind)).setCell ⟨w.heap.size, 1, none⟩ (.int .i64 c.node)).setCell ⟨w.heap.size, 2, none⟩ (.int .i64 c.token)).setCell ⟨w.heap.size, 3, none⟩ (.slice an c.nodes.length capn)).setCell ⟨w.heap.size, 4, none⟩ (.int .u64 c.boot)).setCell ⟨w.heap.size, 5, none⟩ (.int .u64 c.seq)).setCell ⟨w.heap.size, 6, none⟩ (.int .u64 c.serial)).setCell ⟨w.heap.size, 7, none⟩ (.int .u64 c.stamp)).drew = wf
        intro hrow hpast
        have honly : Only (fun j => j = w.heap.size) w5 wf := hpast
        have hBf : Below w.heap.size w wf := Only.below honly hB5 hB5.size fun j hj => by omega
        have hVf : OwnI wf (w.heap.size + 3) (.slice an c.nodes.length capn) c.nodes := OwnK.past HV5.out hpast (Nat.le_refl _) (fun g hg => by omega)
        refine bodyPost_ret (v := .tuple #[.agg (cArr c (.slice an c.nodes.length capn)), .int .i64 q, .int .i64 0]) (results_cell3 rfl _ _ w.heap.size 86 _ (0, 0) _ rfl hrow Tryz.underlying86 rfl (by kernel_rfl) rfl rfl) rfl ?_
        exact dec_some HDE.out hVf (by omega) (OwnK.sl hVf HSLC.out.wf) HW.out hBf
end Cm
end Go.Proofs.YtlfaiemebfkajaaGreatDoor
