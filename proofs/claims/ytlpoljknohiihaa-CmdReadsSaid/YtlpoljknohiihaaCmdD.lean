/- A number read out of cmd's reader. No condition. -/
import Derived.Test.YtlpoljknohiihaaCmdL
import Derived.Test.YtlpoljknohiihaaOctR
namespace Go.Proofs.Ytlpoljknohiihaa
open Go.ChangeShapes Go.WideShapes Go.ChangeAt Go.RowKit
set_option linter.unusedVariables false

/-- only the blocks of S change -/
def Only (S : Nat → Prop) (w w' : World) : Prop := w'.os = w.os ∧ w'.tape = w.tape ∧ w'.output = w.output ∧ w.heap.size ≤ w'.heap.size ∧ ∀ k, k < w.heap.size → ¬ S k → w'.heap[k]? = w.heap[k]?
theorem Only.refl (S : Nat → Prop) (w : World) : Only S w w := ⟨rfl, rfl, rfl, Nat.le_refl _, fun _ _ _ => rfl⟩
theorem Only.trans {S : Nat → Prop} {a b c : World} (h : Only S a b) (k : Only S b c) : Only S a c :=
  ⟨k.1.trans h.1, k.2.1.trans h.2.1, k.2.2.1.trans h.2.2.1, Nat.le_trans h.2.2.2.1 k.2.2.2.1, fun i hi hs => (k.2.2.2.2 i (Nat.lt_of_lt_of_le hi h.2.2.2.1) hs).trans (h.2.2.2.2 i hi hs)⟩
theorem Only.mono {S T : Nat → Prop} {a b : World} (h : Only S a b) (hs : ∀ k, S k → T k) : Only T a b :=
  ⟨h.1, h.2.1, h.2.2.1, h.2.2.2.1, fun i hi ht => h.2.2.2.2 i hi fun hk => ht (hs i hk)⟩
theorem Below.only {w w' : World} (h : Below w.heap.size w w') (S : Nat → Prop) : Only S w w' := ⟨h.os, h.tape, h.output, h.size, fun k hk _ => h.block k hk⟩
theorem Only.below {S : Nat → Prop} {B : Nat} {a w w' : World} (h : Only S w w') (hb : Below B a w) (hB : B ≤ w.heap.size) (hs : ∀ k, S k → B ≤ k) : Below B a w' :=
  ⟨h.1.trans hb.os, h.2.1.trans hb.tape, h.2.2.1.trans hb.output, Nat.le_trans hb.size h.2.2.2.1, fun k hk => (h.2.2.2.2 k (Nat.lt_of_lt_of_le hk hB) fun hS => Nat.lt_irrefl _ (Nat.lt_of_lt_of_le hk (hs k hS))).trans (hb.block k hk)⟩
theorem Only.setCell {S : Nat → Prop} (w : World) (p : Addr) (u : Value) (hs : S p.block) : Only S w (w.setCell p u) :=
  ⟨rfl, rfl, rfl, by simp, fun k hk hn => Below.heap_setCell w p u k fun e => hn (e ▸ hs)⟩
theorem Only.alloc (S : Nat → Prop) (w : World) (o : Obj) : Only S w (w.alloc o) := Below.only ((Below.refl _ _).alloc (Nat.le_refl _) _) S

namespace Cm
/-- reading a number of at most m, u bytes being read: the number, the error, how many bytes are read then -/
def nx (zs : List Int) (u : Nat) (m : Int) : Int × Int × Nat :=
  if ((Oc.rdL (zs.drop u)).2.2 == 0) = false then (0, (Oc.rdL (zs.drop u)).2.2, u)
  else if m < ((Oc.rdL (zs.drop u)).1 : Int) then (0, 11, u) else ((Oc.rdL (zs.drop u)).1, 0, u + (Oc.rdL (zs.drop u)).2.1)
def Next (g : Nat) (v : Value) (zs : List Int) (u : Nat) (m : Int) (w : World) (e : Ending) (w' : World) : Prop :=
  e = .returned (.tuple #[.int .u64 (nx zs u m).1, .int .i64 (nx zs u m).2.1]) ∧ w'.heap[g]? = some (.cells #[v, .int .i64 (nx zs u m).2.2] 55 (0, 0)) ∧ Only (· = g) w w' ∧ w'.heap.size = w.heap.size

theorem nx_err {zs : List Int} {u n k : Nat} {e m : Int} (h : Oc.rdL (zs.drop u) = (n, k, e)) (he : (e == 0) = false) : nx zs u m = (0, e, u) := by
  unfold nx; rw [h, if_pos he]
theorem nx_form {zs : List Int} {u n k : Nat} {m : Int} (h : Oc.rdL (zs.drop u) = (n, k, 0)) (hm : m < (n : Int)) : nx zs u m = (0, 11, u) := by
  unfold nx; rw [h, if_neg (by simp), if_pos hm]
theorem nx_ok {zs : List Int} {u n k : Nat} {m : Int} (h : Oc.rdL (zs.drop u) = (n, k, 0)) (hm : (n : Int) ≤ m) : nx zs u m = ((n : Int), 0, u + k) := by
  unfold nx; rw [h, if_neg (by simp), if_neg (by show ¬ (m < (n : Int)); omega)]
theorem rd_len {zs : List Int} {n k : Nat} {e : Int} (h : Oc.rdL zs = (n, k, e)) : k ≤ zs.length := by
  unfold Oc.rdL at h
  split at h
  · simp only [Prod.mk.injEq] at h; omega
  · repeat' split at h
    all_goals simp only [Prod.mk.injEq, List.length_cons] at h ⊢; omega
theorem read_q {v : Value} {zs : List Int} {w : World} {n k : Nat} {e : Int} (hr : Oc.rdL zs = (n, k, e)) (hs : Sl .u8 w v zs) :
    Calls Try.prog 37 #[v] w fun E w' => E = .returned (.tuple #[.int .u64 n, .int .i64 k, .int .i64 e]) ∧ w = w' := by
  refine (Oc.read_any v zs w hs).mono ?_
  rintro E w' ⟨h1, h2⟩
  unfold Oc.rdEnd at h1
  rw [hr] at h1
  exact ⟨h1, h2⟩
theorem next_store {w : World} {g u : Nat} {v : Value} {k : Int} (h : w.heap[g]? = some (.cells #[v, .int .i64 u] 55 (0, 0))) : (w.setCell ⟨g, 1, none⟩ (.int .i64 k)).heap[g]? = some (.cells #[v, .int .i64 k] 55 (0, 0)) := by
  rw [heap_setCell_same w g 1 _ _ _ h]; rfl

set_option maxHeartbeats 1000000 in
theorem next_any (g : Nat) (v : Value) (zs : List Int) (u : Nat) (m : Int) (w : World) (hh : w.heap[g]? = some (.cells #[v, .int .i64 u] 55 (0, 0))) (hs : Sl .u8 w v zs) (hu : u ≤ zs.length) :
    Calls Try.prog 31 #[.pointer (some ⟨g, 0, none⟩), .int .u64 m] w (Next g v zs u m w) := by
  obtain ⟨a, cap, rfl, hlc, hcm, hwf, h4⟩ := id hs
  have hc0 : w.cell? ⟨g, 0, none⟩ = some (.slice a zs.length cap) := by unfold World.cell?; rw [hh]; rfl
  have hc1 : w.cell? ⟨g, 1, none⟩ = some (.int .i64 u) := by unfold World.cell?; rw [hh]; rfl
  unfold maxLen at hcm
  have HH := Lib.hid hh
  clear hwf hh
  rcases hr : Oc.rdL (zs.drop u) with ⟨n, k, e⟩
  have f1 : (u : Int) ≤ (zs.length : Int) := by omega
  have f2 : (zs.length : Int) ≤ (cap : Int) := by omega
  rcases h4 with ⟨rfl, rfl, rfl⟩ | ⟨b, off, sp, rfl, -⟩
  · have hu0 : u = 0 := by simpa using hu
    subst hu0
    have HS := Lib.hid hs
    clear hs
    rcases Oc.rd_err hr with he | he
    · subst he
      by_cases hm : m < (n : Int)
      · have HN := Lib.hid (nx_form hr hm)
        have HR := Lib.hid hr
        clear hr
        go_enter Try.func31, Try.ntmps31
        go_wp2_with fail
        go_quiet (first | (go_at_call 37; exact quiet_mine (read_q HR.out (HS.out.below (Nd.below_drewN _ _) (Nat.le_refl _)))))
        go_wp2
        go_ret2
        exact ⟨by rw [HN.out]; rfl, by rw [HN.out]; exact HH.out, Below.only (Nd.below_drewN w _) _, rfl⟩
      · have hn : (n : Int) ≤ m := by omega
        have HN := Lib.hid (nx_ok hr hn)
        have hk := rd_len hr
        rw [List.length_drop] at hk
        have HR := Lib.hid hr
        have huk : (((0 : Nat) : Int) : Int) + (k : Int) ≤ 9223372036854775807 := by omega
        clear hr hm
        go_enter Try.func31, Try.ntmps31
        go_wp2_with fail
        go_quiet (first | (go_at_call 37; exact quiet_mine (read_q HR.out (HS.out.below (Nd.below_drewN _ _) (Nat.le_refl _)))))
        rename_i nq
        have hd1 : (w.drewN nq).cell? ⟨g, 1, none⟩ = some (.int .i64 ((0 : Nat) : Int)) := hc1
        have hdf : (w.drewN nq).frozen? ⟨g, 1, none⟩ = false := frozen_of_row (w.drewN nq) g 1 _ _ HH.out
        go_wp2
        go_ret2
        exact ⟨by rw [HN.out]; rfl, by rw [HN.out]; show _ = some (Obj.cells #[_, Value.int .i64 ((0 + k : Nat) : Int)] _ _); rw [Nat.zero_add]; exact next_store HH.out, Only.trans (Below.only (Nd.below_drewN w _) _) (Only.setCell _ _ _ rfl), by simp [World.drewN]⟩
    · have HN := Lib.hid (nx_err (m := m) hr he)
      have HR := Lib.hid hr
      clear hr
      go_enter Try.func31, Try.ntmps31
      go_wp2_with fail
      go_quiet (first | (go_at_call 37; exact quiet_mine (read_q HR.out (HS.out.below (Nd.below_drewN _ _) (Nat.le_refl _)))))
      go_wp2
      go_ret2
      exact ⟨by rw [HN.out]; rfl, by rw [HN.out]; exact HH.out, Below.only (Nd.below_drewN w _) _, rfl⟩
  · by_cases hcu : cap = u
    · have hd : zs.drop u = [] := List.drop_eq_nil_of_le (by omega)
      have HS : Hid (Sl .u8 w (.slice (some ⟨b, off, sp⟩) 0 0) (zs.drop u)) := Lib.hid (by rw [hd]; exact Sl.empty _ (Nat.zero_le _))
      have hzl : zs.length = u := by omega
      clear hs hd
      subst hcu
      rcases Oc.rd_err hr with he | he
      · subst he
        by_cases hm : m < (n : Int)
        · have HN := Lib.hid (nx_form hr hm)
          have HR := Lib.hid hr
          clear hr
          go_enter Try.func31, Try.ntmps31
          go_wp2_with fail
          go_quiet (first | (go_at_call 37; exact quiet_mine (read_q HR.out (HS.out.below (Nd.below_drewN _ _) (Nat.le_refl _)))))
          go_wp2
          go_ret2
          exact ⟨by rw [HN.out]; rfl, by rw [HN.out]; exact HH.out, Below.only (Nd.below_drewN w _) _, rfl⟩
        · have hn : (n : Int) ≤ m := by omega
          have HN := Lib.hid (nx_ok hr hn)
          have hk := rd_len hr
          rw [List.length_drop] at hk
          have HR := Lib.hid hr
          have huk : (cap : Int) + (k : Int) ≤ 9223372036854775807 := by omega
          clear hr hm
          go_enter Try.func31, Try.ntmps31
          go_wp2_with fail
          go_quiet (first | (go_at_call 37; exact quiet_mine (read_q HR.out (HS.out.below (Nd.below_drewN _ _) (Nat.le_refl _)))))
          rename_i nq
          have hd1 : (w.drewN nq).cell? ⟨g, 1, none⟩ = some (.int .i64 cap) := hc1
          have hdf : (w.drewN nq).frozen? ⟨g, 1, none⟩ = false := frozen_of_row (w.drewN nq) g 1 _ _ HH.out
          go_wp2
          go_ret2
          exact ⟨by rw [HN.out]; rfl, by rw [HN.out]; exact next_store HH.out, Only.trans (Below.only (Nd.below_drewN w _) _) (Only.setCell _ _ _ rfl), by simp [World.drewN]⟩
      · have HN := Lib.hid (nx_err (m := m) hr he)
        have HR := Lib.hid hr
        clear hr
        go_enter Try.func31, Try.ntmps31
        go_wp2_with fail
        go_quiet (first | (go_at_call 37; exact quiet_mine (read_q HR.out (HS.out.below (Nd.below_drewN _ _) (Nat.le_refl _)))))
        go_wp2
        go_ret2
        exact ⟨by rw [HN.out]; rfl, by rw [HN.out]; exact HH.out, Below.only (Nd.below_drewN w _) _, rfl⟩
    · have hsub := hs.sub u (zs.length - u) (by omega)
      rw [List.take_of_length_le (by rw [List.length_drop]; omega)] at hsub
      have HS := Lib.hid hsub
      clear hsub hs
      rcases Oc.rd_err hr with he | he
      · subst he
        by_cases hm : m < (n : Int)
        · have HN := Lib.hid (nx_form hr hm)
          have HR := Lib.hid hr
          clear hr
          go_enter Try.func31, Try.ntmps31
          go_wp2_with fail
          go_quiet (first | (go_at_call 37; exact quiet_mine (read_q HR.out (HS.out.below (Nd.below_drewN _ _) (Nat.le_refl _)))))
          go_wp2
          go_ret2
          exact ⟨by rw [HN.out]; rfl, by rw [HN.out]; exact HH.out, Below.only (Nd.below_drewN w _) _, rfl⟩
        · have hn : (n : Int) ≤ m := by omega
          have HN := Lib.hid (nx_ok hr hn)
          have hk := rd_len hr
          rw [List.length_drop] at hk
          have HR := Lib.hid hr
          have huk : (u : Int) + (k : Int) ≤ 9223372036854775807 := by omega
          clear hr hm
          go_enter Try.func31, Try.ntmps31
          go_wp2_with fail
          go_quiet (first | (go_at_call 37; exact quiet_mine (read_q HR.out (HS.out.below (Nd.below_drewN _ _) (Nat.le_refl _)))))
          rename_i nq
          have hd1 : (w.drewN nq).cell? ⟨g, 1, none⟩ = some (.int .i64 u) := hc1
          have hdf : (w.drewN nq).frozen? ⟨g, 1, none⟩ = false := frozen_of_row (w.drewN nq) g 1 _ _ HH.out
          go_wp2
          go_ret2
          exact ⟨by rw [HN.out]; rfl, by rw [HN.out]; exact next_store HH.out, Only.trans (Below.only (Nd.below_drewN w _) _) (Only.setCell _ _ _ rfl), by simp [World.drewN]⟩
      · have HN := Lib.hid (nx_err (m := m) hr he)
        have HR := Lib.hid hr
        clear hr
        go_enter Try.func31, Try.ntmps31
        go_wp2_with fail
        go_quiet (first | (go_at_call 37; exact quiet_mine (read_q HR.out (HS.out.below (Nd.below_drewN _ _) (Nat.le_refl _)))))
        go_wp2
        go_ret2
        exact ⟨by rw [HN.out]; rfl, by rw [HN.out]; exact HH.out, Below.only (Nd.below_drewN w _) _, rfl⟩
end Cm
end Go.Proofs.Ytlpoljknohiihaa
