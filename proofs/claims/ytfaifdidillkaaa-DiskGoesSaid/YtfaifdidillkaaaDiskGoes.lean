/- The law DiskGoes returns true for every list of calls: the disk answers as the document's, and holds the same files behind every call. No condition. -/
import Derived.Test.YtfaifdidillkaaaRd
import Derived.Test.YtfaifdidillkaaaRdI
namespace Go.Proofs.Ytfaifdidillkaaa.diskGoes
open Go.ChangeShapes Go.WideShapes Go.ChangeAt Go.RowKit
open Go.ChangeMaps (open_string shut_string)
set_option linter.unusedVariables false

theorem own : ownKnob Try.prog.godebug = none := by kernel_rfl
theorem laidOut : laidOutB Try.prog = true := by kernel_rfl

set_option linter.unusedSimpArgs false
open Dk Rk Go.Deep
set_option maxRecDepth 100000 in
set_option maxHeartbeats 16000000 in
theorem walk (v0 : Value) (x0 : (List DOp)) (w : World) (w0 : IsDOps w v0 x0) :
    Calls Try.prog 3 #[v0] w fun e w' => e = .returned (.bool true) ∧ Below w.heap.size w w' := by
  obtain ⟨rows, hr1, hr2, -⟩ := w0
  have HV := Lib.hid hr1
  have HQ := Lib.hid hr2
  obtain ⟨a, cap, e0, h1, h2, -⟩ := id hr1
  unfold maxLen at h2
  subst e0
  clear hr1 hr2
  go_enter Try.func3, Try.ntmps3
  go_wp2_with fail
  refine (live_any _).mono ?_
  rintro e w2 ⟨rfl, hb⟩
  have HB2 := Lib.hid hb
  clear hb
  go_wp2_with fail
  refine (new_any _).mono ?_
  rintro e w3 ⟨p0, m, V0, rfl, hv, hb⟩
  have HV3 := Lib.hid hv
  have HB23 := Lib.hid hb
  have HB3 : Hid (Below w.heap.size w w3) := Lib.hid (HB2.out.trans (hb.mono HB2.out.size))
  clear hv hb
  go_wp2_with fail
  refine (rnew_any _).mono ?_
  rintro e w4 ⟨q, rfl, hx, hb⟩
  have HB4 : Hid (Below w.heap.size w w4) := Lib.hid (HB3.out.trans (hb.mono HB3.out.size))
  have HBT : Hid (Bth w4 (fun k => w.heap.size ≤ k) p0 q ⟨true, -1, []⟩) := Lib.hid ⟨_, _, m, V0, _, HV3.out.below hb, hx, fun k hk hk2 => by omega, fun k hk => by have := HB2.out.size; omega, fun k hk => by have := HB3.out.size; omega⟩
  clear hx hb HV3 HB23
  by_cases hl : 150 < rows.length
  · have d1 : decide ((150 : Int) < (rows.length : Int)) = true := decide_eq_true (by omega)
    go_wp2_with fail
    go_ret
    exact ⟨rfl, HB4.out⟩
  have d1 : decide ((150 : Int) < (rows.length : Int)) = false := decide_eq_false (by omega)
  have hl3 : rows.length ≤ 150 := by omega
  go_wp2_with fail
  go_loopw [4, 27] (fun dv i wr => ∃ (k p : Nat) (s : St), k ≤ rows.length ∧ dv = .pointer (some ⟨p, 0, none⟩) ∧ i = .int .i64 (k : Int) ∧ Hid (OkF (10000 * k) s.F ∧ leftOk s.left ∧ Bth wr (fun k => w.heap.size ≤ k) p q s) ∧ Hid (Below w.heap.size w wr)) (fun _ i _ => rows.length - (intOf i).toNat)
  case atStart => exact ⟨0, p0, ⟨true, -1, []⟩, Nat.zero_le _, rfl, rfl, Lib.hid ⟨OkF.nil _, ⟨by decide, by decide⟩, HBT.out⟩, HB4⟩
  case round =>
    clear HBT HB4
    obtain ⟨k, p, s, hk, rfl, rfl, HK, HBW⟩ := hrel
    by_cases hlt : k < rows.length
    · have hlti : (k : Int) < (rows.length : Int) := by omega
      obtain ⟨b, off, cp, e1, -, -, -, hbl, hcs⟩ : ∃ b off cp, Value.slice a rows.length cap = .slice (some ⟨b, off, none⟩) rows.length cp ∧ 0 < rows.length ∧ rows.length ≤ cp ∧ cp ≤ 9223372036854775807 ∧ b < w.heap.size ∧ ∀ i x, rows[i]? = some x → ∀ j u, (dopC x)[j]? = some u → w.cell? ⟨b, off + (i * 5 + j), none⟩ = some u := by
        rcases SlR.cases HV.out with ⟨a2, c2, e, hnil⟩ | h
        · rw [hnil] at hlt; simp at hlt
        · exact h
      simp only [Value.slice.injEq] at e1
      obtain ⟨rfl, -, rfl⟩ := e1
      obtain ⟨⟨x, vk⟩, hx⟩ : ∃ x, rows[k]? = some x := ⟨_, List.getElem?_eq_getElem hlt⟩
      have hq := HQ.out _ (List.mem_of_getElem? hx)
      have HWF : Hid x.wf := Lib.hid hq.1
      have HKS : Hid (SlR 1 inC w vk x.keep) := Lib.hid hq.2
      obtain ⟨ak, ck, hvk, -⟩ := hq.2
      simp only at hvk
      subst hvk
      obtain ⟨nk, hnk⟩ : ∃ q, x.keep.length = q := ⟨_, rfl⟩
      obtain ⟨x0', x1', x2', x3', x4'⟩ := dop_cells (w := wr) (b := b) (o := off + k * 5) (fun j u hu => by rw [Nat.add_assoc]; exact (HBW.out.cell (p := ⟨b, off + (k * 5 + j), none⟩) hbl).trans (hcs k _ hx j u hu))
      simp only [hnk] at x4'
      simp only at x0' x1' x2' x3'
      rw [hnk] at HKS
      obtain ⟨g, hg⟩ : ∃ q, wr.heap.size = q := ⟨_, rfl⟩
      obtain ⟨W4, hW4⟩ : ∃ q, wr.alloc (.cells #[.int .i64 x.kind, .int .i64 x.n, .string x.name, .string x.b, .slice ak nk ck] 30) = q := ⟨_, rfl⟩
      have hb4 : Below wr.heap.size wr W4 := by rw [← hW4]; exact (Below.refl _ _).alloc (Nat.le_refl _) _
      have hg4 : W4.heap[g]? = some (.cells #[.int .i64 x.kind, .int .i64 x.n, .string x.name, .string x.b, .slice ak nk ck] 30 (0, 0)) := by rw [← hW4, ← hg]; exact heap_alloc_new _ _
      have y0 : W4.cell? ⟨g, 0, none⟩ = some (.int .i64 x.kind) := (cell_of_row _ _ 0 _ _ _ hg4).trans rfl
      have y1 : W4.cell? ⟨g, 1, none⟩ = some (.int .i64 x.n) := (cell_of_row _ _ 1 _ _ _ hg4).trans rfl
      have y2 : W4.cell? ⟨g, 2, none⟩ = some (.string x.name) := (cell_of_row _ _ 2 _ _ _ hg4).trans rfl
      have y3 : W4.cell? ⟨g, 3, none⟩ = some (.string x.b) := (cell_of_row _ _ 3 _ _ _ hg4).trans rfl
      have y4 : W4.cell? ⟨g, 4, none⟩ = some (.slice ak nk ck) := (cell_of_row _ _ 4 _ _ _ hg4).trans rfl
      have HBT4 : Hid (Bth W4 (fun k => w.heap.size ≤ k) p q s) := Lib.hid (by
        obtain ⟨Sd, Sx, m, V, vF, hd, hx, h1, h2, h3⟩ := HK.out.2.2
        exact ⟨Sd, Sx, m, V, vF, hd.below hb4, hx.below hb4, h1, h2, h3⟩)
      have HB4 := Lib.hid (HBW.out.trans (hb4.mono HBW.out.size))
      clear hcs hx hg4 hb4 hq
      by_cases hsz : 10000 < x.b.size
      · have d2 : decide ((10000 : Int) < (x.b.size : Int)) = true := decide_eq_true (by omega)
        have d2b : decide (10000 < x.b.size) = true := decide_eq_true hsz
        go_wp2_with fail
        go_roundw
        case rel => exact ⟨k + 1, p, s, by omega, rfl, by go_num, Lib.hid ⟨HK.out.1.mono (by omega), HK.out.2.1, HBT4.out⟩, HB4⟩
        case measure => simp [intOf]; omega
      · have d2 : decide ((10000 : Int) < (x.b.size : Int)) = false := decide_eq_false (by omega)
        have d2b : decide (10000 < x.b.size) = false := decide_eq_false hsz
        have HSZ : Hid (x.b.size ≤ 10000) := Lib.hid (by omega)
        have HK150 : Hid (k < 150) := Lib.hid (by omega)
        clear hsz
        go_wp2_with fail
        clear hW4
        refine (do_any (n := 10000 * k) W4 s x (.slice ak nk ck) HBT4.out HK.out.1 HK.out.2.1 HWF.out (fun w' ho => HKS.out.below (ho.below HB4.out HB4.out.size (fun k hk => hk)) (Nat.le_refl _)) (by have := HSZ.out; have := HK150.out; omega)).mono ?_
        rintro e w5 ⟨p5, rfl, hbt, ho⟩
        have HB5 : Hid (Below w.heap.size w w5) := Lib.hid (ho.below HB4.out HB4.out.size (fun k hk => hk))
        have HOK5 := Lib.hid (do_ok HK.out.1 HK.out.2.1 HWF.out HSZ.out)
        have HBT5 : Hid (Bth w5 (fun k => w.heap.size ≤ k) p5 q (doS s x)) := Lib.hid (hbt.mono (fun k hk => by
          rcases hk with hk | hk
          · exact hk
          · have := HB4.out.size; omega))
        obtain ⟨s5, hs5⟩ : ∃ z, doS s x = z := ⟨_, rfl⟩
        rw [hs5] at HOK5 HBT5
        clear hbt ho hs5
        go_wp2_with fail
        obtain ⟨Sd, Sx, m5, V5, vF5, hd5, hx5, -, -, -⟩ := id HBT5.out
        refine (same_any (n := 10000 * k + 10000) w5 hd5 hx5 HOK5.out.1 (by have := HK150.out; omega)).mono ?_
        rintro e w6 ⟨rfl, hb6⟩
        have HB6 : Hid (Below w.heap.size w w6) := Lib.hid (HB5.out.trans (hb6.mono HB5.out.size))
        have HBT6 : Hid (Bth w6 (fun k => w.heap.size ≤ k) p5 q s5) := Lib.hid (by
          obtain ⟨Sd, Sx, m, V, vF, hd, hx, h1, h2, h3⟩ := HBT5.out
          exact ⟨Sd, Sx, m, V, vF, hd.below hb6, hx.below hb6, h1, h2, h3⟩)
        clear hb6 hd5 hx5
        go_wp2_with fail
        go_roundw
        case rel => exact ⟨k + 1, p5, s5, by omega, rfl, by go_num, Lib.hid ⟨HOK5.out.1.mono (by omega), HOK5.out.2, HBT6.out⟩, HB6⟩
        case measure => simp [intOf]; omega
    · obtain rfl : k = rows.length := by omega
      have HBF := HBW
      go_wp2_with fail
      go_ret
      exact ⟨rfl, HBF.out⟩

set_option maxRecDepth 100000 in
theorem contract (H : Type) (enc : TypeId × Value → H) (W : World) (base : Nat) (args : Array Value) (ds gs : List (DataW H)) (before : List MemPlace)
    (hval0 : ∀ (j : Nat) t v, Try.f3.params[j]? = some t → args[j]? = some v → Value.okWide Try.prog W .any base t v)
    (hW : DataW.Whole enc Try.prog Try.f3.params.toList Rows.diskGoesSpec.vars false W args.toList ds gs before)
    (hsz0 : (DataW.weightsEach Try.prog (Try.f3.params.toList ++ Rows.diskGoesSpec.plain.varTypes Try.prog) (ds ++ gs)).all (· ≤ reachBytes) = true) :
    Calls Try.prog 3 args W fun e W' => ∃ v, e = .returned v ∧ Rows.diskGoesSpec.post enc Try.prog Try.f3 false true false false W args v W' := by
  have hval : ∀ (j : Nat) t v, Try.f3.params[j]? = some t → args[j]? = some v → Value.okWide Try.prog W .any base t v := hval0
  have hW' := hW
  obtain ⟨p, q, hA0, hV, rfl, hfz, hnd⟩ := hW
  have hA : DataW.TrodAll enc Try.prog W 0 (fun _ => true) true Try.f3.params.toList args.toList ds p := hA0
  rw [Try.params3] at hA hval
  have hsz := hsz0
  rw [Try.params3] at hsz
  obtain ⟨v0, vs0, d0, ds0, p0, q0, hargs, rfl, rfl, h0, r0⟩ := trodAll_cons hA
  obtain ⟨rfl, rfl, rfl⟩ := trodAll_nil r0
  obtain rfl : args = #[v0] := by cases args; simp_all
  obtain ⟨rfl, rfl⟩ := trodVars_none hV
  clear hA0 hval0
  have k0 := h0
  have lt0 : ∀ x ∈ p0, x.block < W.heap.size := by obtain ⟨m, hm⟩ := k0; exact DataW.trod_lt m _ _ _ hm
  obtain ⟨x0, w0, -⟩ := open_dops (hval 0 22 v0 rfl rfl) k0
  refine (walk v0 x0 W w0).mono fun e W' ⟨he, bel⟩ => ?_
  subst he
  exact ⟨_, rfl, _, _, _, [], _, [], hW', trodAll_mk1 (shut_bool Try.underlying4 _), (trodAll_cons_mk (Below.trod laidOut (by kernel_rfl) (of_decide_eq_true (by kernel_rfl)) k0 bel lt0) trodAll_mk0), rfl, bel.frame _, fun h => by cases h⟩

set_option maxRecDepth 100000 in
theorem lifted (os : Os) (started : os.Started) (H : Type) (enc : TypeId × Value → H) :
    ReturnsInHanded {} Try.checked os 3 .any (Rows.diskGoesSpec.pre6 enc Try.prog Try.f3 Rows.diskGoesRow.domain false) (Rows.diskGoesSpec.post enc Try.prog Try.f3 false true false false) := by
  refine returnsInHanded_of_change_sized (C := Try.checked) own started (by kernel_rfl) Try.func3
    (ChangeSpec.witness6 (enc := enc) (C := Try.checked) false ⟨#[], #[.slice none 0 0], []⟩ 8 (by kernel_rfl) (by kernel_rfl) (by kernel_rfl) (by kernel_rfl)) ?_
  intro W base args ds gs before hval0 hW hcnd hsz _
  exact contract H enc W base args ds gs before hval0 hW hsz

theorem proved : Rows.DiskGoesSaid :=
  OpenClaim.holds_of_wide 3 Try.f3 rfl rfl rfl rfl rfl rfl rfl ⟨rfl, rfl, rfl, rfl, rfl⟩ rfl rfl rfl rfl rfl (by kernel_rfl) Try.func3 (by kernel_rfl)
    (of_decide_eq_true (by kernel_rfl)) (by unfold Func.isWrapper; first | (rw [if_pos (by decide +kernel)]; kernel_rfl) | (rw [if_neg (by decide +kernel)]; exact ⟨rfl, rfl⟩))
    (fun os started H enc _ => lifted os started H enc)
end Go.Proofs.Ytfaifdidillkaaa.diskGoes
