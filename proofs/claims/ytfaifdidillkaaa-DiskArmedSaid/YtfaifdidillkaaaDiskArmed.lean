/- The law DiskArmed returns true for every list of calls and every number: an armed disk takes just so many bytes more, and then its power is off. No condition. -/
import Derived.Test.YtfaifdidillkaaaRd
import Derived.Test.YtfaifdidillkaaaDkP
namespace Go.Proofs.Ytfaifdidillkaaa.diskArmed
open Go.ChangeShapes Go.WideShapes Go.ChangeAt Go.RowKit
open Go.ChangeMaps (open_string shut_string)
set_option linter.unusedVariables false

theorem own : ownKnob Try.prog.godebug = none := by kernel_rfl
theorem laidOut : laidOutB Try.prog = true := by kernel_rfl

set_option linter.unusedSimpArgs false
open Dk Go.Deep
open _root_.Go.Proofs.Ytfaifdidillkaaa.St in
set_option maxRecDepth 100000 in
set_option maxHeartbeats 16000000 in
theorem walk (v0 : Value) (x0 : (List DOp)) (a1 : Int) (w : World) (w0 : IsDOps w v0 x0) (w1 : (Lit.int .i64 a1).wf = true) :
    Calls Try.prog 5 #[v0, .int .i64 a1] w fun e w' => e = .returned (.bool true) ∧ Below w.heap.size w w' := by
  obtain ⟨rows, hr1, hr2, -⟩ := w0
  have HV := Lib.hid hr1
  have HQ := Lib.hid hr2
  obtain ⟨a, cap, e0, h1, h2, -⟩ := id hr1
  unfold maxLen at h2
  subst e0
  clear hr1 hr2
  go_enter Try.func5, Try.ntmps5
  go_wp2_with fail
  refine (live_any _).mono ?_
  rintro e w2 ⟨rfl, hb⟩
  have HB2 := Lib.hid hb
  clear hb
  go_wp2_with fail
  refine (new_any _).mono ?_
  rintro e w3 ⟨p, m, V0, rfl, hv, hb⟩
  have HB3 : Hid (Below w.heap.size w w3) := Lib.hid (HB2.out.trans (hb.mono HB2.out.size))
  obtain ⟨S, hS⟩ : ∃ q, (fun k => w2.heap.size ≤ k ∧ k < w3.heap.size) = q := ⟨_, rfl⟩
  have HSW : Hid (∀ k, S k → w.heap.size ≤ k) := Lib.hid (fun k hk => by rw [← hS] at hk; exact Nat.le_trans HB2.out.size hk.1)
  rw [hS] at hv
  have H3 := Lib.hid hv
  clear hv hb hS HB2
  by_cases hl : 100 < rows.length
  · have d1 : decide ((100 : Int) < (rows.length : Int)) = true := decide_eq_true (by omega)
    go_wp2_with fail
    go_ret
    exact ⟨rfl, HB3.out⟩
  have d1 : decide ((100 : Int) < (rows.length : Int)) = false := decide_eq_false (by omega)
  have hl3 : rows.length ≤ 100 := by omega
  have t1 : -1000 < Int.tmod a1 1000 ∧ Int.tmod a1 1000 < 1000 := ⟨Int.lt_tmod_of_pos _ (by decide), Int.tmod_lt_of_pos _ (by decide)⟩
  have t2 : 0 ≤ Int.tmod (Int.tmod a1 1000 + 1000) 1000 ∧ Int.tmod (Int.tmod a1 1000 + 1000) 1000 < 1000 := ⟨Int.tmod_nonneg _ (by omega), Int.tmod_lt_of_pos _ (by decide)⟩
  go_upto_region 6 with fail
  obtain ⟨nz, hnz⟩ : ∃ q, (Int.tmod a1 1000 + 1000) % 1000 = q := ⟨_, rfl⟩
  have hnr : 0 ≤ nz ∧ nz < 1000 := by omega
  rw [hnz]
  clear hnz t1 t2
  go_wp2_with fail
  refine (arm_any nz w3 H3.out).mono ?_
  rintro e w4 ⟨rfl, hv, ho⟩
  rw [show armZ true (-1) nz = nz from by unfold armZ; rw [if_pos rfl]; omega] at hv
  have HL4 := Lib.hid (DkV.only_left hv ho)
  have HB4 : Hid (Below w.heap.size w w4) := Lib.hid (HL4.out.2.below HB3.out HB3.out.size HSW.out)
  clear hv ho
  go_wp2_with fail
  go_loopw [7, 35] (fun lv i wr => ∃ (k : Nat) (lz : Int), k ≤ rows.length ∧ (0 ≤ lz ∧ lz < 1000) ∧ i = .int .i64 (k : Int) ∧ lv = .int .i64 lz ∧ Hid (∃ F, OkF (10000 * k) F ∧ Dk.Left S p m w3 wr true lz F) ∧ Hid (Below w.heap.size w wr)) (fun _ i _ => rows.length - (intOf i).toNat)
  case atStart => exact ⟨0, nz, Nat.zero_le _, hnr, rfl, rfl, Lib.hid ⟨[], OkF.nil _, HL4.out⟩, HB4⟩
  case round =>
    clear HL4 HB4
    obtain ⟨k, lz, hk, hlz, rfl, rfl, HK, HBW⟩ := hrel
    obtain ⟨F, hok, hlk⟩ := HK.out
    have HOK := Lib.hid hok
    have HLK := Lib.hid hlk
    obtain ⟨⟨Vk, hvk⟩, -⟩ := id hlk
    have HVK := Lib.hid hvk
    clear HK hok hlk hvk
    by_cases hlt : k < rows.length
    · have hlti : (k : Int) < (rows.length : Int) := by omega
      obtain ⟨b, off, cp, e1, -, -, -, hbl, hcs⟩ : ∃ b off cp, Value.slice a rows.length cap = .slice (some ⟨b, off, none⟩) rows.length cp ∧ 0 < rows.length ∧ rows.length ≤ cp ∧ cp ≤ 9223372036854775807 ∧ b < w.heap.size ∧ ∀ i x, rows[i]? = some x → ∀ j u, (dopC x)[j]? = some u → w.cell? ⟨b, off + (i * 5 + j), none⟩ = some u := by
        rcases SlR.cases HV.out with ⟨a2, c2, e, hnil⟩ | h
        · rw [hnil] at hlt; simp at hlt
        · exact h
      simp only [Value.slice.injEq] at e1
      obtain ⟨rfl, -, rfl⟩ := e1
      obtain ⟨⟨x, vk⟩, hx⟩ : ∃ x, rows[k]? = some x := ⟨_, List.getElem?_eq_getElem hlt⟩
      have hq := HQ.out _ (List.mem_of_getElem? hx)
      obtain ⟨⟨-, -, hnsz, hbsz⟩, hks⟩ := hq
      obtain ⟨ak, ck, hvk, -⟩ := hks
      simp only at hvk
      subst hvk
      obtain ⟨nk, hnk⟩ : ∃ q, x.keep.length = q := ⟨_, rfl⟩
      obtain ⟨x0', x1', x2', x3', x4'⟩ := dop_cells (w := wr) (b := b) (o := off + k * 5) (fun j u hu => by rw [Nat.add_assoc]; exact (HBW.out.cell (p := ⟨b, off + (k * 5 + j), none⟩) hbl).trans (hcs k _ hx j u hu))
      simp only [hnk] at x4'
      obtain ⟨kd, hkd⟩ : ∃ q, x.kind = q := ⟨_, rfl⟩
      obtain ⟨xn, hxn⟩ : ∃ q, x.n = q := ⟨_, rfl⟩
      obtain ⟨nm, hnm⟩ : ∃ q, x.name = q := ⟨_, rfl⟩
      obtain ⟨xb, hxb⟩ : ∃ q, x.b = q := ⟨_, rfl⟩
      simp only [hkd, hxn, hnm, hxb] at x0' x1' x2' x3' hnsz hbsz
      have HNS := Lib.hid (And.intro hnsz hbsz)
      obtain ⟨g, hg⟩ : ∃ q, wr.heap.size = q := ⟨_, rfl⟩
      obtain ⟨W4, hW4⟩ : ∃ q, wr.alloc (.cells #[.int .i64 kd, .int .i64 xn, .string nm, .string xb, .slice ak nk ck] 30) = q := ⟨_, rfl⟩
      have hb4 : Below wr.heap.size wr W4 := by rw [← hW4]; exact (Below.refl _ _).alloc (Nat.le_refl _) _
      have hg4 : W4.heap[g]? = some (.cells #[.int .i64 kd, .int .i64 xn, .string nm, .string xb, .slice ak nk ck] 30 (0, 0)) := by rw [← hW4, ← hg]; exact heap_alloc_new _ _
      have y0 : W4.cell? ⟨g, 0, none⟩ = some (.int .i64 kd) := (cell_of_row _ _ 0 _ _ _ hg4).trans rfl
      have y2 : W4.cell? ⟨g, 2, none⟩ = some (.string nm) := (cell_of_row _ _ 2 _ _ _ hg4).trans rfl
      have y3 : W4.cell? ⟨g, 3, none⟩ = some (.string xb) := (cell_of_row _ _ 3 _ _ _ hg4).trans rfl
      have HV4 := Lib.hid (HVK.out.below hb4)
      have HL4 : Hid (Dk.Left S p m w3 W4 true lz F) := Lib.hid (HLK.out.trans (HVK.out.leftB hb4))
      have HB4 := Lib.hid (HBW.out.trans (hb4.mono HBW.out.size))
      have HG4 := Lib.hid (And.intro hg4 hg)
      have HBL := Lib.hid hb4
      clear hcs hx hg4 hb4 hkd hxn hnm hxb hnk hnsz hbsz
      by_cases hk0 : kd = 0
      · by_cases hsz : 10000 < xb.size
        · have d0 : (kd != 0) = false := by simp [hk0]
          have d2 : decide ((10000 : Int) < (xb.size : Int)) = true := decide_eq_true (by omega)
          clear hk0 hsz
          go_wp2_with fail
          go_roundw
          case rel => exact ⟨k + 1, lz, by omega, hlz, by go_num, rfl, Lib.hid ⟨F, HOK.out.mono (by omega), HL4.out⟩, HB4⟩
          case measure => simp [intOf]; omega
        · have d0 : (kd != 0) = false := by simp [hk0]
          have d2 : decide ((10000 : Int) < (xb.size : Int)) = false := decide_eq_false (by omega)
          have hsz2 : xb.size ≤ 10000 := by omega
          clear hk0 hsz
          obtain ⟨cv, w5, hcv, hsl, hb5, -⟩ := conv_bytes W4 xb HNS.out.2
          have HSL := Lib.hid hsl
          have HB5 := Lib.hid hb5
          have HV5 : Hid (DkV w5 (Grow S w3 wr) p m Vk true lz F) := Lib.hid (HV4.out.below hb5)
          have HSB : Hid ((sb xb).length = xb.size) := Lib.hid (sb_length xb)
          have HSZ := Lib.hid hsz2
          have hg5 := (hb5.block _ (row_lt HG4.out.1)).trans HG4.out.1
          have HG5 := Lib.hid hg5
          clear hsl hb5 hg5
          go_wp2_with fail
          clear hcv y0 y2 y3 hW4
          refine (append_any (n := 10000 * k) nm _ (sb xb) w5 HV5.out HOK.out HNS.out.1 HSL.out (sb_wf xb) (by have := HSB.out; have := HSZ.out; omega) (by unfold leftOk; omega)).mono ?_
          rintro e w6 ⟨rfl, hl6⟩
          unfold LeftS at hl6
          have hg6 : w6.heap[g]? = _ := (hl6.2.2.2.2.2 g (row_lt HG5.out) (fun q => by have := HVK.out.low g q; have := HG4.out.2; omega)).trans HG5.out
          have y3 : w6.cell? ⟨g, 3, none⟩ = some (.string xb) := (cell_of_row _ _ 3 _ _ _ hg6).trans rfl
          have HO5 : Hid (Only S w3 w5) := Lib.hid (HL4.out.2.trans (Below.only HB5.out S))
          have hS6 : ∀ {on : Bool} {left : Int} {F6 : List Fl}, Dk.Left (Grow S w3 wr) p m w5 w6 on left F6 → Dk.Left S p m w3 w6 on left F6 := fun h => Dk.Left.after HO5.out (fun k hk => by
            rcases hk with hk | hk
            · exact .inl hk
            · exact .inr ⟨hk.1, Nat.lt_of_lt_of_le hk.2 (Nat.le_trans HBL.out.size HB5.out.size)⟩) H3.out.low h
          have HB6 : Hid (Below w.heap.size w w6) := Lib.hid ((hS6 hl6).2.below HB3.out HB3.out.size HSW.out)
          clear hg6
          rcases app_armed (n := 10000 * k) (x := nm) hlz.1 HOK.out (sb_wf xb) with ⟨hE, hs⟩ | ⟨hE, hle, F', hok', hs⟩ | ⟨hE, hle, F', hs⟩
          · rw [hs] at hl6
            have HL6 := Lib.hid (hS6 hl6)
            clear hl6 hs
            rcases hE with hE | hE
            all_goals
              rw [hE]
              clear hE hS6
              go_wp2_with fail
              go_roundw
              case rel => exact ⟨k + 1, lz, by omega, hlz, by go_num, rfl, Lib.hid ⟨F, HOK.out.mono (by omega), HL6.out⟩, HB6⟩
              case measure => simp [intOf]; omega
          · rw [hs] at hl6
            have HL6 := Lib.hid (hS6 hl6)
            obtain ⟨⟨V6, hv6⟩, -⟩ := HL6.out
            have HV6 := Lib.hid hv6
            have HOK6 := Lib.hid hok'
            rw [HSB.out] at hle
            have d3 : decide ((xb.size : Int) ≤ lz) = true := decide_eq_true hle
            have HLE := Lib.hid hle
            clear hl6 hs hv6 hok' hS6
            rw [hE]
            clear hE
            go_wp2_with fail
            refine (on_any _ HV6.out).mono ?_
            rintro e w7 ⟨rfl, rfl⟩
            go_wp2_with fail
            go_roundw
            case rel => exact ⟨k + 1, lz - xb.size, by omega, by have := HLE.out; omega, by go_num, by go_num, Lib.hid ⟨F', HOK6.out.mono (by have := HSB.out; have := HSZ.out; omega), by have := HL6.out; rw [HSB.out] at this; exact this⟩, HB6⟩
            case measure => simp [intOf]; omega
          · rw [hs] at hl6
            have HL6 := Lib.hid (hS6 hl6)
            obtain ⟨⟨V6, hv6⟩, -⟩ := HL6.out
            have HV6 := Lib.hid hv6
            rw [HSB.out] at hle
            have d3 : decide ((xb.size : Int) ≤ lz) = false := decide_eq_false (by omega)
            clear hl6 hs hv6 hS6
            rw [hE]
            clear hE
            go_wp2_with fail
            refine (on_any _ HV6.out).mono ?_
            rintro e w7 ⟨rfl, rfl⟩
            go_wp2_with fail
            go_ret
            exact ⟨rfl, HB6.out⟩
      · have d0 : (kd != 0) = true := by simpa using hk0
        clear hk0
        go_wp2_with fail
        go_roundw
        case rel => exact ⟨k + 1, lz, by omega, hlz, by go_num, rfl, Lib.hid ⟨F, HOK.out.mono (by omega), HL4.out⟩, HB4⟩
        case measure => simp [intOf]; omega
    · obtain rfl : k = rows.length := by omega
      have HBF := HBW
      go_wp2_with fail
      refine (on_any _ HVK.out).mono ?_
      rintro e w7 ⟨rfl, rfl⟩
      go_wp2_with fail
      go_ret
      exact ⟨rfl, HBF.out⟩

set_option maxRecDepth 100000 in
theorem contract (H : Type) (enc : TypeId × Value → H) (W : World) (base : Nat) (args : Array Value) (ds gs : List (DataW H)) (before : List MemPlace)
    (hval0 : ∀ (j : Nat) t v, Try.f5.params[j]? = some t → args[j]? = some v → Value.okWide Try.prog W .any base t v)
    (hW : DataW.Whole enc Try.prog Try.f5.params.toList Rows.diskArmedSpec.vars false W args.toList ds gs before)
    (hsz0 : (DataW.weightsEach Try.prog (Try.f5.params.toList ++ Rows.diskArmedSpec.plain.varTypes Try.prog) (ds ++ gs)).all (· ≤ reachBytes) = true) :
    Calls Try.prog 5 args W fun e W' => ∃ v, e = .returned v ∧ Rows.diskArmedSpec.post enc Try.prog Try.f5 false true false false W args v W' := by
  have hval : ∀ (j : Nat) t v, Try.f5.params[j]? = some t → args[j]? = some v → Value.okWide Try.prog W .any base t v := hval0
  have hW' := hW
  obtain ⟨p, q, hA0, hV, rfl, hfz, hnd⟩ := hW
  have hA : DataW.TrodAll enc Try.prog W 0 (fun _ => true) true Try.f5.params.toList args.toList ds p := hA0
  rw [Try.params5] at hA hval
  have hsz := hsz0
  rw [Try.params5] at hsz
  obtain ⟨v0, vs0, d0, ds0, p0, q0, hargs, rfl, rfl, h0, r0⟩ := trodAll_cons hA
  obtain ⟨v1, vs1, d1, ds1, p1, q1, rfl, rfl, rfl, h1, r1⟩ := trodAll_cons r0
  obtain ⟨rfl, rfl, rfl⟩ := trodAll_nil r1
  obtain rfl : args = #[v0, v1] := by cases args; simp_all
  obtain ⟨rfl, rfl⟩ := trodVars_none hV
  clear hA0 hval0
  have k0 := h0
  have lt0 : ∀ x ∈ p0, x.block < W.heap.size := by obtain ⟨m, hm⟩ := k0; exact DataW.trod_lt m _ _ _ hm
  have k1 := h1
  have lt1 : ∀ x ∈ p1, x.block < W.heap.size := by obtain ⟨m, hm⟩ := k1; exact DataW.trod_lt m _ _ _ hm
  obtain ⟨x0, w0, -⟩ := open_dops (hval 0 22 v0 rfl rfl) k0
  obtain ⟨a1, rfl, -, -, w1⟩ := open_int Try.underlying3 (hval 1 3 v1 rfl rfl) h1
  refine (walk v0 x0 a1 W w0 w1).mono fun e W' ⟨he, bel⟩ => ?_
  subst he
  exact ⟨_, rfl, _, _, _, [], _, [], hW', trodAll_mk1 (shut_bool Try.underlying4 _), (trodAll_cons_mk (Below.trod laidOut (by kernel_rfl) (of_decide_eq_true (by kernel_rfl)) k0 bel lt0) (trodAll_cons_mk (Below.trod laidOut (by kernel_rfl) (of_decide_eq_true (by kernel_rfl)) k1 bel lt1) trodAll_mk0)), rfl, bel.frame _, fun h => by cases h⟩

set_option maxRecDepth 100000 in
theorem lifted (os : Os) (started : os.Started) (H : Type) (enc : TypeId × Value → H) :
    ReturnsInHanded {} Try.checked os 5 .any (Rows.diskArmedSpec.pre6 enc Try.prog Try.f5 Rows.diskArmedRow.domain false) (Rows.diskArmedSpec.post enc Try.prog Try.f5 false true false false) := by
  refine returnsInHanded_of_change_sized (C := Try.checked) own started (by kernel_rfl) Try.func5
    (ChangeSpec.witness6 (enc := enc) (C := Try.checked) false ⟨#[], #[.slice none 0 0, .int .i64 0], []⟩ 8 (by kernel_rfl) (by kernel_rfl) (by kernel_rfl) (by kernel_rfl)) ?_
  intro W base args ds gs before hval0 hW hcnd hsz _
  exact contract H enc W base args ds gs before hval0 hW hsz

theorem proved : Rows.DiskArmedSaid :=
  OpenClaim.holds_of_wide 5 Try.f5 rfl rfl rfl rfl rfl rfl rfl ⟨rfl, rfl, rfl, rfl, rfl⟩ rfl rfl rfl rfl rfl (by kernel_rfl) Try.func5 (by kernel_rfl)
    (of_decide_eq_true (by kernel_rfl)) (by unfold Func.isWrapper; first | (rw [if_pos (by decide +kernel)]; kernel_rfl) | (rw [if_neg (by decide +kernel)]; exact ⟨rfl, rfl⟩))
    (fun os started H enc _ => lifted os started H enc)
end Go.Proofs.Ytfaifdidillkaaa.diskArmed
