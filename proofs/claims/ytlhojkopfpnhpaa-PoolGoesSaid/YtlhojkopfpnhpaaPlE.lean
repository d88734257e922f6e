/- Package pool: Close, Want, Free, Leave, Has, Conns, Waits, Clone. No condition. -/
import Derived.Test.YtlhojkopfpnhpaaPlD
import Derived.Test.YtlhojkopfpnhpaaInConn
import Derived.Test.YtlhojkopfpnhpaaInInt
namespace Go.Proofs.Ytlhojkopfpnhpaa
open Go.ChangeShapes Go.WideShapes Go.ChangeAt Go.RowKit Go.Deep
set_option linter.unusedVariables false
set_option maxRecDepth 100000
set_option linter.unusedSimpArgs false
namespace Pl
theorem PoolAt.tok2 {w : World} {p : Nat} {cs : List Cn} {ws : List Int} (h : PoolAt w p cs ws) {i : Nat} {x : Cn} (hx : cs[i]? = some x) : w.cell? ⟨p, i * 2, none⟩ = some (.int .i64 x.tok) ∧ w.cell? ⟨p, i * 2 + 1, none⟩ = some (.int .i64 x.sess) := by
  rw [Nat.mul_comm i 2]; exact h.tok hx
theorem has_at {t : Int} {cs : List Cn} (hh : hasC t cs = true) : ∃ x, cs[posC t cs]? = some x ∧ x.tok = t := by
  unfold hasC at hh
  have := of_decide_eq_true hh
  obtain ⟨x, hx, e⟩ := Option.map_eq_some_iff.1 this
  exact ⟨x, hx, e⟩
theorem del_get (cs : List Cn) (a i : Nat) : (cs.eraseIdx a)[i]? = if i < a then cs[i]? else cs[i + 1]? := List.getElem?_eraseIdx ..
/-- the row behind 'Close' -/
theorem close_row {cs : List Cn} {ws : List Int} {a OFF : Nat} (h8 : cs.length ≤ 8) (hw : ws.length ≤ 4) (ha : a < cs.length) (hO : (if 8 = a + 1 then 0 else (a + 1) * 2) = OFF) (i : Nat) (hi : i < 22) :
    (if i = (cs.length - 1) * 2 + 1 then (0 : Int) else if i = (cs.length - 1) * 2 then 0 else if i = 16 then (cs.length : Int) - 1 else cpy (a * 2) OFF ((cs.length - (a + 1)) * 2) (cellOf cs ws) i) = cellOf (cs.eraseIdx a) ws i := by
  have hlen : (cs.eraseIdx a).length = cs.length - 1 := List.length_eraseIdx_of_lt ha
  by_cases h1 : i < 16
  · have hr : cellOf (cs.eraseIdx a) ws i = if i % 2 = 0 then ((if i / 2 < a then cs[i / 2]? else cs[i / 2 + 1]?).map Cn.tok).getD 0 else ((if i / 2 < a then cs[i / 2]? else cs[i / 2 + 1]?).map Cn.sess).getD 0 := by
      unfold cellOf
      rw [if_pos h1, del_get]
    rw [hr]
    by_cases h2 : i / 2 = cs.length - 1
    · have hz : (if i = (cs.length - 1) * 2 + 1 then (0 : Int) else if i = (cs.length - 1) * 2 then 0 else if i = 16 then (cs.length : Int) - 1 else cpy (a * 2) OFF ((cs.length - (a + 1)) * 2) (cellOf cs ws) i) = 0 := by
        by_cases h3 : i = (cs.length - 1) * 2 + 1
        · rw [if_pos h3]
        · rw [if_neg h3, if_pos (by omega)]
      rw [hz, if_neg (show ¬ i / 2 < a by omega), List.getElem?_eq_none (by omega)]
      split <;> rfl
    · rw [if_neg (by omega), if_neg (by omega), if_neg (by omega)]
      by_cases h4 : i / 2 < a
      · have hc : cpy (a * 2) OFF ((cs.length - (a + 1)) * 2) (cellOf cs ws) i = cellOf cs ws i := by
          unfold cpy
          rw [if_neg (by omega)]
        rw [hc]
        unfold cellOf
        rw [if_pos h1, if_pos h4]
      · rw [if_neg h4]
        by_cases h6 : i / 2 + 1 < cs.length
        · have hc : cpy (a * 2) OFF ((cs.length - (a + 1)) * 2) (cellOf cs ws) i = cellOf cs ws (i + 2) := by
            unfold cpy
            rw [if_neg (by omega)] at hO
            rw [if_pos (by omega), show i - a * 2 + OFF = i + 2 by omega]
          rw [hc]
          unfold cellOf
          rw [if_pos (by omega), show (i + 2) % 2 = i % 2 by omega, show (i + 2) / 2 = i / 2 + 1 by omega]
        · have hc : cpy (a * 2) OFF ((cs.length - (a + 1)) * 2) (cellOf cs ws) i = cellOf cs ws i := by
            unfold cpy
            rw [if_neg (by omega)]
          rw [hc]
          unfold cellOf
          rw [if_pos h1, List.getElem?_eq_none (by omega), List.getElem?_eq_none (by omega)]
  · have hc : cpy (a * 2) OFF ((cs.length - (a + 1)) * 2) (cellOf cs ws) i = cellOf cs ws i := by
      unfold cpy
      rw [if_neg (by omega)]
    rw [if_neg (by omega), if_neg (by omega), hc]
    unfold cellOf
    rw [if_neg h1, if_neg h1, hlen]
    by_cases h2 : i = 16
    · rw [if_pos h2, if_pos h2]; omega
    · rw [if_neg h2, if_neg h2, if_neg h2]
def closeE (t : Int) (cs : List Cn) : Int := if hasC t cs = true then 0 else 4
def closeV (t : Int) (cs : List Cn) : Int := if hasC t cs = true then ((cs[posC t cs]?).map Cn.sess).getD 0 else 0
def closeC (t : Int) (cs : List Cn) : List Cn := if hasC t cs = true then cs.eraseIdx (posC t cs) else cs

set_option maxHeartbeats 2000000 in
theorem close_good {p : Nat} {cs : List Cn} {ws : List Int} (t : Int) (w : World) (h : PoolAt w p cs ws) (hs : Sorted cs) (hh : hasC t cs = true) {x : Cn} (hx : cs[posC t cs]? = some x) : Calls Try.prog 8 #[.pointer (some ⟨p, 0, none⟩), .int .i64 t] w (OpR p x.sess 0 (cs.eraseIdx (posC t cs)) ws w) := by
  have HD := Lib.hid h
  have HS := Lib.hid hs
  have HH := Lib.hid hh
  have hl8 := h.2.1
  have HWL := Lib.hid h.2.2
  obtain ⟨a, hap⟩ : ∃ q, posC t cs = q := ⟨_, rfl⟩
  rw [hap] at hx ⊢
  have ha : a < cs.length := (List.getElem?_eq_some_iff.1 hx).1
  have HA := Lib.hid hap
  have HX := Lib.hid hx
  clear h hs hh hap hx
  go_enter Try.func8, Try.ntmps8
  go_wp2_with fail
  refine (find_any t _ HD.out HS.out).mono ?_
  rintro e w2 ⟨rfl, hb⟩
  rw [HH.out, HA.out]
  have HD2 := Lib.hid (PoolAt.below HD.out hb)
  have HDD := Lib.hid HD2.out.drew
  have HO2 := Lib.hid (Below.onlyP hb (fun k => k = p))
  obtain ⟨t0, t1⟩ := HD2.out.tok2 HX.out
  have hai : (a : Int) < 8 := by omega
  clear hb
  go_upto_region 7 with fail
  clear t0 t1 hai
  obtain ⟨OFF, hOFF⟩ : ∃ q, (if 8 = a + 1 then 0 else (a + 1) * 2) = q := ⟨_, rfl⟩
  obtain ⟨cur, hcu, hcl, hln, hsr, ho1, hraw⟩ := RawP.cpy HDD.out.1 (a * 2) OFF ((cs.length - (a + 1)) * 2) (by split at hOFF <;> omega) (by omega)
  have HCU := Lib.hid hcu
  have HCL := Lib.hid hcl
  have HLN := Lib.hid hln
  have HSR := Lib.hid hsr
  have HO1 := Lib.hid ho1
  have HMN : Hid (Nat.min (cs.length - (a + 1)) (8 - a) = cs.length - (a + 1)) := Lib.hid (Nat.min_eq_left (by omega))
  obtain ⟨W4, hW4⟩ : ∃ q, w2.drew.setRow p (splice cur (a * 2) ((List.range ((cs.length - (a + 1)) * 2)).map fun j => Value.int .i64 (cellOf cs ws (OFF + j)))).toArray = q := ⟨_, rfl⟩
  rw [hW4] at hraw
  have c16 : W4.cell? ⟨p, 16, none⟩ = some (.int .i64 (cs.length : Int)) := by
    have e : cpy (a * 2) OFF ((cs.length - (a + 1)) * 2) (cellOf cs ws) 16 = (cs.length : Int) := by
      unfold cpy
      rw [if_neg (by omega)]
      rfl
    rw [← e]
    exact hraw.c 16 (by omega)
  have z16 := hraw.z 16
  obtain ⟨W5, hW5⟩ : ∃ q, W4.setCell ⟨p, 16, none⟩ (.int .i64 ((cs.length : Int) - 1)) = q := ⟨_, rfl⟩
  have hr5 := hraw.set 16 ((cs.length : Int) - 1)
  rw [hW5] at hr5
  have HP5 : Hid (W5.drew.cell? ⟨p, 16, none⟩ = some (.int .i64 ((cs.length : Int) - 1))) := Lib.hid (hr5.drew.c 16 (by omega))
  have hth := hr5.drew.there ((cs.length - 1) * 2) 2 (by omega)
  obtain ⟨W6, hW6⟩ : ∃ q, W5.drew.setCells p ((cs.length - 1) * 2) [.int .i64 0, .int .i64 0] = q := ⟨_, rfl⟩
  have hr6 := hr5.drew.two ((cs.length - 1) * 2) 0 0
  rw [hW6] at hr6
  have HF : Hid (PoolAt W6 p (cs.eraseIdx a) ws ∧ Only (fun k => k = p) w W6) := Lib.hid ⟨⟨hr6.congr (fun i hi => close_row hl8 HWL.out ha hOFF i hi), by rw [List.length_eraseIdx_of_lt ha]; omega, HWL.out⟩, by
    rw [← hW6, ← hW5, ← hW4]
    exact ((((HO2.out.drew.row p _ rfl).set p 16 _ rfl).drew).two p _ _ _ rfl)⟩
  clear hcu hcl hln hsr ho1 hraw hr5 hr6
  refine Wl.start 15 (fun u => PoolAt u p cs ws) (fun _ => True) (by kernel_rfl) HDD.out trivial (fun hk => ?_)
  refine Wl.take (i := 0) (v := .pointer (some ⟨p, 0, none⟩)) [1, 2, 4, 15] rfl (by kernel_rfl) (by kernel_rfl) (by kernel_rfl) (by kernel_rfl) (by kernel_rfl) (fun _ _ _ h => h) (.inl ⟨by kernel_rfl, ?_⟩) hk ?_
  · intro wx hSw
    clear hSw hk
    go_simp
    try first | with_reducible rfl | kernel_rfl
  simp only [Act.put, List.getElem_toArray, List.getElem_cons_succ, List.getElem_cons_zero, List.setIfInBounds_toArray, List.set_cons_succ, List.set_cons_zero]
  refine Wl.take (i := 1) (v := .pointer (some ⟨p, 0, none⟩)) [2, 4, 15] rfl (by kernel_rfl) (by kernel_rfl) (by kernel_rfl) (by kernel_rfl) (by kernel_rfl) (fun _ _ _ h => h) (.inl ⟨by kernel_rfl, ?_⟩) hk ?_
  · intro wx hSw
    clear hSw hk
    go_simp
    try first | with_reducible rfl | kernel_rfl
  simp only [Act.put, List.getElem_toArray, List.getElem_cons_succ, List.getElem_cons_zero, List.setIfInBounds_toArray, List.set_cons_succ, List.set_cons_zero]
  refine Wl.take (i := 2) (v := .pointer (some ⟨p, 0, none⟩)) [4, 15] rfl (by kernel_rfl) (by kernel_rfl) (by kernel_rfl) (by kernel_rfl) (by kernel_rfl) (fun _ _ _ h => h) (.inl ⟨by kernel_rfl, ?_⟩) hk ?_
  · intro wx hSw
    clear hSw hk
    go_simp
    try first | with_reducible rfl | kernel_rfl
  simp only [Act.put, List.getElem_toArray, List.getElem_cons_succ, List.getElem_cons_zero, List.setIfInBounds_toArray, List.set_cons_succ, List.set_cons_zero]
  refine Wl.take (i := 3) (v := .int .i64 (a : Int)) [4, 15] rfl (by kernel_rfl) (by kernel_rfl) (by kernel_rfl) (by kernel_rfl) (by kernel_rfl) (fun _ _ _ h => h) (.inl ⟨by kernel_rfl, ?_⟩) hk ?_
  · intro wx hSw
    clear hSw hk
    go_simp
    try first | with_reducible rfl | kernel_rfl
  simp only [Act.put, List.getElem_toArray, List.getElem_cons_succ, List.getElem_cons_zero, List.setIfInBounds_toArray, List.set_cons_succ, List.set_cons_zero]
  refine Wl.take (i := 4) (v := .slice (some ⟨p, a * 2, none⟩) (8 - a) (8 - a)) [15] rfl (by kernel_rfl) (by kernel_rfl) (by kernel_rfl) (by kernel_rfl) (by kernel_rfl) (fun _ _ _ h => h) (.inl ⟨by kernel_rfl, ?_⟩) hk ?_
  · intro wx hSw
    have hne : ¬ (8 = a) := by omega
    have hq1 : (a : Int) ≤ 8 := by omega
    clear hSw hk
    go_simp
    try first | with_reducible rfl | kernel_rfl
  simp only [Act.put, List.getElem_toArray, List.getElem_cons_succ, List.getElem_cons_zero, List.setIfInBounds_toArray, List.set_cons_succ, List.set_cons_zero]
  refine Wl.take (i := 5) (v := .pointer (some ⟨p, 0, none⟩)) [6, 7, 14, 15] rfl (by kernel_rfl) (by kernel_rfl) (by kernel_rfl) (by kernel_rfl) (by kernel_rfl) (fun _ _ _ h => h) (.inl ⟨by kernel_rfl, ?_⟩) hk ?_
  · intro wx hSw
    clear hSw hk
    go_simp
    try first | with_reducible rfl | kernel_rfl
  simp only [Act.put, List.getElem_toArray, List.getElem_cons_succ, List.getElem_cons_zero, List.setIfInBounds_toArray, List.set_cons_succ, List.set_cons_zero]
  refine Wl.take (i := 6) (v := .pointer (some ⟨p, 0, none⟩)) [7, 14, 15] rfl (by kernel_rfl) (by kernel_rfl) (by kernel_rfl) (by kernel_rfl) (by kernel_rfl) (fun _ _ _ h => h) (.inl ⟨by kernel_rfl, ?_⟩) hk ?_
  · intro wx hSw
    clear hSw hk
    go_simp
    try first | with_reducible rfl | kernel_rfl
  simp only [Act.put, List.getElem_toArray, List.getElem_cons_succ, List.getElem_cons_zero, List.setIfInBounds_toArray, List.set_cons_succ, List.set_cons_zero]
  refine Wl.take (i := 7) (v := .pointer (some ⟨p, 0, none⟩)) [14, 15] rfl (by kernel_rfl) (by kernel_rfl) (by kernel_rfl) (by kernel_rfl) (by kernel_rfl) (fun _ _ _ h => h) (.inl ⟨by kernel_rfl, ?_⟩) hk ?_
  · intro wx hSw
    clear hSw hk
    go_simp
    try first | with_reducible rfl | kernel_rfl
  simp only [Act.put, List.getElem_toArray, List.getElem_cons_succ, List.getElem_cons_zero, List.setIfInBounds_toArray, List.set_cons_succ, List.set_cons_zero]
  refine Wl.take (i := 8) (v := .int .i64 (a : Int)) [9, 14, 15] rfl (by kernel_rfl) (by kernel_rfl) (by kernel_rfl) (by kernel_rfl) (by kernel_rfl) (fun _ _ _ h => h) (.inl ⟨by kernel_rfl, ?_⟩) hk ?_
  · intro wx hSw
    clear hSw hk
    go_simp
    try first | with_reducible rfl | kernel_rfl
  simp only [Act.put, List.getElem_toArray, List.getElem_cons_succ, List.getElem_cons_zero, List.setIfInBounds_toArray, List.set_cons_succ, List.set_cons_zero]
  refine Wl.take (i := 9) (v := .int .i64 ((a : Int) + 1)) [14, 15] rfl (by kernel_rfl) (by kernel_rfl) (by kernel_rfl) (by kernel_rfl) (by kernel_rfl) (fun _ _ _ h => h) (.inl ⟨by kernel_rfl, ?_⟩) hk ?_
  · intro wx hSw
    have hwr : IntKind.i64.wrap ((a : Int) + 1) = (a : Int) + 1 := by rw [IntKind.wrap_i64]; omega
    clear hSw hk
    go_simp
    try first | with_reducible rfl | kernel_rfl
  simp only [Act.put, List.getElem_toArray, List.getElem_cons_succ, List.getElem_cons_zero, List.setIfInBounds_toArray, List.set_cons_succ, List.set_cons_zero]
  refine Wl.take (i := 10) (v := .pointer (some ⟨p, 0, none⟩)) [11, 12, 13, 14, 15] rfl (by kernel_rfl) (by kernel_rfl) (by kernel_rfl) (by kernel_rfl) (by kernel_rfl) (fun _ _ _ h => h) (.inl ⟨by kernel_rfl, ?_⟩) hk ?_
  · intro wx hSw
    clear hSw hk
    go_simp
    try first | with_reducible rfl | kernel_rfl
  simp only [Act.put, List.getElem_toArray, List.getElem_cons_succ, List.getElem_cons_zero, List.setIfInBounds_toArray, List.set_cons_succ, List.set_cons_zero]
  refine Wl.take (i := 11) (v := .pointer (some ⟨p, 0, none⟩)) [12, 13, 14, 15] rfl (by kernel_rfl) (by kernel_rfl) (by kernel_rfl) (by kernel_rfl) (by kernel_rfl) (fun _ _ _ h => h) (.inl ⟨by kernel_rfl, ?_⟩) hk ?_
  · intro wx hSw
    clear hSw hk
    go_simp
    try first | with_reducible rfl | kernel_rfl
  simp only [Act.put, List.getElem_toArray, List.getElem_cons_succ, List.getElem_cons_zero, List.setIfInBounds_toArray, List.set_cons_succ, List.set_cons_zero]
  refine Wl.take (i := 12) (v := .pointer (some ⟨p, 16, none⟩)) [13, 14, 15] rfl (by kernel_rfl) (by kernel_rfl) (by kernel_rfl) (by kernel_rfl) (by kernel_rfl) (fun _ _ _ h => h) (.inl ⟨by kernel_rfl, ?_⟩) hk ?_
  · intro wx hSw
    clear hSw hk
    go_simp
    try first | with_reducible rfl | kernel_rfl
  simp only [Act.put, List.getElem_toArray, List.getElem_cons_succ, List.getElem_cons_zero, List.setIfInBounds_toArray, List.set_cons_succ, List.set_cons_zero]
  refine Wl.take (i := 13) (v := .int .i64 (cs.length : Int)) [14, 15] rfl (by kernel_rfl) (by kernel_rfl) (by kernel_rfl) (by kernel_rfl) (by kernel_rfl) (fun _ _ _ h => h) (.inl ⟨by kernel_rfl, ?_⟩) hk ?_
  · intro wx hSw
    have cc := hSw.1.many
    clear hSw hk
    go_simp
    try first | with_reducible rfl | kernel_rfl
  simp only [Act.put, List.getElem_toArray, List.getElem_cons_succ, List.getElem_cons_zero, List.setIfInBounds_toArray, List.set_cons_succ, List.set_cons_zero]
  refine Wl.take (i := 14) (v := .slice (some ⟨p, OFF, none⟩) (cs.length - (a + 1)) (8 - (a + 1))) [15] rfl (by kernel_rfl) (by kernel_rfl) (by kernel_rfl) (by kernel_rfl) (by kernel_rfl) (fun _ _ _ h => h) (.inl ⟨by kernel_rfl, ?_⟩) hk ?_
  · intro wx hSw
    rw [← hOFF]
    have hq2 : (cs.length : Int) ≤ 8 := by omega
    have hkl := ha
    by_cases hc : a = 7
    · subst hc
      have hq5 : (8 : Int) ≤ (cs.length : Int) := by omega
      have hq6 : cs.length - 8 = 0 := by omega
      clear hSw hk hkl
      go_simp
      try first | with_reducible rfl | kernel_rfl
    have hne : ¬ (8 = a + 1) := by omega
    have hne2 : ¬ (7 = a) := by omega
    have hq7 : (a : Int) + 1 ≤ (cs.length : Int) := by omega
    have hq8 : (0 : Int) ≤ (a : Int) + 1 := by omega
    have hq9 : ((a : Int) + 1).toNat = a + 1 := by omega
    have hq10 : 8 - (a + 1) = 7 - a := by omega
    clear hkl
    clear hSw hk
    go_simp
    try first | with_reducible rfl | kernel_rfl
  simp only [Act.put, List.getElem_toArray, List.getElem_cons_succ, List.getElem_cons_zero, List.setIfInBounds_toArray, List.set_cons_succ, List.set_cons_zero]
  refine Wl.one (i := 15) (by kernel_rfl) rfl (fun K hK => ?_)
  refine Sg.step_copy_rows rfl (.tmp 30) (.tmp 40) _ _ rfl 40 2 Try.underlying48 (by kernel_rfl) p (a * 2) (8 - a) (8 - a) ⟨p, OFF, none⟩ (cs.length - (a + 1)) (8 - (a + 1)) rfl rfl cur 44 HCU.out ((List.range ((cs.length - (a + 1)) * 2)).map fun j => Value.int .i64 (cellOf cs ws (OFF + j))) (by rw [HLN.out, HMN.out]) HSR.out (by rw [HLN.out, HCL.out]; omega) HO1.out ?_
  try rw [hW4]
  refine hK.out _ _ (Wl.Kn.off (by kernel_rfl) trivial) (fun hk => ?_)
  clear hK K
  refine Wl.done (by kernel_rfl) ?_ _
  clear hk
  go_upto_region 9 with fail
  refine Wl.start 9 (fun u => u.cell? ⟨p, 16, none⟩ = some (.int .i64 ((cs.length : Int) - 1))) (fun _ => True) (by kernel_rfl) HP5.out trivial (fun hk => ?_)
  refine Wl.take (i := 0) (v := .pointer (some ⟨p, 0, none⟩)) [6, 7, 8, 9] rfl (by kernel_rfl) (by kernel_rfl) (by kernel_rfl) (by kernel_rfl) (by kernel_rfl) (fun _ _ _ h => h) (.inl ⟨by kernel_rfl, ?_⟩) hk ?_
  · intro wx hSw
    clear hSw hk
    go_simp
    try first | with_reducible rfl | kernel_rfl
  simp only [Act.put, List.getElem_toArray, List.getElem_cons_succ, List.getElem_cons_zero, List.setIfInBounds_toArray, List.set_cons_succ, List.set_cons_zero]
  refine Wl.take (i := 1) (v := .pointer (some ⟨p, 0, none⟩)) [2, 3, 4, 8, 9] rfl (by kernel_rfl) (by kernel_rfl) (by kernel_rfl) (by kernel_rfl) (by kernel_rfl) (fun _ _ _ h => h) (.inl ⟨by kernel_rfl, ?_⟩) hk ?_
  · intro wx hSw
    clear hSw hk
    go_simp
    try first | with_reducible rfl | kernel_rfl
  simp only [Act.put, List.getElem_toArray, List.getElem_cons_succ, List.getElem_cons_zero, List.setIfInBounds_toArray, List.set_cons_succ, List.set_cons_zero]
  refine Wl.take (i := 2) (v := .pointer (some ⟨p, 0, none⟩)) [3, 4, 8, 9] rfl (by kernel_rfl) (by kernel_rfl) (by kernel_rfl) (by kernel_rfl) (by kernel_rfl) (fun _ _ _ h => h) (.inl ⟨by kernel_rfl, ?_⟩) hk ?_
  · intro wx hSw
    clear hSw hk
    go_simp
    try first | with_reducible rfl | kernel_rfl
  simp only [Act.put, List.getElem_toArray, List.getElem_cons_succ, List.getElem_cons_zero, List.setIfInBounds_toArray, List.set_cons_succ, List.set_cons_zero]
  refine Wl.take (i := 3) (v := .pointer (some ⟨p, 16, none⟩)) [4, 8, 9] rfl (by kernel_rfl) (by kernel_rfl) (by kernel_rfl) (by kernel_rfl) (by kernel_rfl) (fun _ _ _ h => h) (.inl ⟨by kernel_rfl, ?_⟩) hk ?_
  · intro wx hSw
    clear hSw hk
    go_simp
    try first | with_reducible rfl | kernel_rfl
  simp only [Act.put, List.getElem_toArray, List.getElem_cons_succ, List.getElem_cons_zero, List.setIfInBounds_toArray, List.set_cons_succ, List.set_cons_zero]
  refine Wl.take (i := 4) (v := .int .i64 ((cs.length : Int) - 1)) [8, 9] rfl (by kernel_rfl) (by kernel_rfl) (by kernel_rfl) (by kernel_rfl) (by kernel_rfl) (fun _ _ _ h => h) (.inl ⟨by kernel_rfl, ?_⟩) hk ?_
  · intro wx hSw
    have cc := hSw.1
    clear hSw hk
    go_simp
    try first | with_reducible rfl | kernel_rfl
  simp only [Act.put, List.getElem_toArray, List.getElem_cons_succ, List.getElem_cons_zero, List.setIfInBounds_toArray, List.set_cons_succ, List.set_cons_zero]
  refine Wl.take (i := 5) (v := .agg #[.int .i64 0, .int .i64 0]) [8, 9] rfl (by kernel_rfl) (by kernel_rfl) (by kernel_rfl) (by kernel_rfl) (by kernel_rfl) (fun _ _ _ h => h) (.inl ⟨by kernel_rfl, ?_⟩) hk ?_
  · intro wx hSw
    clear hSw hk
    go_simp
    try first | with_reducible rfl | kernel_rfl
  simp only [Act.put, List.getElem_toArray, List.getElem_cons_succ, List.getElem_cons_zero, List.setIfInBounds_toArray, List.set_cons_succ, List.set_cons_zero]
  refine Wl.take (i := 6) (v := .pointer (some ⟨p, 0, none⟩)) [7, 8, 9] rfl (by kernel_rfl) (by kernel_rfl) (by kernel_rfl) (by kernel_rfl) (by kernel_rfl) (fun _ _ _ h => h) (.inl ⟨by kernel_rfl, ?_⟩) hk ?_
  · intro wx hSw
    clear hSw hk
    go_simp
    try first | with_reducible rfl | kernel_rfl
  simp only [Act.put, List.getElem_toArray, List.getElem_cons_succ, List.getElem_cons_zero, List.setIfInBounds_toArray, List.set_cons_succ, List.set_cons_zero]
  refine Wl.take (i := 7) (v := .pointer (some ⟨p, 0, none⟩)) [8, 9] rfl (by kernel_rfl) (by kernel_rfl) (by kernel_rfl) (by kernel_rfl) (by kernel_rfl) (fun _ _ _ h => h) (.inl ⟨by kernel_rfl, ?_⟩) hk ?_
  · intro wx hSw
    clear hSw hk
    go_simp
    try first | with_reducible rfl | kernel_rfl
  simp only [Act.put, List.getElem_toArray, List.getElem_cons_succ, List.getElem_cons_zero, List.setIfInBounds_toArray, List.set_cons_succ, List.set_cons_zero]
  refine Wl.take (i := 8) (v := .pointer (some ⟨p, (cs.length - 1) * 2, none⟩)) [9] rfl (by kernel_rfl) (by kernel_rfl) (by kernel_rfl) (by kernel_rfl) (by kernel_rfl) (fun _ _ _ h => h) (.inl ⟨by kernel_rfl, ?_⟩) hk ?_
  · intro wx hSw
    have hi0 : (1 : Int) ≤ (cs.length : Int) := by omega
    have hi1 : (0 : Int) ≤ (cs.length : Int) - 1 := by omega
    have hi2 : (cs.length : Int) - 1 < 8 := by omega
    have hi3 : ((cs.length : Int) - 1).toNat = cs.length - 1 := by omega
    clear hSw hk
    go_simp
    try first | with_reducible rfl | kernel_rfl
  simp only [Act.put, List.getElem_toArray, List.getElem_cons_succ, List.getElem_cons_zero, List.setIfInBounds_toArray, List.set_cons_succ, List.set_cons_zero]
  refine Wl.one (i := 9) (by kernel_rfl) rfl (fun K hK => ?_)
  rw [if_pos (by kernel_rfl)]
  refine wp_store_mid 40 (.tmp 57) (.tmp 54) rfl p ((cs.length - 1) * 2) #[.int .i64 0, .int .i64 0] rfl rfl hth (by kernel_rfl) (two_one _ _) ?_
  rw [hW6]
  refine hK.out _ _ (Wl.Kn.off (by kernel_rfl) trivial) (fun hk => ?_)
  clear hK K
  refine Wl.done (by kernel_rfl) ?_ _
  clear hk
  go_wp2
  go_ret2
  exact ⟨rfl, HF.out⟩
theorem close_any {p : Nat} {cs : List Cn} {ws : List Int} (t : Int) (w : World) (h : PoolAt w p cs ws) (hs : Sorted cs) : Calls Try.prog 8 #[.pointer (some ⟨p, 0, none⟩), .int .i64 t] w (OpR p (closeV t cs) (closeE t cs) (closeC t cs) ws w) := by
  unfold closeV closeE closeC
  by_cases hh : hasC t cs = true
  · rw [if_pos hh, if_pos hh, if_pos hh]
    obtain ⟨x, hx, -⟩ := has_at hh
    rw [hx]
    exact close_good t w h hs hh hx
  · have hh' : hasC t cs = false := by simpa using hh
    rw [if_neg hh, if_neg hh, if_neg hh]
    have HD := Lib.hid h
    have HS := Lib.hid hs
    have HH := Lib.hid hh'
    clear h hs hh hh'
    go_enter Try.func8, Try.ntmps8
    go_wp2_with (refine (find_any t _ HD.out HS.out).mono ?_; rintro e w2 ⟨rfl, hb⟩; rw [HH.out]; have HD2 := Lib.hid (PoolAt.below HD.out hb); have HB2 := Lib.hid hb; clear hb)
    go_ret2
    exact ⟨rfl, HD2.out, Below.onlyP HB2.out _⟩

theorem onlyD {w w' : World} (h : Below w.drew.heap.size w.drew w') (S : Nat → Prop) : Only S w w' := Below.onlyP ((Below.refl w.heap.size w).drew.trans h) S
/-! ### sessions -/
def setS (k : Nat) (s : Int) (cs : List Cn) : List Cn := cs.modify k fun x => ⟨x.tok, s⟩
theorem setS_len (k : Nat) (s : Int) (cs : List Cn) : (setS k s cs).length = cs.length := List.length_modify ..
theorem setS_get (k : Nat) (s : Int) (cs : List Cn) (i : Nat) : (setS k s cs)[i]? = if i = k then (cs[i]?).map (fun x => (⟨x.tok, s⟩ : Cn)) else cs[i]? := by
  unfold setS
  rw [List.getElem?_modify]
  by_cases h : k = i
  · rw [if_pos h.symm]; cases cs[i]? <;> simp [h]
  · rw [if_neg (fun q => h q.symm)]; cases cs[i]? <;> simp [h]
theorem setS_cell {cs : List Cn} {ws : List Int} {k : Nat} {x : Cn} (hx : cs[k]? = some x) (h8 : cs.length ≤ 8) (s : Int) (i : Nat) (hi : i < 22) : (if i = k * 2 + 1 then s else cellOf cs ws i) = cellOf (setS k s cs) ws i := by
  have hk := (List.getElem?_eq_some_iff.1 hx).1
  by_cases h1 : i < 16
  · unfold cellOf
    rw [if_pos h1, if_pos h1, setS_get]
    by_cases h2 : i = k * 2 + 1
    · subst h2
      rw [if_pos rfl, if_neg (by omega), if_pos (by omega), show (k * 2 + 1) / 2 = k by omega, hx]
      rfl
    · rw [if_neg h2]
      by_cases h3 : i % 2 = 0
      · rw [if_pos h3, if_pos h3]
        by_cases h4 : i / 2 = k
        · rw [if_pos h4, h4, hx]; rfl
        · rw [if_neg h4]
      · rw [if_neg h3, if_neg h3, if_neg (by omega)]
  · unfold cellOf
    rw [if_neg (by omega), if_neg h1, if_neg h1, setS_len]
theorem PoolAt.give {w : World} {p : Nat} {cs : List Cn} {ws : List Int} (h : PoolAt w p cs ws) {k : Nat} {x : Cn} (hx : cs[k]? = some x) (s : Int) : PoolAt (w.setCell ⟨p, k * 2 + 1, none⟩ (.int .i64 s)) p (setS k s cs) ws :=
  ⟨(h.1.set (k * 2 + 1) s).congr (fun i hi => setS_cell hx h.2.1 s i hi), by rw [setS_len]; exact h.2.1, h.2.2⟩
theorem push_cell {cs : List Cn} {ws : List Int} (h4 : ws.length < 4) (s : Int) (i : Nat) (hi : i < 22) : (if i = 21 then (ws.length : Int) + 1 else if i = 17 + ws.length then s else cellOf cs ws i) = cellOf cs (ws ++ [s]) i := by
  unfold cellOf
  by_cases h1 : i < 16
  · rw [if_neg (by omega), if_neg (by omega), if_pos h1, if_pos h1]
  · rw [if_neg h1, if_neg h1]
    by_cases h2 : i = 16
    · rw [if_neg (by omega), if_neg (by omega), if_pos h2, if_pos h2]
    · rw [if_neg h2, if_neg h2]
      by_cases h3 : i < 21
      · rw [if_neg (by omega), if_pos h3, if_pos h3]
        by_cases h5 : i = 17 + ws.length
        · rw [if_pos h5, h5, List.getElem?_append_right (by omega), show 17 + ws.length - 17 - ws.length = 0 by omega]
          rfl
        · rw [if_neg h5]
          rcases Nat.lt_or_ge (i - 17) ws.length with h6 | h6
          · rw [List.getElem?_append_left h6]
          · rw [List.getElem?_eq_none h6, List.getElem?_eq_none (by rw [List.length_append, List.length_singleton]; omega)]
      · rw [if_pos (by omega), if_neg h3, List.length_append, List.length_singleton]
        omega
theorem of_cases (s : Int) (cs : List Cn) : (∃ (k : Nat) (x : Cn), cs[k]? = some x ∧ x.sess = s ∧ s ≠ 0 ∧ ofI s cs = (k : Int)) ∨ (ofI s cs = -1 ∧ (s = 0 ∨ ∀ x ∈ cs, x.sess ≠ s)) := by
  unfold ofI
  by_cases h0 : s = 0
  · rw [if_pos h0]; exact .inr ⟨rfl, .inl h0⟩
  · rw [if_neg h0]
    rcases idx_cases (sessQ s) cs with ⟨k, x, hx, hk, hq, -, e⟩ | ⟨ha, e⟩
    · exact .inl ⟨k, x, hx, by simpa [sessQ] using hq, h0, e⟩
    · refine .inr ⟨e, .inr fun x hx he => ?_⟩
      obtain ⟨j, hj, rfl⟩ := List.mem_iff_getElem.1 hx
      have := ha j _ hj (rgetD hj)
      simp [sessQ, he] at this
def hasT (s : Int) (cs : List Cn) : Int := if ofI s cs < 0 then 0 else ((cs[(ofI s cs).toNat]?).map Cn.tok).getD 0
theorem has_any {p : Nat} {cs : List Cn} {ws : List Int} (s : Int) (w : World) (h : PoolAt w p cs ws) : Calls Try.prog 16 #[.pointer (some ⟨p, 0, none⟩), .int .i64 s] w fun e w' => e = .returned (.int .i64 (hasT s cs)) ∧ PoolAt w' p cs ws ∧ Below w.heap.size w w' := by
  have HD := Lib.hid h
  rcases of_cases s cs with ⟨k, x, hx, hs, h0, e⟩ | ⟨e, -⟩
  · have e2 : hasT s cs = x.tok := by unfold hasT; rw [e, if_neg (by omega), Int.toNat_natCast, hx]; rfl
    rw [e2]
    have HOF := Lib.hid e
    have HX := Lib.hid hx
    have hk8 : (k : Int) < 8 := by have := (List.getElem?_eq_some_iff.1 hx).1; have := h.2.1; omega
    clear h hx e e2
    go_enter Try.func16, Try.ntmps16
    go_wp2_with fail
    refine (of_any s _ HD.out).mono ?_
    rintro e w2 ⟨rfl, hb⟩
    rw [HOF.out]
    have HD2 := Lib.hid (PoolAt.below HD.out hb)
    have HB2 := Lib.hid hb
    obtain ⟨t0, t1⟩ := HD2.out.tok2 HX.out
    clear hb
    go_wp2
    go_ret
    exact ⟨rfl, HD2.out, HB2.out⟩
  · have e2 : hasT s cs = 0 := by unfold hasT; rw [e, if_pos (by decide)]
    rw [e2]
    have HOF := Lib.hid e
    clear h e e2
    go_enter Try.func16, Try.ntmps16
    go_wp2_with (refine (of_any s _ HD.out).mono ?_; rintro e w2 ⟨rfl, hb⟩; rw [HOF.out]; have HD2 := Lib.hid (PoolAt.below HD.out hb); have HB2 := Lib.hid hb; clear hb)
    go_ret
    exact ⟨rfl, HD2.out, HB2.out⟩
def freeE (s : Int) (cs : List Cn) : Int := if ofI s cs < 0 then 4 else 0
def freeV (s : Int) (cs : List Cn) (ws : List Int) : Int := if ofI s cs < 0 then 0 else ws.headD 0
def freeC (s : Int) (cs : List Cn) (ws : List Int) : List Cn := if ofI s cs < 0 then cs else setS (ofI s cs).toNat (ws.headD 0) cs
def freeW (s : Int) (cs : List Cn) (ws : List Int) : List Int := if ofI s cs < 0 then ws else ws.tail
set_option maxHeartbeats 1000000 in
theorem free_any {p : Nat} {cs : List Cn} {ws : List Int} (s : Int) (w : World) (h : PoolAt w p cs ws) : Calls Try.prog 12 #[.pointer (some ⟨p, 0, none⟩), .int .i64 s] w (OpR p (freeV s cs ws) (freeE s cs) (freeC s cs ws) (freeW s cs ws) w) := by
  have HD := Lib.hid h
  rcases of_cases s cs with ⟨k, x, hx, hs, h0, e⟩ | ⟨e, -⟩
  · unfold freeV freeE freeC freeW
    rw [e, if_neg (by omega), if_neg (by omega), if_neg (by omega), if_neg (by omega), Int.toNat_natCast]
    obtain ⟨z, hz⟩ : ∃ q, ws.headD 0 = q := ⟨_, rfl⟩
    rw [hz]
    have HZ := Lib.hid hz
    clear hz
    have HOF := Lib.hid e
    have HX := Lib.hid hx
    have hkl := (List.getElem?_eq_some_iff.1 hx).1
    have hl8 := h.2.1
    have hk8 : (k : Int) < 8 := by omega
    clear h hx e
    go_enter Try.func12, Try.ntmps12
    go_wp2_with fail
    refine (of_any s _ HD.out).mono ?_
    rintro e w2 ⟨rfl, hb⟩
    rw [HOF.out]
    have HDD := Lib.hid (PoolAt.below HD.out hb).drew
    have HB2 := Lib.hid hb
    clear hb
    go_upto_region 4 with fail
    refine Wl.start 999 (fun _ => True) (fun _ => True) (by kernel_rfl) trivial trivial (fun hk => ?_)
    refine Wl.take0 (i := 0) (v := .pointer (some ⟨p, 0, none⟩)) rfl (by kernel_rfl) (by kernel_rfl) (by kernel_rfl) (by kernel_rfl) (fun _ _ _ h => h) (.inl ⟨by kernel_rfl, ?_⟩) hk ?_
    · intro wx hSw
      clear hSw hk
      go_simp
      try first | with_reducible rfl | kernel_rfl
    simp only [Act.put, List.getElem_toArray, List.getElem_cons_succ, List.getElem_cons_zero, List.setIfInBounds_toArray, List.set_cons_succ, List.set_cons_zero]
    refine Wl.take0 (i := 1) (v := .int .i64 (k : Int)) rfl (by kernel_rfl) (by kernel_rfl) (by kernel_rfl) (by kernel_rfl) (fun _ _ _ h => h) (.inl ⟨by kernel_rfl, ?_⟩) hk ?_
    · intro wx hSw
      clear hSw hk
      go_simp
      try first | with_reducible rfl | kernel_rfl
    simp only [Act.put, List.getElem_toArray, List.getElem_cons_succ, List.getElem_cons_zero, List.setIfInBounds_toArray, List.set_cons_succ, List.set_cons_zero]
    refine Wl.take0 (i := 2) (v := .pointer (some ⟨p, 0, none⟩)) rfl (by kernel_rfl) (by kernel_rfl) (by kernel_rfl) (by kernel_rfl) (fun _ _ _ h => h) (.inl ⟨by kernel_rfl, ?_⟩) hk ?_
    · intro wx hSw
      clear hSw hk
      go_simp
      try first | with_reducible rfl | kernel_rfl
    simp only [Act.put, List.getElem_toArray, List.getElem_cons_succ, List.getElem_cons_zero, List.setIfInBounds_toArray, List.set_cons_succ, List.set_cons_zero]
    refine Wl.take0 (i := 4) (v := .pointer (some ⟨p, 0, none⟩)) rfl (by kernel_rfl) (by kernel_rfl) (by kernel_rfl) (by kernel_rfl) (fun _ _ _ h => h) (.inl ⟨by kernel_rfl, ?_⟩) hk ?_
    · intro wx hSw
      clear hSw hk
      go_simp
      try first | with_reducible rfl | kernel_rfl
    simp only [Act.put, List.getElem_toArray, List.getElem_cons_succ, List.getElem_cons_zero, List.setIfInBounds_toArray, List.set_cons_succ, List.set_cons_zero]
    refine Wl.take0 (i := 5) (v := .pointer (some ⟨p, 0, none⟩)) rfl (by kernel_rfl) (by kernel_rfl) (by kernel_rfl) (by kernel_rfl) (fun _ _ _ h => h) (.inl ⟨by kernel_rfl, ?_⟩) hk ?_
    · intro wx hSw
      clear hSw hk
      go_simp
      try first | with_reducible rfl | kernel_rfl
    simp only [Act.put, List.getElem_toArray, List.getElem_cons_succ, List.getElem_cons_zero, List.setIfInBounds_toArray, List.set_cons_succ, List.set_cons_zero]
    refine Wl.one (i := 3) (by kernel_rfl) rfl (fun K hK => ?_)
    go_simp
    refine (first_any _ HDD.out).mono ?_
    rintro e w3 ⟨rfl, hp3, ho3⟩
    rw [HZ.out]
    obtain ⟨t0, t1⟩ := hp3.tok2 HX.out
    have z1 := hp3.1.z (k * 2 + 1)
    obtain ⟨W4, hW4⟩ : ∃ q, w3.setCell ⟨p, k * 2 + 1, none⟩ (.int .i64 z) = q := ⟨_, rfl⟩
    have hp4 := hp3.give HX.out z
    rw [hW4] at hp4
    have HF : Hid (PoolAt W4 p (setS k z cs) ws.tail ∧ Only (fun k => k = p) w W4) := Lib.hid ⟨hp4, by
      rw [← hW4]
      exact ((Below.onlyP HB2.out (fun k => k = p)).drew.trans ho3).set p _ _ rfl⟩
    clear hp3 ho3 hp4
    refine hK.out _ _ (Wl.Kn.on trivial trivial) (fun hk => ?_)
    clear hK K
    refine Wl.take0 (i := 6) (v := .pointer (some ⟨p, k * 2, none⟩)) rfl (by kernel_rfl) (by kernel_rfl) (by kernel_rfl) (by kernel_rfl) (fun _ _ _ h => h) (.inl ⟨by kernel_rfl, ?_⟩) hk ?_
    · intro wx hSw
      have hi1 : (0 : Int) ≤ (k : Int) := by omega
      have hi2 : (k : Int) < 8 := by omega
      clear hSw hk
      go_simp
      try first | with_reducible rfl | kernel_rfl
    simp only [Act.put, List.getElem_toArray, List.getElem_cons_succ, List.getElem_cons_zero, List.setIfInBounds_toArray, List.set_cons_succ, List.set_cons_zero]
    refine Wl.take0 (i := 7) (v := .pointer (some ⟨p, k * 2 + 1, none⟩)) rfl (by kernel_rfl) (by kernel_rfl) (by kernel_rfl) (by kernel_rfl) (fun _ _ _ h => h) (.inl ⟨by kernel_rfl, ?_⟩) hk ?_
    · intro wx hSw
      clear hSw hk
      go_simp
      try first | with_reducible rfl | kernel_rfl
    simp only [Act.put, List.getElem_toArray, List.getElem_cons_succ, List.getElem_cons_zero, List.setIfInBounds_toArray, List.set_cons_succ, List.set_cons_zero]
    refine Wl.one (i := 8) (by kernel_rfl) rfl (fun K hK => ?_)
    go_simp
    try rw [hW4]
    refine hK.out _ _ (Wl.Kn.on trivial trivial) (fun hk => ?_)
    clear hK K
    refine Wl.done (by kernel_rfl) ?_ _
    clear hk
    have c9 : W4.cell? ⟨p, k * 2 + 1, none⟩ = some (.int .i64 z) := (HF.out.1.tok2 (x := ⟨x.tok, z⟩) (by rw [setS_get, if_pos rfl, HX.out]; rfl)).2
    clear t0 t1 z1 hW4
    go_wp2
    go_ret2
    exact ⟨rfl, HF.out⟩
  · unfold freeV freeE freeC freeW
    rw [e, if_pos (by decide), if_pos (by decide), if_pos (by decide), if_pos (by decide)]
    have HOF := Lib.hid e
    clear h e
    go_enter Try.func12, Try.ntmps12
    go_wp2_with (refine (of_any s _ HD.out).mono ?_; rintro e w2 ⟨rfl, hb⟩; rw [HOF.out]; have HD2 := Lib.hid (PoolAt.below HD.out hb); have HB2 := Lib.hid hb; clear hb)
    go_ret2
    exact ⟨rfl, HD2.out, Below.onlyP HB2.out _⟩
def leaveE (s : Int) (cs : List Cn) (ws : List Int) : Int := if s ∈ ws then 0 else freeE s cs
def leaveV (s : Int) (cs : List Cn) (ws : List Int) : Int := if s ∈ ws then 0 else freeV s cs ws
def leaveC (s : Int) (cs : List Cn) (ws : List Int) : List Cn := if s ∈ ws then cs else freeC s cs ws
def leaveW (s : Int) (cs : List Cn) (ws : List Int) : List Int := if s ∈ ws then ws.erase s else freeW s cs ws
theorem Leave_any {p : Nat} {cs : List Cn} {ws : List Int} (s : Int) (w : World) (h : PoolAt w p cs ws) : Calls Try.prog 14 #[.pointer (some ⟨p, 0, none⟩), .int .i64 s] w (OpR p (leaveV s cs ws) (leaveE s cs ws) (leaveC s cs ws) (leaveW s cs ws) w) := by
  have HD := Lib.hid h
  unfold leaveE leaveV leaveC leaveW
  by_cases hm : s ∈ ws
  · rw [if_pos hm, if_pos hm, if_pos hm, if_pos hm]
    have HM := Lib.hid (decide_eq_true hm)
    clear h hm
    go_enter Try.func14, Try.ntmps14
    go_wp2_with (refine (leave_any s _ HD.out).mono ?_; rintro e w2 ⟨rfl, hp, ho⟩; rw [HM.out]; have HP := Lib.hid hp; have HO := Lib.hid ho; clear hp ho)
    go_ret2
    exact ⟨rfl, HP.out, HO.out⟩
  · rw [if_neg hm, if_neg hm, if_neg hm, if_neg hm]
    have HM := Lib.hid (decide_eq_false hm)
    have HER := Lib.hid (List.erase_of_not_mem hm)
    clear h hm
    go_enter Try.func14, Try.ntmps14
    go_wp2_with (first
      | (go_at_call 28; refine (leave_any s _ HD.out).mono ?_; rintro e w2 ⟨rfl, hp, ho⟩; rw [HM.out]; rw [HER.out] at hp; have HP := Lib.hid hp; have HO := Lib.hid ho; clear hp ho)
      | (go_at_call 12; refine (free_any s _ HP.out).mono ?_; rintro e w3 ⟨rfl, hp, ho⟩; have HP3 := Lib.hid hp; have HO3 := Lib.hid (HO.out.trans ho); clear hp ho))
    go_ret2
    exact ⟨rfl, HP3.out, HO3.out⟩
def wantE (s : Int) (cs : List Cn) (ws : List Int) : Int := if s < 1 ∨ 6 < s then 1 else if 0 ≤ ofI s cs ∨ s ∈ ws then 3 else if 0 ≤ idxOf (sessQ 0) cs then 0 else if 4 ≤ ws.length then 180 else 0
def idleP (s : Int) (cs : List Cn) (ws : List Int) : Prop := wantE s cs ws = 0 ∧ 0 ≤ idxOf (sessQ 0) cs
instance (s : Int) (cs : List Cn) (ws : List Int) : Decidable (idleP s cs ws) := by unfold idleP; infer_instance
def wantV (s : Int) (cs : List Cn) (ws : List Int) : Int := if idleP s cs ws then ((cs[(idxOf (sessQ 0) cs).toNat]?).map Cn.tok).getD 0 else 0
def wantC (s : Int) (cs : List Cn) (ws : List Int) : List Cn := if idleP s cs ws then setS (idxOf (sessQ 0) cs).toNat s cs else cs
def wantW (s : Int) (cs : List Cn) (ws : List Int) : List Int := if wantE s cs ws = 0 ∧ ¬ 0 ≤ idxOf (sessQ 0) cs then ws ++ [s] else ws
theorem want_bad {s : Int} {cs : List Cn} {ws : List Int} {r : Int} (h : wantE s cs ws = r) (hr : r ≠ 0) : wantV s cs ws = 0 ∧ wantC s cs ws = cs ∧ wantW s cs ws = ws := by
  have hn : ¬ idleP s cs ws := fun q => hr (h.symm.trans q.1)
  exact ⟨if_neg hn, if_neg hn, if_neg (fun q => hr (h.symm.trans q.1))⟩
set_option maxHeartbeats 2000000 in
theorem want_any {p : Nat} {cs : List Cn} {ws : List Int} (s : Int) (w : World) (h : PoolAt w p cs ws) : Calls Try.prog 10 #[.pointer (some ⟨p, 0, none⟩), .int .i64 s] w (OpR p (wantV s cs ws) (wantE s cs ws) (wantC s cs ws) (wantW s cs ws) w) := by
  have HD := Lib.hid h
  have HDD := Lib.hid h.drew
  by_cases h1 : s < 1
  · have e : wantE s cs ws = 1 := by unfold wantE; rw [if_pos (.inl h1)]
    obtain ⟨e1, e2, e3⟩ := want_bad e (by decide)
    rw [e1, e2, e3, e]
    clear h e e1 e2 e3 HDD
    go_enter Try.func10, Try.ntmps10
    go_wp2
    go_ret2
    exact ⟨rfl, HD.out, Only.refl _ _⟩
  by_cases h2 : 6 < s
  · have e : wantE s cs ws = 1 := by unfold wantE; rw [if_pos (.inr h2)]
    obtain ⟨e1, e2, e3⟩ := want_bad e (by decide)
    rw [e1, e2, e3, e]
    clear h e e1 e2 e3 HDD
    go_enter Try.func10, Try.ntmps10
    go_wp2
    go_ret2
    exact ⟨rfl, HD.out, Only.refl _ _⟩
  rcases of_cases s cs with ⟨k, x, hx, hs, h0, eo⟩ | ⟨eo, -⟩
  · have e : wantE s cs ws = 3 := by unfold wantE; rw [if_neg (by omega), if_pos (.inl (by omega))]
    obtain ⟨e1, e2, e3⟩ := want_bad e (by decide)
    rw [e1, e2, e3, e]
    have HOF := Lib.hid eo
    clear h e e1 e2 e3 hx eo
    go_enter Try.func10, Try.ntmps10
    go_upto_region 3 with fail
    refine Wl.start 999 (fun _ => True) (fun u => PoolAt u p cs ws) (by kernel_rfl) trivial HDD.out (fun hk => ?_)
    refine Wl.take0 (i := 0) (v := .pointer (some ⟨p, 0, none⟩)) rfl (by kernel_rfl) (by kernel_rfl) (by kernel_rfl) (by kernel_rfl) (fun _ _ _ h => h) (.inl ⟨by kernel_rfl, ?_⟩) hk ?_
    · intro wx hSw
      clear hSw hk
      go_simp
      try first | with_reducible rfl | kernel_rfl
    simp only [Act.put, List.getElem_toArray, List.getElem_cons_succ, List.getElem_cons_zero, List.setIfInBounds_toArray, List.set_cons_succ, List.set_cons_zero]
    refine Wl.take0 (i := 1) (v := .int .i64 s) rfl (by kernel_rfl) (by kernel_rfl) (by kernel_rfl) (by kernel_rfl) (fun _ _ _ h => h) (.inl ⟨by kernel_rfl, ?_⟩) hk ?_
    · intro wx hSw
      clear hSw hk
      go_simp
      try first | with_reducible rfl | kernel_rfl
    simp only [Act.put, List.getElem_toArray, List.getElem_cons_succ, List.getElem_cons_zero, List.setIfInBounds_toArray, List.set_cons_succ, List.set_cons_zero]
    refine Wl.one (i := 2) (by kernel_rfl) rfl (fun K hK => ?_)
    go_simp
    refine (of_any s _ HDD.out).mono ?_
    rintro e w2 ⟨rfl, hb⟩
    try rw [HOF.out]
    have HD2 := Lib.hid (PoolAt.below HDD.out hb)
    have HB2 := Lib.hid hb
    clear hb
    refine hK.out _ _ (Wl.Kn.on trivial HD2.out) (fun hk => ?_)
    clear hK K
    refine Wl.take0 (i := 3) (v := .bool true) rfl (by kernel_rfl) (by kernel_rfl) (by kernel_rfl) (by kernel_rfl) (fun _ _ _ h => h) (.inl ⟨by kernel_rfl, ?_⟩) hk ?_
    · intro wx hSw
      clear hSw hk
      go_simp
      try first | with_reducible rfl | kernel_rfl
    simp only [Act.put, List.getElem_toArray, List.getElem_cons_succ, List.getElem_cons_zero, List.setIfInBounds_toArray, List.set_cons_succ, List.set_cons_zero]
    refine Wl.take0 (i := 4) (v := .bool true) rfl (by kernel_rfl) (by kernel_rfl) (by kernel_rfl) (by kernel_rfl) (fun _ _ _ h => h) (.inl ⟨by kernel_rfl, ?_⟩) hk ?_
    · intro wx hSw
      clear hSw hk
      go_simp
      try first | with_reducible rfl | kernel_rfl
    simp only [Act.put, List.getElem_toArray, List.getElem_cons_succ, List.getElem_cons_zero, List.setIfInBounds_toArray, List.set_cons_succ, List.set_cons_zero]
    refine Wl.take0 (i := 5) (v := undef) rfl (by kernel_rfl) (by kernel_rfl) (by kernel_rfl) (by kernel_rfl) (fun _ _ _ h => h) (.inr ⟨by kernel_rfl, rfl⟩) hk ?_
    simp only [Act.put, List.getElem_toArray, List.getElem_cons_succ, List.getElem_cons_zero, List.setIfInBounds_toArray, List.set_cons_succ, List.set_cons_zero]
    refine Wl.take0 (i := 6) (v := undef) rfl (by kernel_rfl) (by kernel_rfl) (by kernel_rfl) (by kernel_rfl) (fun _ _ _ h => h) (.inr ⟨by kernel_rfl, rfl⟩) hk ?_
    simp only [Act.put, List.getElem_toArray, List.getElem_cons_succ, List.getElem_cons_zero, List.setIfInBounds_toArray, List.set_cons_succ, List.set_cons_zero]
    refine Wl.take0 (i := 7) (v := undef) rfl (by kernel_rfl) (by kernel_rfl) (by kernel_rfl) (by kernel_rfl) (fun _ _ _ h => h) (.inr ⟨by kernel_rfl, rfl⟩) hk ?_
    simp only [Act.put, List.getElem_toArray, List.getElem_cons_succ, List.getElem_cons_zero, List.setIfInBounds_toArray, List.set_cons_succ, List.set_cons_zero]
    refine Wl.take0 (i := 8) (v := undef) rfl (by kernel_rfl) (by kernel_rfl) (by kernel_rfl) (by kernel_rfl) (fun _ _ _ h => h) (.inr ⟨by kernel_rfl, rfl⟩) hk ?_
    simp only [Act.put, List.getElem_toArray, List.getElem_cons_succ, List.getElem_cons_zero, List.setIfInBounds_toArray, List.set_cons_succ, List.set_cons_zero]
    refine Wl.take0 (i := 9) (v := undef) rfl (by kernel_rfl) (by kernel_rfl) (by kernel_rfl) (by kernel_rfl) (fun _ _ _ h => h) (.inr ⟨by kernel_rfl, rfl⟩) hk ?_
    simp only [Act.put, List.getElem_toArray, List.getElem_cons_succ, List.getElem_cons_zero, List.setIfInBounds_toArray, List.set_cons_succ, List.set_cons_zero]
    refine Wl.take0 (i := 10) (v := undef) rfl (by kernel_rfl) (by kernel_rfl) (by kernel_rfl) (by kernel_rfl) (fun _ _ _ h => h) (.inr ⟨by kernel_rfl, rfl⟩) hk ?_
    simp only [Act.put, List.getElem_toArray, List.getElem_cons_succ, List.getElem_cons_zero, List.setIfInBounds_toArray, List.set_cons_succ, List.set_cons_zero]
    refine Wl.take0 (i := 11) (v := undef) rfl (by kernel_rfl) (by kernel_rfl) (by kernel_rfl) (by kernel_rfl) (fun _ _ _ h => h) (.inr ⟨by kernel_rfl, rfl⟩) hk ?_
    simp only [Act.put, List.getElem_toArray, List.getElem_cons_succ, List.getElem_cons_zero, List.setIfInBounds_toArray, List.set_cons_succ, List.set_cons_zero]
    refine Wl.take0 (i := 12) (v := undef) rfl (by kernel_rfl) (by kernel_rfl) (by kernel_rfl) (by kernel_rfl) (fun _ _ _ h => h) (.inr ⟨by kernel_rfl, rfl⟩) hk ?_
    simp only [Act.put, List.getElem_toArray, List.getElem_cons_succ, List.getElem_cons_zero, List.setIfInBounds_toArray, List.set_cons_succ, List.set_cons_zero]
    refine Wl.take0 (i := 13) (v := undef) rfl (by kernel_rfl) (by kernel_rfl) (by kernel_rfl) (by kernel_rfl) (fun _ _ _ h => h) (.inr ⟨by kernel_rfl, rfl⟩) hk ?_
    simp only [Act.put, List.getElem_toArray, List.getElem_cons_succ, List.getElem_cons_zero, List.setIfInBounds_toArray, List.set_cons_succ, List.set_cons_zero]
    refine Wl.take0 (i := 14) (v := undef) rfl (by kernel_rfl) (by kernel_rfl) (by kernel_rfl) (by kernel_rfl) (fun _ _ _ h => h) (.inr ⟨by kernel_rfl, rfl⟩) hk ?_
    simp only [Act.put, List.getElem_toArray, List.getElem_cons_succ, List.getElem_cons_zero, List.setIfInBounds_toArray, List.set_cons_succ, List.set_cons_zero]
    refine Wl.take0 (i := 15) (v := .bool true) rfl (by kernel_rfl) (by kernel_rfl) (by kernel_rfl) (by kernel_rfl) (fun _ _ _ h => h) (.inl ⟨by kernel_rfl, ?_⟩) hk ?_
    · intro wx hSw
      clear hSw hk
      go_simp
      try first | with_reducible rfl | kernel_rfl
    simp only [Act.put, List.getElem_toArray, List.getElem_cons_succ, List.getElem_cons_zero, List.setIfInBounds_toArray, List.set_cons_succ, List.set_cons_zero]
    refine Wl.done (by kernel_rfl) ?_ _
    clear hk
    go_wp2
    go_ret2
    exact ⟨rfl, HD2.out, onlyD HB2.out _⟩
  have HOF := Lib.hid eo
  by_cases hm : s ∈ ws
  · have e : wantE s cs ws = 3 := by unfold wantE; rw [if_neg (by omega), if_pos (.inr hm)]
    obtain ⟨e1, e2, e3⟩ := want_bad e (by decide)
    rw [e1, e2, e3, e]
    have HW := Lib.hid (decide_eq_true hm)
    clear h e e1 e2 e3 hm eo
    go_enter Try.func10, Try.ntmps10
    go_upto_region 3 with fail
    refine Wl.start 999 (fun _ => True) (fun u => PoolAt u p cs ws) (by kernel_rfl) trivial HDD.out (fun hk => ?_)
    refine Wl.take0 (i := 0) (v := .pointer (some ⟨p, 0, none⟩)) rfl (by kernel_rfl) (by kernel_rfl) (by kernel_rfl) (by kernel_rfl) (fun _ _ _ h => h) (.inl ⟨by kernel_rfl, ?_⟩) hk ?_
    · intro wx hSw
      clear hSw hk
      go_simp
      try first | with_reducible rfl | kernel_rfl
    simp only [Act.put, List.getElem_toArray, List.getElem_cons_succ, List.getElem_cons_zero, List.setIfInBounds_toArray, List.set_cons_succ, List.set_cons_zero]
    refine Wl.take0 (i := 1) (v := .int .i64 s) rfl (by kernel_rfl) (by kernel_rfl) (by kernel_rfl) (by kernel_rfl) (fun _ _ _ h => h) (.inl ⟨by kernel_rfl, ?_⟩) hk ?_
    · intro wx hSw
      clear hSw hk
      go_simp
      try first | with_reducible rfl | kernel_rfl
    simp only [Act.put, List.getElem_toArray, List.getElem_cons_succ, List.getElem_cons_zero, List.setIfInBounds_toArray, List.set_cons_succ, List.set_cons_zero]
    refine Wl.one (i := 2) (by kernel_rfl) rfl (fun K hK => ?_)
    go_simp
    refine (of_any s _ HDD.out).mono ?_
    rintro e w2 ⟨rfl, hb⟩
    try rw [HOF.out]
    have HD2 := Lib.hid (PoolAt.below HDD.out hb)
    have HB2 := Lib.hid hb
    clear hb
    refine hK.out _ _ (Wl.Kn.on trivial HD2.out) (fun hk => ?_)
    clear hK K
    refine Wl.take0 (i := 3) (v := .bool false) rfl (by kernel_rfl) (by kernel_rfl) (by kernel_rfl) (by kernel_rfl) (fun _ _ _ h => h) (.inl ⟨by kernel_rfl, ?_⟩) hk ?_
    · intro wx hSw
      clear hSw hk
      go_simp
      try first | with_reducible rfl | kernel_rfl
    simp only [Act.put, List.getElem_toArray, List.getElem_cons_succ, List.getElem_cons_zero, List.setIfInBounds_toArray, List.set_cons_succ, List.set_cons_zero]
    refine Wl.take0 (i := 4) (v := .bool false) rfl (by kernel_rfl) (by kernel_rfl) (by kernel_rfl) (by kernel_rfl) (fun _ _ _ h => h) (.inl ⟨by kernel_rfl, ?_⟩) hk ?_
    · intro wx hSw
      clear hSw hk
      go_simp
      try first | with_reducible rfl | kernel_rfl
    simp only [Act.put, List.getElem_toArray, List.getElem_cons_succ, List.getElem_cons_zero, List.setIfInBounds_toArray, List.set_cons_succ, List.set_cons_zero]
    refine Wl.take0 (i := 5) (v := .pointer (some ⟨p, 0, none⟩)) rfl (by kernel_rfl) (by kernel_rfl) (by kernel_rfl) (by kernel_rfl) (fun _ _ _ h => h) (.inl ⟨by kernel_rfl, ?_⟩) hk ?_
    · intro wx hSw
      clear hSw hk
      go_simp
      try first | with_reducible rfl | kernel_rfl
    simp only [Act.put, List.getElem_toArray, List.getElem_cons_succ, List.getElem_cons_zero, List.setIfInBounds_toArray, List.set_cons_succ, List.set_cons_zero]
    refine Wl.take0 (i := 6) (v := .pointer (some ⟨p, 0, none⟩)) rfl (by kernel_rfl) (by kernel_rfl) (by kernel_rfl) (by kernel_rfl) (fun _ _ _ h => h) (.inl ⟨by kernel_rfl, ?_⟩) hk ?_
    · intro wx hSw
      clear hSw hk
      go_simp
      try first | with_reducible rfl | kernel_rfl
    simp only [Act.put, List.getElem_toArray, List.getElem_cons_succ, List.getElem_cons_zero, List.setIfInBounds_toArray, List.set_cons_succ, List.set_cons_zero]
    refine Wl.take0 (i := 7) (v := .pointer (some ⟨p, 17, none⟩)) rfl (by kernel_rfl) (by kernel_rfl) (by kernel_rfl) (by kernel_rfl) (fun _ _ _ h => h) (.inl ⟨by kernel_rfl, ?_⟩) hk ?_
    · intro wx hSw
      clear hSw hk
      go_simp
      try first | with_reducible rfl | kernel_rfl
    simp only [Act.put, List.getElem_toArray, List.getElem_cons_succ, List.getElem_cons_zero, List.setIfInBounds_toArray, List.set_cons_succ, List.set_cons_zero]
    refine Wl.take0 (i := 8) (v := .pointer (some ⟨p, 0, none⟩)) rfl (by kernel_rfl) (by kernel_rfl) (by kernel_rfl) (by kernel_rfl) (fun _ _ _ h => h) (.inl ⟨by kernel_rfl, ?_⟩) hk ?_
    · intro wx hSw
      clear hSw hk
      go_simp
      try first | with_reducible rfl | kernel_rfl
    simp only [Act.put, List.getElem_toArray, List.getElem_cons_succ, List.getElem_cons_zero, List.setIfInBounds_toArray, List.set_cons_succ, List.set_cons_zero]
    refine Wl.take0 (i := 9) (v := .pointer (some ⟨p, 0, none⟩)) rfl (by kernel_rfl) (by kernel_rfl) (by kernel_rfl) (by kernel_rfl) (fun _ _ _ h => h) (.inl ⟨by kernel_rfl, ?_⟩) hk ?_
    · intro wx hSw
      clear hSw hk
      go_simp
      try first | with_reducible rfl | kernel_rfl
    simp only [Act.put, List.getElem_toArray, List.getElem_cons_succ, List.getElem_cons_zero, List.setIfInBounds_toArray, List.set_cons_succ, List.set_cons_zero]
    refine Wl.take0 (i := 10) (v := .pointer (some ⟨p, 21, none⟩)) rfl (by kernel_rfl) (by kernel_rfl) (by kernel_rfl) (by kernel_rfl) (fun _ _ _ h => h) (.inl ⟨by kernel_rfl, ?_⟩) hk ?_
    · intro wx hSw
      clear hSw hk
      go_simp
      try first | with_reducible rfl | kernel_rfl
    simp only [Act.put, List.getElem_toArray, List.getElem_cons_succ, List.getElem_cons_zero, List.setIfInBounds_toArray, List.set_cons_succ, List.set_cons_zero]
    refine Wl.take0 (i := 11) (v := .int .i64 (ws.length : Int)) rfl (by kernel_rfl) (by kernel_rfl) (by kernel_rfl) (by kernel_rfl) (fun _ _ _ h => h) (.inl ⟨by kernel_rfl, ?_⟩) hk ?_
    · intro wx hSw
      have cc := hSw.waiting
      clear hSw hk
      go_simp
      try first | with_reducible rfl | kernel_rfl
    simp only [Act.put, List.getElem_toArray, List.getElem_cons_succ, List.getElem_cons_zero, List.setIfInBounds_toArray, List.set_cons_succ, List.set_cons_zero]
    refine Wl.take0 (i := 12) (v := .slice (some ⟨p, 17, none⟩) ws.length 4) rfl (by kernel_rfl) (by kernel_rfl) (by kernel_rfl) (by kernel_rfl) (fun _ _ _ h => h) (.inl ⟨by kernel_rfl, ?_⟩) hk ?_
    · intro wx hSw
      have hl := hSw.2.2
      have hl2 : (ws.length : Int) ≤ 4 := by omega
      clear hSw hk
      go_simp
      try first | with_reducible rfl | kernel_rfl
    simp only [Act.put, List.getElem_toArray, List.getElem_cons_succ, List.getElem_cons_zero, List.setIfInBounds_toArray, List.set_cons_succ, List.set_cons_zero]
    refine Wl.take0 (i := 13) (v := .int .i64 s) rfl (by kernel_rfl) (by kernel_rfl) (by kernel_rfl) (by kernel_rfl) (fun _ _ _ h => h) (.inl ⟨by kernel_rfl, ?_⟩) hk ?_
    · intro wx hSw
      clear hSw hk
      go_simp
      try first | with_reducible rfl | kernel_rfl
    simp only [Act.put, List.getElem_toArray, List.getElem_cons_succ, List.getElem_cons_zero, List.setIfInBounds_toArray, List.set_cons_succ, List.set_cons_zero]
    refine Wl.one (i := 14) (by kernel_rfl) rfl (fun K hK => ?_)
    rw [if_pos (by kernel_rfl)]
    go_simp
    refine (contains_any ws p 17 4 s _ ⟨HD2.out.2.2, by omega⟩ HD2.out.wcells).mono ?_
    rintro e w2x ⟨rfl, rfl⟩
    rw [HW.out]
    refine hK.out _ _ (Wl.Kn.on trivial HD2.out) (fun hk => ?_)
    clear hK K
    refine Wl.take0 (i := 15) (v := .bool true) rfl (by kernel_rfl) (by kernel_rfl) (by kernel_rfl) (by kernel_rfl) (fun _ _ _ h => h) (.inl ⟨by kernel_rfl, ?_⟩) hk ?_
    · intro wx hSw
      clear hSw hk
      go_simp
      try first | with_reducible rfl | kernel_rfl
    simp only [Act.put, List.getElem_toArray, List.getElem_cons_succ, List.getElem_cons_zero, List.setIfInBounds_toArray, List.set_cons_succ, List.set_cons_zero]
    refine Wl.done (by kernel_rfl) ?_ _
    clear hk
    go_wp2
    go_ret2
    exact ⟨rfl, HD2.out, onlyD HB2.out _⟩
  have HW := Lib.hid (decide_eq_false hm)
  have hl4 := h.2.2
  rcases idx_cases (sessQ 0) cs with ⟨k, x, hx, hk, hq, -, ei⟩ | ⟨-, ei⟩
  · have e : wantE s cs ws = 0 := by unfold wantE; rw [if_neg (by omega), if_neg (by rintro (q | q); omega; exact hm q), if_pos (by omega)]
    have e1 : wantV s cs ws = x.tok := by unfold wantV; rw [if_pos ⟨e, by omega⟩, ei, Int.toNat_natCast, hx]; rfl
    have e2 : wantC s cs ws = setS k s cs := by unfold wantC; rw [if_pos ⟨e, by omega⟩, ei, Int.toNat_natCast]
    have e3 : wantW s cs ws = ws := by unfold wantW; rw [if_neg (fun q => q.2 (by omega))]
    rw [e1, e2, e3, e]
    have HIX := Lib.hid ei
    have HX := Lib.hid hx
    have hk8 : (k : Int) < 8 := by have := h.2.1; omega
    clear h e e1 e2 e3 hm hx eo ei hq
    go_enter Try.func10, Try.ntmps10
    go_upto_region 3 with fail
    refine Wl.start 999 (fun _ => True) (fun u => PoolAt u p cs ws) (by kernel_rfl) trivial HDD.out (fun hk => ?_)
    refine Wl.take0 (i := 0) (v := .pointer (some ⟨p, 0, none⟩)) rfl (by kernel_rfl) (by kernel_rfl) (by kernel_rfl) (by kernel_rfl) (fun _ _ _ h => h) (.inl ⟨by kernel_rfl, ?_⟩) hk ?_
    · intro wx hSw
      clear hSw hk
      go_simp
      try first | with_reducible rfl | kernel_rfl
    simp only [Act.put, List.getElem_toArray, List.getElem_cons_succ, List.getElem_cons_zero, List.setIfInBounds_toArray, List.set_cons_succ, List.set_cons_zero]
    refine Wl.take0 (i := 1) (v := .int .i64 s) rfl (by kernel_rfl) (by kernel_rfl) (by kernel_rfl) (by kernel_rfl) (fun _ _ _ h => h) (.inl ⟨by kernel_rfl, ?_⟩) hk ?_
    · intro wx hSw
      clear hSw hk
      go_simp
      try first | with_reducible rfl | kernel_rfl
    simp only [Act.put, List.getElem_toArray, List.getElem_cons_succ, List.getElem_cons_zero, List.setIfInBounds_toArray, List.set_cons_succ, List.set_cons_zero]
    refine Wl.one (i := 2) (by kernel_rfl) rfl (fun K hK => ?_)
    go_simp
    refine (of_any s _ HDD.out).mono ?_
    rintro e w2 ⟨rfl, hb⟩
    try rw [HOF.out]
    have HD2 := Lib.hid (PoolAt.below HDD.out hb)
    have HB2 := Lib.hid hb
    clear hb
    refine hK.out _ _ (Wl.Kn.on trivial HD2.out) (fun hk => ?_)
    clear hK K
    refine Wl.take0 (i := 3) (v := .bool false) rfl (by kernel_rfl) (by kernel_rfl) (by kernel_rfl) (by kernel_rfl) (fun _ _ _ h => h) (.inl ⟨by kernel_rfl, ?_⟩) hk ?_
    · intro wx hSw
      clear hSw hk
      go_simp
      try first | with_reducible rfl | kernel_rfl
    simp only [Act.put, List.getElem_toArray, List.getElem_cons_succ, List.getElem_cons_zero, List.setIfInBounds_toArray, List.set_cons_succ, List.set_cons_zero]
    refine Wl.take0 (i := 4) (v := .bool false) rfl (by kernel_rfl) (by kernel_rfl) (by kernel_rfl) (by kernel_rfl) (fun _ _ _ h => h) (.inl ⟨by kernel_rfl, ?_⟩) hk ?_
    · intro wx hSw
      clear hSw hk
      go_simp
      try first | with_reducible rfl | kernel_rfl
    simp only [Act.put, List.getElem_toArray, List.getElem_cons_succ, List.getElem_cons_zero, List.setIfInBounds_toArray, List.set_cons_succ, List.set_cons_zero]
    refine Wl.take0 (i := 5) (v := .pointer (some ⟨p, 0, none⟩)) rfl (by kernel_rfl) (by kernel_rfl) (by kernel_rfl) (by kernel_rfl) (fun _ _ _ h => h) (.inl ⟨by kernel_rfl, ?_⟩) hk ?_
    · intro wx hSw
      clear hSw hk
      go_simp
      try first | with_reducible rfl | kernel_rfl
    simp only [Act.put, List.getElem_toArray, List.getElem_cons_succ, List.getElem_cons_zero, List.setIfInBounds_toArray, List.set_cons_succ, List.set_cons_zero]
    refine Wl.take0 (i := 6) (v := .pointer (some ⟨p, 0, none⟩)) rfl (by kernel_rfl) (by kernel_rfl) (by kernel_rfl) (by kernel_rfl) (fun _ _ _ h => h) (.inl ⟨by kernel_rfl, ?_⟩) hk ?_
    · intro wx hSw
      clear hSw hk
      go_simp
      try first | with_reducible rfl | kernel_rfl
    simp only [Act.put, List.getElem_toArray, List.getElem_cons_succ, List.getElem_cons_zero, List.setIfInBounds_toArray, List.set_cons_succ, List.set_cons_zero]
    refine Wl.take0 (i := 7) (v := .pointer (some ⟨p, 17, none⟩)) rfl (by kernel_rfl) (by kernel_rfl) (by kernel_rfl) (by kernel_rfl) (fun _ _ _ h => h) (.inl ⟨by kernel_rfl, ?_⟩) hk ?_
    · intro wx hSw
      clear hSw hk
      go_simp
      try first | with_reducible rfl | kernel_rfl
    simp only [Act.put, List.getElem_toArray, List.getElem_cons_succ, List.getElem_cons_zero, List.setIfInBounds_toArray, List.set_cons_succ, List.set_cons_zero]
    refine Wl.take0 (i := 8) (v := .pointer (some ⟨p, 0, none⟩)) rfl (by kernel_rfl) (by kernel_rfl) (by kernel_rfl) (by kernel_rfl) (fun _ _ _ h => h) (.inl ⟨by kernel_rfl, ?_⟩) hk ?_
    · intro wx hSw
      clear hSw hk
      go_simp
      try first | with_reducible rfl | kernel_rfl
    simp only [Act.put, List.getElem_toArray, List.getElem_cons_succ, List.getElem_cons_zero, List.setIfInBounds_toArray, List.set_cons_succ, List.set_cons_zero]
    refine Wl.take0 (i := 9) (v := .pointer (some ⟨p, 0, none⟩)) rfl (by kernel_rfl) (by kernel_rfl) (by kernel_rfl) (by kernel_rfl) (fun _ _ _ h => h) (.inl ⟨by kernel_rfl, ?_⟩) hk ?_
    · intro wx hSw
      clear hSw hk
      go_simp
      try first | with_reducible rfl | kernel_rfl
    simp only [Act.put, List.getElem_toArray, List.getElem_cons_succ, List.getElem_cons_zero, List.setIfInBounds_toArray, List.set_cons_succ, List.set_cons_zero]
    refine Wl.take0 (i := 10) (v := .pointer (some ⟨p, 21, none⟩)) rfl (by kernel_rfl) (by kernel_rfl) (by kernel_rfl) (by kernel_rfl) (fun _ _ _ h => h) (.inl ⟨by kernel_rfl, ?_⟩) hk ?_
    · intro wx hSw
      clear hSw hk
      go_simp
      try first | with_reducible rfl | kernel_rfl
    simp only [Act.put, List.getElem_toArray, List.getElem_cons_succ, List.getElem_cons_zero, List.setIfInBounds_toArray, List.set_cons_succ, List.set_cons_zero]
    refine Wl.take0 (i := 11) (v := .int .i64 (ws.length : Int)) rfl (by kernel_rfl) (by kernel_rfl) (by kernel_rfl) (by kernel_rfl) (fun _ _ _ h => h) (.inl ⟨by kernel_rfl, ?_⟩) hk ?_
    · intro wx hSw
      have cc := hSw.waiting
      clear hSw hk
      go_simp
      try first | with_reducible rfl | kernel_rfl
    simp only [Act.put, List.getElem_toArray, List.getElem_cons_succ, List.getElem_cons_zero, List.setIfInBounds_toArray, List.set_cons_succ, List.set_cons_zero]
    refine Wl.take0 (i := 12) (v := .slice (some ⟨p, 17, none⟩) ws.length 4) rfl (by kernel_rfl) (by kernel_rfl) (by kernel_rfl) (by kernel_rfl) (fun _ _ _ h => h) (.inl ⟨by kernel_rfl, ?_⟩) hk ?_
    · intro wx hSw
      have hl := hSw.2.2
      have hl2 : (ws.length : Int) ≤ 4 := by omega
      clear hSw hk
      go_simp
      try first | with_reducible rfl | kernel_rfl
    simp only [Act.put, List.getElem_toArray, List.getElem_cons_succ, List.getElem_cons_zero, List.setIfInBounds_toArray, List.set_cons_succ, List.set_cons_zero]
    refine Wl.take0 (i := 13) (v := .int .i64 s) rfl (by kernel_rfl) (by kernel_rfl) (by kernel_rfl) (by kernel_rfl) (fun _ _ _ h => h) (.inl ⟨by kernel_rfl, ?_⟩) hk ?_
    · intro wx hSw
      clear hSw hk
      go_simp
      try first | with_reducible rfl | kernel_rfl
    simp only [Act.put, List.getElem_toArray, List.getElem_cons_succ, List.getElem_cons_zero, List.setIfInBounds_toArray, List.set_cons_succ, List.set_cons_zero]
    refine Wl.one (i := 14) (by kernel_rfl) rfl (fun K hK => ?_)
    rw [if_pos (by kernel_rfl)]
    go_simp
    refine (contains_any ws p 17 4 s _ ⟨HD2.out.2.2, by omega⟩ HD2.out.wcells).mono ?_
    rintro e w2x ⟨rfl, rfl⟩
    rw [HW.out]
    refine hK.out _ _ (Wl.Kn.on trivial HD2.out) (fun hk => ?_)
    clear hK K
    refine Wl.take0 (i := 15) (v := .bool false) rfl (by kernel_rfl) (by kernel_rfl) (by kernel_rfl) (by kernel_rfl) (fun _ _ _ h => h) (.inl ⟨by kernel_rfl, ?_⟩) hk ?_
    · intro wx hSw
      clear hSw hk
      go_simp
      try first | with_reducible rfl | kernel_rfl
    simp only [Act.put, List.getElem_toArray, List.getElem_cons_succ, List.getElem_cons_zero, List.setIfInBounds_toArray, List.set_cons_succ, List.set_cons_zero]
    refine Wl.done (by kernel_rfl) ?_ _
    clear hk
    go_wp2_with fail
    refine (holding_any 0 _ HD2.out).mono ?_
    rintro e w3 ⟨rfl, hb⟩
    rw [HIX.out]
    have hp3 := PoolAt.below HD2.out hb
    have HO3 := Lib.hid ((onlyD HB2.out (fun k => k = p)).trans (Below.onlyP hb (fun k => k = p)))
    obtain ⟨t0, t1⟩ := hp3.tok2 HX.out
    have z1 := hp3.1.z (k * 2 + 1)
    obtain ⟨W4, hW4⟩ : ∃ q, w3.setCell ⟨p, k * 2 + 1, none⟩ (.int .i64 s) = q := ⟨_, rfl⟩
    have hp4 := hp3.give HX.out s
    rw [hW4] at hp4
    have HF : Hid (PoolAt W4 p (setS k s cs) ws ∧ Only (fun k => k = p) w W4) := Lib.hid ⟨hp4, by
      rw [← hW4]
      exact HO3.out.set p _ _ rfl⟩
    have c9 : W4.cell? ⟨p, k * 2, none⟩ = some (.int .i64 x.tok) := (hp4.tok2 (x := ⟨x.tok, s⟩) (by rw [setS_get, if_pos rfl, HX.out]; rfl)).1
    clear hb hp3 hp4
    go_wp2
    go_ret2
    exact ⟨rfl, HF.out⟩
  · have HIX := Lib.hid ei
    by_cases h4 : 4 ≤ ws.length
    · have e : wantE s cs ws = 180 := by unfold wantE; rw [if_neg (by omega), if_neg (by rintro (q | q); omega; exact hm q), if_neg (by omega), if_pos h4]
      obtain ⟨e1, e2, e3⟩ := want_bad e (by decide)
      rw [e1, e2, e3, e]
      have h4i : (4 : Int) ≤ (ws.length : Int) := by omega
      clear h e e1 e2 e3 hm eo ei h4 hl4
      go_enter Try.func10, Try.ntmps10
      go_upto_region 3 with fail
      refine Wl.start 999 (fun _ => True) (fun u => PoolAt u p cs ws) (by kernel_rfl) trivial HDD.out (fun hk => ?_)
      refine Wl.take0 (i := 0) (v := .pointer (some ⟨p, 0, none⟩)) rfl (by kernel_rfl) (by kernel_rfl) (by kernel_rfl) (by kernel_rfl) (fun _ _ _ h => h) (.inl ⟨by kernel_rfl, ?_⟩) hk ?_
      · intro wx hSw
        clear hSw hk
        go_simp
        try first | with_reducible rfl | kernel_rfl
      simp only [Act.put, List.getElem_toArray, List.getElem_cons_succ, List.getElem_cons_zero, List.setIfInBounds_toArray, List.set_cons_succ, List.set_cons_zero]
      refine Wl.take0 (i := 1) (v := .int .i64 s) rfl (by kernel_rfl) (by kernel_rfl) (by kernel_rfl) (by kernel_rfl) (fun _ _ _ h => h) (.inl ⟨by kernel_rfl, ?_⟩) hk ?_
      · intro wx hSw
        clear hSw hk
        go_simp
        try first | with_reducible rfl | kernel_rfl
      simp only [Act.put, List.getElem_toArray, List.getElem_cons_succ, List.getElem_cons_zero, List.setIfInBounds_toArray, List.set_cons_succ, List.set_cons_zero]
      refine Wl.one (i := 2) (by kernel_rfl) rfl (fun K hK => ?_)
      go_simp
      refine (of_any s _ HDD.out).mono ?_
      rintro e w2 ⟨rfl, hb⟩
      try rw [HOF.out]
      have HD2 := Lib.hid (PoolAt.below HDD.out hb)
      have HB2 := Lib.hid hb
      clear hb
      refine hK.out _ _ (Wl.Kn.on trivial HD2.out) (fun hk => ?_)
      clear hK K
      refine Wl.take0 (i := 3) (v := .bool false) rfl (by kernel_rfl) (by kernel_rfl) (by kernel_rfl) (by kernel_rfl) (fun _ _ _ h => h) (.inl ⟨by kernel_rfl, ?_⟩) hk ?_
      · intro wx hSw
        clear hSw hk
        go_simp
        try first | with_reducible rfl | kernel_rfl
      simp only [Act.put, List.getElem_toArray, List.getElem_cons_succ, List.getElem_cons_zero, List.setIfInBounds_toArray, List.set_cons_succ, List.set_cons_zero]
      refine Wl.take0 (i := 4) (v := .bool false) rfl (by kernel_rfl) (by kernel_rfl) (by kernel_rfl) (by kernel_rfl) (fun _ _ _ h => h) (.inl ⟨by kernel_rfl, ?_⟩) hk ?_
      · intro wx hSw
        clear hSw hk
        go_simp
        try first | with_reducible rfl | kernel_rfl
      simp only [Act.put, List.getElem_toArray, List.getElem_cons_succ, List.getElem_cons_zero, List.setIfInBounds_toArray, List.set_cons_succ, List.set_cons_zero]
      refine Wl.take0 (i := 5) (v := .pointer (some ⟨p, 0, none⟩)) rfl (by kernel_rfl) (by kernel_rfl) (by kernel_rfl) (by kernel_rfl) (fun _ _ _ h => h) (.inl ⟨by kernel_rfl, ?_⟩) hk ?_
      · intro wx hSw
        clear hSw hk
        go_simp
        try first | with_reducible rfl | kernel_rfl
      simp only [Act.put, List.getElem_toArray, List.getElem_cons_succ, List.getElem_cons_zero, List.setIfInBounds_toArray, List.set_cons_succ, List.set_cons_zero]
      refine Wl.take0 (i := 6) (v := .pointer (some ⟨p, 0, none⟩)) rfl (by kernel_rfl) (by kernel_rfl) (by kernel_rfl) (by kernel_rfl) (fun _ _ _ h => h) (.inl ⟨by kernel_rfl, ?_⟩) hk ?_
      · intro wx hSw
        clear hSw hk
        go_simp
        try first | with_reducible rfl | kernel_rfl
      simp only [Act.put, List.getElem_toArray, List.getElem_cons_succ, List.getElem_cons_zero, List.setIfInBounds_toArray, List.set_cons_succ, List.set_cons_zero]
      refine Wl.take0 (i := 7) (v := .pointer (some ⟨p, 17, none⟩)) rfl (by kernel_rfl) (by kernel_rfl) (by kernel_rfl) (by kernel_rfl) (fun _ _ _ h => h) (.inl ⟨by kernel_rfl, ?_⟩) hk ?_
      · intro wx hSw
        clear hSw hk
        go_simp
        try first | with_reducible rfl | kernel_rfl
      simp only [Act.put, List.getElem_toArray, List.getElem_cons_succ, List.getElem_cons_zero, List.setIfInBounds_toArray, List.set_cons_succ, List.set_cons_zero]
      refine Wl.take0 (i := 8) (v := .pointer (some ⟨p, 0, none⟩)) rfl (by kernel_rfl) (by kernel_rfl) (by kernel_rfl) (by kernel_rfl) (fun _ _ _ h => h) (.inl ⟨by kernel_rfl, ?_⟩) hk ?_
      · intro wx hSw
        clear hSw hk
        go_simp
        try first | with_reducible rfl | kernel_rfl
      simp only [Act.put, List.getElem_toArray, List.getElem_cons_succ, List.getElem_cons_zero, List.setIfInBounds_toArray, List.set_cons_succ, List.set_cons_zero]
      refine Wl.take0 (i := 9) (v := .pointer (some ⟨p, 0, none⟩)) rfl (by kernel_rfl) (by kernel_rfl) (by kernel_rfl) (by kernel_rfl) (fun _ _ _ h => h) (.inl ⟨by kernel_rfl, ?_⟩) hk ?_
      · intro wx hSw
        clear hSw hk
        go_simp
        try first | with_reducible rfl | kernel_rfl
      simp only [Act.put, List.getElem_toArray, List.getElem_cons_succ, List.getElem_cons_zero, List.setIfInBounds_toArray, List.set_cons_succ, List.set_cons_zero]
      refine Wl.take0 (i := 10) (v := .pointer (some ⟨p, 21, none⟩)) rfl (by kernel_rfl) (by kernel_rfl) (by kernel_rfl) (by kernel_rfl) (fun _ _ _ h => h) (.inl ⟨by kernel_rfl, ?_⟩) hk ?_
      · intro wx hSw
        clear hSw hk
        go_simp
        try first | with_reducible rfl | kernel_rfl
      simp only [Act.put, List.getElem_toArray, List.getElem_cons_succ, List.getElem_cons_zero, List.setIfInBounds_toArray, List.set_cons_succ, List.set_cons_zero]
      refine Wl.take0 (i := 11) (v := .int .i64 (ws.length : Int)) rfl (by kernel_rfl) (by kernel_rfl) (by kernel_rfl) (by kernel_rfl) (fun _ _ _ h => h) (.inl ⟨by kernel_rfl, ?_⟩) hk ?_
      · intro wx hSw
        have cc := hSw.waiting
        clear hSw hk
        go_simp
        try first | with_reducible rfl | kernel_rfl
      simp only [Act.put, List.getElem_toArray, List.getElem_cons_succ, List.getElem_cons_zero, List.setIfInBounds_toArray, List.set_cons_succ, List.set_cons_zero]
      refine Wl.take0 (i := 12) (v := .slice (some ⟨p, 17, none⟩) ws.length 4) rfl (by kernel_rfl) (by kernel_rfl) (by kernel_rfl) (by kernel_rfl) (fun _ _ _ h => h) (.inl ⟨by kernel_rfl, ?_⟩) hk ?_
      · intro wx hSw
        have hl := hSw.2.2
        have hl2 : (ws.length : Int) ≤ 4 := by omega
        clear hSw hk
        go_simp
        try first | with_reducible rfl | kernel_rfl
      simp only [Act.put, List.getElem_toArray, List.getElem_cons_succ, List.getElem_cons_zero, List.setIfInBounds_toArray, List.set_cons_succ, List.set_cons_zero]
      refine Wl.take0 (i := 13) (v := .int .i64 s) rfl (by kernel_rfl) (by kernel_rfl) (by kernel_rfl) (by kernel_rfl) (fun _ _ _ h => h) (.inl ⟨by kernel_rfl, ?_⟩) hk ?_
      · intro wx hSw
        clear hSw hk
        go_simp
        try first | with_reducible rfl | kernel_rfl
      simp only [Act.put, List.getElem_toArray, List.getElem_cons_succ, List.getElem_cons_zero, List.setIfInBounds_toArray, List.set_cons_succ, List.set_cons_zero]
      refine Wl.one (i := 14) (by kernel_rfl) rfl (fun K hK => ?_)
      rw [if_pos (by kernel_rfl)]
      go_simp
      refine (contains_any ws p 17 4 s _ ⟨HD2.out.2.2, by omega⟩ HD2.out.wcells).mono ?_
      rintro e w2x ⟨rfl, rfl⟩
      rw [HW.out]
      refine hK.out _ _ (Wl.Kn.on trivial HD2.out) (fun hk => ?_)
      clear hK K
      refine Wl.take0 (i := 15) (v := .bool false) rfl (by kernel_rfl) (by kernel_rfl) (by kernel_rfl) (by kernel_rfl) (fun _ _ _ h => h) (.inl ⟨by kernel_rfl, ?_⟩) hk ?_
      · intro wx hSw
        clear hSw hk
        go_simp
        try first | with_reducible rfl | kernel_rfl
      simp only [Act.put, List.getElem_toArray, List.getElem_cons_succ, List.getElem_cons_zero, List.setIfInBounds_toArray, List.set_cons_succ, List.set_cons_zero]
      refine Wl.done (by kernel_rfl) ?_ _
      clear hk
      go_wp2_with fail
      refine (holding_any 0 _ HD2.out).mono ?_
      rintro e w3 ⟨rfl, hb⟩
      rw [HIX.out]
      have HD3 := Lib.hid (PoolAt.below HD2.out hb)
      have HO3 := Lib.hid ((onlyD HB2.out (fun k => k = p)).trans (Below.onlyP hb (fun k => k = p)))
      have c21 := HD3.out.waiting
      clear hb
      go_wp2
      go_ret2
      exact ⟨rfl, HD3.out, HO3.out⟩
    · have e : wantE s cs ws = 0 := by unfold wantE; rw [if_neg (by omega), if_neg (by rintro (q | q); omega; exact hm q), if_neg (by omega), if_neg h4]
      have hn : ¬ idleP s cs ws := fun q => by have := q.2; omega
      have e1 : wantV s cs ws = 0 := if_neg hn
      have e2 : wantC s cs ws = cs := if_neg hn
      have e3 : wantW s cs ws = ws ++ [s] := if_pos ⟨e, by omega⟩
      rw [e1, e2, e3, e]
      have h4i : ¬ (4 : Int) ≤ (ws.length : Int) := by omega
      clear h e e1 e2 e3 hm eo ei hn
      go_enter Try.func10, Try.ntmps10
      go_upto_region 3 with fail
      refine Wl.start 999 (fun _ => True) (fun u => PoolAt u p cs ws) (by kernel_rfl) trivial HDD.out (fun hk => ?_)
      refine Wl.take0 (i := 0) (v := .pointer (some ⟨p, 0, none⟩)) rfl (by kernel_rfl) (by kernel_rfl) (by kernel_rfl) (by kernel_rfl) (fun _ _ _ h => h) (.inl ⟨by kernel_rfl, ?_⟩) hk ?_
      · intro wx hSw
        clear hSw hk
        go_simp
        try first | with_reducible rfl | kernel_rfl
      simp only [Act.put, List.getElem_toArray, List.getElem_cons_succ, List.getElem_cons_zero, List.setIfInBounds_toArray, List.set_cons_succ, List.set_cons_zero]
      refine Wl.take0 (i := 1) (v := .int .i64 s) rfl (by kernel_rfl) (by kernel_rfl) (by kernel_rfl) (by kernel_rfl) (fun _ _ _ h => h) (.inl ⟨by kernel_rfl, ?_⟩) hk ?_
      · intro wx hSw
        clear hSw hk
        go_simp
        try first | with_reducible rfl | kernel_rfl
      simp only [Act.put, List.getElem_toArray, List.getElem_cons_succ, List.getElem_cons_zero, List.setIfInBounds_toArray, List.set_cons_succ, List.set_cons_zero]
      refine Wl.one (i := 2) (by kernel_rfl) rfl (fun K hK => ?_)
      go_simp
      refine (of_any s _ HDD.out).mono ?_
      rintro e w2 ⟨rfl, hb⟩
      try rw [HOF.out]
      have HD2 := Lib.hid (PoolAt.below HDD.out hb)
      have HB2 := Lib.hid hb
      clear hb
      refine hK.out _ _ (Wl.Kn.on trivial HD2.out) (fun hk => ?_)
      clear hK K
      refine Wl.take0 (i := 3) (v := .bool false) rfl (by kernel_rfl) (by kernel_rfl) (by kernel_rfl) (by kernel_rfl) (fun _ _ _ h => h) (.inl ⟨by kernel_rfl, ?_⟩) hk ?_
      · intro wx hSw
        clear hSw hk
        go_simp
        try first | with_reducible rfl | kernel_rfl
      simp only [Act.put, List.getElem_toArray, List.getElem_cons_succ, List.getElem_cons_zero, List.setIfInBounds_toArray, List.set_cons_succ, List.set_cons_zero]
      refine Wl.take0 (i := 4) (v := .bool false) rfl (by kernel_rfl) (by kernel_rfl) (by kernel_rfl) (by kernel_rfl) (fun _ _ _ h => h) (.inl ⟨by kernel_rfl, ?_⟩) hk ?_
      · intro wx hSw
        clear hSw hk
        go_simp
        try first | with_reducible rfl | kernel_rfl
      simp only [Act.put, List.getElem_toArray, List.getElem_cons_succ, List.getElem_cons_zero, List.setIfInBounds_toArray, List.set_cons_succ, List.set_cons_zero]
      refine Wl.take0 (i := 5) (v := .pointer (some ⟨p, 0, none⟩)) rfl (by kernel_rfl) (by kernel_rfl) (by kernel_rfl) (by kernel_rfl) (fun _ _ _ h => h) (.inl ⟨by kernel_rfl, ?_⟩) hk ?_
      · intro wx hSw
        clear hSw hk
        go_simp
        try first | with_reducible rfl | kernel_rfl
      simp only [Act.put, List.getElem_toArray, List.getElem_cons_succ, List.getElem_cons_zero, List.setIfInBounds_toArray, List.set_cons_succ, List.set_cons_zero]
      refine Wl.take0 (i := 6) (v := .pointer (some ⟨p, 0, none⟩)) rfl (by kernel_rfl) (by kernel_rfl) (by kernel_rfl) (by kernel_rfl) (fun _ _ _ h => h) (.inl ⟨by kernel_rfl, ?_⟩) hk ?_
      · intro wx hSw
        clear hSw hk
        go_simp
        try first | with_reducible rfl | kernel_rfl
      simp only [Act.put, List.getElem_toArray, List.getElem_cons_succ, List.getElem_cons_zero, List.setIfInBounds_toArray, List.set_cons_succ, List.set_cons_zero]
      refine Wl.take0 (i := 7) (v := .pointer (some ⟨p, 17, none⟩)) rfl (by kernel_rfl) (by kernel_rfl) (by kernel_rfl) (by kernel_rfl) (fun _ _ _ h => h) (.inl ⟨by kernel_rfl, ?_⟩) hk ?_
      · intro wx hSw
        clear hSw hk
        go_simp
        try first | with_reducible rfl | kernel_rfl
      simp only [Act.put, List.getElem_toArray, List.getElem_cons_succ, List.getElem_cons_zero, List.setIfInBounds_toArray, List.set_cons_succ, List.set_cons_zero]
      refine Wl.take0 (i := 8) (v := .pointer (some ⟨p, 0, none⟩)) rfl (by kernel_rfl) (by kernel_rfl) (by kernel_rfl) (by kernel_rfl) (fun _ _ _ h => h) (.inl ⟨by kernel_rfl, ?_⟩) hk ?_
      · intro wx hSw
        clear hSw hk
        go_simp
        try first | with_reducible rfl | kernel_rfl
      simp only [Act.put, List.getElem_toArray, List.getElem_cons_succ, List.getElem_cons_zero, List.setIfInBounds_toArray, List.set_cons_succ, List.set_cons_zero]
      refine Wl.take0 (i := 9) (v := .pointer (some ⟨p, 0, none⟩)) rfl (by kernel_rfl) (by kernel_rfl) (by kernel_rfl) (by kernel_rfl) (fun _ _ _ h => h) (.inl ⟨by kernel_rfl, ?_⟩) hk ?_
      · intro wx hSw
        clear hSw hk
        go_simp
        try first | with_reducible rfl | kernel_rfl
      simp only [Act.put, List.getElem_toArray, List.getElem_cons_succ, List.getElem_cons_zero, List.setIfInBounds_toArray, List.set_cons_succ, List.set_cons_zero]
      refine Wl.take0 (i := 10) (v := .pointer (some ⟨p, 21, none⟩)) rfl (by kernel_rfl) (by kernel_rfl) (by kernel_rfl) (by kernel_rfl) (fun _ _ _ h => h) (.inl ⟨by kernel_rfl, ?_⟩) hk ?_
      · intro wx hSw
        clear hSw hk
        go_simp
        try first | with_reducible rfl | kernel_rfl
      simp only [Act.put, List.getElem_toArray, List.getElem_cons_succ, List.getElem_cons_zero, List.setIfInBounds_toArray, List.set_cons_succ, List.set_cons_zero]
      refine Wl.take0 (i := 11) (v := .int .i64 (ws.length : Int)) rfl (by kernel_rfl) (by kernel_rfl) (by kernel_rfl) (by kernel_rfl) (fun _ _ _ h => h) (.inl ⟨by kernel_rfl, ?_⟩) hk ?_
      · intro wx hSw
        have cc := hSw.waiting
        clear hSw hk
        go_simp
        try first | with_reducible rfl | kernel_rfl
      simp only [Act.put, List.getElem_toArray, List.getElem_cons_succ, List.getElem_cons_zero, List.setIfInBounds_toArray, List.set_cons_succ, List.set_cons_zero]
      refine Wl.take0 (i := 12) (v := .slice (some ⟨p, 17, none⟩) ws.length 4) rfl (by kernel_rfl) (by kernel_rfl) (by kernel_rfl) (by kernel_rfl) (fun _ _ _ h => h) (.inl ⟨by kernel_rfl, ?_⟩) hk ?_
      · intro wx hSw
        have hl := hSw.2.2
        have hl2 : (ws.length : Int) ≤ 4 := by omega
        clear hSw hk
        go_simp
        try first | with_reducible rfl | kernel_rfl
      simp only [Act.put, List.getElem_toArray, List.getElem_cons_succ, List.getElem_cons_zero, List.setIfInBounds_toArray, List.set_cons_succ, List.set_cons_zero]
      refine Wl.take0 (i := 13) (v := .int .i64 s) rfl (by kernel_rfl) (by kernel_rfl) (by kernel_rfl) (by kernel_rfl) (fun _ _ _ h => h) (.inl ⟨by kernel_rfl, ?_⟩) hk ?_
      · intro wx hSw
        clear hSw hk
        go_simp
        try first | with_reducible rfl | kernel_rfl
      simp only [Act.put, List.getElem_toArray, List.getElem_cons_succ, List.getElem_cons_zero, List.setIfInBounds_toArray, List.set_cons_succ, List.set_cons_zero]
      refine Wl.one (i := 14) (by kernel_rfl) rfl (fun K hK => ?_)
      rw [if_pos (by kernel_rfl)]
      go_simp
      refine (contains_any ws p 17 4 s _ ⟨HD2.out.2.2, by omega⟩ HD2.out.wcells).mono ?_
      rintro e w2x ⟨rfl, rfl⟩
      rw [HW.out]
      refine hK.out _ _ (Wl.Kn.on trivial HD2.out) (fun hk => ?_)
      clear hK K
      refine Wl.take0 (i := 15) (v := .bool false) rfl (by kernel_rfl) (by kernel_rfl) (by kernel_rfl) (by kernel_rfl) (fun _ _ _ h => h) (.inl ⟨by kernel_rfl, ?_⟩) hk ?_
      · intro wx hSw
        clear hSw hk
        go_simp
        try first | with_reducible rfl | kernel_rfl
      simp only [Act.put, List.getElem_toArray, List.getElem_cons_succ, List.getElem_cons_zero, List.setIfInBounds_toArray, List.set_cons_succ, List.set_cons_zero]
      refine Wl.done (by kernel_rfl) ?_ _
      clear hk
      go_wp2_with fail
      refine (holding_any 0 _ HD2.out).mono ?_
      rintro e w3 ⟨rfl, hb⟩
      rw [HIX.out]
      have hp3 := (PoolAt.below HD2.out hb).drew
      have HD3 := Lib.hid hp3
      have HO3 := Lib.hid ((onlyD HB2.out (fun k => k = p)).trans (Below.onlyP hb (fun k => k = p)))
      have c21 : w3.cell? ⟨p, 21, none⟩ = some (.int .i64 (ws.length : Int)) := (PoolAt.below HD2.out hb).waiting
      have hcn := hp3.1.c (17 + ws.length) (by omega)
      have hzn := hp3.1.z (17 + ws.length)
      obtain ⟨W4, hW4⟩ : ∃ q, w3.drew.setCell ⟨p, 17 + ws.length, none⟩ (.int .i64 s) = q := ⟨_, rfl⟩
      have hr4 := hp3.1.set (17 + ws.length) s
      rw [hW4] at hr4
      have d21 : W4.cell? ⟨p, 21, none⟩ = some (.int .i64 (ws.length : Int)) := by
        have e : (fun j => if j = 17 + ws.length then s else cellOf cs ws j) 21 = (ws.length : Int) := by
          show (if 21 = 17 + ws.length then s else cellOf cs ws 21) = (ws.length : Int)
          rw [if_neg (by omega)]
          rfl
        rw [← e]
        exact hr4.c 21 (by omega)
      have y21 := hr4.z 21
      obtain ⟨W5, hW5⟩ : ∃ q, W4.setCell ⟨p, 21, none⟩ (.int .i64 ((ws.length : Int) + 1)) = q := ⟨_, rfl⟩
      have hr5 := hr4.set 21 ((ws.length : Int) + 1)
      rw [hW5] at hr5
      have HF : Hid (PoolAt W5 p cs (ws ++ [s]) ∧ Only (fun k => k = p) w W5) := Lib.hid ⟨⟨hr5.congr (fun i hi => push_cell (by omega) s i hi), hp3.2.1, by rw [List.length_append, List.length_singleton]; omega⟩, by
        rw [← hW5, ← hW4]
        exact ((HO3.out.drew.set p _ _ rfl).set p 21 _ rfl)⟩
      clear hb hp3 hr4 hr5
      go_upto_region 11 with fail
      refine Wl.start 9 (fun u => PoolAt u p cs ws) (fun _ => True) (by kernel_rfl) HD3.out trivial (fun hk => ?_)
      refine Wl.take (i := 0) (v := .pointer (some ⟨p, 0, none⟩)) [6, 7, 8, 9] rfl (by kernel_rfl) (by kernel_rfl) (by kernel_rfl) (by kernel_rfl) (by kernel_rfl) (fun _ _ _ h => h) (.inl ⟨by kernel_rfl, ?_⟩) hk ?_
      · intro wx hSw
        clear hSw hk
        go_simp
        try first | with_reducible rfl | kernel_rfl
      simp only [Act.put, List.getElem_toArray, List.getElem_cons_succ, List.getElem_cons_zero, List.setIfInBounds_toArray, List.set_cons_succ, List.set_cons_zero]
      refine Wl.take (i := 1) (v := .pointer (some ⟨p, 0, none⟩)) [2, 3, 4, 8, 9] rfl (by kernel_rfl) (by kernel_rfl) (by kernel_rfl) (by kernel_rfl) (by kernel_rfl) (fun _ _ _ h => h) (.inl ⟨by kernel_rfl, ?_⟩) hk ?_
      · intro wx hSw
        clear hSw hk
        go_simp
        try first | with_reducible rfl | kernel_rfl
      simp only [Act.put, List.getElem_toArray, List.getElem_cons_succ, List.getElem_cons_zero, List.setIfInBounds_toArray, List.set_cons_succ, List.set_cons_zero]
      refine Wl.take (i := 2) (v := .pointer (some ⟨p, 0, none⟩)) [3, 4, 8, 9] rfl (by kernel_rfl) (by kernel_rfl) (by kernel_rfl) (by kernel_rfl) (by kernel_rfl) (fun _ _ _ h => h) (.inl ⟨by kernel_rfl, ?_⟩) hk ?_
      · intro wx hSw
        clear hSw hk
        go_simp
        try first | with_reducible rfl | kernel_rfl
      simp only [Act.put, List.getElem_toArray, List.getElem_cons_succ, List.getElem_cons_zero, List.setIfInBounds_toArray, List.set_cons_succ, List.set_cons_zero]
      refine Wl.take (i := 3) (v := .pointer (some ⟨p, 21, none⟩)) [4, 8, 9] rfl (by kernel_rfl) (by kernel_rfl) (by kernel_rfl) (by kernel_rfl) (by kernel_rfl) (fun _ _ _ h => h) (.inl ⟨by kernel_rfl, ?_⟩) hk ?_
      · intro wx hSw
        clear hSw hk
        go_simp
        try first | with_reducible rfl | kernel_rfl
      simp only [Act.put, List.getElem_toArray, List.getElem_cons_succ, List.getElem_cons_zero, List.setIfInBounds_toArray, List.set_cons_succ, List.set_cons_zero]
      refine Wl.take (i := 4) (v := .int .i64 (ws.length : Int)) [8, 9] rfl (by kernel_rfl) (by kernel_rfl) (by kernel_rfl) (by kernel_rfl) (by kernel_rfl) (fun _ _ _ h => h) (.inl ⟨by kernel_rfl, ?_⟩) hk ?_
      · intro wx hSw
        have cc := hSw.1.waiting
        clear hSw hk
        go_simp
        try first | with_reducible rfl | kernel_rfl
      simp only [Act.put, List.getElem_toArray, List.getElem_cons_succ, List.getElem_cons_zero, List.setIfInBounds_toArray, List.set_cons_succ, List.set_cons_zero]
      refine Wl.take (i := 5) (v := .int .i64 s) [8, 9] rfl (by kernel_rfl) (by kernel_rfl) (by kernel_rfl) (by kernel_rfl) (by kernel_rfl) (fun _ _ _ h => h) (.inl ⟨by kernel_rfl, ?_⟩) hk ?_
      · intro wx hSw
        clear hSw hk
        go_simp
        try first | with_reducible rfl | kernel_rfl
      simp only [Act.put, List.getElem_toArray, List.getElem_cons_succ, List.getElem_cons_zero, List.setIfInBounds_toArray, List.set_cons_succ, List.set_cons_zero]
      refine Wl.take (i := 6) (v := .pointer (some ⟨p, 0, none⟩)) [7, 8, 9] rfl (by kernel_rfl) (by kernel_rfl) (by kernel_rfl) (by kernel_rfl) (by kernel_rfl) (fun _ _ _ h => h) (.inl ⟨by kernel_rfl, ?_⟩) hk ?_
      · intro wx hSw
        clear hSw hk
        go_simp
        try first | with_reducible rfl | kernel_rfl
      simp only [Act.put, List.getElem_toArray, List.getElem_cons_succ, List.getElem_cons_zero, List.setIfInBounds_toArray, List.set_cons_succ, List.set_cons_zero]
      refine Wl.take (i := 7) (v := .pointer (some ⟨p, 17, none⟩)) [8, 9] rfl (by kernel_rfl) (by kernel_rfl) (by kernel_rfl) (by kernel_rfl) (by kernel_rfl) (fun _ _ _ h => h) (.inl ⟨by kernel_rfl, ?_⟩) hk ?_
      · intro wx hSw
        clear hSw hk
        go_simp
        try first | with_reducible rfl | kernel_rfl
      simp only [Act.put, List.getElem_toArray, List.getElem_cons_succ, List.getElem_cons_zero, List.setIfInBounds_toArray, List.set_cons_succ, List.set_cons_zero]
      refine Wl.take (i := 8) (v := .pointer (some ⟨p, 17 + ws.length, none⟩)) [9] rfl (by kernel_rfl) (by kernel_rfl) (by kernel_rfl) (by kernel_rfl) (by kernel_rfl) (fun _ _ _ h => h) (.inl ⟨by kernel_rfl, ?_⟩) hk ?_
      · intro wx hSw
        have hi1 : (0 : Int) ≤ (ws.length : Int) := by omega
        have hi2 : (ws.length : Int) < 4 := by omega
        clear hSw hk
        go_simp
        try first | with_reducible rfl | kernel_rfl
      simp only [Act.put, List.getElem_toArray, List.getElem_cons_succ, List.getElem_cons_zero, List.setIfInBounds_toArray, List.set_cons_succ, List.set_cons_zero]
      refine Wl.one (i := 9) (by kernel_rfl) rfl (fun K hK => ?_)
      go_simp
      try rw [hW4]
      refine hK.out _ _ (Wl.Kn.off (by kernel_rfl) trivial) (fun hk => ?_)
      clear hK K
      refine Wl.done (by kernel_rfl) ?_ _
      clear hk
      clear hcn hzn c21 hW4
      go_wp2
      go_ret2
      exact ⟨rfl, HF.out⟩
end Pl
end Go.Proofs.Ytlhojkopfpnhpaa
