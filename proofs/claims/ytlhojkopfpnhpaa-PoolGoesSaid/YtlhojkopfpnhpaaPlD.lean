/- Package pool: New, first, Open, Close. No condition. -/
import Derived.Test.YtlhojkopfpnhpaaPlC
namespace Go.Proofs.Ytlhojkopfpnhpaa
open Go.ChangeShapes Go.WideShapes Go.ChangeAt Go.RowKit Go.Deep
set_option linter.unusedVariables false
set_option maxRecDepth 100000
set_option linter.unusedSimpArgs false
theorem Only.two {S : Nat → Prop} {w w1 : World} (h : Only S w w1) (p o : Nat) (a b : Value) (hs : S p) : Only S w (w1.setCells p o [a, b]) := (h.set p o a hs).set p (o + 1) b hs
theorem Only.sub {S T : Nat → Prop} {a b : World} (h : Only S a b) (hs : ∀ k, S k → T k) : Only T a b := ⟨h.1, h.2.1, h.2.2.1, h.2.2.2.1, fun i hi ht => h.2.2.2.2 i hi fun hk => ht (hs i hk)⟩
theorem Below.onlyP {w w' : World} (h : Below w.heap.size w w') (S : Nat → Prop) : Only S w w' := ⟨h.os, h.tape, h.output, h.size, fun k hk _ => h.block k hk⟩
namespace Pl
theorem RawP.there {w : World} {p : Nat} {f : Nat → Int} (h : RawP w p f) (o n : Nat) (hn : o + n ≤ 22) : w.there p o n := fun j hj => ⟨by rw [h.c (o + j) (by omega)]; rfl, h.z _⟩
theorem RawP.two {w : World} {p : Nat} {f : Nat → Int} (h : RawP w p f) (o : Nat) (a b : Int) : RawP (w.setCells p o [.int .i64 a, .int .i64 b]) p (fun j => if j = o + 1 then b else if j = o then a else f j) := (h.set o a).set (o + 1) b
theorem two_one (a b : Int) : (#[Value.int .i64 a, .int .i64 b] : Array Value).all (·.oneCell') = true := all_oneCell_toArray (cs := [.int .i64 a, .int .i64 b]) (by intro u hu; simp at hu; rcases hu with rfl | rfl <;> rfl)
/-- what a call does: it answers, and the pool is so -/
def OpR (p : Nat) (z r : Int) (cs : List Cn) (ws : List Int) (w : World) (e : Ending) (w' : World) : Prop := e = .returned (.tuple #[.int .i64 z, .int .i64 r]) ∧ PoolAt w' p cs ws ∧ Only (fun k => k = p) w w'
theorem new_any (w : World) : Calls Try.prog 5 #[] w fun e w' => e = .returned (.pointer (some ⟨w.heap.size, 0, none⟩)) ∧ PoolAt w' w.heap.size [] [] ∧ Below w.heap.size w w' := by
  go_enter Try.func5, Try.ntmps5
  go_wp2
  go_ret
  refine ⟨rfl, ⟨?_, by decide, by decide⟩, (Below.refl _ _).alloc (Nat.le_refl _) _⟩
  refine World.rowIs.congr (World.rowIs_alloc w _ _ (fun _ => .int .i64 0) ?_) ?_
  · intro i hi
    match i, hi with
    | 0, _ => rfl
    | 1, _ => rfl
    | 2, _ => rfl
    | 3, _ => rfl
    | 4, _ => rfl
    | 5, _ => rfl
    | 6, _ => rfl
    | 7, _ => rfl
    | 8, _ => rfl
    | 9, _ => rfl
    | 10, _ => rfl
    | 11, _ => rfl
    | 12, _ => rfl
    | 13, _ => rfl
    | 14, _ => rfl
    | 15, _ => rfl
    | 16, _ => rfl
    | 17, _ => rfl
    | 18, _ => rfl
    | 19, _ => rfl
    | 20, _ => rfl
    | 21, _ => rfl
    | n + 22, hi => exact absurd hi (by simp)
  · intro i hi
    have : ∀ i, i < 22 → cellOf [] [] i = 0 := by decide
    rw [this i hi]
theorem first_any {p : Nat} {cs : List Cn} {ws : List Int} (w : World) (h : PoolAt w p cs ws) : Calls Try.prog 21 #[.pointer (some ⟨p, 0, none⟩)] w fun e w' => e = .returned (.int .i64 (ws.headD 0)) ∧ PoolAt w' p cs ws.tail ∧ Only (fun k => k = p) w w' := by
  have c17 := h.first
  have c21 := h.waiting
  cases ws with
  | nil =>
    have HD := Lib.hid h
    clear h
    simp only [List.headD_nil] at c17 ⊢
    go_enter Try.func21, Try.ntmps21
    go_wp2
    go_ret
    exact ⟨rfl, HD.out, Only.refl _ _⟩
  | cons x xs =>
    have HD := Lib.hid h
    have hpos : (0 : Int) < (((x :: xs).length : Nat) : Int) := by simp only [List.length_cons]; omega
    obtain ⟨n, hn⟩ : ∃ n, (x :: xs).length = n := ⟨_, rfl⟩
    rw [hn] at hpos c21
    clear h hn
    simp only [List.headD_cons] at c17 ⊢
    go_enter Try.func21, Try.ntmps21
    go_wp2_with (refine (leave_any x _ HD.out).mono ?_; rintro e w2 ⟨rfl, hp, ho⟩; rw [List.erase_cons_head] at hp; have HP := Lib.hid hp; have HO := Lib.hid ho; clear hp ho)
    go_ret
    exact ⟨rfl, HP.out, HO.out⟩
def insC (t s : Int) (cs : List Cn) : List Cn := cs.take (posC t cs) ++ ⟨t, s⟩ :: cs.drop (posC t cs)
theorem ins_len (t s : Int) (cs : List Cn) : (insC t s cs).length = cs.length + 1 := by
  unfold insC
  have := pos_le t cs
  rw [List.length_append, List.length_cons, List.length_take, List.length_drop]
  omega
theorem ins_get (t s : Int) (cs : List Cn) (i : Nat) : (insC t s cs)[i]? = if i < posC t cs then cs[i]? else if i = posC t cs then some ⟨t, s⟩ else cs[i - 1]? := by
  unfold insC
  have := pos_le t cs
  have hl : (cs.take (posC t cs)).length = posC t cs := by rw [List.length_take]; omega
  by_cases h1 : i < posC t cs
  · rw [if_pos h1, List.getElem?_append_left (by omega), List.getElem?_take_of_lt h1]
  · rw [if_neg h1, List.getElem?_append_right (by omega), hl]
    by_cases h2 : i = posC t cs
    · rw [if_pos h2, show i - posC t cs = 0 by omega, List.getElem?_cons_zero]
    · rw [if_neg h2, show i - posC t cs = (i - 1 - posC t cs) + 1 by omega, List.getElem?_cons_succ, List.getElem?_drop, show posC t cs + (i - 1 - posC t cs) = i - 1 by omega]
/-- the row behind 'Open' -/
theorem open_row {cs : List Cn} {ws : List Int} {t s : Int} {a OFF : Nat} (h8 : cs.length < 8) (hw : ws.length ≤ 4) (ha : posC t cs = a) (hO : (if 8 = a + 1 then 0 else (a + 1) * 2) = OFF) (i : Nat) (hi : i < 22) :
    (if i = 16 then (cs.length : Int) + 1 else if i = a * 2 + 1 then s else if i = a * 2 then t else cpy OFF (a * 2) ((cs.length - a) * 2) (cellOf cs ws) i) = cellOf (insC t s cs) ws i := by
  have hle : a ≤ cs.length := ha ▸ pos_le t cs
  have hlen := ins_len t s cs
  by_cases h1 : i < 16
  · rw [if_neg (by omega)]
    have hr : cellOf (insC t s cs) ws i = if i % 2 = 0 then ((if i / 2 < a then cs[i / 2]? else if i / 2 = a then some ⟨t, s⟩ else cs[i / 2 - 1]?).map Cn.tok).getD 0 else ((if i / 2 < a then cs[i / 2]? else if i / 2 = a then some ⟨t, s⟩ else cs[i / 2 - 1]?).map Cn.sess).getD 0 := by
      unfold cellOf
      rw [if_pos h1, ins_get, ha]
    rw [hr]
    by_cases h2 : i = a * 2 + 1
    · rw [if_pos h2, if_neg (by omega), if_neg (by omega), if_pos (by omega)]
      rfl
    · rw [if_neg h2]
      by_cases h3 : i = a * 2
      · rw [if_pos h3, if_pos (by omega), if_neg (by omega), if_pos (by omega)]
        rfl
      · rw [if_neg h3]
        by_cases h4 : i / 2 < a
        · have hc : cpy OFF (a * 2) ((cs.length - a) * 2) (cellOf cs ws) i = cellOf cs ws i := by
            unfold cpy
            rw [if_neg]
            intro hq
            split at hO <;> omega
          rw [hc]
          unfold cellOf
          rw [if_pos h1, if_pos h4]
        · have h5 : ¬ i / 2 = a := by omega
          by_cases h6 : i / 2 - 1 < cs.length
          · have hc : cpy OFF (a * 2) ((cs.length - a) * 2) (cellOf cs ws) i = cellOf cs ws (i - 2) := by
              unfold cpy
              rw [if_neg (by omega)] at hO
              rw [if_pos (by omega), show i - OFF + a * 2 = i - 2 by omega]
            rw [hc]
            unfold cellOf
            rw [if_pos (by omega), show (i - 2) % 2 = i % 2 by omega, show (i - 2) / 2 = i / 2 - 1 by omega, if_neg h4, if_neg h5]
          · have hc : cpy OFF (a * 2) ((cs.length - a) * 2) (cellOf cs ws) i = cellOf cs ws i := by
              unfold cpy
              rw [if_neg]
              intro hq
              split at hO <;> omega
            rw [hc]
            unfold cellOf
            rw [if_pos h1, if_neg h4, if_neg h5, List.getElem?_eq_none (by omega), List.getElem?_eq_none (by omega)]
  · have hc : cpy OFF (a * 2) ((cs.length - a) * 2) (cellOf cs ws) i = cellOf cs ws i := by
      unfold cpy
      rw [if_neg]
      intro hq
      split at hO <;> omega
    rw [if_neg (by omega : ¬ i = a * 2 + 1), if_neg (by omega : ¬ i = a * 2), hc]
    unfold cellOf
    rw [if_neg h1, if_neg h1, hlen]
    by_cases h2 : i = 16
    · rw [if_pos h2, if_pos h2]; omega
    · rw [if_neg h2, if_neg h2, if_neg h2]
def openE (t : Int) (cs : List Cn) : Int := if t < 1 ∨ 65535 < t then 1 else if hasC t cs = true then 3 else if 8 ≤ cs.length then 6 else 0
def openV (t : Int) (cs : List Cn) (ws : List Int) : Int := if openE t cs = 0 then ws.headD 0 else 0
def openC (t : Int) (cs : List Cn) (ws : List Int) : List Cn := if openE t cs = 0 then insC t (ws.headD 0) cs else cs
def openW (t : Int) (cs : List Cn) (ws : List Int) : List Int := if openE t cs = 0 then ws.tail else ws

set_option maxHeartbeats 2000000 in
theorem open_good {p : Nat} {cs : List Cn} {ws : List Int} (t : Int) (w : World) (h : PoolAt w p cs ws) (hs : Sorted cs) (h1 : ¬ t < 1) (h2 : ¬ 65535 < t) (hh : hasC t cs = false) (h8 : cs.length < 8) : Calls Try.prog 6 #[.pointer (some ⟨p, 0, none⟩), .int .i64 t] w (OpR p (ws.headD 0) 0 (insC t (ws.headD 0) cs) ws.tail w) := by
  have HD := Lib.hid h
  have HS := Lib.hid hs
  have HH := Lib.hid hh
  have HWL := Lib.hid h.2.2
  obtain ⟨a, ha⟩ : ∃ q, posC t cs = q := ⟨_, rfl⟩
  have hle : a ≤ cs.length := ha ▸ pos_le t cs
  have HA := Lib.hid ha
  clear h hs hh
  go_enter Try.func6, Try.ntmps6
  go_wp2_with fail
  refine (find_any t _ HD.out HS.out).mono ?_
  rintro e w2 ⟨rfl, hb⟩
  rw [HH.out, HA.out]
  have HD2 := Lib.hid (PoolAt.below HD.out hb)
  have HB2 := Lib.hid hb
  have c16 := HD2.out.many
  have hl8 : ¬ (8 : Int) ≤ (cs.length : Int) := by omega
  clear hb
  go_wp2_with fail
  refine (first_any _ HD2.out).mono ?_
  rintro e w3 ⟨rfl, hp3, ho3⟩
  obtain ⟨s, hs⟩ : ∃ q, ws.headD 0 = q := ⟨_, rfl⟩
  rw [hs]
  have HSS := Lib.hid hs
  have HD3 := Lib.hid hp3.drew
  have HO3 := Lib.hid ((Below.onlyP HB2.out (fun k => k = p)).trans ho3)
  clear c16
  obtain ⟨OFF, hOFF⟩ : ∃ q, (if 8 = a + 1 then 0 else (a + 1) * 2) = q := ⟨_, rfl⟩
  have HFT : Hid (OFF + (cs.length - a) * 2 ≤ 22) := Lib.hid (by split at hOFF <;> omega)
  obtain ⟨cur, hcu, hcl, hln, hsr, ho1, hraw⟩ := RawP.cpy hp3.1.drew OFF (a * 2) ((cs.length - a) * 2) (by omega) HFT.out
  have HCU := Lib.hid hcu
  have HCL := Lib.hid hcl
  have HLN := Lib.hid hln
  have HSR := Lib.hid hsr
  have HO1 := Lib.hid ho1
  have HMN : Hid (Nat.min (cs.length - a) (8 - (a + 1)) = cs.length - a) := Lib.hid (Nat.min_eq_left (by omega))
  obtain ⟨W4, hW4⟩ : ∃ q, w3.drew.setRow p (splice cur OFF ((List.range ((cs.length - a) * 2)).map fun j => Value.int .i64 (cellOf cs ws.tail (a * 2 + j)))).toArray = q := ⟨_, rfl⟩
  rw [hW4] at hraw
  obtain ⟨W5, hW5⟩ : ∃ q, W4.setCells p (a * 2) [.int .i64 t, .int .i64 s] = q := ⟨_, rfl⟩
  have hr5 := hraw.two (a * 2) t s
  rw [hW5] at hr5
  have hth := hraw.there (a * 2) 2 (by omega)
  have c16 : W5.cell? ⟨p, 16, none⟩ = some (.int .i64 (cs.length : Int)) := by
    have e : (fun j => if j = a * 2 + 1 then s else if j = a * 2 then t else cpy OFF (a * 2) ((cs.length - a) * 2) (cellOf cs ws.tail) j) 16 = (cs.length : Int) := by
      show (if 16 = a * 2 + 1 then s else if 16 = a * 2 then t else cpy OFF (a * 2) ((cs.length - a) * 2) (cellOf cs ws.tail) 16) = (cs.length : Int)
      rw [if_neg (by omega), if_neg (by omega)]
      unfold cpy
      rw [if_neg (by intro hq; split at hOFF <;> omega)]
      rfl
    rw [← e]
    exact hr5.c 16 (by omega)
  have z16 := hr5.z 16
  obtain ⟨W6, hW6⟩ : ∃ q, W5.setCell ⟨p, 16, none⟩ (.int .i64 ((cs.length : Int) + 1)) = q := ⟨_, rfl⟩
  have hr6 := hr5.set 16 ((cs.length : Int) + 1)
  rw [hW6] at hr6
  have HF : Hid (PoolAt W6 p (insC t s cs) ws.tail ∧ Only (fun k => k = p) w W6) := Lib.hid ⟨⟨hr6.congr (fun i hi => open_row h8 hp3.2.2 HA.out hOFF i hi), by rw [ins_len]; omega, hp3.2.2⟩, by
    rw [← hW6, ← hW5, ← hW4]
    exact ((HO3.out.drew.row p _ rfl).two p _ _ _ rfl).set p 16 _ rfl⟩
  clear hp3 ho3 hcu hcl hln hsr ho1 hraw hr5 hr6 hs
  go_upto_region 9 with fail
  refine Wl.start 15 (fun u => PoolAt u p cs ws.tail) (fun _ => True) (by kernel_rfl) HD3.out trivial (fun hk => ?_)
  refine Wl.take (i := 0) (v := .pointer (some ⟨p, 0, none⟩)) [1, 2, 5, 15] rfl (by kernel_rfl) (by kernel_rfl) (by kernel_rfl) (by kernel_rfl) (by kernel_rfl) (fun _ _ _ h => h) (.inl ⟨by kernel_rfl, ?_⟩) hk ?_
  · intro wx hSw
    clear hSw hk
    go_simp
    try first | with_reducible rfl | kernel_rfl
  simp only [Act.put, List.getElem_toArray, List.getElem_cons_succ, List.getElem_cons_zero, List.setIfInBounds_toArray, List.set_cons_succ, List.set_cons_zero]
  refine Wl.take (i := 1) (v := .pointer (some ⟨p, 0, none⟩)) [2, 5, 15] rfl (by kernel_rfl) (by kernel_rfl) (by kernel_rfl) (by kernel_rfl) (by kernel_rfl) (fun _ _ _ h => h) (.inl ⟨by kernel_rfl, ?_⟩) hk ?_
  · intro wx hSw
    clear hSw hk
    go_simp
    try first | with_reducible rfl | kernel_rfl
  simp only [Act.put, List.getElem_toArray, List.getElem_cons_succ, List.getElem_cons_zero, List.setIfInBounds_toArray, List.set_cons_succ, List.set_cons_zero]
  refine Wl.take (i := 2) (v := .pointer (some ⟨p, 0, none⟩)) [5, 15] rfl (by kernel_rfl) (by kernel_rfl) (by kernel_rfl) (by kernel_rfl) (by kernel_rfl) (fun _ _ _ h => h) (.inl ⟨by kernel_rfl, ?_⟩) hk ?_
  · intro wx hSw
    clear hSw hk
    go_simp
    try first | with_reducible rfl | kernel_rfl
  simp only [Act.put, List.getElem_toArray, List.getElem_cons_succ, List.getElem_cons_zero, List.setIfInBounds_toArray, List.set_cons_succ, List.set_cons_zero]
  refine Wl.take (i := 3) (v := .int .i64 (a : Int)) [4, 5, 15] rfl (by kernel_rfl) (by kernel_rfl) (by kernel_rfl) (by kernel_rfl) (by kernel_rfl) (fun _ _ _ h => h) (.inl ⟨by kernel_rfl, ?_⟩) hk ?_
  · intro wx hSw
    clear hSw hk
    go_simp
    try first | with_reducible rfl | kernel_rfl
  simp only [Act.put, List.getElem_toArray, List.getElem_cons_succ, List.getElem_cons_zero, List.setIfInBounds_toArray, List.set_cons_succ, List.set_cons_zero]
  refine Wl.take (i := 4) (v := .int .i64 ((a : Int) + 1)) [5, 15] rfl (by kernel_rfl) (by kernel_rfl) (by kernel_rfl) (by kernel_rfl) (by kernel_rfl) (fun _ _ _ h => h) (.inl ⟨by kernel_rfl, ?_⟩) hk ?_
  · intro wx hSw
    have hwr : IntKind.i64.wrap ((a : Int) + 1) = (a : Int) + 1 := by rw [IntKind.wrap_i64]; omega
    clear hSw hk
    go_simp
    try first | with_reducible rfl | kernel_rfl
  simp only [Act.put, List.getElem_toArray, List.getElem_cons_succ, List.getElem_cons_zero, List.setIfInBounds_toArray, List.set_cons_succ, List.set_cons_zero]
  refine Wl.take (i := 5) (v := .slice (some ⟨p, OFF, none⟩) (8 - (a + 1)) (8 - (a + 1))) [15] rfl (by kernel_rfl) (by kernel_rfl) (by kernel_rfl) (by kernel_rfl) (by kernel_rfl) (fun _ _ _ h => h) (.inl ⟨by kernel_rfl, ?_⟩) hk ?_
  · intro wx hSw
    rw [← hOFF]
    by_cases hc : a = 7
    · subst hc
      clear hSw hk
      go_simp
      try first | with_reducible rfl | kernel_rfl
    have hne : ¬ (8 = a + 1) := by omega
    have hne2 : ¬ (7 = a) := by omega
    have hq7 : (a : Int) + 1 ≤ 8 := by omega
    have hq8 : (0 : Int) ≤ (a : Int) + 1 := by omega
    have hq9 : ((a : Int) + 1).toNat = a + 1 := by omega
    have hq10 : 8 - (a + 1) = 7 - a := by omega
    clear hSw hk
    go_simp
    try first | with_reducible rfl | kernel_rfl
  simp only [Act.put, List.getElem_toArray, List.getElem_cons_succ, List.getElem_cons_zero, List.setIfInBounds_toArray, List.set_cons_succ, List.set_cons_zero]
  refine Wl.take (i := 6) (v := .pointer (some ⟨p, 0, none⟩)) [7, 8, 14, 15] rfl (by kernel_rfl) (by kernel_rfl) (by kernel_rfl) (by kernel_rfl) (by kernel_rfl) (fun _ _ _ h => h) (.inl ⟨by kernel_rfl, ?_⟩) hk ?_
  · intro wx hSw
    clear hSw hk
    go_simp
    try first | with_reducible rfl | kernel_rfl
  simp only [Act.put, List.getElem_toArray, List.getElem_cons_succ, List.getElem_cons_zero, List.setIfInBounds_toArray, List.set_cons_succ, List.set_cons_zero]
  refine Wl.take (i := 7) (v := .pointer (some ⟨p, 0, none⟩)) [8, 14, 15] rfl (by kernel_rfl) (by kernel_rfl) (by kernel_rfl) (by kernel_rfl) (by kernel_rfl) (fun _ _ _ h => h) (.inl ⟨by kernel_rfl, ?_⟩) hk ?_
  · intro wx hSw
    clear hSw hk
    go_simp
    try first | with_reducible rfl | kernel_rfl
  simp only [Act.put, List.getElem_toArray, List.getElem_cons_succ, List.getElem_cons_zero, List.setIfInBounds_toArray, List.set_cons_succ, List.set_cons_zero]
  refine Wl.take (i := 8) (v := .pointer (some ⟨p, 0, none⟩)) [14, 15] rfl (by kernel_rfl) (by kernel_rfl) (by kernel_rfl) (by kernel_rfl) (by kernel_rfl) (fun _ _ _ h => h) (.inl ⟨by kernel_rfl, ?_⟩) hk ?_
  · intro wx hSw
    clear hSw hk
    go_simp
    try first | with_reducible rfl | kernel_rfl
  simp only [Act.put, List.getElem_toArray, List.getElem_cons_succ, List.getElem_cons_zero, List.setIfInBounds_toArray, List.set_cons_succ, List.set_cons_zero]
  refine Wl.take (i := 9) (v := .int .i64 (a : Int)) [14, 15] rfl (by kernel_rfl) (by kernel_rfl) (by kernel_rfl) (by kernel_rfl) (by kernel_rfl) (fun _ _ _ h => h) (.inl ⟨by kernel_rfl, ?_⟩) hk ?_
  · intro wx hSw
    clear hSw hk
    go_simp
    try first | with_reducible rfl | kernel_rfl
  simp only [Act.put, List.getElem_toArray, List.getElem_cons_succ, List.getElem_cons_zero, List.setIfInBounds_toArray, List.set_cons_succ, List.set_cons_zero]
  refine Wl.take (i := 10) (v := .pointer (some ⟨p, 0, none⟩)) [11, 12, 13, 14, 15] rfl (by kernel_rfl) (by kernel_rfl) (by kernel_rfl) (by kernel_rfl) (by kernel_rfl) (fun _ _ _ h => h) (.inl ⟨by kernel_rfl, ?_⟩) hk ?_
  · intro wx hSw
    clear hSw hk
    go_simp
    try first | with_reducible rfl | kernel_rfl
  simp only [Act.put, List.getElem_toArray, List.getElem_cons_succ, List.getElem_cons_zero, List.setIfInBounds_toArray, List.set_cons_succ, List.set_cons_zero]
  refine Wl.take (i := 11) (v := .pointer (some ⟨p, 0, none⟩)) [12, 13, 14, 15] rfl (by kernel_rfl) (by kernel_rfl) (by kernel_rfl) (by kernel_rfl) (by kernel_rfl) (fun _ _ _ h => h) (.inl ⟨by kernel_rfl, ?_⟩) hk ?_
  · intro wx hSw
    clear hSw hk
    go_simp
    try first | with_reducible rfl | kernel_rfl
  simp only [Act.put, List.getElem_toArray, List.getElem_cons_succ, List.getElem_cons_zero, List.setIfInBounds_toArray, List.set_cons_succ, List.set_cons_zero]
  refine Wl.take (i := 12) (v := .pointer (some ⟨p, 16, none⟩)) [13, 14, 15] rfl (by kernel_rfl) (by kernel_rfl) (by kernel_rfl) (by kernel_rfl) (by kernel_rfl) (fun _ _ _ h => h) (.inl ⟨by kernel_rfl, ?_⟩) hk ?_
  · intro wx hSw
    clear hSw hk
    go_simp
    try first | with_reducible rfl | kernel_rfl
  simp only [Act.put, List.getElem_toArray, List.getElem_cons_succ, List.getElem_cons_zero, List.setIfInBounds_toArray, List.set_cons_succ, List.set_cons_zero]
  refine Wl.take (i := 13) (v := .int .i64 (cs.length : Int)) [14, 15] rfl (by kernel_rfl) (by kernel_rfl) (by kernel_rfl) (by kernel_rfl) (by kernel_rfl) (fun _ _ _ h => h) (.inl ⟨by kernel_rfl, ?_⟩) hk ?_
  · intro wx hSw
    have cc := hSw.1.many
    clear hSw hk
    go_simp
    try first | with_reducible rfl | kernel_rfl
  simp only [Act.put, List.getElem_toArray, List.getElem_cons_succ, List.getElem_cons_zero, List.setIfInBounds_toArray, List.set_cons_succ, List.set_cons_zero]
  refine Wl.take (i := 14) (v := .slice (some ⟨p, a * 2, none⟩) (cs.length - a) (8 - a)) [15] rfl (by kernel_rfl) (by kernel_rfl) (by kernel_rfl) (by kernel_rfl) (by kernel_rfl) (fun _ _ _ h => h) (.inl ⟨by kernel_rfl, ?_⟩) hk ?_
  · intro wx hSw
    have hne : ¬ (8 = a) := by omega
    have hq1 : (a : Int) ≤ (cs.length : Int) := by omega
    have hq2 : (cs.length : Int) ≤ 8 := by omega
    clear hSw hk
    go_simp
    try first | with_reducible rfl | kernel_rfl
  simp only [Act.put, List.getElem_toArray, List.getElem_cons_succ, List.getElem_cons_zero, List.setIfInBounds_toArray, List.set_cons_succ, List.set_cons_zero]
  refine Wl.one (i := 15) (by kernel_rfl) rfl (fun K hK => ?_)
  refine Sg.step_copy_rows rfl (.tmp 38) (.tmp 47) _ _ rfl 40 2 Try.underlying48 (by kernel_rfl) p OFF (8 - (a + 1)) (8 - (a + 1)) ⟨p, a * 2, none⟩ (cs.length - a) (8 - a) rfl rfl cur 44 HCU.out ((List.range ((cs.length - a) * 2)).map fun j => Value.int .i64 (cellOf cs ws.tail (a * 2 + j))) (by rw [HLN.out, HMN.out]) HSR.out (by rw [HLN.out, HCL.out]; exact HFT.out) HO1.out ?_
  try rw [hW4]
  refine hK.out _ _ (Wl.Kn.off (by kernel_rfl) trivial) (fun hk => ?_)
  clear hK K
  refine Wl.done (by kernel_rfl) ?_ _
  clear hk
  go_wp2_with (first
    | (refine wpList_store_mid rfl 40 (.tmp 56) (.tmp 53) rfl p (a * 2) #[.int .i64 t, .int .i64 s] rfl rfl hth (by kernel_rfl) (two_one _ _) ?_; rw [hW5]; clear hW5 hth))
  go_ret2
  unfold OpR
  rw [HSS.out]
  exact ⟨rfl, HF.out⟩
theorem open_any {p : Nat} {cs : List Cn} {ws : List Int} (t : Int) (w : World) (h : PoolAt w p cs ws) (hs : Sorted cs) : Calls Try.prog 6 #[.pointer (some ⟨p, 0, none⟩), .int .i64 t] w (OpR p (openV t cs ws) (openE t cs) (openC t cs ws) (openW t cs ws) w) := by
  unfold openV openC openW
  by_cases h1 : t < 1
  · have e : openE t cs = 1 := by unfold openE; rw [if_pos (.inl h1)]
    rw [e, if_neg (by decide), if_neg (by decide), if_neg (by decide)]
    have HD := Lib.hid h
    clear h e
    go_enter Try.func6, Try.ntmps6
    go_wp2
    go_ret2
    exact ⟨rfl, HD.out, Only.refl _ _⟩
  by_cases h2 : 65535 < t
  · have e : openE t cs = 1 := by unfold openE; rw [if_pos (.inr h2)]
    rw [e, if_neg (by decide), if_neg (by decide), if_neg (by decide)]
    have HD := Lib.hid h
    clear h e
    go_enter Try.func6, Try.ntmps6
    go_wp2
    go_ret2
    exact ⟨rfl, HD.out, Only.refl _ _⟩
  by_cases hh : hasC t cs = true
  · have e : openE t cs = 3 := by unfold openE; rw [if_neg (by omega), if_pos hh]
    rw [e, if_neg (by decide), if_neg (by decide), if_neg (by decide)]
    have HD := Lib.hid h
    have HS := Lib.hid hs
    have HH := Lib.hid hh
    clear h e hs hh
    go_enter Try.func6, Try.ntmps6
    go_wp2_with (refine (find_any t _ HD.out HS.out).mono ?_; rintro e w2 ⟨rfl, hb⟩; rw [HH.out]; have HD2 := Lib.hid (PoolAt.below HD.out hb); have HB2 := Lib.hid hb; clear hb)
    go_ret2
    exact ⟨rfl, HD2.out, Below.onlyP HB2.out _⟩
  have hh' : hasC t cs = false := by simpa using hh
  by_cases h8 : 8 ≤ cs.length
  · have e : openE t cs = 6 := by unfold openE; rw [if_neg (by omega), if_neg hh, if_pos h8]
    rw [e, if_neg (by decide), if_neg (by decide), if_neg (by decide)]
    have HD := Lib.hid h
    have HS := Lib.hid hs
    have HH := Lib.hid hh'
    have hl8 : (8 : Int) ≤ (cs.length : Int) := by omega
    clear h e hs hh hh'
    go_enter Try.func6, Try.ntmps6
    go_wp2_with fail
    refine (find_any t _ HD.out HS.out).mono ?_
    rintro e w2 ⟨rfl, hb⟩
    rw [HH.out]
    have HD2 := Lib.hid (PoolAt.below HD.out hb)
    have HB2 := Lib.hid hb
    have c16 := HD2.out.many
    clear hb
    go_wp2
    go_ret2
    exact ⟨rfl, HD2.out, Below.onlyP HB2.out _⟩
  · have e : openE t cs = 0 := by unfold openE; rw [if_neg (by omega), if_neg hh, if_neg h8]
    rw [e, if_pos rfl, if_pos rfl, if_pos rfl]
    exact open_good t w h hs h1 h2 hh' (by omega)
end Pl
end Go.Proofs.Ytlhojkopfpnhpaa
