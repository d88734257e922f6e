/- A number read: what octet.ReadNum and the document's own answer hand back. No condition. -/
import Derived.Test.YtlfaiemebfkajaaGreatDoorOctN
namespace Go.Proofs.YtlfaiemebfkajaaGreatDoor
open Go.ChangeShapes Go.WideShapes Go.ChangeAt Go.RowKit
set_option linter.unusedVariables false
set_option maxRecDepth 100000
namespace Oc

/-- the number that bytes make -/
def val (l : List Int) : Nat := l.foldl (fun n x => n * 256 + x.toNat) 0
/-- what reading a number answers: the number, how many bytes it takes, the error -/
def rdL (zs : List Int) : Nat × Nat × Int :=
  match zs with
  | [] => (0, 0, 10)
  | x :: rest => if 8 < x then (0, 0, 11) else if rest.length < x.toNat then (0, 0, 10) else if 0 < x ∧ rest.getD 0 0 = 0 then (0, 0, 11) else (val (rest.take x.toNat), x.toNat + 1, 0)

theorem val_snoc (l : List Int) (x : Int) : val (l ++ [x]) = val l * 256 + x.toNat := by simp [val]
theorem val_lt_from : ∀ (l : List Int) (n : Nat), (∀ x ∈ l, 0 ≤ x ∧ x ≤ 255) → l.foldl (fun n x => n * 256 + x.toNat) n < (n + 1) * 256 ^ l.length := by
  intro l
  induction l with
  | nil => intro n _; simp
  | cons x l ih =>
    intro n h
    have h2 := h x (by simp)
    have h1 := ih (n * 256 + x.toNat) fun y hy => h y (by simp [hy])
    rw [List.foldl_cons, List.length_cons, Nat.pow_succ, Nat.mul_comm (256 ^ l.length) 256, ← Nat.mul_assoc, Nat.mul_comm (n + 1) 256]
    exact Nat.lt_of_lt_of_le h1 (Nat.mul_le_mul_right (k := 256 ^ l.length) (show n * 256 + x.toNat + 1 ≤ 256 * (n + 1) by omega))
theorem val_lt (l : List Int) (h : ∀ x ∈ l, 0 ≤ x ∧ x ≤ 255) : val l < 256 ^ l.length := by
  have := val_lt_from l 0 h
  rw [Nat.zero_add, Nat.one_mul] at this
  exact this
theorem val_lt8 (l : List Int) (h : ∀ x ∈ l, 0 ≤ x ∧ x ≤ 255) (hl : l.length ≤ 8) : val l < 18446744073709551616 :=
  Nat.lt_of_lt_of_le (val_lt l h) (Nat.pow_le_pow_right (n := 256) (by omega) hl)

theorem or_byte {n : Nat} {z : Int} (h0 : 0 ≤ z) (h1 : z ≤ 255) (hn : n * 256 + z.toNat < 18446744073709551616) : Value.int .u64 (bits BinOp.or .u64 ((n : Int) * 256) z) = Value.int .u64 ((n * 256 + z.toNat : Nat) : Int) := by
  obtain ⟨m, rfl⟩ := Int.eq_ofNat_of_zero_le h0
  rw [Int.toNat_natCast] at hn ⊢
  have h := bits_or_u64_nat (n * 256) m (Nat.lt_of_le_of_lt (Nat.le_add_right _ _) hn) (Nat.lt_of_le_of_lt (Nat.le_add_left _ _) hn)
  rw [Int.natCast_mul, show ((256 : Nat) : Int) = 256 from rfl] at h
  rw [h]
  clear h hn
  have h2 := Nat.shiftLeft_add_eq_or_of_lt (show m < 2 ^ 8 by omega) n
  rw [Nat.shiftLeft_eq, show (2 : Nat) ^ 8 = 256 from rfl] at h2
  rw [← h2]

theorem getD_get {l : List Int} {k : Nat} (h : k < l.length) : l.getD k 0 = l[k] := by simp [List.getD, List.getElem?_eq_getElem h]
theorem ret_rd {n n' k k' e : Int} (h : n = n') (h2 : k = k') : Ending.returned (.tuple #[.int .u64 n, .int .i64 k, .int .i64 e]) = .returned (.tuple #[.int .u64 n', .int .i64 k', .int .i64 e]) := by rw [h, h2]

def rdEnd (zs : List Int) (e : Ending) : Prop := e = .returned (.tuple #[.int .u64 (rdL zs).1, .int .i64 (rdL zs).2.1, .int .i64 (rdL zs).2.2])

set_option maxHeartbeats 400000 in
theorem read_any (v : Value) (zs : List Int) (w : World) (hs : Sl .u8 w v zs) :
    Calls Tryz.prog 61 #[v] w fun e w' => rdEnd zs e ∧ w = w' := by
  obtain ⟨a, cap, rfl, hlc, hcm, hwf, hcs⟩ := hs
  unfold maxLen at hcm
  rcases zs with _ | ⟨x, rest⟩
  · go_enter Tryz.func61, Tryz.ntmps61
    go_wp2
    go_ret3
    exact ⟨rfl, rfl⟩
  · have hx := bounds_u8 (hwf x (by simp))
    obtain ⟨hx0, hx1⟩ := hx
    rcases hcs with ⟨_, _, h⟩ | ⟨b, off, sp, rfl, h | ⟨rfl, hlt, hc⟩⟩
    · cases h
    · cases h
    have hc0 : w.cell? ⟨b, off, none⟩ = some (.int .u8 x) := hc 0 (by simp)
    simp only [List.length_cons] at hlc
    by_cases h8 : 8 < x
    · have he : rdL (x :: rest) = (0, 0, 11) := by simp [rdL, h8]
      have HE := Lib.hid he
      clear he hc
      go_enter Tryz.func61, Tryz.ntmps61
      go_wp2
      go_ret3
      exact ⟨by unfold rdEnd; rw [HE.out]; rfl, rfl⟩
    by_cases hsh : rest.length < x.toNat
    · have he : rdL (x :: rest) = (0, 0, 10) := by simp [rdL, h8, hsh]
      have HE := Lib.hid he
      clear he hc
      go_enter Tryz.func61, Tryz.ntmps61
      go_wp2
      go_ret3
      exact ⟨by unfold rdEnd; rw [HE.out]; rfl, rfl⟩
    obtain ⟨W, rfl⟩ := Int.eq_ofNat_of_zero_le hx0
    rw [Int.toNat_natCast] at hsh
    by_cases hW : W = 0
    · subst hW
      have he : rdL (((0 : Nat) : Int) :: rest) = (0, 1, 0) := by simp [rdL, val]
      have HE := Lib.hid he
      clear he hc
      by_cases h1 : cap = 1
      · subst h1
        go_enter Tryz.func61, Tryz.ntmps61
        go_wp2
        refine wp_loop_rounds 1 ?_
        rw [rounds_succ]
        go_wp2
        go_ret3
        exact ⟨by unfold rdEnd; rw [HE.out]; rfl, rfl⟩
      · go_enter Tryz.func61, Tryz.ntmps61
        go_wp2
        refine wp_loop_rounds 1 ?_
        rw [rounds_succ]
        go_wp2
        go_ret3
        exact ⟨by unfold rdEnd; rw [HE.out]; rfl, rfl⟩
    · have hy0 := hc 1 (by simp; omega)
      have hyb := bounds_u8 (hwf (rest.getD 0 0) (by
        rcases rest with _ | ⟨y, r⟩
        · simp at hsh; omega
        · simp))
      obtain ⟨y, hy⟩ : ∃ y, y = rest.getD 0 0 := ⟨_, rfl⟩
      have hy1 : w.cell? ⟨b, off + 1, none⟩ = some (.int .u8 y) := by rw [hy]; simpa using hy0
      rw [← hy] at hyb
      have HY := Lib.hid hy
      clear hy hy0
      obtain ⟨hyb0, hyb1⟩ := hyb
      by_cases hz : y = 0
      · have he : rdL ((W : Int) :: rest) = (0, 0, 11) := by
          have := HY.out
          simp only [rdL, if_neg h8, Int.toNat_natCast, if_neg hsh]
          rw [if_pos ⟨by omega, by omega⟩]
        have HE := Lib.hid he
        subst hz
        clear he hc
        go_enter Tryz.func61, Tryz.ntmps61
        go_wp2
        go_ret3
        exact ⟨by unfold rdEnd; rw [HE.out]; rfl, rfl⟩
      · have he : rdL ((W : Int) :: rest) = (val (rest.take W), W + 1, 0) := by
          have := HY.out
          simp only [rdL, if_neg h8, Int.toNat_natCast, if_neg hsh]
          rw [if_neg (by omega)]
        have HE := Lib.hid he
        clear he
        have h1 : ¬ cap = 1 := by omega
        have hb := fun k (hk : k ≤ W) => val_lt8 (rest.take k) (fun z hz => bounds_u8 (hwf z (List.mem_cons_of_mem _ (List.mem_of_mem_take hz)))) (by rw [List.length_take]; omega)
        have HB := Lib.hid hb
        have HC := Lib.hid hc
        have HW := Lib.hid hwf
        clear hb hc hwf
        go_enter Tryz.func61, Tryz.ntmps61
        go_wp2
        go_loop [6, 36] (fun n i => ∃ k : Nat, k ≤ W ∧ i = .int .i64 k ∧ n = .int .u64 (val (rest.take k))) (fun _ i => W - (intOf i).toNat)
        case atStart => exact ⟨0, Nat.zero_le _, rfl, rfl⟩
        case round =>
          obtain ⟨k, hk, rfl, rfl⟩ := hrel
          by_cases hlt : k < W
          · have hcx := HC.out (k + 1) (by simp; omega)
            have hmem : rest.getD k 0 ∈ rest := by
              rw [getD_get (by omega)]; exact List.getElem_mem _
            have hxb := bounds_u8 (HW.out (rest.getD k 0) (List.mem_cons_of_mem _ hmem))
            rw [List.getD_cons_succ] at hcx
            have hsn : rest.take (k + 1) = rest.take k ++ [rest.getD k 0] := by
              rw [List.take_succ_eq_append_getElem (by omega), getD_get (by omega)]
            have hv := val_snoc (rest.take k) (rest.getD k 0)
            rw [← hsn] at hv
            have hvb := HB.out (k + 1) (by omega)
            rw [hv] at hvb
            have HV := Lib.hid hv
            clear hsn hv hmem
            generalize rest.getD k 0 = z at *
            generalize val (List.take k rest) = n at *
            rw [show off + (k + 1) = off + 1 + k from by omega] at hcx
            obtain ⟨hxb0, hxb1⟩ := hxb
            go_wp2
            go_round
            case rel => exact ⟨k + 1, by omega, by go_num, by rw [HV.out, or_byte hxb0 hxb1 hvb]⟩
            case measure => simp [intOf]; omega
          · obtain rfl : k = W := by omega
            go_wp2
            go_ret3
            exact ⟨by unfold rdEnd; rw [HE.out]; exact ret_rd rfl (by show (1 : Int) + _ = ((_ + 1 : Nat) : Int); omega), rfl⟩
/-! ### the document's answer -/
theorem int_eq {k : IntKind} {a b : Int} (h : a = b) : Value.int k a = Value.int k b := by rw [h]
set_option maxHeartbeats 400000 in
theorem rread_any (v : Value) (zs : List Int) (w : World) (hs : Sl .u8 w v zs) :
    Calls Tryz.prog 75 #[v] w fun e w' => rdEnd zs e ∧ w = w' := by
  obtain ⟨a, cap, rfl, hlc, hcm, hwf, hcs⟩ := hs
  unfold maxLen at hcm
  rcases zs with _ | ⟨x, rest⟩
  · go_enter Tryz.func75, Tryz.ntmps75
    go_wp2
    go_ret3
    exact ⟨rfl, rfl⟩
  · have hx := bounds_u8 (hwf x (by simp))
    obtain ⟨hx0, hx1⟩ := hx
    rcases hcs with ⟨_, _, h⟩ | ⟨b, off, sp, rfl, h | ⟨rfl, hlt, hc⟩⟩
    · cases h
    · cases h
    have hc0 : w.cell? ⟨b, off, none⟩ = some (.int .u8 x) := hc 0 (by simp)
    simp only [List.length_cons] at hlc
    by_cases h8 : 8 < x
    · have he : rdL (x :: rest) = (0, 0, 11) := by simp [rdL, h8]
      have HE := Lib.hid he
      clear he hc
      go_enter Tryz.func75, Tryz.ntmps75
      go_wp2
      go_ret3
      exact ⟨by unfold rdEnd; rw [HE.out]; rfl, rfl⟩
    by_cases hsh : rest.length < x.toNat
    · have he : rdL (x :: rest) = (0, 0, 10) := by simp [rdL, h8, hsh]
      have HE := Lib.hid he
      clear he hc
      go_enter Tryz.func75, Tryz.ntmps75
      go_wp2
      go_ret3
      exact ⟨by unfold rdEnd; rw [HE.out]; rfl, rfl⟩
    obtain ⟨W, rfl⟩ := Int.eq_ofNat_of_zero_le hx0
    rw [Int.toNat_natCast] at hsh
    by_cases hW : W = 0
    · subst hW
      have he : rdL (((0 : Nat) : Int) :: rest) = (0, 1, 0) := by simp [rdL, val]
      have HE := Lib.hid he
      clear he hc
      by_cases h1 : cap = 1
      · subst h1
        go_enter Tryz.func75, Tryz.ntmps75
        go_wp2
        refine wp_loop_rounds 1 ?_
        rw [rounds_succ]
        go_wp2
        go_ret3
        exact ⟨by unfold rdEnd; rw [HE.out]; rfl, rfl⟩
      · go_enter Tryz.func75, Tryz.ntmps75
        go_wp2
        refine wp_loop_rounds 1 ?_
        rw [rounds_succ]
        go_wp2
        go_ret3
        exact ⟨by unfold rdEnd; rw [HE.out]; rfl, rfl⟩
    · have hy0 := hc 1 (by simp; omega)
      have hyb := bounds_u8 (hwf (rest.getD 0 0) (by
        rcases rest with _ | ⟨y, r⟩
        · simp at hsh; omega
        · simp))
      obtain ⟨y, hy⟩ : ∃ y, y = rest.getD 0 0 := ⟨_, rfl⟩
      have hy1 : w.cell? ⟨b, off + 1, none⟩ = some (.int .u8 y) := by rw [hy]; simpa using hy0
      rw [← hy] at hyb
      have HY := Lib.hid hy
      clear hy hy0
      obtain ⟨hyb0, hyb1⟩ := hyb
      by_cases hz : y = 0
      · have he : rdL ((W : Int) :: rest) = (0, 0, 11) := by
          have := HY.out
          simp only [rdL, if_neg h8, Int.toNat_natCast, if_neg hsh]
          rw [if_pos ⟨by omega, by omega⟩]
        have HE := Lib.hid he
        subst hz
        clear he hc
        go_enter Tryz.func75, Tryz.ntmps75
        go_wp2
        go_ret3
        exact ⟨by unfold rdEnd; rw [HE.out]; rfl, rfl⟩
      · have he : rdL ((W : Int) :: rest) = (val (rest.take W), W + 1, 0) := by
          have := HY.out
          simp only [rdL, if_neg h8, Int.toNat_natCast, if_neg hsh]
          rw [if_neg (by omega)]
        have HE := Lib.hid he
        clear he
        have h1 : ¬ cap = 1 := by omega
        have hb := fun k (hk : k ≤ W) => val_lt8 (rest.take k) (fun z hz => bounds_u8 (hwf z (List.mem_cons_of_mem _ (List.mem_of_mem_take hz)))) (by rw [List.length_take]; omega)
        have HB := Lib.hid hb
        have HC := Lib.hid hc
        have HW := Lib.hid hwf
        clear hb hc hwf
        go_enter Tryz.func75, Tryz.ntmps75
        go_wp2
        go_loop [6, 36] (fun n i => ∃ k : Nat, k ≤ W ∧ i = .int .i64 k ∧ n = .int .u64 (val (rest.take k))) (fun _ i => W - (intOf i).toNat)
        case atStart => exact ⟨0, Nat.zero_le _, rfl, rfl⟩
        case round =>
          obtain ⟨k, hk, rfl, rfl⟩ := hrel
          by_cases hlt : k < W
          · have hcx := HC.out (k + 1) (by simp; omega)
            have hmem : rest.getD k 0 ∈ rest := by
              rw [getD_get (by omega)]; exact List.getElem_mem _
            have hxb := bounds_u8 (HW.out (rest.getD k 0) (List.mem_cons_of_mem _ hmem))
            rw [List.getD_cons_succ] at hcx
            have hsn : rest.take (k + 1) = rest.take k ++ [rest.getD k 0] := by
              rw [List.take_succ_eq_append_getElem (by omega), getD_get (by omega)]
            have hv := val_snoc (rest.take k) (rest.getD k 0)
            rw [← hsn] at hv
            have hvb := HB.out (k + 1) (by omega)
            rw [hv] at hvb
            have HV := Lib.hid hv
            clear hsn hv hmem
            generalize rest.getD k 0 = z at *
            generalize val (List.take k rest) = n at *
            rw [show off + (k + 1) = off + 1 + k from by omega] at hcx
            obtain ⟨hxb0, hxb1⟩ := hxb
            go_wp2
            go_round
            case rel => exact ⟨k + 1, by omega, by go_num, by rw [HV.out]; exact int_eq (by omega)⟩
            case measure => simp [intOf]; omega
          · obtain rfl : k = W := by omega
            go_wp2
            go_ret3
            exact ⟨by unfold rdEnd; rw [HE.out]; exact ret_rd rfl (by show (_ : Int) + 1 = ((_ + 1 : Nat) : Int); omega), rfl⟩

/-! ### what was written is read -/
theorem getD_app {l m : List Int} {i : Nat} (h : i < l.length) : (l ++ m).getD i 0 = l.getD i 0 := by simp [List.getD, List.getElem?_append_left h]
theorem val_be : ∀ w n, n < 256 ^ w → val (be w n) = n
  | 0, n, h => by simp at h; subst h; rfl
  | w + 1, n, h => by
    rw [be, val_snoc, val_be w _ (by rw [Nat.pow_succ] at h; omega)]
    simp
    omega
theorem bw_lt (n : Nat) : n < 256 ^ bw n := by
  induction n using Nat.strongRecOn with
  | _ n ih =>
    by_cases h : n = 0
    · subst h; simp [bw_zero]
    · rw [bw_pos h, Nat.pow_succ]
      have := ih (n / 256) (by omega)
      omega
theorem be_head (n : Nat) : n ≠ 0 → (be (bw n) n).getD 0 0 ≠ 0 := by
  induction n using Nat.strongRecOn with
  | _ n ih =>
    intro h
    rw [be_bw, if_neg h]
    by_cases h2 : n / 256 = 0
    · rw [h2, bw_zero]
      simp [be]
      omega
    · have := ih (n / 256) (by omega) h2
      have hl := be_length (bw (n / 256)) (n / 256)
      rw [bw_pos h2] at hl
      rw [bw_pos h2] at this ⊢
      rw [getD_app (by omega)]
      exact this
theorem rd_num {n : Nat} (hn : n < 18446744073709551616) (zs : List Int) : rdL (numL n ++ zs) = (n, bw n + 1, 0) := by
  have h8 := bw_le8 hn
  have hl := be_length (bw n) n
  simp only [numL, List.cons_append, rdL]
  rw [if_neg (by omega), Int.toNat_natCast, if_neg (by rw [List.length_append]; omega), if_neg]
  · rw [List.take_append_of_le_length (by omega), List.take_of_length_le (by omega), val_be _ _ (bw_lt n)]
  · rintro ⟨h1, h2⟩
    have hn0 : n ≠ 0 := by intro h; subst h; rw [bw_zero] at h1; omega
    have h3 := be_head n hn0
    rw [getD_app (by omega)] at h2
    exact h3 h2
theorem rd_cut (n : Nat) (hn : n < 18446744073709551616) : rdL ((numL n).take (bw n)) = (0, 0, 10) := by
  have h8 := bw_le8 hn
  have hl := be_length (bw n) n
  unfold numL
  rcases hb : bw n with _ | k
  · rfl
  · rw [hb] at h8 hl
    simp only [List.take_succ_cons, rdL]
    rw [if_neg (by omega), Int.toNat_natCast, if_pos (by rw [List.length_take]; omega)]

/-! ### what is read is written -/
theorem snoc_ind {P : List Int → Prop} (h0 : P []) (h1 : ∀ l x, P l → P (l ++ [x])) : ∀ l, P l := by
  intro l
  rw [← List.reverse_reverse l]
  induction l.reverse with
  | nil => exact h0
  | cons x r ih => rw [List.reverse_cons]; exact h1 _ _ ih
theorem be_val : ∀ l : List Int, (∀ x ∈ l, 0 ≤ x ∧ x ≤ 255) → be l.length (val l) = l := by
  refine snoc_ind (fun _ => rfl) fun l x ih h => ?_
  have h1 := ih fun y hy => h y (by simp [hy])
  have h2 := h x (by simp)
  rw [List.length_append, List.length_singleton, be, val_snoc, show (val l * 256 + x.toNat) / 256 = val l by omega, h1]
  congr 2
  omega
theorem val_pos : ∀ l : List Int, (∀ x ∈ l, 0 ≤ x ∧ x ≤ 255) → l.getD 0 0 ≠ 0 → val l ≠ 0 ∧ bw (val l) = l.length := by
  refine snoc_ind (fun _ h => absurd rfl h) fun l x ih h hx => ?_
  have h2 := h x (by simp)
  rw [val_snoc, List.length_append, List.length_singleton]
  rcases l with _ | ⟨y, l⟩
  · have hx0 : x ≠ 0 := by simpa using hx
    have h3 : val [] = 0 := rfl
    rw [h3]
    refine ⟨by omega, ?_⟩
    rw [bw_pos (by omega), show (0 * 256 + x.toNat) / 256 = 0 by omega, bw_zero]
    rfl
  · obtain ⟨h3, h4⟩ := ih (fun z hz => h z (by simp [List.mem_cons] at hz ⊢; rcases hz with hz | hz <;> simp [hz])) (by simpa using hx)
    refine ⟨by omega, ?_⟩
    rw [bw_pos (by omega), show (val (y :: l) * 256 + x.toNat) / 256 = val (y :: l) by omega, h4]
/-- an answer without an error -/
theorem rd_back {zs : List Int} (hw : ∀ n ∈ zs, (Lit.int .u8 n).wf = true) {n k : Nat} (h : rdL zs = (n, k, 0)) : 1 ≤ k ∧ k ≤ zs.length ∧ n < 18446744073709551616 ∧ numL n = zs.take k := by
  rcases zs with _ | ⟨x, rest⟩
  · simp [rdL] at h
  · have hx := bounds_u8 (hw x (by simp))
    have hr : ∀ y ∈ rest, 0 ≤ y ∧ y ≤ 255 := fun y hy => bounds_u8 (hw y (by simp [hy]))
    obtain ⟨W, rfl⟩ := Int.eq_ofNat_of_zero_le hx.1
    simp only [rdL, Int.toNat_natCast] at h
    split at h
    · simp at h
    split at h
    · simp at h
    split at h
    · simp at h
    rename_i h1 h2 h3
    simp only [Prod.mk.injEq, and_true] at h
    obtain ⟨rfl, rfl⟩ := h
    have hl : (rest.take W).length = W := by rw [List.length_take]; omega
    have ht : ∀ y ∈ rest.take W, 0 ≤ y ∧ y ≤ 255 := fun y hy => hr y (List.mem_of_mem_take hy)
    refine ⟨by omega, by simp; omega, val_lt8 _ ht (by omega), ?_⟩
    have e : bw (val (rest.take W)) = W := by
      rcases W with _ | W
      · simp [val, bw_zero]
      · have h4 : (rest.take (W + 1)).getD 0 0 ≠ 0 := by
          intro h5
          apply h3
          refine ⟨by omega, ?_⟩
          rcases rest with _ | ⟨y, r⟩
          · rfl
          · simpa using h5
        rw [(val_pos _ ht h4).2, hl]
    rw [numL, e, List.take_succ_cons]
    have := be_val _ ht
    rw [hl] at this
    rw [this]
theorem rd_err {zs : List Int} {n k : Nat} {e : Int} (h : rdL zs = (n, k, e)) : e = 0 ∨ (e == 0) = false := by
  by_cases h0 : e = 0
  · exact .inl h0
  · exact .inr (by simpa using h0)
end Oc
end Go.Proofs.YtlfaiemebfkajaaGreatDoor
