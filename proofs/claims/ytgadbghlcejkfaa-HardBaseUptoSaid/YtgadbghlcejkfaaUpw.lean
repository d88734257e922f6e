/- What is of small bulk is of small weight. No condition. -/
import Derived.Test.YtgadbghlcejkfaaBse
namespace Go.Proofs.Ytgadbghlcejkfaa
open Go.ChangeShapes Go.WideShapes Go.ChangeAt Go.RowKit
set_option linter.unusedVariables false
set_option maxRecDepth 100000
section
variable {H : Type} {P : Program} {K N : Nat}
def comp (N : Nat) : TypeDesc → Bool
  | .pointer e => decide (e < N)
  | .slice e => decide (e < N)
  | .struct fs => fs.toList.all fun f => decide (f.type < N)
  | .array _ e => decide (e < N)
  | .map k e => decide (k < N) && decide (e < N)
  | _ => true
def Tight (P : Program) (K N : Nat) : Prop := ∀ t, t < N → P.bytesOf t ≤ K ∧ ∀ d, P.underlying t = some d → comp N d = true
theorem bulk_pos (d : DataW H) : 1 ≤ Rows.uptoBulk d := by
  cases d with
  | lit l => cases l <;> simp [Rows.uptoBulk]
  | _ => simp [Rows.uptoBulk]
theorem len_all : ∀ l : List (DataW H), l.length ≤ Rows.uptoBulkAll l
  | [] => Nat.zero_le _
  | d :: l => by
    have := len_all l
    have := bulk_pos d
    simp only [Rows.uptoBulkAll, List.length_cons]
    omega
theorem entry_pos (x : Lit × DataW H) : 1 ≤ Rows.uptoBulkEntry x := by
  obtain ⟨l, d⟩ := x
  cases l <;> simp [Rows.uptoBulkEntry]
theorem len_entries : ∀ l : List (Lit × DataW H), l.length ≤ Rows.uptoBulkEntries l
  | [] => Nat.zero_le _
  | d :: l => by
    have := len_entries l
    have := entry_pos d
    simp only [Rows.uptoBulkEntries, List.length_cons]
    omega
theorem up_le {a b n c : Nat} (h : n ≤ a * c) (hab : a ≤ b) : n ≤ b * c := Nat.le_trans h (Nat.mul_le_mul_right _ hab)
mutual
theorem w_one (hK : Tight P K N) (h1 : 1 ≤ K) : ∀ (d : DataW H) (t : TypeId) (n : Nat), t < N → n ∈ d.weights P t → n ≤ Rows.uptoBulk d * (2 * K)
  | .lit l, t, n, ht, hn => by
    cases l with
    | string bs =>
      simp only [DataW.weights, List.mem_singleton] at hn
      subst hn
      simp only [Rows.uptoBulk]
      exact Nat.le_trans (Nat.le_succ _) (Nat.le_mul_of_pos_right _ (by omega))
    | _ => simp [DataW.weights] at hn
  | .nil, t, n, ht, hn => by simp [DataW.weights] at hn
  | .ptr d, t, n, ht, hn => by
    simp only [DataW.weights] at hn
    split at hn
    · rename_i e hu
      exact up_le (w_one hK h1 d _ n (of_decide_eq_true ((hK t ht).2 _ hu)) hn) (by simp only [Rows.uptoBulk]; omega)
    · simp at hn
  | .slice es sp, t, n, ht, hn => by
    simp only [DataW.weights] at hn
    split at hn
    · rename_i e hu
      have he : e < N := of_decide_eq_true ((hK t ht).2 _ hu)
      rcases List.mem_cons.1 hn with rfl | hn
      · have a1 := len_all es
        have a2 := len_all sp
        exact Nat.mul_le_mul (by simp only [Rows.uptoBulk]; omega) (Nat.le_trans (hK e he).1 (by omega))
      · rcases List.mem_append.1 hn with hn | hn
        · exact up_le (w_all hK h1 es _ n he hn) (by simp only [Rows.uptoBulk]; omega)
        · exact up_le (w_all hK h1 sp _ n he hn) (by simp only [Rows.uptoBulk]; omega)
    · simp at hn
  | .agg ps, t, n, ht, hn => by
    simp only [DataW.weights] at hn
    split at hn
    · rename_i fs hu
      have hf := (hK t ht).2 _ hu
      refine up_le (w_each hK h1 ps _ n (fun x hx => ?_) hn) (by simp only [Rows.uptoBulk]; omega)
      obtain ⟨f, hf1, rfl⟩ := List.mem_map.1 hx
      exact of_decide_eq_true (List.all_eq_true.1 hf f hf1)
    · rename_i m e hu
      exact up_le (w_all hK h1 ps _ n (of_decide_eq_true ((hK t ht).2 _ hu)) hn) (by simp only [Rows.uptoBulk]; omega)
    · simp at hn
  | .iface _ _, t, n, ht, hn => by simp [DataW.weights] at hn
  | .map es, t, n, ht, hn => by
    simp only [DataW.weights] at hn
    split at hn
    · rename_i k e hu
      have hke := (hK t ht).2 _ hu
      simp only [comp, Bool.and_eq_true, decide_eq_true_eq] at hke
      rcases List.mem_cons.1 hn with rfl | hn
      · have a1 := len_entries es
        have b1 := (hK k hke.1).1
        have b2 := (hK e hke.2).1
        exact Nat.mul_le_mul (by simp only [Rows.uptoBulk]; omega) (by omega)
      · exact up_le (w_entries hK h1 es _ n hke.2 hn) (by simp only [Rows.uptoBulk]; omega)
    · simp at hn
  | .held _, t, n, ht, hn => by simp [DataW.weights] at hn
theorem w_all (hK : Tight P K N) (h1 : 1 ≤ K) : ∀ (l : List (DataW H)) (t : TypeId) (n : Nat), t < N → n ∈ DataW.weightsAll P t l → n ≤ Rows.uptoBulkAll l * (2 * K)
  | [], t, n, ht, hn => by simp [DataW.weightsAll] at hn
  | d :: l, t, n, ht, hn => by
    simp only [DataW.weightsAll] at hn
    rcases List.mem_append.1 hn with hn | hn
    · exact up_le (w_one hK h1 d _ n ht hn) (by simp only [Rows.uptoBulkAll]; omega)
    · exact up_le (w_all hK h1 l _ n ht hn) (by simp only [Rows.uptoBulkAll]; omega)
theorem w_each (hK : Tight P K N) (h1 : 1 ≤ K) : ∀ (l : List (DataW H)) (ts : List TypeId) (n : Nat), (∀ t ∈ ts, t < N) → n ∈ DataW.weightsEach P ts l → n ≤ Rows.uptoBulkAll l * (2 * K)
  | [], ts, n, ht, hn => by cases ts <;> simp [DataW.weightsEach] at hn
  | d :: l, [], n, ht, hn => by simp [DataW.weightsEach] at hn
  | d :: l, t :: ts, n, ht, hn => by
    simp only [DataW.weightsEach] at hn
    rcases List.mem_append.1 hn with hn | hn
    · exact up_le (w_one hK h1 d _ n (ht t (by simp)) hn) (by simp only [Rows.uptoBulkAll]; omega)
    · exact up_le (w_each hK h1 l _ n (fun x hx => ht x (by simp [hx])) hn) (by simp only [Rows.uptoBulkAll]; omega)
theorem w_entries (hK : Tight P K N) (h1 : 1 ≤ K) : ∀ (l : List (Lit × DataW H)) (t : TypeId) (n : Nat), t < N → n ∈ DataW.weightsEntries P t l → n ≤ Rows.uptoBulkEntries l * (2 * K)
  | [], t, n, ht, hn => by simp [DataW.weightsEntries] at hn
  | d :: l, t, n, ht, hn => by
    simp only [DataW.weightsEntries] at hn
    rcases List.mem_append.1 hn with hn | hn
    · exact up_le (w_entry hK h1 d _ n ht hn) (by simp only [Rows.uptoBulkEntries]; omega)
    · exact up_le (w_entries hK h1 l _ n ht hn) (by simp only [Rows.uptoBulkEntries]; omega)
theorem w_entry (hK : Tight P K N) (h1 : 1 ≤ K) : ∀ (x : Lit × DataW H) (t : TypeId) (n : Nat), t < N → n ∈ DataW.weightsEntry P t x → n ≤ Rows.uptoBulkEntry x * (2 * K)
  | (l, d), t, n, ht, hn => by
    cases l with
    | string bs =>
      simp only [DataW.weightsEntry] at hn
      rcases List.mem_cons.1 hn with rfl | hn
      · simp only [Rows.uptoBulkEntry]
        exact Nat.le_trans (by omega) (Nat.le_mul_of_pos_right _ (by omega))
      · exact up_le (w_one hK h1 d _ n ht hn) (by simp only [Rows.uptoBulkEntry]; omega)
    | _ =>
      simp only [DataW.weightsEntry] at hn
      exact up_le (w_one hK h1 d _ n ht hn) (by simp only [Rows.uptoBulkEntry]; omega)
end
end
theorem tight : Tight Try.prog 65536 Try.prog.types.size := by
  have h : ((List.range Try.prog.types.size).all fun t => decide (Try.prog.bytesOf t ≤ 65536) && (match Try.prog.underlying t with | some d => comp Try.prog.types.size d | none => true)) = true := by kernel_rfl
  intro t ht
  have q := List.all_eq_true.1 h t (List.mem_range.2 ht)
  simp only [Bool.and_eq_true, decide_eq_true_eq] at q
  refine ⟨q.1, fun d hd => ?_⟩
  have q2 := q.2
  rw [hd] at q2
  exact q2
/-- of small bulk: of small weight -/
theorem wt_small {H : Type} {t : TypeId} {d : DataW H} (h : Rows.uptoBulk d ≤ 1048576) (ht : t < Try.prog.types.size) : Wt Try.prog t d := by
  intro n hn
  have h1 := w_one tight (by omega) d t n ht hn
  have h2 : Rows.uptoBulk d * (2 * 65536) ≤ 1048576 * (2 * 65536) := Nat.mul_le_mul_right _ h
  have h3 : (1048576 * (2 * 65536) : Nat) ≤ reachBytes := by decide
  exact Nat.le_trans (Nat.le_trans h1 h2) h3
end Go.Proofs.Ytgadbghlcejkfaa
