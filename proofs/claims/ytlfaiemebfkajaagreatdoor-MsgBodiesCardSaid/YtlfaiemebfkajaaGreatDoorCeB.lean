/- What the document's own Encode hands back. No condition. Both Encodes in one contract, and the laws' helper live. No condition. -/
import Derived.Test.YtlfaiemebfkajaaGreatDoorCeA
import Derived.Test.YtlfaiemebfkajaaGreatDoorCmdKJ
namespace Go.Proofs.YtlfaiemebfkajaaGreatDoor
open Go.ChangeShapes Go.WideShapes Go.ChangeAt Go.RowKit
set_option linter.unusedVariables false
set_option maxRecDepth 100000
namespace Cm

/-! ### the letters -/
def letS (f : Nat) : Int := match f with | 0 => 110 | 1 => 98 | 2 => 113 | 3 => 116 | 4 => 115 | 5 => 109 | _ => 108
theorem sbs_fieldS {k : Int} (h : 1 ≤ k ∧ k ≤ 6) : sbs (fieldS k) = (fieldsL k).map fun f => letS f.toNat := by
  rcases (show k = 1 ∨ k = 2 ∨ k = 3 ∨ k = 4 ∨ k = 5 ∨ k = 6 by omega) with rfl | rfl | rfl | rfl | rfl | rfl <;> rfl
def encR (c : Cmd) (l : List Int) : List Int := l.flatMap fun f => numI (numF c f.toNat) ++ if f = 6 then encN c.nodes else []
theorem encR_snoc (c : Cmd) (l : List Int) (f : Int) : encR c (l ++ [f]) = encR c l ++ (numI (numF c f.toNat) ++ if f = 6 then encN c.nodes else []) := by simp [encR]
/-- what a valid command's fields are -/
theorem chk_small {c : Cmd} (hw : c.wf) (h : chkC c = true) : (0 ≤ c.node ∧ c.node ≤ 65535) ∧ (0 ≤ c.token ∧ c.token ≤ 65535) ∧ (c.kind = 2 ∨ c.nodes = []) := by
  have hw0 := hw
  obtain ⟨_, h1, h2, _⟩ := hw0
  have b1 := bounds_i64 h1
  have b2 := bounds_i64 h2
  unfold chkC at h
  rw [Bool.and_eq_true, List.all_eq_true] at h
  have a0 := h.2 0 (by simp)
  have a3 := h.2 3 (by simp)
  have a6 := h.2 6 (by simp)
  refine ⟨?_, ?_, ?_⟩
  · unfold okF at a0
    split at a0
    · have e : decide (1 ≤ u64 c.node ∧ u64 c.node ≤ 7) = true := a0
      rw [decide_eq_true_eq] at e
      unfold u64 at e
      split at e <;> omega
    · have e : u64 c.node = 0 := by simpa [numF] using a0
      unfold u64 at e
      split at e <;> omega
  · unfold okF at a3
    split at a3
    · have e : decide (1 ≤ u64 c.token ∧ u64 c.token ≤ 65535) = true := a3
      rw [decide_eq_true_eq] at e
      unfold u64 at e
      split at e <;> omega
    · have e : u64 c.token = 0 := by simpa [numF] using a3
      unfold u64 at e
      split at e <;> omega
  · by_cases hk : c.kind = 2
    · exact .inl hk
    · right
      unfold okF at a6
      have : ¬ (((6 : Nat) : Int) ∈ fieldsL c.kind) := by unfold fieldsL; rw [if_neg hk]; repeat' split; all_goals simp
      rw [if_neg this] at a6
      have h7 : c.nodes.length = 0 := by simpa [numF] using a6
      exact List.eq_nil_of_length_eq_zero h7
theorem encR_all {c : Cmd} (hk : 1 ≤ c.kind ∧ c.kind ≤ 6) (hn : c.kind = 2 ∨ c.nodes = []) : numI c.kind ++ encR c (fieldsL c.kind) = encL c := by
  unfold encL
  rw [List.append_assoc]
  congr 1
  rcases hn with hn | hn
  · rw [hn]
    simp [encR, encF, fieldsL]
  · rw [hn, show encN [] = [] from rfl, List.append_nil]
    unfold encR encF
    rw [hn]
    congr 1
    funext f
    rw [show encN [] = [] from rfl, show (if f = 6 then ([] : List Int) else []) = [] by split <;> rfl, List.append_nil]

theorem getD_map {l : List Int} {g : Int → Int} {k : Nat} (h : k < l.length) : (l.map g).getD k 0 = g (l.getD k 0) := by
  simp [List.getD, List.getElem?_map, List.getElem?_eq_getElem h]
theorem numI_u64 {n : Int} (h : 0 ≤ n) : numI (u64 n) = numI n := by unfold u64; rw [if_pos h]
theorem fld_cells {w1 : World} {g : Nat} {c : Cmd} {vn : Value} (h : w1.heap[g]? = some (.cells (cArr c vn) 86 (0, 0))) :
    w1.cell? ⟨g, 1, none⟩ = some (.int .i64 c.node) ∧ w1.cell? ⟨g, 2, none⟩ = some (.int .i64 c.token) ∧ w1.cell? ⟨g, 3, none⟩ = some vn ∧ w1.cell? ⟨g, 4, none⟩ = some (.int .u64 c.boot) ∧ w1.cell? ⟨g, 5, none⟩ = some (.int .u64 c.seq) ∧ w1.cell? ⟨g, 6, none⟩ = some (.int .u64 c.serial) ∧ w1.cell? ⟨g, 7, none⟩ = some (.int .u64 c.stamp) := by
  refine ⟨?_, ?_, ?_, ?_, ?_, ?_, ?_⟩ <;> (unfold World.cell?; rw [h]; rfl)
theorem last_six {k : Int} {i : Nat} (hi : i < (fieldsL k).length) (h : (fieldsL k).getD i 0 = 6) : i + 1 = (fieldsL k).length := by
  have key : fieldsL k = [6] ∨ fieldsL k = [0, 1, 2] ∨ fieldsL k = [0, 1, 2, 3, 4] ∨ fieldsL k = [3, 4, 5] ∨ fieldsL k = [] := by
    unfold fieldsL
    by_cases h2 : k = 2
    · exact .inl (if_pos h2)
    by_cases h3 : k = 3
    · exact .inr (.inl (by rw [if_neg h2, if_pos h3]))
    by_cases h4 : k = 4 ∨ k = 5
    · exact .inr (.inr (.inl (by rw [if_neg h2, if_neg h3, if_pos h4])))
    by_cases h6 : k = 6
    · exact .inr (.inr (.inr (.inl (by rw [if_neg h2, if_neg h3, if_neg h4, if_pos h6]))))
    · exact .inr (.inr (.inr (.inr (by rw [if_neg h2, if_neg h3, if_neg h4, if_neg h6]))))
  rcases key with e | e | e | e | e <;> rw [e] at hi h ⊢
  · simp only [List.length_cons, List.length_nil] at hi ⊢; omega
  · exfalso; simp only [List.length_cons, List.length_nil] at hi
    rcases (show i = 0 ∨ i = 1 ∨ i = 2 by omega) with rfl | rfl | rfl <;> exact absurd h (by decide)
  · exfalso; simp only [List.length_cons, List.length_nil] at hi
    rcases (show i = 0 ∨ i = 1 ∨ i = 2 ∨ i = 3 ∨ i = 4 by omega) with rfl | rfl | rfl | rfl | rfl <;> exact absurd h (by decide)
  · exfalso; simp only [List.length_cons, List.length_nil] at hi
    rcases (show i = 0 ∨ i = 1 ∨ i = 2 by omega) with rfl | rfl | rfl <;> exact absurd h (by decide)
  · simp at hi
theorem encR_len {c : Cmd} (h : c.wf) (hl : c.nodes.length ≤ 7) (hn : ∀ n ∈ c.nodes, 1 ≤ n ∧ n ≤ 7) : ∀ l, (encR c l).length ≤ 72 * l.length ∧ ∀ x ∈ encR c l, (Lit.int .u8 x).wf = true
  | [] => ⟨Nat.zero_le _, by simp [encR]⟩
  | f :: l => by
    have ih := encR_len h hl hn l
    have hb := numF_bd h (by omega) f.toNat
    have e : encR c (f :: l) = (numI (numF c f.toNat) ++ if f = 6 then encN c.nodes else []) ++ encR c l := rfl
    have hN := encN_len c.nodes fun n hm => by have := hn n hm; omega
    rw [e]
    refine ⟨?_, wf_app (wf_app (numI_wf hb.1 hb.2) ?_) ih.2⟩
    · have := numI_len hb.1 hb.2
      rw [List.length_append, List.length_append, List.length_cons]
      split
      · omega
      · simp only [List.length_nil]; omega
    · split
      · exact hN.2
      · simp
/-- '[]byte(s)' -/
theorem run_bytes (w : World) (s : ByteArray) (hl : s.size ≤ maxLen) : ∃ cap w', (convert 9 22 (.string s)).run Tryz.prog w = .ok (.slice (some ⟨w.heap.size, 0, none⟩) s.size cap) w' ∧
    Sl .u8 w' (.slice (some ⟨w.heap.size, 0, none⟩) s.size cap) (sbs s) ∧ Below w.heap.size w w' ∧ w.heap.size < w'.heap.size := by
  refine ⟨_, _, run_bytes_of_string w _ _ 5 s Tryz.underlying9 Tryz.underlying22 Tryz.underlying5, ?_, (Below.refl _ _).drew.alloc (Nat.le_refl _) _, ?_⟩
  · refine ⟨_, _, by rw [sbs_length], by rw [sbs_length]; exact grownCap_ge _ _ _ _, grownCap_le_maxLen _ _ _ _ hl, ?_, .inr ⟨w.heap.size, 0, none, rfl, .inr ⟨rfl, ?_, ?_⟩⟩⟩
    · intro n hn
      unfold sbs at hn
      obtain ⟨b, -, rfl⟩ := List.mem_map.1 hn
      have := b.toNat_lt
      exact Oc.wf_b ⟨by omega, by omega⟩
    · show w.heap.size < (w.heap.push _).size
      simp
    · intro i hi
      rw [sbs_length] at hi
      rw [Nat.zero_add]
      refine (World.cell?_alloc_mark w.drew _ _ _ i).trans ?_
      rw [bytesRow_at s _ i hi, sbs_get s i hi]
      rfl
  · show w.heap.size < (w.heap.push _).size
    simp

end Cm
end Go.Proofs.YtlfaiemebfkajaaGreatDoor
namespace Go.Proofs.YtlfaiemebfkajaaGreatDoor
open Go.ChangeShapes Go.WideShapes Go.ChangeAt Go.RowKit
set_option linter.unusedVariables false
set_option maxRecDepth 100000
namespace Cm

def encB (c : Cmd) : List Int := if chkC c then encL c else []
def Enc (c : Cmd) (w : World) (e : Ending) (w' : World) : Prop := ∃ v, e = .returned (.tuple #[v, .int .i64 (cErr (chkC c))]) ∧ Sl .u8 w' v (encB c) ∧ Below w.heap.size w w'

theorem encode_all (c : Cmd) (v : Value) (w : World) (h : IsCmd w v c) : Calls Tryz.prog 97 #[v] w (Enc c w) := by
  cases hc : chkC c with
  | false =>
    refine (encode_no c v w h hc).mono ?_
    rintro e w' ⟨rfl, hb⟩
    refine ⟨.slice none 0 0, ?_, ?_, hb⟩
    · rw [hc]; rfl
    · unfold encB; rw [hc]; exact sl_nil _ _
  | true =>
    refine (encode_yes c v w h hc).mono ?_
    rintro e w' ⟨u, rfl, -, hs, hb⟩
    refine ⟨u, ?_, ?_, hb⟩
    · rw [hc]; rfl
    · unfold encB; rw [hc]; exact hs
def exC : Cmd := ⟨2, 0, 0, [1, 3], 0, 0, 0, 0⟩
theorem numI_small {n : Int} (h0 : 0 < n) (h1 : n < 256) : numI n = [1, n] := by
  unfold numI
  have hb : Oc.bw n.toNat = 1 := by rw [Oc.bw_pos (by omega), Nat.div_eq_of_lt (by omega), Oc.bw_zero]
  unfold Oc.numL
  rw [hb]
  simp [Oc.be]
  omega
theorem exC_chk : chkC exC = true := by decide
theorem exC_enc : encB exC = [1, 2, 1, 2, 1, 1, 1, 3] := by
  unfold encB
  rw [exC_chk, if_pos rfl]
  have e : encL exC = numI 2 ++ (numI 2 ++ []) ++ (numI 1 ++ (numI 3 ++ [])) := rfl
  rw [e, numI_small (by omega) (by omega), numI_small (by omega) (by omega), numI_small (by omega) (by omega)]
  rfl

end Cm
end Go.Proofs.YtlfaiemebfkajaaGreatDoor
