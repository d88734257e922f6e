/- Frames' bytes: the package's. No condition. -/
import Derived.Test.YtdakkjpejhlciaaStE
import Derived.Test.YtdakkjpejhlciaaSbs
namespace Go.Proofs.Ytdakkjpejhlciaa
open Go.ChangeShapes Go.WideShapes Go.ChangeAt Go.RowKit
set_option linter.unusedVariables false
set_option maxRecDepth 100000
namespace St
theorem emp_iff (s : ByteArray) : s.toList = [] ↔ s = emp := by
  rw [ByteArray.toList_eq]
  constructor
  · intro h
    obtain ⟨⟨l⟩⟩ := s
    simp at h
    subst h
    rfl
  · rintro rfl
    rfl
theorem ne_emp {s : ByteArray} (h : s ≠ emp) : ¬ s.toList = [] ∧ (!s.toList.isEmpty) = true := by
  have h1 : ¬ s.toList = [] := fun q => h ((emp_iff s).1 q)
  refine ⟨h1, ?_⟩
  cases hs : s.toList with
  | nil => exact absurd hs h1
  | cons a l => rfl
def fitF (f : Frm) : Prop := ((f.kind = 66 ∨ f.kind = 69) ∧ f.text = emp) ∨ (f.kind = 81 ∧ f.text.size ≤ 48)
def byteF (f : Frm) : List Int := if f.kind = 81 then [81, (f.text.size : Int)] ++ sb f.text else [f.kind]
theorem byteF_len {f : Frm} (h : fitF f) : (byteF f).length ≤ 50 := by
  unfold byteF
  rcases h with ⟨_, _⟩ | ⟨h, h2⟩
  · split
    · rename_i q; rename_i a b; rcases a with r | r <;> (rw [r] at q; cases q)
    · simp
  · rw [if_pos h]; simp [sb_length]; omega
theorem bytes_len (l : List Frm) (h : ∀ f ∈ l, fitF f) : (l.flatMap byteF).length ≤ l.length * 50 := by
  induction l with
  | nil => simp
  | cons f l ih =>
    have h1 := byteF_len (h f (by simp))
    have h2 := ih (fun g hg => h g (by simp [hg]))
    rw [List.flatMap_cons, List.length_append, List.length_cons]; omega
theorem byteF_wf {f : Frm} (h : fitF f) : ∀ x ∈ byteF f, (Lit.int .u8 x).wf = true := by
  unfold byteF
  rcases h with ⟨a, _⟩ | ⟨h, h2⟩
  · rw [if_neg (by rcases a with r | r <;> (rw [r]; decide))]
    intro x hx; simp at hx; subst hx
    rcases a with r | r <;> (rw [r]; decide)
  · rw [if_pos h]
    intro x hx
    rcases List.mem_append.1 hx with q | q
    · simp only [List.mem_cons, List.not_mem_nil, or_false] at q
      rcases q with rfl | rfl
      · decide
      · exact WalkArith.wf_u8 ⟨by omega, by omega⟩
    · exact sb_wf _ x q
theorem bytes_wf (l : List Frm) (h : ∀ f ∈ l, fitF f) : ∀ x ∈ l.flatMap byteF, (Lit.int .u8 x).wf = true := by
  intro x hx
  obtain ⟨f, hf, hx⟩ := List.mem_flatMap.1 hx
  exact byteF_wf (h f hf) x hx
def SaysB (P : Prop) (w : World) (e : Ending) (w' : World) : Prop := ∃ b, e = .returned (.bool b) ∧ (b = true ↔ P) ∧ Below w.heap.size w w'
theorem saysB_no {P : Prop} (h : ¬ P) {w w' : World} (hb : Below w.heap.size w w') : SaysB P w (.returned (.bool false)) w' := ⟨_, rfl, ⟨fun h => (by cases h), fun h2 => absurd h2 h⟩, hb⟩
theorem saysB_as {P : Prop} {b : Bool} (h : b = true ↔ P) {w w' : World} (hb : Below w.heap.size w w') : SaysB P w (.returned (.bool b)) w' := ⟨_, rfl, h, hb⟩
abbrev fArr (f : Frm) : Array Value := #[.int .u8 f.kind, .string f.text]
theorem box1 {w : World} {A : Array Value} {t : TypeId} : Below w.heap.size w (w.alloc (.cells A t)) := (Below.refl _ _).alloc (Nat.le_refl _) _
theorem rows_open {α : Type} {sz : Nat} {C : α → List Value} {w : World} {a : Option Addr} {cap : Nat} {xs : List α} {k : Nat} (hk : k < xs.length)
    (h4 : (a = none ∧ cap = 0 ∧ xs = []) ∨ ∃ b off sp, a = some ⟨b, off, sp⟩ ∧ (xs = [] ∨ (sp = none ∧ b < w.heap.size ∧ ∀ i x, xs[i]? = some x → ∀ j u, (C x)[j]? = some u → w.cell? ⟨b, off + (i * sz + j), none⟩ = some u))) :
    ∃ b off, a = some ⟨b, off, none⟩ ∧ b < w.heap.size ∧ ∀ i x, xs[i]? = some x → ∀ j u, (C x)[j]? = some u → w.cell? ⟨b, off + (i * sz + j), none⟩ = some u := by
  rcases h4 with ⟨_, _, rfl⟩ | ⟨b, off, sp, rfl, rfl | ⟨rfl, hlt, hc⟩⟩
  · simp at hk
  · simp at hk
  · exact ⟨b, off, rfl, hlt, hc⟩
theorem rgetD {α : Type} {l : List α} {k : Nat} (h : k < l.length) : l[k]? = some l[k] := List.getElem?_eq_getElem h
/-- what Bytes tells -/
def BytesR (l : List Frm) (w : World) (e : Ending) (w' : World) : Prop :=
  ((∀ f ∈ l, fitF f) ∧ ∃ v, e = .returned (.tuple #[v, .int .i64 0]) ∧ Own w' w.heap.size v (l.flatMap byteF) ∧ Below w.heap.size w w') ∨ ((¬ ∀ f ∈ l, fitF f) ∧ e = .returned (.tuple #[.slice none 0 0, .int .i64 90]) ∧ Below w.heap.size w w')
end St
end Go.Proofs.Ytdakkjpejhlciaa
