/- Which replies fit which frames: lists alone. No condition. judge's small functions: frameFits, replyFits, outside, inside. No condition. The document's frame and after. No condition. judge's step of a session. No condition. judge's Fits. No condition. The document's Fits. No condition. A literal's row of structs. No condition. The chapter's examples of Fits. No condition. -/
import Derived.Test.YtdakkjpejhlciaaRep
import Derived.Deep.QuietTactic
import Derived.BigQuiet
import Derived.Laws.Rows
import Derived.Deep.RegionWith
import Derived.Deep.RegionHeld
import Derived.Test.YtdakkjpejhlciaaStr
namespace Go.Proofs.Ytdakkjpejhlciaa
open Go.ChangeShapes Go.WideShapes Go.ChangeAt Go.RowKit
set_option linter.unusedVariables false
set_option maxRecDepth 100000
namespace Jf
def emp : ByteArray := ⟨#[]⟩
def frmOk (f : Frm) : Prop := ((f.kind = 66 ∨ f.kind = 69) ∧ f.text = emp) ∨ (f.kind = 81 ∧ f.text.size ≤ 48)
def repFits (r : Rep) : Prop := (r.kind ≠ 2 → r.text = emp) ∧ ((r.kind = 5 ∧ 1 ≤ r.node ∧ r.node ≤ 7) ∨ (r.kind ≠ 5 ∧ r.node = 0))
def okO (k r : Int) : Prop := (k = 66 ∧ (r = 1 ∨ r = 4 ∨ r = 5)) ∨ (k = 81 ∧ (r = 2 ∨ r = 4 ∨ r = 5 ∨ r = 6)) ∨ (k = 69 ∧ r = 7)
def okI (k r : Int) : Prop := (k = 66 ∧ (r = 7 ∨ r = 6)) ∨ (k = 81 ∧ (r = 2 ∨ r = 6)) ∨ (k = 69 ∧ (r = 3 ∨ r = 6))
def okW (wi : Bool) (k r : Int) : Prop := if wi = true then okI k r else okO k r
def nxW (wi : Bool) (r : Int) : Bool := if wi = true then decide (r ≠ 6 ∧ r ≠ 3) else decide (r = 1)
open Classical in
noncomputable def stepE (wi : Bool) (f : Frm) (r : Rep) (rest : List ByteArray) : Int :=
  if ¬ frmOk f then 90 else if ¬ (okW wi f.kind r.kind ∧ repFits r) then 1 else if r.kind = 2 ∧ rest.head? ≠ some r.text then 220 else 0
def stepR (r : Rep) (rest : List ByteArray) : List ByteArray := if r.kind = 2 then rest.tail else rest
theorem stepE_frm {wi : Bool} {f : Frm} {r : Rep} {rest : List ByteArray} (h : ¬ frmOk f) : stepE wi f r rest = 90 := by unfold stepE; rw [if_pos h]
theorem stepE_arg {wi : Bool} {f : Frm} {r : Rep} {rest : List ByteArray} (h : frmOk f) (h2 : ¬ (okW wi f.kind r.kind ∧ repFits r)) : stepE wi f r rest = 1 := by unfold stepE; rw [if_neg (fun q => q h), if_pos h2]
theorem stepE_trace {wi : Bool} {f : Frm} {r : Rep} {rest : List ByteArray} (h : frmOk f) (h2 : okW wi f.kind r.kind ∧ repFits r) (h3 : r.kind = 2 ∧ rest.head? ≠ some r.text) : stepE wi f r rest = 220 := by unfold stepE; rw [if_neg (fun q => q h), if_neg (fun q => q h2), if_pos h3]
theorem stepE_ok {wi : Bool} {f : Frm} {r : Rep} {rest : List ByteArray} (h : frmOk f) (h2 : okW wi f.kind r.kind ∧ repFits r) (h3 : ¬ (r.kind = 2 ∧ rest.head? ≠ some r.text)) : stepE wi f r rest = 0 := by unfold stepE; rw [if_neg (fun q => q h), if_neg (fun q => q h2), if_neg h3]
noncomputable def fitV : List Frm → List Rep → Int → Bool → List ByteArray → Int × Int
  | _, [], _, _, _ => (-1, 0)
  | [], _ :: _, i, _, _ => (i, 6)
  | f :: sent, r :: told, i, wi, rest => if stepE wi f r rest = 0 then fitV sent told (i + 1) (nxW wi r.kind) (stepR r rest) else (i, stepE wi f r rest)
theorem fit_end {sent : List Frm} {i : Int} {wi : Bool} {rest : List ByteArray} : fitV sent [] i wi rest = (-1, 0) := by cases sent <;> rfl
theorem fit_many {r : Rep} {told : List Rep} {i : Int} {wi : Bool} {rest : List ByteArray} : fitV [] (r :: told) i wi rest = (i, 6) := rfl
theorem fit_bad {f : Frm} {sent : List Frm} {r : Rep} {told : List Rep} {i : Int} {wi : Bool} {rest : List ByteArray} (h : stepE wi f r rest ≠ 0) : fitV (f :: sent) (r :: told) i wi rest = (i, stepE wi f r rest) := by rw [fitV, if_neg h]
theorem fit_go {f : Frm} {sent : List Frm} {r : Rep} {told : List Rep} {i : Int} {wi : Bool} {rest : List ByteArray} (h : stepE wi f r rest = 0) : fitV (f :: sent) (r :: told) i wi rest = fitV sent told (i + 1) (nxW wi r.kind) (stepR r rest) := by rw [fitV, if_pos h]
theorem drop_cons {α : Type} {l : List α} {k : Nat} (h : k < l.length) : l.drop k = l[k] :: l.drop (k + 1) := List.drop_eq_getElem_cons h
/-- the same by places -/
noncomputable abbrev fitK (sent : List Frm) (told : List Rep) (k : Nat) (wi : Bool) (rest : List ByteArray) : Int × Int := fitV (sent.drop k) (told.drop k) (k : Int) wi rest
theorem fitK_end {sent : List Frm} {told : List Rep} {wi : Bool} {rest : List ByteArray} : fitK sent told told.length wi rest = (-1, 0) := by unfold fitK; rw [List.drop_length]; exact fit_end
theorem fitK_many {sent : List Frm} {told : List Rep} {k : Nat} {wi : Bool} {rest : List ByteArray} (h : k < told.length) (h2 : sent.length ≤ k) : fitK sent told k wi rest = ((k : Int), 6) := by
  unfold fitK; rw [List.drop_eq_nil_of_le h2, drop_cons h]; rfl
theorem fitK_bad {sent : List Frm} {told : List Rep} {k : Nat} {wi : Bool} {rest : List ByteArray} (h : k < told.length) (h2 : k < sent.length) (h3 : stepE wi sent[k] told[k] rest ≠ 0) : fitK sent told k wi rest = ((k : Int), stepE wi sent[k] told[k] rest) := by
  unfold fitK; rw [drop_cons h, drop_cons h2]; exact fit_bad h3
theorem fitK_go {sent : List Frm} {told : List Rep} {k : Nat} {wi : Bool} {rest : List ByteArray} (h : k < told.length) (h2 : k < sent.length) (h3 : stepE wi sent[k] told[k] rest = 0) : fitK sent told k wi rest = fitK sent told (k + 1) (nxW wi told[k].kind) (stepR told[k] rest) := by
  unfold fitK; rw [drop_cons h, drop_cons h2]; exact fit_go h3
end Jf
end Go.Proofs.Ytdakkjpejhlciaa
namespace Go.Proofs.Ytdakkjpejhlciaa
open Go.ChangeShapes Go.WideShapes Go.ChangeAt Go.RowKit
set_option linter.unusedVariables false
set_option maxRecDepth 100000
namespace Jf
def SaysB (P : Prop) (w : World) (e : Ending) (w' : World) : Prop := ∃ b, e = .returned (.bool b) ∧ (b = true ↔ P) ∧ Below w.heap.size w w'
theorem saysB_no {P : Prop} (h : ¬ P) {w w' : World} (hb : Below w.heap.size w w') : SaysB P w (.returned (.bool false)) w' := ⟨_, rfl, ⟨fun h => (by cases h), fun h2 => absurd h2 h⟩, hb⟩
theorem saysB_yes {P : Prop} (h : P) {w w' : World} (hb : Below w.heap.size w w') : SaysB P w (.returned (.bool true)) w' := ⟨_, rfl, ⟨fun _ => h, fun _ => rfl⟩, hb⟩
theorem saysB_as {P : Prop} {b : Bool} (h : b = true ↔ P) {w w' : World} (hb : Below w.heap.size w w') : SaysB P w (.returned (.bool b)) w' := ⟨_, rfl, h, hb⟩
abbrev fArr (f : Frm) : Array Value := #[.int .u8 f.kind, .string f.text]
abbrev rArr (r : Rep) : Array Value := #[.int .i64 r.kind, .int .i64 r.node, .string r.text]
theorem emp_iff (s : ByteArray) : s.toList = [] ↔ s = emp := by
  rw [ByteArray.toList_eq]
  constructor
  · intro h
    obtain ⟨⟨l⟩⟩ := s
    simp at h
    subst h
    rfl
  · rintro rfl
    rfl
theorem ne_emp {s : ByteArray} (h : s ≠ emp) : ¬ s.toList = [] ∧ (!s.toList.isEmpty) = true := by
  have h1 : ¬ s.toList = [] := fun q => h ((emp_iff s).1 q)
  refine ⟨h1, ?_⟩
  cases hs : s.toList with
  | nil => exact absurd hs h1
  | cons a l => rfl
theorem box1 {w : World} {A : Array Value} {t : TypeId} : Below w.heap.size w (w.alloc (.cells A t)) := (Below.refl _ _).alloc (Nat.le_refl _) _
set_option maxHeartbeats 2000000 in
theorem frameFits_any (f : Frm) (w : World) : Calls Try.prog 52 #[.agg (fArr f)] w (SaysB (frmOk f) w) := by
  obtain ⟨k, s⟩ := f
  by_cases h1 : k = 66
  · subst h1
    have HE : Hid (∀ b : Bool, (b = true ↔ s = emp) → (b = true ↔ frmOk ⟨66, s⟩)) := Lib.hid (fun b hb => by unfold frmOk; simp [hb])
    go_enter Try.func52, Try.ntmps52
    go_wp2
    go_ret
    exact saysB_as (HE.out _ (by simp [emp_iff])) box1
  · by_cases h2 : k = 69
    · subst h2
      have HE : Hid (∀ b : Bool, (b = true ↔ s = emp) → (b = true ↔ frmOk ⟨69, s⟩)) := Lib.hid (fun b hb => by unfold frmOk; simp [hb])
      clear h1
      go_enter Try.func52, Try.ntmps52
      go_wp2
      go_ret
      exact saysB_as (HE.out _ (by simp [emp_iff])) box1
    · by_cases h3 : k = 81
      · subst h3
        have HE : Hid ((decide ((s.size : Int) ≤ 48) = true) ↔ frmOk ⟨81, s⟩) := Lib.hid (by unfold frmOk; simp; omega)
        clear h1 h2
        go_enter Try.func52, Try.ntmps52
        go_wp2
        go_ret
        exact saysB_as HE.out box1
      · have HE : Hid (¬ frmOk ⟨k, s⟩) := Lib.hid (by unfold frmOk; simp [h1, h2, h3])
        have e1 : (k == 66) = false := beq_eq_false_iff_ne.2 h1
        have e2 : (k == 69) = false := beq_eq_false_iff_ne.2 h2
        have e3 : (k == 81) = false := beq_eq_false_iff_ne.2 h3
        clear h1 h2 h3
        go_enter Try.func52, Try.ntmps52
        go_wp2
        go_ret
        exact saysB_no HE.out box1
theorem isNode_any (n : Int) (w : World) : Calls Try.prog 60 #[.int .i64 n] w fun e w' => e = .returned (.bool (decide (1 ≤ n) && decide (n ≤ 7))) ∧ w = w' := by
  by_cases h : 1 ≤ n
  · have HE : Hid (decide (n ≤ 7) = (decide (1 ≤ n) && decide (n ≤ 7))) := Lib.hid (by simp [h])
    go_enter Try.func60, Try.ntmps60
    go_wp2
    go_ret
    exact ⟨ret_bool HE.out, rfl⟩
  · have HE : Hid (false = (decide (1 ≤ n) && decide (n ≤ 7))) := Lib.hid (by simp [h])
    go_enter Try.func60, Try.ntmps60
    go_wp2
    go_ret
    exact ⟨ret_bool HE.out, rfl⟩
set_option maxHeartbeats 2000000 in
theorem replyFits_any (r : Rep) (w : World) : Calls Try.prog 55 #[.agg (rArr r)] w (SaysB (repFits r) w) := by
  obtain ⟨k, n, s⟩ := r
  by_cases h1 : k = 2
  · subst h1
    have HE : Hid ((n == 0) = true ↔ repFits ⟨2, n, s⟩) := Lib.hid (by unfold repFits; simp)
    go_enter Try.func55, Try.ntmps55
    go_wp2
    go_ret
    exact saysB_as HE.out box1
  · have e1 : (k != 2) = true := by simpa using h1
    by_cases h2 : s = emp
    · subst h2
      unfold emp
      by_cases h3 : k = 5
      · subst h3
        have HE : Hid ((decide (1 ≤ n) && decide (n ≤ 7)) = true ↔ repFits ⟨5, n, emp⟩) := Lib.hid (by unfold repFits; simp)
        clear e1
        go_enter Try.func55, Try.ntmps55
        go_wp2_with fail
        refine (isNode_any _ _).mono ?_
        rintro e w1 ⟨rfl, rfl⟩
        go_wp2
        go_ret
        exact saysB_as HE.out box1
      · have HE : Hid ((n == 0) = true ↔ repFits ⟨k, n, emp⟩) := Lib.hid (by unfold repFits; simp [h3])
        have e2 : (k == 5) = false := beq_eq_false_iff_ne.2 h3
        clear h1 h3
        go_enter Try.func55, Try.ntmps55
        go_wp2
        go_ret
        exact saysB_as HE.out box1
    · have HE : Hid (¬ repFits ⟨k, n, s⟩) := Lib.hid (by unfold repFits; exact fun q => h2 (q.1 h1))
      obtain ⟨e3, e4⟩ := ne_emp h2
      clear h1 h2
      go_enter Try.func55, Try.ntmps55
      go_wp2
      go_ret
      exact saysB_no HE.out box1
/-- what follows from a reply's kind, when it may be -/
def Row (ok : Prop) (nx : Bool) (w : World) (e : Ending) (w' : World) : Prop := ∃ b, e = .returned (.tuple #[.bool b, .bool nx]) ∧ (b = true ↔ ok) ∧ w = w'
set_option maxHeartbeats 4000000 in
theorem outside_any (k r : Int) (w : World) (hk : k = 66 ∨ k = 81 ∨ k = 69) : Calls Try.prog 53 #[.int .u8 k, .int .i64 r] w (Row (okO k r) (nxW false r) w) := by
  by_cases hr : 1 ≤ r ∧ r ≤ 7
  · have hr2 : r = 1 ∨ r = 2 ∨ r = 3 ∨ r = 4 ∨ r = 5 ∨ r = 6 ∨ r = 7 := by omega
    clear hr
    rcases hk with rfl | rfl | rfl <;> rcases hr2 with rfl | rfl | rfl | rfl | rfl | rfl | rfl
    all_goals
      go_enter Try.func53, Try.ntmps53
      go_wp2
      go_ret2
      exact ⟨_, rfl, by unfold okO; decide, rfl⟩
  · have e1 : (r == 1) = false := beq_eq_false_iff_ne.2 (by omega)
    have e2 : (r == 2) = false := beq_eq_false_iff_ne.2 (by omega)
    have e4 : (r == 4) = false := beq_eq_false_iff_ne.2 (by omega)
    have e5 : (r == 5) = false := beq_eq_false_iff_ne.2 (by omega)
    have e6 : (r == 6) = false := beq_eq_false_iff_ne.2 (by omega)
    have e7 : (r == 7) = false := beq_eq_false_iff_ne.2 (by omega)
    have HN : Hid (nxW false r = false) := Lib.hid (by unfold nxW; simp; omega)
    have HO : Hid (¬ okO k r) := Lib.hid (by unfold okO; omega)
    clear hr
    rcases hk with rfl | rfl | rfl
    all_goals
      go_enter Try.func53, Try.ntmps53
      go_wp2
      go_ret2
      exact ⟨false, by rw [HN.out]; rfl, ⟨(fun q => by cases q), fun q => absurd q HO.out⟩, rfl⟩
set_option maxHeartbeats 4000000 in
theorem inside_any (k r : Int) (w : World) (hk : k = 66 ∨ k = 81 ∨ k = 69) : Calls Try.prog 54 #[.int .u8 k, .int .i64 r] w (Row (okI k r) (nxW true r) w) := by
  by_cases hr : 1 ≤ r ∧ r ≤ 7
  · have hr2 : r = 1 ∨ r = 2 ∨ r = 3 ∨ r = 4 ∨ r = 5 ∨ r = 6 ∨ r = 7 := by omega
    clear hr
    rcases hk with rfl | rfl | rfl <;> rcases hr2 with rfl | rfl | rfl | rfl | rfl | rfl | rfl
    all_goals
      go_enter Try.func54, Try.ntmps54
      go_wp2
      go_ret2
      exact ⟨_, rfl, by unfold okI; decide, rfl⟩
  · have e2 : (r == 2) = false := beq_eq_false_iff_ne.2 (by omega)
    have e3 : (r == 3) = false := beq_eq_false_iff_ne.2 (by omega)
    have e6 : (r == 6) = false := beq_eq_false_iff_ne.2 (by omega)
    have e7 : (r == 7) = false := beq_eq_false_iff_ne.2 (by omega)
    have f6 : (r != 6) = true := by simp; omega
    have f3 : (r != 3) = true := by simp; omega
    have HN : Hid (nxW true r = true) := Lib.hid (by unfold nxW; simp; omega)
    have HO : Hid (¬ okI k r) := Lib.hid (by unfold okI; omega)
    clear hr
    rcases hk with rfl | rfl | rfl
    all_goals
      go_enter Try.func54, Try.ntmps54
      go_wp2
      go_ret2
      exact ⟨false, by rw [HN.out]; rfl, ⟨(fun q => by cases q), fun q => absurd q HO.out⟩, rfl⟩
end Jf
end Go.Proofs.Ytdakkjpejhlciaa
namespace Go.Proofs.Ytdakkjpejhlciaa
open Go.ChangeShapes Go.WideShapes Go.ChangeAt Go.RowKit
set_option linter.unusedVariables false
set_option maxRecDepth 100000
namespace Jf
def RefRow (wi : Bool) (k : Int) (P : Prop) (w : World) (e : Ending) (w' : World) : Prop := ∃ i b, e = .returned (.tuple #[.bool i, .bool b]) ∧ (b = true ↔ P) ∧ (b = true → i = nxW wi k) ∧ Below w.heap.size w w'
theorem refrow_no {wi i : Bool} {k : Int} {P : Prop} (h : ¬ P) {w w' : World} (hb : Below w.heap.size w w') : RefRow wi k P w (.returned (.tuple #[.bool i, .bool false])) w' := ⟨_, _, rfl, ⟨(fun h => by cases h), fun h2 => absurd h2 h⟩, (fun h => by cases h), hb⟩
theorem refrow_as {wi i b : Bool} {k : Int} {P Q : Prop} (h : Q) (h1 : b = true ↔ P) (h2 : b = true → i = nxW wi k) {w w' : World} (hb : Below w.heap.size w w') : RefRow wi k (P ∧ Q) w (.returned (.tuple #[.bool i, .bool b])) w' := ⟨_, _, rfl, ⟨fun q => ⟨h1.1 q, h⟩, fun q => h1.2 q.1⟩, h2, hb⟩
theorem box2 {w : World} {A B : Array Value} {t s : TypeId} : Below w.heap.size w ((w.alloc (.cells A t)).alloc (.cells B s)) := ((Below.refl _ _).alloc (Nat.le_refl _) _).alloc (by simp) _
theorem box2d {w : World} {A B : Array Value} {t s : TypeId} {n : Nat} : Below w.heap.size w (((w.alloc (.cells A t)).alloc (.cells B s)).drewN n) := box2.trans ⟨rfl, rfl, rfl, Nat.le_refl _, fun _ _ => rfl⟩
end Jf
end Go.Proofs.Ytdakkjpejhlciaa
namespace Go.Proofs.Ytdakkjpejhlciaa
open Go.ChangeShapes Go.WideShapes Go.ChangeAt Go.RowKit
set_option linter.unusedVariables false
set_option maxRecDepth 100000
namespace Jf
theorem strs_cases {w : World} {v : Value} {xs : List ByteArray} (h : IsStrs w v xs) :
    (∃ a cap, v = .slice a 0 cap ∧ xs = []) ∨ ∃ b off cap s l, v = .slice (some ⟨b, off, none⟩) (l.length + 1) cap ∧ xs = s :: l ∧ l.length + 1 ≤ cap ∧ cap ≤ 9223372036854775807 ∧ b < w.heap.size ∧ w.cell? ⟨b, off, none⟩ = some (.string s) ∧ s.size ≤ maxLen ∧
      IsStrs w (.slice (if cap = 1 then some ⟨b, off, none⟩ else some ⟨b, off + 1, none⟩) l.length (cap - 1)) l := by
  obtain ⟨h1, h2⟩ := h
  rcases h1.cases with ⟨a, cap, rfl, rfl⟩ | ⟨b, off, cap, rfl, h0, hlc, hcm, hlt, hc⟩
  · exact .inl ⟨_, _, rfl, rfl⟩
  · match xs, h0 with
    | s :: l, _ =>
      refine .inr ⟨b, off, cap, s, l, rfl, rfl, hlc, hcm, hlt, ?_, h2 s (by simp), ⟨?_, fun x hx => h2 x (List.mem_cons_of_mem _ hx)⟩⟩
      · have := hc 0 s rfl 0 _ rfl
        simpa using this
      · have hml : cap - 1 ≤ maxLen := by unfold maxLen; omega
        simp only [List.length_cons] at hlc
        by_cases hcap : cap = 1
        · rw [if_pos hcap]
          have : l = [] := List.eq_nil_of_length_eq_zero (by omega)
          subst this
          exact ⟨_, _, rfl, by simp, hml, .inr ⟨b, off, none, rfl, .inl rfl⟩⟩
        · rw [if_neg hcap]
          refine ⟨_, _, rfl, by omega, hml, .inr ⟨b, off + 1, none, rfl, .inr ⟨rfl, hlt, fun i x hx j u hu => ?_⟩⟩⟩
          have := hc (i + 1) x (by simpa using hx) j u hu
          rw [show off + ((i + 1) * 1 + j) = off + 1 + (i * 1 + j) by omega] at this
          exact this
/-- all but the block g is as it was -/
def FarG (g : Nat) (w w' : World) : Prop := Below g w w' ∧ ∀ k, k < w.heap.size → k ≠ g → w'.heap[k]? = w.heap[k]?
theorem FarG.of_below {g : Nat} {w w' : World} (h : Below w.heap.size w w') (hg : g < w.heap.size) : FarG g w w' := ⟨h.mono (Nat.le_of_lt hg), fun k hk _ => h.block k hk⟩
theorem FarG.go {g : Nat} {w w1 w2 : World} (h : FarG g w w1) (hg : g < w.heap.size) (hb : Below w1.heap.size w1 w2) : FarG g w w2 :=
  ⟨h.1.trans (hb.mono (Nat.le_trans (Nat.le_of_lt hg) h.1.size)), fun k hk hn => (hb.block k (Nat.lt_of_lt_of_le hk h.1.size)).trans (h.2 k hk hn)⟩
theorem FarG.drewN {g : Nat} {w w1 : World} (h : FarG g w w1) (n : Nat) : FarG g w (w1.drewN n) := ⟨h.1.trans ⟨rfl, rfl, rfl, Nat.le_refl _, fun _ _ => rfl⟩, h.2⟩
theorem FarG.setCell {g : Nat} {w w1 : World} (h : FarG g w w1) (j : Nat) (v : Value) : FarG g w (w1.setCell ⟨g, j, none⟩ v) :=
  ⟨h.1.setCell (Nat.le_refl _) v, fun k hk hn => (heap_setCell_other w1 ⟨g, j, none⟩ k v (by simpa using hn)).trans (h.2 k hk hn)⟩
def StepP (W0 : World) (wi : Bool) (f : Frm) (r : Rep) (rest : List ByteArray) (g : Nat) (w : World) (e : Ending) (w' : World) : Prop :=
  e = .returned (.int .i64 (stepE wi f r rest)) ∧ FarG g w w' ∧ (stepE wi f r rest = 0 → ∃ vs, w'.heap[g]? = some (.cells #[.bool (nxW wi r.kind), vs] 82 (0, 0)) ∧ IsStrs W0 vs (stepR r rest))
theorem stepP_bad {W0 : World} {wi : Bool} {f : Frm} {r : Rep} {rest : List ByteArray} {g : Nat} {w w' : World} {n : Int} (h : stepE wi f r rest = n) (hn : n ≠ 0) (hb : FarG g w w') : StepP W0 wi f r rest g w (.returned (.int .i64 n)) w' :=
  ⟨by rw [h], hb, fun q => absurd (h.symm.trans q) hn⟩
theorem stepP_ok {W0 : World} {wi : Bool} {f : Frm} {r : Rep} {rest : List ByteArray} {g : Nat} {w w' : World} {vs : Value} (h : stepE wi f r rest = 0) (hb : FarG g w w') (hg : w'.heap[g]? = some (.cells #[.bool (nxW wi r.kind), vs] 82 (0, 0))) (hv : IsStrs W0 vs (stepR r rest)) : StepP W0 wi f r rest g w (.returned (.int .i64 0)) w' :=
  ⟨by rw [h], hb, fun _ => ⟨vs, hg, hv⟩⟩
theorem cells2 {w : World} {g : Nat} {a b : Value} {t : TypeId} (h : w.heap[g]? = some (.cells #[a, b] t (0, 0))) : w.cell? ⟨g, 0, none⟩ = some a ∧ w.cell? ⟨g, 1, none⟩ = some b ∧ w.frozen? ⟨g, 0, none⟩ = false ∧ w.frozen? ⟨g, 1, none⟩ = false :=
  ⟨(cell_of_row w _ 0 _ _ _ h).trans rfl, (cell_of_row w _ 1 _ _ _ h).trans rfl, frozen_of_row w _ 0 _ _ h, frozen_of_row w _ 1 _ _ h⟩
theorem cells3 {w : World} {g : Nat} {a b c : Value} {t : TypeId} (h : w.heap[g]? = some (.cells #[a, b, c] t (0, 0))) : w.cell? ⟨g, 0, none⟩ = some a ∧ w.cell? ⟨g, 1, none⟩ = some b ∧ w.cell? ⟨g, 2, none⟩ = some c :=
  ⟨(cell_of_row w _ 0 _ _ _ h).trans rfl, (cell_of_row w _ 1 _ _ _ h).trans rfl, (cell_of_row w _ 2 _ _ _ h).trans rfl⟩
theorem frm_kind {f : Frm} (h : frmOk f) : f.kind = 66 ∨ f.kind = 81 ∨ f.kind = 69 := by
  rcases h with ⟨h | h, _⟩ | ⟨h, _⟩
  · exact .inl h
  · exact .inr (.inr h)
  · exact .inr (.inl h)
theorem str_ne {s t : ByteArray} (h : s ≠ t) : (s.toList == t.toList) = false := by
  rw [beq_eq_false_iff_ne, ByteArray.toList_eq, ByteArray.toList_eq]
  intro q
  apply h
  obtain ⟨⟨a⟩⟩ := s
  obtain ⟨⟨b⟩⟩ := t
  simp at q
  subst q
  rfl
/-- the cell of what is within, stored -/
theorem set0 {w : World} {g : Nat} {a b v : Value} {t : TypeId} (h : w.heap[g]? = some (.cells #[a, b] t (0, 0))) : (w.setCell ⟨g, 0, none⟩ v).heap[g]? = some (.cells #[v, b] t (0, 0)) := (heap_setCell_same w g 0 _ t v h).trans rfl
theorem set1 {w : World} {g : Nat} {a b v : Value} {t : TypeId} (h : w.heap[g]? = some (.cells #[a, b] t (0, 0))) : (w.setCell ⟨g, 1, none⟩ v).heap[g]? = some (.cells #[a, v] t (0, 0)) := (heap_setCell_same w g 1 _ t v h).trans rfl
set_option maxHeartbeats 16000000 in
theorem step_any (W0 : World) (wi : Bool) (f : Frm) (r : Rep) (rest : List ByteArray) (vs : Value) (g : Nat) (w : World) (hg : w.heap[g]? = some (.cells #[.bool wi, vs] 82 (0, 0))) (hs : IsStrs W0 vs rest) (hb : Below W0.heap.size W0 w) (hg0 : W0.heap.size ≤ g) :
    Calls Try.prog 48 #[.pointer (some ⟨g, 0, none⟩), .agg (fArr f), .agg (rArr r)] w (StepP W0 wi f r rest g w) := by
  have hgl : g < w.heap.size := (Array.getElem?_eq_some_iff.1 hg).1
  have hb1 : Below w.heap.size w ((w.alloc (.cells (fArr f) 57)).alloc (.cells (rArr r) 34)) := ((Below.refl _ _).alloc (Nat.le_refl _) _).alloc (by simp) _
  have F1 := Lib.hid (heap_alloc2_old w (.cells (fArr f) 57) (.cells (rArr r) 34))
  have R1 := Lib.hid (heap_alloc2_new w (.cells (fArr f) 57) (.cells (rArr r) 34))
  have G1 := Lib.hid ((hb1.block g hgl).trans hg)
  have hz : ((w.alloc (.cells (fArr f) 57)).alloc (.cells (rArr r) 34)).heap.size = w.heap.size + 2 := by simp
  have HZ := Lib.hid hz
  have HGL := Lib.hid hgl
  have HB1 := Lib.hid (FarG.of_below hb1 hgl)
  have HB0 := Lib.hid (hb.trans (hb1.mono hb.size))
  have HS := Lib.hid hs
  have HG0 := Lib.hid hg0
  clear hg hs hb hg0 hb1 hz
  obtain ⟨x0, x1, -, -⟩ := cells2 F1.out
  by_cases okf : frmOk f
  · have HK := Lib.hid (frm_kind okf)
    have OKF := Lib.hid okf
    go_enter Try.func48, Try.ntmps48
    go_wp2_with fail
    refine (frameFits_any f _).mono ?_
    rintro e w2 ⟨t, rfl, ht, hb2⟩
    obtain rfl := ht.2 okf
    have hz2 : w.heap.size + 2 ≤ w2.heap.size := by have := hb2.size; have := HZ.out; omega
    have F2 := Lib.hid ((hb2.block w.heap.size (by have := HZ.out; omega)).trans F1.out)
    have R2 := Lib.hid ((hb2.block (w.heap.size + 1) (by have := HZ.out; omega)).trans R1.out)
    have G2 := Lib.hid ((hb2.block g (by have := HZ.out; omega)).trans G1.out)
    have HB2 := Lib.hid (HB1.out.go HGL.out hb2)
    have HC2 := Lib.hid (HB0.out.trans (hb2.mono (by have := HB0.out.size; exact this)))
    have HZ2 := Lib.hid hz2
    clear ht hb2 okf x0 x1 hz2
    obtain ⟨x0, x1, -, -⟩ := cells2 F2.out
    obtain ⟨y0, y1, y2⟩ := cells3 R2.out
    obtain ⟨g0, g1, gf0, gf1⟩ := cells2 G2.out
    have HROW : Hid (∀ w, Calls Try.prog (if wi = true then 54 else 53) #[.int .u8 f.kind, .int .i64 r.kind] w (Row (okW wi f.kind r.kind) (nxW wi r.kind) w)) := Lib.hid (fun w => by
      cases wi
      · exact outside_any f.kind r.kind w HK.out
      · exact inside_any f.kind r.kind w HK.out)
    have HIN : Hid (∃ b : Bool, (b = true ↔ okW wi f.kind r.kind)) := by
      by_cases q : okW wi f.kind r.kind
      · exact Lib.hid ⟨true, by simp [q]⟩
      · exact Lib.hid ⟨false, by simp [q]⟩
    have HARG : Hid (¬ (okW wi f.kind r.kind ∧ repFits r) → stepE wi f r rest = 1) := Lib.hid (fun h => stepE_arg OKF.out h)
    have HTR : Hid (okW wi f.kind r.kind ∧ repFits r → r.kind = 2 ∧ rest.head? ≠ some r.text → stepE wi f r rest = 220) := Lib.hid (fun h h2 => stepE_trace OKF.out h h2)
    have HOKE : Hid (okW wi f.kind r.kind ∧ repFits r → ¬ (r.kind = 2 ∧ rest.head? ≠ some r.text) → stepE wi f r rest = 0) := Lib.hid (fun h h2 => stepE_ok OKF.out h h2)
    cases wi
    all_goals
      go_wp2_with fail
      refine (HROW.out _).mono ?_
      rintro e w3 ⟨b, rfl, hok, rfl⟩
      cases b with
      | false =>
        have HE := Lib.hid (HARG.out (fun q => by cases hok.2 q.1))
        clear hok
        go_wp2
        go_ret
        exact stepP_bad HE.out (by decide) HB2.out
      | true =>
        have HOK := Lib.hid (hok.1 rfl)
        clear hok
        go_wp2_with fail
        refine (replyFits_any r _).mono ?_
        rintro e w4 ⟨b, rfl, hrf, hb4⟩
        have R4 := Lib.hid ((hb4.block (w.heap.size + 1) (by have := HZ2.out; omega)).trans R2.out)
        have G4 := Lib.hid ((hb4.block g (by have := HZ2.out; have := HGL.out; omega)).trans G2.out)
        have HB4 := Lib.hid (HB2.out.go HGL.out hb4)
        have HC4 := Lib.hid (HC2.out.trans (hb4.mono HC2.out.size))
        clear hb4 x0 x1 y0 y1 y2 g0 g1 gf0 gf1
        obtain ⟨y0, y1, y2⟩ := cells3 R4.out
        obtain ⟨g0, g1, gf0, gf1⟩ := cells2 G4.out
        cases b with
        | false =>
          have HE := Lib.hid (HARG.out (fun q => by cases hrf.2 q.2))
          clear hrf
          go_wp2
          go_ret
          exact stepP_bad HE.out (by decide) HB4.out
        | true =>
          have HRF := Lib.hid (hrf.1 rfl)
          clear hrf
          have HOO := Lib.hid (And.intro HOK.out HRF.out)
          by_cases k2 : r.kind = 2
          · rcases strs_cases HS.out with ⟨a, cap, rfl, rfl⟩ | ⟨bb, off, cap, s, l, rfl, rfl, hlc, hcm, hlt, hc, hsl, htl⟩
            · have HE := Lib.hid (HTR.out HOO.out ⟨k2, by simp⟩)
              go_wp2
              go_quiet (fail)
              go_wp2
              go_ret
              exact stepP_bad HE.out (by decide) (HB4.out.drewN _)
            · have hc4 := (HC4.out.cell (p := ⟨bb, off, none⟩) hlt).trans hc
              have HTL := Lib.hid htl
              have HLT := Lib.hid hlt
              clear htl hc hlt
              have HBD : Hid (∀ n, FarG g w (w4.drewN n)) := Lib.hid (fun n => HB4.out.drewN n)
              have HGD : Hid (∀ n, (w4.drewN n).heap[g]? = _) := Lib.hid (fun n => G4.out)
              by_cases hst : s = r.text
              · have HE := Lib.hid (HOKE.out HOO.out (fun q => q.2 (by rw [List.head?_cons, hst])))
                have HR : Hid (stepR r (s :: l) = l) := Lib.hid (by unfold stepR; rw [if_pos k2]; rfl)
                subst hst
                by_cases hcap : cap = 1
                · rw [if_pos hcap] at HTL
                  subst hcap
                  obtain rfl : l = [] := List.eq_nil_of_length_eq_zero (by omega)
                  go_wp2
                  go_quiet (fail)
                  go_wp2
                  go_ret
                  exact stepP_ok HE.out (((HBD.out _).setCell _ _).setCell _ _) (vs := .slice (some ⟨bb, off, none⟩) 0 0) (by rw [k2]; exact set0 (set1 (HGD.out _))) (by rw [HR.out]; exact HTL.out)
                · rw [if_neg hcap] at HTL
                  go_wp2
                  go_quiet (fail)
                  go_wp2
                  go_ret
                  exact stepP_ok HE.out (((HBD.out _).setCell _ _).setCell _ _) (vs := .slice (some ⟨bb, off + 1, none⟩) l.length (cap - 1)) (by rw [k2]; exact set0 (set1 (HGD.out _))) (by rw [HR.out]; exact HTL.out)
              · have HE := Lib.hid (HTR.out HOO.out ⟨k2, fun q => hst (by simpa using q)⟩)
                have hsn := str_ne hst
                have hsl0 : ((l.length : Int) + 1 == 0) = false := beq_eq_false_iff_ne.2 (by omega)
                clear hst
                go_wp2
                go_quiet (fail)
                go_wp2
                go_ret
                exact stepP_bad HE.out (by decide) (HB4.out.drewN _)
          · have HE := Lib.hid (HOKE.out HOO.out (fun q => k2 q.1))
            have e2 : (r.kind == 2) = false := beq_eq_false_iff_ne.2 k2
            have HR : Hid (stepR r rest = rest) := Lib.hid (by unfold stepR; rw [if_neg k2])
            clear k2
            go_wp2
            go_ret
            exact stepP_ok HE.out (HB4.out.setCell _ _) (set0 G4.out) (by rw [HR.out]; exact HS.out)
  · have HE := Lib.hid (stepE_frm (wi := wi) (r := r) (rest := rest) okf)
    go_enter Try.func48, Try.ntmps48
    go_wp2_with fail
    refine (frameFits_any f _).mono ?_
    rintro e w2 ⟨t, rfl, ht, hb2⟩
    cases t with
    | true => exact absurd (ht.1 rfl) okf
    | false =>
      have HB2 := Lib.hid (HB1.out.go HGL.out hb2)
      clear ht hb2 okf
      go_wp2
      go_ret
      exact stepP_bad HE.out (by decide) HB2.out
end Jf
end Go.Proofs.Ytdakkjpejhlciaa
namespace Go.Proofs.Ytdakkjpejhlciaa
open Go.ChangeShapes Go.WideShapes Go.ChangeAt Go.RowKit
set_option linter.unusedVariables false
set_option maxRecDepth 100000
namespace Jf
theorem below_setRow {B : Nat} {a w : World} (h : Below B a w) {g : Nat} (hg : B ≤ g) (cs : Array Value) : Below B a (w.setRow g cs) :=
  h.trans ⟨rfl, rfl, rfl, by simp, fun k hk => setRow_other w g k cs (by omega)⟩
theorem rows_open {α : Type} {sz : Nat} {C : α → List Value} {w : World} {a : Option Addr} {cap : Nat} {xs : List α} {k : Nat} (hk : k < xs.length)
    (h4 : (a = none ∧ cap = 0 ∧ xs = []) ∨ ∃ b off sp, a = some ⟨b, off, sp⟩ ∧ (xs = [] ∨ (sp = none ∧ b < w.heap.size ∧ ∀ i x, xs[i]? = some x → ∀ j u, (C x)[j]? = some u → w.cell? ⟨b, off + (i * sz + j), none⟩ = some u))) :
    ∃ b off, a = some ⟨b, off, none⟩ ∧ b < w.heap.size ∧ ∀ i x, xs[i]? = some x → ∀ j u, (C x)[j]? = some u → w.cell? ⟨b, off + (i * sz + j), none⟩ = some u := by
  rcases h4 with ⟨_, _, rfl⟩ | ⟨b, off, sp, rfl, rfl | ⟨rfl, hlt, hc⟩⟩
  · simp at hk
  · simp at hk
  · exact ⟨b, off, rfl, hlt, hc⟩
theorem rgetD {α : Type} {l : List α} {k : Nat} (h : k < l.length) : l[k]? = some l[k] := List.getElem?_eq_getElem h
def GivesF (p : Int × Int) (w : World) (e : Ending) (w' : World) : Prop := ∃ i n, e = .returned (.tuple #[.int .i64 i, .int .i64 n]) ∧ (i, n) = p ∧ Below w.heap.size w w'
set_option maxHeartbeats 16000000 in
theorem fits_any (sent : List Frm) (served : List ByteArray) (told : List Rep) (v0 v1 v2 : Value) (w : World) (h0 : IsFrms w v0 sent) (h1 : IsStrs w v1 served) (h2 : IsReps w v2 told) :
    Calls Try.prog 32 #[v0, v1, v2] w (GivesF (fitK sent told 0 false served) w) := by
  obtain ⟨a0, c0, rfl, hl0, hm0, hr0⟩ := h0.1
  obtain ⟨a2, c2, rfl, hl2, hm2, hr2⟩ := h2.1
  obtain ⟨a1, cc1, rfl, -⟩ := id h1.1
  unfold maxLen at hm0 hm2
  have hst : (w.alloc (.cells #[.bool false, .slice none 0 0] 82)).heap[w.heap.size]? = some (.cells #[.bool false, .slice none 0 0] 82 (0, 0)) := heap_alloc_new _ _
  have hb1 : Below w.heap.size w ((w.alloc (.cells #[.bool false, .slice none 0 0] 82)).setRow w.heap.size #[.bool false, .slice a1 served.length cc1]) := below_setRow ((Below.refl _ _).alloc (Nat.le_refl _) _) (Nat.le_refl _) _
  have G1 := Lib.hid (setRow_heap (w.alloc (.cells #[.bool false, .slice none 0 0] 82)) w.heap.size _ #[.bool false, .slice a1 served.length cc1] _ _ hst)
  have HB1 := Lib.hid hb1
  have HS := Lib.hid h1
  have HR0 := Lib.hid hr0
  have HR2 := Lib.hid hr2
  clear h0 h1 h2 hr0 hr2 hb1
  generalize hW1 : (w.alloc (.cells #[.bool false, .slice none 0 0] 82)).setRow w.heap.size #[.bool false, .slice a1 served.length cc1] = W1 at HB1 G1
  go_enter Try.func32, Try.ntmps32
  go_wp2_with (refine wpList_store_row rfl 82 (.tmp 8) (.tmp 13) rfl w.heap.size #[.bool false, .slice a1 served.length cc1] rfl rfl 82 _ hst (by kernel_rfl) rfl (by simp [Value.oneCell']) ?_; rw [hW1]; clear hW1 hst)
  go_loopw [16] (fun i wr => ∃ (k : Nat) (wi : Bool) (vs : Value) (rest : List ByteArray), k ≤ told.length ∧ i = .int .i64 k ∧ wr.heap[w.heap.size]? = some (.cells #[.bool wi, vs] 82 (0, 0)) ∧ IsStrs w vs rest ∧ Hid (fitK sent told 0 false served = fitK sent told k wi rest) ∧ Below w.heap.size w wr) (fun i _ => told.length - (intOf i).toNat)
  case atStart => exact ⟨0, false, _, served, Nat.zero_le _, rfl, G1.out, HS.out, Lib.hid rfl, HB1.out⟩
  case round =>
    obtain ⟨k, wi, vs, rest, hk, rfl, hg, hsr, HF, hb⟩ := hrel
    have HG := Lib.hid hg
    have HSR := Lib.hid hsr
    have HB := Lib.hid hb
    clear hg hsr hb
    by_cases hlt : k < told.length
    · obtain ⟨b, off, rfl, hbl, hc⟩ := rows_open hlt HR2.out
      have hce := fun j u hu => (HB.out.cell (p := ⟨b, off + (k * 3 + j), none⟩) hbl).trans (hc k _ (rgetD hlt) j u hu)
      have HEND : Hid (sent.length ≤ k → fitK sent told k wi rest = ((k : Int), 6)) := Lib.hid (fun h => fitK_many hlt h)
      have HBAD : Hid (∀ h2 : k < sent.length, stepE wi sent[k] told[k] rest ≠ 0 → fitK sent told k wi rest = ((k : Int), stepE wi sent[k] told[k] rest)) := Lib.hid (fun h2 h3 => fitK_bad hlt h2 h3)
      have HGO : Hid (∀ h2 : k < sent.length, stepE wi sent[k] told[k] rest = 0 → fitK sent told k wi rest = fitK sent told (k + 1) (nxW wi told[k].kind) (stepR told[k] rest)) := Lib.hid (fun h2 h3 => fitK_go hlt h2 h3)
      clear hc
      generalize told[k] = r at *
      obtain ⟨x0, x1, x2⟩ := rep_cells hce
      have hkz : (k : Int) < (told.length : Int) := by omega
      clear hce
      by_cases hk2 : k < sent.length
      · obtain ⟨b0, off0, rfl, hbl0, hc0⟩ := rows_open hk2 HR0.out
        have hcf := fun j u hu => (HB.out.cell (p := ⟨b0, off0 + (k * 2 + j), none⟩) hbl0).trans (hc0 k _ (rgetD hk2) j u hu)
        have HBAD2 := Lib.hid (HBAD.out hk2)
        have HGO2 := Lib.hid (HGO.out hk2)
        clear hc0 HBAD HGO HEND
        generalize sent[k] = f at *
        obtain ⟨y0, y1⟩ := frm_cells hcf
        have hkz0 : (k : Int) < (sent.length : Int) := by omega
        clear hcf
        have hb4 : Below wr.heap.size wr (wr.alloc (.cells (rArr r) 34)).drew := ((Below.refl _ _).alloc (Nat.le_refl _) _).drew
        have HB4 := Lib.hid (HB.out.trans (hb4.mono HB.out.size))
        have hgl4 := (Array.getElem?_eq_some_iff.1 HG.out).1
        have HG4 := Lib.hid ((hb4.block w.heap.size hgl4).trans HG.out)
        have hbl0' : b0 < wr.heap.size := Nat.lt_of_lt_of_le hbl0 HB.out.size
        have hq0 := (hb4.cell (p := ⟨b0, off0 + k * 2, none⟩) hbl0').trans y0
        have hq1 := (hb4.cell (p := ⟨b0, off0 + k * 2 + 1, none⟩) hbl0').trans y1
        have hsz4 : (wr.alloc (.cells (rArr r) 34)).drew.heap.size = wr.heap.size + 1 := by show (wr.alloc _).heap.size = _; simp
        have HC4 : Hid (∀ w', FarG w.heap.size (wr.alloc (.cells (rArr r) 34)).drew w' → w'.cell? ⟨wr.heap.size, 0, none⟩ = some (.int .i64 r.kind) ∧ w'.cell? ⟨wr.heap.size, 1, none⟩ = some (.int .i64 r.node) ∧ w'.cell? ⟨wr.heap.size, 2, none⟩ = some (.string r.text) ∧ w'.cell? ⟨b0, off0 + k * 2, none⟩ = some (.int .u8 f.kind) ∧ w'.cell? ⟨b0, off0 + k * 2 + 1, none⟩ = some (.string f.text)) := Lib.hid (fun w' hb' => by
          obtain ⟨p0, p1, p2⟩ := cells3 ((hb'.2 wr.heap.size (by omega) (by omega)).trans (heap_alloc_new _ _))
          exact ⟨p0, p1, p2, (hb'.1.cell (p := ⟨b0, off0 + k * 2, none⟩) hbl0).trans hq0, (hb'.1.cell (p := ⟨b0, off0 + k * 2 + 1, none⟩) hbl0).trans hq1⟩)
        have HGL4 : Hid (w.heap.size < (wr.alloc (.cells (rArr r) 34)).drew.heap.size) := Lib.hid (by omega)
        clear hb4 hgl4 hbl0' hq0 hq1 hsz4
        go_wp2_with fail
        go_region_held (fun w' => w'.cell? ⟨wr.heap.size, 0, none⟩ = some (.int .i64 r.kind) ∧ w'.cell? ⟨wr.heap.size, 1, none⟩ = some (.int .i64 r.node) ∧ w'.cell? ⟨wr.heap.size, 2, none⟩ = some (.string r.text) ∧ w'.cell? ⟨b0, off0 + k * 2, none⟩ = some (.int .u8 f.kind) ∧ w'.cell? ⟨b0, off0 + k * 2 + 1, none⟩ = some (.string f.text)) (first | exact HC4.out _ HF5.out | exact HC4.out _ (FarG.of_below (Below.refl _ _) HGL4.out)) ((go_at_call 48; refine (step_any w wi f r rest vs w.heap.size _ (by exact HG4.out) HSR.out (by exact HB4.out) (Nat.le_refl _)).mono ?_; rintro e w5 ⟨rfl, hb5, hg5⟩; have HF5 := Lib.hid hb5; have HG5 := Lib.hid hg5; clear hb5 hg5))
        have HB5 := Lib.hid (HB4.out.trans HF5.out.1)
        by_cases hE : stepE wi f r rest = 0
        · obtain ⟨vs', hg', hs'⟩ := HG5.out hE
          have HFN : Hid (fitK sent told 0 false served = fitK sent told (k + 1) (nxW wi r.kind) (stepR r rest)) := Lib.hid (HF.out.trans (HGO2.out hE))
          have HGN := Lib.hid hg'
          have HSN := Lib.hid hs'
          rw [hE]
          clear hg' hs' hE
          go_wp2
          go_roundw
          case rel => exact ⟨k + 1, nxW wi r.kind, vs', stepR r rest, by omega, by go_num, HGN.out, HSN.out, Lib.hid HFN.out, HB5.out⟩
          case measure => simp [intOf]; omega
        · have HFN : Hid (((k : Int), stepE wi f r rest) = fitK sent told 0 false served) := Lib.hid (HF.out.trans (HBAD2.out hE)).symm
          have hne : (stepE wi f r rest != 0) = true := by simpa using hE
          clear hE
          go_wp2
          go_ret2
          exact ⟨_, _, rfl, HFN.out, HB5.out⟩
      · have HFN : Hid (((k : Int), (6 : Int)) = fitK sent told 0 false served) := Lib.hid (HF.out.trans (HEND.out (by omega))).symm
        have hge : (sent.length : Int) ≤ (k : Int) := by omega
        go_wp2
        go_ret2
        exact ⟨_, _, rfl, HFN.out, HB.out.alloc HB.out.size _⟩
    · obtain rfl : k = told.length := by omega
      have HE : Hid (((-1 : Int), (0 : Int)) = fitK sent told 0 false served) := Lib.hid (by rw [HF.out, fitK_end])
      go_wp2
      go_ret2
      exact ⟨_, _, rfl, HE.out, HB.out⟩
end Jf
end Go.Proofs.Ytdakkjpejhlciaa
namespace Go.Proofs.Ytdakkjpejhlciaa
open Go.ChangeShapes Go.WideShapes Go.ChangeAt Go.RowKit
set_option linter.unusedVariables false
set_option maxRecDepth 100000
namespace Jf
theorem tail_drop {α : Type} (l : List α) (m : Nat) : (l.drop m).tail = l.drop (m + 1) := by rw [List.tail_drop]
end Jf
end Go.Proofs.Ytdakkjpejhlciaa
namespace Go.Proofs.Ytdakkjpejhlciaa
open Go.ChangeShapes Go.WideShapes Go.ChangeAt Go.RowKit
set_option linter.unusedVariables false
set_option maxRecDepth 100000
theorem SlR.lit {α : Type} {sz : Nat} {C : α → List Value} (hC : ∀ x, (C x).length = sz) {e : TypeId} (w : World) (g : Nat) (hg : w.heap.size = g) (cs : Array Value) (xs : List α) (n : Nat) (hn : n = xs.length) (h : cs = (xs.flatMap C).toArray) (hm : n ≤ maxLen) :
    SlR sz C (w.alloc (.cells cs e)) (.slice (some ⟨g, 0, none⟩) n n) xs := by
  subst hg; subst hn; subst h
  have h := World.ownsRow_lit (e := e) (size := sz) w (xs.flatMap C).toArray xs.length (Nat.le_refl _) hm (by simpa using flat_len hC xs)
  exact OwnR.sl hC (e := e) (B := w.heap.size) (by simpa [OwnR] using h)
end Go.Proofs.Ytdakkjpejhlciaa
namespace Go.Proofs.Ytdakkjpejhlciaa
open Go.ChangeShapes Go.WideShapes Go.ChangeAt Go.RowKit
set_option linter.unusedVariables false
set_option maxRecDepth 100000
namespace Jf
abbrev exF : List Frm := [⟨66, ⟨#[]⟩⟩, ⟨81, ⟨#[120]⟩⟩]
abbrev exS : List ByteArray := [⟨#[121]⟩]
abbrev exR (c : UInt8) : List Rep := [⟨1, 0, ⟨#[]⟩⟩, ⟨2, 0, ⟨#[c]⟩⟩]
theorem ex_frms (w : World) (g : Nat) (hg : w.heap.size = g) : IsFrms (w.alloc (.cells #[.int .u8 66, .string ⟨#[]⟩, .int .u8 81, .string ⟨#[120]⟩] 57)) (.slice (some ⟨g, 0, none⟩) 2 2) exF :=
  ⟨SlR.lit frmC_len w g hg _ exF 2 rfl rfl (by decide), by
    intro x hx
    simp only [exF, List.mem_cons, List.not_mem_nil, or_false] at hx
    rcases hx with rfl | rfl <;> exact ⟨by decide, by decide⟩⟩
theorem ex_strs (w : World) (g : Nat) (hg : w.heap.size = g) : IsStrs (w.alloc (.cells #[.string ⟨#[121]⟩] 9)) (.slice (some ⟨g, 0, none⟩) 1 1) exS :=
  ⟨SlR.lit strC_len w g hg _ exS 1 rfl rfl (by decide), by
    intro x hx
    simp only [exS, List.mem_cons, List.not_mem_nil, or_false] at hx
    rcases hx with rfl; decide⟩
theorem ex_reps (c : UInt8) (w : World) (g : Nat) (hg : w.heap.size = g) : IsReps (w.alloc (.cells #[.int .i64 1, .int .i64 0, .string ⟨#[]⟩, .int .i64 2, .int .i64 0, .string ⟨#[c]⟩] 34)) (.slice (some ⟨g, 0, none⟩) 2 2) (exR c) :=
  ⟨SlR.lit repC_len w g hg _ (exR c) 2 rfl rfl (by decide), by
    intro x hx
    simp only [exR, List.mem_cons, List.not_mem_nil, or_false] at hx
    rcases hx with rfl | rfl
    · exact ⟨by decide, by decide, by decide⟩
    · exact ⟨by show (Lit.int .i64 2).wf = true; decide, by show (Lit.int .i64 0).wf = true; decide, by show 1 ≤ maxLen; decide⟩⟩
theorem ex_step0 (c : UInt8) : stepE false ⟨66, ⟨#[]⟩⟩ ⟨1, 0, ⟨#[]⟩⟩ exS = 0 :=
  stepE_ok (.inl ⟨.inl rfl, rfl⟩) ⟨.inl ⟨rfl, .inl rfl⟩, ⟨fun _ => rfl, .inr ⟨by show (1 : Int) ≠ 5; decide, rfl⟩⟩⟩ (fun q => by have := q.1; revert this; show (1 : Int) = 2 → False; decide)
theorem ex_ok1 (c : UInt8) : okW true 81 2 ∧ repFits ⟨2, 0, ⟨#[c]⟩⟩ := ⟨.inr (.inl ⟨rfl, .inl rfl⟩), ⟨fun q => absurd rfl q, .inr ⟨by show (2 : Int) ≠ 5; decide, rfl⟩⟩⟩
theorem ex_f1 : frmOk ⟨81, ⟨#[120]⟩⟩ := .inr ⟨rfl, by decide⟩
theorem ex_y : fitK exF (exR 121) 0 false exS = (-1, 0) := by
  unfold fitK
  show fitV (⟨66, ⟨#[]⟩⟩ :: _) (⟨1, 0, ⟨#[]⟩⟩ :: _) _ _ _ = _
  rw [fit_go (ex_step0 121)]
  show fitV (⟨81, ⟨#[120]⟩⟩ :: _) (⟨2, 0, ⟨#[121]⟩⟩ :: _) _ true exS = _
  rw [fit_go (stepE_ok ex_f1 (ex_ok1 121) (fun q => q.2 rfl))]
  exact fit_end
theorem ex_z : fitK exF (exR 122) 0 false exS = (1, 220) := by
  unfold fitK
  show fitV (⟨66, ⟨#[]⟩⟩ :: _) (⟨1, 0, ⟨#[]⟩⟩ :: _) _ _ _ = _
  rw [fit_go (ex_step0 122)]
  show fitV (⟨81, ⟨#[120]⟩⟩ :: _) (⟨2, 0, ⟨#[122]⟩⟩ :: _) _ true exS = _
  have h : stepE true ⟨81, ⟨#[120]⟩⟩ ⟨2, 0, ⟨#[122]⟩⟩ exS = 220 := stepE_trace ex_f1 (ex_ok1 122) ⟨rfl, by
    intro q
    have q2 := congrArg (fun o : Option ByteArray => o.map ByteArray.data) q
    simp [exS] at q2⟩
  rw [fit_bad (by rw [h]; decide), h]
  rfl
set_option maxHeartbeats 4000000 in
theorem lfits_any (w : World) : Calls Try.prog 31 #[] w fun e w' => e = .returned (.bool true) ∧ Below w.heap.size w w' := by
  have HF := Lib.hid (fun w => ex_frms w w.heap.size rfl)
  have HS := Lib.hid (fun w => ex_strs w w.heap.size rfl)
  have HR := Lib.hid (fun c w => ex_reps c w w.heap.size rfl)
  have EY := Lib.hid ex_y
  have EZ := Lib.hid ex_z
  have HA : Hid (∀ (w : World) (o : Obj), Below w.heap.size w (w.alloc o)) := Lib.hid (fun w o => (Below.refl _ _).alloc (Nat.le_refl _) _)
  go_enter Try.func31, Try.ntmps31
  go_wp2_with fail
  refine (fits_any exF exS (exR 121) _ _ _ _ (((ex_frms w _ rfl).below (HA.out _ _) (Nat.le_refl _)).below (HA.out _ _) (Nat.le_refl _)) ((ex_strs _ (w.heap.size + 1) (by simp)).below (HA.out _ _) (Nat.le_refl _)) (ex_reps 121 _ (w.heap.size + 2) (by simp))).mono ?_
  rintro e w4 ⟨i, n, rfl, hp, hb4⟩
  rw [EY.out] at hp
  obtain ⟨rfl, rfl⟩ := Prod.mk.inj hp
  have HB4 := Lib.hid ((((HA.out w _).trans ((HA.out _ _).mono (HA.out w _).size)).trans ((HA.out _ _).mono ((HA.out w _).trans ((HA.out _ _).mono (HA.out w _).size)).size)).trans (hb4.mono (by simp; omega)))
  have HF4 := Lib.hid ((((ex_frms w _ rfl).below (HA.out _ _) (Nat.le_refl _)).below (HA.out _ _) (Nat.le_refl _)).below hb4 (Nat.le_refl _))
  clear hb4 hp
  go_wp2_with fail
  refine (fits_any exF exS (exR 122) _ _ _ _ (((HF4.out).below (HA.out _ _) (Nat.le_refl _)).below (HA.out _ _) (Nat.le_refl _)) ((ex_strs _ w4.heap.size rfl).below (HA.out _ _) (Nat.le_refl _)) (ex_reps 122 _ (w4.heap.size + 1) (by simp))).mono ?_
  rintro e w6 ⟨i, n, rfl, hp, hb6⟩
  rw [EZ.out] at hp
  obtain ⟨rfl, rfl⟩ := Prod.mk.inj hp
  have HB6 := Lib.hid (HB4.out.trans (((HA.out _ _).trans ((HA.out _ _).mono (HA.out _ _).size)).trans (hb6.mono (by simp; omega)) |>.mono HB4.out.size))
  clear hb6 hp
  go_wp2
  go_ret
  exact ⟨rfl, HB6.out⟩
end Jf
end Go.Proofs.Ytdakkjpejhlciaa
