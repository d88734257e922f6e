/- Package disk: On, off, Arm, isName, find, Loose, New. No condition. -/
import Derived.Test.YtfaifdidillkaaaDkA
namespace Go.Proofs.Ytfaifdidillkaaa
open Go.ChangeShapes Go.WideShapes Go.ChangeAt Go.RowKit Go.Deep
set_option linter.unusedVariables false
set_option maxRecDepth 100000
set_option linter.unusedSimpArgs false
namespace Dk
variable {w w' : World} {S : Nat → Prop} {p m : Nat} {V : ByteArray → Value} {on : Bool} {left : Int} {F : List Fl} {n : Nat}
theorem on_any (w : World) (h : DkV w S p m V on left F) : Calls Try.prog 18 #[.pointer (some ⟨p, 0, none⟩)] w fun e w' => e = .returned (.bool on) ∧ w' = w := by
  have c1 := h.c1
  clear h
  go_enter Try.func18, Try.ntmps18
  go_wp2
  go_ret
  exact ⟨rfl, rfl⟩
set_option maxHeartbeats 4000000 in
theorem off_any (w : World) (h : DkV w S p m V on left F) : Calls Try.prog 33 #[.pointer (some ⟨p, 0, none⟩)] w fun e w' => e = .returned (.tuple #[]) ∧ DkV w' S p m V false (-1) F ∧ Only (fun k => k = p) w w' := by
  have h1 : DkV (w.setCell ⟨p, 1, none⟩ (.bool false)) S p m V false left F := h.turn (fun j hj => by unfold dkV; match j, hj with
    | 0, _ => rfl
    | 1, _ => rfl
    | 2, _ => rfl)
  have h2 : DkV ((w.setCell ⟨p, 1, none⟩ (.bool false)).setCell ⟨p, 2, none⟩ (.int .i64 (-1))) S p m V false (-1) F := h1.turn (fun j hj => by unfold dkV; match j, hj with
    | 0, _ => rfl
    | 1, _ => rfl
    | 2, _ => rfl)
  have H2 := Lib.hid h2
  have HO : Hid (Only (fun k => k = p) w ((w.setCell ⟨p, 1, none⟩ (.bool false)).setCell ⟨p, 2, none⟩ (.int .i64 (-1)))) := Lib.hid (Only.trans (Only.setCell w ⟨p, 1, none⟩ _ rfl) (Only.setCell _ ⟨p, 2, none⟩ _ rfl))
  have c1 := h.c1
  have c2 := h1.c2
  have z1 := h.z 1
  have z2 := h1.z 2
  clear h h1 h2
  go_enter Try.func33, Try.ntmps33
  go_wp2
  go_end0
  exact ⟨rfl, H2.out, HO.out⟩
def armZ (on : Bool) (left n : Int) : Int := if on = true then max n (-1) else left
set_option maxHeartbeats 4000000 in
theorem arm_any (n : Int) (w : World) (h : DkV w S p m V on left F) : Calls Try.prog 16 #[.pointer (some ⟨p, 0, none⟩), .int .i64 n] w fun e w' => e = .returned (.tuple #[]) ∧ DkV w' S p m V on (armZ on left n) F ∧ Only (fun k => k = p) w w' := by
  have H := Lib.hid h
  cases on
  · go_enter Try.func16, Try.ntmps16
    clear h
    go_wp2_with fail
    refine (on_any w H.out).mono ?_
    rintro e w2 ⟨rfl, rfl⟩
    go_wp2_with fail
    go_end0
    exact ⟨rfl, H.out, Only.refl _ _⟩
  · obtain ⟨z, hz⟩ : ∃ z, armZ true left n = z := ⟨_, rfl⟩
    have h2 : DkV (w.setCell ⟨p, 2, none⟩ (.int .i64 z)) S p m V true z F := h.turn (fun j hj => by unfold dkV; match j, hj with
      | 0, _ => rfl
      | 1, _ => rfl
      | 2, _ => rfl)
    have H2 := Lib.hid h2
    have HO : Hid (Only (fun k => k = p) w (w.setCell ⟨p, 2, none⟩ (.int .i64 z))) := Lib.hid (Only.setCell w _ _ rfl)
    have c2 := h.c2
    have z2 := h.z 2
    have HZ := Lib.hid hz
    clear h h2 hz
    by_cases hn : -1 ≤ n
    · obtain rfl : z = n := by have := HZ.out; unfold armZ at this; rw [if_pos rfl] at this; omega
      go_enter Try.func16, Try.ntmps16
      go_wp2_with fail
      refine (on_any w H.out).mono ?_
      rintro e w2 ⟨rfl, rfl⟩
      go_wp2_with fail
      go_end0
      exact ⟨rfl, by rw [HZ.out]; exact H2.out, HO.out⟩
    · obtain rfl : z = -1 := by have := HZ.out; unfold armZ at this; rw [if_pos rfl] at this; omega
      go_enter Try.func16, Try.ntmps16
      go_wp2_with fail
      refine (on_any w H.out).mono ?_
      rintro e w2 ⟨rfl, rfl⟩
      go_wp2_with fail
      go_end0
      exact ⟨rfl, by rw [HZ.out]; exact H2.out, HO.out⟩
/-! ### names -/
theorem name_any (s : ByteArray) (w : World) (hs : s.size ≤ maxLen) : Calls Try.prog 35 #[.string s] w fun e w' => e = .returned (.bool (nameB s)) ∧ w' = w := by
  unfold maxLen at hs
  by_cases h0 : s.size = 0
  · have hi : ((s.size : Int) == 0) = true := by simp [h0]
    have hi2 : (s.size == 0) = true := by simp [h0]
    have hn : Hid (nameB s = false) := Lib.hid (by unfold nameB; simp [h0])
    go_enter Try.func35, Try.ntmps35
    go_wp2
    go_ret
    exact ⟨by rw [hn.out]; rfl, rfl⟩
  have hi : ((s.size : Int) == 0) = false := by simp [h0]
  have hi2 : (s.size == 0) = false := by simp [h0]
  by_cases h1 : 12 < s.size
  · have d1 : decide ((12 : Int) < (s.size : Int)) = true := decide_eq_true (by omega)
    have d2 : decide (12 < s.size) = true := decide_eq_true h1
    have hn : Hid (nameB s = false) := Lib.hid (by unfold nameB; rw [decide_eq_false (show ¬ s.size ≤ 12 by omega)]; simp)
    go_enter Try.func35, Try.ntmps35
    go_wp2
    go_ret
    exact ⟨by rw [hn.out]; rfl, rfl⟩
  have d1 : decide ((12 : Int) < (s.size : Int)) = false := decide_eq_false (by omega)
  have d2 : decide (12 < s.size) = false := decide_eq_false h1
  go_enter Try.func35, Try.ntmps35
  go_wp2
  go_loop [15] (fun i => ∃ k : Nat, k ≤ s.size ∧ i = .int .i64 (k : Int) ∧ Hid ((s.data.toList.take k).all okc = true)) (fun i => s.size - (intOf i).toNat)
  case atStart => exact ⟨0, Nat.zero_le _, rfl, Lib.hid rfl⟩
  case round =>
    obtain ⟨k, hk, rfl, HA⟩ := hrel
    by_cases hlt : k < s.size
    · have hlti : (k : Int) < (s.size : Int) := by omega
      have ht : (s.data.toList.take (k + 1)).all okc = ((s.data.toList.take k).all okc && okc s[k]) := by
        rw [List.take_add_one, List.getElem?_eq_getElem (by simpa using hlt), List.all_append]
        simp
        rfl
      have HT := Lib.hid ht
      have HF : Hid (okc s[k] = false → nameB s = false) := Lib.hid (fun q => by
        unfold nameB
        have : s.data.toList.all okc = false := List.all_eq_false.2 ⟨s[k], by rw [Array.mem_toList_iff]; exact Array.getElem_mem hlt, by rw [q]; decide⟩
        rw [this, Bool.and_false])
      clear ht
      go_wp2
      all_goals (try simp only [Bool.not_eq_true', Bool.not_eq_false', Bool.not_eq_eq_eq_not, Bool.not_true, Bool.not_false, decide_eq_true_eq, decide_eq_false_iff_not] at *)
      all_goals first
        | (go_round
           case rel => exact ⟨k + 1, by omega, by go_num, Lib.hid (by rw [HT.out, HA.out]; simp only [okc, Bool.true_and, Bool.or_eq_true, Bool.and_eq_true, decide_eq_true_eq]; omega)⟩
           case measure => simp [intOf]; omega)
        | (go_ret
           exact ⟨by rw [HF.out (by simp only [okc, Bool.or_eq_false_iff, Bool.and_eq_false_iff, decide_eq_false_iff_not]; omega)]; rfl, rfl⟩)
    · obtain rfl : k = s.size := by omega
      have hn : Hid (nameB s = true) := Lib.hid (by
        unfold nameB
        have := HA.out
        rw [List.take_of_length_le (by simp)] at this
        rw [this, decide_eq_true (show 1 ≤ s.size by omega), decide_eq_true (show s.size ≤ 12 by omega)]; rfl)
      go_wp2
      go_ret
      exact ⟨by rw [hn.out]; rfl, rfl⟩
/-! ### find, Loose -/
def findE (on : Bool) (F : List Fl) (x : ByteArray) : Int := if on = false then 7 else if (fndL F x).isSome then 0 else 4
def zFl : Value := .agg #[.slice none 0 0, .int .i64 0]
def findV (V : ByteArray → Value) (on : Bool) (F : List Fl) (x : ByteArray) : Value := if on = false then zFl else (fV V F x).getD zFl
theorem results_cell2 {P : Program} {fn : Func} {p a : Tmp} {ty : TypeId} (h : fn.results = #[.cell p ty, .tmp a]) (tmps : Array Value) (w : World) (g : Nat) (t : TypeId) (cs : Array Value) (fr : Nat × Nat) (d : TypeDesc)
    (hp : tmps.getD p undef = .pointer (some ⟨g, 0, none⟩)) (hg : w.heap[g]? = some (.cells cs t fr))
    (hu : P.underlying ty = some d) (hd : (match d with | .struct _ | .array _ _ => true | _ => false) = true) (hi : (P.info? ty).map (·.size) = some cs.size) {x : Value} (hx : tmps.getD a undef = x) :
    (results fn tmps).run P w = .ok (.tuple #[.agg cs, x]) w := by
  subst hx
  have hp' : tmps[p]?.getD undef = .pointer (some ⟨g, 0, none⟩) := by simpa using hp
  simp [results, h, hp', asAddr, run_loadVar_row w g t ty cs fr d hg hu hd hi]
theorem two_set {w : World} {g : Nat} {x y : Value} {t : TypeId} (h : w.heap[g]? = some (.cells #[x, y] t (0, 0))) (a b : Value) : ((w.setCell ⟨g, 0, none⟩ a).setCell ⟨g, 1, none⟩ b).heap[g]? = some (.cells #[a, b] t (0, 0)) :=
  (heap_setCell_same _ g 1 _ _ b (heap_setCell_same w g 0 _ _ a h)).trans rfl
theorem below_two {w w' : World} {g : Nat} (h : Below w.heap.size w w') (hg : w.heap.size ≤ g) (a b : Value) : Below w.heap.size w ((w'.setCell ⟨g, 0, none⟩ a).setCell ⟨g, 1, none⟩ b) := below_cell (below_cell h hg a) hg b
/-- what is found at a name, told by cases -/
theorem DkV.found (h : DkV w S p m V on left F) (x : ByteArray) (hx : x.size ≤ maxLen) : (fndL F x = none ∧ ∀ c, (Instr.lookup mF (.map (some m)) (.string x) c).run Try.prog w = .ok (if c then .tuple #[.agg #[.slice none 0 0, .int .i64 0], .bool false] else .agg #[.slice none 0 0, .int .i64 0]) w) ∨
    ∃ f a c0, f ∈ F ∧ f.name = x ∧ fndL F x = some f ∧ V x = .slice a f.zs.length c0 ∧ ∀ c, (Instr.lookup mF (.map (some m)) (.string x) c).run Try.prog w = .ok (if c then .tuple #[.agg #[.slice a f.zs.length c0, .int .i64 f.safe], .bool true] else .agg #[.slice a f.zs.length c0, .int .i64 f.safe]) w := by
  rcases fnd_cases (F := F) x with ⟨h1, -⟩ | ⟨f, hf, hn, h1⟩
  · refine .inl ⟨h1, fun c => ?_⟩
    have := h.look x hx c
    unfold fV at this
    rw [h1] at this
    exact this
  · obtain ⟨a, c0, hv⟩ := own_slice (h.rows.own f hf)
    rw [hn] at hv
    refine .inr ⟨f, a, c0, hf, hn, h1, hv, fun c => ?_⟩
    have := h.look x hx c
    unfold fV flV at this
    rw [h1] at this
    simp only [Option.map_some, Option.getD_some, Option.isSome_some, hv] at this
    exact this
set_option maxHeartbeats 4000000 in
theorem find_any (x : ByteArray) (w : World) (h : DkV w S p m V on left F) (hx : x.size ≤ maxLen) : Calls Try.prog 31 #[.pointer (some ⟨p, 0, none⟩), .string x] w fun e w' => e = .returned (.tuple #[findV V on F x, .int .i64 (findE on F x)]) ∧ Below w.heap.size w w' := by
  have H := Lib.hid h
  have HX := Lib.hid hx
  clear h hx
  obtain ⟨W1, hW1⟩ : ∃ q, w.alloc (.cells #[.slice none 0 0, .int .i64 0] TF) = q := ⟨_, rfl⟩
  obtain ⟨g, hg⟩ : ∃ q, w.heap.size = q := ⟨_, rfl⟩
  have hb1 : Below w.heap.size w W1 := by rw [← hW1]; exact (Below.refl _ _).alloc (Nat.le_refl _) _
  have hg1 : W1.heap[g]? = some (.cells #[.slice none 0 0, .int .i64 0] TF (0, 0)) := by rw [← hW1, ← hg]; exact heap_alloc_new _ _
  have H1 := Lib.hid (H.out.below hb1)
  have HB1 := Lib.hid hb1
  have HG1 := Lib.hid hg1
  have HLG : Hid (w.heap.size ≤ g) := Lib.hid (by rw [hg]; exact Nat.le_refl _)
  clear hb1 hg1
  go_enter Try.func31, Try.ntmps31
  go_wp2_with fail
  clear hW1 hg
  refine (on_any _ H1.out).mono ?_
  rintro e w2 ⟨rfl, rfl⟩
  cases on
  · have k0 : w2.cell? ⟨g, 0, none⟩ = some (.slice none 0 0) := (cell_of_row _ _ 0 _ _ _ HG1.out).trans rfl
    have k1 : w2.cell? ⟨g, 1, none⟩ = some (.int .i64 0) := (cell_of_row _ _ 1 _ _ _ HG1.out).trans rfl
    have kz0 : w2.frozen? ⟨g, 0, none⟩ = false := frozen_of_row _ _ _ _ _ HG1.out
    have kz1 : w2.frozen? ⟨g, 1, none⟩ = false := frozen_of_row _ _ _ _ _ HG1.out
    go_wp2_with fail
    exact bodyPost_ret (v := .tuple #[.agg #[.slice none 0 0, .int .i64 0], .int .i64 7]) (results_cell2 rfl _ _ g TF _ (0, 0) _ rfl (two_set HG1.out _ _) Try.underlying63 rfl (by kernel_rfl) rfl) rfl ⟨rfl, below_two HB1.out HLG.out _ _⟩
  · have c0 := H1.out.c0
    rcases H1.out.found x HX.out with ⟨hf, hlk⟩ | ⟨f, a, cc, hf, hn, hfd, hv, hlk⟩
    · have hl := hlk true
      rw [if_pos rfl] at hl
      have HF := Lib.hid hf
      clear hlk hf
      obtain ⟨W3, hW3⟩ : ∃ q, w2.alloc (.cells #[.slice none 0 0, .int .i64 0] TF) = q := ⟨_, rfl⟩
      obtain ⟨g3, hg3⟩ : ∃ q, w2.heap.size = q := ⟨_, rfl⟩
      have hgb : W3.heap[g3]? = some (.cells #[.slice none 0 0, .int .i64 0] TF (0, 0)) := by rw [← hW3, ← hg3]; exact heap_alloc_new _ _
      have kz30 : W3.frozen? ⟨g3, 0, none⟩ = false := frozen_of_row _ _ _ _ _ hgb
      have kz31 : W3.frozen? ⟨g3, 1, none⟩ = false := frozen_of_row _ _ _ _ _ hgb
      have j0 : W3.cell? ⟨g3, 0, none⟩ = some (.slice none 0 0) := (cell_of_row _ _ 0 _ _ _ hgb).trans rfl
      have j1 : W3.cell? ⟨g3, 1, none⟩ = some (.int .i64 0) := (cell_of_row _ _ 1 _ _ _ hgb).trans rfl
      have hne : g ≠ g3 := by rw [← hg3]; exact Nat.ne_of_lt (row_lt HG1.out)
      have hb3 : Below w.heap.size w W3 := by rw [← hW3]; exact HB1.out.alloc HB1.out.size _
      have hga : W3.heap[g]? = some (.cells #[.slice none 0 0, .int .i64 0] TF (0, 0)) := by rw [← hW3]; exact (heap_alloc_old _ _ (row_lt HG1.out)).trans HG1.out
      obtain ⟨W4, hW4⟩ : ∃ q, (W3.setCell ⟨g3, 0, none⟩ (.slice none 0 0)).setCell ⟨g3, 1, none⟩ (.int .i64 0) = q := ⟨_, rfl⟩
      have HB3 : Hid (Below w.heap.size w W4) := Lib.hid (by rw [← hW4]; exact below_two hb3 (by rw [← hg3]; exact HB1.out.size) _ _)
      have hg4 : W4.heap[g]? = some (.cells #[.slice none 0 0, .int .i64 0] TF (0, 0)) := by rw [← hW4]; exact (heap_setCell_other _ ⟨g3, 1, none⟩ g _ hne).trans ((heap_setCell_other _ ⟨g3, 0, none⟩ g _ hne).trans hga)
      have HG3 := Lib.hid hg4
      have k0 : W4.cell? ⟨g, 0, none⟩ = some (.slice none 0 0) := (cell_of_row _ _ 0 _ _ _ hg4).trans rfl
      have k1 : W4.cell? ⟨g, 1, none⟩ = some (.int .i64 0) := (cell_of_row _ _ 1 _ _ _ hg4).trans rfl
      have kz0 : W4.frozen? ⟨g, 0, none⟩ = false := frozen_of_row _ _ _ _ _ hg4
      have kz1 : W4.frozen? ⟨g, 1, none⟩ = false := frozen_of_row _ _ _ _ _ hg4
      clear hg4 hga hgb hb3 hne
      go_wp2_with fail
      exact bodyPost_ret (v := .tuple #[.agg #[.slice none 0 0, .int .i64 0], .int .i64 4]) (results_cell2 rfl _ _ g TF _ (0, 0) _ rfl (two_set HG3.out _ _) Try.underlying63 rfl (by kernel_rfl) rfl) rfl ⟨by unfold findV findE fV; rw [HF.out]; rfl, below_two HB3.out HLG.out _ _⟩
    · have hl := hlk true
      rw [if_pos rfl] at hl
      have HF := Lib.hid (And.intro hfd hv)
      clear hlk hf hn hfd hv
      obtain ⟨W3, hW3⟩ : ∃ q, w2.alloc (.cells #[.slice a f.zs.length cc, .int .i64 f.safe] TF) = q := ⟨_, rfl⟩
      obtain ⟨g3, hg3⟩ : ∃ q, w2.heap.size = q := ⟨_, rfl⟩
      have HB3 : Hid (Below w.heap.size w W3) := Lib.hid (by rw [← hW3]; exact HB1.out.alloc HB1.out.size _)
      have hga : W3.heap[g]? = some (.cells #[.slice none 0 0, .int .i64 0] TF (0, 0)) := by rw [← hW3]; exact (heap_alloc_old _ _ (row_lt HG1.out)).trans HG1.out
      have hgb : W3.heap[g3]? = some (.cells #[.slice a f.zs.length cc, .int .i64 f.safe] TF (0, 0)) := by rw [← hW3, ← hg3]; exact heap_alloc_new _ _
      have HG3 := Lib.hid hga
      have k0 : W3.cell? ⟨g, 0, none⟩ = some (.slice none 0 0) := (cell_of_row _ _ 0 _ _ _ hga).trans rfl
      have k1 : W3.cell? ⟨g, 1, none⟩ = some (.int .i64 0) := (cell_of_row _ _ 1 _ _ _ hga).trans rfl
      have kz0 : W3.frozen? ⟨g, 0, none⟩ = false := frozen_of_row _ _ _ _ _ hga
      have kz1 : W3.frozen? ⟨g, 1, none⟩ = false := frozen_of_row _ _ _ _ _ hga
      have j0 : W3.cell? ⟨g3, 0, none⟩ = some (.slice a f.zs.length cc) := (cell_of_row _ _ 0 _ _ _ hgb).trans rfl
      have j1 : W3.cell? ⟨g3, 1, none⟩ = some (.int .i64 f.safe) := (cell_of_row _ _ 1 _ _ _ hgb).trans rfl
      clear hga hgb
      go_wp2_with fail
      exact bodyPost_ret (v := .tuple #[.agg #[.slice a f.zs.length cc, .int .i64 f.safe], .int .i64 0]) (results_cell2 rfl _ _ g TF _ (0, 0) _ rfl (two_set HG3.out _ _) Try.underlying63 rfl (by kernel_rfl) rfl) rfl ⟨by unfold findV findE fV flV; rw [HF.out.1]; simp [HF.out.2], below_two HB3.out HLG.out _ _⟩
def looseL (F : List Fl) (x : ByteArray) : Int := match fndL F x with
  | some f => (f.zs.length : Int) - f.safe
  | none => 0
set_option maxHeartbeats 4000000 in
theorem loose_any (x : ByteArray) (w : World) (h : DkV w S p m V on left F) (hx : x.size ≤ maxLen) (hs : OkF n F) (hn : n ≤ 1000000000) : Calls Try.prog 13 #[.pointer (some ⟨p, 0, none⟩), .string x] w fun e w' => e = .returned (.int .i64 (looseL F x)) ∧ Below w.heap.size w w' := by
  have c0 := h.c0
  rcases h.found x hx with ⟨hf, hlk⟩ | ⟨f, a, cc, hf, hnm, hfd, hv, hlk⟩
  · have hl := hlk false
    rw [if_neg (by simp)] at hl
    have HF : Hid (looseL F x = 0) := Lib.hid (by unfold looseL; rw [hf])
    clear hlk hf h hs
    obtain ⟨W3, hW3⟩ : ∃ q, w.alloc (.cells #[.slice none 0 0, .int .i64 0] TF) = q := ⟨_, rfl⟩
    obtain ⟨g3, hg3⟩ : ∃ q, w.heap.size = q := ⟨_, rfl⟩
    have hb3 : Below w.heap.size w W3 := by rw [← hW3]; exact (Below.refl _ _).alloc (Nat.le_refl _) _
    have HB3 : Hid (Below w.heap.size w ((W3.setCell ⟨g3, 0, none⟩ (.slice none 0 0)).setCell ⟨g3, 1, none⟩ (.int .i64 0))) := Lib.hid (below_two hb3 (by rw [hg3]; exact Nat.le_refl _) _ _)
    have hgb : W3.heap[g3]? = some (.cells #[.slice none 0 0, .int .i64 0] TF (0, 0)) := by rw [← hW3, ← hg3]; exact heap_alloc_new _ _
    have kz30 : W3.frozen? ⟨g3, 0, none⟩ = false := frozen_of_row _ _ _ _ _ hgb
    have kz31 : W3.frozen? ⟨g3, 1, none⟩ = false := frozen_of_row _ _ _ _ _ hgb
    have j0 : W3.cell? ⟨g3, 0, none⟩ = some (.slice none 0 0) := (cell_of_row _ _ 0 _ _ _ hgb).trans rfl
    have j1 : W3.cell? ⟨g3, 1, none⟩ = some (.int .i64 0) := (cell_of_row _ _ 1 _ _ _ hgb).trans rfl
    clear hgb
    go_enter Try.func13, Try.ntmps13
    go_wp2_with fail
    go_ret
    exact ⟨by rw [HF.out]; rfl, HB3.out⟩
  · have hl := hlk false
    rw [if_neg (by simp)] at hl
    have HF : Hid (looseL F x = (f.zs.length : Int) - f.safe) := Lib.hid (by unfold looseL; rw [hfd])
    have h1 := hs.safe f hf
    have h2 := (hs.len f hf).2
    clear hlk hf h hs hnm hfd hv
    obtain ⟨W3, hW3⟩ : ∃ q, w.alloc (.cells #[.slice a f.zs.length cc, .int .i64 f.safe] TF) = q := ⟨_, rfl⟩
    obtain ⟨g3, hg3⟩ : ∃ q, w.heap.size = q := ⟨_, rfl⟩
    have HB3 : Hid (Below w.heap.size w W3) := Lib.hid (by rw [← hW3]; exact (Below.refl _ _).alloc (Nat.le_refl _) _)
    have hgb : W3.heap[g3]? = some (.cells #[.slice a f.zs.length cc, .int .i64 f.safe] TF (0, 0)) := by rw [← hW3, ← hg3]; exact heap_alloc_new _ _
    have j0 : W3.cell? ⟨g3, 0, none⟩ = some (.slice a f.zs.length cc) := (cell_of_row _ _ 0 _ _ _ hgb).trans rfl
    have j1 : W3.cell? ⟨g3, 1, none⟩ = some (.int .i64 f.safe) := (cell_of_row _ _ 1 _ _ _ hgb).trans rfl
    clear hgb
    go_enter Try.func13, Try.ntmps13
    go_wp2_with fail
    go_ret
    exact ⟨ret_int (by rw [HF.out]), HB3.out⟩
end Dk
end Go.Proofs.Ytfaifdidillkaaa
