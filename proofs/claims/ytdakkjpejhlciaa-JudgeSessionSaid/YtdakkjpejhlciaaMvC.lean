/- The document's session: Got, Turn, Answer, Lost, Hang, Replies. No condition. -/
import Derived.Test.YtdakkjpejhlciaaMvB
namespace Go.Proofs.Ytdakkjpejhlciaa
open Go.ChangeShapes Go.WideShapes Go.ChangeAt Go.RowKit Go.Deep
set_option linter.unusedVariables false
set_option maxRecDepth 100000
set_option linter.unusedSimpArgs false
namespace Mv
open St Mc Mu
section
variable {w w' w1 w2 : World} {S S' : Nat → Prop} {p : Nat} {vq vo vq' vo' r : Value} {b tx tx' b' : ByteArray} {bd al bd' al' : Bool} {s s' : Ses}
theorem proc_any (st : Int) (fn : Nat) (hfn : (st = 1 ∧ fn = 38) ∨ (st = 3 ∧ fn = 39) ∨ (st = 7 ∧ fn = 40)) (f : Frm) (hf : kindF f) (w : World) (h : XSV w S p vq vo b bd al tx s) (h0 : s.st = st) (hw : s.st = 3 → s.wi = true) (hl : s.out.length ≤ 1000000) : Calls Try.prog fn #[.pointer (some ⟨p, 0, none⟩), .agg #[.int .u8 f.kind, .string f.text]] w (XProc p S w (procV s f).1.1 (procV s f).1.2 (procV s f).2) := by
  obtain ⟨k, t⟩ := f
  obtain ⟨hk, -⟩ := hf
  simp only [] at hk
  rcases hfn with ⟨rfl, rfl⟩ | ⟨rfl, rfl⟩ | ⟨rfl, rfl⟩
  · rcases hk with rfl | rfl | rfl | rfl
    · exact free_66 t w h h0 hw hl
    · exact free_69 t w h h0 hw hl
    · exact free_81 t w h h0 hw hl
    · exact free_0 0 (by decide) (by decide) (by decide) t w h h0 hw hl
  · rcases hk with rfl | rfl | rfl | rfl
    · exact bound_66 t w h h0 hw hl
    · exact bound_69 t w h h0 hw hl
    · exact bound_81 t w h h0 hw hl
    · exact bound_0 0 (by decide) (by decide) (by decide) t w h h0 hw hl
  · rcases hk with rfl | rfl | rfl | rfl
    · exact dead_66 t w h h0 hw hl
    · exact dead_69 t w h h0 hw hl
    · exact dead_81 t w h h0 hw hl
    · exact dead_0 t w h h0 hw hl
set_option maxHeartbeats 1000000 in
theorem got_any (w : World) (h : XSV w S p vq vo b bd al tx s) (hl : s.out.length ≤ 1000000) : Calls Try.prog 14 #[.pointer (some ⟨p, 0, none⟩)] w (MvR (.int .i64 (gotE s)) p (gotS s) S w) := by
  have HML : Hid (s.out.length ≤ 1000000) := Lib.hid hl
  have HV := Lib.hid h
  obtain ⟨-, -, -, c3, c4, c5, -, z⟩ := xcells h.row
  by_cases h2 : s.st = 2
  · have H0 : Hid (s.st ≠ 0) := Lib.hid (by rw [h2]; decide)
    have HS := Lib.hid (h.says.1 H0.out)
    have hal := h.says.2.1 (.inl h2)
    have htx := h.says.2.2
    unfold gotE gotS
    rw [if_pos h2, if_pos h2]
    replace c3 : w.cell? ⟨p, 3, none⟩ = some (.int .i64 1) := by rw [c3, h2]; rfl
    obtain ⟨c, hwb⟩ : ∃ c, s.wi = c := ⟨_, rfl⟩
    rcases Bool.eq_false_or_eq_true c with hb | hb
    rotate_left
    · have hw : s.wi = false := hwb.trans hb
      rw [if_neg (by rw [hw]; decide)]
      have HTX := Lib.hid (htx (.inl ⟨h2, hw⟩))
      have HAL := Lib.hid hal
      have c4' : w.cell? ⟨p, 4, none⟩ = some (.bool true) := by rw [c4, hal, hw]; rfl
      clear h h2 hl hal htx hw hwb hb c4 c5
      go_enter Try.func14, Try.ntmps14
      go_wp2
      go_ret
      exact mvr_base (Below.refl _ _) (HV.out.put (xs3 HV.out.row) rfl (xo _ p 3 _) (World.size_setCell _ _ _) rfl rfl ⟨fun _ => HS.out, fun _ => HAL.out, fun _ => HTX.out⟩) (only_cell HV.out.sp 3 _)
    · have hw : s.wi = true := hwb.trans hb
      rw [if_pos hw]
      have c4' : w.cell? ⟨p, 4, none⟩ = some (.bool false) := by rw [c4, hal, hw]; rfl
      have HV2 := Lib.hid (HV.out.put (s' := { s with st := 3 }) (xs3 (n := 2) HV.out.row) rfl (xo _ p 3 _) (World.size_setCell _ _ _) rfl rfl ⟨fun _ => HS.out, (by first | (rintro (⟨-, q⟩ | q) <;> first | (cases q; done) | (simp [Ses.tell] at q; done)) | (rintro (q | q | q) <;> first | (cases q; done) | (simp [Ses.tell] at q; done))), (by first | (rintro (⟨-, q⟩ | q) <;> first | (cases q; done) | (simp [Ses.tell] at q; done)) | (rintro (q | q | q) <;> first | (cases q; done) | (simp [Ses.tell] at q; done)))⟩)
      have HO2 : Hid (Only S w (w.setCell ⟨p, 3, none⟩ (.int .i64 2))) := Lib.hid (only_cell HV.out.sp 3 _)
      clear h h2 hl hal htx hw hwb hb c4 c5
      go_enter Try.func14, Try.ntmps14
      go_wp2_with (first | ((with_reducible refine (tell_k 1 _ HV2.out HML.out).mono ?_); rintro e w3 ⟨rfl, S3, vo3, hv3, hs3, ho3⟩; obtain ⟨q1, q2⟩ := told_on HO2.out hs3 ho3; have HQ1 := Lib.hid q1; have HQ2 := Lib.hid q2; have HV3 := Lib.hid hv3; obtain ⟨-, -, -, d3, d4, d5, -, dz⟩ := xcells hv3.row; clear hv3 hs3 ho3 q1 q2))
      go_ret
      exact mvr_mk HQ1.out HQ2.out HV3.out (Only.refl _ _)
  · unfold gotE gotS
    rw [if_neg h2, if_neg h2]
    have hx1 : stX s.st ≠ 1 := by unfold stX; split <;> omega
    generalize stX s.st = n at *
    have hy1 : (n == 1) = false := beq_eq_false_iff_ne.2 hx1
    have hz1 : (n != 1) = true := by simpa using hx1
    clear h h2 hl hx1 c4 c5
    go_enter Try.func14, Try.ntmps14
    go_wp2
    go_ret
    exact mvr_base (Below.refl _ _) HV.out (Only.refl _ _)
set_option maxHeartbeats 1000000 in
theorem lost_any (w : World) (h : XSV w S p vq vo b bd al tx s) (hl : s.out.length ≤ 1000000) : Calls Try.prog 20 #[.pointer (some ⟨p, 0, none⟩)] w (MvR (.int .i64 (lostE s)) p (lostS s) S w) := by
  have HML : Hid (s.out.length ≤ 1000000) := Lib.hid hl
  have HV := Lib.hid h
  obtain ⟨-, -, -, c3, c4, c5, -, z⟩ := xcells h.row
  unfold lostE lostS
  by_cases h3 : s.st = 3
  · have H0 : Hid (s.st ≠ 0) := Lib.hid (by rw [h3]; decide)
    have HS := Lib.hid (h.says.1 H0.out)
    replace c3 : w.cell? ⟨p, 3, none⟩ = some (.int .i64 2) := by rw [c3, h3]; rfl
    rw [if_pos (.inl h3), if_pos h3]
    clear h h3 hl c4 c5
    go_enter Try.func20, Try.ntmps20
    go_wp2
    go_ret
    exact mvr_base (Below.refl _ _) (HV.out.put (xs3 HV.out.row) rfl (xo _ p 3 _) (World.size_setCell _ _ _) rfl rfl ⟨fun _ => HS.out, (by first | (rintro (⟨-, q⟩ | q) <;> first | (cases q; done) | (simp [Ses.tell] at q; done)) | (rintro (q | q | q) <;> first | (cases q; done) | (simp [Ses.tell] at q; done))), (by first | (rintro (⟨-, q⟩ | q) <;> first | (cases q; done) | (simp [Ses.tell] at q; done)) | (rintro (q | q | q) <;> first | (cases q; done) | (simp [Ses.tell] at q; done)))⟩) (only_cell HV.out.sp 3 _)
  by_cases h4 : s.st = 4
  · have H0 : Hid (s.st ≠ 0) := Lib.hid (by rw [h4]; decide)
    have HS := Lib.hid (h.says.1 H0.out)
    replace c3 : w.cell? ⟨p, 3, none⟩ = some (.int .i64 3) := by rw [c3, h4]; rfl
    rw [if_pos (by omega), if_neg (by omega), if_pos (by omega)]
    have HO0 : Hid (Only S w w) := Lib.hid (Only.refl _ _)
    clear h h4 h3 hl c4 c5
    go_enter Try.func20, Try.ntmps20
    go_wp2_with (first | ((with_reducible refine (tell_k 6 _ HV.out HML.out).mono ?_); rintro e w3 ⟨rfl, S3, vo3, hv3, hs3, ho3⟩; obtain ⟨q1, q2⟩ := told_on HO0.out hs3 ho3; have HQ1 := Lib.hid q1; have HQ2 := Lib.hid q2; have HV3 := Lib.hid hv3; obtain ⟨-, -, -, d3, d4, d5, -, dz⟩ := xcells hv3.row; clear hv3 hs3 ho3 q1 q2))
    go_ret
    exact mvr_mk HQ1.out HQ2.out (HV3.out.put (s' := { s with st := 1, tx := emp }.tell (rep 6)) (xs3 (n := 0) HV3.out.row) rfl (xo _ p 3 _) (World.size_setCell _ _ _) rfl rfl ⟨fun _ => HS.out, (by first | (rintro (⟨-, q⟩ | q) <;> first | (cases q; done) | (simp [Ses.tell] at q; done)) | (rintro (q | q | q) <;> first | (cases q; done) | (simp [Ses.tell] at q; done))), (by first | (rintro (⟨-, q⟩ | q) <;> first | (cases q; done) | (simp [Ses.tell] at q; done)) | (rintro (q | q | q) <;> first | (cases q; done) | (simp [Ses.tell] at q; done)))⟩) (only_cell HV3.out.sp 3 _)
  by_cases h5 : s.st = 5
  · have H0 : Hid (s.st ≠ 0) := Lib.hid (by rw [h5]; decide)
    have HS := Lib.hid (h.says.1 H0.out)
    replace c3 : w.cell? ⟨p, 3, none⟩ = some (.int .i64 4) := by rw [c3, h5]; rfl
    rw [if_pos (by omega), if_neg (by omega), if_pos (by omega)]
    have HO0 : Hid (Only S w w) := Lib.hid (Only.refl _ _)
    clear h h5 h3 h4 hl c4 c5
    go_enter Try.func20, Try.ntmps20
    go_wp2_with (first | ((with_reducible refine (tell_k 6 _ HV.out HML.out).mono ?_); rintro e w3 ⟨rfl, S3, vo3, hv3, hs3, ho3⟩; obtain ⟨q1, q2⟩ := told_on HO0.out hs3 ho3; have HQ1 := Lib.hid q1; have HQ2 := Lib.hid q2; have HV3 := Lib.hid hv3; obtain ⟨-, -, -, d3, d4, d5, -, dz⟩ := xcells hv3.row; clear hv3 hs3 ho3 q1 q2))
    go_ret
    exact mvr_mk HQ1.out HQ2.out (HV3.out.put (s' := { s with st := 1, tx := emp }.tell (rep 6)) (xs3 (n := 0) HV3.out.row) rfl (xo _ p 3 _) (World.size_setCell _ _ _) rfl rfl ⟨fun _ => HS.out, (by first | (rintro (⟨-, q⟩ | q) <;> first | (cases q; done) | (simp [Ses.tell] at q; done)) | (rintro (q | q | q) <;> first | (cases q; done) | (simp [Ses.tell] at q; done))), (by first | (rintro (⟨-, q⟩ | q) <;> first | (cases q; done) | (simp [Ses.tell] at q; done)) | (rintro (q | q | q) <;> first | (cases q; done) | (simp [Ses.tell] at q; done)))⟩) (only_cell HV3.out.sp 3 _)
  by_cases h6 : s.st = 6
  · have H0 : Hid (s.st ≠ 0) := Lib.hid (by rw [h6]; decide)
    have HS := Lib.hid (h.says.1 H0.out)
    replace c3 : w.cell? ⟨p, 3, none⟩ = some (.int .i64 5) := by rw [c3, h6]; rfl
    rw [if_pos (by omega), if_neg (by omega), if_neg (by omega), if_pos h6]
    clear h h6 hl c4 c5
    go_enter Try.func20, Try.ntmps20
    go_wp2
    go_ret
    exact mvr_base (Below.refl _ _) (HV.out.put (xs3 HV.out.row) rfl (xo _ p 3 _) (World.size_setCell _ _ _) rfl rfl ⟨fun _ => HS.out, (by first | (rintro (⟨-, q⟩ | q) <;> first | (cases q; done) | (simp [Ses.tell] at q; done)) | (rintro (q | q | q) <;> first | (cases q; done) | (simp [Ses.tell] at q; done))), (by first | (rintro (⟨-, q⟩ | q) <;> first | (cases q; done) | (simp [Ses.tell] at q; done)) | (rintro (q | q | q) <;> first | (cases q; done) | (simp [Ses.tell] at q; done)))⟩) (only_cell HV.out.sp 3 _)
  · rw [if_neg (by omega), if_neg (by omega), if_neg (by omega), if_neg (by omega)]
    have hx2 : stX s.st ≠ 2 := by unfold stX; split <;> omega
    have hx3 : stX s.st ≠ 3 := by unfold stX; split <;> omega
    have hx4 : stX s.st ≠ 4 := by unfold stX; split <;> omega
    have hx5 : stX s.st ≠ 5 := by unfold stX; split <;> omega
    generalize stX s.st = n at *
    have hy2 : (n == 2) = false := beq_eq_false_iff_ne.2 hx2
    have hz2 : (n != 2) = true := by simpa using hx2
    have hy3 : (n == 3) = false := beq_eq_false_iff_ne.2 hx3
    have hz3 : (n != 3) = true := by simpa using hx3
    have hy4 : (n == 4) = false := beq_eq_false_iff_ne.2 hx4
    have hz4 : (n != 4) = true := by simpa using hx4
    have hy5 : (n == 5) = false := beq_eq_false_iff_ne.2 hx5
    have hz5 : (n != 5) = true := by simpa using hx5
    clear h h3 h4 h5 h6 hl c4 c5 hx2 hx3 hx4 hx5
    go_enter Try.func20, Try.ntmps20
    go_wp2
    go_ret
    exact mvr_base (Below.refl _ _) HV.out (Only.refl _ _)
theorem tell_t (t : ByteArray) (w : World) (h : XSV w S p vq vo b bd al tx s) (hl : s.out.length ≤ 1000000) : Calls Try.prog 42 #[.pointer (some ⟨p, 0, none⟩), .agg #[.int .i64 2, .int .i64 0, .string t]] w (XToldR p S w vq b bd al tx (s.tell ⟨2, 0, t⟩)) := tell_any ⟨2, 0, t⟩ w h hl
set_option maxHeartbeats 1000000 in
theorem ans_any (t : ByteArray) (w : World) (h : XSV w S p vq vo b bd al tx s) (hl : s.out.length ≤ 1000000) : Calls Try.prog 18 #[.pointer (some ⟨p, 0, none⟩), .string t] w (MvR (.int .i64 (ansE s)) p (ansS s t) S w) := by
  have HML : Hid (s.out.length ≤ 1000000) := Lib.hid hl
  have HV := Lib.hid h
  obtain ⟨-, -, -, c3, c4, c5, -, z⟩ := xcells h.row
  by_cases h5 : s.st = 5
  · have H0 : Hid (s.st ≠ 0) := Lib.hid (by rw [h5]; decide)
    have HS := Lib.hid (h.says.1 H0.out)
    have hal := h.says.2.1 (.inr (.inr h5))
    have HO0 : Hid (Only S w w) := Lib.hid (Only.refl _ _)
    unfold ansE ansS
    rw [if_pos h5, if_pos h5]
    replace c3 : w.cell? ⟨p, 3, none⟩ = some (.int .i64 4) := by rw [c3, h5]; rfl
    obtain ⟨c, hwb⟩ : ∃ c, s.wi = c := ⟨_, rfl⟩
    rcases Bool.eq_false_or_eq_true c with hb | hb
    · have hw : s.wi = true := hwb.trans hb
      rw [if_pos hw]
      have hal2 : al = false := by rw [hal, hw]; rfl
      subst hal2
      have HV := Lib.hid HV.out
      clear h h5 hl hal hw hwb hb c4 c5
      go_enter Try.func18, Try.ntmps18
      go_wp2_with (first | ((with_reducible refine (tell_t t _ HV.out HML.out).mono ?_); rintro e w3 ⟨rfl, S3, vo3, hv3, hs3, ho3⟩; obtain ⟨q1, q2⟩ := told_on HO0.out hs3 ho3; have HQ1 := Lib.hid q1; have HQ2 := Lib.hid q2; have HV3 := Lib.hid hv3; obtain ⟨-, -, -, d3, d4, d5, -, dz⟩ := xcells hv3.row; clear hv3 hs3 ho3 q1 q2))
      go_ret
      exact mvr_mk HQ1.out HQ2.out (HV3.out.put (s' := { s with st := 3 }.tell ⟨2, 0, t⟩) (xs3 (n := 2) HV3.out.row) rfl (xo _ p 3 _) (World.size_setCell _ _ _) rfl rfl ⟨fun _ => HS.out, (by first | (rintro (⟨-, q⟩ | q) <;> first | (cases q; done) | (simp [Ses.tell] at q; done)) | (rintro (q | q | q) <;> first | (cases q; done) | (simp [Ses.tell] at q; done))), (by first | (rintro (⟨-, q⟩ | q) <;> first | (cases q; done) | (simp [Ses.tell] at q; done)) | (rintro (q | q | q) <;> first | (cases q; done) | (simp [Ses.tell] at q; done)))⟩) (only_cell HV3.out.sp 3 _)
    · have hw : s.wi = false := hwb.trans hb
      rw [if_neg (by rw [hw]; decide)]
      have hal2 : al = true := by rw [hal, hw]; rfl
      subst hal2
      have HV := Lib.hid HV.out
      clear h h5 hl hal hw hwb hb c4 c5
      go_enter Try.func18, Try.ntmps18
      go_wp2_with (first | ((with_reducible refine (tell_t t _ HV.out HML.out).mono ?_); rintro e w3 ⟨rfl, S3, vo3, hv3, hs3, ho3⟩; obtain ⟨q1, q2⟩ := told_on HO0.out hs3 ho3; have HQ1 := Lib.hid q1; have HQ2 := Lib.hid q2; have HV3 := Lib.hid hv3; obtain ⟨-, -, -, d3, d4, d5, -, dz⟩ := xcells hv3.row; clear hv3 hs3 ho3 q1 q2))
      go_ret
      exact mvr_mk HQ1.out HQ2.out (HV3.out.put (s' := { s with st := 6 }.tell ⟨2, 0, t⟩) (xs3 (n := 5) HV3.out.row) rfl (xo _ p 3 _) (World.size_setCell _ _ _) rfl rfl ⟨fun _ => HS.out, (by first | (rintro (⟨-, q⟩ | q) <;> first | (cases q; done) | (simp [Ses.tell] at q; done)) | (rintro (q | q | q) <;> first | (cases q; done) | (simp [Ses.tell] at q; done))), (by first | (rintro (⟨-, q⟩ | q) <;> first | (cases q; done) | (simp [Ses.tell] at q; done)) | (rintro (q | q | q) <;> first | (cases q; done) | (simp [Ses.tell] at q; done)))⟩) (only_cell HV3.out.sp 3 _)
  · unfold ansE ansS
    rw [if_neg h5, if_neg h5]
    have hx4 : stX s.st ≠ 4 := by unfold stX; split <;> omega
    generalize stX s.st = n at *
    have hy4 : (n == 4) = false := beq_eq_false_iff_ne.2 hx4
    have hz4 : (n != 4) = true := by simpa using hx4
    clear h h5 hl hx4 c4 c5
    go_enter Try.func18, Try.ntmps18
    go_wp2
    go_ret
    exact mvr_base (Below.refl _ _) HV.out (Only.refl _ _)
set_option maxHeartbeats 400000 in
theorem hang_any (w : World) (h : XSV w S p vq vo b bd al tx s) : Calls Try.prog 22 #[.pointer (some ⟨p, 0, none⟩)] w (MvR (.tuple #[]) p (hangS s) S w) := by
  have HV := Lib.hid h
  clear h
  go_enter Try.func22, Try.ntmps22
  go_wp2_with (first | ((with_reducible refine (end_any _ HV.out).mono ?_); rintro e w9 ⟨rfl, hv9, ho9⟩; have HV9 := Lib.hid hv9; have HO9 := Lib.hid ho9; clear hv9 ho9))
  refine bodyPost_end (results_none rfl _ _ _) rfl ?_
  exact mvr_mk (fun k hk => .inl hk) (Only.refl _ _) HV9.out HO9.out
/-- what Replies answers -/
def XGive (p : Nat) (s : Ses) (S : Nat → Prop) (w : World) (e : Ending) (w' : World) : Prop := ∃ v, e = .returned v ∧ XSX p (repsS s) w' S ∧ OwnQ 3 repC TR w' 0 v s.out ∧ (∀ k, v.ownBlock = some k → S k) ∧ Only S w w'
set_option maxHeartbeats 400000 in
theorem replies_any (w : World) (h : XSV w S p vq vo b bd al tx s) : Calls Try.prog 25 #[.pointer (some ⟨p, 0, none⟩)] w (XGive p s S w) := by
  obtain ⟨-, -, -, -, -, -, c6, z⟩ := xcells h.row
  have HF : Hid (XGive p s S w (.returned vo) (w.setCell ⟨p, 6, none⟩ (.slice none 0 0))) := Lib.hid ⟨vo, rfl, ⟨_, _, _, _, _, _, ⟨xs6 h.row, h.sp, h.says, h.q.keep (fun k hk => xo _ p 6 _ k (h.qne k hk)), h.qs, OwnQ.nil _ _ _, (fun k hk => by cases hk), fun k hk => by have := h.low k hk; simpa using this⟩⟩, h.o.keep (fun k hk => xo _ p 6 _ k (h.one k hk)), h.os, only_cell h.sp 6 _⟩
  obtain ⟨ao, no, mo, rfl⟩ := slice_que h.o
  clear h
  go_enter Try.func25, Try.ntmps25
  go_wp2
  go_ret
  exact HF.out
set_option maxHeartbeats 1000000 in
theorem turn_0 (w : World) (hv : XSV w S p vq vo b bd al tx s) (hl : s.out.length ≤ 1000000) : Calls Try.prog 16 #[.pointer (some ⟨p, 0, none⟩), .agg #[.int .i64 4, .int .i64 0, .string ⟨#[]⟩]] w (MvR (.int .i64 (turnE s ⟨4, 0, ⟨#[]⟩⟩)) p (turnS s ⟨4, 0, ⟨#[]⟩⟩) S w) := by
  have HML : Hid (s.out.length ≤ 1000000) := Lib.hid hl
  have HPB : Hid (w.heap.size ≠ p) := Lib.hid (by have := hv.plt; omega)
  have HT : Hid (turns ⟨4, 0, ⟨#[]⟩⟩) := Lib.hid (by simp [turns, emp])
  obtain ⟨W1, hW1⟩ : ∃ q, w.alloc (.cells #[.int .i64 4, .int .i64 0, .string ⟨#[]⟩] TR) = q := ⟨_, rfl⟩
  have hb1 : Below w.heap.size w W1 := by rw [← hW1]; exact (Below.refl _ _).alloc (Nat.le_refl _) _
  have hx1 : W1.heap[w.heap.size]? = some (.cells #[.int .i64 4, .int .i64 0, .string ⟨#[]⟩] TR (0, 0)) := by rw [← hW1]; exact heap_alloc_new _ _
  obtain ⟨x0, x1, x2⟩ : W1.cell? ⟨w.heap.size, 0, none⟩ = some (.int .i64 4) ∧ W1.cell? ⟨w.heap.size, 1, none⟩ = some (.int .i64 0) ∧ W1.cell? ⟨w.heap.size, 2, none⟩ = some (.string ⟨#[]⟩) := ⟨(cell_of_row _ _ _ _ _ _ hx1).trans rfl, (cell_of_row _ _ _ _ _ _ hx1).trans rfl, (cell_of_row _ _ _ _ _ _ hx1).trans rfl⟩
  have hv1 := hv.below hb1
  have HV1 := Lib.hid hv1
  have HB1 := Lib.hid hb1
  obtain ⟨-, -, -, c3, c4, c5, -, z⟩ := xcells hv1.row
  unfold turnE turnS
  rw [if_pos HT.out, if_pos HT.out]
  by_cases h2 : s.st = 2
  · rw [if_pos h2, if_pos h2]
    have H0 : Hid (s.st ≠ 0) := Lib.hid (by rw [h2]; decide)
    have HS := Lib.hid (hv.says.1 H0.out)
    replace c3 : W1.cell? ⟨p, 3, none⟩ = some (.int .i64 1) := by rw [c3, h2]; rfl
    have HV2 := Lib.hid (HV1.out.put (s' := { s with st := 1, tx := emp }) (xs3 (n := 0) HV1.out.row) rfl (xo _ p 3 _) (World.size_setCell _ _ _) rfl rfl ⟨fun _ => HS.out, (by first | (rintro (⟨-, q⟩ | q) <;> first | (cases q; done) | (simp [Ses.tell] at q; done)) | (rintro (q | q | q) <;> first | (cases q; done) | (simp [Ses.tell] at q; done))), (by first | (rintro (⟨-, q⟩ | q) <;> first | (cases q; done) | (simp [Ses.tell] at q; done)) | (rintro (q | q | q) <;> first | (cases q; done) | (simp [Ses.tell] at q; done)))⟩)
    have HO2 : Hid (Only S w (W1.setCell ⟨p, 3, none⟩ (.int .i64 0))) := Lib.hid ((Below.only HB1.out S).trans (only_cell HV1.out.sp 3 _))
    have y0 : (W1.setCell ⟨p, 3, none⟩ (.int .i64 0)).cell? ⟨w.heap.size, 0, none⟩ = some (.int .i64 4) := (World.cell?_of_block (xo W1 p 3 _ w.heap.size HPB.out)).trans x0
    have y1 : (W1.setCell ⟨p, 3, none⟩ (.int .i64 0)).cell? ⟨w.heap.size, 1, none⟩ = some (.int .i64 0) := (World.cell?_of_block (xo W1 p 3 _ w.heap.size HPB.out)).trans x1
    have y2 : (W1.setCell ⟨p, 3, none⟩ (.int .i64 0)).cell? ⟨w.heap.size, 2, none⟩ = some (.string ⟨#[]⟩) := (World.cell?_of_block (xo W1 p 3 _ w.heap.size HPB.out)).trans x2
    have HTC : Hid (Calls Try.prog 42 #[.pointer (some ⟨p, 0, none⟩), .agg #[.int .i64 4, .int .i64 0, .string ⟨#[]⟩]] (W1.setCell ⟨p, 3, none⟩ (.int .i64 0)) (XToldR p S (W1.setCell ⟨p, 3, none⟩ (.int .i64 0)) vq b bd al tx ({ s with st := 1, tx := emp }.tell ⟨4, 0, ⟨#[]⟩⟩))) := Lib.hid (tell_any ⟨4, 0, ⟨#[]⟩⟩ _ HV2.out HML.out)
    clear hv hv1 hl h2 hb1 hx1 c4 c5
    go_enter Try.func16, Try.ntmps16
    go_wp2_with (first | rw [hW1] | ((with_reducible refine HTC.out.mono ?_); rintro e w3 ⟨rfl, S3, vo3, hv3, hs3, ho3⟩; obtain ⟨q1, q2⟩ := told_on HO2.out hs3 ho3; have HQ1 := Lib.hid q1; have HQ2 := Lib.hid q2; have HV3 := Lib.hid hv3; clear hv3 hs3 ho3 q1 q2))
    go_ret
    exact mvr_mk HQ1.out HQ2.out HV3.out (Only.refl _ _)
  · rw [if_neg h2, if_neg h2]
    have hx : stX s.st ≠ 1 := by unfold stX; split <;> omega
    generalize stX s.st = m at *
    have hz : (m != 1) = true := by simpa using hx
    clear hv hv1 hl h2 hb1 hx1 c4 c5 hx
    go_enter Try.func16, Try.ntmps16
    go_wp2_with (first | rw [hW1])
    go_ret
    exact mvr_base HB1.out HV1.out (Only.refl _ _)
set_option maxHeartbeats 1000000 in
theorem turn_1 (n : Int) (t : ByteArray) (w : World) (hv : XSV w S p vq vo b bd al tx s) (hl : s.out.length ≤ 1000000) (h : n ≠ 0) : Calls Try.prog 16 #[.pointer (some ⟨p, 0, none⟩), .agg #[.int .i64 4, .int .i64 n, .string t]] w (MvR (.int .i64 (turnE s ⟨4, n, t⟩)) p (turnS s ⟨4, n, t⟩) S w) := by
  have HML : Hid (s.out.length ≤ 1000000) := Lib.hid hl
  have HPB : Hid (w.heap.size ≠ p) := Lib.hid (by have := hv.plt; omega)
  have HT : Hid (¬ turns ⟨4, n, t⟩) := Lib.hid (by simp [turns, h])
  obtain ⟨W1, hW1⟩ : ∃ q, w.alloc (.cells #[.int .i64 4, .int .i64 n, .string t] TR) = q := ⟨_, rfl⟩
  have hb1 : Below w.heap.size w W1 := by rw [← hW1]; exact (Below.refl _ _).alloc (Nat.le_refl _) _
  have hx1 : W1.heap[w.heap.size]? = some (.cells #[.int .i64 4, .int .i64 n, .string t] TR (0, 0)) := by rw [← hW1]; exact heap_alloc_new _ _
  obtain ⟨x0, x1, x2⟩ : W1.cell? ⟨w.heap.size, 0, none⟩ = some (.int .i64 4) ∧ W1.cell? ⟨w.heap.size, 1, none⟩ = some (.int .i64 n) ∧ W1.cell? ⟨w.heap.size, 2, none⟩ = some (.string t) := ⟨(cell_of_row _ _ _ _ _ _ hx1).trans rfl, (cell_of_row _ _ _ _ _ _ hx1).trans rfl, (cell_of_row _ _ _ _ _ _ hx1).trans rfl⟩
  have hv1 := hv.below hb1
  have HV1 := Lib.hid hv1
  have HB1 := Lib.hid hb1
  obtain ⟨-, -, -, c3, c4, c5, -, z⟩ := xcells hv1.row
  unfold turnE turnS
  have hb : (n == 0) = false := beq_eq_false_iff_ne.2 h
  clear h
  rw [if_neg HT.out, if_neg HT.out]
  clear hv hv1 hl hb1 hx1 c3 c4 c5
  go_enter Try.func16, Try.ntmps16
  go_wp2_with (first | rw [hW1])
  go_ret
  exact mvr_base HB1.out HV1.out (Only.refl _ _)
set_option maxHeartbeats 1000000 in
theorem turn_2 (t : ByteArray) (w : World) (hv : XSV w S p vq vo b bd al tx s) (hl : s.out.length ≤ 1000000) (h : t ≠ emp) : Calls Try.prog 16 #[.pointer (some ⟨p, 0, none⟩), .agg #[.int .i64 4, .int .i64 0, .string t]] w (MvR (.int .i64 (turnE s ⟨4, 0, t⟩)) p (turnS s ⟨4, 0, t⟩) S w) := by
  have HML : Hid (s.out.length ≤ 1000000) := Lib.hid hl
  have HPB : Hid (w.heap.size ≠ p) := Lib.hid (by have := hv.plt; omega)
  have HT : Hid (¬ turns ⟨4, 0, t⟩) := Lib.hid (by simp [turns, h])
  obtain ⟨W1, hW1⟩ : ∃ q, w.alloc (.cells #[.int .i64 4, .int .i64 0, .string t] TR) = q := ⟨_, rfl⟩
  have hb1 : Below w.heap.size w W1 := by rw [← hW1]; exact (Below.refl _ _).alloc (Nat.le_refl _) _
  have hx1 : W1.heap[w.heap.size]? = some (.cells #[.int .i64 4, .int .i64 0, .string t] TR (0, 0)) := by rw [← hW1]; exact heap_alloc_new _ _
  obtain ⟨x0, x1, x2⟩ : W1.cell? ⟨w.heap.size, 0, none⟩ = some (.int .i64 4) ∧ W1.cell? ⟨w.heap.size, 1, none⟩ = some (.int .i64 0) ∧ W1.cell? ⟨w.heap.size, 2, none⟩ = some (.string t) := ⟨(cell_of_row _ _ _ _ _ _ hx1).trans rfl, (cell_of_row _ _ _ _ _ _ hx1).trans rfl, (cell_of_row _ _ _ _ _ _ hx1).trans rfl⟩
  have hv1 := hv.below hb1
  have HV1 := Lib.hid hv1
  have HB1 := Lib.hid hb1
  obtain ⟨-, -, -, c3, c4, c5, -, z⟩ := xcells hv1.row
  unfold turnE turnS
  obtain ⟨hb1, hb2⟩ := ne_emp h
  have hb3 : t.toList.isEmpty = false := by simpa using hb2
  clear h
  rw [if_neg HT.out, if_neg HT.out]
  clear hv hv1 hl hb1 hx1 c3 c4 c5
  go_enter Try.func16, Try.ntmps16
  go_wp2_with (first | rw [hW1])
  go_ret
  exact mvr_base HB1.out HV1.out (Only.refl _ _)
set_option maxHeartbeats 1000000 in
theorem turn_3 (n : Int) (w : World) (hv : XSV w S p vq vo b bd al tx s) (hl : s.out.length ≤ 1000000) (h1 : 1 ≤ n) (h2 : n ≤ 7) : Calls Try.prog 16 #[.pointer (some ⟨p, 0, none⟩), .agg #[.int .i64 5, .int .i64 n, .string ⟨#[]⟩]] w (MvR (.int .i64 (turnE s ⟨5, n, ⟨#[]⟩⟩)) p (turnS s ⟨5, n, ⟨#[]⟩⟩) S w) := by
  have HML : Hid (s.out.length ≤ 1000000) := Lib.hid hl
  have HPB : Hid (w.heap.size ≠ p) := Lib.hid (by have := hv.plt; omega)
  have HT : Hid (turns ⟨5, n, ⟨#[]⟩⟩) := Lib.hid (by simp [turns, h1, h2, emp])
  obtain ⟨W1, hW1⟩ : ∃ q, w.alloc (.cells #[.int .i64 5, .int .i64 n, .string ⟨#[]⟩] TR) = q := ⟨_, rfl⟩
  have hb1 : Below w.heap.size w W1 := by rw [← hW1]; exact (Below.refl _ _).alloc (Nat.le_refl _) _
  have hx1 : W1.heap[w.heap.size]? = some (.cells #[.int .i64 5, .int .i64 n, .string ⟨#[]⟩] TR (0, 0)) := by rw [← hW1]; exact heap_alloc_new _ _
  obtain ⟨x0, x1, x2⟩ : W1.cell? ⟨w.heap.size, 0, none⟩ = some (.int .i64 5) ∧ W1.cell? ⟨w.heap.size, 1, none⟩ = some (.int .i64 n) ∧ W1.cell? ⟨w.heap.size, 2, none⟩ = some (.string ⟨#[]⟩) := ⟨(cell_of_row _ _ _ _ _ _ hx1).trans rfl, (cell_of_row _ _ _ _ _ _ hx1).trans rfl, (cell_of_row _ _ _ _ _ _ hx1).trans rfl⟩
  have hv1 := hv.below hb1
  have HV1 := Lib.hid hv1
  have HB1 := Lib.hid hb1
  obtain ⟨-, -, -, c3, c4, c5, -, z⟩ := xcells hv1.row
  unfold turnE turnS
  rw [if_pos HT.out, if_pos HT.out]
  by_cases h2 : s.st = 2
  · rw [if_pos h2, if_pos h2]
    have H0 : Hid (s.st ≠ 0) := Lib.hid (by rw [h2]; decide)
    have HS := Lib.hid (hv.says.1 H0.out)
    replace c3 : W1.cell? ⟨p, 3, none⟩ = some (.int .i64 1) := by rw [c3, h2]; rfl
    have HV2 := Lib.hid (HV1.out.put (s' := { s with st := 1, tx := emp }) (xs3 (n := 0) HV1.out.row) rfl (xo _ p 3 _) (World.size_setCell _ _ _) rfl rfl ⟨fun _ => HS.out, (by first | (rintro (⟨-, q⟩ | q) <;> first | (cases q; done) | (simp [Ses.tell] at q; done)) | (rintro (q | q | q) <;> first | (cases q; done) | (simp [Ses.tell] at q; done))), (by first | (rintro (⟨-, q⟩ | q) <;> first | (cases q; done) | (simp [Ses.tell] at q; done)) | (rintro (q | q | q) <;> first | (cases q; done) | (simp [Ses.tell] at q; done)))⟩)
    have HO2 : Hid (Only S w (W1.setCell ⟨p, 3, none⟩ (.int .i64 0))) := Lib.hid ((Below.only HB1.out S).trans (only_cell HV1.out.sp 3 _))
    have y0 : (W1.setCell ⟨p, 3, none⟩ (.int .i64 0)).cell? ⟨w.heap.size, 0, none⟩ = some (.int .i64 5) := (World.cell?_of_block (xo W1 p 3 _ w.heap.size HPB.out)).trans x0
    have y1 : (W1.setCell ⟨p, 3, none⟩ (.int .i64 0)).cell? ⟨w.heap.size, 1, none⟩ = some (.int .i64 n) := (World.cell?_of_block (xo W1 p 3 _ w.heap.size HPB.out)).trans x1
    have y2 : (W1.setCell ⟨p, 3, none⟩ (.int .i64 0)).cell? ⟨w.heap.size, 2, none⟩ = some (.string ⟨#[]⟩) := (World.cell?_of_block (xo W1 p 3 _ w.heap.size HPB.out)).trans x2
    have HTC : Hid (Calls Try.prog 42 #[.pointer (some ⟨p, 0, none⟩), .agg #[.int .i64 5, .int .i64 n, .string ⟨#[]⟩]] (W1.setCell ⟨p, 3, none⟩ (.int .i64 0)) (XToldR p S (W1.setCell ⟨p, 3, none⟩ (.int .i64 0)) vq b bd al tx ({ s with st := 1, tx := emp }.tell ⟨5, n, ⟨#[]⟩⟩))) := Lib.hid (tell_any ⟨5, n, ⟨#[]⟩⟩ _ HV2.out HML.out)
    clear hv hv1 hl h2 hb1 hx1 c4 c5
    go_enter Try.func16, Try.ntmps16
    go_wp2_with (first | rw [hW1] | ((with_reducible refine HTC.out.mono ?_); rintro e w3 ⟨rfl, S3, vo3, hv3, hs3, ho3⟩; obtain ⟨q1, q2⟩ := told_on HO2.out hs3 ho3; have HQ1 := Lib.hid q1; have HQ2 := Lib.hid q2; have HV3 := Lib.hid hv3; clear hv3 hs3 ho3 q1 q2))
    go_ret
    exact mvr_mk HQ1.out HQ2.out HV3.out (Only.refl _ _)
  · rw [if_neg h2, if_neg h2]
    have hx : stX s.st ≠ 1 := by unfold stX; split <;> omega
    generalize stX s.st = m at *
    have hz : (m != 1) = true := by simpa using hx
    clear hv hv1 hl h2 hb1 hx1 c4 c5 hx
    go_enter Try.func16, Try.ntmps16
    go_wp2_with (first | rw [hW1])
    go_ret
    exact mvr_base HB1.out HV1.out (Only.refl _ _)
set_option maxHeartbeats 1000000 in
theorem turn_4 (n : Int) (t : ByteArray) (w : World) (hv : XSV w S p vq vo b bd al tx s) (hl : s.out.length ≤ 1000000) (h1 : 1 ≤ n) (h2 : n ≤ 7) (h : t ≠ emp) : Calls Try.prog 16 #[.pointer (some ⟨p, 0, none⟩), .agg #[.int .i64 5, .int .i64 n, .string t]] w (MvR (.int .i64 (turnE s ⟨5, n, t⟩)) p (turnS s ⟨5, n, t⟩) S w) := by
  have HML : Hid (s.out.length ≤ 1000000) := Lib.hid hl
  have HPB : Hid (w.heap.size ≠ p) := Lib.hid (by have := hv.plt; omega)
  have HT : Hid (¬ turns ⟨5, n, t⟩) := Lib.hid (by simp [turns, h1, h2, h])
  obtain ⟨W1, hW1⟩ : ∃ q, w.alloc (.cells #[.int .i64 5, .int .i64 n, .string t] TR) = q := ⟨_, rfl⟩
  have hb1 : Below w.heap.size w W1 := by rw [← hW1]; exact (Below.refl _ _).alloc (Nat.le_refl _) _
  have hx1 : W1.heap[w.heap.size]? = some (.cells #[.int .i64 5, .int .i64 n, .string t] TR (0, 0)) := by rw [← hW1]; exact heap_alloc_new _ _
  obtain ⟨x0, x1, x2⟩ : W1.cell? ⟨w.heap.size, 0, none⟩ = some (.int .i64 5) ∧ W1.cell? ⟨w.heap.size, 1, none⟩ = some (.int .i64 n) ∧ W1.cell? ⟨w.heap.size, 2, none⟩ = some (.string t) := ⟨(cell_of_row _ _ _ _ _ _ hx1).trans rfl, (cell_of_row _ _ _ _ _ _ hx1).trans rfl, (cell_of_row _ _ _ _ _ _ hx1).trans rfl⟩
  have hv1 := hv.below hb1
  have HV1 := Lib.hid hv1
  have HB1 := Lib.hid hb1
  obtain ⟨-, -, -, c3, c4, c5, -, z⟩ := xcells hv1.row
  unfold turnE turnS
  obtain ⟨hb1, hb2⟩ := ne_emp h
  have hb3 : t.toList.isEmpty = false := by simpa using hb2
  clear h
  rw [if_neg HT.out, if_neg HT.out]
  clear hv hv1 hl hb1 hx1 c3 c4 c5
  go_enter Try.func16, Try.ntmps16
  go_wp2_with (first | rw [hW1])
  go_ret
  exact mvr_base HB1.out HV1.out (Only.refl _ _)
set_option maxHeartbeats 1000000 in
theorem turn_5 (n : Int) (t : ByteArray) (w : World) (hv : XSV w S p vq vo b bd al tx s) (hl : s.out.length ≤ 1000000) (h1 : n < 1) : Calls Try.prog 16 #[.pointer (some ⟨p, 0, none⟩), .agg #[.int .i64 5, .int .i64 n, .string t]] w (MvR (.int .i64 (turnE s ⟨5, n, t⟩)) p (turnS s ⟨5, n, t⟩) S w) := by
  have HML : Hid (s.out.length ≤ 1000000) := Lib.hid hl
  have HPB : Hid (w.heap.size ≠ p) := Lib.hid (by have := hv.plt; omega)
  have HT : Hid (¬ turns ⟨5, n, t⟩) := Lib.hid (by (simp [turns]; omega))
  obtain ⟨W1, hW1⟩ : ∃ q, w.alloc (.cells #[.int .i64 5, .int .i64 n, .string t] TR) = q := ⟨_, rfl⟩
  have hb1 : Below w.heap.size w W1 := by rw [← hW1]; exact (Below.refl _ _).alloc (Nat.le_refl _) _
  have hx1 : W1.heap[w.heap.size]? = some (.cells #[.int .i64 5, .int .i64 n, .string t] TR (0, 0)) := by rw [← hW1]; exact heap_alloc_new _ _
  obtain ⟨x0, x1, x2⟩ : W1.cell? ⟨w.heap.size, 0, none⟩ = some (.int .i64 5) ∧ W1.cell? ⟨w.heap.size, 1, none⟩ = some (.int .i64 n) ∧ W1.cell? ⟨w.heap.size, 2, none⟩ = some (.string t) := ⟨(cell_of_row _ _ _ _ _ _ hx1).trans rfl, (cell_of_row _ _ _ _ _ _ hx1).trans rfl, (cell_of_row _ _ _ _ _ _ hx1).trans rfl⟩
  have hv1 := hv.below hb1
  have HV1 := Lib.hid hv1
  have HB1 := Lib.hid hb1
  obtain ⟨-, -, -, c3, c4, c5, -, z⟩ := xcells hv1.row
  unfold turnE turnS
  rw [if_neg HT.out, if_neg HT.out]
  clear hv hv1 hl hb1 hx1 c3 c4 c5
  go_enter Try.func16, Try.ntmps16
  go_wp2_with (first | rw [hW1])
  go_ret
  exact mvr_base HB1.out HV1.out (Only.refl _ _)
set_option maxHeartbeats 1000000 in
theorem turn_6 (n : Int) (t : ByteArray) (w : World) (hv : XSV w S p vq vo b bd al tx s) (hl : s.out.length ≤ 1000000) (h1 : 7 < n) : Calls Try.prog 16 #[.pointer (some ⟨p, 0, none⟩), .agg #[.int .i64 5, .int .i64 n, .string t]] w (MvR (.int .i64 (turnE s ⟨5, n, t⟩)) p (turnS s ⟨5, n, t⟩) S w) := by
  have HML : Hid (s.out.length ≤ 1000000) := Lib.hid hl
  have HPB : Hid (w.heap.size ≠ p) := Lib.hid (by have := hv.plt; omega)
  have HT : Hid (¬ turns ⟨5, n, t⟩) := Lib.hid (by (simp [turns]; omega))
  obtain ⟨W1, hW1⟩ : ∃ q, w.alloc (.cells #[.int .i64 5, .int .i64 n, .string t] TR) = q := ⟨_, rfl⟩
  have hb1 : Below w.heap.size w W1 := by rw [← hW1]; exact (Below.refl _ _).alloc (Nat.le_refl _) _
  have hx1 : W1.heap[w.heap.size]? = some (.cells #[.int .i64 5, .int .i64 n, .string t] TR (0, 0)) := by rw [← hW1]; exact heap_alloc_new _ _
  obtain ⟨x0, x1, x2⟩ : W1.cell? ⟨w.heap.size, 0, none⟩ = some (.int .i64 5) ∧ W1.cell? ⟨w.heap.size, 1, none⟩ = some (.int .i64 n) ∧ W1.cell? ⟨w.heap.size, 2, none⟩ = some (.string t) := ⟨(cell_of_row _ _ _ _ _ _ hx1).trans rfl, (cell_of_row _ _ _ _ _ _ hx1).trans rfl, (cell_of_row _ _ _ _ _ _ hx1).trans rfl⟩
  have hv1 := hv.below hb1
  have HV1 := Lib.hid hv1
  have HB1 := Lib.hid hb1
  obtain ⟨-, -, -, c3, c4, c5, -, z⟩ := xcells hv1.row
  unfold turnE turnS
  have h0 : 1 ≤ n := by omega
  rw [if_neg HT.out, if_neg HT.out]
  clear hv hv1 hl hb1 hx1 c3 c4 c5
  go_enter Try.func16, Try.ntmps16
  go_wp2_with (first | rw [hW1])
  go_ret
  exact mvr_base HB1.out HV1.out (Only.refl _ _)
set_option maxHeartbeats 1000000 in
theorem turn_7 (k n : Int) (t : ByteArray) (w : World) (hv : XSV w S p vq vo b bd al tx s) (hl : s.out.length ≤ 1000000) (h4 : k ≠ 4) (h5 : k ≠ 5) : Calls Try.prog 16 #[.pointer (some ⟨p, 0, none⟩), .agg #[.int .i64 k, .int .i64 n, .string t]] w (MvR (.int .i64 (turnE s ⟨k, n, t⟩)) p (turnS s ⟨k, n, t⟩) S w) := by
  have HML : Hid (s.out.length ≤ 1000000) := Lib.hid hl
  have HPB : Hid (w.heap.size ≠ p) := Lib.hid (by have := hv.plt; omega)
  have HT : Hid (¬ turns ⟨k, n, t⟩) := Lib.hid (by simp [turns, h4, h5])
  obtain ⟨W1, hW1⟩ : ∃ q, w.alloc (.cells #[.int .i64 k, .int .i64 n, .string t] TR) = q := ⟨_, rfl⟩
  have hb1 : Below w.heap.size w W1 := by rw [← hW1]; exact (Below.refl _ _).alloc (Nat.le_refl _) _
  have hx1 : W1.heap[w.heap.size]? = some (.cells #[.int .i64 k, .int .i64 n, .string t] TR (0, 0)) := by rw [← hW1]; exact heap_alloc_new _ _
  obtain ⟨x0, x1, x2⟩ : W1.cell? ⟨w.heap.size, 0, none⟩ = some (.int .i64 k) ∧ W1.cell? ⟨w.heap.size, 1, none⟩ = some (.int .i64 n) ∧ W1.cell? ⟨w.heap.size, 2, none⟩ = some (.string t) := ⟨(cell_of_row _ _ _ _ _ _ hx1).trans rfl, (cell_of_row _ _ _ _ _ _ hx1).trans rfl, (cell_of_row _ _ _ _ _ _ hx1).trans rfl⟩
  have hv1 := hv.below hb1
  have HV1 := Lib.hid hv1
  have HB1 := Lib.hid hb1
  obtain ⟨-, -, -, c3, c4, c5, -, z⟩ := xcells hv1.row
  unfold turnE turnS
  have hk4 : (k == 4) = false := beq_eq_false_iff_ne.2 h4
  have hk5 : (k == 5) = false := beq_eq_false_iff_ne.2 h5
  rw [if_neg HT.out, if_neg HT.out]
  clear hv hv1 hl hb1 hx1 c3 c4 c5
  go_enter Try.func16, Try.ntmps16
  go_wp2_with (first | rw [hW1])
  go_ret
  exact mvr_base HB1.out HV1.out (Only.refl _ _)
theorem turn_any (r : Rep) (w : World) (hv : XSV w S p vq vo b bd al tx s) (hl : s.out.length ≤ 1000000) : Calls Try.prog 16 #[.pointer (some ⟨p, 0, none⟩), .agg #[.int .i64 r.kind, .int .i64 r.node, .string r.text]] w (MvR (.int .i64 (turnE s r)) p (turnS s r) S w) := by
  obtain ⟨k, n, t⟩ := r
  by_cases h4 : k = 4
  · subst h4
    by_cases hn : n = 0
    · subst hn
      by_cases ht : t = emp
      · subst ht; exact turn_0 w hv hl
      · exact turn_2 t w hv hl ht
    · exact turn_1 n t w hv hl hn
  · by_cases h5 : k = 5
    · subst h5
      rcases Int.lt_or_le n 1 with h1 | h1
      · exact turn_5 n t w hv hl h1
      · rcases Int.lt_or_le 7 n with h7 | h7
        · exact turn_6 n t w hv hl h7
        · by_cases ht : t = emp
          · subst ht; exact turn_3 n w hv hl h1 h7
          · exact turn_4 n t w hv hl h1 h7 ht
    · exact turn_7 k n t w hv hl h4 h5
end
end Mv
end Go.Proofs.Ytdakkjpejhlciaa
