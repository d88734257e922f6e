/- The document's session: Next. No condition. -/
import Derived.Test.YtdakkjpejhlciaaMvC
import Derived.Test.YtdakkjpejhlciaaMuH
import Derived.Deep.QuietTactic
import Derived.BigQuiet
namespace Go.Proofs.Ytdakkjpejhlciaa
open Go.ChangeShapes Go.WideShapes Go.ChangeAt Go.RowKit Go.Deep
set_option linter.unusedVariables false
set_option maxRecDepth 100000
set_option linter.unusedSimpArgs false
namespace Mv
open St Mc Mu
section
variable {w w' w1 w2 : World} {S S' : Nat → Prop} {p : Nat} {vq vo vq' vo' r : Value} {b tx tx' b' : ByteArray} {bd al bd' al' : Bool} {s s' : Ses}
theorem proc_emp (s : Ses) (f : Frm) (h : (procV s f).1.1 ≠ 2) : (procV s f).1.2 = emp := by
  unfold procV at *
  split at h
  · split at h
    · simp [*]
    · split at h
      · simp [*]
      · split at h <;> simp [*]
  · split at h
    · split at h
      · simp [*]
      · split at h
        · exact absurd rfl h
        · split at h <;> simp [*]
    · split at h <;> simp [*]
/-- the frames ahead are others -/
theorem XSV.qput {v' : Value} {qs : List Frm} {row : Option Nat} (h : XSV w S p vq vo b bd al tx s) (hq : OwnQ 2 frmC TF w1 0 v' qs) (hg : w.grownBy w1 row) (hr : row = none ∨ row = vq.ownBlock) (hl : ∀ q, v'.ownBlock = some q → S q ∨ w.heap.size ≤ q) :
    XSV (w1.setCell ⟨p, 2, none⟩ v') (Grow S w w1) p v' vo b bd al tx { s with q := qs } ∧ Only S w (w1.setCell ⟨p, 2, none⟩ v') := by
  have hpl := h.plt
  have hz := hg.size
  have hrn : ∀ {g : Nat} {cs : Array Value} {t : TypeId}, w.heap[g]? = some (.cells cs t (0, 0)) → TF ≠ t → some g ≠ row := fun hg2 hne e => by
    rcases hr with hr | hr
    · rw [hr] at e; cases e
    · rw [hr] at e; exact h.q.ty hg2 hne _ e.symm rfl
  have hrow : w1.heap[p]? = some (.cells (xArr b bd vq (stX s.st) al tx vo) TX (0, 0)) := (hg.block p hpl (hrn h.row (by decide))).trans h.row
  have hvp : ∀ k, v'.ownBlock = some k → k ≠ p := hq.ty hrow (by decide)
  refine ⟨⟨xs2 hrow, .inl h.sp, h.says, hq.keep (fun k hk => xo _ p 2 _ k (hvp k hk)), fun k hk => ?_, h.o.keep (fun k hk => (xo _ p 2 _ k (h.one k hk)).trans (hg.block k (h.low k (h.os k hk)) ?_)), fun k hk => .inl (h.os k hk), fun k hk => ?_⟩, ?_⟩
  · rcases hl k hk with e | e
    · exact .inl e
    · exact .inr ⟨e, (hq.lt k hk).2⟩
  · rcases h.o with ⟨h5, -⟩ | ⟨g6, off, cap, cur, h5, -, h6, -⟩
    · rw [h5] at hk; cases hk
    · rw [h5] at hk
      simp only [Value.ownBlock, Option.some.injEq] at hk
      subst hk
      exact hrn h6 (by decide)
  · rcases hk with hk | hk
    · have := h.low k hk; simp; omega
    · have := hk.2; simp; omega
  · refine Only.trans ?_ (Only.setCell w1 _ _ h.sp)
    refine Only.grown hg fun q hq => ?_
    rcases hr with hr | hr
    · rw [hr] at hq; cases hq
    · rw [hr] at hq; exact h.qs q hq
/-- on the way through the frames -/
def XNxR (p : Nat) (S : Nat → Prop) (w : World) (s : Ses) (wr : World) : Prop :=
  ∃ S' vq vo b bd al tx s', XSV wr S' p vq vo b bd al tx s' ∧ (∀ k, S' k → Grow S w wr k) ∧ Only S w wr ∧ loopV s'.q.length s' = nextV s ∧ ∃ n m, okS n m s' ∧ m + s'.q.length ≤ 1000000
set_option maxHeartbeats 4000000 in
theorem next_any {n m : Nat} (w : World) (h : XSV w S p vq vo b bd al tx s) (hok : okS n m s) (hl : m + s.q.length ≤ 1000000) : Calls Try.prog 12 #[.pointer (some ⟨p, 0, none⟩)] w (MvR (.tuple #[.int .i64 (nextV s).1.1, .string (nextV s).1.2]) p (nextV s).2 S w) := by
  have HV := Lib.hid h
  obtain ⟨-, -, -, c3, c4, c5, -, z⟩ := xcells h.row
  by_cases h4 : s.st = 4
  · have HN : Hid (nextV s = ((2, s.tx), { s with st := 5, tx := emp })) := Lib.hid (by unfold nextV; rw [if_pos h4])
    rw [HN.out]
    have H0 : Hid (s.st ≠ 0) := Lib.hid (by rw [h4]; decide)
    have HS := Lib.hid (h.says.1 H0.out)
    have HAL := Lib.hid (h.says.2.1 (.inr (.inl h4)))
    have htx := h.says.2.2 (.inr h4)
    have HTX := Lib.hid htx
    replace c3 : w.cell? ⟨p, 3, none⟩ = some (.int .i64 3) := by rw [c3, h4]; rfl
    have HF : Hid (∀ k, MvR (.tuple #[.int .i64 2, .string tx]) p { s with st := 5, tx := emp } S w (.returned (.tuple #[.int .i64 2, .string tx])) ((w.setCell ⟨p, 3, none⟩ (.int .i64 4)).drewN k)) := Lib.hid (fun k => by
      have hv := HV.out.put (s' := { s with st := 5, tx := emp }) (xs3 (n := 4) HV.out.row) rfl (xo _ p 3 _) (World.size_setCell _ _ _) rfl rfl ⟨fun _ => HS.out, fun _ => HAL.out, (by first | (rintro (⟨-, q⟩ | q) <;> first | (cases q; done) | (simp [Ses.tell] at q; done)) | (rintro (q | q | q) <;> first | (cases q; done) | (simp [Ses.tell] at q; done)))⟩
      have ho : Only S w (w.setCell ⟨p, 3, none⟩ (.int .i64 4)) := only_cell HV.out.sp 3 _
      exact mvr_base (Below.refl _ _) (hv.keep (w' := (w.setCell ⟨p, 3, none⟩ (.int .i64 4)).drewN k) (fun _ _ => rfl) (Nat.le_refl _)) ⟨ho.1, ho.2.1, ho.2.2.1, ho.2.2.2.1, ho.2.2.2.2⟩)
    clear h h4 hl hok htx
    go_enter Try.func12, Try.ntmps12
    go_wp2
    go_quiet (fail)
    go_wp2
    go_ret2
    rw [← HTX.out]
    exact HF.out _
  by_cases h6 : s.st = 6
  · have HN : Hid (nextV s = ((3, emp), { s with st := 1 })) := Lib.hid (by unfold nextV; rw [if_neg h4, if_pos h6])
    rw [HN.out]
    have H0 : Hid (s.st ≠ 0) := Lib.hid (by rw [h6]; decide)
    have HS := Lib.hid (h.says.1 H0.out)
    replace c3 : w.cell? ⟨p, 3, none⟩ = some (.int .i64 5) := by rw [c3, h6]; rfl
    clear h h4 h6 hl hok
    go_enter Try.func12, Try.ntmps12
    go_wp2
    go_ret2
    exact mvr_base (Below.refl _ _) (HV.out.put (s' := { s with st := 1 }) (xs3 (n := 0) HV.out.row) rfl (xo _ p 3 _) (World.size_setCell _ _ _) rfl rfl ⟨fun _ => HS.out, (by first | (rintro (⟨-, q⟩ | q) <;> first | (cases q; done) | (simp [Ses.tell] at q; done)) | (rintro (q | q | q) <;> first | (cases q; done) | (simp [Ses.tell] at q; done))), (by first | (rintro (⟨-, q⟩ | q) <;> first | (cases q; done) | (simp [Ses.tell] at q; done)) | (rintro (q | q | q) <;> first | (cases q; done) | (simp [Ses.tell] at q; done)))⟩) (only_cell HV.out.sp 3 _)
  have HX0 : Hid (XNxR p S w s w) := Lib.hid ⟨S, _, _, _, _, _, _, s, h, fun k hk => .inl hk, Only.refl _ _, (by unfold nextV; rw [if_neg h4, if_neg h6]), n, m, hok, hl⟩
  have hx3 : stX s.st ≠ 3 := by unfold stX; split <;> omega
  have hx5 : stX s.st ≠ 5 := by unfold stX; split <;> omega
  generalize stX s.st = z0 at *
  have hy3 : (z0 == 3) = false := beq_eq_false_iff_ne.2 hx3
  have hy5 : (z0 == 5) = false := beq_eq_false_iff_ne.2 hx5
  clear h h4 h6 hl hok hx3 hx5 c4 c5
  go_enter Try.func12, Try.ntmps12
  go_wp2
  clear c3 hy3 hy5 z HV
  go_loopw [] (fun wr => Hid (XNxR p S w s wr)) (fun wr => match wr.cell? ⟨p, 2, none⟩ with | some (.slice _ n _) => n | _ => 0)
  case atStart => exact HX0
  case round =>
    obtain ⟨S3, vq3, vo3, b3, bd3, al3, tx3, s3, hv3, hg3, ho3, he3, n3, m3, hok3, hl3⟩ := hrel.out
    clear hrel HX0
    have HV3 := Lib.hid hv3
    have HG3 := Lib.hid hg3
    have HO3 := Lib.hid ho3
    have HE3 := Lib.hid he3
    obtain ⟨-, -, x2, x3, -, -, -, xz⟩ := xcells hv3.row
    clear hg3 ho3 he3
    cases hq : s3.q with
    | nil =>
      have HF : Hid (∀ r, r = nextV s → MvR (.tuple #[.int .i64 r.1.1, .string r.1.2]) p r.2 S w (.returned (.tuple #[.int .i64 0, .string ⟨#[]⟩])) wr) := Lib.hid (by
        rintro r rfl
        rw [← HE3.out, loop_end (.inl hq)]
        exact mvr_mk HG3.out HO3.out HV3.out (Only.refl _ _))
      obtain ⟨aq, nq, rfl, -⟩ := hv3.q.len
      rw [hq] at x2
      simp only [List.length_nil] at x2
      clear hq hv3 hok3 hl3
      go_wp2
      go_ret2
      exact HF.out _ rfl
    | cons f q =>
      have hq4 := hv3.q
      rw [hq] at hq4
      have HTL := Lib.hid (hq4.tail frmC_len)
      obtain ⟨g, off, cap, rfl, -, hc1, hc2, hfc, -, -⟩ := hq4.form frmC_len
      unfold maxLen at hc2
      have hnq : (0 : Int) < (q.length : Int) + 1 := by omega
      by_cases ht : takesS s3
      · have f0 : wr.cell? ⟨g, off, none⟩ = some (.int .u8 f.kind) := hfc 0 _ rfl
        have f1 : wr.cell? ⟨g, off + 1, none⟩ = some (.string f.text) := hfc 1 _ rfl
        obtain ⟨hpop1, hkf, hn1⟩ := ok_pop hok3 hq
        obtain ⟨W5, hW5⟩ : ∃ q, wr.alloc (.cells #[.int .u8 f.kind, .string f.text] TF) = q := ⟨_, rfl⟩
        have hb5 : Below wr.heap.size wr W5 := by rw [← hW5]; exact (Below.refl _ _).alloc (Nat.le_refl _) _
        have hbx : W5.heap[wr.heap.size]? = some (.cells #[.int .u8 f.kind, .string f.text] TF (0, 0)) := by rw [← hW5]; exact heap_alloc_new _ _
        have HBX := Lib.hid hbx
        have hv5 := hv3.below hb5
        have HV5 := Lib.hid hv5
        have HB5 := Lib.hid hb5
        obtain ⟨-, -, e2, e3, -, -, -, ez⟩ := xcells hv5.row
        obtain ⟨V6, hV6⟩ : ∃ v, tailQ 2 (.slice (some ⟨g, off, none⟩) (q.length + 1) cap) = v := ⟨_, rfl⟩
        have HSL : Hid (SlR 2 frmC W5 V6 q) := Lib.hid (by rw [← hV6]; exact (HTL.out.sl frmC_len).below hb5 (Nat.le_refl _))
        obtain ⟨hca, hcb⟩ : (cap = 1 → V6 = .slice (some ⟨g, off, none⟩) q.length 0) ∧ (cap ≠ 1 → V6 = .slice (some ⟨g, off + 2, none⟩) q.length (cap - 1)) := by
          rw [← hV6]
          unfold tailQ
          exact ⟨fun h => by simp only [if_pos h]; rw [show q.length = 0 by omega], fun h => by simp only [if_neg h]; rfl⟩
        have HPB : Hid (wr.heap.size ≠ p ∧ p < wr.heap.size) := Lib.hid (by have := hv3.plt; omega)
        have HQL : Hid (s3.q.length = q.length + 1) := Lib.hid (by rw [hq]; rfl)
        have HLM : Hid (m3 + q.length + 1 ≤ 1000000) := Lib.hid (by rw [hq] at hl3; simp only [List.length_cons] at hl3; omega)
        have HPO := Lib.hid hpop1
        have HKF := Lib.hid hkf
        have HPS := Lib.hid (fun (s9 : Ses) (e : s9 = { s3 with q := q }) => (e ▸ hpop1 : okS (n3 - 1) m3 s9))
        have HPL := Lib.hid (proc_len { s3 with q := q } f)
        have HOK := Lib.hid (ok_proc hpop1 hkf)
        have HEM := Lib.hid (proc_emp { s3 with q := q } f)
        have HLC := Lib.hid (fun h0 => loop_cons hq ht h0)
        have HLS := Lib.hid (fun h0 => loop_stop hq ht h0)
        have HWI : Hid (s3.st = 3 → s3.wi = true) := Lib.hid (fun h => hok3.2.2.2.2.2.2.2.1 (.inl h))
        have HCALL : Hid (∀ (st : Int) (fn : Nat), ((st = 1 ∧ fn = 38) ∨ (st = 3 ∧ fn = 39) ∨ (st = 7 ∧ fn = 40)) → s3.st = st → ∀ {W : World} {SS : Nat → Prop} {vq7 vo7 : Value} {b7 tx7 : ByteArray} {bd7 al7 : Bool}, XSV W SS p vq7 vo7 b7 bd7 al7 tx7 { s3 with q := q } → Calls Try.prog fn #[.pointer (some ⟨p, 0, none⟩), .agg #[.int .u8 f.kind, .string f.text]] W (XProc p SS W (procV { s3 with q := q } f).1.1 (procV { s3 with q := q } f).1.2 (procV { s3 with q := q } f).2)) :=
          Lib.hid (fun st fn h1 h2 W SS _ _ _ _ _ _ h3 => proc_any st fn h1 f HKF.out W h3 h2 HWI.out (by have e1 : s3.out.length ≤ m3 := HPO.out.2.2.2.2.2.1; have := HLM.out; show s3.out.length ≤ 1000000; omega))
        generalize hPR : procV { s3 with q := q } f = PR at HOK HPL HLC HLS HEM HCALL
        obtain ⟨⟨A, T⟩, s8⟩ := PR
        have hst : (s3.st = 1 ∧ stX s3.st = 0) ∨ (s3.st = 3 ∧ stX s3.st = 2) ∨ (s3.st = 7 ∧ stX s3.st = 6) := by
          rcases ht with h | h | h
          · exact .inl ⟨h, by rw [h]; rfl⟩
          · exact .inr (.inl ⟨h, by rw [h]; rfl⟩)
          · exact .inr (.inr ⟨h, by rw [h]; rfl⟩)
        clear hq hq4 hv3 hok3 hl3 ht hfc hpop1 hkf hb5 hbx hv5 hPR hV6 hn1
        rcases Decidable.em (cap = 1) with hc | hc
        · obtain rfl := hca hc
          subst hc
          clear hca hcb hc1
          rcases hst with ⟨h1, hsx⟩ | ⟨h1, hsx⟩ | ⟨h1, hsx⟩
          · have H1 := Lib.hid h1
            have HSX := Lib.hid hsx
            replace e3 : W5.cell? ⟨p, 3, none⟩ = some (.int .i64 0) := by rw [e3, hsx]
            replace x3 : wr.cell? ⟨p, 3, none⟩ = some (.int .i64 0) := by rw [x3, hsx]
            clear h1 hsx
            rcases Decidable.em (A = 0) with hA | hA
            · subst hA
              go_wp2_with (first | rw [hW5] | rw [hW7] | (at_builtin; refine appQue frmC_len Try.underlying29 rfl (by decide) info_frm rfl (.const (.slice none 0 0)) (.tmp 62) rfl rfl (OwnQ.nil (sz := 2) (C := frmC) TF W5 0) (.slice (some ⟨g, off, none⟩) q.length 0) rfl HSL.out (fun y hy => frmC_one y) (by have := HLM.out; unfold maxLen; simp only [List.length_nil]; omega) (by have := HLM.out; simp only [List.length_nil]; omega) (Nat.zero_le _) ?_; intro v6 w6 hq6 hg6 hl6; replace hg6 : W5.grownBy w6 none := hg6; replace hl6 : v6.ownBlock = none ∨ ∀ q, v6.ownBlock = some q → W5.heap.size ≤ q := hl6; rw [List.nil_append] at hq6; obtain ⟨a6, m6, d6, rfl⟩ := slice_que hq6; obtain ⟨hv7, ho7⟩ := HV5.out.qput hq6 hg6 (.inl rfl) (fun q hq => by rcases hl6 with e | e; rw [e] at hq; cases hq; exact .inr (e q hq)); have hrow6 := (hg6.block p HV5.out.plt (fun e => by cases e)).trans HV5.out.row; obtain ⟨-, -, c26, -, -, -, -, z6⟩ := xcells hrow6; have hbx6 := (hg6.block _ (row_lt HBX.out) (fun e => by cases e)).trans HBX.out; obtain ⟨W7, hW7⟩ : ∃ q, w6.setCell ⟨p, 2, none⟩ (.slice a6 m6 d6) = q := ⟨_, rfl⟩; have hbx7 : W7.heap[wr.heap.size]? = some (.cells #[.int .u8 f.kind, .string f.text] TF (0, 0)) := (by rw [← hW7]; exact (xo w6 p 2 _ _ HPB.out.1).trans hbx6); have g0 : W7.cell? ⟨wr.heap.size, 0, none⟩ = some (.int .u8 f.kind) := (cell_of_row _ _ _ _ _ _ hbx7).trans rfl; have g1 : W7.cell? ⟨wr.heap.size, 1, none⟩ = some (.string f.text) := (cell_of_row _ _ _ _ _ _ hbx7).trans rfl; have hz7 : W7.heap.size = w6.heap.size := (by rw [← hW7]; simp); rw [hW7] at hv7 ho7; obtain ⟨-, -, -, i3, -, -, -, iz⟩ := xcells hv7.row; replace i3 : W7.cell? ⟨p, 3, none⟩ = some (.int .i64 0) := i3.trans (by show some (Value.int .i64 (stX s3.st)) = _; rw [HSX.out]); have HO7 : Hid (Only S w W7) := Lib.hid (Mc.Only.sub (HO3.out.trans (Below.only HB5.out S)) (fun k hk => by have z := HB5.out.size; rcases HG3.out k hk with a | a; exact .inl a; exact .inr ⟨a.1, by omega⟩) ho7); have HG7 : Hid (∀ k, Grow S3 W5 w6 k → Grow S w W7 k) := Lib.hid (fun k hk => by (have z := HB5.out.size; have z2 := hg6.size; have z3 := HO3.out.2.2.2.1; rcases hk with hk | hk; (rcases HG3.out k hk with a | a; exact .inl a; exact .inr ⟨a.1, by have := a.2; omega⟩); exact .inr ⟨by have := hk.1; omega, by have := hk.2; omega⟩)); have HV7 := Lib.hid hv7; clear hq6 hg6 hl6 hv7 ho7 hrow6 hbx6 hbx7 hz7) | ((with_reducible refine (HCALL.out 1 _ (.inl ⟨rfl, rfl⟩) H1.out HV7.out).mono ?_); rintro e w8 ⟨rfl, S8, vq8, vo8, b8, bd8, al8, tx8, hv8, hs8, ho8, hA8⟩; obtain ⟨q1, q2⟩ : (∀ k, S8 k → Grow S w w8 k) ∧ Only S w w8 := ⟨fun k hk => Mc.Grow.sub HO7.out.2.2.2.1 ho8.2.2.2.1 HG7.out (hs8 k hk), Mc.Only.sub HO7.out HG7.out ho8⟩; have HQ1 := Lib.hid q1; have HQ2 := Lib.hid q2; have HV8 := Lib.hid hv8; have HA8 := Lib.hid hA8; obtain ⟨-, -, j2, -, -, j5, -, jz⟩ := xcells hv8.row; clear hv8 hs8 ho8 hA8 q1 q2))
              have hv9 := HV8.out
              obtain ⟨a9, c9, hvq9, -⟩ := hv9.q.len
              rw [hvq9] at j2
              go_roundw
              case rel => exact Lib.hid ⟨S8, _, _, _, _, _, _, s8, hv9, HQ1.out, HQ2.out, (HLC.out trivial).symm.trans HE3.out, n3 - 1, m3 + 1, HOK.out, by have h2 : s8.q.length ≤ q.length := HPL.out; have := HLM.out; omega⟩
              case measure => (rw [j2, x2]; simp only []; have h2 : s8.q.length ≤ q.length := HPL.out; omega)
            · rcases Decidable.em (A = 2) with hA2 | hA2
              · subst hA2
                go_wp2_with (first | rw [hW5] | rw [hW7] | (at_builtin; refine appQue frmC_len Try.underlying29 rfl (by decide) info_frm rfl (.const (.slice none 0 0)) (.tmp 62) rfl rfl (OwnQ.nil (sz := 2) (C := frmC) TF W5 0) (.slice (some ⟨g, off, none⟩) q.length 0) rfl HSL.out (fun y hy => frmC_one y) (by have := HLM.out; unfold maxLen; simp only [List.length_nil]; omega) (by have := HLM.out; simp only [List.length_nil]; omega) (Nat.zero_le _) ?_; intro v6 w6 hq6 hg6 hl6; replace hg6 : W5.grownBy w6 none := hg6; replace hl6 : v6.ownBlock = none ∨ ∀ q, v6.ownBlock = some q → W5.heap.size ≤ q := hl6; rw [List.nil_append] at hq6; obtain ⟨a6, m6, d6, rfl⟩ := slice_que hq6; obtain ⟨hv7, ho7⟩ := HV5.out.qput hq6 hg6 (.inl rfl) (fun q hq => by rcases hl6 with e | e; rw [e] at hq; cases hq; exact .inr (e q hq)); have hrow6 := (hg6.block p HV5.out.plt (fun e => by cases e)).trans HV5.out.row; obtain ⟨-, -, c26, -, -, -, -, z6⟩ := xcells hrow6; have hbx6 := (hg6.block _ (row_lt HBX.out) (fun e => by cases e)).trans HBX.out; obtain ⟨W7, hW7⟩ : ∃ q, w6.setCell ⟨p, 2, none⟩ (.slice a6 m6 d6) = q := ⟨_, rfl⟩; have hbx7 : W7.heap[wr.heap.size]? = some (.cells #[.int .u8 f.kind, .string f.text] TF (0, 0)) := (by rw [← hW7]; exact (xo w6 p 2 _ _ HPB.out.1).trans hbx6); have g0 : W7.cell? ⟨wr.heap.size, 0, none⟩ = some (.int .u8 f.kind) := (cell_of_row _ _ _ _ _ _ hbx7).trans rfl; have g1 : W7.cell? ⟨wr.heap.size, 1, none⟩ = some (.string f.text) := (cell_of_row _ _ _ _ _ _ hbx7).trans rfl; have hz7 : W7.heap.size = w6.heap.size := (by rw [← hW7]; simp); rw [hW7] at hv7 ho7; obtain ⟨-, -, -, i3, -, -, -, iz⟩ := xcells hv7.row; replace i3 : W7.cell? ⟨p, 3, none⟩ = some (.int .i64 0) := i3.trans (by show some (Value.int .i64 (stX s3.st)) = _; rw [HSX.out]); have HO7 : Hid (Only S w W7) := Lib.hid (Mc.Only.sub (HO3.out.trans (Below.only HB5.out S)) (fun k hk => by have z := HB5.out.size; rcases HG3.out k hk with a | a; exact .inl a; exact .inr ⟨a.1, by omega⟩) ho7); have HG7 : Hid (∀ k, Grow S3 W5 w6 k → Grow S w W7 k) := Lib.hid (fun k hk => by (have z := HB5.out.size; have z2 := hg6.size; have z3 := HO3.out.2.2.2.1; rcases hk with hk | hk; (rcases HG3.out k hk with a | a; exact .inl a; exact .inr ⟨a.1, by have := a.2; omega⟩); exact .inr ⟨by have := hk.1; omega, by have := hk.2; omega⟩)); have HV7 := Lib.hid hv7; clear hq6 hg6 hl6 hv7 ho7 hrow6 hbx6 hbx7 hz7) | ((with_reducible refine (HCALL.out 1 _ (.inl ⟨rfl, rfl⟩) H1.out HV7.out).mono ?_); rintro e w8 ⟨rfl, S8, vq8, vo8, b8, bd8, al8, tx8, hv8, hs8, ho8, hA8⟩; obtain ⟨q1, q2⟩ : (∀ k, S8 k → Grow S w w8 k) ∧ Only S w w8 := ⟨fun k hk => Mc.Grow.sub HO7.out.2.2.2.1 ho8.2.2.2.1 HG7.out (hs8 k hk), Mc.Only.sub HO7.out HG7.out ho8⟩; have HQ1 := Lib.hid q1; have HQ2 := Lib.hid q2; have HV8 := Lib.hid hv8; have HA8 := Lib.hid hA8; obtain ⟨-, -, j2, -, -, j5, -, jz⟩ := xcells hv8.row; clear hv8 hs8 ho8 hA8 q1 q2))
                go_quiet (fail)
                go_wp2
                go_ret2
                have hnx : nextV s = ((2, T), s8) := HE3.out.symm.trans (HLS.out (show (2 : Int) ≠ 0 by decide))
                obtain rfl := HA8.out trivial
                rw [hnx]
                exact mvr_mk HQ1.out HQ2.out (HV8.out.keep (w' := w8.drewN _) (fun _ _ => rfl) (Nat.le_refl _)) ⟨rfl, rfl, rfl, Nat.le_refl _, fun _ _ _ => rfl⟩
              · have hAn : (A != 0) = true := by simpa using hA
                have hA2n : (A == 2) = false := beq_eq_false_iff_ne.2 hA2
                have HAN := Lib.hid hA
                have HA2 := Lib.hid hA2
                clear hA hA2
                go_wp2_with (first | rw [hW5] | rw [hW7] | (at_builtin; refine appQue frmC_len Try.underlying29 rfl (by decide) info_frm rfl (.const (.slice none 0 0)) (.tmp 62) rfl rfl (OwnQ.nil (sz := 2) (C := frmC) TF W5 0) (.slice (some ⟨g, off, none⟩) q.length 0) rfl HSL.out (fun y hy => frmC_one y) (by have := HLM.out; unfold maxLen; simp only [List.length_nil]; omega) (by have := HLM.out; simp only [List.length_nil]; omega) (Nat.zero_le _) ?_; intro v6 w6 hq6 hg6 hl6; replace hg6 : W5.grownBy w6 none := hg6; replace hl6 : v6.ownBlock = none ∨ ∀ q, v6.ownBlock = some q → W5.heap.size ≤ q := hl6; rw [List.nil_append] at hq6; obtain ⟨a6, m6, d6, rfl⟩ := slice_que hq6; obtain ⟨hv7, ho7⟩ := HV5.out.qput hq6 hg6 (.inl rfl) (fun q hq => by rcases hl6 with e | e; rw [e] at hq; cases hq; exact .inr (e q hq)); have hrow6 := (hg6.block p HV5.out.plt (fun e => by cases e)).trans HV5.out.row; obtain ⟨-, -, c26, -, -, -, -, z6⟩ := xcells hrow6; have hbx6 := (hg6.block _ (row_lt HBX.out) (fun e => by cases e)).trans HBX.out; obtain ⟨W7, hW7⟩ : ∃ q, w6.setCell ⟨p, 2, none⟩ (.slice a6 m6 d6) = q := ⟨_, rfl⟩; have hbx7 : W7.heap[wr.heap.size]? = some (.cells #[.int .u8 f.kind, .string f.text] TF (0, 0)) := (by rw [← hW7]; exact (xo w6 p 2 _ _ HPB.out.1).trans hbx6); have g0 : W7.cell? ⟨wr.heap.size, 0, none⟩ = some (.int .u8 f.kind) := (cell_of_row _ _ _ _ _ _ hbx7).trans rfl; have g1 : W7.cell? ⟨wr.heap.size, 1, none⟩ = some (.string f.text) := (cell_of_row _ _ _ _ _ _ hbx7).trans rfl; have hz7 : W7.heap.size = w6.heap.size := (by rw [← hW7]; simp); rw [hW7] at hv7 ho7; obtain ⟨-, -, -, i3, -, -, -, iz⟩ := xcells hv7.row; replace i3 : W7.cell? ⟨p, 3, none⟩ = some (.int .i64 0) := i3.trans (by show some (Value.int .i64 (stX s3.st)) = _; rw [HSX.out]); have HO7 : Hid (Only S w W7) := Lib.hid (Mc.Only.sub (HO3.out.trans (Below.only HB5.out S)) (fun k hk => by have z := HB5.out.size; rcases HG3.out k hk with a | a; exact .inl a; exact .inr ⟨a.1, by omega⟩) ho7); have HG7 : Hid (∀ k, Grow S3 W5 w6 k → Grow S w W7 k) := Lib.hid (fun k hk => by (have z := HB5.out.size; have z2 := hg6.size; have z3 := HO3.out.2.2.2.1; rcases hk with hk | hk; (rcases HG3.out k hk with a | a; exact .inl a; exact .inr ⟨a.1, by have := a.2; omega⟩); exact .inr ⟨by have := hk.1; omega, by have := hk.2; omega⟩)); have HV7 := Lib.hid hv7; clear hq6 hg6 hl6 hv7 ho7 hrow6 hbx6 hbx7 hz7) | ((with_reducible refine (HCALL.out 1 _ (.inl ⟨rfl, rfl⟩) H1.out HV7.out).mono ?_); rintro e w8 ⟨rfl, S8, vq8, vo8, b8, bd8, al8, tx8, hv8, hs8, ho8, hA8⟩; obtain ⟨q1, q2⟩ : (∀ k, S8 k → Grow S w w8 k) ∧ Only S w w8 := ⟨fun k hk => Mc.Grow.sub HO7.out.2.2.2.1 ho8.2.2.2.1 HG7.out (hs8 k hk), Mc.Only.sub HO7.out HG7.out ho8⟩; have HQ1 := Lib.hid q1; have HQ2 := Lib.hid q2; have HV8 := Lib.hid hv8; have HA8 := Lib.hid hA8; obtain ⟨-, -, j2, -, -, j5, -, jz⟩ := xcells hv8.row; clear hv8 hs8 ho8 hA8 q1 q2))
                go_ret2
                have hnx : nextV s = ((A, T), s8) := HE3.out.symm.trans (HLS.out HAN.out)
                obtain rfl : T = emp := HEM.out HA2.out
                rw [hnx]
                exact mvr_mk HQ1.out HQ2.out HV8.out (Only.refl _ _)
          · have H1 := Lib.hid h1
            have HSX := Lib.hid hsx
            replace e3 : W5.cell? ⟨p, 3, none⟩ = some (.int .i64 2) := by rw [e3, hsx]
            replace x3 : wr.cell? ⟨p, 3, none⟩ = some (.int .i64 2) := by rw [x3, hsx]
            clear h1 hsx
            rcases Decidable.em (A = 0) with hA | hA
            · subst hA
              go_wp2_with (first | rw [hW5] | rw [hW7] | (at_builtin; refine appQue frmC_len Try.underlying29 rfl (by decide) info_frm rfl (.const (.slice none 0 0)) (.tmp 62) rfl rfl (OwnQ.nil (sz := 2) (C := frmC) TF W5 0) (.slice (some ⟨g, off, none⟩) q.length 0) rfl HSL.out (fun y hy => frmC_one y) (by have := HLM.out; unfold maxLen; simp only [List.length_nil]; omega) (by have := HLM.out; simp only [List.length_nil]; omega) (Nat.zero_le _) ?_; intro v6 w6 hq6 hg6 hl6; replace hg6 : W5.grownBy w6 none := hg6; replace hl6 : v6.ownBlock = none ∨ ∀ q, v6.ownBlock = some q → W5.heap.size ≤ q := hl6; rw [List.nil_append] at hq6; obtain ⟨a6, m6, d6, rfl⟩ := slice_que hq6; obtain ⟨hv7, ho7⟩ := HV5.out.qput hq6 hg6 (.inl rfl) (fun q hq => by rcases hl6 with e | e; rw [e] at hq; cases hq; exact .inr (e q hq)); have hrow6 := (hg6.block p HV5.out.plt (fun e => by cases e)).trans HV5.out.row; obtain ⟨-, -, c26, -, -, -, -, z6⟩ := xcells hrow6; have hbx6 := (hg6.block _ (row_lt HBX.out) (fun e => by cases e)).trans HBX.out; obtain ⟨W7, hW7⟩ : ∃ q, w6.setCell ⟨p, 2, none⟩ (.slice a6 m6 d6) = q := ⟨_, rfl⟩; have hbx7 : W7.heap[wr.heap.size]? = some (.cells #[.int .u8 f.kind, .string f.text] TF (0, 0)) := (by rw [← hW7]; exact (xo w6 p 2 _ _ HPB.out.1).trans hbx6); have g0 : W7.cell? ⟨wr.heap.size, 0, none⟩ = some (.int .u8 f.kind) := (cell_of_row _ _ _ _ _ _ hbx7).trans rfl; have g1 : W7.cell? ⟨wr.heap.size, 1, none⟩ = some (.string f.text) := (cell_of_row _ _ _ _ _ _ hbx7).trans rfl; have hz7 : W7.heap.size = w6.heap.size := (by rw [← hW7]; simp); rw [hW7] at hv7 ho7; obtain ⟨-, -, -, i3, -, -, -, iz⟩ := xcells hv7.row; replace i3 : W7.cell? ⟨p, 3, none⟩ = some (.int .i64 2) := i3.trans (by show some (Value.int .i64 (stX s3.st)) = _; rw [HSX.out]); have HO7 : Hid (Only S w W7) := Lib.hid (Mc.Only.sub (HO3.out.trans (Below.only HB5.out S)) (fun k hk => by have z := HB5.out.size; rcases HG3.out k hk with a | a; exact .inl a; exact .inr ⟨a.1, by omega⟩) ho7); have HG7 : Hid (∀ k, Grow S3 W5 w6 k → Grow S w W7 k) := Lib.hid (fun k hk => by (have z := HB5.out.size; have z2 := hg6.size; have z3 := HO3.out.2.2.2.1; rcases hk with hk | hk; (rcases HG3.out k hk with a | a; exact .inl a; exact .inr ⟨a.1, by have := a.2; omega⟩); exact .inr ⟨by have := hk.1; omega, by have := hk.2; omega⟩)); have HV7 := Lib.hid hv7; clear hq6 hg6 hl6 hv7 ho7 hrow6 hbx6 hbx7 hz7) | ((with_reducible refine (HCALL.out 3 _ (.inr (.inl ⟨rfl, rfl⟩)) H1.out HV7.out).mono ?_); rintro e w8 ⟨rfl, S8, vq8, vo8, b8, bd8, al8, tx8, hv8, hs8, ho8, hA8⟩; obtain ⟨q1, q2⟩ : (∀ k, S8 k → Grow S w w8 k) ∧ Only S w w8 := ⟨fun k hk => Mc.Grow.sub HO7.out.2.2.2.1 ho8.2.2.2.1 HG7.out (hs8 k hk), Mc.Only.sub HO7.out HG7.out ho8⟩; have HQ1 := Lib.hid q1; have HQ2 := Lib.hid q2; have HV8 := Lib.hid hv8; have HA8 := Lib.hid hA8; obtain ⟨-, -, j2, -, -, j5, -, jz⟩ := xcells hv8.row; clear hv8 hs8 ho8 hA8 q1 q2))
              have hv9 := HV8.out
              obtain ⟨a9, c9, hvq9, -⟩ := hv9.q.len
              rw [hvq9] at j2
              go_roundw
              case rel => exact Lib.hid ⟨S8, _, _, _, _, _, _, s8, hv9, HQ1.out, HQ2.out, (HLC.out trivial).symm.trans HE3.out, n3 - 1, m3 + 1, HOK.out, by have h2 : s8.q.length ≤ q.length := HPL.out; have := HLM.out; omega⟩
              case measure => (rw [j2, x2]; simp only []; have h2 : s8.q.length ≤ q.length := HPL.out; omega)
            · rcases Decidable.em (A = 2) with hA2 | hA2
              · subst hA2
                go_wp2_with (first | rw [hW5] | rw [hW7] | (at_builtin; refine appQue frmC_len Try.underlying29 rfl (by decide) info_frm rfl (.const (.slice none 0 0)) (.tmp 62) rfl rfl (OwnQ.nil (sz := 2) (C := frmC) TF W5 0) (.slice (some ⟨g, off, none⟩) q.length 0) rfl HSL.out (fun y hy => frmC_one y) (by have := HLM.out; unfold maxLen; simp only [List.length_nil]; omega) (by have := HLM.out; simp only [List.length_nil]; omega) (Nat.zero_le _) ?_; intro v6 w6 hq6 hg6 hl6; replace hg6 : W5.grownBy w6 none := hg6; replace hl6 : v6.ownBlock = none ∨ ∀ q, v6.ownBlock = some q → W5.heap.size ≤ q := hl6; rw [List.nil_append] at hq6; obtain ⟨a6, m6, d6, rfl⟩ := slice_que hq6; obtain ⟨hv7, ho7⟩ := HV5.out.qput hq6 hg6 (.inl rfl) (fun q hq => by rcases hl6 with e | e; rw [e] at hq; cases hq; exact .inr (e q hq)); have hrow6 := (hg6.block p HV5.out.plt (fun e => by cases e)).trans HV5.out.row; obtain ⟨-, -, c26, -, -, -, -, z6⟩ := xcells hrow6; have hbx6 := (hg6.block _ (row_lt HBX.out) (fun e => by cases e)).trans HBX.out; obtain ⟨W7, hW7⟩ : ∃ q, w6.setCell ⟨p, 2, none⟩ (.slice a6 m6 d6) = q := ⟨_, rfl⟩; have hbx7 : W7.heap[wr.heap.size]? = some (.cells #[.int .u8 f.kind, .string f.text] TF (0, 0)) := (by rw [← hW7]; exact (xo w6 p 2 _ _ HPB.out.1).trans hbx6); have g0 : W7.cell? ⟨wr.heap.size, 0, none⟩ = some (.int .u8 f.kind) := (cell_of_row _ _ _ _ _ _ hbx7).trans rfl; have g1 : W7.cell? ⟨wr.heap.size, 1, none⟩ = some (.string f.text) := (cell_of_row _ _ _ _ _ _ hbx7).trans rfl; have hz7 : W7.heap.size = w6.heap.size := (by rw [← hW7]; simp); rw [hW7] at hv7 ho7; obtain ⟨-, -, -, i3, -, -, -, iz⟩ := xcells hv7.row; replace i3 : W7.cell? ⟨p, 3, none⟩ = some (.int .i64 2) := i3.trans (by show some (Value.int .i64 (stX s3.st)) = _; rw [HSX.out]); have HO7 : Hid (Only S w W7) := Lib.hid (Mc.Only.sub (HO3.out.trans (Below.only HB5.out S)) (fun k hk => by have z := HB5.out.size; rcases HG3.out k hk with a | a; exact .inl a; exact .inr ⟨a.1, by omega⟩) ho7); have HG7 : Hid (∀ k, Grow S3 W5 w6 k → Grow S w W7 k) := Lib.hid (fun k hk => by (have z := HB5.out.size; have z2 := hg6.size; have z3 := HO3.out.2.2.2.1; rcases hk with hk | hk; (rcases HG3.out k hk with a | a; exact .inl a; exact .inr ⟨a.1, by have := a.2; omega⟩); exact .inr ⟨by have := hk.1; omega, by have := hk.2; omega⟩)); have HV7 := Lib.hid hv7; clear hq6 hg6 hl6 hv7 ho7 hrow6 hbx6 hbx7 hz7) | ((with_reducible refine (HCALL.out 3 _ (.inr (.inl ⟨rfl, rfl⟩)) H1.out HV7.out).mono ?_); rintro e w8 ⟨rfl, S8, vq8, vo8, b8, bd8, al8, tx8, hv8, hs8, ho8, hA8⟩; obtain ⟨q1, q2⟩ : (∀ k, S8 k → Grow S w w8 k) ∧ Only S w w8 := ⟨fun k hk => Mc.Grow.sub HO7.out.2.2.2.1 ho8.2.2.2.1 HG7.out (hs8 k hk), Mc.Only.sub HO7.out HG7.out ho8⟩; have HQ1 := Lib.hid q1; have HQ2 := Lib.hid q2; have HV8 := Lib.hid hv8; have HA8 := Lib.hid hA8; obtain ⟨-, -, j2, -, -, j5, -, jz⟩ := xcells hv8.row; clear hv8 hs8 ho8 hA8 q1 q2))
                go_quiet (fail)
                go_wp2
                go_ret2
                have hnx : nextV s = ((2, T), s8) := HE3.out.symm.trans (HLS.out (show (2 : Int) ≠ 0 by decide))
                obtain rfl := HA8.out trivial
                rw [hnx]
                exact mvr_mk HQ1.out HQ2.out (HV8.out.keep (w' := w8.drewN _) (fun _ _ => rfl) (Nat.le_refl _)) ⟨rfl, rfl, rfl, Nat.le_refl _, fun _ _ _ => rfl⟩
              · have hAn : (A != 0) = true := by simpa using hA
                have hA2n : (A == 2) = false := beq_eq_false_iff_ne.2 hA2
                have HAN := Lib.hid hA
                have HA2 := Lib.hid hA2
                clear hA hA2
                go_wp2_with (first | rw [hW5] | rw [hW7] | (at_builtin; refine appQue frmC_len Try.underlying29 rfl (by decide) info_frm rfl (.const (.slice none 0 0)) (.tmp 62) rfl rfl (OwnQ.nil (sz := 2) (C := frmC) TF W5 0) (.slice (some ⟨g, off, none⟩) q.length 0) rfl HSL.out (fun y hy => frmC_one y) (by have := HLM.out; unfold maxLen; simp only [List.length_nil]; omega) (by have := HLM.out; simp only [List.length_nil]; omega) (Nat.zero_le _) ?_; intro v6 w6 hq6 hg6 hl6; replace hg6 : W5.grownBy w6 none := hg6; replace hl6 : v6.ownBlock = none ∨ ∀ q, v6.ownBlock = some q → W5.heap.size ≤ q := hl6; rw [List.nil_append] at hq6; obtain ⟨a6, m6, d6, rfl⟩ := slice_que hq6; obtain ⟨hv7, ho7⟩ := HV5.out.qput hq6 hg6 (.inl rfl) (fun q hq => by rcases hl6 with e | e; rw [e] at hq; cases hq; exact .inr (e q hq)); have hrow6 := (hg6.block p HV5.out.plt (fun e => by cases e)).trans HV5.out.row; obtain ⟨-, -, c26, -, -, -, -, z6⟩ := xcells hrow6; have hbx6 := (hg6.block _ (row_lt HBX.out) (fun e => by cases e)).trans HBX.out; obtain ⟨W7, hW7⟩ : ∃ q, w6.setCell ⟨p, 2, none⟩ (.slice a6 m6 d6) = q := ⟨_, rfl⟩; have hbx7 : W7.heap[wr.heap.size]? = some (.cells #[.int .u8 f.kind, .string f.text] TF (0, 0)) := (by rw [← hW7]; exact (xo w6 p 2 _ _ HPB.out.1).trans hbx6); have g0 : W7.cell? ⟨wr.heap.size, 0, none⟩ = some (.int .u8 f.kind) := (cell_of_row _ _ _ _ _ _ hbx7).trans rfl; have g1 : W7.cell? ⟨wr.heap.size, 1, none⟩ = some (.string f.text) := (cell_of_row _ _ _ _ _ _ hbx7).trans rfl; have hz7 : W7.heap.size = w6.heap.size := (by rw [← hW7]; simp); rw [hW7] at hv7 ho7; obtain ⟨-, -, -, i3, -, -, -, iz⟩ := xcells hv7.row; replace i3 : W7.cell? ⟨p, 3, none⟩ = some (.int .i64 2) := i3.trans (by show some (Value.int .i64 (stX s3.st)) = _; rw [HSX.out]); have HO7 : Hid (Only S w W7) := Lib.hid (Mc.Only.sub (HO3.out.trans (Below.only HB5.out S)) (fun k hk => by have z := HB5.out.size; rcases HG3.out k hk with a | a; exact .inl a; exact .inr ⟨a.1, by omega⟩) ho7); have HG7 : Hid (∀ k, Grow S3 W5 w6 k → Grow S w W7 k) := Lib.hid (fun k hk => by (have z := HB5.out.size; have z2 := hg6.size; have z3 := HO3.out.2.2.2.1; rcases hk with hk | hk; (rcases HG3.out k hk with a | a; exact .inl a; exact .inr ⟨a.1, by have := a.2; omega⟩); exact .inr ⟨by have := hk.1; omega, by have := hk.2; omega⟩)); have HV7 := Lib.hid hv7; clear hq6 hg6 hl6 hv7 ho7 hrow6 hbx6 hbx7 hz7) | ((with_reducible refine (HCALL.out 3 _ (.inr (.inl ⟨rfl, rfl⟩)) H1.out HV7.out).mono ?_); rintro e w8 ⟨rfl, S8, vq8, vo8, b8, bd8, al8, tx8, hv8, hs8, ho8, hA8⟩; obtain ⟨q1, q2⟩ : (∀ k, S8 k → Grow S w w8 k) ∧ Only S w w8 := ⟨fun k hk => Mc.Grow.sub HO7.out.2.2.2.1 ho8.2.2.2.1 HG7.out (hs8 k hk), Mc.Only.sub HO7.out HG7.out ho8⟩; have HQ1 := Lib.hid q1; have HQ2 := Lib.hid q2; have HV8 := Lib.hid hv8; have HA8 := Lib.hid hA8; obtain ⟨-, -, j2, -, -, j5, -, jz⟩ := xcells hv8.row; clear hv8 hs8 ho8 hA8 q1 q2))
                go_ret2
                have hnx : nextV s = ((A, T), s8) := HE3.out.symm.trans (HLS.out HAN.out)
                obtain rfl : T = emp := HEM.out HA2.out
                rw [hnx]
                exact mvr_mk HQ1.out HQ2.out HV8.out (Only.refl _ _)
          · have H1 := Lib.hid h1
            have HSX := Lib.hid hsx
            replace e3 : W5.cell? ⟨p, 3, none⟩ = some (.int .i64 6) := by rw [e3, hsx]
            replace x3 : wr.cell? ⟨p, 3, none⟩ = some (.int .i64 6) := by rw [x3, hsx]
            clear h1 hsx
            rcases Decidable.em (A = 0) with hA | hA
            · subst hA
              go_wp2_with (first | rw [hW5] | rw [hW7] | (at_builtin; refine appQue frmC_len Try.underlying29 rfl (by decide) info_frm rfl (.const (.slice none 0 0)) (.tmp 62) rfl rfl (OwnQ.nil (sz := 2) (C := frmC) TF W5 0) (.slice (some ⟨g, off, none⟩) q.length 0) rfl HSL.out (fun y hy => frmC_one y) (by have := HLM.out; unfold maxLen; simp only [List.length_nil]; omega) (by have := HLM.out; simp only [List.length_nil]; omega) (Nat.zero_le _) ?_; intro v6 w6 hq6 hg6 hl6; replace hg6 : W5.grownBy w6 none := hg6; replace hl6 : v6.ownBlock = none ∨ ∀ q, v6.ownBlock = some q → W5.heap.size ≤ q := hl6; rw [List.nil_append] at hq6; obtain ⟨a6, m6, d6, rfl⟩ := slice_que hq6; obtain ⟨hv7, ho7⟩ := HV5.out.qput hq6 hg6 (.inl rfl) (fun q hq => by rcases hl6 with e | e; rw [e] at hq; cases hq; exact .inr (e q hq)); have hrow6 := (hg6.block p HV5.out.plt (fun e => by cases e)).trans HV5.out.row; obtain ⟨-, -, c26, -, -, -, -, z6⟩ := xcells hrow6; have hbx6 := (hg6.block _ (row_lt HBX.out) (fun e => by cases e)).trans HBX.out; obtain ⟨W7, hW7⟩ : ∃ q, w6.setCell ⟨p, 2, none⟩ (.slice a6 m6 d6) = q := ⟨_, rfl⟩; have hbx7 : W7.heap[wr.heap.size]? = some (.cells #[.int .u8 f.kind, .string f.text] TF (0, 0)) := (by rw [← hW7]; exact (xo w6 p 2 _ _ HPB.out.1).trans hbx6); have g0 : W7.cell? ⟨wr.heap.size, 0, none⟩ = some (.int .u8 f.kind) := (cell_of_row _ _ _ _ _ _ hbx7).trans rfl; have g1 : W7.cell? ⟨wr.heap.size, 1, none⟩ = some (.string f.text) := (cell_of_row _ _ _ _ _ _ hbx7).trans rfl; have hz7 : W7.heap.size = w6.heap.size := (by rw [← hW7]; simp); rw [hW7] at hv7 ho7; obtain ⟨-, -, -, i3, -, -, -, iz⟩ := xcells hv7.row; replace i3 : W7.cell? ⟨p, 3, none⟩ = some (.int .i64 6) := i3.trans (by show some (Value.int .i64 (stX s3.st)) = _; rw [HSX.out]); have HO7 : Hid (Only S w W7) := Lib.hid (Mc.Only.sub (HO3.out.trans (Below.only HB5.out S)) (fun k hk => by have z := HB5.out.size; rcases HG3.out k hk with a | a; exact .inl a; exact .inr ⟨a.1, by omega⟩) ho7); have HG7 : Hid (∀ k, Grow S3 W5 w6 k → Grow S w W7 k) := Lib.hid (fun k hk => by (have z := HB5.out.size; have z2 := hg6.size; have z3 := HO3.out.2.2.2.1; rcases hk with hk | hk; (rcases HG3.out k hk with a | a; exact .inl a; exact .inr ⟨a.1, by have := a.2; omega⟩); exact .inr ⟨by have := hk.1; omega, by have := hk.2; omega⟩)); have HV7 := Lib.hid hv7; clear hq6 hg6 hl6 hv7 ho7 hrow6 hbx6 hbx7 hz7) | ((with_reducible refine (HCALL.out 7 _ (.inr (.inr ⟨rfl, rfl⟩)) H1.out HV7.out).mono ?_); rintro e w8 ⟨rfl, S8, vq8, vo8, b8, bd8, al8, tx8, hv8, hs8, ho8, hA8⟩; obtain ⟨q1, q2⟩ : (∀ k, S8 k → Grow S w w8 k) ∧ Only S w w8 := ⟨fun k hk => Mc.Grow.sub HO7.out.2.2.2.1 ho8.2.2.2.1 HG7.out (hs8 k hk), Mc.Only.sub HO7.out HG7.out ho8⟩; have HQ1 := Lib.hid q1; have HQ2 := Lib.hid q2; have HV8 := Lib.hid hv8; have HA8 := Lib.hid hA8; obtain ⟨-, -, j2, -, -, j5, -, jz⟩ := xcells hv8.row; clear hv8 hs8 ho8 hA8 q1 q2))
              have hv9 := HV8.out
              obtain ⟨a9, c9, hvq9, -⟩ := hv9.q.len
              rw [hvq9] at j2
              go_roundw
              case rel => exact Lib.hid ⟨S8, _, _, _, _, _, _, s8, hv9, HQ1.out, HQ2.out, (HLC.out trivial).symm.trans HE3.out, n3 - 1, m3 + 1, HOK.out, by have h2 : s8.q.length ≤ q.length := HPL.out; have := HLM.out; omega⟩
              case measure => (rw [j2, x2]; simp only []; have h2 : s8.q.length ≤ q.length := HPL.out; omega)
            · rcases Decidable.em (A = 2) with hA2 | hA2
              · subst hA2
                go_wp2_with (first | rw [hW5] | rw [hW7] | (at_builtin; refine appQue frmC_len Try.underlying29 rfl (by decide) info_frm rfl (.const (.slice none 0 0)) (.tmp 62) rfl rfl (OwnQ.nil (sz := 2) (C := frmC) TF W5 0) (.slice (some ⟨g, off, none⟩) q.length 0) rfl HSL.out (fun y hy => frmC_one y) (by have := HLM.out; unfold maxLen; simp only [List.length_nil]; omega) (by have := HLM.out; simp only [List.length_nil]; omega) (Nat.zero_le _) ?_; intro v6 w6 hq6 hg6 hl6; replace hg6 : W5.grownBy w6 none := hg6; replace hl6 : v6.ownBlock = none ∨ ∀ q, v6.ownBlock = some q → W5.heap.size ≤ q := hl6; rw [List.nil_append] at hq6; obtain ⟨a6, m6, d6, rfl⟩ := slice_que hq6; obtain ⟨hv7, ho7⟩ := HV5.out.qput hq6 hg6 (.inl rfl) (fun q hq => by rcases hl6 with e | e; rw [e] at hq; cases hq; exact .inr (e q hq)); have hrow6 := (hg6.block p HV5.out.plt (fun e => by cases e)).trans HV5.out.row; obtain ⟨-, -, c26, -, -, -, -, z6⟩ := xcells hrow6; have hbx6 := (hg6.block _ (row_lt HBX.out) (fun e => by cases e)).trans HBX.out; obtain ⟨W7, hW7⟩ : ∃ q, w6.setCell ⟨p, 2, none⟩ (.slice a6 m6 d6) = q := ⟨_, rfl⟩; have hbx7 : W7.heap[wr.heap.size]? = some (.cells #[.int .u8 f.kind, .string f.text] TF (0, 0)) := (by rw [← hW7]; exact (xo w6 p 2 _ _ HPB.out.1).trans hbx6); have g0 : W7.cell? ⟨wr.heap.size, 0, none⟩ = some (.int .u8 f.kind) := (cell_of_row _ _ _ _ _ _ hbx7).trans rfl; have g1 : W7.cell? ⟨wr.heap.size, 1, none⟩ = some (.string f.text) := (cell_of_row _ _ _ _ _ _ hbx7).trans rfl; have hz7 : W7.heap.size = w6.heap.size := (by rw [← hW7]; simp); rw [hW7] at hv7 ho7; obtain ⟨-, -, -, i3, -, -, -, iz⟩ := xcells hv7.row; replace i3 : W7.cell? ⟨p, 3, none⟩ = some (.int .i64 6) := i3.trans (by show some (Value.int .i64 (stX s3.st)) = _; rw [HSX.out]); have HO7 : Hid (Only S w W7) := Lib.hid (Mc.Only.sub (HO3.out.trans (Below.only HB5.out S)) (fun k hk => by have z := HB5.out.size; rcases HG3.out k hk with a | a; exact .inl a; exact .inr ⟨a.1, by omega⟩) ho7); have HG7 : Hid (∀ k, Grow S3 W5 w6 k → Grow S w W7 k) := Lib.hid (fun k hk => by (have z := HB5.out.size; have z2 := hg6.size; have z3 := HO3.out.2.2.2.1; rcases hk with hk | hk; (rcases HG3.out k hk with a | a; exact .inl a; exact .inr ⟨a.1, by have := a.2; omega⟩); exact .inr ⟨by have := hk.1; omega, by have := hk.2; omega⟩)); have HV7 := Lib.hid hv7; clear hq6 hg6 hl6 hv7 ho7 hrow6 hbx6 hbx7 hz7) | ((with_reducible refine (HCALL.out 7 _ (.inr (.inr ⟨rfl, rfl⟩)) H1.out HV7.out).mono ?_); rintro e w8 ⟨rfl, S8, vq8, vo8, b8, bd8, al8, tx8, hv8, hs8, ho8, hA8⟩; obtain ⟨q1, q2⟩ : (∀ k, S8 k → Grow S w w8 k) ∧ Only S w w8 := ⟨fun k hk => Mc.Grow.sub HO7.out.2.2.2.1 ho8.2.2.2.1 HG7.out (hs8 k hk), Mc.Only.sub HO7.out HG7.out ho8⟩; have HQ1 := Lib.hid q1; have HQ2 := Lib.hid q2; have HV8 := Lib.hid hv8; have HA8 := Lib.hid hA8; obtain ⟨-, -, j2, -, -, j5, -, jz⟩ := xcells hv8.row; clear hv8 hs8 ho8 hA8 q1 q2))
                go_quiet (fail)
                go_wp2
                go_ret2
                have hnx : nextV s = ((2, T), s8) := HE3.out.symm.trans (HLS.out (show (2 : Int) ≠ 0 by decide))
                obtain rfl := HA8.out trivial
                rw [hnx]
                exact mvr_mk HQ1.out HQ2.out (HV8.out.keep (w' := w8.drewN _) (fun _ _ => rfl) (Nat.le_refl _)) ⟨rfl, rfl, rfl, Nat.le_refl _, fun _ _ _ => rfl⟩
              · have hAn : (A != 0) = true := by simpa using hA
                have hA2n : (A == 2) = false := beq_eq_false_iff_ne.2 hA2
                have HAN := Lib.hid hA
                have HA2 := Lib.hid hA2
                clear hA hA2
                go_wp2_with (first | rw [hW5] | rw [hW7] | (at_builtin; refine appQue frmC_len Try.underlying29 rfl (by decide) info_frm rfl (.const (.slice none 0 0)) (.tmp 62) rfl rfl (OwnQ.nil (sz := 2) (C := frmC) TF W5 0) (.slice (some ⟨g, off, none⟩) q.length 0) rfl HSL.out (fun y hy => frmC_one y) (by have := HLM.out; unfold maxLen; simp only [List.length_nil]; omega) (by have := HLM.out; simp only [List.length_nil]; omega) (Nat.zero_le _) ?_; intro v6 w6 hq6 hg6 hl6; replace hg6 : W5.grownBy w6 none := hg6; replace hl6 : v6.ownBlock = none ∨ ∀ q, v6.ownBlock = some q → W5.heap.size ≤ q := hl6; rw [List.nil_append] at hq6; obtain ⟨a6, m6, d6, rfl⟩ := slice_que hq6; obtain ⟨hv7, ho7⟩ := HV5.out.qput hq6 hg6 (.inl rfl) (fun q hq => by rcases hl6 with e | e; rw [e] at hq; cases hq; exact .inr (e q hq)); have hrow6 := (hg6.block p HV5.out.plt (fun e => by cases e)).trans HV5.out.row; obtain ⟨-, -, c26, -, -, -, -, z6⟩ := xcells hrow6; have hbx6 := (hg6.block _ (row_lt HBX.out) (fun e => by cases e)).trans HBX.out; obtain ⟨W7, hW7⟩ : ∃ q, w6.setCell ⟨p, 2, none⟩ (.slice a6 m6 d6) = q := ⟨_, rfl⟩; have hbx7 : W7.heap[wr.heap.size]? = some (.cells #[.int .u8 f.kind, .string f.text] TF (0, 0)) := (by rw [← hW7]; exact (xo w6 p 2 _ _ HPB.out.1).trans hbx6); have g0 : W7.cell? ⟨wr.heap.size, 0, none⟩ = some (.int .u8 f.kind) := (cell_of_row _ _ _ _ _ _ hbx7).trans rfl; have g1 : W7.cell? ⟨wr.heap.size, 1, none⟩ = some (.string f.text) := (cell_of_row _ _ _ _ _ _ hbx7).trans rfl; have hz7 : W7.heap.size = w6.heap.size := (by rw [← hW7]; simp); rw [hW7] at hv7 ho7; obtain ⟨-, -, -, i3, -, -, -, iz⟩ := xcells hv7.row; replace i3 : W7.cell? ⟨p, 3, none⟩ = some (.int .i64 6) := i3.trans (by show some (Value.int .i64 (stX s3.st)) = _; rw [HSX.out]); have HO7 : Hid (Only S w W7) := Lib.hid (Mc.Only.sub (HO3.out.trans (Below.only HB5.out S)) (fun k hk => by have z := HB5.out.size; rcases HG3.out k hk with a | a; exact .inl a; exact .inr ⟨a.1, by omega⟩) ho7); have HG7 : Hid (∀ k, Grow S3 W5 w6 k → Grow S w W7 k) := Lib.hid (fun k hk => by (have z := HB5.out.size; have z2 := hg6.size; have z3 := HO3.out.2.2.2.1; rcases hk with hk | hk; (rcases HG3.out k hk with a | a; exact .inl a; exact .inr ⟨a.1, by have := a.2; omega⟩); exact .inr ⟨by have := hk.1; omega, by have := hk.2; omega⟩)); have HV7 := Lib.hid hv7; clear hq6 hg6 hl6 hv7 ho7 hrow6 hbx6 hbx7 hz7) | ((with_reducible refine (HCALL.out 7 _ (.inr (.inr ⟨rfl, rfl⟩)) H1.out HV7.out).mono ?_); rintro e w8 ⟨rfl, S8, vq8, vo8, b8, bd8, al8, tx8, hv8, hs8, ho8, hA8⟩; obtain ⟨q1, q2⟩ : (∀ k, S8 k → Grow S w w8 k) ∧ Only S w w8 := ⟨fun k hk => Mc.Grow.sub HO7.out.2.2.2.1 ho8.2.2.2.1 HG7.out (hs8 k hk), Mc.Only.sub HO7.out HG7.out ho8⟩; have HQ1 := Lib.hid q1; have HQ2 := Lib.hid q2; have HV8 := Lib.hid hv8; have HA8 := Lib.hid hA8; obtain ⟨-, -, j2, -, -, j5, -, jz⟩ := xcells hv8.row; clear hv8 hs8 ho8 hA8 q1 q2))
                go_ret2
                have hnx : nextV s = ((A, T), s8) := HE3.out.symm.trans (HLS.out HAN.out)
                obtain rfl : T = emp := HEM.out HA2.out
                rw [hnx]
                exact mvr_mk HQ1.out HQ2.out HV8.out (Only.refl _ _)
        · obtain rfl := hcb hc
          have hc3 : ¬ (cap = 1) := hc
          have hc4 : (1 : Int) ≤ (cap : Int) := by omega
          have hc5 : 1 ≤ cap := by omega
          clear hca hcb hc
          rcases hst with ⟨h1, hsx⟩ | ⟨h1, hsx⟩ | ⟨h1, hsx⟩
          · have H1 := Lib.hid h1
            have HSX := Lib.hid hsx
            replace e3 : W5.cell? ⟨p, 3, none⟩ = some (.int .i64 0) := by rw [e3, hsx]
            replace x3 : wr.cell? ⟨p, 3, none⟩ = some (.int .i64 0) := by rw [x3, hsx]
            clear h1 hsx
            rcases Decidable.em (A = 0) with hA | hA
            · subst hA
              go_wp2_with (first | rw [hW5] | rw [hW7] | (at_builtin; refine appQue frmC_len Try.underlying29 rfl (by decide) info_frm rfl (.const (.slice none 0 0)) (.tmp 62) rfl rfl (OwnQ.nil (sz := 2) (C := frmC) TF W5 0) (.slice (some ⟨g, off + 2, none⟩) q.length (cap - 1)) rfl HSL.out (fun y hy => frmC_one y) (by have := HLM.out; unfold maxLen; simp only [List.length_nil]; omega) (by have := HLM.out; simp only [List.length_nil]; omega) (Nat.zero_le _) ?_; intro v6 w6 hq6 hg6 hl6; replace hg6 : W5.grownBy w6 none := hg6; replace hl6 : v6.ownBlock = none ∨ ∀ q, v6.ownBlock = some q → W5.heap.size ≤ q := hl6; rw [List.nil_append] at hq6; obtain ⟨a6, m6, d6, rfl⟩ := slice_que hq6; obtain ⟨hv7, ho7⟩ := HV5.out.qput hq6 hg6 (.inl rfl) (fun q hq => by rcases hl6 with e | e; rw [e] at hq; cases hq; exact .inr (e q hq)); have hrow6 := (hg6.block p HV5.out.plt (fun e => by cases e)).trans HV5.out.row; obtain ⟨-, -, c26, -, -, -, -, z6⟩ := xcells hrow6; have hbx6 := (hg6.block _ (row_lt HBX.out) (fun e => by cases e)).trans HBX.out; obtain ⟨W7, hW7⟩ : ∃ q, w6.setCell ⟨p, 2, none⟩ (.slice a6 m6 d6) = q := ⟨_, rfl⟩; have hbx7 : W7.heap[wr.heap.size]? = some (.cells #[.int .u8 f.kind, .string f.text] TF (0, 0)) := (by rw [← hW7]; exact (xo w6 p 2 _ _ HPB.out.1).trans hbx6); have g0 : W7.cell? ⟨wr.heap.size, 0, none⟩ = some (.int .u8 f.kind) := (cell_of_row _ _ _ _ _ _ hbx7).trans rfl; have g1 : W7.cell? ⟨wr.heap.size, 1, none⟩ = some (.string f.text) := (cell_of_row _ _ _ _ _ _ hbx7).trans rfl; have hz7 : W7.heap.size = w6.heap.size := (by rw [← hW7]; simp); rw [hW7] at hv7 ho7; obtain ⟨-, -, -, i3, -, -, -, iz⟩ := xcells hv7.row; replace i3 : W7.cell? ⟨p, 3, none⟩ = some (.int .i64 0) := i3.trans (by show some (Value.int .i64 (stX s3.st)) = _; rw [HSX.out]); have HO7 : Hid (Only S w W7) := Lib.hid (Mc.Only.sub (HO3.out.trans (Below.only HB5.out S)) (fun k hk => by have z := HB5.out.size; rcases HG3.out k hk with a | a; exact .inl a; exact .inr ⟨a.1, by omega⟩) ho7); have HG7 : Hid (∀ k, Grow S3 W5 w6 k → Grow S w W7 k) := Lib.hid (fun k hk => by (have z := HB5.out.size; have z2 := hg6.size; have z3 := HO3.out.2.2.2.1; rcases hk with hk | hk; (rcases HG3.out k hk with a | a; exact .inl a; exact .inr ⟨a.1, by have := a.2; omega⟩); exact .inr ⟨by have := hk.1; omega, by have := hk.2; omega⟩)); have HV7 := Lib.hid hv7; clear hq6 hg6 hl6 hv7 ho7 hrow6 hbx6 hbx7 hz7) | ((with_reducible refine (HCALL.out 1 _ (.inl ⟨rfl, rfl⟩) H1.out HV7.out).mono ?_); rintro e w8 ⟨rfl, S8, vq8, vo8, b8, bd8, al8, tx8, hv8, hs8, ho8, hA8⟩; obtain ⟨q1, q2⟩ : (∀ k, S8 k → Grow S w w8 k) ∧ Only S w w8 := ⟨fun k hk => Mc.Grow.sub HO7.out.2.2.2.1 ho8.2.2.2.1 HG7.out (hs8 k hk), Mc.Only.sub HO7.out HG7.out ho8⟩; have HQ1 := Lib.hid q1; have HQ2 := Lib.hid q2; have HV8 := Lib.hid hv8; have HA8 := Lib.hid hA8; obtain ⟨-, -, j2, -, -, j5, -, jz⟩ := xcells hv8.row; clear hv8 hs8 ho8 hA8 q1 q2))
              have hv9 := HV8.out
              obtain ⟨a9, c9, hvq9, -⟩ := hv9.q.len
              rw [hvq9] at j2
              go_roundw
              case rel => exact Lib.hid ⟨S8, _, _, _, _, _, _, s8, hv9, HQ1.out, HQ2.out, (HLC.out trivial).symm.trans HE3.out, n3 - 1, m3 + 1, HOK.out, by have h2 : s8.q.length ≤ q.length := HPL.out; have := HLM.out; omega⟩
              case measure => (rw [j2, x2]; simp only []; have h2 : s8.q.length ≤ q.length := HPL.out; omega)
            · rcases Decidable.em (A = 2) with hA2 | hA2
              · subst hA2
                go_wp2_with (first | rw [hW5] | rw [hW7] | (at_builtin; refine appQue frmC_len Try.underlying29 rfl (by decide) info_frm rfl (.const (.slice none 0 0)) (.tmp 62) rfl rfl (OwnQ.nil (sz := 2) (C := frmC) TF W5 0) (.slice (some ⟨g, off + 2, none⟩) q.length (cap - 1)) rfl HSL.out (fun y hy => frmC_one y) (by have := HLM.out; unfold maxLen; simp only [List.length_nil]; omega) (by have := HLM.out; simp only [List.length_nil]; omega) (Nat.zero_le _) ?_; intro v6 w6 hq6 hg6 hl6; replace hg6 : W5.grownBy w6 none := hg6; replace hl6 : v6.ownBlock = none ∨ ∀ q, v6.ownBlock = some q → W5.heap.size ≤ q := hl6; rw [List.nil_append] at hq6; obtain ⟨a6, m6, d6, rfl⟩ := slice_que hq6; obtain ⟨hv7, ho7⟩ := HV5.out.qput hq6 hg6 (.inl rfl) (fun q hq => by rcases hl6 with e | e; rw [e] at hq; cases hq; exact .inr (e q hq)); have hrow6 := (hg6.block p HV5.out.plt (fun e => by cases e)).trans HV5.out.row; obtain ⟨-, -, c26, -, -, -, -, z6⟩ := xcells hrow6; have hbx6 := (hg6.block _ (row_lt HBX.out) (fun e => by cases e)).trans HBX.out; obtain ⟨W7, hW7⟩ : ∃ q, w6.setCell ⟨p, 2, none⟩ (.slice a6 m6 d6) = q := ⟨_, rfl⟩; have hbx7 : W7.heap[wr.heap.size]? = some (.cells #[.int .u8 f.kind, .string f.text] TF (0, 0)) := (by rw [← hW7]; exact (xo w6 p 2 _ _ HPB.out.1).trans hbx6); have g0 : W7.cell? ⟨wr.heap.size, 0, none⟩ = some (.int .u8 f.kind) := (cell_of_row _ _ _ _ _ _ hbx7).trans rfl; have g1 : W7.cell? ⟨wr.heap.size, 1, none⟩ = some (.string f.text) := (cell_of_row _ _ _ _ _ _ hbx7).trans rfl; have hz7 : W7.heap.size = w6.heap.size := (by rw [← hW7]; simp); rw [hW7] at hv7 ho7; obtain ⟨-, -, -, i3, -, -, -, iz⟩ := xcells hv7.row; replace i3 : W7.cell? ⟨p, 3, none⟩ = some (.int .i64 0) := i3.trans (by show some (Value.int .i64 (stX s3.st)) = _; rw [HSX.out]); have HO7 : Hid (Only S w W7) := Lib.hid (Mc.Only.sub (HO3.out.trans (Below.only HB5.out S)) (fun k hk => by have z := HB5.out.size; rcases HG3.out k hk with a | a; exact .inl a; exact .inr ⟨a.1, by omega⟩) ho7); have HG7 : Hid (∀ k, Grow S3 W5 w6 k → Grow S w W7 k) := Lib.hid (fun k hk => by (have z := HB5.out.size; have z2 := hg6.size; have z3 := HO3.out.2.2.2.1; rcases hk with hk | hk; (rcases HG3.out k hk with a | a; exact .inl a; exact .inr ⟨a.1, by have := a.2; omega⟩); exact .inr ⟨by have := hk.1; omega, by have := hk.2; omega⟩)); have HV7 := Lib.hid hv7; clear hq6 hg6 hl6 hv7 ho7 hrow6 hbx6 hbx7 hz7) | ((with_reducible refine (HCALL.out 1 _ (.inl ⟨rfl, rfl⟩) H1.out HV7.out).mono ?_); rintro e w8 ⟨rfl, S8, vq8, vo8, b8, bd8, al8, tx8, hv8, hs8, ho8, hA8⟩; obtain ⟨q1, q2⟩ : (∀ k, S8 k → Grow S w w8 k) ∧ Only S w w8 := ⟨fun k hk => Mc.Grow.sub HO7.out.2.2.2.1 ho8.2.2.2.1 HG7.out (hs8 k hk), Mc.Only.sub HO7.out HG7.out ho8⟩; have HQ1 := Lib.hid q1; have HQ2 := Lib.hid q2; have HV8 := Lib.hid hv8; have HA8 := Lib.hid hA8; obtain ⟨-, -, j2, -, -, j5, -, jz⟩ := xcells hv8.row; clear hv8 hs8 ho8 hA8 q1 q2))
                go_quiet (fail)
                go_wp2
                go_ret2
                have hnx : nextV s = ((2, T), s8) := HE3.out.symm.trans (HLS.out (show (2 : Int) ≠ 0 by decide))
                obtain rfl := HA8.out trivial
                rw [hnx]
                exact mvr_mk HQ1.out HQ2.out (HV8.out.keep (w' := w8.drewN _) (fun _ _ => rfl) (Nat.le_refl _)) ⟨rfl, rfl, rfl, Nat.le_refl _, fun _ _ _ => rfl⟩
              · have hAn : (A != 0) = true := by simpa using hA
                have hA2n : (A == 2) = false := beq_eq_false_iff_ne.2 hA2
                have HAN := Lib.hid hA
                have HA2 := Lib.hid hA2
                clear hA hA2
                go_wp2_with (first | rw [hW5] | rw [hW7] | (at_builtin; refine appQue frmC_len Try.underlying29 rfl (by decide) info_frm rfl (.const (.slice none 0 0)) (.tmp 62) rfl rfl (OwnQ.nil (sz := 2) (C := frmC) TF W5 0) (.slice (some ⟨g, off + 2, none⟩) q.length (cap - 1)) rfl HSL.out (fun y hy => frmC_one y) (by have := HLM.out; unfold maxLen; simp only [List.length_nil]; omega) (by have := HLM.out; simp only [List.length_nil]; omega) (Nat.zero_le _) ?_; intro v6 w6 hq6 hg6 hl6; replace hg6 : W5.grownBy w6 none := hg6; replace hl6 : v6.ownBlock = none ∨ ∀ q, v6.ownBlock = some q → W5.heap.size ≤ q := hl6; rw [List.nil_append] at hq6; obtain ⟨a6, m6, d6, rfl⟩ := slice_que hq6; obtain ⟨hv7, ho7⟩ := HV5.out.qput hq6 hg6 (.inl rfl) (fun q hq => by rcases hl6 with e | e; rw [e] at hq; cases hq; exact .inr (e q hq)); have hrow6 := (hg6.block p HV5.out.plt (fun e => by cases e)).trans HV5.out.row; obtain ⟨-, -, c26, -, -, -, -, z6⟩ := xcells hrow6; have hbx6 := (hg6.block _ (row_lt HBX.out) (fun e => by cases e)).trans HBX.out; obtain ⟨W7, hW7⟩ : ∃ q, w6.setCell ⟨p, 2, none⟩ (.slice a6 m6 d6) = q := ⟨_, rfl⟩; have hbx7 : W7.heap[wr.heap.size]? = some (.cells #[.int .u8 f.kind, .string f.text] TF (0, 0)) := (by rw [← hW7]; exact (xo w6 p 2 _ _ HPB.out.1).trans hbx6); have g0 : W7.cell? ⟨wr.heap.size, 0, none⟩ = some (.int .u8 f.kind) := (cell_of_row _ _ _ _ _ _ hbx7).trans rfl; have g1 : W7.cell? ⟨wr.heap.size, 1, none⟩ = some (.string f.text) := (cell_of_row _ _ _ _ _ _ hbx7).trans rfl; have hz7 : W7.heap.size = w6.heap.size := (by rw [← hW7]; simp); rw [hW7] at hv7 ho7; obtain ⟨-, -, -, i3, -, -, -, iz⟩ := xcells hv7.row; replace i3 : W7.cell? ⟨p, 3, none⟩ = some (.int .i64 0) := i3.trans (by show some (Value.int .i64 (stX s3.st)) = _; rw [HSX.out]); have HO7 : Hid (Only S w W7) := Lib.hid (Mc.Only.sub (HO3.out.trans (Below.only HB5.out S)) (fun k hk => by have z := HB5.out.size; rcases HG3.out k hk with a | a; exact .inl a; exact .inr ⟨a.1, by omega⟩) ho7); have HG7 : Hid (∀ k, Grow S3 W5 w6 k → Grow S w W7 k) := Lib.hid (fun k hk => by (have z := HB5.out.size; have z2 := hg6.size; have z3 := HO3.out.2.2.2.1; rcases hk with hk | hk; (rcases HG3.out k hk with a | a; exact .inl a; exact .inr ⟨a.1, by have := a.2; omega⟩); exact .inr ⟨by have := hk.1; omega, by have := hk.2; omega⟩)); have HV7 := Lib.hid hv7; clear hq6 hg6 hl6 hv7 ho7 hrow6 hbx6 hbx7 hz7) | ((with_reducible refine (HCALL.out 1 _ (.inl ⟨rfl, rfl⟩) H1.out HV7.out).mono ?_); rintro e w8 ⟨rfl, S8, vq8, vo8, b8, bd8, al8, tx8, hv8, hs8, ho8, hA8⟩; obtain ⟨q1, q2⟩ : (∀ k, S8 k → Grow S w w8 k) ∧ Only S w w8 := ⟨fun k hk => Mc.Grow.sub HO7.out.2.2.2.1 ho8.2.2.2.1 HG7.out (hs8 k hk), Mc.Only.sub HO7.out HG7.out ho8⟩; have HQ1 := Lib.hid q1; have HQ2 := Lib.hid q2; have HV8 := Lib.hid hv8; have HA8 := Lib.hid hA8; obtain ⟨-, -, j2, -, -, j5, -, jz⟩ := xcells hv8.row; clear hv8 hs8 ho8 hA8 q1 q2))
                go_ret2
                have hnx : nextV s = ((A, T), s8) := HE3.out.symm.trans (HLS.out HAN.out)
                obtain rfl : T = emp := HEM.out HA2.out
                rw [hnx]
                exact mvr_mk HQ1.out HQ2.out HV8.out (Only.refl _ _)
          · have H1 := Lib.hid h1
            have HSX := Lib.hid hsx
            replace e3 : W5.cell? ⟨p, 3, none⟩ = some (.int .i64 2) := by rw [e3, hsx]
            replace x3 : wr.cell? ⟨p, 3, none⟩ = some (.int .i64 2) := by rw [x3, hsx]
            clear h1 hsx
            rcases Decidable.em (A = 0) with hA | hA
            · subst hA
              go_wp2_with (first | rw [hW5] | rw [hW7] | (at_builtin; refine appQue frmC_len Try.underlying29 rfl (by decide) info_frm rfl (.const (.slice none 0 0)) (.tmp 62) rfl rfl (OwnQ.nil (sz := 2) (C := frmC) TF W5 0) (.slice (some ⟨g, off + 2, none⟩) q.length (cap - 1)) rfl HSL.out (fun y hy => frmC_one y) (by have := HLM.out; unfold maxLen; simp only [List.length_nil]; omega) (by have := HLM.out; simp only [List.length_nil]; omega) (Nat.zero_le _) ?_; intro v6 w6 hq6 hg6 hl6; replace hg6 : W5.grownBy w6 none := hg6; replace hl6 : v6.ownBlock = none ∨ ∀ q, v6.ownBlock = some q → W5.heap.size ≤ q := hl6; rw [List.nil_append] at hq6; obtain ⟨a6, m6, d6, rfl⟩ := slice_que hq6; obtain ⟨hv7, ho7⟩ := HV5.out.qput hq6 hg6 (.inl rfl) (fun q hq => by rcases hl6 with e | e; rw [e] at hq; cases hq; exact .inr (e q hq)); have hrow6 := (hg6.block p HV5.out.plt (fun e => by cases e)).trans HV5.out.row; obtain ⟨-, -, c26, -, -, -, -, z6⟩ := xcells hrow6; have hbx6 := (hg6.block _ (row_lt HBX.out) (fun e => by cases e)).trans HBX.out; obtain ⟨W7, hW7⟩ : ∃ q, w6.setCell ⟨p, 2, none⟩ (.slice a6 m6 d6) = q := ⟨_, rfl⟩; have hbx7 : W7.heap[wr.heap.size]? = some (.cells #[.int .u8 f.kind, .string f.text] TF (0, 0)) := (by rw [← hW7]; exact (xo w6 p 2 _ _ HPB.out.1).trans hbx6); have g0 : W7.cell? ⟨wr.heap.size, 0, none⟩ = some (.int .u8 f.kind) := (cell_of_row _ _ _ _ _ _ hbx7).trans rfl; have g1 : W7.cell? ⟨wr.heap.size, 1, none⟩ = some (.string f.text) := (cell_of_row _ _ _ _ _ _ hbx7).trans rfl; have hz7 : W7.heap.size = w6.heap.size := (by rw [← hW7]; simp); rw [hW7] at hv7 ho7; obtain ⟨-, -, -, i3, -, -, -, iz⟩ := xcells hv7.row; replace i3 : W7.cell? ⟨p, 3, none⟩ = some (.int .i64 2) := i3.trans (by show some (Value.int .i64 (stX s3.st)) = _; rw [HSX.out]); have HO7 : Hid (Only S w W7) := Lib.hid (Mc.Only.sub (HO3.out.trans (Below.only HB5.out S)) (fun k hk => by have z := HB5.out.size; rcases HG3.out k hk with a | a; exact .inl a; exact .inr ⟨a.1, by omega⟩) ho7); have HG7 : Hid (∀ k, Grow S3 W5 w6 k → Grow S w W7 k) := Lib.hid (fun k hk => by (have z := HB5.out.size; have z2 := hg6.size; have z3 := HO3.out.2.2.2.1; rcases hk with hk | hk; (rcases HG3.out k hk with a | a; exact .inl a; exact .inr ⟨a.1, by have := a.2; omega⟩); exact .inr ⟨by have := hk.1; omega, by have := hk.2; omega⟩)); have HV7 := Lib.hid hv7; clear hq6 hg6 hl6 hv7 ho7 hrow6 hbx6 hbx7 hz7) | ((with_reducible refine (HCALL.out 3 _ (.inr (.inl ⟨rfl, rfl⟩)) H1.out HV7.out).mono ?_); rintro e w8 ⟨rfl, S8, vq8, vo8, b8, bd8, al8, tx8, hv8, hs8, ho8, hA8⟩; obtain ⟨q1, q2⟩ : (∀ k, S8 k → Grow S w w8 k) ∧ Only S w w8 := ⟨fun k hk => Mc.Grow.sub HO7.out.2.2.2.1 ho8.2.2.2.1 HG7.out (hs8 k hk), Mc.Only.sub HO7.out HG7.out ho8⟩; have HQ1 := Lib.hid q1; have HQ2 := Lib.hid q2; have HV8 := Lib.hid hv8; have HA8 := Lib.hid hA8; obtain ⟨-, -, j2, -, -, j5, -, jz⟩ := xcells hv8.row; clear hv8 hs8 ho8 hA8 q1 q2))
              have hv9 := HV8.out
              obtain ⟨a9, c9, hvq9, -⟩ := hv9.q.len
              rw [hvq9] at j2
              go_roundw
              case rel => exact Lib.hid ⟨S8, _, _, _, _, _, _, s8, hv9, HQ1.out, HQ2.out, (HLC.out trivial).symm.trans HE3.out, n3 - 1, m3 + 1, HOK.out, by have h2 : s8.q.length ≤ q.length := HPL.out; have := HLM.out; omega⟩
              case measure => (rw [j2, x2]; simp only []; have h2 : s8.q.length ≤ q.length := HPL.out; omega)
            · rcases Decidable.em (A = 2) with hA2 | hA2
              · subst hA2
                go_wp2_with (first | rw [hW5] | rw [hW7] | (at_builtin; refine appQue frmC_len Try.underlying29 rfl (by decide) info_frm rfl (.const (.slice none 0 0)) (.tmp 62) rfl rfl (OwnQ.nil (sz := 2) (C := frmC) TF W5 0) (.slice (some ⟨g, off + 2, none⟩) q.length (cap - 1)) rfl HSL.out (fun y hy => frmC_one y) (by have := HLM.out; unfold maxLen; simp only [List.length_nil]; omega) (by have := HLM.out; simp only [List.length_nil]; omega) (Nat.zero_le _) ?_; intro v6 w6 hq6 hg6 hl6; replace hg6 : W5.grownBy w6 none := hg6; replace hl6 : v6.ownBlock = none ∨ ∀ q, v6.ownBlock = some q → W5.heap.size ≤ q := hl6; rw [List.nil_append] at hq6; obtain ⟨a6, m6, d6, rfl⟩ := slice_que hq6; obtain ⟨hv7, ho7⟩ := HV5.out.qput hq6 hg6 (.inl rfl) (fun q hq => by rcases hl6 with e | e; rw [e] at hq; cases hq; exact .inr (e q hq)); have hrow6 := (hg6.block p HV5.out.plt (fun e => by cases e)).trans HV5.out.row; obtain ⟨-, -, c26, -, -, -, -, z6⟩ := xcells hrow6; have hbx6 := (hg6.block _ (row_lt HBX.out) (fun e => by cases e)).trans HBX.out; obtain ⟨W7, hW7⟩ : ∃ q, w6.setCell ⟨p, 2, none⟩ (.slice a6 m6 d6) = q := ⟨_, rfl⟩; have hbx7 : W7.heap[wr.heap.size]? = some (.cells #[.int .u8 f.kind, .string f.text] TF (0, 0)) := (by rw [← hW7]; exact (xo w6 p 2 _ _ HPB.out.1).trans hbx6); have g0 : W7.cell? ⟨wr.heap.size, 0, none⟩ = some (.int .u8 f.kind) := (cell_of_row _ _ _ _ _ _ hbx7).trans rfl; have g1 : W7.cell? ⟨wr.heap.size, 1, none⟩ = some (.string f.text) := (cell_of_row _ _ _ _ _ _ hbx7).trans rfl; have hz7 : W7.heap.size = w6.heap.size := (by rw [← hW7]; simp); rw [hW7] at hv7 ho7; obtain ⟨-, -, -, i3, -, -, -, iz⟩ := xcells hv7.row; replace i3 : W7.cell? ⟨p, 3, none⟩ = some (.int .i64 2) := i3.trans (by show some (Value.int .i64 (stX s3.st)) = _; rw [HSX.out]); have HO7 : Hid (Only S w W7) := Lib.hid (Mc.Only.sub (HO3.out.trans (Below.only HB5.out S)) (fun k hk => by have z := HB5.out.size; rcases HG3.out k hk with a | a; exact .inl a; exact .inr ⟨a.1, by omega⟩) ho7); have HG7 : Hid (∀ k, Grow S3 W5 w6 k → Grow S w W7 k) := Lib.hid (fun k hk => by (have z := HB5.out.size; have z2 := hg6.size; have z3 := HO3.out.2.2.2.1; rcases hk with hk | hk; (rcases HG3.out k hk with a | a; exact .inl a; exact .inr ⟨a.1, by have := a.2; omega⟩); exact .inr ⟨by have := hk.1; omega, by have := hk.2; omega⟩)); have HV7 := Lib.hid hv7; clear hq6 hg6 hl6 hv7 ho7 hrow6 hbx6 hbx7 hz7) | ((with_reducible refine (HCALL.out 3 _ (.inr (.inl ⟨rfl, rfl⟩)) H1.out HV7.out).mono ?_); rintro e w8 ⟨rfl, S8, vq8, vo8, b8, bd8, al8, tx8, hv8, hs8, ho8, hA8⟩; obtain ⟨q1, q2⟩ : (∀ k, S8 k → Grow S w w8 k) ∧ Only S w w8 := ⟨fun k hk => Mc.Grow.sub HO7.out.2.2.2.1 ho8.2.2.2.1 HG7.out (hs8 k hk), Mc.Only.sub HO7.out HG7.out ho8⟩; have HQ1 := Lib.hid q1; have HQ2 := Lib.hid q2; have HV8 := Lib.hid hv8; have HA8 := Lib.hid hA8; obtain ⟨-, -, j2, -, -, j5, -, jz⟩ := xcells hv8.row; clear hv8 hs8 ho8 hA8 q1 q2))
                go_quiet (fail)
                go_wp2
                go_ret2
                have hnx : nextV s = ((2, T), s8) := HE3.out.symm.trans (HLS.out (show (2 : Int) ≠ 0 by decide))
                obtain rfl := HA8.out trivial
                rw [hnx]
                exact mvr_mk HQ1.out HQ2.out (HV8.out.keep (w' := w8.drewN _) (fun _ _ => rfl) (Nat.le_refl _)) ⟨rfl, rfl, rfl, Nat.le_refl _, fun _ _ _ => rfl⟩
              · have hAn : (A != 0) = true := by simpa using hA
                have hA2n : (A == 2) = false := beq_eq_false_iff_ne.2 hA2
                have HAN := Lib.hid hA
                have HA2 := Lib.hid hA2
                clear hA hA2
                go_wp2_with (first | rw [hW5] | rw [hW7] | (at_builtin; refine appQue frmC_len Try.underlying29 rfl (by decide) info_frm rfl (.const (.slice none 0 0)) (.tmp 62) rfl rfl (OwnQ.nil (sz := 2) (C := frmC) TF W5 0) (.slice (some ⟨g, off + 2, none⟩) q.length (cap - 1)) rfl HSL.out (fun y hy => frmC_one y) (by have := HLM.out; unfold maxLen; simp only [List.length_nil]; omega) (by have := HLM.out; simp only [List.length_nil]; omega) (Nat.zero_le _) ?_; intro v6 w6 hq6 hg6 hl6; replace hg6 : W5.grownBy w6 none := hg6; replace hl6 : v6.ownBlock = none ∨ ∀ q, v6.ownBlock = some q → W5.heap.size ≤ q := hl6; rw [List.nil_append] at hq6; obtain ⟨a6, m6, d6, rfl⟩ := slice_que hq6; obtain ⟨hv7, ho7⟩ := HV5.out.qput hq6 hg6 (.inl rfl) (fun q hq => by rcases hl6 with e | e; rw [e] at hq; cases hq; exact .inr (e q hq)); have hrow6 := (hg6.block p HV5.out.plt (fun e => by cases e)).trans HV5.out.row; obtain ⟨-, -, c26, -, -, -, -, z6⟩ := xcells hrow6; have hbx6 := (hg6.block _ (row_lt HBX.out) (fun e => by cases e)).trans HBX.out; obtain ⟨W7, hW7⟩ : ∃ q, w6.setCell ⟨p, 2, none⟩ (.slice a6 m6 d6) = q := ⟨_, rfl⟩; have hbx7 : W7.heap[wr.heap.size]? = some (.cells #[.int .u8 f.kind, .string f.text] TF (0, 0)) := (by rw [← hW7]; exact (xo w6 p 2 _ _ HPB.out.1).trans hbx6); have g0 : W7.cell? ⟨wr.heap.size, 0, none⟩ = some (.int .u8 f.kind) := (cell_of_row _ _ _ _ _ _ hbx7).trans rfl; have g1 : W7.cell? ⟨wr.heap.size, 1, none⟩ = some (.string f.text) := (cell_of_row _ _ _ _ _ _ hbx7).trans rfl; have hz7 : W7.heap.size = w6.heap.size := (by rw [← hW7]; simp); rw [hW7] at hv7 ho7; obtain ⟨-, -, -, i3, -, -, -, iz⟩ := xcells hv7.row; replace i3 : W7.cell? ⟨p, 3, none⟩ = some (.int .i64 2) := i3.trans (by show some (Value.int .i64 (stX s3.st)) = _; rw [HSX.out]); have HO7 : Hid (Only S w W7) := Lib.hid (Mc.Only.sub (HO3.out.trans (Below.only HB5.out S)) (fun k hk => by have z := HB5.out.size; rcases HG3.out k hk with a | a; exact .inl a; exact .inr ⟨a.1, by omega⟩) ho7); have HG7 : Hid (∀ k, Grow S3 W5 w6 k → Grow S w W7 k) := Lib.hid (fun k hk => by (have z := HB5.out.size; have z2 := hg6.size; have z3 := HO3.out.2.2.2.1; rcases hk with hk | hk; (rcases HG3.out k hk with a | a; exact .inl a; exact .inr ⟨a.1, by have := a.2; omega⟩); exact .inr ⟨by have := hk.1; omega, by have := hk.2; omega⟩)); have HV7 := Lib.hid hv7; clear hq6 hg6 hl6 hv7 ho7 hrow6 hbx6 hbx7 hz7) | ((with_reducible refine (HCALL.out 3 _ (.inr (.inl ⟨rfl, rfl⟩)) H1.out HV7.out).mono ?_); rintro e w8 ⟨rfl, S8, vq8, vo8, b8, bd8, al8, tx8, hv8, hs8, ho8, hA8⟩; obtain ⟨q1, q2⟩ : (∀ k, S8 k → Grow S w w8 k) ∧ Only S w w8 := ⟨fun k hk => Mc.Grow.sub HO7.out.2.2.2.1 ho8.2.2.2.1 HG7.out (hs8 k hk), Mc.Only.sub HO7.out HG7.out ho8⟩; have HQ1 := Lib.hid q1; have HQ2 := Lib.hid q2; have HV8 := Lib.hid hv8; have HA8 := Lib.hid hA8; obtain ⟨-, -, j2, -, -, j5, -, jz⟩ := xcells hv8.row; clear hv8 hs8 ho8 hA8 q1 q2))
                go_ret2
                have hnx : nextV s = ((A, T), s8) := HE3.out.symm.trans (HLS.out HAN.out)
                obtain rfl : T = emp := HEM.out HA2.out
                rw [hnx]
                exact mvr_mk HQ1.out HQ2.out HV8.out (Only.refl _ _)
          · have H1 := Lib.hid h1
            have HSX := Lib.hid hsx
            replace e3 : W5.cell? ⟨p, 3, none⟩ = some (.int .i64 6) := by rw [e3, hsx]
            replace x3 : wr.cell? ⟨p, 3, none⟩ = some (.int .i64 6) := by rw [x3, hsx]
            clear h1 hsx
            rcases Decidable.em (A = 0) with hA | hA
            · subst hA
              go_wp2_with (first | rw [hW5] | rw [hW7] | (at_builtin; refine appQue frmC_len Try.underlying29 rfl (by decide) info_frm rfl (.const (.slice none 0 0)) (.tmp 62) rfl rfl (OwnQ.nil (sz := 2) (C := frmC) TF W5 0) (.slice (some ⟨g, off + 2, none⟩) q.length (cap - 1)) rfl HSL.out (fun y hy => frmC_one y) (by have := HLM.out; unfold maxLen; simp only [List.length_nil]; omega) (by have := HLM.out; simp only [List.length_nil]; omega) (Nat.zero_le _) ?_; intro v6 w6 hq6 hg6 hl6; replace hg6 : W5.grownBy w6 none := hg6; replace hl6 : v6.ownBlock = none ∨ ∀ q, v6.ownBlock = some q → W5.heap.size ≤ q := hl6; rw [List.nil_append] at hq6; obtain ⟨a6, m6, d6, rfl⟩ := slice_que hq6; obtain ⟨hv7, ho7⟩ := HV5.out.qput hq6 hg6 (.inl rfl) (fun q hq => by rcases hl6 with e | e; rw [e] at hq; cases hq; exact .inr (e q hq)); have hrow6 := (hg6.block p HV5.out.plt (fun e => by cases e)).trans HV5.out.row; obtain ⟨-, -, c26, -, -, -, -, z6⟩ := xcells hrow6; have hbx6 := (hg6.block _ (row_lt HBX.out) (fun e => by cases e)).trans HBX.out; obtain ⟨W7, hW7⟩ : ∃ q, w6.setCell ⟨p, 2, none⟩ (.slice a6 m6 d6) = q := ⟨_, rfl⟩; have hbx7 : W7.heap[wr.heap.size]? = some (.cells #[.int .u8 f.kind, .string f.text] TF (0, 0)) := (by rw [← hW7]; exact (xo w6 p 2 _ _ HPB.out.1).trans hbx6); have g0 : W7.cell? ⟨wr.heap.size, 0, none⟩ = some (.int .u8 f.kind) := (cell_of_row _ _ _ _ _ _ hbx7).trans rfl; have g1 : W7.cell? ⟨wr.heap.size, 1, none⟩ = some (.string f.text) := (cell_of_row _ _ _ _ _ _ hbx7).trans rfl; have hz7 : W7.heap.size = w6.heap.size := (by rw [← hW7]; simp); rw [hW7] at hv7 ho7; obtain ⟨-, -, -, i3, -, -, -, iz⟩ := xcells hv7.row; replace i3 : W7.cell? ⟨p, 3, none⟩ = some (.int .i64 6) := i3.trans (by show some (Value.int .i64 (stX s3.st)) = _; rw [HSX.out]); have HO7 : Hid (Only S w W7) := Lib.hid (Mc.Only.sub (HO3.out.trans (Below.only HB5.out S)) (fun k hk => by have z := HB5.out.size; rcases HG3.out k hk with a | a; exact .inl a; exact .inr ⟨a.1, by omega⟩) ho7); have HG7 : Hid (∀ k, Grow S3 W5 w6 k → Grow S w W7 k) := Lib.hid (fun k hk => by (have z := HB5.out.size; have z2 := hg6.size; have z3 := HO3.out.2.2.2.1; rcases hk with hk | hk; (rcases HG3.out k hk with a | a; exact .inl a; exact .inr ⟨a.1, by have := a.2; omega⟩); exact .inr ⟨by have := hk.1; omega, by have := hk.2; omega⟩)); have HV7 := Lib.hid hv7; clear hq6 hg6 hl6 hv7 ho7 hrow6 hbx6 hbx7 hz7) | ((with_reducible refine (HCALL.out 7 _ (.inr (.inr ⟨rfl, rfl⟩)) H1.out HV7.out).mono ?_); rintro e w8 ⟨rfl, S8, vq8, vo8, b8, bd8, al8, tx8, hv8, hs8, ho8, hA8⟩; obtain ⟨q1, q2⟩ : (∀ k, S8 k → Grow S w w8 k) ∧ Only S w w8 := ⟨fun k hk => Mc.Grow.sub HO7.out.2.2.2.1 ho8.2.2.2.1 HG7.out (hs8 k hk), Mc.Only.sub HO7.out HG7.out ho8⟩; have HQ1 := Lib.hid q1; have HQ2 := Lib.hid q2; have HV8 := Lib.hid hv8; have HA8 := Lib.hid hA8; obtain ⟨-, -, j2, -, -, j5, -, jz⟩ := xcells hv8.row; clear hv8 hs8 ho8 hA8 q1 q2))
              have hv9 := HV8.out
              obtain ⟨a9, c9, hvq9, -⟩ := hv9.q.len
              rw [hvq9] at j2
              go_roundw
              case rel => exact Lib.hid ⟨S8, _, _, _, _, _, _, s8, hv9, HQ1.out, HQ2.out, (HLC.out trivial).symm.trans HE3.out, n3 - 1, m3 + 1, HOK.out, by have h2 : s8.q.length ≤ q.length := HPL.out; have := HLM.out; omega⟩
              case measure => (rw [j2, x2]; simp only []; have h2 : s8.q.length ≤ q.length := HPL.out; omega)
            · rcases Decidable.em (A = 2) with hA2 | hA2
              · subst hA2
                go_wp2_with (first | rw [hW5] | rw [hW7] | (at_builtin; refine appQue frmC_len Try.underlying29 rfl (by decide) info_frm rfl (.const (.slice none 0 0)) (.tmp 62) rfl rfl (OwnQ.nil (sz := 2) (C := frmC) TF W5 0) (.slice (some ⟨g, off + 2, none⟩) q.length (cap - 1)) rfl HSL.out (fun y hy => frmC_one y) (by have := HLM.out; unfold maxLen; simp only [List.length_nil]; omega) (by have := HLM.out; simp only [List.length_nil]; omega) (Nat.zero_le _) ?_; intro v6 w6 hq6 hg6 hl6; replace hg6 : W5.grownBy w6 none := hg6; replace hl6 : v6.ownBlock = none ∨ ∀ q, v6.ownBlock = some q → W5.heap.size ≤ q := hl6; rw [List.nil_append] at hq6; obtain ⟨a6, m6, d6, rfl⟩ := slice_que hq6; obtain ⟨hv7, ho7⟩ := HV5.out.qput hq6 hg6 (.inl rfl) (fun q hq => by rcases hl6 with e | e; rw [e] at hq; cases hq; exact .inr (e q hq)); have hrow6 := (hg6.block p HV5.out.plt (fun e => by cases e)).trans HV5.out.row; obtain ⟨-, -, c26, -, -, -, -, z6⟩ := xcells hrow6; have hbx6 := (hg6.block _ (row_lt HBX.out) (fun e => by cases e)).trans HBX.out; obtain ⟨W7, hW7⟩ : ∃ q, w6.setCell ⟨p, 2, none⟩ (.slice a6 m6 d6) = q := ⟨_, rfl⟩; have hbx7 : W7.heap[wr.heap.size]? = some (.cells #[.int .u8 f.kind, .string f.text] TF (0, 0)) := (by rw [← hW7]; exact (xo w6 p 2 _ _ HPB.out.1).trans hbx6); have g0 : W7.cell? ⟨wr.heap.size, 0, none⟩ = some (.int .u8 f.kind) := (cell_of_row _ _ _ _ _ _ hbx7).trans rfl; have g1 : W7.cell? ⟨wr.heap.size, 1, none⟩ = some (.string f.text) := (cell_of_row _ _ _ _ _ _ hbx7).trans rfl; have hz7 : W7.heap.size = w6.heap.size := (by rw [← hW7]; simp); rw [hW7] at hv7 ho7; obtain ⟨-, -, -, i3, -, -, -, iz⟩ := xcells hv7.row; replace i3 : W7.cell? ⟨p, 3, none⟩ = some (.int .i64 6) := i3.trans (by show some (Value.int .i64 (stX s3.st)) = _; rw [HSX.out]); have HO7 : Hid (Only S w W7) := Lib.hid (Mc.Only.sub (HO3.out.trans (Below.only HB5.out S)) (fun k hk => by have z := HB5.out.size; rcases HG3.out k hk with a | a; exact .inl a; exact .inr ⟨a.1, by omega⟩) ho7); have HG7 : Hid (∀ k, Grow S3 W5 w6 k → Grow S w W7 k) := Lib.hid (fun k hk => by (have z := HB5.out.size; have z2 := hg6.size; have z3 := HO3.out.2.2.2.1; rcases hk with hk | hk; (rcases HG3.out k hk with a | a; exact .inl a; exact .inr ⟨a.1, by have := a.2; omega⟩); exact .inr ⟨by have := hk.1; omega, by have := hk.2; omega⟩)); have HV7 := Lib.hid hv7; clear hq6 hg6 hl6 hv7 ho7 hrow6 hbx6 hbx7 hz7) | ((with_reducible refine (HCALL.out 7 _ (.inr (.inr ⟨rfl, rfl⟩)) H1.out HV7.out).mono ?_); rintro e w8 ⟨rfl, S8, vq8, vo8, b8, bd8, al8, tx8, hv8, hs8, ho8, hA8⟩; obtain ⟨q1, q2⟩ : (∀ k, S8 k → Grow S w w8 k) ∧ Only S w w8 := ⟨fun k hk => Mc.Grow.sub HO7.out.2.2.2.1 ho8.2.2.2.1 HG7.out (hs8 k hk), Mc.Only.sub HO7.out HG7.out ho8⟩; have HQ1 := Lib.hid q1; have HQ2 := Lib.hid q2; have HV8 := Lib.hid hv8; have HA8 := Lib.hid hA8; obtain ⟨-, -, j2, -, -, j5, -, jz⟩ := xcells hv8.row; clear hv8 hs8 ho8 hA8 q1 q2))
                go_quiet (fail)
                go_wp2
                go_ret2
                have hnx : nextV s = ((2, T), s8) := HE3.out.symm.trans (HLS.out (show (2 : Int) ≠ 0 by decide))
                obtain rfl := HA8.out trivial
                rw [hnx]
                exact mvr_mk HQ1.out HQ2.out (HV8.out.keep (w' := w8.drewN _) (fun _ _ => rfl) (Nat.le_refl _)) ⟨rfl, rfl, rfl, Nat.le_refl _, fun _ _ _ => rfl⟩
              · have hAn : (A != 0) = true := by simpa using hA
                have hA2n : (A == 2) = false := beq_eq_false_iff_ne.2 hA2
                have HAN := Lib.hid hA
                have HA2 := Lib.hid hA2
                clear hA hA2
                go_wp2_with (first | rw [hW5] | rw [hW7] | (at_builtin; refine appQue frmC_len Try.underlying29 rfl (by decide) info_frm rfl (.const (.slice none 0 0)) (.tmp 62) rfl rfl (OwnQ.nil (sz := 2) (C := frmC) TF W5 0) (.slice (some ⟨g, off + 2, none⟩) q.length (cap - 1)) rfl HSL.out (fun y hy => frmC_one y) (by have := HLM.out; unfold maxLen; simp only [List.length_nil]; omega) (by have := HLM.out; simp only [List.length_nil]; omega) (Nat.zero_le _) ?_; intro v6 w6 hq6 hg6 hl6; replace hg6 : W5.grownBy w6 none := hg6; replace hl6 : v6.ownBlock = none ∨ ∀ q, v6.ownBlock = some q → W5.heap.size ≤ q := hl6; rw [List.nil_append] at hq6; obtain ⟨a6, m6, d6, rfl⟩ := slice_que hq6; obtain ⟨hv7, ho7⟩ := HV5.out.qput hq6 hg6 (.inl rfl) (fun q hq => by rcases hl6 with e | e; rw [e] at hq; cases hq; exact .inr (e q hq)); have hrow6 := (hg6.block p HV5.out.plt (fun e => by cases e)).trans HV5.out.row; obtain ⟨-, -, c26, -, -, -, -, z6⟩ := xcells hrow6; have hbx6 := (hg6.block _ (row_lt HBX.out) (fun e => by cases e)).trans HBX.out; obtain ⟨W7, hW7⟩ : ∃ q, w6.setCell ⟨p, 2, none⟩ (.slice a6 m6 d6) = q := ⟨_, rfl⟩; have hbx7 : W7.heap[wr.heap.size]? = some (.cells #[.int .u8 f.kind, .string f.text] TF (0, 0)) := (by rw [← hW7]; exact (xo w6 p 2 _ _ HPB.out.1).trans hbx6); have g0 : W7.cell? ⟨wr.heap.size, 0, none⟩ = some (.int .u8 f.kind) := (cell_of_row _ _ _ _ _ _ hbx7).trans rfl; have g1 : W7.cell? ⟨wr.heap.size, 1, none⟩ = some (.string f.text) := (cell_of_row _ _ _ _ _ _ hbx7).trans rfl; have hz7 : W7.heap.size = w6.heap.size := (by rw [← hW7]; simp); rw [hW7] at hv7 ho7; obtain ⟨-, -, -, i3, -, -, -, iz⟩ := xcells hv7.row; replace i3 : W7.cell? ⟨p, 3, none⟩ = some (.int .i64 6) := i3.trans (by show some (Value.int .i64 (stX s3.st)) = _; rw [HSX.out]); have HO7 : Hid (Only S w W7) := Lib.hid (Mc.Only.sub (HO3.out.trans (Below.only HB5.out S)) (fun k hk => by have z := HB5.out.size; rcases HG3.out k hk with a | a; exact .inl a; exact .inr ⟨a.1, by omega⟩) ho7); have HG7 : Hid (∀ k, Grow S3 W5 w6 k → Grow S w W7 k) := Lib.hid (fun k hk => by (have z := HB5.out.size; have z2 := hg6.size; have z3 := HO3.out.2.2.2.1; rcases hk with hk | hk; (rcases HG3.out k hk with a | a; exact .inl a; exact .inr ⟨a.1, by have := a.2; omega⟩); exact .inr ⟨by have := hk.1; omega, by have := hk.2; omega⟩)); have HV7 := Lib.hid hv7; clear hq6 hg6 hl6 hv7 ho7 hrow6 hbx6 hbx7 hz7) | ((with_reducible refine (HCALL.out 7 _ (.inr (.inr ⟨rfl, rfl⟩)) H1.out HV7.out).mono ?_); rintro e w8 ⟨rfl, S8, vq8, vo8, b8, bd8, al8, tx8, hv8, hs8, ho8, hA8⟩; obtain ⟨q1, q2⟩ : (∀ k, S8 k → Grow S w w8 k) ∧ Only S w w8 := ⟨fun k hk => Mc.Grow.sub HO7.out.2.2.2.1 ho8.2.2.2.1 HG7.out (hs8 k hk), Mc.Only.sub HO7.out HG7.out ho8⟩; have HQ1 := Lib.hid q1; have HQ2 := Lib.hid q2; have HV8 := Lib.hid hv8; have HA8 := Lib.hid hA8; obtain ⟨-, -, j2, -, -, j5, -, jz⟩ := xcells hv8.row; clear hv8 hs8 ho8 hA8 q1 q2))
                go_ret2
                have hnx : nextV s = ((A, T), s8) := HE3.out.symm.trans (HLS.out HAN.out)
                obtain rfl : T = emp := HEM.out HA2.out
                rw [hnx]
                exact mvr_mk HQ1.out HQ2.out HV8.out (Only.refl _ _)
      · have HF : Hid (∀ r, r = nextV s → MvR (.tuple #[.int .i64 r.1.1, .string r.1.2]) p r.2 S w (.returned (.tuple #[.int .i64 0, .string ⟨#[]⟩])) wr) := Lib.hid (by
          rintro r rfl
          rw [← HE3.out, loop_end (.inr ht)]
          exact mvr_mk HG3.out HO3.out HV3.out (Only.refl _ _))
        have hn0 : stX s3.st ≠ 0 := by unfold takesS at ht; unfold stX; split <;> omega
        have hn2 : stX s3.st ≠ 2 := by unfold takesS at ht; unfold stX; split <;> omega
        have hn6 : stX s3.st ≠ 6 := by unfold takesS at ht; unfold stX; split <;> omega
        generalize stX s3.st = z3 at *
        have hm0 : (z3 == 0) = false := beq_eq_false_iff_ne.2 hn0
        have hm2 : (z3 == 2) = false := beq_eq_false_iff_ne.2 hn2
        have hm6 : (z3 == 6) = false := beq_eq_false_iff_ne.2 hn6
        clear hq hq4 hv3 hok3 hl3 ht hfc hn0 hn2 hn6
        go_wp2
        go_ret2
        exact HF.out _ rfl
end
end Mv
end Go.Proofs.Ytdakkjpejhlciaa
