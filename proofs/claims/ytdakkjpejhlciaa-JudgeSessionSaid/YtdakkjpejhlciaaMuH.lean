/- A client's session: Next. No condition. -/
import Derived.Test.YtdakkjpejhlciaaMuF
import Derived.Deep.DeepCutAuto
namespace Go.Proofs.Ytdakkjpejhlciaa
open Go.ChangeShapes Go.WideShapes Go.ChangeAt Go.RowKit Go.Deep
set_option linter.unusedVariables false
set_option maxRecDepth 100000
set_option linter.unusedSimpArgs false
namespace Mu
open St Mc
section
variable {w w' w1 w2 : World} {S S' : Nat → Prop} {p : Nat} {vr vq vo vr' vq' vo' r : Value} {s s' : Ses}
/-- the first frame is taken off -/
theorem SesV.pop {f : Frm} {q : List Frm} (h : SesV w S p vr vq vo s) (hq : s.q = f :: q) : SesV (w.setCell ⟨p, 4, none⟩ (tailQ 2 vq)) S p vr (tailQ 2 vq) vo { s with q := q } := by
  have hb : ∀ k, k ≠ p → (w.setCell ⟨p, 4, none⟩ (tailQ 2 vq)).heap[k]? = w.heap[k]? := fun k hk => heap_setCell_other w ⟨p, 4, none⟩ k _ hk
  have h1 := h.put (s' := s) (w' := w.setCell ⟨p, 0, none⟩ (.int .i64 s.st)) ((heap_setCell_same w p 0 _ TS _ h.row).trans rfl) (fun k hk => heap_setCell_other w ⟨p, 0, none⟩ k _ hk) (by simp) rfl rfl h.rdr
  have hq2 := h.q
  rw [hq] at hq2
  refine ⟨(heap_setCell_same w p 4 _ TS _ h.row).trans rfl, h.sp, ?_, (hq2.tail frmC_len).keep (fun k hk => hb k (h.qne k (by rwa [tailQ_block] at hk))), fun k hk => h.qs k (by rwa [tailQ_block] at hk), own_keep h.o (fun k hk _ => hb k (h.one k hk)), h.os, fun k hk => by have := h.low k hk; simpa using this⟩
  rcases h.rdr with h1 | ⟨h0, g, b, h1, h2, h3, h4⟩
  · exact .inl h1
  · obtain ⟨vt, g1, g2, g3, g4⟩ := h3
    refine .inr ⟨h0, g, b, h1, h2, Rdr.same ⟨vt, g1, g2, g3, g4⟩ (hb g ?_) (fun q hq => hb q ?_), h4⟩
    · rintro rfl
      rw [h.row] at g1
      simp only [Option.some.injEq, Obj.cells.injEq] at g1
      exact absurd g1.2.1 (by decide)
    · rintro rfl
      subst g3
      exact own_ty g2 h.row (by decide) _ hq rfl
theorem proc_out (s : Ses) (f : Frm) : (procV s f).2.out.length ≤ s.out.length + 1 := by
  have ht : ∀ r, (s.tell r).out.length = s.out.length + 1 := fun r => by show (s.out ++ [r]).length = _; rw [List.length_append]; rfl
  have hh : ∀ r, (hangS (s.tell r)).out.length = s.out.length + 1 := fun r => ht r
  unfold procV
  split
  · split
    · exact Nat.le_succ _
    · split
      · exact Nat.le_succ _
      · split
        · exact Nat.le_of_eq (ht _)
        · exact Nat.le_of_eq (hh _)
  · split
    · split
      · exact Nat.le_of_eq (ht _)
      · split
        · exact Nat.le_succ _
        · split
          · exact Nat.le_of_eq (ht _)
          · exact Nat.le_of_eq (hh _)
    · split
      · exact Nat.le_of_eq (ht _)
      · exact Nat.le_of_eq (hh _)
/-- on the way through the frames -/
def NxR (p : Nat) (S : Nat → Prop) (w : World) (s : Ses) (wr : World) : Prop :=
  ∃ S' vr vq vo s', SesV wr S' p vr vq vo s' ∧ (∀ k, S' k → Grow S w wr k) ∧ Only S w wr ∧ loopV s'.q.length s' = nextV s ∧ s'.out.length + s'.q.length ≤ 1000000
set_option maxHeartbeats 4000000 in
theorem next_any (w : World) (h : SesV w S p vr vq vo s) (hl : s.out.length + s.q.length ≤ 1000000) : Calls Try.prog 11 #[.pointer (some ⟨p, 0, none⟩)] w (MuR (.tuple #[.int .i64 (nextV s).1.1, .string (nextV s).1.2]) p (nextV s).2 S w) := by
  obtain ⟨W1, hW1⟩ : ∃ q, w.alloc (.cells #[.int .i64 4] 67) = q := ⟨_, rfl⟩
  have hb1 : Below w.heap.size w W1 := by rw [← hW1]; exact (Below.refl _ _).alloc (Nat.le_refl _) _
  have HB1 : Hid (Below w.heap.size w W1) := Lib.hid (hb1)
  have hv1 := h.below hb1
  have HV1 := Lib.hid hv1
  obtain ⟨c01, c11, c21, -, -, c51, z1⟩ := hv1.cells
  have HLS1 : Hid (Sl .i64 W1 (.slice (some ⟨w.heap.size, 0, none⟩) 1 1) [4]) := Lib.hid (by rw [← hW1]; exact Sl.new w _ [4] rfl rfl (Nat.le_refl _) (by decide) (by decide))
  clear hb1 hv1
  by_cases h4 : s.st = 4
  · have HN : Hid (nextV s = ((2, s.tx), { s with st := 5, tx := emp })) := Lib.hid (by unfold nextV; rw [if_pos h4])
    rw [HN.out]
    have HD1 : Hid (decide (s.st ∈ [4]) = true) := Lib.hid (by simp [h4])
    have H0 : Hid (s.st ≠ 0) := Lib.hid (by rw [h4]; decide)
    clear h h4 hl
    go_enter Try.func11, Try.ntmps11
    go_wp2_with (first | rw [hW1] | ((with_reducible refine (is_any _ [4] _ HV1.out HLS1.out).mono ?_); rintro e w' ⟨rfl, rfl⟩; rw [HD1.out]))
    go_ret2
    exact mur_base HB1.out ((HV1.out.set0 5 H0.out (by decide)).set2 emp (show (5 : Int) ≠ 0 by decide)) (two_cells HV1.out.sp 0 2 _ _)
  have HD1 : Hid (decide (s.st ∈ [4]) = false) := Lib.hid (by simp [h4])
  obtain ⟨W2, hW2⟩ : ∃ q, W1.alloc (.cells #[.int .i64 6] 67) = q := ⟨_, rfl⟩
  have hb2 : Below W1.heap.size W1 W2 := by rw [← hW2]; exact (Below.refl _ _).alloc (Nat.le_refl _) _
  have HB2 : Hid (Below w.heap.size w W2) := Lib.hid (HB1.out.trans (hb2.mono HB1.out.size))
  have hv2 := HV1.out.below hb2
  have HV2 := Lib.hid hv2
  obtain ⟨c02, c12, c22, -, -, c52, z2⟩ := hv2.cells
  have HLS2 : Hid (Sl .i64 W2 (.slice (some ⟨W1.heap.size, 0, none⟩) 1 1) [6]) := Lib.hid (by rw [← hW2]; exact Sl.new W1 _ [6] rfl rfl (Nat.le_refl _) (by decide) (by decide))
  clear hb2 hv2
  by_cases h6 : s.st = 6
  · have HN : Hid (nextV s = ((3, emp), { s with st := 1 })) := Lib.hid (by unfold nextV; rw [if_neg h4, if_pos h6])
    rw [HN.out]
    have HD2 : Hid (decide (s.st ∈ [6]) = true) := Lib.hid (by simp [h6])
    have H0 : Hid (s.st ≠ 0) := Lib.hid (by rw [h6]; decide)
    clear h h4 h6 hl
    go_enter Try.func11, Try.ntmps11
    go_wp2_with (first | rw [hW1] | rw [hW2] | ((with_reducible refine (is_any _ [4] _ HV1.out HLS1.out).mono ?_); rintro e w' ⟨rfl, rfl⟩; rw [HD1.out]) | ((with_reducible refine (is_any _ [6] _ HV2.out HLS2.out).mono ?_); rintro e w' ⟨rfl, rfl⟩; rw [HD2.out]))
    go_ret2
    exact mur_base HB2.out (HV2.out.set0 1 H0.out (by decide)) (only_cell HV2.out.sp 0 _)
  have HD2 : Hid (decide (s.st ∈ [6]) = false) := Lib.hid (by simp [h6])
  have HX0 : Hid (NxR p S w s W2) := Lib.hid ⟨S, vr, vq, vo, s, HV2.out, fun k hk => .inl hk, Below.only HB2.out S, (by unfold nextV; rw [if_neg h4, if_neg h6]), hl⟩
  clear h h4 h6 hl
  go_enter Try.func11, Try.ntmps11
  go_wp2_with (first | rw [hW1] | rw [hW2] | ((with_reducible refine (is_any _ [4] _ HV1.out HLS1.out).mono ?_); rintro e w' ⟨rfl, rfl⟩; rw [HD1.out]) | ((with_reducible refine (is_any _ [6] _ HV2.out HLS2.out).mono ?_); rintro e w' ⟨rfl, rfl⟩; rw [HD2.out]))
  go_loopw [] (fun wr => Hid (NxR p S w s wr)) (fun wr => match wr.cell? ⟨p, 4, none⟩ with | some (.slice _ n _) => n | _ => 0)
  case atStart => exact HX0
  case round =>
    obtain ⟨S3, vr3, vq3, vo3, s3, hv3, hg3, ho3, he3, hl3⟩ := hrel.out
    clear hrel HX0 HV1 HV2 HB1 HB2 c01 c11 c21 c51 z1 c02 c12 c22 c52 z2 HD1 HD2 HLS1 HLS2 hW1 hW2
    have HG3 := Lib.hid hg3
    have HO3 := Lib.hid ho3
    have HE3 := Lib.hid he3
    have HL3 := Lib.hid hl3
    obtain ⟨W4, hW4⟩ : ∃ q, wr.alloc (.cells #[.int .i64 1, .int .i64 3, .int .i64 7] 67) = q := ⟨_, rfl⟩
    have hb4 : Below wr.heap.size wr W4 := by rw [← hW4]; exact (Below.refl _ _).alloc (Nat.le_refl _) _
    have hv4 := hv3.below hb4
    have HV4 := Lib.hid hv4
    have HO4 := Lib.hid (ho3.trans (Below.only hb4 S))
    have HG4 : Hid (∀ k, S3 k → Grow S w W4 k) := Lib.hid (fun k hk => by
      have z := hb4.size
      rcases hg3 k hk with a | a
      · exact .inl a
      · exact .inr ⟨a.1, by omega⟩)
    have HLS4 : Hid (Sl .i64 W4 (.slice (some ⟨wr.heap.size, 0, none⟩) 3 3) [1, 3, 7]) := Lib.hid (by rw [← hW4]; exact Sl.new wr _ [1, 3, 7] rfl rfl (Nat.le_refl _) (by decide) (by decide))
    obtain ⟨d0, d1, d2, d3, d4, d5, dz⟩ := hv4.cells
    obtain ⟨x0, x1, x2, x3, x4, x5, xz⟩ := hv3.cells
    clear hg3 ho3 he3 hl3 hb4 hv4 d1 d2 d3 d5 x0 x1 x2 x3 x5
    by_cases ht : takesS s3
    · have HT := Lib.hid ht
      have HD4 : Hid (decide (s3.st ∈ [1, 3, 7]) = true) := Lib.hid (by unfold takesS at ht; simpa using ht)
      cases hq : s3.q with
      | nil =>
        have HF : Hid (∀ r, r = nextV s → MuR (.tuple #[.int .i64 r.1.1, .string r.1.2]) p r.2 S w (.returned (.tuple #[.int .i64 0, .string ⟨#[]⟩])) W4) := Lib.hid (by
          rintro r rfl
          rw [← HE3.out, loop_end (.inl hq)]
          exact mur_mk HG4.out HO4.out HV4.out (Only.refl _ _))
        obtain ⟨aq, nq, rfl, -⟩ := HV4.out.q.len
        rw [hq] at d4
        simp only [List.length_nil] at d4
        clear hq ht hv3
        go_wp2_with (first | rw [hW4] | ((with_reducible refine (is_any _ [1, 3, 7] _ HV4.out HLS4.out).mono ?_); rintro e w' ⟨rfl, rfl⟩; rw [HD4.out]))
        go_ret2
        exact HF.out _ rfl
      | cons f q =>
        have hv4 := HV4.out
        have hq4 := hv4.q
        rw [hq] at hq4
        obtain ⟨g, off, cap, rfl, -, hc1, hc2, hfc, -, -⟩ := hq4.form frmC_len
        have f0 : W4.cell? ⟨g, off, none⟩ = some (.int .u8 f.kind) := hfc 0 _ rfl
        have f1 : W4.cell? ⟨g, off + 1, none⟩ = some (.string f.text) := hfc 1 _ rfl
        unfold maxLen at hc2
        obtain ⟨W5, hW5⟩ : ∃ q, W4.alloc (.cells #[.int .u8 f.kind, .string f.text] TF) = q := ⟨_, rfl⟩
        have hb5 : Below W4.heap.size W4 W5 := by rw [← hW5]; exact (Below.refl _ _).alloc (Nat.le_refl _) _
        have hbx : W5.heap[W4.heap.size]? = some (.cells #[.int .u8 f.kind, .string f.text] TF (0, 0)) := by rw [← hW5]; exact heap_alloc_new _ _
        have hv5 := hv4.below hb5
        obtain ⟨-, -, -, -, e4, -, ez⟩ := hv5.cells
        obtain ⟨V6, hV6⟩ : ∃ v, tailQ 2 (.slice (some ⟨g, off, none⟩) (q.length + 1) cap) = v := ⟨_, rfl⟩
        have hv6 := hv5.pop hq
        rw [hV6] at hv6
        obtain ⟨W6, hW6⟩ : ∃ w, W5.setCell ⟨p, 4, none⟩ V6 = w := ⟨_, rfl⟩
        rw [hW6] at hv6
        have hpb : W4.heap.size ≠ p := by have := hv4.plt; omega
        have hbx6 : W6.heap[W4.heap.size]? = some (.cells #[.int .u8 f.kind, .string f.text] TF (0, 0)) := by rw [← hW6]; exact (heap_setCell_other W5 ⟨p, 4, none⟩ _ _ hpb).trans hbx
        have g0 : W6.cell? ⟨W4.heap.size, 0, none⟩ = some (.int .u8 f.kind) := (cell_of_row _ _ _ _ _ _ hbx6).trans rfl
        have g1 : W6.cell? ⟨W4.heap.size, 1, none⟩ = some (.string f.text) := (cell_of_row _ _ _ _ _ _ hbx6).trans rfl
        have HV6 := Lib.hid hv6
        have ho6 : Only S3 W4 W6 := by rw [← hW6]; exact (Below.only hb5 S3).trans (only_cell hv4.sp 4 V6)
        have HO6 : Hid (Only S w W6) := Lib.hid (Mc.Only.sub HO4.out HG4.out ho6)
        have HG6 : Hid (∀ k, S3 k → Grow S w W6 k) := Lib.hid (fun k hk => by
          have z := ho6.2.2.2.1
          rcases HG4.out k hk with a | a
          · exact .inl a
          · exact .inr ⟨a.1, by omega⟩)
        have hqn : s3.q.length = q.length + 1 := by rw [hq]; rfl
        have HQL := Lib.hid hqn
        have HOU := Lib.hid (proc_out { s3 with q := q } f)
        have HPL := Lib.hid (proc_len { s3 with q := q } f)
        have hpa := proc_any f W6 hv6 ht (by show s3.out.length ≤ 1000000; have := HL3.out; omega)
        have HLC := Lib.hid (fun h0 => loop_cons hq ht h0)
        have HLS := Lib.hid (fun h0 => loop_stop hq ht h0)
        generalize hPR : procV { s3 with q := q } f = PR at hpa HOU HPL HLC HLS
        obtain ⟨⟨A, T⟩, s8⟩ := PR
        simp only [] at hpa
        have HPA := Lib.hid hpa
        have hnq : (0 : Int) < (q.length : Int) + 1 := by omega
        obtain ⟨hca, hcb⟩ : (cap = 1 → V6 = .slice (some ⟨g, off, none⟩) q.length 0) ∧ (cap ≠ 1 → V6 = .slice (some ⟨g, off + 2, none⟩) q.length (cap - 1)) := by
          rw [← hV6]
          unfold tailQ
          exact ⟨fun h => by simp only [if_pos h]; rw [show q.length = 0 by omega], fun h => by simp only [if_neg h]; rfl⟩
        have HQ0 : Hid (cap = 1 → q.length = 0) := Lib.hid (fun h => by omega)
        clear hq ht hv3 hv4 hq4 hfc hb5 hbx hv5 hv6 hbx6 ho6 hpa hPR hV6 hqn hpb
        rcases Decidable.em (cap = 1) with hc | hc
        · rcases Decidable.em (A = 0) with hA | hA
          · clear hcb
            obtain rfl := hca hc
            subst hc
            clear hca HQ0 hc1
            subst hA
            go_wp2_with (first | rw [hW4] | ((with_reducible refine (is_any _ [1, 3, 7] _ HV4.out HLS4.out).mono ?_); rintro e w' ⟨rfl, rfl⟩; rw [HD4.out]) | rw [hW5] | rw [hW6] | ((with_reducible refine HPA.out.mono ?_); rintro e w7 ⟨rfl, hl7⟩; have HL7 := Lib.hid (Mc.Left.step HO6.out HG6.out hl7); clear hl7))
            obtain ⟨⟨S9, ⟨vr9, vq9, vo9, hv9⟩, hs9⟩, ho9⟩ := HL7.out
            obtain ⟨a9, c9, hvq9, -⟩ := hv9.q.len
            have e9 := hv9.cells.2.2.2.2.1
            rw [hvq9] at e9
            go_roundw
            case rel => exact Lib.hid ⟨S9, _, _, _, s8, hv9, hs9, ho9, (HLC.out trivial).symm.trans HE3.out, by have h1 := HOU.out; have h2 := HPL.out; have h3 := HL3.out; have h4 := HQL.out; have h1 : s8.out.length ≤ s3.out.length + 1 := h1; have h2 : s8.q.length ≤ q.length := h2; omega⟩
            case measure => (rw [e9, x4]; simp only []; have h2 : s8.q.length ≤ q.length := HPL.out; omega)
          · clear hcb
            obtain rfl := hca hc
            subst hc
            clear hca HQ0 hc1
            have hAn : (A != 0) = true := by simpa using hA
            have HA := Lib.hid hA
            clear hA
            go_wp2_with (first | rw [hW4] | ((with_reducible refine (is_any _ [1, 3, 7] _ HV4.out HLS4.out).mono ?_); rintro e w' ⟨rfl, rfl⟩; rw [HD4.out]) | rw [hW5] | rw [hW6] | ((with_reducible refine HPA.out.mono ?_); rintro e w7 ⟨rfl, hl7⟩; have HL7 := Lib.hid (Mc.Left.step HO6.out HG6.out hl7); clear hl7))
            go_ret2
            have hnx : nextV s = ((A, T), s8) := HE3.out.symm.trans (HLS.out HA.out)
            rw [hnx]
            exact ⟨rfl, HL7.out⟩
        · rcases Decidable.em (A = 0) with hA | hA
          · clear hca
            obtain rfl := hcb hc
            have hc3 : ¬ (cap = 1) := hc
            have hc4 : (1 : Int) ≤ (cap : Int) := by omega
            have hc5 : 1 ≤ cap := by omega
            clear hcb HQ0 hc
            subst hA
            go_wp2_with (first | rw [hW4] | ((with_reducible refine (is_any _ [1, 3, 7] _ HV4.out HLS4.out).mono ?_); rintro e w' ⟨rfl, rfl⟩; rw [HD4.out]) | rw [hW5] | rw [hW6] | ((with_reducible refine HPA.out.mono ?_); rintro e w7 ⟨rfl, hl7⟩; have HL7 := Lib.hid (Mc.Left.step HO6.out HG6.out hl7); clear hl7))
            obtain ⟨⟨S9, ⟨vr9, vq9, vo9, hv9⟩, hs9⟩, ho9⟩ := HL7.out
            obtain ⟨a9, c9, hvq9, -⟩ := hv9.q.len
            have e9 := hv9.cells.2.2.2.2.1
            rw [hvq9] at e9
            go_roundw
            case rel => exact Lib.hid ⟨S9, _, _, _, s8, hv9, hs9, ho9, (HLC.out trivial).symm.trans HE3.out, by have h1 := HOU.out; have h2 := HPL.out; have h3 := HL3.out; have h4 := HQL.out; have h1 : s8.out.length ≤ s3.out.length + 1 := h1; have h2 : s8.q.length ≤ q.length := h2; omega⟩
            case measure => (rw [e9, x4]; simp only []; have h2 : s8.q.length ≤ q.length := HPL.out; omega)
          · clear hca
            obtain rfl := hcb hc
            have hc3 : ¬ (cap = 1) := hc
            have hc4 : (1 : Int) ≤ (cap : Int) := by omega
            have hc5 : 1 ≤ cap := by omega
            clear hcb HQ0 hc
            have hAn : (A != 0) = true := by simpa using hA
            have HA := Lib.hid hA
            clear hA
            go_wp2_with (first | rw [hW4] | ((with_reducible refine (is_any _ [1, 3, 7] _ HV4.out HLS4.out).mono ?_); rintro e w' ⟨rfl, rfl⟩; rw [HD4.out]) | rw [hW5] | rw [hW6] | ((with_reducible refine HPA.out.mono ?_); rintro e w7 ⟨rfl, hl7⟩; have HL7 := Lib.hid (Mc.Left.step HO6.out HG6.out hl7); clear hl7))
            go_ret2
            have hnx : nextV s = ((A, T), s8) := HE3.out.symm.trans (HLS.out HA.out)
            rw [hnx]
            exact ⟨rfl, HL7.out⟩
    · have HD4 : Hid (decide (s3.st ∈ [1, 3, 7]) = false) := Lib.hid (by unfold takesS at ht; simpa using ht)
      have HF : Hid (∀ r, r = nextV s → MuR (.tuple #[.int .i64 r.1.1, .string r.1.2]) p r.2 S w (.returned (.tuple #[.int .i64 0, .string ⟨#[]⟩])) W4) := Lib.hid (by
        rintro r rfl
        rw [← HE3.out, loop_end (.inr ht)]
        exact mur_mk HG4.out HO4.out HV4.out (Only.refl _ _))
      clear ht hv3
      go_wp2_with (first | rw [hW4] | ((with_reducible refine (is_any _ [1, 3, 7] _ HV4.out HLS4.out).mono ?_); rintro e w' ⟨rfl, rfl⟩; rw [HD4.out]))
      go_ret2
      exact HF.out _ rfl
end
end Mu
end Go.Proofs.Ytdakkjpejhlciaa
