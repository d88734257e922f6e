/- A reader's kind and length. No condition. -/
import Derived.Test.YtdakkjpejhlciaaStB
namespace Go.Proofs.Ytdakkjpejhlciaa
open Go.ChangeShapes Go.WideShapes Go.ChangeAt Go.RowKit
set_option linter.unusedVariables false
set_option maxRecDepth 100000
namespace St
set_option maxHeartbeats 4000000 in
theorem kind_any (B g : Nat) (s : Rst) (S : Option Nat) (x : Int) (w : World) (h : Rdr B w g s S) (hs : s.st = 0) :
    Calls Try.prog 56 #[.pointer (some ⟨g, 0, none⟩), .int .u8 x] w (StepR B g S (stepV s x) w) := by
  have hgl := h.lt
  obtain ⟨vt, k1, k2, hS, h4, h5⟩ := id h
  have HR := Lib.hid h
  have HB := Lib.hid h5
  have HBW : Hid (B ≤ w.heap.size) := Lib.hid (Nat.le_trans h5 (Nat.le_of_lt hgl))
  obtain ⟨d0, d1, d2, e0, e1, e2⟩ := cells3 k1
  clear h h4 k1 k2 hS
  by_cases c : x = 66 ∨ x = 69
  · have HQ : Hid (stepV s x = (some ⟨x, ⟨#[]⟩⟩, s)) := Lib.hid (by unfold stepV; rw [if_pos hs, if_pos c]; rfl)
    clear hs
    rcases c with rfl | rfl
    all_goals
      go_enter Try.func56, Try.ntmps56
      go_wp2
      refine bodyPost_ret (v := .tuple #[.agg #[.int .u8 _, .string ⟨#[]⟩], .bool true]) (results_cell2 rfl _ _ w.heap.size 57 _ (0, 0) _ rfl (anew rfl) Try.underlying57 rfl (by kernel_rfl) rfl) rfl ?_
      rw [HQ.out]
      exact ⟨_, rfl, HR.out.alloc _, NewS.refl, (FarR.refl w).alloc HBW.out _⟩
  · have a1 : (x == 66) = false := beq_eq_false_iff_ne.2 (by omega)
    have a2 : (x == 69) = false := beq_eq_false_iff_ne.2 (by omega)
    by_cases c81 : x = 81
    · subst c81
      have HQ : Hid (stepV s 81 = (none, ⟨1, s.want, s.text⟩)) := Lib.hid (by unfold stepV; rw [if_pos hs, if_neg c, if_pos rfl])
      clear hs c
      go_enter Try.func56, Try.ntmps56
      go_wp2
      refine bodyPost_ret (v := .tuple #[.agg #[.int .u8 0, .string ⟨#[]⟩], .bool false]) (results_cell2 rfl _ _ w.heap.size 57 _ (0, 0) _ rfl (anew (by simp)) Try.underlying57 rfl (by kernel_rfl) rfl) rfl ?_
      rw [HQ.out]
      exact ⟨_, rfl, (HR.out.setSt 1).alloc _, NewS.refl, ((FarR.refl w).setCell HB.out 0 _).alloc HBW.out _⟩
    · have a3 : (x == 81) = false := beq_eq_false_iff_ne.2 c81
      have HQ : Hid (stepV s x = (none, ⟨3, s.want, s.text⟩)) := Lib.hid (by unfold stepV; rw [if_pos hs, if_neg c, if_neg c81])
      clear hs c c81
      go_enter Try.func56, Try.ntmps56
      go_wp2
      refine bodyPost_ret (v := .tuple #[.agg #[.int .u8 0, .string ⟨#[]⟩], .bool false]) (results_cell2 rfl _ _ w.heap.size 57 _ (0, 0) _ rfl (anew (by simp)) Try.underlying57 rfl (by kernel_rfl) rfl) rfl ?_
      rw [HQ.out]
      exact ⟨_, rfl, (HR.out.setSt 3).alloc _, NewS.refl, ((FarR.refl w).setCell HB.out 0 _).alloc HBW.out _⟩
theorem StepR.past {B g : Nat} {S : Option Nat} {p : Option Frm × Rst} {w w1 : World} {e : Ending} {w' : World} (h : StepR B g S p w1 e w') (hf : FarR B g S w w1) : StepR B g S p w e w' := by
  obtain ⟨S', h1, h2, h3, h4⟩ := h
  exact ⟨S', h1, h2, h3.imp id (fun q p hp => Nat.le_trans hf.1.size (q p hp)), hf.trans NewS.refl h4⟩
theorem oArr_form (o : Option Frm) : ∃ k t, oArr o = #[.int .u8 k, .string t] := by cases o <;> exact ⟨_, _, rfl⟩
/-- the caller's own result behind the call -/
theorem row_past {B g n : Nat} {S S' : Option Nat} {W w2 : World} {o : Obj} {s' : Rst} (hr : W.heap[n]? = some o) (hf : FarR B g S W w2) (hn : NewS W S S') (hg : n ≠ g) (hS : S ≠ some n) : w2.heap[n]? = some o ∧ S' ≠ some n := by
  have hl := (Array.getElem?_eq_some_iff.1 hr).1
  refine ⟨(hf.2 n hl hg (fun e => hS e.symm)).trans hr, ?_⟩
  rcases hn with rfl | hn
  · exact hS
  · intro e
    have := hn n e
    omega
theorem stepR_end {B g : Nat} {S S' : Option Nat} {p : Option Frm × Rst} {w w2 : World} {k : Int} {t : ByteArray} {bb : Bool} (ho : oArr p.1 = #[.int .u8 k, .string t]) (hbb : p.1.isSome = bb) (hr : Rdr B w2 g p.2 S') (hn : NewS w S S') (hf : FarR B g S w w2) (hB : B ≤ w.heap.size) (hg : g ≠ w.heap.size) (hS : S' ≠ some w.heap.size) :
    StepR B g S p w (.returned (.tuple #[.agg #[.int .u8 k, .string t], .bool bb])) ((w2.setCell ⟨w.heap.size, 0, none⟩ (.int .u8 k)).setCell ⟨w.heap.size, 1, none⟩ (.string t)) :=
  ⟨S', by rw [ho, hbb], (hr.cellNew hg hS 0 _).cellNew hg hS 1 _, hn, (hf.cellNew (Nat.le_refl _) hB 0 _).cellNew (Nat.le_refl _) hB 1 _⟩
set_option maxHeartbeats 4000000 in
theorem length_any (B g : Nat) (s : Rst) (S : Option Nat) (x : Int) (w : World) (h : Rdr B w g s S) (hs : s.st = 1) (hx : (Lit.int .u8 x).wf = true) (hw : ∀ x ∈ s.text, (Lit.int .u8 x).wf = true) (hl : s.text.length ≤ 48) :
    Calls Try.prog 57 #[.pointer (some ⟨g, 0, none⟩), .int .u8 x] w (StepR B g S (stepV s x) w) := by
  have hgl := h.lt
  obtain ⟨vt, k1, k2, hS, h4, h5⟩ := id h
  have HR := Lib.hid h
  have HB := Lib.hid h5
  have HBW : Hid (B ≤ w.heap.size) := Lib.hid (Nat.le_trans h5 (Nat.le_of_lt hgl))
  have hbx := bounds_u8 hx
  obtain ⟨d0, d1, d2, e0, e1, e2⟩ := cells3 k1
  have HW := Lib.hid hw
  have HSN : Hid (S ≠ some w.heap.size) := Lib.hid (fun q => by have := (h.ltS _ q).2; omega)
  clear h h4 k1 k2 hS hw hx
  by_cases c : 48 < x
  · have HQ : Hid (stepV s x = (none, ⟨3, s.want, s.text⟩)) := Lib.hid (by unfold stepV; rw [if_neg (by omega), if_pos hs, if_pos c])
    clear hs
    go_enter Try.func57, Try.ntmps57
    go_wp2
    refine bodyPost_ret (v := .tuple #[.agg #[.int .u8 0, .string ⟨#[]⟩], .bool false]) (results_cell2 rfl _ _ w.heap.size 57 _ (0, 0) _ rfl (anew (by simp)) Try.underlying57 rfl (by kernel_rfl) rfl) rfl ?_
    rw [HQ.out]
    exact ⟨_, rfl, (HR.out.setSt 3).alloc _, NewS.refl, ((FarR.refl w).setCell HB.out 0 _).alloc HBW.out _⟩
  · have HQ : Hid (stepV s x = queryV ⟨2, x, s.text⟩) := Lib.hid (by unfold stepV; rw [if_neg (by omega), if_pos hs, if_neg c])
    have HR3 := Lib.hid ((((HR.out.setSt 2).setWant x).alloc (.cells #[.int .u8 0, .string ⟨#[]⟩] 57)))
    clear hs
    go_enter Try.func57, Try.ntmps57
    go_wp2_with fail
    refine (query_any B g ⟨2, x, s.text⟩ S _ (by exact HR3.out) HW.out hl).mono ?_
    rintro e w2 ⟨S', rfl, hr2, hn2, hf2⟩
    have hz3 : w.heap.size ≤ (((w.setCell ⟨g, 0, none⟩ (.int .i64 2)).setCell ⟨g, 1, none⟩ (.int .i64 x)).alloc (.cells #[.int .u8 0, .string ⟨#[]⟩] 57)).heap.size := by simp
    obtain ⟨hrow, hs2⟩ := row_past (s' := s) (anew (w := (w.setCell ⟨g, 0, none⟩ (.int .i64 2)).setCell ⟨g, 1, none⟩ (.int .i64 x)) (o := .cells #[.int .u8 0, .string ⟨#[]⟩] 57) (n := w.heap.size) (by simp)) hf2 hn2 (by omega) HSN.out
    have HRow := Lib.hid hrow
    have HR2 := Lib.hid hr2
    have HS2 := Lib.hid hs2
    have HF2 := Lib.hid ((((FarR.refl w).setCell HB.out 0 (.int .i64 2)).setCell HB.out 1 (.int .i64 x)).alloc HBW.out (.cells #[.int .u8 0, .string ⟨#[]⟩] 57) |>.trans NewS.refl hf2)
    have HN2 : Hid (NewS w S S') := Lib.hid (hn2.imp id (fun q p hp => Nat.le_trans hz3 (q p hp)))
    clear hr2 hn2 hf2 hs2 hz3
    obtain ⟨x0, x1, y0, y1⟩ := cells2 hrow
    obtain ⟨kk, tt, ho⟩ := oArr_form (queryV ⟨2, x, s.text⟩).1
    obtain ⟨bb, hbb⟩ : ∃ bb, (queryV ⟨2, x, s.text⟩).1.isSome = bb := ⟨_, rfl⟩
    have HO := Lib.hid ho
    have HBB := Lib.hid hbb
    rw [ho, hbb]
    clear hrow ho hbb
    go_wp2
    refine bodyPost_ret (v := .tuple #[.agg #[.int .u8 kk, .string tt], .bool bb]) (results_cell2 rfl _ _ w.heap.size 57 _ (0, 0) _ rfl (two1 (two0 HRow.out)) Try.underlying57 rfl (by kernel_rfl) rfl) rfl ?_
    rw [HQ.out]
    exact stepR_end HO.out HBB.out HR2.out HN2.out HF2.out HBW.out (Nat.ne_of_lt hgl) HS2.out
set_option maxHeartbeats 8000000 in
theorem step_any (B g : Nat) (s : Rst) (S : Option Nat) (x : Int) (w : World) (h : Rdr B w g s S) (hok : okR s) (hx : (Lit.int .u8 x).wf = true) :
    Calls Try.prog 49 #[.pointer (some ⟨g, 0, none⟩), .int .u8 x] w (StepR B g S (stepV s x) w) := by
  have hgl := h.lt
  obtain ⟨vt, k1, k2, hS, h4, h5⟩ := id h
  have HR := Lib.hid h
  have HB := Lib.hid h5
  have HBW : Hid (B ≤ w.heap.size) := Lib.hid (Nat.le_trans h5 (Nat.le_of_lt hgl))
  obtain ⟨d0, d1, d2, e0, e1, e2⟩ := cells3 k1
  have hrr : w.heap[g]? = some (.cells #[.int .i64 s.st, .int .i64 s.want, vt] 86 (0, 0)) := k1
  obtain ⟨c0, c1, c2, f0, f1, f2⟩ := cells3 (arow (o := .cells #[.int .u8 0, .string ⟨#[]⟩] 57) hrr)
  have HOW := Lib.hid k2
  have HRW := Lib.hid hrr
  have H4 := Lib.hid h4
  have HVS := Lib.hid hS
  obtain ⟨hok1, -, hok3, hok4, hok5, -, hok7⟩ := hok
  have HL7 : Hid (s.st = 2 → s.text.length < 48) := Lib.hid (fun q => by have := hok7 q; omega)
  have HW := Lib.hid hok5
  have HX := Lib.hid hx
  have HSN : Hid (S ≠ some w.heap.size) := Lib.hid (fun q => by have := (h.ltS _ q).2; omega)
  have HF1 := Lib.hid ((FarR.refl (S := S) w).alloc (g := g) HBW.out (.cells #[.int .u8 0, .string ⟨#[]⟩] 57))
  have HZ : Hid ((w.alloc (.cells #[.int .u8 0, .string ⟨#[]⟩] 57)).heap[w.heap.size]? = _) := Lib.hid (heap_alloc_new _ _)
  have HR1 := Lib.hid (HR.out.alloc (.cells #[.int .u8 0, .string ⟨#[]⟩] 57))
  have HZ1 : Hid (w.heap.size ≤ (w.alloc (.cells #[.int .u8 0, .string ⟨#[]⟩] 57)).heap.size) := Lib.hid (by simp)
  clear h h4 k1 k2 hS hok5 hx hrr hok7
  by_cases q0 : s.st = 0 ∨ s.st = 1
  · have HC : Hid (∀ w, Rdr B w g s S → Calls Try.prog (if s.st = 0 then 56 else 57) #[.pointer (some ⟨g, 0, none⟩), .int .u8 x] w (StepR B g S (stepV s x) w)) := Lib.hid (fun w hw => by
      by_cases q : s.st = 0
      · rw [if_pos q]; exact kind_any B g s S x w hw q
      · rw [if_neg q]; exact length_any B g s S x w hw (by omega) HX.out HW.out hok4)
    rcases q0 with q | q
    all_goals
      rw [q] at c0 d0 HC
      clear q hok1
      go_enter Try.func49, Try.ntmps49
      go_wp2_with fail
      refine (HC.out _ (by exact HR1.out)).mono ?_
      rintro e w2 ⟨S', rfl, hr2, hn2, hf2⟩
      obtain ⟨hrow, hs2⟩ := row_past (s' := s) HZ.out hf2 hn2 (by omega) HSN.out
      have HRow := Lib.hid hrow
      have HR2 := Lib.hid hr2
      have HS2 := Lib.hid hs2
      have HF2 := Lib.hid (HF1.out.trans NewS.refl hf2)
      have HN2 : Hid (NewS w S S') := Lib.hid (hn2.imp id (fun q p hp => Nat.le_trans HZ1.out (q p hp)))
      clear hr2 hn2 hf2 hs2
      obtain ⟨x0, x1, y0, y1⟩ := cells2 hrow
      obtain ⟨kk, tt, ho⟩ := oArr_form (stepV s x).1
      obtain ⟨bb, hbb⟩ : ∃ bb, (stepV s x).1.isSome = bb := ⟨_, rfl⟩
      have HO := Lib.hid ho
      have HBB := Lib.hid hbb
      rw [ho, hbb]
      clear hrow ho hbb
      go_wp2
      refine bodyPost_ret (v := .tuple #[.agg #[.int .u8 kk, .string tt], .bool bb]) (results_cell2 rfl _ _ w.heap.size 57 _ (0, 0) _ rfl (two1 (two0 HRow.out)) Try.underlying57 rfl (by kernel_rfl) rfl) rfl ?_
      exact stepR_end HO.out HBB.out HR2.out HN2.out HF2.out HBW.out (Nat.ne_of_lt hgl) HS2.out
  · by_cases q2 : s.st = 2
    · have HQ : Hid (stepV s x = queryV ⟨2, s.want, s.text ++ [x]⟩) := Lib.hid (by unfold stepV; rw [if_neg (by omega), if_neg (by omega), if_pos q2])
      rw [q2] at c0 d0
      have HRW2 := Lib.hid (by have q := HRW.out; rw [q2] at q; exact q)
      have HL8 := Lib.hid (HL7.out q2)
      clear q0 hok1 q2
      obtain ⟨av, cv, hvt, ht1, ht2, -⟩ := HOW.out.sl HW.out
      subst hvt
      unfold maxLen at ht2
      have hb2 : Below w.heap.size w ((w.alloc (.cells #[.int .u8 0, .string ⟨#[]⟩] 57)).alloc (.cells #[.int .u8 x] 5)) := ((Below.refl _ _).alloc (Nat.le_refl _) _).alloc (by simp) _
      have HB2 := Lib.hid hb2
      have HS2 : Hid (((w.alloc (.cells #[.int .u8 0, .string ⟨#[]⟩] 57)).alloc (.cells #[.int .u8 x] 5)).heap.size = w.heap.size + 2) := Lib.hid (by simp)
      have HOW2 := Lib.hid (HOW.out.below hb2 (Nat.le_refl _))
      have HLIT : Hid (Sl .u8 ((w.alloc (.cells #[.int .u8 0, .string ⟨#[]⟩] 57)).alloc (.cells #[.int .u8 x] 5)) (.slice (some ⟨w.heap.size + 1, 0, none⟩) 1 1) [x]) := Lib.hid (Sl.newAt (w.alloc (.cells #[.int .u8 0, .string ⟨#[]⟩] 57)) (w.heap.size + 1) (by simp) #[.int .u8 x] [x] rfl rfl (Nat.le_refl _) (by decide) (by intro y hy; simp at hy; subst hy; exact HX.out))
      have HW3 : Hid (∀ y ∈ s.text ++ [x], (Lit.int .u8 y).wf = true) := Lib.hid (fun y hy => by
        rcases List.mem_append.1 hy with q | q
        · exact HW.out y q
        · simp at q; subst q; exact HX.out)
      have HLE : Hid ((s.text ++ [x]).length = s.text.length + 1) := Lib.hid (by simp)
      have HROWF : Hid (∀ w', (((w.alloc (.cells #[.int .u8 0, .string ⟨#[]⟩] 57)).alloc (.cells #[.int .u8 x] 5))).grownBy w' (Value.slice av s.text.length cv).ownBlock → w'.heap[g]? = some (.cells #[.int .i64 2, .int .i64 s.want, .slice av s.text.length cv] 86 (0, 0))) := Lib.hid (fun w' hg => (hg.block g (by have := HS2.out; omega) (fun e => H4.out (HVS.out.symm.trans e.symm))).trans (arow (arow HRW2.out)))
      clear hb2
      go_enter Try.func49, Try.ntmps49
      go_wp2_with (at_builtin; refine app8q rfl (.tmp 30) (.tmp 32) rfl B (.slice av s.text.length cv) s.text rfl HOW2.out (.slice (some ⟨w.heap.size + 1, 0, none⟩) 1 1) [x] rfl HLIT.out (by simp; omega) (by have := HBW.out; simp; omega) ?_; intro v3 w3 hown3 hgr3 hli3; obtain ⟨a3, c3, hv3, -⟩ := id (hown3.sl HW3.out); rw [HLE.out] at hv3; subst hv3; have HOWN3 := Lib.hid hown3; have HGR3 := Lib.hid hgr3; have HLI3 := Lib.hid hli3; have hrow3 := HROWF.out w3 hgr3; have HROW3 := Lib.hid hrow3; obtain ⟨z0, z1, z2, y0, y1, y2⟩ := cells3 hrow3; clear hown3 hgr3 hli3 hrow3)
      have HN3 : Hid ((Value.slice a3 (s.text.length + 1) c3).ownBlock ≠ some g) := Lib.hid (fun e => by
        rcases HLI3.out with q | q
        · exact H4.out (HVS.out.symm.trans (q.symm.trans e))
        · have := q g e; have := HS2.out; omega)
      have HNW3 : Hid (NewS w S (Value.slice a3 (s.text.length + 1) c3).ownBlock) := Lib.hid (by
        rcases HLI3.out with q | q
        · exact .inl (q.trans HVS.out)
        · exact .inr fun k hk => by have := q k hk; have := HS2.out; omega)
      have HF3 : Hid (FarR B g S w w3) := Lib.hid ⟨((HB2.out.mono HBW.out).grown HGR3.out (by have := HS2.out; have := HBW.out; omega) (fun k hk => (World.ownsRow.lt HOW2.out k hk).1)), fun k hk hn hs => (HGR3.out.block k (by have := HS2.out; omega) (fun e => hs (e.trans HVS.out))).trans (HB2.out.block k hk)⟩
      have HZ3 : Hid (w3.heap[w.heap.size]? = some (.cells #[.int .u8 0, .string ⟨#[]⟩] 57 (0, 0))) := Lib.hid ((HGR3.out.block w.heap.size (by have := HS2.out; omega) (fun e => HSN.out (HVS.out.symm.trans e.symm))).trans (arow HZ.out))
      have HRD3 : Hid (Rdr B (w3.setCell ⟨g, 2, none⟩ (.slice a3 (s.text.length + 1) c3)) g ⟨2, s.want, s.text ++ [x]⟩ (Value.slice a3 (s.text.length + 1) c3).ownBlock) := Lib.hid ⟨_, thr2 HROW3.out, own_set HOWN3.out HN3.out, rfl, HN3.out, HB.out⟩
      go_wp2_with fail
      refine (query_any B g ⟨2, s.want, s.text ++ [x]⟩ _ _ (by exact HRD3.out) (fun y hy => by
        rcases List.mem_append.1 hy with q | q
        · exact HW.out y q
        · simp at q; subst q; exact HX.out) (by have := HL8.out; rw [List.length_append]; simp; omega)).mono ?_
      rintro e w2 ⟨S', rfl, hr2, hn2, hf2⟩
      have hsz3 := HF3.out.1.size
      obtain ⟨hrow, hs2⟩ := row_past (s' := s) (crow (j := 2) (v := .slice a3 (s.text.length + 1) c3) HZ3.out (by omega)) hf2 hn2 (by omega) (fun e => by
        rcases HNW3.out with q | q
        · exact HSN.out (q.symm.trans e)
        · rcases HLI3.out with p | p
          · exact HSN.out (HVS.out.symm.trans (p.symm.trans e))
          · have := p _ e; have := HS2.out; omega)
      have HRow := Lib.hid hrow
      have HR2 := Lib.hid hr2
      have HS2' := Lib.hid hs2
      have HF2 := Lib.hid ((HF3.out.setCell HB.out 2 (.slice a3 (s.text.length + 1) c3)).trans HNW3.out hf2)
      have HN2 : Hid (NewS w S S') := Lib.hid (NewS.trans (B := B) (g := g) (w1 := w3.setCell ⟨g, 2, none⟩ (.slice a3 (s.text.length + 1) c3)) (by simpa using hsz3) HNW3.out hn2)
      clear hr2 hn2 hf2 hs2 hsz3
      obtain ⟨x0, x1, y0', y1'⟩ := cells2 hrow
      obtain ⟨kk, tt, ho⟩ := oArr_form (queryV ⟨2, s.want, s.text ++ [x]⟩).1
      obtain ⟨bb, hbb⟩ : ∃ bb, (queryV ⟨2, s.want, s.text ++ [x]⟩).1.isSome = bb := ⟨_, rfl⟩
      have HO := Lib.hid ho
      have HBB := Lib.hid hbb
      rw [ho, hbb]
      clear hrow ho hbb
      go_wp2
      refine bodyPost_ret (v := .tuple #[.agg #[.int .u8 kk, .string tt], .bool bb]) (results_cell2 rfl _ _ w.heap.size 57 _ (0, 0) _ rfl (two1 (two0 HRow.out)) Try.underlying57 rfl (by kernel_rfl) rfl) rfl ?_
      rw [HQ.out]
      exact stepR_end HO.out HBB.out HR2.out HN2.out HF2.out HBW.out (Nat.ne_of_lt hgl) HS2'.out
    · have q3 : s.st = 3 := by omega
      have HQ : Hid (stepV s x = (none, s)) := Lib.hid (by unfold stepV; rw [if_neg (by omega), if_neg (by omega), if_neg q2])
      rw [q3] at c0 d0
      clear q0 q2 hok1
      go_enter Try.func49, Try.ntmps49
      go_wp2
      refine bodyPost_ret (v := .tuple #[.agg #[.int .u8 0, .string ⟨#[]⟩], .bool false]) (results_cell2 rfl _ _ w.heap.size 57 _ (0, 0) _ rfl (anew rfl) Try.underlying57 rfl (by kernel_rfl) rfl) rfl ?_
      rw [HQ.out]
      exact ⟨_, rfl, HR1.out, NewS.refl, HF1.out⟩
end St
end Go.Proofs.Ytdakkjpejhlciaa
