/- judge's step of a session. No condition. -/
import Derived.Test.YtcgciefoojlpoaaJfB
import Derived.Laws.Rows
import Derived.Deep.QuietTactic
import Derived.BigQuiet
namespace Go.Proofs.Ytcgciefoojlpoaa
open Go.ChangeShapes Go.WideShapes Go.ChangeAt Go.RowKit
set_option linter.unusedVariables false
set_option maxRecDepth 100000
namespace Jf
theorem strs_cases {w : World} {v : Value} {xs : List ByteArray} (h : IsStrs w v xs) :
    (∃ a cap, v = .slice a 0 cap ∧ xs = []) ∨ ∃ b off cap s l, v = .slice (some ⟨b, off, none⟩) (l.length + 1) cap ∧ xs = s :: l ∧ l.length + 1 ≤ cap ∧ cap ≤ 9223372036854775807 ∧ b < w.heap.size ∧ w.cell? ⟨b, off, none⟩ = some (.string s) ∧ s.size ≤ maxLen ∧
      IsStrs w (.slice (if cap = 1 then some ⟨b, off, none⟩ else some ⟨b, off + 1, none⟩) l.length (cap - 1)) l := by
  obtain ⟨h1, h2⟩ := h
  rcases h1.cases with ⟨a, cap, rfl, rfl⟩ | ⟨b, off, cap, rfl, h0, hlc, hcm, hlt, hc⟩
  · exact .inl ⟨_, _, rfl, rfl⟩
  · match xs, h0 with
    | s :: l, _ =>
      refine .inr ⟨b, off, cap, s, l, rfl, rfl, hlc, hcm, hlt, ?_, h2 s (by simp), ⟨?_, fun x hx => h2 x (List.mem_cons_of_mem _ hx)⟩⟩
      · have := hc 0 s rfl 0 _ rfl
        simpa using this
      · have hml : cap - 1 ≤ maxLen := by unfold maxLen; omega
        simp only [List.length_cons] at hlc
        by_cases hcap : cap = 1
        · rw [if_pos hcap]
          have : l = [] := List.eq_nil_of_length_eq_zero (by omega)
          subst this
          exact ⟨_, _, rfl, by simp, hml, .inr ⟨b, off, none, rfl, .inl rfl⟩⟩
        · rw [if_neg hcap]
          refine ⟨_, _, rfl, by omega, hml, .inr ⟨b, off + 1, none, rfl, .inr ⟨rfl, hlt, fun i x hx j u hu => ?_⟩⟩⟩
          have := hc (i + 1) x (by simpa using hx) j u hu
          rw [show off + ((i + 1) * 1 + j) = off + 1 + (i * 1 + j) by omega] at this
          exact this
/-- all but the block g is as it was -/
def FarG (g : Nat) (w w' : World) : Prop := Below g w w' ∧ ∀ k, k < w.heap.size → k ≠ g → w'.heap[k]? = w.heap[k]?
theorem FarG.of_below {g : Nat} {w w' : World} (h : Below w.heap.size w w') (hg : g < w.heap.size) : FarG g w w' := ⟨h.mono (Nat.le_of_lt hg), fun k hk _ => h.block k hk⟩
theorem FarG.go {g : Nat} {w w1 w2 : World} (h : FarG g w w1) (hg : g < w.heap.size) (hb : Below w1.heap.size w1 w2) : FarG g w w2 :=
  ⟨h.1.trans (hb.mono (Nat.le_trans (Nat.le_of_lt hg) h.1.size)), fun k hk hn => (hb.block k (Nat.lt_of_lt_of_le hk h.1.size)).trans (h.2 k hk hn)⟩
theorem FarG.drewN {g : Nat} {w w1 : World} (h : FarG g w w1) (n : Nat) : FarG g w (w1.drewN n) := ⟨h.1.trans ⟨rfl, rfl, rfl, Nat.le_refl _, fun _ _ => rfl⟩, h.2⟩
theorem FarG.setCell {g : Nat} {w w1 : World} (h : FarG g w w1) (j : Nat) (v : Value) : FarG g w (w1.setCell ⟨g, j, none⟩ v) :=
  ⟨h.1.setCell (Nat.le_refl _) v, fun k hk hn => (heap_setCell_other w1 ⟨g, j, none⟩ k v (by simpa using hn)).trans (h.2 k hk hn)⟩
def StepP (W0 : World) (wi : Bool) (f : Frm) (r : Rep) (rest : List ByteArray) (g : Nat) (w : World) (e : Ending) (w' : World) : Prop :=
  e = .returned (.int .i64 (stepE wi f r rest)) ∧ FarG g w w' ∧ (stepE wi f r rest = 0 → ∃ vs, w'.heap[g]? = some (.cells #[.bool (nxW wi r.kind), vs] 54 (0, 0)) ∧ IsStrs W0 vs (stepR r rest))
theorem stepP_bad {W0 : World} {wi : Bool} {f : Frm} {r : Rep} {rest : List ByteArray} {g : Nat} {w w' : World} {n : Int} (h : stepE wi f r rest = n) (hn : n ≠ 0) (hb : FarG g w w') : StepP W0 wi f r rest g w (.returned (.int .i64 n)) w' :=
  ⟨by rw [h], hb, fun q => absurd (h.symm.trans q) hn⟩
theorem stepP_ok {W0 : World} {wi : Bool} {f : Frm} {r : Rep} {rest : List ByteArray} {g : Nat} {w w' : World} {vs : Value} (h : stepE wi f r rest = 0) (hb : FarG g w w') (hg : w'.heap[g]? = some (.cells #[.bool (nxW wi r.kind), vs] 54 (0, 0))) (hv : IsStrs W0 vs (stepR r rest)) : StepP W0 wi f r rest g w (.returned (.int .i64 0)) w' :=
  ⟨by rw [h], hb, fun _ => ⟨vs, hg, hv⟩⟩
theorem cells2 {w : World} {g : Nat} {a b : Value} {t : TypeId} (h : w.heap[g]? = some (.cells #[a, b] t (0, 0))) : w.cell? ⟨g, 0, none⟩ = some a ∧ w.cell? ⟨g, 1, none⟩ = some b ∧ w.frozen? ⟨g, 0, none⟩ = false ∧ w.frozen? ⟨g, 1, none⟩ = false :=
  ⟨(cell_of_row w _ 0 _ _ _ h).trans rfl, (cell_of_row w _ 1 _ _ _ h).trans rfl, frozen_of_row w _ 0 _ _ h, frozen_of_row w _ 1 _ _ h⟩
theorem cells3 {w : World} {g : Nat} {a b c : Value} {t : TypeId} (h : w.heap[g]? = some (.cells #[a, b, c] t (0, 0))) : w.cell? ⟨g, 0, none⟩ = some a ∧ w.cell? ⟨g, 1, none⟩ = some b ∧ w.cell? ⟨g, 2, none⟩ = some c :=
  ⟨(cell_of_row w _ 0 _ _ _ h).trans rfl, (cell_of_row w _ 1 _ _ _ h).trans rfl, (cell_of_row w _ 2 _ _ _ h).trans rfl⟩
theorem frm_kind {f : Frm} (h : frmOk f) : f.kind = 66 ∨ f.kind = 81 ∨ f.kind = 69 := by
  rcases h with ⟨h | h, _⟩ | ⟨h, _⟩
  · exact .inl h
  · exact .inr (.inr h)
  · exact .inr (.inl h)
theorem str_ne {s t : ByteArray} (h : s ≠ t) : (s.toList == t.toList) = false := by
  rw [beq_eq_false_iff_ne, ByteArray.toList_eq, ByteArray.toList_eq]
  intro q
  apply h
  obtain ⟨⟨a⟩⟩ := s
  obtain ⟨⟨b⟩⟩ := t
  simp at q
  subst q
  rfl
/-- the cell of what is within, stored -/
theorem set0 {w : World} {g : Nat} {a b v : Value} {t : TypeId} (h : w.heap[g]? = some (.cells #[a, b] t (0, 0))) : (w.setCell ⟨g, 0, none⟩ v).heap[g]? = some (.cells #[v, b] t (0, 0)) := (heap_setCell_same w g 0 _ t v h).trans rfl
theorem set1 {w : World} {g : Nat} {a b v : Value} {t : TypeId} (h : w.heap[g]? = some (.cells #[a, b] t (0, 0))) : (w.setCell ⟨g, 1, none⟩ v).heap[g]? = some (.cells #[a, v] t (0, 0)) := (heap_setCell_same w g 1 _ t v h).trans rfl
set_option maxHeartbeats 16000000 in
theorem step_any (W0 : World) (wi : Bool) (f : Frm) (r : Rep) (rest : List ByteArray) (vs : Value) (g : Nat) (w : World) (hg : w.heap[g]? = some (.cells #[.bool wi, vs] 54 (0, 0))) (hs : IsStrs W0 vs rest) (hb : Below W0.heap.size W0 w) (hg0 : W0.heap.size ≤ g) :
    Calls Try.prog 22 #[.pointer (some ⟨g, 0, none⟩), .agg (fArr f), .agg (rArr r)] w (StepP W0 wi f r rest g w) := by
  have hgl : g < w.heap.size := (Array.getElem?_eq_some_iff.1 hg).1
  have hb1 : Below w.heap.size w ((w.alloc (.cells (fArr f) 42)).alloc (.cells (rArr r) 52)) := ((Below.refl _ _).alloc (Nat.le_refl _) _).alloc (by simp) _
  have F1 := Lib.hid (heap_alloc2_old w (.cells (fArr f) 42) (.cells (rArr r) 52))
  have R1 := Lib.hid (heap_alloc2_new w (.cells (fArr f) 42) (.cells (rArr r) 52))
  have G1 := Lib.hid ((hb1.block g hgl).trans hg)
  have hz : ((w.alloc (.cells (fArr f) 42)).alloc (.cells (rArr r) 52)).heap.size = w.heap.size + 2 := by simp
  have HZ := Lib.hid hz
  have HGL := Lib.hid hgl
  have HB1 := Lib.hid (FarG.of_below hb1 hgl)
  have HB0 := Lib.hid (hb.trans (hb1.mono hb.size))
  have HS := Lib.hid hs
  have HG0 := Lib.hid hg0
  clear hg hs hb hg0 hb1 hz
  obtain ⟨x0, x1, -, -⟩ := cells2 F1.out
  by_cases okf : frmOk f
  · have HK := Lib.hid (frm_kind okf)
    have OKF := Lib.hid okf
    go_enter Try.func22, Try.ntmps22
    go_wp2_with fail
    refine (frameFits_any f _).mono ?_
    rintro e w2 ⟨t, rfl, ht, hb2⟩
    obtain rfl := ht.2 okf
    have hz2 : w.heap.size + 2 ≤ w2.heap.size := by have := hb2.size; have := HZ.out; omega
    have F2 := Lib.hid ((hb2.block w.heap.size (by have := HZ.out; omega)).trans F1.out)
    have R2 := Lib.hid ((hb2.block (w.heap.size + 1) (by have := HZ.out; omega)).trans R1.out)
    have G2 := Lib.hid ((hb2.block g (by have := HZ.out; omega)).trans G1.out)
    have HB2 := Lib.hid (HB1.out.go HGL.out hb2)
    have HC2 := Lib.hid (HB0.out.trans (hb2.mono (by have := HB0.out.size; exact this)))
    have HZ2 := Lib.hid hz2
    clear ht hb2 okf x0 x1 hz2
    obtain ⟨x0, x1, -, -⟩ := cells2 F2.out
    obtain ⟨y0, y1, y2⟩ := cells3 R2.out
    obtain ⟨g0, g1, gf0, gf1⟩ := cells2 G2.out
    have HROW : Hid (∀ w, Calls Try.prog (if wi = true then 29 else 28) #[.int .u8 f.kind, .int .i64 r.kind] w (Row (okW wi f.kind r.kind) (nxW wi r.kind) w)) := Lib.hid (fun w => by
      cases wi
      · exact outside_any f.kind r.kind w HK.out
      · exact inside_any f.kind r.kind w HK.out)
    have HIN : Hid (∃ b : Bool, (b = true ↔ okW wi f.kind r.kind)) := by
      by_cases q : okW wi f.kind r.kind
      · exact Lib.hid ⟨true, by simp [q]⟩
      · exact Lib.hid ⟨false, by simp [q]⟩
    have HARG : Hid (¬ (okW wi f.kind r.kind ∧ repFits r) → stepE wi f r rest = 1) := Lib.hid (fun h => stepE_arg OKF.out h)
    have HTR : Hid (okW wi f.kind r.kind ∧ repFits r → r.kind = 2 ∧ rest.head? ≠ some r.text → stepE wi f r rest = 220) := Lib.hid (fun h h2 => stepE_trace OKF.out h h2)
    have HOKE : Hid (okW wi f.kind r.kind ∧ repFits r → ¬ (r.kind = 2 ∧ rest.head? ≠ some r.text) → stepE wi f r rest = 0) := Lib.hid (fun h h2 => stepE_ok OKF.out h h2)
    cases wi
    all_goals
      go_wp2_with fail
      refine (HROW.out _).mono ?_
      rintro e w3 ⟨b, rfl, hok, rfl⟩
      cases b with
      | false =>
        have HE := Lib.hid (HARG.out (fun q => by cases hok.2 q.1))
        clear hok
        go_wp2
        go_ret
        exact stepP_bad HE.out (by decide) HB2.out
      | true =>
        have HOK := Lib.hid (hok.1 rfl)
        clear hok
        go_wp2_with fail
        refine (replyFits_any r _).mono ?_
        rintro e w4 ⟨b, rfl, hrf, hb4⟩
        have R4 := Lib.hid ((hb4.block (w.heap.size + 1) (by have := HZ2.out; omega)).trans R2.out)
        have G4 := Lib.hid ((hb4.block g (by have := HZ2.out; have := HGL.out; omega)).trans G2.out)
        have HB4 := Lib.hid (HB2.out.go HGL.out hb4)
        have HC4 := Lib.hid (HC2.out.trans (hb4.mono HC2.out.size))
        clear hb4 x0 x1 y0 y1 y2 g0 g1 gf0 gf1
        obtain ⟨y0, y1, y2⟩ := cells3 R4.out
        obtain ⟨g0, g1, gf0, gf1⟩ := cells2 G4.out
        cases b with
        | false =>
          have HE := Lib.hid (HARG.out (fun q => by cases hrf.2 q.2))
          clear hrf
          go_wp2
          go_ret
          exact stepP_bad HE.out (by decide) HB4.out
        | true =>
          have HRF := Lib.hid (hrf.1 rfl)
          clear hrf
          have HOO := Lib.hid (And.intro HOK.out HRF.out)
          by_cases k2 : r.kind = 2
          · rcases strs_cases HS.out with ⟨a, cap, rfl, rfl⟩ | ⟨bb, off, cap, s, l, rfl, rfl, hlc, hcm, hlt, hc, hsl, htl⟩
            · have HE := Lib.hid (HTR.out HOO.out ⟨k2, by simp⟩)
              go_wp2
              go_quiet (fail)
              go_wp2
              go_ret
              exact stepP_bad HE.out (by decide) (HB4.out.drewN _)
            · have hc4 := (HC4.out.cell (p := ⟨bb, off, none⟩) hlt).trans hc
              have HTL := Lib.hid htl
              have HLT := Lib.hid hlt
              clear htl hc hlt
              have HBD : Hid (∀ n, FarG g w (w4.drewN n)) := Lib.hid (fun n => HB4.out.drewN n)
              have HGD : Hid (∀ n, (w4.drewN n).heap[g]? = _) := Lib.hid (fun n => G4.out)
              by_cases hst : s = r.text
              · have HE := Lib.hid (HOKE.out HOO.out (fun q => q.2 (by rw [List.head?_cons, hst])))
                have HR : Hid (stepR r (s :: l) = l) := Lib.hid (by unfold stepR; rw [if_pos k2]; rfl)
                subst hst
                by_cases hcap : cap = 1
                · rw [if_pos hcap] at HTL
                  subst hcap
                  obtain rfl : l = [] := List.eq_nil_of_length_eq_zero (by omega)
                  go_wp2
                  go_quiet (fail)
                  go_wp2
                  go_ret
                  exact stepP_ok HE.out (((HBD.out _).setCell _ _).setCell _ _) (vs := .slice (some ⟨bb, off, none⟩) 0 0) (by rw [k2]; exact set0 (set1 (HGD.out _))) (by rw [HR.out]; exact HTL.out)
                · rw [if_neg hcap] at HTL
                  go_wp2
                  go_quiet (fail)
                  go_wp2
                  go_ret
                  exact stepP_ok HE.out (((HBD.out _).setCell _ _).setCell _ _) (vs := .slice (some ⟨bb, off + 1, none⟩) l.length (cap - 1)) (by rw [k2]; exact set0 (set1 (HGD.out _))) (by rw [HR.out]; exact HTL.out)
              · have HE := Lib.hid (HTR.out HOO.out ⟨k2, fun q => hst (by simpa using q)⟩)
                have hsn := str_ne hst
                have hsl0 : ((l.length : Int) + 1 == 0) = false := beq_eq_false_iff_ne.2 (by omega)
                clear hst
                go_wp2
                go_quiet (fail)
                go_wp2
                go_ret
                exact stepP_bad HE.out (by decide) (HB4.out.drewN _)
          · have HE := Lib.hid (HOKE.out HOO.out (fun q => k2 q.1))
            have e2 : (r.kind == 2) = false := beq_eq_false_iff_ne.2 k2
            have HR : Hid (stepR r rest = rest) := Lib.hid (by unfold stepR; rw [if_neg k2])
            clear k2
            go_wp2
            go_ret
            exact stepP_ok HE.out (HB4.out.setCell _ _) (set0 G4.out) (by rw [HR.out]; exact HS.out)
  · have HE := Lib.hid (stepE_frm (wi := wi) (r := r) (rest := rest) okf)
    go_enter Try.func22, Try.ntmps22
    go_wp2_with fail
    refine (frameFits_any f _).mono ?_
    rintro e w2 ⟨t, rfl, ht, hb2⟩
    cases t with
    | true => exact absurd (ht.1 rfl) okf
    | false =>
      have HB2 := Lib.hid (HB1.out.go HGL.out hb2)
      clear ht hb2 okf
      go_wp2
      go_ret
      exact stepP_bad HE.out (by decide) HB2.out
end Jf
end Go.Proofs.Ytcgciefoojlpoaa
