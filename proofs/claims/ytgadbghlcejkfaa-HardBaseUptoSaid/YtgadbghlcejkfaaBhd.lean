/- What is left of a log behind a snapshot: hard.behind. No condition but the bounds of what may last. -/
import Derived.Test.YtgadbghlcejkfaaHdU
import Derived.Deep.QuietTactic
import Derived.BigQuiet
namespace Go.Proofs.Ytgadbghlcejkfaa
open Go.ChangeShapes Go.WideShapes Go.ChangeAt Go.RowKit Go.Deep
set_option linter.unusedVariables false
set_option maxRecDepth 100000
namespace Hd
def behindL (h : Har) (s : Sho) : List Ent := if h.shot.index + h.log.length < s.index then [] else if befE h.shot.term (h.log.take (s.index - h.shot.index).toNat) = s.term then h.log.drop (s.index - h.shot.index).toNat else []
def SaysB (h : Har) (s : Sho) (v : Value) (w : World) (e : Ending) (w' : World) : Prop := ∃ u, e = .returned u ∧ PieceOf v h.log u (behindL h s) ∧ Below w.heap.size w w'
theorem behindL_far {h : Har} {s : Sho} {k : Nat} (hk : s.index = h.shot.index + k) (c : h.log.length < k) : behindL h s = [] := by
  unfold behindL
  rw [if_pos (by omega)]
theorem behindL_yes {h : Har} {s : Sho} {k : Nat} (hk : s.index = h.shot.index + k) (c : k ≤ h.log.length) (e : befE h.shot.term (h.log.take k) = s.term) : behindL h s = h.log.drop k := by
  unfold behindL
  have q : (s.index - h.shot.index).toNat = k := by omega
  rw [if_neg (by omega), q, if_pos e]
theorem behindL_no {h : Har} {s : Sho} {k : Nat} (hk : s.index = h.shot.index + k) (c : k ≤ h.log.length) (e : befE h.shot.term (h.log.take k) ≠ s.term) : behindL h s = [] := by
  unfold behindL
  have q : (s.index - h.shot.index).toNat = k := by omega
  rw [if_neg (by omega), q, if_neg e]
set_option maxHeartbeats 4000000 in
theorem behind_nil (h : Har) (vn vh vl : Value) (s : Sho) (sv : Value) (w : World) (hh : IsHard w (.agg (hArr h vn vh vl (.slice none 0 0))) h) (hs : IsShot w sv s) (k : Nat) (hk : s.index = h.shot.index + k) (hi : h.shot.index + h.log.length ≤ 4611686018427387904) (hl : h.log = []) : Calls Try.prog 50 #[.agg (hArr h vn vh vl (.slice none 0 0)), sv] w (SaysB h s (.slice none 0 0) w) := by
  have hwf := IsHard.harW hh
  obtain ⟨un, uh, ul, rfl, -, -, -, hsw⟩ := id hs
  have hsb := bounds_u64 hsw.1
  have hx0 := Ld.u64_nonneg hwf.1.2.2.2.1
  have hb0 : Below w.heap.size w ((w.alloc (.cells (hArr h vn vh vl (.slice none 0 0)) 32)).alloc (.cells (sArr s un uh ul) 29)) := ((Below.refl _ _).alloc (Nat.le_refl _) _).alloc (by simp) _
  obtain ⟨d0, d1, d2, d3, d4, d5, d6, d7, d8, d9, d10⟩ := cells11 (heap_alloc2_old w (.cells (hArr h vn vh vl (.slice none 0 0)) 32 (0, 0)) (.cells (sArr s un uh ul) 29 (0, 0)))
  have s0 := (cell_of_row _ _ 0 _ _ _ (heap_alloc2_new w (.cells (hArr h vn vh vl (.slice none 0 0)) 32 (0, 0)) (.cells (sArr s un uh ul) 29 (0, 0)))).trans rfl
  have s1 := (cell_of_row _ _ 1 _ _ _ (heap_alloc2_new w (.cells (hArr h vn vh vl (.slice none 0 0)) 32 (0, 0)) (.cells (sArr s un uh ul) 29 (0, 0)))).trans rfl
  have HB := Lib.hid hb0
  have e1 : s.index - h.shot.index = (k : Int) := by omega
  have hl0 : h.log.length = 0 := by rw [hl]; rfl
  have HL := Lib.hid hl
  have HK := Lib.hid hk
  clear hh hs hwf hsw hb0 hl hl0
  by_cases c : k = 0
  · subst c
    by_cases ct : h.shot.term = s.term
    · have HE : Hid (behindL h s = []) := Lib.hid (by rw [behindL_yes HK.out (Nat.zero_le _) (by rw [List.take_zero, befE_nil]; exact ct), HL.out]; rfl)
      have e2 : (h.shot.term != s.term) = false := by rw [bne, beq_iff_eq.2 ct]; rfl
      clear ct
      go_enter Try.func50, Try.ntmps50
      go_wp2
      go_ret
      exact ⟨_, rfl, .inl ⟨rfl, HE.out⟩, HB.out⟩
    · have HE : Hid (behindL h s = []) := Lib.hid (behindL_no HK.out (Nat.zero_le _) (by rw [List.take_zero, befE_nil]; exact ct))
      have e2 : (h.shot.term != s.term) = true := by rw [bne, beq_eq_false_iff_ne.2 ct]; rfl
      clear ct
      go_enter Try.func50, Try.ntmps50
      go_wp2
      go_ret
      exact ⟨_, rfl, .inl ⟨rfl, HE.out⟩, HB.out⟩
  · have HE : Hid (behindL h s = []) := Lib.hid (behindL_far HK.out (by rw [HL.out]; simp; omega))
    have c1 : (0 : Int) < (k : Int) := by omega
    go_enter Try.func50, Try.ntmps50
    go_wp2
    go_ret
    exact ⟨_, rfl, .inl ⟨rfl, HE.out⟩, HB.out⟩
set_option maxHeartbeats 4000000 in
theorem behind_some (h : Har) (vn vh vl : Value) (b off cap : Nat) (s : Sho) (sv : Value) (w : World) (hh : IsHard w (.agg (hArr h vn vh vl (.slice (some ⟨b, off, none⟩) h.log.length cap))) h) (hs : IsShot w sv s) (k : Nat) (hk : s.index = h.shot.index + k) (hi : h.shot.index + h.log.length ≤ 4611686018427387904)  : Calls Try.prog 50 #[.agg (hArr h vn vh vl (.slice (some ⟨b, off, none⟩) h.log.length cap)), sv] w (SaysB h s (.slice (some ⟨b, off, none⟩) h.log.length cap) w) := by
  have hwf := IsHard.harW hh
  obtain ⟨un, uh, ul, rfl, -, -, -, hsw⟩ := id hs
  have hsb := bounds_u64 hsw.1
  have hx0 := Ld.u64_nonneg hwf.1.2.2.2.1
  have hb0 : Below w.heap.size w ((w.alloc (.cells (hArr h vn vh vl (.slice (some ⟨b, off, none⟩) h.log.length cap)) 32)).alloc (.cells (sArr s un uh ul) 29)) := ((Below.refl _ _).alloc (Nat.le_refl _) _).alloc (by simp) _
  obtain ⟨d0, d1, d2, d3, d4, d5, d6, d7, d8, d9, d10⟩ := cells11 (heap_alloc2_old w (.cells (hArr h vn vh vl (.slice (some ⟨b, off, none⟩) h.log.length cap)) 32 (0, 0)) (.cells (sArr s un uh ul) 29 (0, 0)))
  have s0 := (cell_of_row _ _ 0 _ _ _ (heap_alloc2_new w (.cells (hArr h vn vh vl (.slice (some ⟨b, off, none⟩) h.log.length cap)) 32 (0, 0)) (.cells (sArr s un uh ul) 29 (0, 0)))).trans rfl
  have s1 := (cell_of_row _ _ 1 _ _ _ (heap_alloc2_new w (.cells (hArr h vn vh vl (.slice (some ⟨b, off, none⟩) h.log.length cap)) 32 (0, 0)) (.cells (sArr s un uh ul) 29 (0, 0)))).trans rfl
  have HB := Lib.hid hb0
  have e1 : s.index - h.shot.index = (k : Int) := by omega
  have HK := Lib.hid hk
  obtain ⟨vn', vh', vl', vg', e, -, -, -, hg, -⟩ := id hh
  obtain ⟨rows, a', cap', hv, hrl, hlc, hcm, hrc, -, hget⟩ := log_rows hg
  have hvg : vg' = .slice (some ⟨b, off, none⟩) h.log.length cap := by
    have := congrArg (fun v => match v with | .agg A => A[10]? | _ => none) e
    simpa using this.symm
  rw [hvg] at hv
  simp only [Value.slice.injEq] at hv
  obtain ⟨rfl, -, rfl⟩ := hv
  clear hh hs hwf hsw hg e hvg
  by_cases c : h.log.length < k
  · have HE : Hid (behindL h s = []) := Lib.hid (behindL_far HK.out c)
    have c1 : (h.log.length : Int) < (k : Int) := by omega
    clear hb0 hrc hget
    go_enter Try.func50, Try.ntmps50
    go_wp2
    go_ret
    exact ⟨_, rfl, .inl ⟨rfl, HE.out⟩, HB.out⟩
  · have c1 : (k : Int) ≤ (h.log.length : Int) := by omega
    by_cases c0 : k = 0
    · subst c0
      clear hrc hget hb0
      by_cases ct : h.shot.term = s.term
      · have HE : Hid (behindL h s = h.log.drop 0) := Lib.hid (behindL_yes HK.out (Nat.zero_le _) (by rw [List.take_zero, befE_nil]; exact ct))
        have e2 : (h.shot.term != s.term) = false := by rw [bne, beq_iff_eq.2 ct]; rfl
        clear ct
        go_enter Try.func50, Try.ntmps50
        go_wp2
        go_ret
        refine ⟨_, rfl, .inr (.inl ⟨b, off, cap, 0, rfl, ?_, by rw [HE.out]; simp, by rw [HE.out, List.drop_zero]; exact List.take_of_length_le (Nat.le_refl _)⟩), HB.out⟩
        rw [HE.out]
        simp
      · have HE : Hid (behindL h s = []) := Lib.hid (behindL_no HK.out (Nat.zero_le _) (by rw [List.take_zero, befE_nil]; exact ct))
        have e2 : (h.shot.term != s.term) = true := by rw [bne, beq_eq_false_iff_ne.2 ct]; rfl
        clear ct
        go_enter Try.func50, Try.ntmps50
        go_wp2
        go_ret
        exact ⟨_, rfl, .inl ⟨rfl, HE.out⟩, HB.out⟩
    · obtain ⟨j, rfl⟩ : ∃ j, k = j + 1 := ⟨k - 1, by omega⟩
      have hj : j < rows.length := by omega
      obtain ⟨b2, off2, ha, hlt, hc⟩ := Ld.rows_open hj hrc
      simp only [Option.some.injEq, Addr.mk.injEq, and_true] at ha
      obtain ⟨rfl, rfl⟩ := ha
      have hce := (hb0.cell (p := ⟨b, off + (j * 9 + 0), none⟩) hlt).trans (hc _ _ (Ld.rgetD hj) 0 _ rfl)
      have hlj : j < h.log.length := by omega
      have hgt := hget j hj
      rw [List.getElem?_eq_getElem hlj] at hgt
      have HBE : Hid (befE h.shot.term (h.log.take (j + 1)) = rows[j].1.term) := Lib.hid (by rw [befE_at hlj, Option.some.inj hgt])
      generalize rows[j] = r at *
      obtain ⟨x, vr⟩ := r
      simp only [Nat.add_zero] at hce
      have e3 : ((j + 1 : Nat) : Int) - 1 = (j : Int) := by omega
      have e4 : ((j + 1 : Nat) : Int) = (j : Int) + 1 := by omega
      have hj2 : (j : Int) < (h.log.length : Int) := by omega
      have hle : h.shot.index ≤ s.index := by omega
      have e5 : s.index - h.shot.index = (j : Int) + 1 := by omega
      clear hrc hget hgt hc hb0 hk e1 c c1 c0 e4
      by_cases ct : x.term = s.term
      · have HE : Hid (behindL h s = h.log.drop (j + 1)) := Lib.hid (behindL_yes HK.out (by omega) (by rw [HBE.out]; exact ct))
        have e2 : (x.term != s.term) = false := by rw [bne, beq_iff_eq.2 ct]; rfl
        clear ct
        by_cases hcap : cap = j + 1
        · subst hcap
          have hlen : h.log.length = j + 1 := by omega
          have HE2 : Hid (behindL h s = []) := Lib.hid (by rw [HE.out]; exact List.drop_eq_nil_of_le (by omega))
          have HL := Lib.hid hlen
          clear hlen HE
          go_enter Try.func50, Try.ntmps50
          go_wp2
          go_ret
          all_goals exact ⟨.slice (some ⟨b, off, none⟩) 0 0, rfl, .inr (.inr ⟨⟨b, off, none⟩, 0, rfl, Nat.zero_le _, HE2.out⟩), HB.out⟩
        · have hcap2 : (j : Int) + 1 < (cap : Int) := by omega
          go_enter Try.func50, Try.ntmps50
          go_wp2
          go_ret
          all_goals exact ⟨.slice (some ⟨b, off + (j + 1) * 9, none⟩) (h.log.length - (j + 1)) (cap - (j + 1)), rfl, .inr (.inl ⟨b, off, cap, j + 1, rfl, by rw [HE.out, List.length_drop], by rw [HE.out, List.length_drop]; omega, by rw [HE.out]; exact List.take_of_length_le (Nat.le_refl _)⟩), HB.out⟩
      · have HE : Hid (behindL h s = []) := Lib.hid (behindL_no HK.out (by omega) (by rw [HBE.out]; exact ct))
        have e2 : (x.term != s.term) = true := by rw [bne, beq_eq_false_iff_ne.2 ct]; rfl
        clear ct
        go_enter Try.func50, Try.ntmps50
        go_wp2
        go_ret
        exact ⟨_, rfl, .inl ⟨rfl, HE.out⟩, HB.out⟩
end Hd
end Go.Proofs.Ytgadbghlcejkfaa
