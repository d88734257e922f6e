/- The document's SameRec of a record and what only leaves of it. No condition. -/
import Derived.Test.YtlkgmjhejocobaaMyB
import Derived.Test.YtlkgmjhejocobaaCmR
namespace Go.Proofs.Ytlkgmjhejocobaa
open Go.ChangeShapes Go.WideShapes Go.ChangeAt Go.RowKit Go.Deep
set_option linter.unusedVariables false
set_option maxRecDepth 100000
namespace Rc
open Hd Nv
theorem cmd_eq_of {a c : Cmd} (ha : a.nodes = []) (h : a.kind = c.kind ∧ a.node = c.node ∧ a.token = c.token ∧ a.boot = c.boot ∧ a.seq = c.seq ∧ a.serial = c.serial ∧ a.stamp = c.stamp ∧ c.nodes.length = 0) : a = c := by
  obtain ⟨a1, a2, a3, a4, a5, a6, a7, a8⟩ := a
  obtain ⟨c1, c2, c3, c4, c5, c6, c7, c8⟩ := c
  obtain ⟨h1, h2, h3, h4, h5, h6, h7, h8⟩ := h
  have h9 := List.eq_nil_of_length_eq_zero h8
  dsimp only at *
  subst ha h1 h2 h3 h4 h5 h6 h7 h9
  rfl
theorem sho_eq_of {a s : Sho} (ha : zSho a) (hs : zSho s) : a = s := by
  obtain ⟨a1, a2, a3, ⟨a4, a5, a6, a7⟩⟩ := a
  obtain ⟨c1, c2, c3, ⟨c4, c5, c6, c7⟩⟩ := s
  obtain ⟨h1, h2, h3, h4, h5, h6, h7⟩ := ha
  obtain ⟨g1, g2, g3, g4, g5, g6, g7⟩ := hs
  have i3 := List.eq_nil_of_length_eq_zero h3
  have i6 := List.eq_nil_of_length_eq_zero h6
  have i7 := List.eq_nil_of_length_eq_zero h7
  have j3 := List.eq_nil_of_length_eq_zero g3
  have j6 := List.eq_nil_of_length_eq_zero g6
  have j7 := List.eq_nil_of_length_eq_zero g7
  dsimp only at *
  subst h1 h2 h4 h5 i3 i6 i7 g1 g2 g4 g5 j3 j6 j7
  rfl
theorem rec_eq_of {a r : RecR} (h0 : a.kind = r.kind) (h1 : a.vote = r.vote) (h2 : a.boot = r.boot) (h3 : a.term = r.term) (h4 : a.index = r.index) (h5 : a.ent.term = r.ent.term) (h6 : a.ent.cmd = r.ent.cmd) (h7 : a.shot = r.shot) : a = r := by
  obtain ⟨a0, a1, a2, a3, a4, ⟨a5, a6⟩, a7⟩ := a
  obtain ⟨c0, c1, c2, c3, c4, ⟨c5, c6⟩, c7⟩ := r
  dsimp only at *
  subst h0 h1 h2 h3 h4 h5 h6 h7
  rfl
set_option maxHeartbeats 8000000 in
theorem rec_cmp (a r : RecR) (v u : Value) (w : World) (h : IsRec w v a) (g : IsRec w u r) (k0 : a.kind = r.kind) (hc : a.ent.cmd = r.ent.cmd ∨ a.ent.cmd.nodes = []) (hs : a.shot = r.shot ∨ zSho a.shot) : Calls Try.prog 28 #[v, u] w (Tells (a = r) w) := by
  obtain ⟨vc, vn, vh, vl, rfl, hL, hwf⟩ := h
  obtain ⟨uc, un, uh, ul, rfl, gL, gwf⟩ := g
  obtain ⟨W1, hW1⟩ : ∃ q, (w.alloc (.cells (rArr a vc vn vh vl) 49)).alloc (.cells (rArr r uc un uh ul) 49) = q := ⟨_, rfl⟩
  have hA : W1.heap[w.heap.size]? = some (.cells (rArr a vc vn vh vl) 49 (0, 0)) := by rw [← hW1]; exact heap_alloc2_old _ _ _
  have hB : W1.heap[w.heap.size + 1]? = some (.cells (rArr r uc un uh ul) 49 (0, 0)) := by rw [← hW1]; exact heap_alloc2_new _ _ _
  have hb : Below w.heap.size w W1 := by rw [← hW1]; exact ((Below.refl _ _).alloc (Nat.le_refl _) _).alloc (by simp) _
  have HB := Lib.hid hb
  have HAR := Lib.hid hA
  have HBR := Lib.hid hB
  have HC1 : Hid (IsCmd W1 (.agg (Cm.cArr a.ent.cmd vc)) a.ent.cmd) := Lib.hid ⟨_, rfl, hL.1.below hb (Nat.le_refl _), hwf.2.2.2.2.2.1.2⟩
  have HC2 : Hid (IsCmd W1 (.agg (Cm.cArr r.ent.cmd uc)) r.ent.cmd) := Lib.hid ⟨_, rfl, gL.1.below hb (Nat.le_refl _), gwf.2.2.2.2.2.1.2⟩
  have HS1 := Lib.hid ((ent_led hL hwf hb).2)
  have HS2 := Lib.hid ((ent_led gL gwf hb).2)
  have HQC := Lib.hid hc
  have HQS := Lib.hid hs
  have e0 : (a.kind == r.kind) = true := beq_iff_eq.2 k0
  have HK0 := Lib.hid k0
  obtain ⟨c0, c1, c2, c3, c4, c5, -⟩ := cells21 hA
  obtain ⟨d0, d1, d2, d3, d4, d5, -⟩ := cells21 hB
  have ra := cmd_range hA
  have rb := cmd_range hB
  clear hA hB hb hL gL hwf gwf hc hs k0
  by_cases k1 : a.vote = r.vote
  · have e1 : (a.vote == r.vote) = true := beq_iff_eq.2 k1
    have H0 := Lib.hid k1
    clear k1
    by_cases k2 : a.boot = r.boot
    · have e2 : (a.boot == r.boot) = true := beq_iff_eq.2 k2
      have H1 := Lib.hid k2
      clear k2
      by_cases k3 : a.term = r.term
      · have e3 : (a.term == r.term) = true := beq_iff_eq.2 k3
        have H2 := Lib.hid k3
        clear k3
        by_cases k4 : a.index = r.index
        · have e4 : (a.index == r.index) = true := beq_iff_eq.2 k4
          have H3 := Lib.hid k4
          clear k4
          by_cases k5 : a.ent.term = r.ent.term
          · have e5 : (a.ent.term == r.ent.term) = true := beq_iff_eq.2 k5
            have H4 := Lib.hid k5
            clear k5
            by_cases kc : a.ent.cmd = r.ent.cmd
            · have HC3 : Hid (IsCmd W1 (.agg (Cm.cArr r.ent.cmd vc)) r.ent.cmd) := Lib.hid (by have q := HC1.out; rw [kc] at q; exact q)
              have ra : W1.rangeAt w.heap.size 6 (Cm.cArr r.ent.cmd vc).toList := by rw [kc] at ra; exact ra
              have HKC := Lib.hid kc
              clear kc
              go_enter Try.func28, Try.ntmps28
              go_wp2_with (first
                | (refine wpList_load_midG rfl 45 (.tmp 49) rfl w.heap.size 6 rfl (Cm.cArr r.ent.cmd vc).toList _ ra Try.underlying45 rfl (by kernel_rfl) ?_)
                | (refine wpList_load_midG rfl 45 (.tmp 52) rfl (w.heap.size + 1) 6 rfl (Cm.cArr r.ent.cmd uc).toList _ rb Try.underlying45 rfl (by kernel_rfl) ?_))
              refine (Cm.same_true r.ent.cmd _ _ _ HC3.out HC2.out).mono ?_
              rintro e w2 ⟨rfl, hb2⟩
              have ra := sho_range ((hb2.block _ (Hd.lt_of_row HAR.out)).trans HAR.out)
              have rb := sho_range ((hb2.block _ (Hd.lt_of_row HBR.out)).trans HBR.out)
              have HS3 := Lib.hid (HS1.out.below hb2 (Nat.le_refl _))
              have HS4 := Lib.hid (HS2.out.below hb2 (Nat.le_refl _))
              have HB2 := Lib.hid (HB.out.trans (hb2.mono HB.out.size))
              clear hb2 c0 c1 c2 c3 c4 c5 d0 d1 d2 d3 d4 d5
              by_cases ks : a.shot = r.shot
              · have HS5 : Hid (IsShot w2 (.agg (sArr r.shot vn vh vl)) r.shot) := Lib.hid (by have q := HS3.out; rw [ks] at q; exact q)
                have ra : w2.rangeAt w.heap.size 14 (sArr r.shot vn vh vl).toList := by rw [ks] at ra; exact ra
                have HY : Hid (a = r) := Lib.hid (rec_eq_of HK0.out H0.out H1.out H2.out H3.out H4.out HKC.out ks)
                clear ks
                go_wp2_with (first
                  | (refine wpList_load_midG rfl 29 (.tmp 57) rfl w.heap.size 14 rfl (sArr r.shot vn vh vl).toList _ ra Try.underlying29 rfl (by kernel_rfl) ?_)
                  | (refine wpList_load_midG rfl 29 (.tmp 59) rfl (w.heap.size + 1) 14 rfl (sArr r.shot un uh ul).toList _ rb Try.underlying29 rfl (by kernel_rfl) ?_))
                refine (Sh.same_any r.shot _ _ _ HS5.out HS4.out).mono ?_
                rintro e w3 ⟨rfl, hb3⟩
                go_wp2
                go_ret
                exact tells_yes HY.out (HB2.out.trans (hb3.mono HB2.out.size))
              · have HZ : Hid (zSho a.shot) := Lib.hid (HQS.out.resolve_left ks)
                have HNZ : Hid (¬ zSho r.shot) := Lib.hid (fun q => ks (sho_eq_of HZ.out q))
                have HN : Hid (¬ a = r) := Lib.hid (fun g => ks (by rw [g]))
                clear ks
                go_wp2_with (first
                  | (refine wpList_load_midG rfl 29 (.tmp 57) rfl w.heap.size 14 rfl (sArr a.shot vn vh vl).toList _ ra Try.underlying29 rfl (by kernel_rfl) ?_)
                  | (refine wpList_load_midG rfl 29 (.tmp 59) rfl (w.heap.size + 1) 14 rfl (sArr r.shot un uh ul).toList _ rb Try.underlying29 rfl (by kernel_rfl) ?_))
                refine (sho_no a.shot r.shot _ _ _ HS3.out HS4.out HZ.out HNZ.out).mono ?_
                rintro e w3 ⟨rfl, hb3⟩
                go_wp2
                go_ret
                exact tells_no HN.out (HB2.out.trans (hb3.mono HB2.out.size))
            · have HZ : Hid (a.ent.cmd.nodes = []) := Lib.hid (HQC.out.resolve_left kc)
              have HNZ := Lib.hid (fun q => kc (cmd_eq_of HZ.out q))
              have HN : Hid (¬ a = r) := Lib.hid (fun g => kc (by rw [g]))
              clear kc
              go_enter Try.func28, Try.ntmps28
              go_wp2_with (first
                | (refine wpList_load_midG rfl 45 (.tmp 49) rfl w.heap.size 6 rfl (Cm.cArr a.ent.cmd vc).toList _ ra Try.underlying45 rfl (by kernel_rfl) ?_)
                | (refine wpList_load_midG rfl 45 (.tmp 52) rfl (w.heap.size + 1) 6 rfl (Cm.cArr r.ent.cmd uc).toList _ rb Try.underlying45 rfl (by kernel_rfl) ?_))
              refine (cmd_no a.ent.cmd r.ent.cmd _ _ _ HC1.out HC2.out HZ.out HNZ.out).mono ?_
              rintro e w2 ⟨rfl, hb2⟩
              go_wp2
              go_ret
              exact tells_no HN.out (HB.out.trans (hb2.mono HB.out.size))
          · have e5 : (a.ent.term == r.ent.term) = false := ne_true k5
            have HN : Hid (¬ a = r) := Lib.hid (fun g => k5 (by rw [g]))
            clear k5
            go_enter Try.func28, Try.ntmps28
            go_wp2
            go_ret
            exact tells_no HN.out HB.out
        · have e4 : (a.index == r.index) = false := ne_true k4
          have HN : Hid (¬ a = r) := Lib.hid (fun g => k4 (by rw [g]))
          clear k4
          go_enter Try.func28, Try.ntmps28
          go_wp2
          go_ret
          exact tells_no HN.out HB.out
      · have e3 : (a.term == r.term) = false := ne_true k3
        have HN : Hid (¬ a = r) := Lib.hid (fun g => k3 (by rw [g]))
        clear k3
        go_enter Try.func28, Try.ntmps28
        go_wp2
        go_ret
        exact tells_no HN.out HB.out
    · have e2 : (a.boot == r.boot) = false := ne_true k2
      have HN : Hid (¬ a = r) := Lib.hid (fun g => k2 (by rw [g]))
      clear k2
      go_enter Try.func28, Try.ntmps28
      go_wp2
      go_ret
      exact tells_no HN.out HB.out
  · have e1 : (a.vote == r.vote) = false := ne_true k1
    have HN : Hid (¬ a = r) := Lib.hid (fun g => k1 (by rw [g]))
    clear k1
    go_enter Try.func28, Try.ntmps28
    go_wp2
    go_ret
    exact tells_no HN.out HB.out
end Rc
end Go.Proofs.Ytlkgmjhejocobaa
