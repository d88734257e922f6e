/- The document's SameRec and SameRecs, on one. No condition. -/
import Derived.Test.YtlkgmjhejocobaaBsM
import Derived.Test.YtlkgmjhejocobaaSmE
import Derived.Deep.MidRow
import Derived.Deep.RegionHeld3
namespace Go.Proofs.Ytlkgmjhejocobaa
open Go.ChangeShapes Go.WideShapes Go.ChangeAt Go.RowKit Go.Deep
set_option linter.unusedVariables false
set_option maxRecDepth 100000
theorem wpList_load_midG {P : Program} {ops : Array Oper} {rest : List Oper} {op : Oper} {a : Act} {w : World} {Q : Exit → Act → World → Prop} (hw : Region.wanted op (yielded ops a.tmps) = true) (ty : TypeId) (x : Operand) (ho : op.op = .load ty x)
    (b o : Nat) (hx : a.eval x = .pointer (some ⟨b, o, none⟩)) (cs : List Value) (d : TypeDesc) (hc : w.rangeAt b o cs)
    (hu : P.underlying ty = some d) (hd : d.isRow = true) (hi : (P.info? ty).map (·.size) = some cs.length)
    (h : wpList P ops Q rest (a.put op.dst (.agg cs.toArray)) w) : wpList P ops Q (op :: rest) a w :=
  BigFrame.wpList_want hw fun _ hK => wp_load_mid ty x ho b o hx cs d hc hu hd hi (hK _ _ h)
namespace Rc
open Hd Nv
theorem beq_self (n : Int) : (n == n) = true := by simp
set_option maxHeartbeats 8000000 in
theorem rec_same (r : RecR) (v u : Value) (w : World) (h : IsRec w v r) (g : IsRec w u r) : Calls Try.prog 28 #[v, u] w fun e w' => e = .returned (.bool true) ∧ Below w.heap.size w w' := by
  obtain ⟨vc, vn, vh, vl, rfl, hL, hwf⟩ := h
  obtain ⟨uc, un, uh, ul, rfl, gL, -⟩ := g
  obtain ⟨W1, hW1⟩ : ∃ q, (w.alloc (.cells (rArr r vc vn vh vl) 49)).alloc (.cells (rArr r uc un uh ul) 49) = q := ⟨_, rfl⟩
  have hA : W1.heap[w.heap.size]? = some (.cells (rArr r vc vn vh vl) 49 (0, 0)) := by rw [← hW1]; exact heap_alloc2_old _ _ _
  have hB : W1.heap[w.heap.size + 1]? = some (.cells (rArr r uc un uh ul) 49 (0, 0)) := by rw [← hW1]; exact heap_alloc2_new _ _ _
  have hb : Below w.heap.size w W1 := by rw [← hW1]; exact ((Below.refl _ _).alloc (Nat.le_refl _) _).alloc (by simp) _
  have HB := Lib.hid hb
  have HAR := Lib.hid hA
  have HBR := Lib.hid hB
  have HC1 : Hid (IsCmd W1 (.agg (Cm.cArr r.ent.cmd vc)) r.ent.cmd) := Lib.hid ⟨_, rfl, hL.1.below hb (Nat.le_refl _), hwf.2.2.2.2.2.1.2⟩
  have HC2 : Hid (IsCmd W1 (.agg (Cm.cArr r.ent.cmd uc)) r.ent.cmd) := Lib.hid ⟨_, rfl, gL.1.below hb (Nat.le_refl _), hwf.2.2.2.2.2.1.2⟩
  have HS1 := Lib.hid ((ent_led hL hwf hb).2)
  have HS2 := Lib.hid ((ent_led gL hwf hb).2)
  have e0 := beq_self r.kind
  have e1 := beq_self r.vote
  have e2 := beq_self r.boot
  have e3 := beq_self r.term
  have e4 := beq_self r.index
  have e5 := beq_self r.ent.term
  obtain ⟨c0, c1, c2, c3, c4, c5, -⟩ := cells21 hA
  obtain ⟨d0, d1, d2, d3, d4, d5, -⟩ := cells21 hB
  have ra := cmd_range hA
  have rb := cmd_range hB
  clear hA hB hb hL gL hwf
  go_enter Try.func28, Try.ntmps28
  go_wp2_with (first
    | (refine wpList_load_midG rfl 45 (.tmp 49) rfl w.heap.size 6 rfl (Cm.cArr r.ent.cmd vc).toList _ ra Try.underlying45 rfl (by kernel_rfl) ?_)
    | (refine wpList_load_midG rfl 45 (.tmp 52) rfl (w.heap.size + 1) 6 rfl (Cm.cArr r.ent.cmd uc).toList _ rb Try.underlying45 rfl (by kernel_rfl) ?_))
  refine (Cm.same_true r.ent.cmd _ _ _ HC1.out HC2.out).mono ?_
  rintro e w2 ⟨rfl, hb2⟩
  have ra := sho_range ((hb2.block _ (Hd.lt_of_row HAR.out)).trans HAR.out)
  have rb := sho_range ((hb2.block _ (Hd.lt_of_row HBR.out)).trans HBR.out)
  have HS3 := Lib.hid (HS1.out.below hb2 (Nat.le_refl _))
  have HS4 := Lib.hid (HS2.out.below hb2 (Nat.le_refl _))
  have HB2 := Lib.hid (HB.out.trans (hb2.mono HB.out.size))
  clear hb2 c0 c1 c2 c3 c4 c5 d0 d1 d2 d3 d4 d5
  go_wp2_with (first
    | (refine wpList_load_midG rfl 29 (.tmp 57) rfl w.heap.size 14 rfl (sArr r.shot vn vh vl).toList _ ra Try.underlying29 rfl (by kernel_rfl) ?_)
    | (refine wpList_load_midG rfl 29 (.tmp 59) rfl (w.heap.size + 1) 14 rfl (sArr r.shot un uh ul).toList _ rb Try.underlying29 rfl (by kernel_rfl) ?_))
  refine (Sh.same_any r.shot _ _ _ HS3.out HS4.out).mono ?_
  rintro e w3 ⟨rfl, hb3⟩
  go_wp2
  go_ret
  exact ⟨rfl, HB2.out.trans (hb3.mono HB2.out.size)⟩
theorem recs_range {w : World} {b off k : Nat} {r : RRow} (h : ∀ j u, (recC r)[j]? = some u → w.cell? ⟨b, off + (k * 21 + j), none⟩ = some u) : w.rangeAt b (off + k * 21) (recC r) := fun j v hv => by
  rw [Nat.add_assoc]
  exact h j v hv
set_option maxHeartbeats 8000000 in
theorem recs_same (l : List RecR) (v u : Value) (w : World) (h : IsRecs w v l) (g : IsRecs w u l) : Calls Try.prog 32 #[v, u] w fun e w' => e = .returned (.bool true) ∧ Below w.heap.size w w' := by
  obtain ⟨rows, ⟨a, cap, rfl, hl1, hl2, hrc⟩, hrw, hmap⟩ := h
  obtain ⟨rows2, ⟨a2, cap2, rfl, gl1, gl2, grc⟩, grw, gmap⟩ := g
  unfold maxLen at hl2 gl2
  have hlen : rows2.length = rows.length := by have q := congrArg List.length (hmap.trans gmap.symm); simpa using q.symm
  rw [hlen]
  rw [hlen] at gl1
  have HR := Lib.hid hrc
  have GR := Lib.hid grc
  have HW := Lib.hid hrw
  have GW := Lib.hid grw
  have HM := Lib.hid (hmap.trans gmap.symm)
  have HLEN := Lib.hid hlen
  clear hrc grc hrw grw hmap gmap hlen
  go_enter Try.func32, Try.ntmps32
  go_wp2
  go_loopw [13] (fun i wr => ∃ k : Nat, k ≤ rows.length ∧ i = .int .i64 k ∧ Hid (Below w.heap.size w wr)) (fun i _ => rows.length - (intOf i).toNat)
  case atStart => exact ⟨0, Nat.zero_le _, rfl, Lib.hid (Below.refl _ _)⟩
  case round =>
    obtain ⟨k, hk, rfl, HB⟩ := hrel
    by_cases hlt : k < rows.length
    · have hlt2 : k < rows2.length := by have := HLEN.out; omega
      obtain ⟨b, off, rfl, hbl, hcc⟩ := Ld.rows_open hlt HR.out
      obtain ⟨b2, off2, rfl, gbl, gcc⟩ := Ld.rows_open hlt2 GR.out
      have hrg : wr.rangeAt b (off + k * 21) (recC rows[k]) := recs_range fun j u hu => (HB.out.cell (p := ⟨b, off + (k * 21 + j), none⟩) hbl).trans (hcc k _ (Ld.rgetD hlt) j u hu)
      have grg : wr.rangeAt b2 (off2 + k * 21) (recC rows2[k]) := recs_range fun j u hu => (HB.out.cell (p := ⟨b2, off2 + (k * 21 + j), none⟩) gbl).trans (gcc k _ (Ld.rgetD hlt2) j u hu)
      have hkw := HW.out rows[k] (List.getElem_mem hlt)
      have gkw := GW.out rows2[k] (List.getElem_mem hlt2)
      have heq : rows[k].1 = rows2[k].1 := by
        have q1 : (rows.map Prod.fst)[k]? = some rows[k].1 := by rw [List.getElem?_map, List.getElem?_eq_getElem hlt]; rfl
        rw [HM.out, List.getElem?_map, List.getElem?_eq_getElem hlt2] at q1
        exact (Option.some.inj q1).symm
      clear hcc gcc
      generalize rows[k] = r at hrg hkw heq
      generalize rows2[k] = r2 at grg gkw heq
      obtain ⟨x, vc, vn, vh, vl⟩ := r
      obtain ⟨y, uc, un, uh, ul⟩ := r2
      dsimp only at hkw gkw heq
      subst heq
      have hd : Below w.heap.size w wr.drew := HB.out.drew
      have H1 : Hid (IsRec wr.drew (.agg (rArr x vc vn vh vl)) x) := Lib.hid ⟨_, _, _, _, rfl, hkw.1.below hd (Nat.le_refl _), hkw.2⟩
      have H2 : Hid (IsRec wr.drew (.agg (rArr x uc un uh ul)) x) := Lib.hid ⟨_, _, _, _, rfl, gkw.1.below hd (Nat.le_refl _), hkw.2⟩
      have hkz : (k : Int) < (rows.length : Int) := by omega
      have hkz0 : (0 : Int) ≤ (k : Int) := by omega
      clear hkw gkw hd
      have HRG := Lib.hid hrg
      have GRG := Lib.hid grg
      go_wp2_with fail
      refine wp_region_held_drew (S := fun w' => w'.rangeAt b (off + k * 21) (recC (x, vc, vn, vh, vl)) ∧ w'.rangeAt b2 (off2 + k * 21) (recC (x, uc, un, uh, ul))) (by kernel_rfl) ⟨hrg, grg⟩ (fun hHeld => ?_)
      refine wpAnyH_take (i := 0) (v := .slice (some ⟨b, off, none⟩) rows.length cap) rfl (by kernel_rfl) (by kernel_rfl) (by kernel_rfl) (fun _ _ _ h => h) (Or.inl ⟨by rfl, ?_⟩) (by assumption) ?_
      · intro w hSw
        clear hHeld
        go_simp
        try with_reducible rfl
      simp only [Act.put]
      refine wpAnyH_take (i := 1) (v := .int .i64 (k : Int)) rfl (by kernel_rfl) (by kernel_rfl) (by kernel_rfl) (fun _ _ _ h => h) (Or.inl ⟨by rfl, ?_⟩) (by assumption) ?_
      · intro w hSw
        clear hHeld
        go_simp
        try with_reducible rfl
      simp only [Act.put]
      refine wpAnyH_take (i := 2) (v := .pointer (some ⟨b, off + k * 21, none⟩)) rfl (by kernel_rfl) (by kernel_rfl) (by kernel_rfl) (fun _ _ _ h => h) (Or.inl ⟨by rfl, ?_⟩) (by assumption) ?_
      · intro w hSw
        clear hHeld
        go_simp
        try with_reducible rfl
      simp only [Act.put]
      refine wpAnyH_take (i := 3) (v := .agg (recC (x, vc, vn, vh, vl)).toArray) rfl (by kernel_rfl) (by kernel_rfl) (by kernel_rfl) (fun _ _ _ h => h) (yieldsIf_load_mid (by rfl) _ _ rfl _ _ rfl (recC (x, vc, vn, vh, vl)) _ (fun w h => h.1) Try.underlying49 rfl (by kernel_rfl)) (by assumption) ?_
      simp only [Act.put]
      refine wpAnyH_take (i := 4) (v := .slice (some ⟨b2, off2, none⟩) rows.length cap2) rfl (by kernel_rfl) (by kernel_rfl) (by kernel_rfl) (fun _ _ _ h => h) (Or.inl ⟨by rfl, ?_⟩) (by assumption) ?_
      · intro w hSw
        clear hHeld
        go_simp
        try with_reducible rfl
      simp only [Act.put]
      refine wpAnyH_take (i := 5) (v := .int .i64 (k : Int)) rfl (by kernel_rfl) (by kernel_rfl) (by kernel_rfl) (fun _ _ _ h => h) (Or.inl ⟨by rfl, ?_⟩) (by assumption) ?_
      · intro w hSw
        clear hHeld
        go_simp
        try with_reducible rfl
      simp only [Act.put]
      refine wpAnyH_take (i := 6) (v := .pointer (some ⟨b2, off2 + k * 21, none⟩)) rfl (by kernel_rfl) (by kernel_rfl) (by kernel_rfl) (fun _ _ _ h => h) (Or.inl ⟨by rfl, ?_⟩) (by assumption) ?_
      · intro w hSw
        clear hHeld
        go_simp
        try with_reducible rfl
      simp only [Act.put]
      refine wpAnyH_take (i := 7) (v := .agg (recC (x, uc, un, uh, ul)).toArray) rfl (by kernel_rfl) (by kernel_rfl) (by kernel_rfl) (fun _ _ _ h => h) (yieldsIf_load_mid (by rfl) _ _ rfl _ _ rfl (recC (x, uc, un, uh, ul)) _ (fun w h => h.2) Try.underlying49 rfl (by kernel_rfl)) (by assumption) ?_
      simp only [Act.put]
      refine wpAnyH_ready (rs := [8]) (by kernel_rfl) (by simp) ?_
      refine AllReadyH.cons rfl (fun K hK => ?_) AllReadyH.nil
      go_simp
      refine (rec_same x _ _ _ H1.out H2.out).mono ?_
      rintro e w2 ⟨rfl, hb2⟩
      have HB2 := Lib.hid (HB.out.drew.trans (hb2.mono HB.out.drew.size))
      have hr2 : w2.rangeAt b (off + k * 21) (recC (x, vc, vn, vh, vl)) ∧ w2.rangeAt b2 (off2 + k * 21) (recC (x, uc, un, uh, ul)) := ⟨fun j v hv => (hb2.cell (p := ⟨b, off + k * 21 + j, none⟩) (Nat.lt_of_lt_of_le hbl HB.out.size)).trans (HRG.out j v hv), fun j v hv => (hb2.cell (p := ⟨b2, off2 + k * 21 + j, none⟩) (Nat.lt_of_lt_of_le gbl HB.out.size)).trans (GRG.out j v hv)⟩
      clear hb2 hHeld hrg grg
      refine hK.out _ _ hr2 (fun hHeld => ?_)
      clear hK K
      refine wpAnyH_take (i := 9) (v := .bool false) rfl (by kernel_rfl) (by kernel_rfl) (by kernel_rfl) (fun _ _ _ h => h) (Or.inl ⟨by rfl, ?_⟩) (by assumption) ?_
      · intro w hSw
        clear hHeld
        go_simp
        try with_reducible rfl
      simp only [Act.put]
      refine wpAnyH_done (by kernel_rfl) ?_ _
      clear hHeld hr2
      go_wp2
      go_roundw
      case rel => exact ⟨k + 1, by omega, by go_num, Lib.hid HB2.out⟩
      case measure => simp [intOf]; omega
    · obtain rfl : k = rows.length := by omega
      have HBE := Lib.hid HB.out
      go_wp2
      go_ret
      exact ⟨rfl, HBE.out⟩
end Rc
end Go.Proofs.Ytlkgmjhejocobaa
