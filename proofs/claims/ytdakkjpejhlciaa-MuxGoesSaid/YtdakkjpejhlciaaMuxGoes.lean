/- The law MuxGoes returns true for every list of calls: whatever is done, a session answers, does and tells just what the document says, and the chapter's example holds. No condition. -/
import Derived.Test.YtdakkjpejhlciaaRd
import Derived.Test.YtdakkjpejhlciaaMuL
namespace Go.Proofs.Ytdakkjpejhlciaa.muxGoes
open Go.ChangeShapes Go.WideShapes Go.ChangeAt Go.RowKit
open Go.ChangeMaps (open_string shut_string)
set_option linter.unusedVariables false

theorem own : ownKnob Try.prog.godebug = none := by kernel_rfl
theorem laidOut : laidOutB Try.prog = true := by kernel_rfl

open Go.Proofs.Ytdakkjpejhlciaa.Mu Go.Proofs.Ytdakkjpejhlciaa.Mc Go.Proofs.Ytdakkjpejhlciaa.St
set_option linter.unusedSimpArgs false
theorem bsz {B : Nat} {a w : World} (h : Below B a w) (e : a.heap.size = B) : B ≤ w.heap.size := e ▸ h.size
set_option maxRecDepth 100000 in
set_option maxHeartbeats 16000000 in
theorem walk (v0 : Value) (x0 : (List MOp)) (w : World) (w0 : IsMOps w v0 x0) (b0 : IsMOps.fits x0) :
    Calls Try.prog 3 #[v0] w fun e w' => e = .returned (.bool true) ∧ Below w.heap.size w w' := by
  have HW := Lib.hid w0.1
  have HWF := Lib.hid w0.2
  clear b0
  go_enter Try.func3, Try.ntmps3
  go_wp2_with fail
  refine (Mu.live_any _).mono ?_
  rintro e w1 ⟨rfl, hb1⟩
  have HB1 := Lib.hid hb1
  clear hb1
  go_wp2_with fail
  refine (Mu.new_any _).mono ?_
  rintro e w2 ⟨⟨p0, rfl, hn⟩, hb2⟩
  obtain ⟨B, hB⟩ : ∃ q, w1.heap.size = q := ⟨_, rfl⟩
  rw [hB] at hn hb2
  have HBZ := Lib.hid hB
  obtain ⟨W3, hW3⟩ : ∃ q, w2.alloc (.cells #[.string ⟨#[]⟩, .bool false, .slice none 0 0, .int .i64 0, .bool false, .string ⟨#[]⟩, .slice none 0 0] 32) = q := ⟨_, rfl⟩
  have hb3 : Below w2.heap.size w2 W3 := by rw [← hW3]; exact (Below.refl _ _).alloc (Nat.le_refl _) _
  obtain ⟨gx, hgx⟩ : ∃ q, w2.heap.size = q := ⟨_, rfl⟩
  have HT3 : Hid (Mu.TwO p0 gx Mu.fresh Mu.fresh (fun _ => False) B w1 W3) := Lib.hid ⟨_, _, (Mu.goodS p0 _).below hn hb3, Mu.x_fresh (by rw [← hW3, ← hgx]; exact heap_alloc_new _ _), fun k hk q => by have := hk.2; omega, fun k hk => by have := hk.1; omega, fun k hk => by have := bsz hb2 hB; omega, fun k hk => hk.elim, hb2.trans (hb3.mono (bsz hb2 hB)), Nat.le_trans (bsz hb2 hB) hb3.size⟩
  clear hn hb2 hb3
  obtain ⟨a, cap, e0, h1, h2, -⟩ := id w0.1
  subst e0
  by_cases hl : 200 < x0.length
  · have hli : (200 : Int) < (x0.length : Int) := by omega
    clear w0
    go_wp2
    go_ret
    exact ⟨rfl, HB1.out.trans (HT3.out.choose_spec.choose_spec.2.2.2.2.2.2.1.mono (by rw [← HBZ.out]; exact HB1.out.size))⟩
  have hli : ¬ (200 : Int) < (x0.length : Int) := by omega
  clear w0
  go_wp2_with fail
  clear hW3 hgx
  go_loopw [4, 36] (fun n i wr => ∃ (k p : Nat) (s : Mu.Ses), k ≤ x0.length ∧ i = .int .i64 (k : Int) ∧ n = .pointer (some ⟨p, 0, none⟩) ∧ Hid (Mu.TwO p gx s s (fun _ => False) B w1 wr ∧ Mu.okS 2004 (2004 * k) s)) (fun _ i _ => x0.length - (intOf i).toNat)
  case atStart => exact ⟨0, p0, Mu.fresh, Nat.zero_le _, rfl, rfl, Lib.hid ⟨HT3.out, Mu.ok_fresh.mono (Nat.zero_le _) (Nat.zero_le _)⟩⟩
  case round =>
    clear HT3
    obtain ⟨k, p, s, hk, rfl, rfl, HR⟩ := hrel
    by_cases hlt : k < x0.length
    · have hlti : (k : Int) < (x0.length : Int) := by omega
      obtain ⟨b, off, cp, e1, -, -, -, -, hcs⟩ : ∃ b off cp, Value.slice a x0.length cap = .slice (some ⟨b, off, none⟩) x0.length cp ∧ 0 < x0.length ∧ x0.length ≤ cp ∧ cp ≤ 9223372036854775807 ∧ b < w.heap.size ∧ ∀ i x, x0[i]? = some x → ∀ j u, (Mu.mopC x)[j]? = some u → w.cell? ⟨b, off + (i * 5 + j), none⟩ = some u := by
        rcases SlR.cases HW.out with ⟨a2, c2, e, hnil⟩ | h
        · rw [hnil] at hlt; simp at hlt
        · exact h
      simp only [Value.slice.injEq] at e1
      obtain ⟨rfl, -, rfl⟩ := e1
      obtain ⟨x, hx⟩ : ∃ x, x0[k]? = some x := ⟨_, List.getElem?_eq_getElem hlt⟩
      have HXW := Lib.hid (HWF.out x (List.mem_of_getElem? hx))
      have HBR : Hid (Below B w1 wr ∧ B ≤ wr.heap.size) := Lib.hid (by obtain ⟨S1, S2, -, -, -, -, -, -, h7, h8⟩ := HR.out.1; exact ⟨h7, h8⟩)
      have hcl : ∀ {ad : Addr} {q : Value}, w.cell? ad = some q → wr.cell? ad = some q := fun {ad q} h => by
        have hlt := World.block_lt_of_cell? _ _ h
        unfold World.cell? at h ⊢
        rw [HBR.out.1.block _ (by have := HB1.out.size; have := HBZ.out; omega), HB1.out.block _ hlt]
        exact h
      obtain ⟨q0, q1, q2, q3, q4⟩ := Mu.mop_cells (w := wr) (fun j u hu => hcl (hcs k x hx j u hu))
      have hoffk : off + k * 5 + 5 ≤ off + k * 5 + 5 := Nat.le_refl _
      obtain ⟨W0, hW0⟩ : ∃ q, wr.alloc (.cells #[.int .i64 x.kind, .string x.text, .int .i64 x.rep.kind, .int .i64 x.rep.node, .string x.rep.text] 36) = q := ⟨_, rfl⟩
      have hb0 : Below wr.heap.size wr W0 := by rw [← hW0]; exact (Below.refl _ _).alloc (Nat.le_refl _) _
      have HB0 := Lib.hid hb0
      obtain ⟨ob, hob⟩ : ∃ q, wr.heap.size = q := ⟨_, rfl⟩
      have HOBZ := Lib.hid hob
      have HQ0 : Hid (W0.heap[ob]? = some (.cells #[.int .i64 x.kind, .string x.text, .int .i64 x.rep.kind, .int .i64 x.rep.node, .string x.rep.text] 36 (0, 0))) := Lib.hid (by rw [← hW0, ← hob]; exact heap_alloc_new _ _)
      have HT0 := Lib.hid (HR.out.1.start hb0)
      have HOB0 : Hid (wr.heap.size ≤ ob ∧ ob < W0.heap.size) := Lib.hid ⟨Nat.le_of_eq hob, row_lt HQ0.out⟩
      have HOK := Lib.hid HR.out.2
      have HR0 := Lib.hid HR.out.1
      have HK2 : Hid (2004 * k + 2004 ≤ 402804 ∧ 2004 * (k + 1) = 2004 * k + 2004) := Lib.hid (by omega)
      have ck0 : W0.cell? ⟨ob, 0, none⟩ = some (.int .i64 x.kind) := (cell_of_row W0 _ 0 _ _ _ HQ0.out).trans rfl
      have ck1 : W0.cell? ⟨ob, 1, none⟩ = some (.string x.text) := (cell_of_row W0 _ 1 _ _ _ HQ0.out).trans rfl
      have ck2 : W0.cell? ⟨ob, 2, none⟩ = some (.int .i64 x.rep.kind) := (cell_of_row W0 _ 2 _ _ _ HQ0.out).trans rfl
      have ck3 : W0.cell? ⟨ob, 3, none⟩ = some (.int .i64 x.rep.node) := (cell_of_row W0 _ 3 _ _ _ HQ0.out).trans rfl
      have ck4 : W0.cell? ⟨ob, 4, none⟩ = some (.string x.rep.text) := (cell_of_row W0 _ 4 _ _ _ HQ0.out).trans rfl
      have HOL : Hid (s.out.length ≤ 402804 ∧ s.q.length ≤ 2004) := Lib.hid (by have h1 := HOK.out.2.2.2.2.1; have h2 := HOK.out.2.2.2.2.2.1; have := HK2.out; exact ⟨by omega, h1⟩)
      clear HR hcl hcs hx hb0
      by_cases hk0 : x.kind = 0
      · replace ck0 : W0.cell? ⟨ob, 0, none⟩ = some (.int .i64 0) := by rw [ck0, hk0]
        clear hk0
        by_cases hlong : 2000 < x.text.size
        · have hli2 : (2000 : Int) < (x.text.size : Int) := by omega
          have HOK2 : Hid (Mu.okS 2004 (2004 * (k + 1)) s) := Lib.hid (HOK.out.mono (Nat.le_refl _) (by have := HK2.out.2; omega))
          clear hlong
          go_wp2_with (first | rw [hW0])
          go_roundw
          case rel => exact ⟨k + 1, p, s, by omega, by go_num, rfl, Lib.hid ⟨HT0.out.mono (fun _ h => h.elim), HOK2.out⟩⟩
          case measure => simp [intOf]; omega
        have hli2 : (x.text.size : Int) ≤ 2000 := by omega
        have HXS : Hid (x.text.size ≤ 2000) := Lib.hid (by omega)
        obtain ⟨capb, V, hcv, hsl, hbv, hlv, hby⟩ := St.conv_row W0 x.text (by unfold maxLen; omega)
        obtain ⟨gb, hgb⟩ : ∃ q, W0.heap.size = q := ⟨_, rfl⟩
        rw [hgb] at hcv hsl hlv hby
        have HGB := Lib.hid hgb
        have HTV : Hid (Mu.TwO p gx s s (fun k => wr.heap.size ≤ k ∧ k < V.heap.size) B w1 V) := Lib.hid ((HT0.out.start hbv).mono (fun k h => h) |> fun _ => (HR0.out.start (HB0.out.trans (hbv.mono HB0.out.size))))
        have HQV : Hid (V.heap[ob]? = some (.cells #[.int .i64 x.kind, .string x.text, .int .i64 x.rep.kind, .int .i64 x.rep.node, .string x.rep.text] 36 (0, 0))) := Lib.hid ((hbv.block _ (row_lt HQ0.out)).trans HQ0.out)
        have HBY : Hid (St.ByI V gb x.text.size) := Lib.hid hby
        have HSL := Lib.hid hsl
        have HLV := Lib.hid hlv
        have HBV := Lib.hid hbv.size
        have HBS : Hid ((sb x.text).length = x.text.size) := Lib.hid (sb_length _)
        have HOGB : Hid (wr.heap.size ≤ gb ∧ gb < V.heap.size) := Lib.hid ⟨by have := HB0.out.size; omega, hlv⟩
        have HOOB : Hid (wr.heap.size ≤ ob ∧ ob < V.heap.size) := Lib.hid ⟨HOB0.out.1, by have := HOB0.out.2; have := hbv.size; omega⟩
        have HOK2 : Hid (Mu.okS 2004 (2004 * (k + 1)) (Mu.feedS s (sb x.text))) := Lib.hid ((Mu.ok_feed4 HOK.out (sb x.text) (hsl V rfl (Nat.le_refl _)).wf (by rw [sb_length]; have := HXS.out; omega)).mono (Nat.le_refl _) (by have := HK2.out.2; omega))
        have HQVd : Hid (V.drew.heap[ob]? = some (.cells #[.int .i64 x.kind, .string x.text, .int .i64 x.rep.kind, .int .i64 x.rep.node, .string x.rep.text] 36 (0, 0))) := HQV
        have HP1 := Lib.hid (HTV.out.drew.prog (fun S vr vq vo hv ho => Mu.feed_any (.slice (some ⟨gb, 0, none⟩) x.text.size capb) (sb x.text) V.drew hv HOK.out (by decide) (fun w' hw => HSL.out w' (hw.2.2.2.2 gb HOGB.out.2 (ho gb HOGB.out)) hw.2.2.2.1) (by rw [HBS.out]; have := HXS.out; omega)))
        clear hsl hby hlv hbv hlong
        go_wp2_with (first | rw [hW0])
        refine Wl.start 999 (fun _ => True) (fun u => u.heap[ob]? = some (.cells #[.int .i64 x.kind, .string x.text, .int .i64 x.rep.kind, .int .i64 x.rep.node, .string x.rep.text] 36 (0, 0))) (by kernel_rfl) trivial HQVd.out (fun hk => ?_)
        refine Wl.take0 (i := 0) (v := .pointer (some ⟨p, 0, none⟩)) rfl (by kernel_rfl) (by kernel_rfl) (by kernel_rfl) (by kernel_rfl) (fun _ _ _ h => h) (.inl ⟨by kernel_rfl, ?_⟩) hk ?_
        · intro wx hSw
          clear hSw hk
          go_simp
          try first | with_reducible rfl | kernel_rfl
        simp only [Act.put, List.getElem_toArray, List.getElem_cons_succ, List.getElem_cons_zero, List.setIfInBounds_toArray, List.set_cons_succ, List.set_cons_zero]
        refine Wl.take0 (i := 1) (v := .slice (some ⟨gb, 0, none⟩) x.text.size capb) rfl (by kernel_rfl) (by kernel_rfl) (by kernel_rfl) (by kernel_rfl) (fun _ _ _ h => h) (.inl ⟨by kernel_rfl, ?_⟩) hk ?_
        · intro wx hSw
          clear hSw hk
          go_simp
          try first | with_reducible rfl | kernel_rfl
        simp only [Act.put, List.getElem_toArray, List.getElem_cons_succ, List.getElem_cons_zero, List.setIfInBounds_toArray, List.set_cons_succ, List.set_cons_zero]
        refine Wl.take0 (i := 3) (v := .pointer (some ⟨gx, 0, none⟩)) rfl (by kernel_rfl) (by kernel_rfl) (by kernel_rfl) (by kernel_rfl) (fun _ _ _ h => h) (.inl ⟨by kernel_rfl, ?_⟩) hk ?_
        · intro wx hSw
          clear hSw hk
          go_simp
          try first | with_reducible rfl | kernel_rfl
        simp only [Act.put, List.getElem_toArray, List.getElem_cons_succ, List.getElem_cons_zero, List.setIfInBounds_toArray, List.set_cons_succ, List.set_cons_zero]
        refine Wl.take0 (i := 4) (v := .pointer (some ⟨ob, 1, none⟩)) rfl (by kernel_rfl) (by kernel_rfl) (by kernel_rfl) (by kernel_rfl) (fun _ _ _ h => h) (.inl ⟨by kernel_rfl, ?_⟩) hk ?_
        · intro wx hSw
          clear hSw hk
          go_simp
          try first | with_reducible rfl | kernel_rfl
        simp only [Act.put, List.getElem_toArray, List.getElem_cons_succ, List.getElem_cons_zero, List.setIfInBounds_toArray, List.set_cons_succ, List.set_cons_zero]
        refine Wl.take0 (i := 5) (v := .string x.text) rfl (by kernel_rfl) (by kernel_rfl) (by kernel_rfl) (by kernel_rfl) (fun _ _ _ h => h) (.inl ⟨by kernel_rfl, ?_⟩) hk ?_
        · intro wx hSw
          have cc := (cell_of_row wx _ 1 _ _ _ hSw).trans rfl
          clear hSw hk
          go_simp
          try first | with_reducible rfl | kernel_rfl
        simp only [Act.put, List.getElem_toArray, List.getElem_cons_succ, List.getElem_cons_zero, List.setIfInBounds_toArray, List.set_cons_succ, List.set_cons_zero]
        refine Wl.one (i := 2) (by kernel_rfl) rfl (fun K hK => ?_)
        go_simp
        refine HP1.out.mono ?_
        rintro e w5 ⟨rfl, h5, k5⟩
        have HT5 := Lib.hid h5
        have HQ5 : Hid (w5.heap[ob]? = some (.cells #[.int .i64 x.kind, .string x.text, .int .i64 x.rep.kind, .int .i64 x.rep.node, .string x.rep.text] 36 (0, 0))) := Lib.hid ((k5 ob HOOB.out).trans HQVd.out)
        have HB5 : Hid (St.ByI w5 gb x.text.size) := Lib.hid (HBY.out.same (k5 gb HOGB.out))
        clear h5 k5
        refine hK.out _ _ (Wl.Kn.on trivial HQ5.out) (fun hk => ?_)
        clear hK K
        refine Wl.one (i := 6) (by kernel_rfl) rfl (fun K hK => ?_)
        go_simp
        refine (HT5.out.doc (fun S vq vo b bd al tx hv => Mv.feed_any x.text _ hv HOK.out (by have := HXS.out; omega))).mono ?_
        rintro e w6 ⟨rfl, h6, k6⟩
        have HT6 := Lib.hid (h6.mono (O' := fun k => k = gb) (fun k e => e ▸ HOGB.out))
        have HQ6 : Hid (w6.heap[ob]? = some (.cells #[.int .i64 x.kind, .string x.text, .int .i64 x.rep.kind, .int .i64 x.rep.node, .string x.rep.text] 36 (0, 0))) := Lib.hid ((k6 ob HOOB.out).trans HQ5.out)
        have HB6 : Hid (St.ByI w6 gb x.text.size) := Lib.hid (HB5.out.same (k6 gb HOGB.out))
        clear h6 k6
        refine hK.out _ _ (Wl.Kn.on trivial HQ6.out) (fun hk => ?_)
        clear hK K
        refine Wl.take0 (i := 7) (v := .bool true) rfl (by kernel_rfl) (by kernel_rfl) (by kernel_rfl) (by kernel_rfl) (fun _ _ _ h => h) (.inl ⟨by kernel_rfl, ?_⟩) hk ?_
        · intro wx hSw
          clear hSw hk
          go_simp
          try first | with_reducible rfl | kernel_rfl
        simp only [Act.put, List.getElem_toArray, List.getElem_cons_succ, List.getElem_cons_zero, List.setIfInBounds_toArray, List.set_cons_succ, List.set_cons_zero]
        refine Wl.take0 (i := 8) (v := .bool true) rfl (by kernel_rfl) (by kernel_rfl) (by kernel_rfl) (by kernel_rfl) (fun _ _ _ h => h) (.inl ⟨by kernel_rfl, ?_⟩) hk ?_
        · intro wx hSw
          clear hSw hk
          go_simp
          try first | with_reducible rfl | kernel_rfl
        simp only [Act.put, List.getElem_toArray, List.getElem_cons_succ, List.getElem_cons_zero, List.setIfInBounds_toArray, List.set_cons_succ, List.set_cons_zero]
        refine Wl.done (by kernel_rfl) ?_ _
        clear hk
        go_wp2_with fail
        obtain ⟨s2, hs2⟩ : ∃ q, Mu.feedS s (sb x.text) = q := ⟨_, rfl⟩
        rw [hs2] at HT6 HOK2
        go_loopw [61] (fun i wr => ∃ j : Nat, j ≤ x.text.size ∧ i = .int .i64 (j : Int) ∧ Hid (Mu.TwO p gx s2 s2 (fun k => k = gb) B w1 wr ∧ St.ByI wr gb x.text.size)) (fun i _ => x.text.size - (intOf i).toNat)
        case atStart => exact ⟨0, Nat.zero_le _, rfl, Lib.hid ⟨HT6.out, HB6.out⟩⟩
        case round =>
          obtain ⟨j, hj, rfl, HRJ⟩ := hrel
          by_cases hlt2 : j < x.text.size
          · obtain ⟨y0, u0, y1⟩ := HRJ.out.2.at hlt2
            have hjz : (j : Int) < (x.text.size : Int) := by omega
            have HJ2 := Lib.hid (And.intro (HRJ.out.1.write (g := gb) (i := j) (v := .int .u8 120) rfl) (HRJ.out.2.set (p := gb) (j := j) (u := .int .u8 120)))
            go_wp2_with fail
            go_roundw
            case rel => exact ⟨j + 1, by omega, by go_num, Lib.hid HJ2.out⟩
            case measure => simp [intOf]; omega
          · obtain rfl : j = x.text.size := by omega
            have HT9 := Lib.hid HRJ.out.1
            go_wp2_with fail
            have HTd := Lib.hid HT9.out.drew
            obtain ⟨z3, hz3⟩ : ∃ q, Mv.stX (s2).st = q := ⟨_, rfl⟩
            have cz : _ := HTd.out.state
            rw [hz3] at cz
            obtain ⟨bo, hbo⟩ : ∃ q, decide ((s2).st ≠ 0) = q := ⟨_, rfl⟩
            have hzb : (z3 != 7) = bo := by
              rw [← hz3, ← hbo]
              have hok7 := HOK2.out.2.1
              unfold Mv.stX
              by_cases h0 : (s2).st = 0
              · rw [if_pos h0, h0]; rfl
              · rw [if_neg h0]
                have : (s2).st - 1 ≠ 7 := by omega
                simp [this, h0]
            have HBO := Lib.hid hbo
            have HCZ := Lib.hid cz
            have hbb : (bo != bo) = false := by cases bo <;> rfl
            clear hz3 hbo cz
            refine Wl.start 999 (fun _ => True) (fun u => u.cell? ⟨gx, 3, none⟩ = some (.int .i64 z3)) (by kernel_rfl) trivial HCZ.out (fun hk => ?_)
            refine Wl.take0 (i := 0) (v := .bool true) rfl (by kernel_rfl) (by kernel_rfl) (by kernel_rfl) (by kernel_rfl) (fun _ _ _ h => h) (.inl ⟨by kernel_rfl, ?_⟩) hk ?_
            · intro wx hSw
              clear hSw hk
              go_simp
              try first | with_reducible rfl | kernel_rfl
            simp only [Act.put, List.getElem_toArray, List.getElem_cons_succ, List.getElem_cons_zero, List.setIfInBounds_toArray, List.set_cons_succ, List.set_cons_zero]
            refine Wl.take0 (i := 1) (v := .bool false) rfl (by kernel_rfl) (by kernel_rfl) (by kernel_rfl) (by kernel_rfl) (fun _ _ _ h => h) (.inl ⟨by kernel_rfl, ?_⟩) hk ?_
            · intro wx hSw
              clear hSw hk
              go_simp
              try first | with_reducible rfl | kernel_rfl
            simp only [Act.put, List.getElem_toArray, List.getElem_cons_succ, List.getElem_cons_zero, List.setIfInBounds_toArray, List.set_cons_succ, List.set_cons_zero]
            refine Wl.take0 (i := 2) (v := .bool false) rfl (by kernel_rfl) (by kernel_rfl) (by kernel_rfl) (by kernel_rfl) (fun _ _ _ h => h) (.inl ⟨by kernel_rfl, ?_⟩) hk ?_
            · intro wx hSw
              clear hSw hk
              go_simp
              try first | with_reducible rfl | kernel_rfl
            simp only [Act.put, List.getElem_toArray, List.getElem_cons_succ, List.getElem_cons_zero, List.setIfInBounds_toArray, List.set_cons_succ, List.set_cons_zero]
            refine Wl.take0 (i := 3) (v := .pointer (some ⟨p, 0, none⟩)) rfl (by kernel_rfl) (by kernel_rfl) (by kernel_rfl) (by kernel_rfl) (fun _ _ _ h => h) (.inl ⟨by kernel_rfl, ?_⟩) hk ?_
            · intro wx hSw
              clear hSw hk
              go_simp
              try first | with_reducible rfl | kernel_rfl
            simp only [Act.put, List.getElem_toArray, List.getElem_cons_succ, List.getElem_cons_zero, List.setIfInBounds_toArray, List.set_cons_succ, List.set_cons_zero]
            refine Wl.take0 (i := 5) (v := .pointer (some ⟨gx, 0, none⟩)) rfl (by kernel_rfl) (by kernel_rfl) (by kernel_rfl) (by kernel_rfl) (fun _ _ _ h => h) (.inl ⟨by kernel_rfl, ?_⟩) hk ?_
            · intro wx hSw
              clear hSw hk
              go_simp
              try first | with_reducible rfl | kernel_rfl
            simp only [Act.put, List.getElem_toArray, List.getElem_cons_succ, List.getElem_cons_zero, List.setIfInBounds_toArray, List.set_cons_succ, List.set_cons_zero]
            refine Wl.take0 (i := 6) (v := .pointer (some ⟨gx, 0, none⟩)) rfl (by kernel_rfl) (by kernel_rfl) (by kernel_rfl) (by kernel_rfl) (fun _ _ _ h => h) (.inl ⟨by kernel_rfl, ?_⟩) hk ?_
            · intro wx hSw
              clear hSw hk
              go_simp
              try first | with_reducible rfl | kernel_rfl
            simp only [Act.put, List.getElem_toArray, List.getElem_cons_succ, List.getElem_cons_zero, List.setIfInBounds_toArray, List.set_cons_succ, List.set_cons_zero]
            refine Wl.take0 (i := 7) (v := .pointer (some ⟨gx, 3, none⟩)) rfl (by kernel_rfl) (by kernel_rfl) (by kernel_rfl) (by kernel_rfl) (fun _ _ _ h => h) (.inl ⟨by kernel_rfl, ?_⟩) hk ?_
            · intro wx hSw
              clear hSw hk
              go_simp
              try first | with_reducible rfl | kernel_rfl
            simp only [Act.put, List.getElem_toArray, List.getElem_cons_succ, List.getElem_cons_zero, List.setIfInBounds_toArray, List.set_cons_succ, List.set_cons_zero]
            refine Wl.take0 (i := 8) (v := .int .i64 z3) rfl (by kernel_rfl) (by kernel_rfl) (by kernel_rfl) (by kernel_rfl) (fun _ _ _ h => h) (.inl ⟨by kernel_rfl, ?_⟩) hk ?_
            · intro wx hSw
              have cc := hSw
              clear hSw hk
              go_simp
              try first | with_reducible rfl | kernel_rfl
            simp only [Act.put, List.getElem_toArray, List.getElem_cons_succ, List.getElem_cons_zero, List.setIfInBounds_toArray, List.set_cons_succ, List.set_cons_zero]
            refine Wl.take0 (i := 9) (v := .bool bo) rfl (by kernel_rfl) (by kernel_rfl) (by kernel_rfl) (by kernel_rfl) (fun _ _ _ h => h) (.inl ⟨by kernel_rfl, ?_⟩) hk ?_
            · intro wx hSw
              have hq := hzb
              clear hSw hk
              go_simp
              try first | with_reducible rfl | kernel_rfl
            simp only [Act.put, List.getElem_toArray, List.getElem_cons_succ, List.getElem_cons_zero, List.setIfInBounds_toArray, List.set_cons_succ, List.set_cons_zero]
            refine Wl.one (i := 4) (by kernel_rfl) rfl (fun K hK => ?_)
            go_simp
            refine (HTd.out.open_).mono ?_
            rintro e w9 ⟨rfl, rfl⟩
            rw [HBO.out]
            refine hK.out _ _ (Wl.Kn.on trivial HCZ.out) (fun hk => ?_)
            clear hK K
            refine Wl.take0 (i := 10) (v := .bool false) rfl (by kernel_rfl) (by kernel_rfl) (by kernel_rfl) (by kernel_rfl) (fun _ _ _ h => h) (.inl ⟨by kernel_rfl, ?_⟩) hk ?_
            · intro wx hSw
              have hq := hbb
              clear hSw hk
              go_simp
              try first | with_reducible rfl | kernel_rfl
            simp only [Act.put, List.getElem_toArray, List.getElem_cons_succ, List.getElem_cons_zero, List.setIfInBounds_toArray, List.set_cons_succ, List.set_cons_zero]
            refine Wl.take0 (i := 11) (v := .bool false) rfl (by kernel_rfl) (by kernel_rfl) (by kernel_rfl) (by kernel_rfl) (fun _ _ _ h => h) (.inl ⟨by kernel_rfl, ?_⟩) hk ?_
            · intro wx hSw
              clear hSw hk
              go_simp
              try first | with_reducible rfl | kernel_rfl
            simp only [Act.put, List.getElem_toArray, List.getElem_cons_succ, List.getElem_cons_zero, List.setIfInBounds_toArray, List.set_cons_succ, List.set_cons_zero]
            refine Wl.done (by kernel_rfl) ?_ _
            clear hk
            go_wp2_with fail
            go_roundw
            case rel => exact ⟨k + 1, p, s2, by omega, by go_num, rfl, Lib.hid ⟨HTd.out.mono (fun _ h => h.elim), HOK2.out⟩⟩
            case measure => simp [intOf]; omega
      have hn0 : (x.kind == 0) = false := beq_eq_false_iff_ne.2 hk0
      by_cases hk1 : x.kind = 1
      · replace ck0 : W0.cell? ⟨ob, 0, none⟩ = some (.int .i64 1) := by rw [ck0, hk1]
        clear hk1
        have HP1 := Lib.hid (HT0.out.prog (fun S vr vq vo hv ho => Mu.next_any _ hv (by have := HOL.out; omega)))
        have HOK2 : Hid (Mu.okS 2004 (2004 * (k + 1)) (Mu.nextV s).2) := Lib.hid ((Mu.ok_next HOK.out).mono (Nat.le_refl _) (by have := HK2.out.2; omega))
        have HD1 : Hid (∀ (w : World) (h : Mu.TwO p gx (Mu.nextV s).2 s (fun k => wr.heap.size ≤ k ∧ k < W0.heap.size) B w1 w), _) := Lib.hid (fun w h => h.doc (fun S vq vo b bd al tx hv => Mv.next_any w hv HOK.out (by have := HOL.out; have := HK2.out; omega)))
        obtain ⟨⟨⟨A, T⟩, s2⟩, hs2⟩ : ∃ q, Mu.nextV s = q := ⟨_, rfl⟩
        rw [hs2] at HP1 HOK2 HD1
        simp only [] at HP1 HOK2 HD1
        clear hs2
        go_wp2_with (first | rw [hW0] | ((with_reducible refine HP1.out.mono ?_); rintro e w5 ⟨rfl, h5, -⟩; have HT5 := Lib.hid h5; clear h5) | ((with_reducible refine (HD1.out _ HT5.out).mono ?_); rintro e w6 ⟨rfl, h6, -⟩; have HT6 := Lib.hid h6; clear h6))
        have HTd := Lib.hid HT6.out.drew
        obtain ⟨z3, hz3⟩ : ∃ q, Mv.stX (s2).st = q := ⟨_, rfl⟩
        have cz : _ := HTd.out.state
        rw [hz3] at cz
        obtain ⟨bo, hbo⟩ : ∃ q, decide ((s2).st ≠ 0) = q := ⟨_, rfl⟩
        have hzb : (z3 != 7) = bo := by
          rw [← hz3, ← hbo]
          have hok7 := HOK2.out.2.1
          unfold Mv.stX
          by_cases h0 : (s2).st = 0
          · rw [if_pos h0, h0]; rfl
          · rw [if_neg h0]
            have : (s2).st - 1 ≠ 7 := by omega
            simp [this, h0]
        have HBO := Lib.hid hbo
        have HCZ := Lib.hid cz
        have hbb : (bo != bo) = false := by cases bo <;> rfl
        clear hz3 hbo cz
        refine Wl.start 999 (fun _ => True) (fun u => u.cell? ⟨gx, 3, none⟩ = some (.int .i64 z3)) (by kernel_rfl) trivial HCZ.out (fun hk => ?_)
        refine Wl.take0 (i := 0) (v := .bool true) rfl (by kernel_rfl) (by kernel_rfl) (by kernel_rfl) (by kernel_rfl) (fun _ _ _ h => h) (.inl ⟨by kernel_rfl, ?_⟩) hk ?_
        · intro wx hSw
          clear hSw hk
          go_simp
          try first | with_reducible rfl | kernel_rfl
        simp only [Act.put, List.getElem_toArray, List.getElem_cons_succ, List.getElem_cons_zero, List.setIfInBounds_toArray, List.set_cons_succ, List.set_cons_zero]
        refine Wl.take0 (i := 1) (v := .bool false) rfl (by kernel_rfl) (by kernel_rfl) (by kernel_rfl) (by kernel_rfl) (fun _ _ _ h => h) (.inl ⟨by kernel_rfl, ?_⟩) hk ?_
        · intro wx hSw
          clear hSw hk
          go_simp
          try first | with_reducible rfl | kernel_rfl
        simp only [Act.put, List.getElem_toArray, List.getElem_cons_succ, List.getElem_cons_zero, List.setIfInBounds_toArray, List.set_cons_succ, List.set_cons_zero]
        refine Wl.take0 (i := 2) (v := .bool false) rfl (by kernel_rfl) (by kernel_rfl) (by kernel_rfl) (by kernel_rfl) (fun _ _ _ h => h) (.inl ⟨by kernel_rfl, ?_⟩) hk ?_
        · intro wx hSw
          clear hSw hk
          go_simp
          try first | with_reducible rfl | kernel_rfl
        simp only [Act.put, List.getElem_toArray, List.getElem_cons_succ, List.getElem_cons_zero, List.setIfInBounds_toArray, List.set_cons_succ, List.set_cons_zero]
        refine Wl.take0 (i := 3) (v := .pointer (some ⟨p, 0, none⟩)) rfl (by kernel_rfl) (by kernel_rfl) (by kernel_rfl) (by kernel_rfl) (fun _ _ _ h => h) (.inl ⟨by kernel_rfl, ?_⟩) hk ?_
        · intro wx hSw
          clear hSw hk
          go_simp
          try first | with_reducible rfl | kernel_rfl
        simp only [Act.put, List.getElem_toArray, List.getElem_cons_succ, List.getElem_cons_zero, List.setIfInBounds_toArray, List.set_cons_succ, List.set_cons_zero]
        refine Wl.take0 (i := 5) (v := .pointer (some ⟨gx, 0, none⟩)) rfl (by kernel_rfl) (by kernel_rfl) (by kernel_rfl) (by kernel_rfl) (fun _ _ _ h => h) (.inl ⟨by kernel_rfl, ?_⟩) hk ?_
        · intro wx hSw
          clear hSw hk
          go_simp
          try first | with_reducible rfl | kernel_rfl
        simp only [Act.put, List.getElem_toArray, List.getElem_cons_succ, List.getElem_cons_zero, List.setIfInBounds_toArray, List.set_cons_succ, List.set_cons_zero]
        refine Wl.take0 (i := 6) (v := .pointer (some ⟨gx, 0, none⟩)) rfl (by kernel_rfl) (by kernel_rfl) (by kernel_rfl) (by kernel_rfl) (fun _ _ _ h => h) (.inl ⟨by kernel_rfl, ?_⟩) hk ?_
        · intro wx hSw
          clear hSw hk
          go_simp
          try first | with_reducible rfl | kernel_rfl
        simp only [Act.put, List.getElem_toArray, List.getElem_cons_succ, List.getElem_cons_zero, List.setIfInBounds_toArray, List.set_cons_succ, List.set_cons_zero]
        refine Wl.take0 (i := 7) (v := .pointer (some ⟨gx, 3, none⟩)) rfl (by kernel_rfl) (by kernel_rfl) (by kernel_rfl) (by kernel_rfl) (fun _ _ _ h => h) (.inl ⟨by kernel_rfl, ?_⟩) hk ?_
        · intro wx hSw
          clear hSw hk
          go_simp
          try first | with_reducible rfl | kernel_rfl
        simp only [Act.put, List.getElem_toArray, List.getElem_cons_succ, List.getElem_cons_zero, List.setIfInBounds_toArray, List.set_cons_succ, List.set_cons_zero]
        refine Wl.take0 (i := 8) (v := .int .i64 z3) rfl (by kernel_rfl) (by kernel_rfl) (by kernel_rfl) (by kernel_rfl) (fun _ _ _ h => h) (.inl ⟨by kernel_rfl, ?_⟩) hk ?_
        · intro wx hSw
          have cc := hSw
          clear hSw hk
          go_simp
          try first | with_reducible rfl | kernel_rfl
        simp only [Act.put, List.getElem_toArray, List.getElem_cons_succ, List.getElem_cons_zero, List.setIfInBounds_toArray, List.set_cons_succ, List.set_cons_zero]
        refine Wl.take0 (i := 9) (v := .bool bo) rfl (by kernel_rfl) (by kernel_rfl) (by kernel_rfl) (by kernel_rfl) (fun _ _ _ h => h) (.inl ⟨by kernel_rfl, ?_⟩) hk ?_
        · intro wx hSw
          have hq := hzb
          clear hSw hk
          go_simp
          try first | with_reducible rfl | kernel_rfl
        simp only [Act.put, List.getElem_toArray, List.getElem_cons_succ, List.getElem_cons_zero, List.setIfInBounds_toArray, List.set_cons_succ, List.set_cons_zero]
        refine Wl.one (i := 4) (by kernel_rfl) rfl (fun K hK => ?_)
        go_simp
        refine (HTd.out.open_).mono ?_
        rintro e w9 ⟨rfl, rfl⟩
        rw [HBO.out]
        refine hK.out _ _ (Wl.Kn.on trivial HCZ.out) (fun hk => ?_)
        clear hK K
        refine Wl.take0 (i := 10) (v := .bool false) rfl (by kernel_rfl) (by kernel_rfl) (by kernel_rfl) (by kernel_rfl) (fun _ _ _ h => h) (.inl ⟨by kernel_rfl, ?_⟩) hk ?_
        · intro wx hSw
          have hq := hbb
          clear hSw hk
          go_simp
          try first | with_reducible rfl | kernel_rfl
        simp only [Act.put, List.getElem_toArray, List.getElem_cons_succ, List.getElem_cons_zero, List.setIfInBounds_toArray, List.set_cons_succ, List.set_cons_zero]
        refine Wl.take0 (i := 11) (v := .bool false) rfl (by kernel_rfl) (by kernel_rfl) (by kernel_rfl) (by kernel_rfl) (fun _ _ _ h => h) (.inl ⟨by kernel_rfl, ?_⟩) hk ?_
        · intro wx hSw
          clear hSw hk
          go_simp
          try first | with_reducible rfl | kernel_rfl
        simp only [Act.put, List.getElem_toArray, List.getElem_cons_succ, List.getElem_cons_zero, List.setIfInBounds_toArray, List.set_cons_succ, List.set_cons_zero]
        refine Wl.done (by kernel_rfl) ?_ _
        clear hk
        go_wp2_with fail
        go_roundw
        case rel => exact ⟨k + 1, p, s2, by omega, by go_num, rfl, Lib.hid ⟨HTd.out.mono (fun _ h => h.elim), HOK2.out⟩⟩
        case measure => simp [intOf]; omega
      have hn1 : (x.kind == 1) = false := beq_eq_false_iff_ne.2 hk1
      by_cases hk2 : x.kind = 2
      · replace ck0 : W0.cell? ⟨ob, 0, none⟩ = some (.int .i64 2) := by rw [ck0, hk2]
        clear hk2
        have HP1 := Lib.hid (HT0.out.prog (fun S vr vq vo hv ho => Mu.got_any _ hv (by have := HOL.out; omega)))
        have HOK2 : Hid (Mu.okS 2004 (2004 * (k + 1)) (Mu.gotS s)) := Lib.hid ((Mu.ok_got HOK.out).mono (Nat.le_refl _) (by have := HK2.out.2; omega))
        have HD1 := Lib.hid (fun (w : World) (h : Mu.TwO p gx (Mu.gotS s) s (fun k => wr.heap.size ≤ k ∧ k < W0.heap.size) B w1 w) => h.doc (fun S vq vo b bd al tx hv => Mv.got_any w hv (by have := HOL.out; omega)))
        obtain ⟨s2, hs2⟩ : ∃ q, Mu.gotS s = q := ⟨_, rfl⟩
        obtain ⟨en, hen⟩ : ∃ q, Mu.gotE s = q := ⟨_, rfl⟩
        rw [hen] at HP1 HD1
        clear hen
        rw [hs2] at HP1 HOK2 HD1
        clear hs2
        go_wp2_with (first | rw [hW0] | ((with_reducible refine HP1.out.mono ?_); rintro e w5 ⟨rfl, h5, -⟩; have HT5 := Lib.hid h5; clear h5) | ((with_reducible refine (HD1.out _ HT5.out).mono ?_); rintro e w6 ⟨rfl, h6, -⟩; have HT6 := Lib.hid h6; clear h6))
        have HTd := Lib.hid HT6.out.drew
        obtain ⟨z3, hz3⟩ : ∃ q, Mv.stX (s2).st = q := ⟨_, rfl⟩
        have cz : _ := HTd.out.state
        rw [hz3] at cz
        obtain ⟨bo, hbo⟩ : ∃ q, decide ((s2).st ≠ 0) = q := ⟨_, rfl⟩
        have hzb : (z3 != 7) = bo := by
          rw [← hz3, ← hbo]
          have hok7 := HOK2.out.2.1
          unfold Mv.stX
          by_cases h0 : (s2).st = 0
          · rw [if_pos h0, h0]; rfl
          · rw [if_neg h0]
            have : (s2).st - 1 ≠ 7 := by omega
            simp [this, h0]
        have HBO := Lib.hid hbo
        have HCZ := Lib.hid cz
        have hbb : (bo != bo) = false := by cases bo <;> rfl
        clear hz3 hbo cz
        refine Wl.start 999 (fun _ => True) (fun u => u.cell? ⟨gx, 3, none⟩ = some (.int .i64 z3)) (by kernel_rfl) trivial HCZ.out (fun hk => ?_)
        refine Wl.take0 (i := 0) (v := .bool true) rfl (by kernel_rfl) (by kernel_rfl) (by kernel_rfl) (by kernel_rfl) (fun _ _ _ h => h) (.inl ⟨by kernel_rfl, ?_⟩) hk ?_
        · intro wx hSw
          clear hSw hk
          go_simp
          try first | with_reducible rfl | kernel_rfl
        simp only [Act.put, List.getElem_toArray, List.getElem_cons_succ, List.getElem_cons_zero, List.setIfInBounds_toArray, List.set_cons_succ, List.set_cons_zero]
        refine Wl.take0 (i := 1) (v := .bool false) rfl (by kernel_rfl) (by kernel_rfl) (by kernel_rfl) (by kernel_rfl) (fun _ _ _ h => h) (.inl ⟨by kernel_rfl, ?_⟩) hk ?_
        · intro wx hSw
          clear hSw hk
          go_simp
          try first | with_reducible rfl | kernel_rfl
        simp only [Act.put, List.getElem_toArray, List.getElem_cons_succ, List.getElem_cons_zero, List.setIfInBounds_toArray, List.set_cons_succ, List.set_cons_zero]
        refine Wl.take0 (i := 2) (v := .bool false) rfl (by kernel_rfl) (by kernel_rfl) (by kernel_rfl) (by kernel_rfl) (fun _ _ _ h => h) (.inl ⟨by kernel_rfl, ?_⟩) hk ?_
        · intro wx hSw
          clear hSw hk
          go_simp
          try first | with_reducible rfl | kernel_rfl
        simp only [Act.put, List.getElem_toArray, List.getElem_cons_succ, List.getElem_cons_zero, List.setIfInBounds_toArray, List.set_cons_succ, List.set_cons_zero]
        refine Wl.take0 (i := 3) (v := .pointer (some ⟨p, 0, none⟩)) rfl (by kernel_rfl) (by kernel_rfl) (by kernel_rfl) (by kernel_rfl) (fun _ _ _ h => h) (.inl ⟨by kernel_rfl, ?_⟩) hk ?_
        · intro wx hSw
          clear hSw hk
          go_simp
          try first | with_reducible rfl | kernel_rfl
        simp only [Act.put, List.getElem_toArray, List.getElem_cons_succ, List.getElem_cons_zero, List.setIfInBounds_toArray, List.set_cons_succ, List.set_cons_zero]
        refine Wl.take0 (i := 5) (v := .pointer (some ⟨gx, 0, none⟩)) rfl (by kernel_rfl) (by kernel_rfl) (by kernel_rfl) (by kernel_rfl) (fun _ _ _ h => h) (.inl ⟨by kernel_rfl, ?_⟩) hk ?_
        · intro wx hSw
          clear hSw hk
          go_simp
          try first | with_reducible rfl | kernel_rfl
        simp only [Act.put, List.getElem_toArray, List.getElem_cons_succ, List.getElem_cons_zero, List.setIfInBounds_toArray, List.set_cons_succ, List.set_cons_zero]
        refine Wl.take0 (i := 6) (v := .pointer (some ⟨gx, 0, none⟩)) rfl (by kernel_rfl) (by kernel_rfl) (by kernel_rfl) (by kernel_rfl) (fun _ _ _ h => h) (.inl ⟨by kernel_rfl, ?_⟩) hk ?_
        · intro wx hSw
          clear hSw hk
          go_simp
          try first | with_reducible rfl | kernel_rfl
        simp only [Act.put, List.getElem_toArray, List.getElem_cons_succ, List.getElem_cons_zero, List.setIfInBounds_toArray, List.set_cons_succ, List.set_cons_zero]
        refine Wl.take0 (i := 7) (v := .pointer (some ⟨gx, 3, none⟩)) rfl (by kernel_rfl) (by kernel_rfl) (by kernel_rfl) (by kernel_rfl) (fun _ _ _ h => h) (.inl ⟨by kernel_rfl, ?_⟩) hk ?_
        · intro wx hSw
          clear hSw hk
          go_simp
          try first | with_reducible rfl | kernel_rfl
        simp only [Act.put, List.getElem_toArray, List.getElem_cons_succ, List.getElem_cons_zero, List.setIfInBounds_toArray, List.set_cons_succ, List.set_cons_zero]
        refine Wl.take0 (i := 8) (v := .int .i64 z3) rfl (by kernel_rfl) (by kernel_rfl) (by kernel_rfl) (by kernel_rfl) (fun _ _ _ h => h) (.inl ⟨by kernel_rfl, ?_⟩) hk ?_
        · intro wx hSw
          have cc := hSw
          clear hSw hk
          go_simp
          try first | with_reducible rfl | kernel_rfl
        simp only [Act.put, List.getElem_toArray, List.getElem_cons_succ, List.getElem_cons_zero, List.setIfInBounds_toArray, List.set_cons_succ, List.set_cons_zero]
        refine Wl.take0 (i := 9) (v := .bool bo) rfl (by kernel_rfl) (by kernel_rfl) (by kernel_rfl) (by kernel_rfl) (fun _ _ _ h => h) (.inl ⟨by kernel_rfl, ?_⟩) hk ?_
        · intro wx hSw
          have hq := hzb
          clear hSw hk
          go_simp
          try first | with_reducible rfl | kernel_rfl
        simp only [Act.put, List.getElem_toArray, List.getElem_cons_succ, List.getElem_cons_zero, List.setIfInBounds_toArray, List.set_cons_succ, List.set_cons_zero]
        refine Wl.one (i := 4) (by kernel_rfl) rfl (fun K hK => ?_)
        go_simp
        refine (HTd.out.open_).mono ?_
        rintro e w9 ⟨rfl, rfl⟩
        rw [HBO.out]
        refine hK.out _ _ (Wl.Kn.on trivial HCZ.out) (fun hk => ?_)
        clear hK K
        refine Wl.take0 (i := 10) (v := .bool false) rfl (by kernel_rfl) (by kernel_rfl) (by kernel_rfl) (by kernel_rfl) (fun _ _ _ h => h) (.inl ⟨by kernel_rfl, ?_⟩) hk ?_
        · intro wx hSw
          have hq := hbb
          clear hSw hk
          go_simp
          try first | with_reducible rfl | kernel_rfl
        simp only [Act.put, List.getElem_toArray, List.getElem_cons_succ, List.getElem_cons_zero, List.setIfInBounds_toArray, List.set_cons_succ, List.set_cons_zero]
        refine Wl.take0 (i := 11) (v := .bool false) rfl (by kernel_rfl) (by kernel_rfl) (by kernel_rfl) (by kernel_rfl) (fun _ _ _ h => h) (.inl ⟨by kernel_rfl, ?_⟩) hk ?_
        · intro wx hSw
          clear hSw hk
          go_simp
          try first | with_reducible rfl | kernel_rfl
        simp only [Act.put, List.getElem_toArray, List.getElem_cons_succ, List.getElem_cons_zero, List.setIfInBounds_toArray, List.set_cons_succ, List.set_cons_zero]
        refine Wl.done (by kernel_rfl) ?_ _
        clear hk
        go_wp2_with fail
        go_roundw
        case rel => exact ⟨k + 1, p, s2, by omega, by go_num, rfl, Lib.hid ⟨HTd.out.mono (fun _ h => h.elim), HOK2.out⟩⟩
        case measure => simp [intOf]; omega
      have hn2 : (x.kind == 2) = false := beq_eq_false_iff_ne.2 hk2
      by_cases hk3 : x.kind = 3
      · replace ck0 : W0.cell? ⟨ob, 0, none⟩ = some (.int .i64 3) := by rw [ck0, hk3]
        clear hk3
        have HP1 := Lib.hid (HT0.out.drew.prog (fun S vr vq vo hv ho => Mu.turn_any x.rep _ hv (by have := HOL.out; omega)))
        have HOK2 : Hid (Mu.okS 2004 (2004 * (k + 1)) (Mu.turnS s x.rep)) := Lib.hid ((Mu.ok_turn HOK.out x.rep).mono (Nat.le_refl _) (by have := HK2.out.2; omega))
        have HD1 := Lib.hid (fun (w : World) (h : Mu.TwO p gx (Mu.turnS s x.rep) s (fun k => wr.heap.size ≤ k ∧ k < W0.heap.size) B w1 w) => h.doc (fun S vq vo b bd al tx hv => Mv.turn_any x.rep w hv (by have := HOL.out; omega)))
        obtain ⟨s2, hs2⟩ : ∃ q, Mu.turnS s x.rep = q := ⟨_, rfl⟩
        obtain ⟨en, hen⟩ : ∃ q, Mu.turnE s x.rep = q := ⟨_, rfl⟩
        rw [hen] at HP1 HD1
        clear hen
        rw [hs2] at HP1 HOK2 HD1
        clear hs2
        have HQ0d : Hid (W0.drew.heap[ob]? = some (.cells #[.int .i64 x.kind, .string x.text, .int .i64 x.rep.kind, .int .i64 x.rep.node, .string x.rep.text] 36 (0, 0))) := HQ0
        go_wp2_with (first | rw [hW0])
        refine Wl.start 999 (fun _ => True) (fun u => u.heap[ob]? = some (.cells #[.int .i64 x.kind, .string x.text, .int .i64 x.rep.kind, .int .i64 x.rep.node, .string x.rep.text] 36 (0, 0))) (by kernel_rfl) trivial HQ0d.out (fun hk => ?_)
        refine Wl.take0 (i := 0) (v := .pointer (some ⟨p, 0, none⟩)) rfl (by kernel_rfl) (by kernel_rfl) (by kernel_rfl) (by kernel_rfl) (fun _ _ _ h => h) (.inl ⟨by kernel_rfl, ?_⟩) hk ?_
        · intro wx hSw
          clear hSw hk
          go_simp
          try first | with_reducible rfl | kernel_rfl
        simp only [Act.put, List.getElem_toArray, List.getElem_cons_succ, List.getElem_cons_zero, List.setIfInBounds_toArray, List.set_cons_succ, List.set_cons_zero]
        refine Wl.take0 (i := 1) (v := .pointer (some ⟨ob, 2, none⟩)) rfl (by kernel_rfl) (by kernel_rfl) (by kernel_rfl) (by kernel_rfl) (fun _ _ _ h => h) (.inl ⟨by kernel_rfl, ?_⟩) hk ?_
        · intro wx hSw
          clear hSw hk
          go_simp
          try first | with_reducible rfl | kernel_rfl
        simp only [Act.put, List.getElem_toArray, List.getElem_cons_succ, List.getElem_cons_zero, List.setIfInBounds_toArray, List.set_cons_succ, List.set_cons_zero]
        refine Wl.take0 (i := 2) (v := .agg #[.int .i64 x.rep.kind, .int .i64 x.rep.node, .string x.rep.text]) rfl (by kernel_rfl) (by kernel_rfl) (by kernel_rfl) (by kernel_rfl) (fun _ _ _ h => h) (yieldsIf_load_mid (by rfl) _ _ rfl _ _ rfl (repC x.rep) _ (fun w h => (fun j v hv => by have hv2 : [Value.int .i64 x.rep.kind, .int .i64 x.rep.node, .string x.rep.text][j]? = some v := hv; have := Wl.rng_of_row h (j + 2) v (by simpa using hv2); rw [Nat.zero_add] at this; rw [Nat.add_comm 2 j]; exact this)) Try.underlying34 rfl (by kernel_rfl)) hk ?_
        simp only [Act.put, List.getElem_toArray, List.getElem_cons_succ, List.getElem_cons_zero, List.setIfInBounds_toArray, List.set_cons_succ, List.set_cons_zero]
        refine Wl.take0 (i := 4) (v := .pointer (some ⟨gx, 0, none⟩)) rfl (by kernel_rfl) (by kernel_rfl) (by kernel_rfl) (by kernel_rfl) (fun _ _ _ h => h) (.inl ⟨by kernel_rfl, ?_⟩) hk ?_
        · intro wx hSw
          clear hSw hk
          go_simp
          try first | with_reducible rfl | kernel_rfl
        simp only [Act.put, List.getElem_toArray, List.getElem_cons_succ, List.getElem_cons_zero, List.setIfInBounds_toArray, List.set_cons_succ, List.set_cons_zero]
        refine Wl.take0 (i := 5) (v := .pointer (some ⟨ob, 2, none⟩)) rfl (by kernel_rfl) (by kernel_rfl) (by kernel_rfl) (by kernel_rfl) (fun _ _ _ h => h) (.inl ⟨by kernel_rfl, ?_⟩) hk ?_
        · intro wx hSw
          clear hSw hk
          go_simp
          try first | with_reducible rfl | kernel_rfl
        simp only [Act.put, List.getElem_toArray, List.getElem_cons_succ, List.getElem_cons_zero, List.setIfInBounds_toArray, List.set_cons_succ, List.set_cons_zero]
        refine Wl.take0 (i := 6) (v := .agg #[.int .i64 x.rep.kind, .int .i64 x.rep.node, .string x.rep.text]) rfl (by kernel_rfl) (by kernel_rfl) (by kernel_rfl) (by kernel_rfl) (fun _ _ _ h => h) (yieldsIf_load_mid (by rfl) _ _ rfl _ _ rfl (repC x.rep) _ (fun w h => (fun j v hv => by have hv2 : [Value.int .i64 x.rep.kind, .int .i64 x.rep.node, .string x.rep.text][j]? = some v := hv; have := Wl.rng_of_row h (j + 2) v (by simpa using hv2); rw [Nat.zero_add] at this; rw [Nat.add_comm 2 j]; exact this)) Try.underlying34 rfl (by kernel_rfl)) hk ?_
        simp only [Act.put, List.getElem_toArray, List.getElem_cons_succ, List.getElem_cons_zero, List.setIfInBounds_toArray, List.set_cons_succ, List.set_cons_zero]
        refine Wl.one (i := 3) (by kernel_rfl) rfl (fun K hK => ?_)
        go_simp
        refine HP1.out.mono ?_
        rintro e w5 ⟨rfl, h5, k5⟩
        have HT5 := Lib.hid h5
        have HQ5 : Hid (w5.heap[ob]? = some (.cells #[.int .i64 x.kind, .string x.text, .int .i64 x.rep.kind, .int .i64 x.rep.node, .string x.rep.text] 36 (0, 0))) := Lib.hid ((k5 ob HOB0.out).trans HQ0d.out)
        clear h5 k5
        refine hK.out _ _ (Wl.Kn.on trivial HQ5.out) (fun hk => ?_)
        clear hK K
        refine Wl.one (i := 7) (by kernel_rfl) rfl (fun K hK => ?_)
        go_simp
        refine (HD1.out _ HT5.out).mono ?_
        rintro e w6 ⟨rfl, h6, k6⟩
        have HT6 := Lib.hid h6
        have HQ6 : Hid (w6.heap[ob]? = some (.cells #[.int .i64 x.kind, .string x.text, .int .i64 x.rep.kind, .int .i64 x.rep.node, .string x.rep.text] 36 (0, 0))) := Lib.hid ((k6 ob HOB0.out).trans HQ5.out)
        clear h6 k6
        refine hK.out _ _ (Wl.Kn.on trivial HQ6.out) (fun hk => ?_)
        clear hK K
        refine Wl.take0 (i := 8) (v := .bool true) rfl (by kernel_rfl) (by kernel_rfl) (by kernel_rfl) (by kernel_rfl) (fun _ _ _ h => h) (.inl ⟨by kernel_rfl, ?_⟩) hk ?_
        · intro wx hSw
          clear hSw hk
          go_simp
          try first | with_reducible rfl | kernel_rfl
        simp only [Act.put, List.getElem_toArray, List.getElem_cons_succ, List.getElem_cons_zero, List.setIfInBounds_toArray, List.set_cons_succ, List.set_cons_zero]
        refine Wl.take0 (i := 9) (v := .bool true) rfl (by kernel_rfl) (by kernel_rfl) (by kernel_rfl) (by kernel_rfl) (fun _ _ _ h => h) (.inl ⟨by kernel_rfl, ?_⟩) hk ?_
        · intro wx hSw
          clear hSw hk
          go_simp
          try first | with_reducible rfl | kernel_rfl
        simp only [Act.put, List.getElem_toArray, List.getElem_cons_succ, List.getElem_cons_zero, List.setIfInBounds_toArray, List.set_cons_succ, List.set_cons_zero]
        refine Wl.done (by kernel_rfl) ?_ _
        clear hk
        go_wp2_with fail
        have HTd := Lib.hid HT6.out.drew
        obtain ⟨z3, hz3⟩ : ∃ q, Mv.stX (s2).st = q := ⟨_, rfl⟩
        have cz : _ := HTd.out.state
        rw [hz3] at cz
        obtain ⟨bo, hbo⟩ : ∃ q, decide ((s2).st ≠ 0) = q := ⟨_, rfl⟩
        have hzb : (z3 != 7) = bo := by
          rw [← hz3, ← hbo]
          have hok7 := HOK2.out.2.1
          unfold Mv.stX
          by_cases h0 : (s2).st = 0
          · rw [if_pos h0, h0]; rfl
          · rw [if_neg h0]
            have : (s2).st - 1 ≠ 7 := by omega
            simp [this, h0]
        have HBO := Lib.hid hbo
        have HCZ := Lib.hid cz
        have hbb : (bo != bo) = false := by cases bo <;> rfl
        clear hz3 hbo cz
        refine Wl.start 999 (fun _ => True) (fun u => u.cell? ⟨gx, 3, none⟩ = some (.int .i64 z3)) (by kernel_rfl) trivial HCZ.out (fun hk => ?_)
        refine Wl.take0 (i := 0) (v := .bool true) rfl (by kernel_rfl) (by kernel_rfl) (by kernel_rfl) (by kernel_rfl) (fun _ _ _ h => h) (.inl ⟨by kernel_rfl, ?_⟩) hk ?_
        · intro wx hSw
          clear hSw hk
          go_simp
          try first | with_reducible rfl | kernel_rfl
        simp only [Act.put, List.getElem_toArray, List.getElem_cons_succ, List.getElem_cons_zero, List.setIfInBounds_toArray, List.set_cons_succ, List.set_cons_zero]
        refine Wl.take0 (i := 1) (v := .bool false) rfl (by kernel_rfl) (by kernel_rfl) (by kernel_rfl) (by kernel_rfl) (fun _ _ _ h => h) (.inl ⟨by kernel_rfl, ?_⟩) hk ?_
        · intro wx hSw
          clear hSw hk
          go_simp
          try first | with_reducible rfl | kernel_rfl
        simp only [Act.put, List.getElem_toArray, List.getElem_cons_succ, List.getElem_cons_zero, List.setIfInBounds_toArray, List.set_cons_succ, List.set_cons_zero]
        refine Wl.take0 (i := 2) (v := .bool false) rfl (by kernel_rfl) (by kernel_rfl) (by kernel_rfl) (by kernel_rfl) (fun _ _ _ h => h) (.inl ⟨by kernel_rfl, ?_⟩) hk ?_
        · intro wx hSw
          clear hSw hk
          go_simp
          try first | with_reducible rfl | kernel_rfl
        simp only [Act.put, List.getElem_toArray, List.getElem_cons_succ, List.getElem_cons_zero, List.setIfInBounds_toArray, List.set_cons_succ, List.set_cons_zero]
        refine Wl.take0 (i := 3) (v := .pointer (some ⟨p, 0, none⟩)) rfl (by kernel_rfl) (by kernel_rfl) (by kernel_rfl) (by kernel_rfl) (fun _ _ _ h => h) (.inl ⟨by kernel_rfl, ?_⟩) hk ?_
        · intro wx hSw
          clear hSw hk
          go_simp
          try first | with_reducible rfl | kernel_rfl
        simp only [Act.put, List.getElem_toArray, List.getElem_cons_succ, List.getElem_cons_zero, List.setIfInBounds_toArray, List.set_cons_succ, List.set_cons_zero]
        refine Wl.take0 (i := 5) (v := .pointer (some ⟨gx, 0, none⟩)) rfl (by kernel_rfl) (by kernel_rfl) (by kernel_rfl) (by kernel_rfl) (fun _ _ _ h => h) (.inl ⟨by kernel_rfl, ?_⟩) hk ?_
        · intro wx hSw
          clear hSw hk
          go_simp
          try first | with_reducible rfl | kernel_rfl
        simp only [Act.put, List.getElem_toArray, List.getElem_cons_succ, List.getElem_cons_zero, List.setIfInBounds_toArray, List.set_cons_succ, List.set_cons_zero]
        refine Wl.take0 (i := 6) (v := .pointer (some ⟨gx, 0, none⟩)) rfl (by kernel_rfl) (by kernel_rfl) (by kernel_rfl) (by kernel_rfl) (fun _ _ _ h => h) (.inl ⟨by kernel_rfl, ?_⟩) hk ?_
        · intro wx hSw
          clear hSw hk
          go_simp
          try first | with_reducible rfl | kernel_rfl
        simp only [Act.put, List.getElem_toArray, List.getElem_cons_succ, List.getElem_cons_zero, List.setIfInBounds_toArray, List.set_cons_succ, List.set_cons_zero]
        refine Wl.take0 (i := 7) (v := .pointer (some ⟨gx, 3, none⟩)) rfl (by kernel_rfl) (by kernel_rfl) (by kernel_rfl) (by kernel_rfl) (fun _ _ _ h => h) (.inl ⟨by kernel_rfl, ?_⟩) hk ?_
        · intro wx hSw
          clear hSw hk
          go_simp
          try first | with_reducible rfl | kernel_rfl
        simp only [Act.put, List.getElem_toArray, List.getElem_cons_succ, List.getElem_cons_zero, List.setIfInBounds_toArray, List.set_cons_succ, List.set_cons_zero]
        refine Wl.take0 (i := 8) (v := .int .i64 z3) rfl (by kernel_rfl) (by kernel_rfl) (by kernel_rfl) (by kernel_rfl) (fun _ _ _ h => h) (.inl ⟨by kernel_rfl, ?_⟩) hk ?_
        · intro wx hSw
          have cc := hSw
          clear hSw hk
          go_simp
          try first | with_reducible rfl | kernel_rfl
        simp only [Act.put, List.getElem_toArray, List.getElem_cons_succ, List.getElem_cons_zero, List.setIfInBounds_toArray, List.set_cons_succ, List.set_cons_zero]
        refine Wl.take0 (i := 9) (v := .bool bo) rfl (by kernel_rfl) (by kernel_rfl) (by kernel_rfl) (by kernel_rfl) (fun _ _ _ h => h) (.inl ⟨by kernel_rfl, ?_⟩) hk ?_
        · intro wx hSw
          have hq := hzb
          clear hSw hk
          go_simp
          try first | with_reducible rfl | kernel_rfl
        simp only [Act.put, List.getElem_toArray, List.getElem_cons_succ, List.getElem_cons_zero, List.setIfInBounds_toArray, List.set_cons_succ, List.set_cons_zero]
        refine Wl.one (i := 4) (by kernel_rfl) rfl (fun K hK => ?_)
        go_simp
        refine (HTd.out.open_).mono ?_
        rintro e w9 ⟨rfl, rfl⟩
        rw [HBO.out]
        refine hK.out _ _ (Wl.Kn.on trivial HCZ.out) (fun hk => ?_)
        clear hK K
        refine Wl.take0 (i := 10) (v := .bool false) rfl (by kernel_rfl) (by kernel_rfl) (by kernel_rfl) (by kernel_rfl) (fun _ _ _ h => h) (.inl ⟨by kernel_rfl, ?_⟩) hk ?_
        · intro wx hSw
          have hq := hbb
          clear hSw hk
          go_simp
          try first | with_reducible rfl | kernel_rfl
        simp only [Act.put, List.getElem_toArray, List.getElem_cons_succ, List.getElem_cons_zero, List.setIfInBounds_toArray, List.set_cons_succ, List.set_cons_zero]
        refine Wl.take0 (i := 11) (v := .bool false) rfl (by kernel_rfl) (by kernel_rfl) (by kernel_rfl) (by kernel_rfl) (fun _ _ _ h => h) (.inl ⟨by kernel_rfl, ?_⟩) hk ?_
        · intro wx hSw
          clear hSw hk
          go_simp
          try first | with_reducible rfl | kernel_rfl
        simp only [Act.put, List.getElem_toArray, List.getElem_cons_succ, List.getElem_cons_zero, List.setIfInBounds_toArray, List.set_cons_succ, List.set_cons_zero]
        refine Wl.done (by kernel_rfl) ?_ _
        clear hk
        go_wp2_with fail
        go_roundw
        case rel => exact ⟨k + 1, p, s2, by omega, by go_num, rfl, Lib.hid ⟨HTd.out.mono (fun _ h => h.elim), HOK2.out⟩⟩
        case measure => simp [intOf]; omega
      have hn3 : (x.kind == 3) = false := beq_eq_false_iff_ne.2 hk3
      by_cases hk4 : x.kind = 4
      · replace ck0 : W0.cell? ⟨ob, 0, none⟩ = some (.int .i64 4) := by rw [ck0, hk4]
        clear hk4
        have HP1 := Lib.hid (HT0.out.drew.prog (fun S vr vq vo hv ho => Mu.ans_any x.text _ hv (by have := HOL.out; omega)))
        have HOK2 : Hid (Mu.okS 2004 (2004 * (k + 1)) (Mu.ansS s x.text)) := Lib.hid ((Mu.ok_ans HOK.out x.text).mono (Nat.le_refl _) (by have := HK2.out.2; omega))
        have HD1 := Lib.hid (fun (w : World) (h : Mu.TwO p gx (Mu.ansS s x.text) s (fun k => wr.heap.size ≤ k ∧ k < W0.heap.size) B w1 w) => h.doc (fun S vq vo b bd al tx hv => Mv.ans_any x.text w hv (by have := HOL.out; omega)))
        obtain ⟨s2, hs2⟩ : ∃ q, Mu.ansS s x.text = q := ⟨_, rfl⟩
        obtain ⟨en, hen⟩ : ∃ q, Mu.ansE s = q := ⟨_, rfl⟩
        rw [hen] at HP1 HD1
        clear hen
        rw [hs2] at HP1 HOK2 HD1
        clear hs2
        have HQ0d : Hid (W0.drew.heap[ob]? = some (.cells #[.int .i64 x.kind, .string x.text, .int .i64 x.rep.kind, .int .i64 x.rep.node, .string x.rep.text] 36 (0, 0))) := HQ0
        go_wp2_with (first | rw [hW0])
        refine Wl.start 999 (fun _ => True) (fun u => u.heap[ob]? = some (.cells #[.int .i64 x.kind, .string x.text, .int .i64 x.rep.kind, .int .i64 x.rep.node, .string x.rep.text] 36 (0, 0))) (by kernel_rfl) trivial HQ0d.out (fun hk => ?_)
        refine Wl.take0 (i := 0) (v := .pointer (some ⟨p, 0, none⟩)) rfl (by kernel_rfl) (by kernel_rfl) (by kernel_rfl) (by kernel_rfl) (fun _ _ _ h => h) (.inl ⟨by kernel_rfl, ?_⟩) hk ?_
        · intro wx hSw
          clear hSw hk
          go_simp
          try first | with_reducible rfl | kernel_rfl
        simp only [Act.put, List.getElem_toArray, List.getElem_cons_succ, List.getElem_cons_zero, List.setIfInBounds_toArray, List.set_cons_succ, List.set_cons_zero]
        refine Wl.take0 (i := 1) (v := .pointer (some ⟨ob, 1, none⟩)) rfl (by kernel_rfl) (by kernel_rfl) (by kernel_rfl) (by kernel_rfl) (fun _ _ _ h => h) (.inl ⟨by kernel_rfl, ?_⟩) hk ?_
        · intro wx hSw
          clear hSw hk
          go_simp
          try first | with_reducible rfl | kernel_rfl
        simp only [Act.put, List.getElem_toArray, List.getElem_cons_succ, List.getElem_cons_zero, List.setIfInBounds_toArray, List.set_cons_succ, List.set_cons_zero]
        refine Wl.take0 (i := 2) (v := .string x.text) rfl (by kernel_rfl) (by kernel_rfl) (by kernel_rfl) (by kernel_rfl) (fun _ _ _ h => h) (.inl ⟨by kernel_rfl, ?_⟩) hk ?_
        · intro wx hSw
          have cc := (cell_of_row wx _ 1 _ _ _ hSw).trans rfl
          clear hSw hk
          go_simp
          try first | with_reducible rfl | kernel_rfl
        simp only [Act.put, List.getElem_toArray, List.getElem_cons_succ, List.getElem_cons_zero, List.setIfInBounds_toArray, List.set_cons_succ, List.set_cons_zero]
        refine Wl.take0 (i := 4) (v := .pointer (some ⟨gx, 0, none⟩)) rfl (by kernel_rfl) (by kernel_rfl) (by kernel_rfl) (by kernel_rfl) (fun _ _ _ h => h) (.inl ⟨by kernel_rfl, ?_⟩) hk ?_
        · intro wx hSw
          clear hSw hk
          go_simp
          try first | with_reducible rfl | kernel_rfl
        simp only [Act.put, List.getElem_toArray, List.getElem_cons_succ, List.getElem_cons_zero, List.setIfInBounds_toArray, List.set_cons_succ, List.set_cons_zero]
        refine Wl.take0 (i := 5) (v := .pointer (some ⟨ob, 1, none⟩)) rfl (by kernel_rfl) (by kernel_rfl) (by kernel_rfl) (by kernel_rfl) (fun _ _ _ h => h) (.inl ⟨by kernel_rfl, ?_⟩) hk ?_
        · intro wx hSw
          clear hSw hk
          go_simp
          try first | with_reducible rfl | kernel_rfl
        simp only [Act.put, List.getElem_toArray, List.getElem_cons_succ, List.getElem_cons_zero, List.setIfInBounds_toArray, List.set_cons_succ, List.set_cons_zero]
        refine Wl.take0 (i := 6) (v := .string x.text) rfl (by kernel_rfl) (by kernel_rfl) (by kernel_rfl) (by kernel_rfl) (fun _ _ _ h => h) (.inl ⟨by kernel_rfl, ?_⟩) hk ?_
        · intro wx hSw
          have cc := (cell_of_row wx _ 1 _ _ _ hSw).trans rfl
          clear hSw hk
          go_simp
          try first | with_reducible rfl | kernel_rfl
        simp only [Act.put, List.getElem_toArray, List.getElem_cons_succ, List.getElem_cons_zero, List.setIfInBounds_toArray, List.set_cons_succ, List.set_cons_zero]
        refine Wl.one (i := 3) (by kernel_rfl) rfl (fun K hK => ?_)
        go_simp
        refine HP1.out.mono ?_
        rintro e w5 ⟨rfl, h5, k5⟩
        have HT5 := Lib.hid h5
        have HQ5 : Hid (w5.heap[ob]? = some (.cells #[.int .i64 x.kind, .string x.text, .int .i64 x.rep.kind, .int .i64 x.rep.node, .string x.rep.text] 36 (0, 0))) := Lib.hid ((k5 ob HOB0.out).trans HQ0d.out)
        clear h5 k5
        refine hK.out _ _ (Wl.Kn.on trivial HQ5.out) (fun hk => ?_)
        clear hK K
        refine Wl.one (i := 7) (by kernel_rfl) rfl (fun K hK => ?_)
        go_simp
        refine (HD1.out _ HT5.out).mono ?_
        rintro e w6 ⟨rfl, h6, k6⟩
        have HT6 := Lib.hid h6
        have HQ6 : Hid (w6.heap[ob]? = some (.cells #[.int .i64 x.kind, .string x.text, .int .i64 x.rep.kind, .int .i64 x.rep.node, .string x.rep.text] 36 (0, 0))) := Lib.hid ((k6 ob HOB0.out).trans HQ5.out)
        clear h6 k6
        refine hK.out _ _ (Wl.Kn.on trivial HQ6.out) (fun hk => ?_)
        clear hK K
        refine Wl.take0 (i := 8) (v := .bool true) rfl (by kernel_rfl) (by kernel_rfl) (by kernel_rfl) (by kernel_rfl) (fun _ _ _ h => h) (.inl ⟨by kernel_rfl, ?_⟩) hk ?_
        · intro wx hSw
          clear hSw hk
          go_simp
          try first | with_reducible rfl | kernel_rfl
        simp only [Act.put, List.getElem_toArray, List.getElem_cons_succ, List.getElem_cons_zero, List.setIfInBounds_toArray, List.set_cons_succ, List.set_cons_zero]
        refine Wl.take0 (i := 9) (v := .bool true) rfl (by kernel_rfl) (by kernel_rfl) (by kernel_rfl) (by kernel_rfl) (fun _ _ _ h => h) (.inl ⟨by kernel_rfl, ?_⟩) hk ?_
        · intro wx hSw
          clear hSw hk
          go_simp
          try first | with_reducible rfl | kernel_rfl
        simp only [Act.put, List.getElem_toArray, List.getElem_cons_succ, List.getElem_cons_zero, List.setIfInBounds_toArray, List.set_cons_succ, List.set_cons_zero]
        refine Wl.done (by kernel_rfl) ?_ _
        clear hk
        go_wp2_with fail
        have HTd := Lib.hid HT6.out.drew
        obtain ⟨z3, hz3⟩ : ∃ q, Mv.stX (s2).st = q := ⟨_, rfl⟩
        have cz : _ := HTd.out.state
        rw [hz3] at cz
        obtain ⟨bo, hbo⟩ : ∃ q, decide ((s2).st ≠ 0) = q := ⟨_, rfl⟩
        have hzb : (z3 != 7) = bo := by
          rw [← hz3, ← hbo]
          have hok7 := HOK2.out.2.1
          unfold Mv.stX
          by_cases h0 : (s2).st = 0
          · rw [if_pos h0, h0]; rfl
          · rw [if_neg h0]
            have : (s2).st - 1 ≠ 7 := by omega
            simp [this, h0]
        have HBO := Lib.hid hbo
        have HCZ := Lib.hid cz
        have hbb : (bo != bo) = false := by cases bo <;> rfl
        clear hz3 hbo cz
        refine Wl.start 999 (fun _ => True) (fun u => u.cell? ⟨gx, 3, none⟩ = some (.int .i64 z3)) (by kernel_rfl) trivial HCZ.out (fun hk => ?_)
        refine Wl.take0 (i := 0) (v := .bool true) rfl (by kernel_rfl) (by kernel_rfl) (by kernel_rfl) (by kernel_rfl) (fun _ _ _ h => h) (.inl ⟨by kernel_rfl, ?_⟩) hk ?_
        · intro wx hSw
          clear hSw hk
          go_simp
          try first | with_reducible rfl | kernel_rfl
        simp only [Act.put, List.getElem_toArray, List.getElem_cons_succ, List.getElem_cons_zero, List.setIfInBounds_toArray, List.set_cons_succ, List.set_cons_zero]
        refine Wl.take0 (i := 1) (v := .bool false) rfl (by kernel_rfl) (by kernel_rfl) (by kernel_rfl) (by kernel_rfl) (fun _ _ _ h => h) (.inl ⟨by kernel_rfl, ?_⟩) hk ?_
        · intro wx hSw
          clear hSw hk
          go_simp
          try first | with_reducible rfl | kernel_rfl
        simp only [Act.put, List.getElem_toArray, List.getElem_cons_succ, List.getElem_cons_zero, List.setIfInBounds_toArray, List.set_cons_succ, List.set_cons_zero]
        refine Wl.take0 (i := 2) (v := .bool false) rfl (by kernel_rfl) (by kernel_rfl) (by kernel_rfl) (by kernel_rfl) (fun _ _ _ h => h) (.inl ⟨by kernel_rfl, ?_⟩) hk ?_
        · intro wx hSw
          clear hSw hk
          go_simp
          try first | with_reducible rfl | kernel_rfl
        simp only [Act.put, List.getElem_toArray, List.getElem_cons_succ, List.getElem_cons_zero, List.setIfInBounds_toArray, List.set_cons_succ, List.set_cons_zero]
        refine Wl.take0 (i := 3) (v := .pointer (some ⟨p, 0, none⟩)) rfl (by kernel_rfl) (by kernel_rfl) (by kernel_rfl) (by kernel_rfl) (fun _ _ _ h => h) (.inl ⟨by kernel_rfl, ?_⟩) hk ?_
        · intro wx hSw
          clear hSw hk
          go_simp
          try first | with_reducible rfl | kernel_rfl
        simp only [Act.put, List.getElem_toArray, List.getElem_cons_succ, List.getElem_cons_zero, List.setIfInBounds_toArray, List.set_cons_succ, List.set_cons_zero]
        refine Wl.take0 (i := 5) (v := .pointer (some ⟨gx, 0, none⟩)) rfl (by kernel_rfl) (by kernel_rfl) (by kernel_rfl) (by kernel_rfl) (fun _ _ _ h => h) (.inl ⟨by kernel_rfl, ?_⟩) hk ?_
        · intro wx hSw
          clear hSw hk
          go_simp
          try first | with_reducible rfl | kernel_rfl
        simp only [Act.put, List.getElem_toArray, List.getElem_cons_succ, List.getElem_cons_zero, List.setIfInBounds_toArray, List.set_cons_succ, List.set_cons_zero]
        refine Wl.take0 (i := 6) (v := .pointer (some ⟨gx, 0, none⟩)) rfl (by kernel_rfl) (by kernel_rfl) (by kernel_rfl) (by kernel_rfl) (fun _ _ _ h => h) (.inl ⟨by kernel_rfl, ?_⟩) hk ?_
        · intro wx hSw
          clear hSw hk
          go_simp
          try first | with_reducible rfl | kernel_rfl
        simp only [Act.put, List.getElem_toArray, List.getElem_cons_succ, List.getElem_cons_zero, List.setIfInBounds_toArray, List.set_cons_succ, List.set_cons_zero]
        refine Wl.take0 (i := 7) (v := .pointer (some ⟨gx, 3, none⟩)) rfl (by kernel_rfl) (by kernel_rfl) (by kernel_rfl) (by kernel_rfl) (fun _ _ _ h => h) (.inl ⟨by kernel_rfl, ?_⟩) hk ?_
        · intro wx hSw
          clear hSw hk
          go_simp
          try first | with_reducible rfl | kernel_rfl
        simp only [Act.put, List.getElem_toArray, List.getElem_cons_succ, List.getElem_cons_zero, List.setIfInBounds_toArray, List.set_cons_succ, List.set_cons_zero]
        refine Wl.take0 (i := 8) (v := .int .i64 z3) rfl (by kernel_rfl) (by kernel_rfl) (by kernel_rfl) (by kernel_rfl) (fun _ _ _ h => h) (.inl ⟨by kernel_rfl, ?_⟩) hk ?_
        · intro wx hSw
          have cc := hSw
          clear hSw hk
          go_simp
          try first | with_reducible rfl | kernel_rfl
        simp only [Act.put, List.getElem_toArray, List.getElem_cons_succ, List.getElem_cons_zero, List.setIfInBounds_toArray, List.set_cons_succ, List.set_cons_zero]
        refine Wl.take0 (i := 9) (v := .bool bo) rfl (by kernel_rfl) (by kernel_rfl) (by kernel_rfl) (by kernel_rfl) (fun _ _ _ h => h) (.inl ⟨by kernel_rfl, ?_⟩) hk ?_
        · intro wx hSw
          have hq := hzb
          clear hSw hk
          go_simp
          try first | with_reducible rfl | kernel_rfl
        simp only [Act.put, List.getElem_toArray, List.getElem_cons_succ, List.getElem_cons_zero, List.setIfInBounds_toArray, List.set_cons_succ, List.set_cons_zero]
        refine Wl.one (i := 4) (by kernel_rfl) rfl (fun K hK => ?_)
        go_simp
        refine (HTd.out.open_).mono ?_
        rintro e w9 ⟨rfl, rfl⟩
        rw [HBO.out]
        refine hK.out _ _ (Wl.Kn.on trivial HCZ.out) (fun hk => ?_)
        clear hK K
        refine Wl.take0 (i := 10) (v := .bool false) rfl (by kernel_rfl) (by kernel_rfl) (by kernel_rfl) (by kernel_rfl) (fun _ _ _ h => h) (.inl ⟨by kernel_rfl, ?_⟩) hk ?_
        · intro wx hSw
          have hq := hbb
          clear hSw hk
          go_simp
          try first | with_reducible rfl | kernel_rfl
        simp only [Act.put, List.getElem_toArray, List.getElem_cons_succ, List.getElem_cons_zero, List.setIfInBounds_toArray, List.set_cons_succ, List.set_cons_zero]
        refine Wl.take0 (i := 11) (v := .bool false) rfl (by kernel_rfl) (by kernel_rfl) (by kernel_rfl) (by kernel_rfl) (fun _ _ _ h => h) (.inl ⟨by kernel_rfl, ?_⟩) hk ?_
        · intro wx hSw
          clear hSw hk
          go_simp
          try first | with_reducible rfl | kernel_rfl
        simp only [Act.put, List.getElem_toArray, List.getElem_cons_succ, List.getElem_cons_zero, List.setIfInBounds_toArray, List.set_cons_succ, List.set_cons_zero]
        refine Wl.done (by kernel_rfl) ?_ _
        clear hk
        go_wp2_with fail
        go_roundw
        case rel => exact ⟨k + 1, p, s2, by omega, by go_num, rfl, Lib.hid ⟨HTd.out.mono (fun _ h => h.elim), HOK2.out⟩⟩
        case measure => simp [intOf]; omega
      have hn4 : (x.kind == 4) = false := beq_eq_false_iff_ne.2 hk4
      by_cases hk5 : x.kind = 5
      · replace ck0 : W0.cell? ⟨ob, 0, none⟩ = some (.int .i64 5) := by rw [ck0, hk5]
        clear hk5
        have HP1 := Lib.hid (HT0.out.prog (fun S vr vq vo hv ho => Mu.lost_any _ hv (by have := HOL.out; omega)))
        have HOK2 : Hid (Mu.okS 2004 (2004 * (k + 1)) (Mu.lostS s)) := Lib.hid ((Mu.ok_lost HOK.out).mono (Nat.le_refl _) (by have := HK2.out.2; omega))
        have HD1 := Lib.hid (fun (w : World) (h : Mu.TwO p gx (Mu.lostS s) s (fun k => wr.heap.size ≤ k ∧ k < W0.heap.size) B w1 w) => h.doc (fun S vq vo b bd al tx hv => Mv.lost_any w hv (by have := HOL.out; omega)))
        obtain ⟨s2, hs2⟩ : ∃ q, Mu.lostS s = q := ⟨_, rfl⟩
        obtain ⟨en, hen⟩ : ∃ q, Mu.lostE s = q := ⟨_, rfl⟩
        rw [hen] at HP1 HD1
        clear hen
        rw [hs2] at HP1 HOK2 HD1
        clear hs2
        go_wp2_with (first | rw [hW0] | ((with_reducible refine HP1.out.mono ?_); rintro e w5 ⟨rfl, h5, -⟩; have HT5 := Lib.hid h5; clear h5) | ((with_reducible refine (HD1.out _ HT5.out).mono ?_); rintro e w6 ⟨rfl, h6, -⟩; have HT6 := Lib.hid h6; clear h6))
        have HTd := Lib.hid HT6.out.drew
        obtain ⟨z3, hz3⟩ : ∃ q, Mv.stX (s2).st = q := ⟨_, rfl⟩
        have cz : _ := HTd.out.state
        rw [hz3] at cz
        obtain ⟨bo, hbo⟩ : ∃ q, decide ((s2).st ≠ 0) = q := ⟨_, rfl⟩
        have hzb : (z3 != 7) = bo := by
          rw [← hz3, ← hbo]
          have hok7 := HOK2.out.2.1
          unfold Mv.stX
          by_cases h0 : (s2).st = 0
          · rw [if_pos h0, h0]; rfl
          · rw [if_neg h0]
            have : (s2).st - 1 ≠ 7 := by omega
            simp [this, h0]
        have HBO := Lib.hid hbo
        have HCZ := Lib.hid cz
        have hbb : (bo != bo) = false := by cases bo <;> rfl
        clear hz3 hbo cz
        refine Wl.start 999 (fun _ => True) (fun u => u.cell? ⟨gx, 3, none⟩ = some (.int .i64 z3)) (by kernel_rfl) trivial HCZ.out (fun hk => ?_)
        refine Wl.take0 (i := 0) (v := .bool true) rfl (by kernel_rfl) (by kernel_rfl) (by kernel_rfl) (by kernel_rfl) (fun _ _ _ h => h) (.inl ⟨by kernel_rfl, ?_⟩) hk ?_
        · intro wx hSw
          clear hSw hk
          go_simp
          try first | with_reducible rfl | kernel_rfl
        simp only [Act.put, List.getElem_toArray, List.getElem_cons_succ, List.getElem_cons_zero, List.setIfInBounds_toArray, List.set_cons_succ, List.set_cons_zero]
        refine Wl.take0 (i := 1) (v := .bool false) rfl (by kernel_rfl) (by kernel_rfl) (by kernel_rfl) (by kernel_rfl) (fun _ _ _ h => h) (.inl ⟨by kernel_rfl, ?_⟩) hk ?_
        · intro wx hSw
          clear hSw hk
          go_simp
          try first | with_reducible rfl | kernel_rfl
        simp only [Act.put, List.getElem_toArray, List.getElem_cons_succ, List.getElem_cons_zero, List.setIfInBounds_toArray, List.set_cons_succ, List.set_cons_zero]
        refine Wl.take0 (i := 2) (v := .bool false) rfl (by kernel_rfl) (by kernel_rfl) (by kernel_rfl) (by kernel_rfl) (fun _ _ _ h => h) (.inl ⟨by kernel_rfl, ?_⟩) hk ?_
        · intro wx hSw
          clear hSw hk
          go_simp
          try first | with_reducible rfl | kernel_rfl
        simp only [Act.put, List.getElem_toArray, List.getElem_cons_succ, List.getElem_cons_zero, List.setIfInBounds_toArray, List.set_cons_succ, List.set_cons_zero]
        refine Wl.take0 (i := 3) (v := .pointer (some ⟨p, 0, none⟩)) rfl (by kernel_rfl) (by kernel_rfl) (by kernel_rfl) (by kernel_rfl) (fun _ _ _ h => h) (.inl ⟨by kernel_rfl, ?_⟩) hk ?_
        · intro wx hSw
          clear hSw hk
          go_simp
          try first | with_reducible rfl | kernel_rfl
        simp only [Act.put, List.getElem_toArray, List.getElem_cons_succ, List.getElem_cons_zero, List.setIfInBounds_toArray, List.set_cons_succ, List.set_cons_zero]
        refine Wl.take0 (i := 5) (v := .pointer (some ⟨gx, 0, none⟩)) rfl (by kernel_rfl) (by kernel_rfl) (by kernel_rfl) (by kernel_rfl) (fun _ _ _ h => h) (.inl ⟨by kernel_rfl, ?_⟩) hk ?_
        · intro wx hSw
          clear hSw hk
          go_simp
          try first | with_reducible rfl | kernel_rfl
        simp only [Act.put, List.getElem_toArray, List.getElem_cons_succ, List.getElem_cons_zero, List.setIfInBounds_toArray, List.set_cons_succ, List.set_cons_zero]
        refine Wl.take0 (i := 6) (v := .pointer (some ⟨gx, 0, none⟩)) rfl (by kernel_rfl) (by kernel_rfl) (by kernel_rfl) (by kernel_rfl) (fun _ _ _ h => h) (.inl ⟨by kernel_rfl, ?_⟩) hk ?_
        · intro wx hSw
          clear hSw hk
          go_simp
          try first | with_reducible rfl | kernel_rfl
        simp only [Act.put, List.getElem_toArray, List.getElem_cons_succ, List.getElem_cons_zero, List.setIfInBounds_toArray, List.set_cons_succ, List.set_cons_zero]
        refine Wl.take0 (i := 7) (v := .pointer (some ⟨gx, 3, none⟩)) rfl (by kernel_rfl) (by kernel_rfl) (by kernel_rfl) (by kernel_rfl) (fun _ _ _ h => h) (.inl ⟨by kernel_rfl, ?_⟩) hk ?_
        · intro wx hSw
          clear hSw hk
          go_simp
          try first | with_reducible rfl | kernel_rfl
        simp only [Act.put, List.getElem_toArray, List.getElem_cons_succ, List.getElem_cons_zero, List.setIfInBounds_toArray, List.set_cons_succ, List.set_cons_zero]
        refine Wl.take0 (i := 8) (v := .int .i64 z3) rfl (by kernel_rfl) (by kernel_rfl) (by kernel_rfl) (by kernel_rfl) (fun _ _ _ h => h) (.inl ⟨by kernel_rfl, ?_⟩) hk ?_
        · intro wx hSw
          have cc := hSw
          clear hSw hk
          go_simp
          try first | with_reducible rfl | kernel_rfl
        simp only [Act.put, List.getElem_toArray, List.getElem_cons_succ, List.getElem_cons_zero, List.setIfInBounds_toArray, List.set_cons_succ, List.set_cons_zero]
        refine Wl.take0 (i := 9) (v := .bool bo) rfl (by kernel_rfl) (by kernel_rfl) (by kernel_rfl) (by kernel_rfl) (fun _ _ _ h => h) (.inl ⟨by kernel_rfl, ?_⟩) hk ?_
        · intro wx hSw
          have hq := hzb
          clear hSw hk
          go_simp
          try first | with_reducible rfl | kernel_rfl
        simp only [Act.put, List.getElem_toArray, List.getElem_cons_succ, List.getElem_cons_zero, List.setIfInBounds_toArray, List.set_cons_succ, List.set_cons_zero]
        refine Wl.one (i := 4) (by kernel_rfl) rfl (fun K hK => ?_)
        go_simp
        refine (HTd.out.open_).mono ?_
        rintro e w9 ⟨rfl, rfl⟩
        rw [HBO.out]
        refine hK.out _ _ (Wl.Kn.on trivial HCZ.out) (fun hk => ?_)
        clear hK K
        refine Wl.take0 (i := 10) (v := .bool false) rfl (by kernel_rfl) (by kernel_rfl) (by kernel_rfl) (by kernel_rfl) (fun _ _ _ h => h) (.inl ⟨by kernel_rfl, ?_⟩) hk ?_
        · intro wx hSw
          have hq := hbb
          clear hSw hk
          go_simp
          try first | with_reducible rfl | kernel_rfl
        simp only [Act.put, List.getElem_toArray, List.getElem_cons_succ, List.getElem_cons_zero, List.setIfInBounds_toArray, List.set_cons_succ, List.set_cons_zero]
        refine Wl.take0 (i := 11) (v := .bool false) rfl (by kernel_rfl) (by kernel_rfl) (by kernel_rfl) (by kernel_rfl) (fun _ _ _ h => h) (.inl ⟨by kernel_rfl, ?_⟩) hk ?_
        · intro wx hSw
          clear hSw hk
          go_simp
          try first | with_reducible rfl | kernel_rfl
        simp only [Act.put, List.getElem_toArray, List.getElem_cons_succ, List.getElem_cons_zero, List.setIfInBounds_toArray, List.set_cons_succ, List.set_cons_zero]
        refine Wl.done (by kernel_rfl) ?_ _
        clear hk
        go_wp2_with fail
        go_roundw
        case rel => exact ⟨k + 1, p, s2, by omega, by go_num, rfl, Lib.hid ⟨HTd.out.mono (fun _ h => h.elim), HOK2.out⟩⟩
        case measure => simp [intOf]; omega
      have hn5 : (x.kind == 5) = false := beq_eq_false_iff_ne.2 hk5
      by_cases hk6 : x.kind = 6
      · replace ck0 : W0.cell? ⟨ob, 0, none⟩ = some (.int .i64 6) := by rw [ck0, hk6]
        clear hk6
        have HP1 := Lib.hid (HT0.out.prog (fun S vr vq vo hv ho => Mu.hang_left _ hv))
        have HOK2 : Hid (Mu.okS 2004 (2004 * (k + 1)) (Mu.hangS s)) := Lib.hid ((Mu.ok_hang HOK.out).mono (Nat.le_refl _) (by have := HK2.out.2; omega))
        have HD1 := Lib.hid (fun (w : World) (h : Mu.TwO p gx (Mu.hangS s) s (fun k => wr.heap.size ≤ k ∧ k < W0.heap.size) B w1 w) => h.doc (fun S vq vo b bd al tx hv => Mv.hang_any w hv))
        obtain ⟨s2, hs2⟩ : ∃ q, Mu.hangS s = q := ⟨_, rfl⟩
        rw [hs2] at HP1 HOK2 HD1
        clear hs2
        go_wp2_with (first | rw [hW0] | ((with_reducible refine HP1.out.mono ?_); rintro e w5 ⟨rfl, h5, -⟩; have HT5 := Lib.hid h5; clear h5) | ((with_reducible refine (HD1.out _ HT5.out).mono ?_); rintro e w6 ⟨rfl, h6, -⟩; have HT6 := Lib.hid h6; clear h6))
        have HTd := Lib.hid HT6.out.drew
        obtain ⟨z3, hz3⟩ : ∃ q, Mv.stX (s2).st = q := ⟨_, rfl⟩
        have cz : _ := HTd.out.state
        rw [hz3] at cz
        obtain ⟨bo, hbo⟩ : ∃ q, decide ((s2).st ≠ 0) = q := ⟨_, rfl⟩
        have hzb : (z3 != 7) = bo := by
          rw [← hz3, ← hbo]
          have hok7 := HOK2.out.2.1
          unfold Mv.stX
          by_cases h0 : (s2).st = 0
          · rw [if_pos h0, h0]; rfl
          · rw [if_neg h0]
            have : (s2).st - 1 ≠ 7 := by omega
            simp [this, h0]
        have HBO := Lib.hid hbo
        have HCZ := Lib.hid cz
        have hbb : (bo != bo) = false := by cases bo <;> rfl
        clear hz3 hbo cz
        refine Wl.start 999 (fun _ => True) (fun u => u.cell? ⟨gx, 3, none⟩ = some (.int .i64 z3)) (by kernel_rfl) trivial HCZ.out (fun hk => ?_)
        refine Wl.take0 (i := 0) (v := .bool true) rfl (by kernel_rfl) (by kernel_rfl) (by kernel_rfl) (by kernel_rfl) (fun _ _ _ h => h) (.inl ⟨by kernel_rfl, ?_⟩) hk ?_
        · intro wx hSw
          clear hSw hk
          go_simp
          try first | with_reducible rfl | kernel_rfl
        simp only [Act.put, List.getElem_toArray, List.getElem_cons_succ, List.getElem_cons_zero, List.setIfInBounds_toArray, List.set_cons_succ, List.set_cons_zero]
        refine Wl.take0 (i := 1) (v := .bool false) rfl (by kernel_rfl) (by kernel_rfl) (by kernel_rfl) (by kernel_rfl) (fun _ _ _ h => h) (.inl ⟨by kernel_rfl, ?_⟩) hk ?_
        · intro wx hSw
          clear hSw hk
          go_simp
          try first | with_reducible rfl | kernel_rfl
        simp only [Act.put, List.getElem_toArray, List.getElem_cons_succ, List.getElem_cons_zero, List.setIfInBounds_toArray, List.set_cons_succ, List.set_cons_zero]
        refine Wl.take0 (i := 2) (v := .bool false) rfl (by kernel_rfl) (by kernel_rfl) (by kernel_rfl) (by kernel_rfl) (fun _ _ _ h => h) (.inl ⟨by kernel_rfl, ?_⟩) hk ?_
        · intro wx hSw
          clear hSw hk
          go_simp
          try first | with_reducible rfl | kernel_rfl
        simp only [Act.put, List.getElem_toArray, List.getElem_cons_succ, List.getElem_cons_zero, List.setIfInBounds_toArray, List.set_cons_succ, List.set_cons_zero]
        refine Wl.take0 (i := 3) (v := .pointer (some ⟨p, 0, none⟩)) rfl (by kernel_rfl) (by kernel_rfl) (by kernel_rfl) (by kernel_rfl) (fun _ _ _ h => h) (.inl ⟨by kernel_rfl, ?_⟩) hk ?_
        · intro wx hSw
          clear hSw hk
          go_simp
          try first | with_reducible rfl | kernel_rfl
        simp only [Act.put, List.getElem_toArray, List.getElem_cons_succ, List.getElem_cons_zero, List.setIfInBounds_toArray, List.set_cons_succ, List.set_cons_zero]
        refine Wl.take0 (i := 5) (v := .pointer (some ⟨gx, 0, none⟩)) rfl (by kernel_rfl) (by kernel_rfl) (by kernel_rfl) (by kernel_rfl) (fun _ _ _ h => h) (.inl ⟨by kernel_rfl, ?_⟩) hk ?_
        · intro wx hSw
          clear hSw hk
          go_simp
          try first | with_reducible rfl | kernel_rfl
        simp only [Act.put, List.getElem_toArray, List.getElem_cons_succ, List.getElem_cons_zero, List.setIfInBounds_toArray, List.set_cons_succ, List.set_cons_zero]
        refine Wl.take0 (i := 6) (v := .pointer (some ⟨gx, 0, none⟩)) rfl (by kernel_rfl) (by kernel_rfl) (by kernel_rfl) (by kernel_rfl) (fun _ _ _ h => h) (.inl ⟨by kernel_rfl, ?_⟩) hk ?_
        · intro wx hSw
          clear hSw hk
          go_simp
          try first | with_reducible rfl | kernel_rfl
        simp only [Act.put, List.getElem_toArray, List.getElem_cons_succ, List.getElem_cons_zero, List.setIfInBounds_toArray, List.set_cons_succ, List.set_cons_zero]
        refine Wl.take0 (i := 7) (v := .pointer (some ⟨gx, 3, none⟩)) rfl (by kernel_rfl) (by kernel_rfl) (by kernel_rfl) (by kernel_rfl) (fun _ _ _ h => h) (.inl ⟨by kernel_rfl, ?_⟩) hk ?_
        · intro wx hSw
          clear hSw hk
          go_simp
          try first | with_reducible rfl | kernel_rfl
        simp only [Act.put, List.getElem_toArray, List.getElem_cons_succ, List.getElem_cons_zero, List.setIfInBounds_toArray, List.set_cons_succ, List.set_cons_zero]
        refine Wl.take0 (i := 8) (v := .int .i64 z3) rfl (by kernel_rfl) (by kernel_rfl) (by kernel_rfl) (by kernel_rfl) (fun _ _ _ h => h) (.inl ⟨by kernel_rfl, ?_⟩) hk ?_
        · intro wx hSw
          have cc := hSw
          clear hSw hk
          go_simp
          try first | with_reducible rfl | kernel_rfl
        simp only [Act.put, List.getElem_toArray, List.getElem_cons_succ, List.getElem_cons_zero, List.setIfInBounds_toArray, List.set_cons_succ, List.set_cons_zero]
        refine Wl.take0 (i := 9) (v := .bool bo) rfl (by kernel_rfl) (by kernel_rfl) (by kernel_rfl) (by kernel_rfl) (fun _ _ _ h => h) (.inl ⟨by kernel_rfl, ?_⟩) hk ?_
        · intro wx hSw
          have hq := hzb
          clear hSw hk
          go_simp
          try first | with_reducible rfl | kernel_rfl
        simp only [Act.put, List.getElem_toArray, List.getElem_cons_succ, List.getElem_cons_zero, List.setIfInBounds_toArray, List.set_cons_succ, List.set_cons_zero]
        refine Wl.one (i := 4) (by kernel_rfl) rfl (fun K hK => ?_)
        go_simp
        refine (HTd.out.open_).mono ?_
        rintro e w9 ⟨rfl, rfl⟩
        rw [HBO.out]
        refine hK.out _ _ (Wl.Kn.on trivial HCZ.out) (fun hk => ?_)
        clear hK K
        refine Wl.take0 (i := 10) (v := .bool false) rfl (by kernel_rfl) (by kernel_rfl) (by kernel_rfl) (by kernel_rfl) (fun _ _ _ h => h) (.inl ⟨by kernel_rfl, ?_⟩) hk ?_
        · intro wx hSw
          have hq := hbb
          clear hSw hk
          go_simp
          try first | with_reducible rfl | kernel_rfl
        simp only [Act.put, List.getElem_toArray, List.getElem_cons_succ, List.getElem_cons_zero, List.setIfInBounds_toArray, List.set_cons_succ, List.set_cons_zero]
        refine Wl.take0 (i := 11) (v := .bool false) rfl (by kernel_rfl) (by kernel_rfl) (by kernel_rfl) (by kernel_rfl) (fun _ _ _ h => h) (.inl ⟨by kernel_rfl, ?_⟩) hk ?_
        · intro wx hSw
          clear hSw hk
          go_simp
          try first | with_reducible rfl | kernel_rfl
        simp only [Act.put, List.getElem_toArray, List.getElem_cons_succ, List.getElem_cons_zero, List.setIfInBounds_toArray, List.set_cons_succ, List.set_cons_zero]
        refine Wl.done (by kernel_rfl) ?_ _
        clear hk
        go_wp2_with fail
        go_roundw
        case rel => exact ⟨k + 1, p, s2, by omega, by go_num, rfl, Lib.hid ⟨HTd.out.mono (fun _ h => h.elim), HOK2.out⟩⟩
        case measure => simp [intOf]; omega
      have hn6 : (x.kind == 6) = false := beq_eq_false_iff_ne.2 hk6
      by_cases hk7 : x.kind = 7
      · replace ck0 : W0.cell? ⟨ob, 0, none⟩ = some (.int .i64 7) := by rw [ck0, hk7]
        clear hk7
        have HP1 := Lib.hid HT0.out.replies
        have HOK2 : Hid (Mu.okS 2004 (2004 * (k + 1)) (Mu.repsS s)) := Lib.hid ((Mu.ok_reps HOK.out).mono (Nat.le_refl _) (Nat.zero_le _))
        go_wp2_with (first | rw [hW0] | ((with_reducible refine HP1.out.mono ?_); rintro e w5 ⟨v5, rfl, o5, h5⟩; have HT5 := Lib.hid h5; have HO5 := Lib.hid o5; clear h5 o5) | ((with_reducible refine HT5.out.xreplies.mono ?_); rintro e w6 ⟨v6, rfl, o6, h6, k6⟩; have HT6 := Lib.hid h6; have HO6 : Hid (OwnR 3 repC Mu.TR w6 0 v5 s.out) := Lib.hid (own_keep HO5.out (fun q hq _ => k6 q hq)); have HX6 := Lib.hid (o6.sl repC_len); clear h6 o6 k6) | ((with_reducible refine (Mu.rsame_any _ _ _ _ (HO6.out.sl repC_len) HX6.out).mono ?_); rintro e w7 ⟨rfl, hb7⟩; have HT7 := Lib.hid (HT6.out.below hb7); have HO7 := Lib.hid (HO6.out.below hb7 (Nat.le_refl _)); clear hb7; obtain ⟨a7, n7, rfl⟩ := own_slice HO7.out))
        obtain ⟨s2, hs2⟩ : ∃ q, Mu.repsS s = q := ⟨_, rfl⟩
        rw [hs2] at HT7 HOK2
        clear hs2
        have HRO := Lib.hid (own_rowN repC_len HO7.out)
        clear HO7 HO6 HO5 HT6 HT5 HX6
        go_loopw [140] (fun i wr => ∃ j : Nat, j ≤ s.out.length ∧ i = .int .i64 (j : Int) ∧ Hid (Mu.TwO p gx s2 s2 (fun k => (Value.slice a7 s.out.length n7).ownBlock = some k) B w1 wr ∧ ∀ g, a7 = some ⟨g, 0, none⟩ → RowN wr g (s.out.length * 3))) (fun i _ => s.out.length - (intOf i).toNat)
        case atStart => exact ⟨0, Nat.zero_le _, rfl, Lib.hid ⟨HT7.out, fun g hg => by rcases HRO.out with ⟨e, -⟩ | ⟨g2, c2, e, -, hr⟩; (rw [hg] at e; cases e); (rw [hg] at e; simp only [Value.slice.injEq, Option.some.injEq, Addr.mk.injEq, and_true, true_and] at e; obtain ⟨rfl, -⟩ := e; exact hr)⟩⟩
        case round =>
          obtain ⟨j, hj, rfl, HRJ⟩ := hrel
          by_cases hlt2 : j < s.out.length
          · obtain ⟨g7, rfl⟩ : ∃ g, a7 = some ⟨g, 0, none⟩ := by
              rcases HRO.out with ⟨e, h0⟩ | ⟨g2, c2, e, -, hr⟩
              · simp only [Value.slice.injEq] at e; omega
              · simp only [Value.slice.injEq] at e; exact ⟨g2, e.1⟩
            obtain ⟨⟨u0, y0⟩, y1, y2⟩ := (HRJ.out.2 g7 rfl).at (i := j * 3) (by omega)
            have hjz : (j : Int) < (s.out.length : Int) := by omega
            have hjw : (j : Int) + 1 ≤ 402805 := by have := HOL.out; omega
            have HJ2 := Lib.hid (And.intro (HRJ.out.1.write (g := g7) (i := j * 3) (v := .int .i64 99) rfl) (show ∀ g : Nat, (some ⟨g7, 0, none⟩ : Option Addr) = some ⟨g, 0, none⟩ → RowN (wr.setCell ⟨g7, j * 3, none⟩ (.int .i64 99)) g (s.out.length * 3) from fun g hg => by simp only [Option.some.injEq, Addr.mk.injEq, and_true] at hg; subst hg; exact y2 (.int .i64 99)))
            clear y2
            go_wp2_with fail
            go_roundw
            case rel => exact ⟨j + 1, by omega, by go_num, Lib.hid HJ2.out⟩
            case measure => simp [intOf]; omega
          · obtain rfl : j = s.out.length := by omega
            have HT9 := Lib.hid HRJ.out.1
            go_wp2_with fail
            have HTd := Lib.hid HT9.out.drew
            obtain ⟨z3, hz3⟩ : ∃ q, Mv.stX (s2).st = q := ⟨_, rfl⟩
            have cz : _ := HTd.out.state
            rw [hz3] at cz
            obtain ⟨bo, hbo⟩ : ∃ q, decide ((s2).st ≠ 0) = q := ⟨_, rfl⟩
            have hzb : (z3 != 7) = bo := by
              rw [← hz3, ← hbo]
              have hok7 := HOK2.out.2.1
              unfold Mv.stX
              by_cases h0 : (s2).st = 0
              · rw [if_pos h0, h0]; rfl
              · rw [if_neg h0]
                have : (s2).st - 1 ≠ 7 := by omega
                simp [this, h0]
            have HBO := Lib.hid hbo
            have HCZ := Lib.hid cz
            have hbb : (bo != bo) = false := by cases bo <;> rfl
            clear hz3 hbo cz
            refine Wl.start 999 (fun _ => True) (fun u => u.cell? ⟨gx, 3, none⟩ = some (.int .i64 z3)) (by kernel_rfl) trivial HCZ.out (fun hk => ?_)
            refine Wl.take0 (i := 0) (v := .bool true) rfl (by kernel_rfl) (by kernel_rfl) (by kernel_rfl) (by kernel_rfl) (fun _ _ _ h => h) (.inl ⟨by kernel_rfl, ?_⟩) hk ?_
            · intro wx hSw
              clear hSw hk
              go_simp
              try first | with_reducible rfl | kernel_rfl
            simp only [Act.put, List.getElem_toArray, List.getElem_cons_succ, List.getElem_cons_zero, List.setIfInBounds_toArray, List.set_cons_succ, List.set_cons_zero]
            refine Wl.take0 (i := 1) (v := .bool false) rfl (by kernel_rfl) (by kernel_rfl) (by kernel_rfl) (by kernel_rfl) (fun _ _ _ h => h) (.inl ⟨by kernel_rfl, ?_⟩) hk ?_
            · intro wx hSw
              clear hSw hk
              go_simp
              try first | with_reducible rfl | kernel_rfl
            simp only [Act.put, List.getElem_toArray, List.getElem_cons_succ, List.getElem_cons_zero, List.setIfInBounds_toArray, List.set_cons_succ, List.set_cons_zero]
            refine Wl.take0 (i := 2) (v := .bool false) rfl (by kernel_rfl) (by kernel_rfl) (by kernel_rfl) (by kernel_rfl) (fun _ _ _ h => h) (.inl ⟨by kernel_rfl, ?_⟩) hk ?_
            · intro wx hSw
              clear hSw hk
              go_simp
              try first | with_reducible rfl | kernel_rfl
            simp only [Act.put, List.getElem_toArray, List.getElem_cons_succ, List.getElem_cons_zero, List.setIfInBounds_toArray, List.set_cons_succ, List.set_cons_zero]
            refine Wl.take0 (i := 3) (v := .pointer (some ⟨p, 0, none⟩)) rfl (by kernel_rfl) (by kernel_rfl) (by kernel_rfl) (by kernel_rfl) (fun _ _ _ h => h) (.inl ⟨by kernel_rfl, ?_⟩) hk ?_
            · intro wx hSw
              clear hSw hk
              go_simp
              try first | with_reducible rfl | kernel_rfl
            simp only [Act.put, List.getElem_toArray, List.getElem_cons_succ, List.getElem_cons_zero, List.setIfInBounds_toArray, List.set_cons_succ, List.set_cons_zero]
            refine Wl.take0 (i := 5) (v := .pointer (some ⟨gx, 0, none⟩)) rfl (by kernel_rfl) (by kernel_rfl) (by kernel_rfl) (by kernel_rfl) (fun _ _ _ h => h) (.inl ⟨by kernel_rfl, ?_⟩) hk ?_
            · intro wx hSw
              clear hSw hk
              go_simp
              try first | with_reducible rfl | kernel_rfl
            simp only [Act.put, List.getElem_toArray, List.getElem_cons_succ, List.getElem_cons_zero, List.setIfInBounds_toArray, List.set_cons_succ, List.set_cons_zero]
            refine Wl.take0 (i := 6) (v := .pointer (some ⟨gx, 0, none⟩)) rfl (by kernel_rfl) (by kernel_rfl) (by kernel_rfl) (by kernel_rfl) (fun _ _ _ h => h) (.inl ⟨by kernel_rfl, ?_⟩) hk ?_
            · intro wx hSw
              clear hSw hk
              go_simp
              try first | with_reducible rfl | kernel_rfl
            simp only [Act.put, List.getElem_toArray, List.getElem_cons_succ, List.getElem_cons_zero, List.setIfInBounds_toArray, List.set_cons_succ, List.set_cons_zero]
            refine Wl.take0 (i := 7) (v := .pointer (some ⟨gx, 3, none⟩)) rfl (by kernel_rfl) (by kernel_rfl) (by kernel_rfl) (by kernel_rfl) (fun _ _ _ h => h) (.inl ⟨by kernel_rfl, ?_⟩) hk ?_
            · intro wx hSw
              clear hSw hk
              go_simp
              try first | with_reducible rfl | kernel_rfl
            simp only [Act.put, List.getElem_toArray, List.getElem_cons_succ, List.getElem_cons_zero, List.setIfInBounds_toArray, List.set_cons_succ, List.set_cons_zero]
            refine Wl.take0 (i := 8) (v := .int .i64 z3) rfl (by kernel_rfl) (by kernel_rfl) (by kernel_rfl) (by kernel_rfl) (fun _ _ _ h => h) (.inl ⟨by kernel_rfl, ?_⟩) hk ?_
            · intro wx hSw
              have cc := hSw
              clear hSw hk
              go_simp
              try first | with_reducible rfl | kernel_rfl
            simp only [Act.put, List.getElem_toArray, List.getElem_cons_succ, List.getElem_cons_zero, List.setIfInBounds_toArray, List.set_cons_succ, List.set_cons_zero]
            refine Wl.take0 (i := 9) (v := .bool bo) rfl (by kernel_rfl) (by kernel_rfl) (by kernel_rfl) (by kernel_rfl) (fun _ _ _ h => h) (.inl ⟨by kernel_rfl, ?_⟩) hk ?_
            · intro wx hSw
              have hq := hzb
              clear hSw hk
              go_simp
              try first | with_reducible rfl | kernel_rfl
            simp only [Act.put, List.getElem_toArray, List.getElem_cons_succ, List.getElem_cons_zero, List.setIfInBounds_toArray, List.set_cons_succ, List.set_cons_zero]
            refine Wl.one (i := 4) (by kernel_rfl) rfl (fun K hK => ?_)
            go_simp
            refine (HTd.out.open_).mono ?_
            rintro e w9 ⟨rfl, rfl⟩
            rw [HBO.out]
            refine hK.out _ _ (Wl.Kn.on trivial HCZ.out) (fun hk => ?_)
            clear hK K
            refine Wl.take0 (i := 10) (v := .bool false) rfl (by kernel_rfl) (by kernel_rfl) (by kernel_rfl) (by kernel_rfl) (fun _ _ _ h => h) (.inl ⟨by kernel_rfl, ?_⟩) hk ?_
            · intro wx hSw
              have hq := hbb
              clear hSw hk
              go_simp
              try first | with_reducible rfl | kernel_rfl
            simp only [Act.put, List.getElem_toArray, List.getElem_cons_succ, List.getElem_cons_zero, List.setIfInBounds_toArray, List.set_cons_succ, List.set_cons_zero]
            refine Wl.take0 (i := 11) (v := .bool false) rfl (by kernel_rfl) (by kernel_rfl) (by kernel_rfl) (by kernel_rfl) (fun _ _ _ h => h) (.inl ⟨by kernel_rfl, ?_⟩) hk ?_
            · intro wx hSw
              clear hSw hk
              go_simp
              try first | with_reducible rfl | kernel_rfl
            simp only [Act.put, List.getElem_toArray, List.getElem_cons_succ, List.getElem_cons_zero, List.setIfInBounds_toArray, List.set_cons_succ, List.set_cons_zero]
            refine Wl.done (by kernel_rfl) ?_ _
            clear hk
            go_wp2_with fail
            go_roundw
            case rel => exact ⟨k + 1, p, s2, by omega, by go_num, rfl, Lib.hid ⟨HTd.out.mono (fun _ h => h.elim), HOK2.out⟩⟩
            case measure => simp [intOf]; omega
      have hn7 : (x.kind == 7) = false := beq_eq_false_iff_ne.2 hk7
      by_cases hk8 : x.kind = 8
      · replace ck0 : W0.cell? ⟨ob, 0, none⟩ = some (.int .i64 8) := by rw [ck0, hk8]
        clear hk8
        have HP1 := Lib.hid (HT0.out.clone HOK.out (by decide) (by have := HK2.out; omega))
        have HOK2 : Hid (Mu.okS 2004 (2004 * (k + 1)) s) := Lib.hid (HOK.out.mono (Nat.le_refl _) (by have := HK2.out.2; omega))
        have kc := fun (w : World) (C : Array Value) (n c : Nat) => Lib.run_convert_bytes_const (P := Try.prog) w 37 5 C n c Try.underlying37 Try.underlying5
        have HF : Hid (Mu.okS 2004 (2004 * k) (Mu.feedS s [66, 81, 1, 120, 69, 69, 69])) := Lib.hid (Mu.ok_feed4 HOK.out [66, 81, 1, 120, 69, 69, 69] (by decide) (by decide))
        go_wp2_with (first | rw [hW0] | ((with_reducible refine HP1.out.mono ?_); rintro e w5 ⟨pc, rfl, S1, hx5, hc5⟩; obtain ⟨W6, hW6⟩ : ∃ q, w5.alloc (.cells #[.int .u8 66, .int .u8 81, .int .u8 1, .int .u8 120, .int .u8 69, .int .u8 69, .int .u8 69] 5 (7, 8)) = q := ⟨_, rfl⟩; have hb6 : Below w5.heap.size w5 W6 := (by rw [← hW6]; exact (Below.refl _ _).alloc (Nat.le_refl _) _); have HS6 : Hid (Sl .u8 W6 (.slice (some ⟨w5.heap.size, 0, none⟩) 7 7) [66, 81, 1, 120, 69, 69, 69]) := Lib.hid (by rw [← hW6]; exact Sl.new w5 _ [66, 81, 1, 120, 69, 69, 69] rfl rfl (Nat.le_refl _) (by decide) (by decide)); have HL6 : Hid (Mc.Left (Mu.SesX p s) S1 w5 W6) := Lib.hid (Mc.Left.same (Mu.goodS p s) hx5 hb6); have HLO : Hid (∀ k, S1 k → k < w5.heap.size) := Lib.hid ((Mu.goodS p s).low hx5); have HC5 := Lib.hid hc5; have HX6 : Hid (Mu.SesX p s W6 S1) := Lib.hid ((Mu.goodS p s).below hx5 hb6); have HB6 := Lib.hid hb6; clear hx5 hc5 hb6; have HF7 : Hid (Calls Try.prog 9 #[.pointer (some ⟨p, 0, none⟩), .slice (some ⟨w5.heap.size, 0, none⟩) 7 7] W6 (Mu.MuR (.int .i64 (Mu.feedE s)) p (Mu.feedS s [66, 81, 1, 120, 69, 69, 69]) S1 W6)) := Lib.hid (by obtain ⟨vr, vq, vo, hv⟩ := HX6.out; exact Mu.feed_any _ [66, 81, 1, 120, 69, 69, 69] W6 hv HOK.out (by decide) (fun w' hw => Mu.bytes_stay HLO.out HS6.out w' hw) (by decide))) | rw [hW6] | ((with_reducible refine HF7.out.mono ?_); rintro e w7 ⟨rfl, h7⟩; have HL7 := Lib.hid (Mc.Left.ahead HB6.out h7); clear h7) | (refine (Mu.left_then HL7.out (fun S vr vq vo hv _ => Mu.next_any _ hv (by have h1 := HF.out.2.2.2.2.1; have h2 := HF.out.2.2.2.2.2.1; have := HK2.out; omega))).mono ?_; rintro e w8 ⟨rfl, h8⟩; have HL8 := Lib.hid h8; clear h8) | ((with_reducible refine (Mu.left_replies HL8.out).mono ?_); rintro e w9 ⟨v9, rfl, h9⟩; have HL9 := Lib.hid h9; clear h9) | ((with_reducible refine (Mu.left_then HL9.out (fun S vr vq vo hv _ => Mu.hang_left _ hv)).mono ?_); rintro e w10 ⟨rfl, h10⟩; have HT10 := Lib.hid (HC5.out _ h10.2); clear h10))
        have HTd := Lib.hid HT10.out.drew
        obtain ⟨z3, hz3⟩ : ∃ q, Mv.stX (s).st = q := ⟨_, rfl⟩
        have cz : _ := HTd.out.state
        rw [hz3] at cz
        obtain ⟨bo, hbo⟩ : ∃ q, decide ((s).st ≠ 0) = q := ⟨_, rfl⟩
        have hzb : (z3 != 7) = bo := by
          rw [← hz3, ← hbo]
          have hok7 := HOK2.out.2.1
          unfold Mv.stX
          by_cases h0 : (s).st = 0
          · rw [if_pos h0, h0]; rfl
          · rw [if_neg h0]
            have : (s).st - 1 ≠ 7 := by omega
            simp [this, h0]
        have HBO := Lib.hid hbo
        have HCZ := Lib.hid cz
        have hbb : (bo != bo) = false := by cases bo <;> rfl
        clear hz3 hbo cz
        refine Wl.start 999 (fun _ => True) (fun u => u.cell? ⟨gx, 3, none⟩ = some (.int .i64 z3)) (by kernel_rfl) trivial HCZ.out (fun hk => ?_)
        refine Wl.take0 (i := 0) (v := .bool true) rfl (by kernel_rfl) (by kernel_rfl) (by kernel_rfl) (by kernel_rfl) (fun _ _ _ h => h) (.inl ⟨by kernel_rfl, ?_⟩) hk ?_
        · intro wx hSw
          clear hSw hk
          go_simp
          try first | with_reducible rfl | kernel_rfl
        simp only [Act.put, List.getElem_toArray, List.getElem_cons_succ, List.getElem_cons_zero, List.setIfInBounds_toArray, List.set_cons_succ, List.set_cons_zero]
        refine Wl.take0 (i := 1) (v := .bool false) rfl (by kernel_rfl) (by kernel_rfl) (by kernel_rfl) (by kernel_rfl) (fun _ _ _ h => h) (.inl ⟨by kernel_rfl, ?_⟩) hk ?_
        · intro wx hSw
          clear hSw hk
          go_simp
          try first | with_reducible rfl | kernel_rfl
        simp only [Act.put, List.getElem_toArray, List.getElem_cons_succ, List.getElem_cons_zero, List.setIfInBounds_toArray, List.set_cons_succ, List.set_cons_zero]
        refine Wl.take0 (i := 2) (v := .bool false) rfl (by kernel_rfl) (by kernel_rfl) (by kernel_rfl) (by kernel_rfl) (fun _ _ _ h => h) (.inl ⟨by kernel_rfl, ?_⟩) hk ?_
        · intro wx hSw
          clear hSw hk
          go_simp
          try first | with_reducible rfl | kernel_rfl
        simp only [Act.put, List.getElem_toArray, List.getElem_cons_succ, List.getElem_cons_zero, List.setIfInBounds_toArray, List.set_cons_succ, List.set_cons_zero]
        refine Wl.take0 (i := 3) (v := .pointer (some ⟨pc, 0, none⟩)) rfl (by kernel_rfl) (by kernel_rfl) (by kernel_rfl) (by kernel_rfl) (fun _ _ _ h => h) (.inl ⟨by kernel_rfl, ?_⟩) hk ?_
        · intro wx hSw
          clear hSw hk
          go_simp
          try first | with_reducible rfl | kernel_rfl
        simp only [Act.put, List.getElem_toArray, List.getElem_cons_succ, List.getElem_cons_zero, List.setIfInBounds_toArray, List.set_cons_succ, List.set_cons_zero]
        refine Wl.take0 (i := 5) (v := .pointer (some ⟨gx, 0, none⟩)) rfl (by kernel_rfl) (by kernel_rfl) (by kernel_rfl) (by kernel_rfl) (fun _ _ _ h => h) (.inl ⟨by kernel_rfl, ?_⟩) hk ?_
        · intro wx hSw
          clear hSw hk
          go_simp
          try first | with_reducible rfl | kernel_rfl
        simp only [Act.put, List.getElem_toArray, List.getElem_cons_succ, List.getElem_cons_zero, List.setIfInBounds_toArray, List.set_cons_succ, List.set_cons_zero]
        refine Wl.take0 (i := 6) (v := .pointer (some ⟨gx, 0, none⟩)) rfl (by kernel_rfl) (by kernel_rfl) (by kernel_rfl) (by kernel_rfl) (fun _ _ _ h => h) (.inl ⟨by kernel_rfl, ?_⟩) hk ?_
        · intro wx hSw
          clear hSw hk
          go_simp
          try first | with_reducible rfl | kernel_rfl
        simp only [Act.put, List.getElem_toArray, List.getElem_cons_succ, List.getElem_cons_zero, List.setIfInBounds_toArray, List.set_cons_succ, List.set_cons_zero]
        refine Wl.take0 (i := 7) (v := .pointer (some ⟨gx, 3, none⟩)) rfl (by kernel_rfl) (by kernel_rfl) (by kernel_rfl) (by kernel_rfl) (fun _ _ _ h => h) (.inl ⟨by kernel_rfl, ?_⟩) hk ?_
        · intro wx hSw
          clear hSw hk
          go_simp
          try first | with_reducible rfl | kernel_rfl
        simp only [Act.put, List.getElem_toArray, List.getElem_cons_succ, List.getElem_cons_zero, List.setIfInBounds_toArray, List.set_cons_succ, List.set_cons_zero]
        refine Wl.take0 (i := 8) (v := .int .i64 z3) rfl (by kernel_rfl) (by kernel_rfl) (by kernel_rfl) (by kernel_rfl) (fun _ _ _ h => h) (.inl ⟨by kernel_rfl, ?_⟩) hk ?_
        · intro wx hSw
          have cc := hSw
          clear hSw hk
          go_simp
          try first | with_reducible rfl | kernel_rfl
        simp only [Act.put, List.getElem_toArray, List.getElem_cons_succ, List.getElem_cons_zero, List.setIfInBounds_toArray, List.set_cons_succ, List.set_cons_zero]
        refine Wl.take0 (i := 9) (v := .bool bo) rfl (by kernel_rfl) (by kernel_rfl) (by kernel_rfl) (by kernel_rfl) (fun _ _ _ h => h) (.inl ⟨by kernel_rfl, ?_⟩) hk ?_
        · intro wx hSw
          have hq := hzb
          clear hSw hk
          go_simp
          try first | with_reducible rfl | kernel_rfl
        simp only [Act.put, List.getElem_toArray, List.getElem_cons_succ, List.getElem_cons_zero, List.setIfInBounds_toArray, List.set_cons_succ, List.set_cons_zero]
        refine Wl.one (i := 4) (by kernel_rfl) rfl (fun K hK => ?_)
        go_simp
        refine (HTd.out.open_).mono ?_
        rintro e w9 ⟨rfl, rfl⟩
        rw [HBO.out]
        refine hK.out _ _ (Wl.Kn.on trivial HCZ.out) (fun hk => ?_)
        clear hK K
        refine Wl.take0 (i := 10) (v := .bool false) rfl (by kernel_rfl) (by kernel_rfl) (by kernel_rfl) (by kernel_rfl) (fun _ _ _ h => h) (.inl ⟨by kernel_rfl, ?_⟩) hk ?_
        · intro wx hSw
          have hq := hbb
          clear hSw hk
          go_simp
          try first | with_reducible rfl | kernel_rfl
        simp only [Act.put, List.getElem_toArray, List.getElem_cons_succ, List.getElem_cons_zero, List.setIfInBounds_toArray, List.set_cons_succ, List.set_cons_zero]
        refine Wl.take0 (i := 11) (v := .bool false) rfl (by kernel_rfl) (by kernel_rfl) (by kernel_rfl) (by kernel_rfl) (fun _ _ _ h => h) (.inl ⟨by kernel_rfl, ?_⟩) hk ?_
        · intro wx hSw
          clear hSw hk
          go_simp
          try first | with_reducible rfl | kernel_rfl
        simp only [Act.put, List.getElem_toArray, List.getElem_cons_succ, List.getElem_cons_zero, List.setIfInBounds_toArray, List.set_cons_succ, List.set_cons_zero]
        refine Wl.done (by kernel_rfl) ?_ _
        clear hk
        go_wp2_with fail
        go_roundw
        case rel => exact ⟨k + 1, pc, s, by omega, by go_num, rfl, Lib.hid ⟨HTd.out.mono (fun _ h => h.elim), HOK2.out⟩⟩
        case measure => simp [intOf]; omega
      have hn8 : (x.kind == 8) = false := beq_eq_false_iff_ne.2 hk8
      have HOK2 : Hid (Mu.okS 2004 (2004 * (k + 1)) s) := Lib.hid (HOK.out.mono (Nat.le_refl _) (by have := HK2.out.2; omega))
      go_wp2_with (first | rw [hW0])
      have HTd := Lib.hid HT0.out.drew
      obtain ⟨z3, hz3⟩ : ∃ q, Mv.stX (s).st = q := ⟨_, rfl⟩
      have cz : _ := HTd.out.state
      rw [hz3] at cz
      obtain ⟨bo, hbo⟩ : ∃ q, decide ((s).st ≠ 0) = q := ⟨_, rfl⟩
      have hzb : (z3 != 7) = bo := by
        rw [← hz3, ← hbo]
        have hok7 := HOK2.out.2.1
        unfold Mv.stX
        by_cases h0 : (s).st = 0
        · rw [if_pos h0, h0]; rfl
        · rw [if_neg h0]
          have : (s).st - 1 ≠ 7 := by omega
          simp [this, h0]
      have HBO := Lib.hid hbo
      have HCZ := Lib.hid cz
      have hbb : (bo != bo) = false := by cases bo <;> rfl
      clear hz3 hbo cz
      refine Wl.start 999 (fun _ => True) (fun u => u.cell? ⟨gx, 3, none⟩ = some (.int .i64 z3)) (by kernel_rfl) trivial HCZ.out (fun hk => ?_)
      refine Wl.take0 (i := 0) (v := .bool true) rfl (by kernel_rfl) (by kernel_rfl) (by kernel_rfl) (by kernel_rfl) (fun _ _ _ h => h) (.inl ⟨by kernel_rfl, ?_⟩) hk ?_
      · intro wx hSw
        clear hSw hk
        go_simp
        try first | with_reducible rfl | kernel_rfl
      simp only [Act.put, List.getElem_toArray, List.getElem_cons_succ, List.getElem_cons_zero, List.setIfInBounds_toArray, List.set_cons_succ, List.set_cons_zero]
      refine Wl.take0 (i := 1) (v := .bool false) rfl (by kernel_rfl) (by kernel_rfl) (by kernel_rfl) (by kernel_rfl) (fun _ _ _ h => h) (.inl ⟨by kernel_rfl, ?_⟩) hk ?_
      · intro wx hSw
        clear hSw hk
        go_simp
        try first | with_reducible rfl | kernel_rfl
      simp only [Act.put, List.getElem_toArray, List.getElem_cons_succ, List.getElem_cons_zero, List.setIfInBounds_toArray, List.set_cons_succ, List.set_cons_zero]
      refine Wl.take0 (i := 2) (v := .bool false) rfl (by kernel_rfl) (by kernel_rfl) (by kernel_rfl) (by kernel_rfl) (fun _ _ _ h => h) (.inl ⟨by kernel_rfl, ?_⟩) hk ?_
      · intro wx hSw
        clear hSw hk
        go_simp
        try first | with_reducible rfl | kernel_rfl
      simp only [Act.put, List.getElem_toArray, List.getElem_cons_succ, List.getElem_cons_zero, List.setIfInBounds_toArray, List.set_cons_succ, List.set_cons_zero]
      refine Wl.take0 (i := 3) (v := .pointer (some ⟨p, 0, none⟩)) rfl (by kernel_rfl) (by kernel_rfl) (by kernel_rfl) (by kernel_rfl) (fun _ _ _ h => h) (.inl ⟨by kernel_rfl, ?_⟩) hk ?_
      · intro wx hSw
        clear hSw hk
        go_simp
        try first | with_reducible rfl | kernel_rfl
      simp only [Act.put, List.getElem_toArray, List.getElem_cons_succ, List.getElem_cons_zero, List.setIfInBounds_toArray, List.set_cons_succ, List.set_cons_zero]
      refine Wl.take0 (i := 5) (v := .pointer (some ⟨gx, 0, none⟩)) rfl (by kernel_rfl) (by kernel_rfl) (by kernel_rfl) (by kernel_rfl) (fun _ _ _ h => h) (.inl ⟨by kernel_rfl, ?_⟩) hk ?_
      · intro wx hSw
        clear hSw hk
        go_simp
        try first | with_reducible rfl | kernel_rfl
      simp only [Act.put, List.getElem_toArray, List.getElem_cons_succ, List.getElem_cons_zero, List.setIfInBounds_toArray, List.set_cons_succ, List.set_cons_zero]
      refine Wl.take0 (i := 6) (v := .pointer (some ⟨gx, 0, none⟩)) rfl (by kernel_rfl) (by kernel_rfl) (by kernel_rfl) (by kernel_rfl) (fun _ _ _ h => h) (.inl ⟨by kernel_rfl, ?_⟩) hk ?_
      · intro wx hSw
        clear hSw hk
        go_simp
        try first | with_reducible rfl | kernel_rfl
      simp only [Act.put, List.getElem_toArray, List.getElem_cons_succ, List.getElem_cons_zero, List.setIfInBounds_toArray, List.set_cons_succ, List.set_cons_zero]
      refine Wl.take0 (i := 7) (v := .pointer (some ⟨gx, 3, none⟩)) rfl (by kernel_rfl) (by kernel_rfl) (by kernel_rfl) (by kernel_rfl) (fun _ _ _ h => h) (.inl ⟨by kernel_rfl, ?_⟩) hk ?_
      · intro wx hSw
        clear hSw hk
        go_simp
        try first | with_reducible rfl | kernel_rfl
      simp only [Act.put, List.getElem_toArray, List.getElem_cons_succ, List.getElem_cons_zero, List.setIfInBounds_toArray, List.set_cons_succ, List.set_cons_zero]
      refine Wl.take0 (i := 8) (v := .int .i64 z3) rfl (by kernel_rfl) (by kernel_rfl) (by kernel_rfl) (by kernel_rfl) (fun _ _ _ h => h) (.inl ⟨by kernel_rfl, ?_⟩) hk ?_
      · intro wx hSw
        have cc := hSw
        clear hSw hk
        go_simp
        try first | with_reducible rfl | kernel_rfl
      simp only [Act.put, List.getElem_toArray, List.getElem_cons_succ, List.getElem_cons_zero, List.setIfInBounds_toArray, List.set_cons_succ, List.set_cons_zero]
      refine Wl.take0 (i := 9) (v := .bool bo) rfl (by kernel_rfl) (by kernel_rfl) (by kernel_rfl) (by kernel_rfl) (fun _ _ _ h => h) (.inl ⟨by kernel_rfl, ?_⟩) hk ?_
      · intro wx hSw
        have hq := hzb
        clear hSw hk
        go_simp
        try first | with_reducible rfl | kernel_rfl
      simp only [Act.put, List.getElem_toArray, List.getElem_cons_succ, List.getElem_cons_zero, List.setIfInBounds_toArray, List.set_cons_succ, List.set_cons_zero]
      refine Wl.one (i := 4) (by kernel_rfl) rfl (fun K hK => ?_)
      go_simp
      refine (HTd.out.open_).mono ?_
      rintro e w9 ⟨rfl, rfl⟩
      rw [HBO.out]
      refine hK.out _ _ (Wl.Kn.on trivial HCZ.out) (fun hk => ?_)
      clear hK K
      refine Wl.take0 (i := 10) (v := .bool false) rfl (by kernel_rfl) (by kernel_rfl) (by kernel_rfl) (by kernel_rfl) (fun _ _ _ h => h) (.inl ⟨by kernel_rfl, ?_⟩) hk ?_
      · intro wx hSw
        have hq := hbb
        clear hSw hk
        go_simp
        try first | with_reducible rfl | kernel_rfl
      simp only [Act.put, List.getElem_toArray, List.getElem_cons_succ, List.getElem_cons_zero, List.setIfInBounds_toArray, List.set_cons_succ, List.set_cons_zero]
      refine Wl.take0 (i := 11) (v := .bool false) rfl (by kernel_rfl) (by kernel_rfl) (by kernel_rfl) (by kernel_rfl) (fun _ _ _ h => h) (.inl ⟨by kernel_rfl, ?_⟩) hk ?_
      · intro wx hSw
        clear hSw hk
        go_simp
        try first | with_reducible rfl | kernel_rfl
      simp only [Act.put, List.getElem_toArray, List.getElem_cons_succ, List.getElem_cons_zero, List.setIfInBounds_toArray, List.set_cons_succ, List.set_cons_zero]
      refine Wl.done (by kernel_rfl) ?_ _
      clear hk
      go_wp2_with fail
      go_roundw
      case rel => exact ⟨k + 1, p, s, by omega, by go_num, rfl, Lib.hid ⟨HTd.out.mono (fun _ h => h.elim), HOK2.out⟩⟩
      case measure => simp [intOf]; omega
    · obtain rfl : k = x0.length := by omega
      have HT0 := Lib.hid HR.out.1
      have HP1 := Lib.hid HT0.out.replies
      go_wp2_with (first | ((with_reducible refine HP1.out.mono ?_); rintro e w5 ⟨v5, rfl, o5, h5⟩; have HT5 := Lib.hid h5; have HO5 := Lib.hid o5; clear h5 o5) | ((with_reducible refine HT5.out.xreplies.mono ?_); rintro e w6 ⟨v6, rfl, o6, h6, k6⟩; have HT6 := Lib.hid h6; have HO6 : Hid (OwnR 3 repC Mu.TR w6 0 v5 s.out) := Lib.hid (own_keep HO5.out (fun q hq _ => k6 q hq)); have HX6 := Lib.hid (o6.sl repC_len); clear h6 o6 k6) | ((with_reducible refine (Mu.rsame_any _ _ _ _ (HO6.out.sl repC_len) HX6.out).mono ?_); rintro e w7 ⟨rfl, hb7⟩; have HT7 := Lib.hid (HT6.out.below hb7); clear hb7))
      go_ret
      have hb : Below B w1 w7 := by obtain ⟨S1, S2, -, -, -, -, -, -, h7, -⟩ := HT7.out; exact h7
      exact ⟨rfl, HB1.out.trans (hb.mono (by rw [← HBZ.out]; exact HB1.out.size))⟩

set_option maxRecDepth 100000 in
theorem contract (H : Type) (enc : TypeId × Value → H) (W : World) (base : Nat) (args : Array Value) (ds gs : List (DataW H)) (before : List MemPlace)
    (hval0 : ∀ (j : Nat) t v, Try.f3.params[j]? = some t → args[j]? = some v → Value.okWide Try.prog W .any base t v)
    (hW : DataW.Whole enc Try.prog Try.f3.params.toList Rows.muxGoesSpec.vars false W args.toList ds gs before)
    (hsz0 : (DataW.weightsEach Try.prog (Try.f3.params.toList ++ Rows.muxGoesSpec.plain.varTypes Try.prog) (ds ++ gs)).all (· ≤ reachBytes) = true) :
    Calls Try.prog 3 args W fun e W' => ∃ v, e = .returned v ∧ Rows.muxGoesSpec.post enc Try.prog Try.f3 false true false false W args v W' := by
  have hval : ∀ (j : Nat) t v, Try.f3.params[j]? = some t → args[j]? = some v → Value.okWide Try.prog W .any base t v := hval0
  have hW' := hW
  obtain ⟨p, q, hA0, hV, rfl, hfz, hnd⟩ := hW
  have hA : DataW.TrodAll enc Try.prog W 0 (fun _ => true) true Try.f3.params.toList args.toList ds p := hA0
  rw [Try.params3] at hA hval
  have hsz := hsz0
  rw [Try.params3] at hsz
  obtain ⟨v0, vs0, d0, ds0, p0, q0, hargs, rfl, rfl, h0, r0⟩ := trodAll_cons hA
  obtain ⟨rfl, rfl, rfl⟩ := trodAll_nil r0
  obtain rfl : args = #[v0] := by cases args; simp_all
  obtain ⟨rfl, rfl⟩ := trodVars_none hV
  clear hA0 hval0
  have k0 := h0
  have lt0 : ∀ x ∈ p0, x.block < W.heap.size := by obtain ⟨m, hm⟩ := k0; exact DataW.trod_lt m _ _ _ hm
  obtain ⟨x0, w0, -, s0⟩ := open_mops (hval 0 22 v0 rfl rfl) k0
  have b0 : IsMOps.fits x0 := s0 (wt_arg hsz (j := 0) rfl rfl)
  refine (walk v0 x0 W w0 b0).mono fun e W' ⟨he, bel⟩ => ?_
  subst he
  exact ⟨_, rfl, _, _, _, [], _, [], hW', trodAll_mk1 (shut_bool Try.underlying4 _), (trodAll_cons_mk (Below.trod laidOut (by kernel_rfl) (of_decide_eq_true (by kernel_rfl)) k0 bel lt0) trodAll_mk0), rfl, bel.frame _, fun h => by cases h⟩

set_option maxRecDepth 100000 in
theorem lifted (os : Os) (started : os.Started) (H : Type) (enc : TypeId × Value → H) :
    ReturnsInHanded {} Try.checked os 3 .any (Rows.muxGoesSpec.pre6 enc Try.prog Try.f3 Rows.muxGoesRow.domain false) (Rows.muxGoesSpec.post enc Try.prog Try.f3 false true false false) := by
  refine returnsInHanded_of_change_sized (C := Try.checked) own started (by kernel_rfl) Try.func3
    (ChangeSpec.witness6 (enc := enc) (C := Try.checked) false ⟨#[], #[.slice none 0 0], []⟩ 8 (by kernel_rfl) (by kernel_rfl) (by kernel_rfl) (by kernel_rfl)) ?_
  intro W base args ds gs before hval0 hW hcnd hsz _
  exact contract H enc W base args ds gs before hval0 hW hsz

theorem proved : Rows.MuxGoesSaid :=
  OpenClaim.holds_of_wide 3 Try.f3 rfl rfl rfl rfl rfl rfl rfl ⟨rfl, rfl, rfl, rfl, rfl⟩ rfl rfl rfl rfl rfl (by kernel_rfl) Try.func3 (by kernel_rfl)
    (of_decide_eq_true (by kernel_rfl)) (by unfold Func.isWrapper; first | (rw [if_pos (by decide +kernel)]; kernel_rfl) | (rw [if_neg (by decide +kernel)]; exact ⟨rfl, rfl⟩))
    (fun os started H enc _ => lifted os started H enc)
end Go.Proofs.Ytdakkjpejhlciaa.muxGoes
