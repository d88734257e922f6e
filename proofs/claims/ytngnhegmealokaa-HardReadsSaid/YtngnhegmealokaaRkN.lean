/- The document's Decode of a record. No condition. -/
import Derived.Test.YtngnhegmealokaaRkV
import Derived.Test.YtngnhegmealokaaRkZ
import Derived.Test.YtngnhegmealokaaMyE
import Derived.Deep.QuietTactic
import Derived.BigQuiet
namespace Go.Proofs.Ytngnhegmealokaa
open Go.ChangeShapes Go.WideShapes Go.ChangeAt Go.RowKit Go.Deep
set_option linter.unusedVariables false
set_option maxRecDepth 100000
namespace Rk
open Cm Sc Nm Rc Hd Nv Sh
theorem sbs_tail (s : ByteArray) (h : 0 < s.size) : sbs s = ((s[0]'h).toNat : Int) :: sbs (s.extract 1 s.size) := by
  have hl : 0 < s.data.toList.length := by rw [Array.length_toList]; exact h
  have e : (s.extract 1 s.size).data.toList = s.data.toList.drop 1 := by
    rw [ByteArray.data_extract, Array.toList_extract, List.extract_eq_take_drop]
    exact List.take_of_length_le (by rw [List.length_drop, Array.length_toList]; exact Nat.le_refl _)
  have hx := List.drop_eq_getElem_cons (i := 0) hl
  rw [List.drop_zero] at hx
  unfold sbs
  rw [e]
  conv => lhs; rw [hx]
  rw [List.map_cons]
  rfl
def NoB (cs : Array Value) : Prop := ∀ (j : Nat) (n : Int), cs[j]? ≠ some (.int .u8 n)
theorem sl_keep {w w' : World} {v : Value} {zs : List Int} {p : Nat} {cs : Array Value} {T : TypeId} {fr : Nat × Nat} (h : Sl .u8 w v zs) (hr : w.heap[p]? = some (.cells cs T fr)) (hn : NoB cs) (hx : Only (· = p) w w') : Sl .u8 w' v zs := by
  obtain ⟨a, cap, e, h1, h2, h3, h4⟩ := h
  refine ⟨a, cap, e, h1, h2, h3, ?_⟩
  rcases h4 with h4 | ⟨b, off, sp, ha, h5⟩
  · exact .inl h4
  refine .inr ⟨b, off, sp, ha, ?_⟩
  rcases h5 with h5 | ⟨hsp, hb, hc⟩
  · exact .inl h5
  by_cases hz : zs = []
  · exact .inl hz
  have hp : 0 < zs.length := List.length_pos_iff.2 hz
  have hne : b ≠ p := by
    rintro rfl
    have h0 := hc 0 hp
    rw [cell_of_row _ _ _ _ _ _ hr] at h0
    exact hn _ _ h0
  exact .inr ⟨hsp, Nat.lt_of_lt_of_le hb hx.2.2.2.1, fun i hi => (World.cell?_of_block (a := ⟨b, off + i, none⟩) (hx.2.2.2.2 b hb hne)).trans (hc i hi)⟩
theorem noB_rec (r : RecR) (a b c d : Option Addr) (i j k m p q x y : Nat) : NoB (rArr r (.slice a i j) (.slice b k m) (.slice c p q) (.slice d x y)) := fun j n h => by
  have := Array.mem_of_getElem? h
  simp at this
theorem noB_rd (a : Option Addr) (n c u : Nat) (e : Int) : NoB (rA (.slice a n c) u e) := fun j n h => by
  have := Array.mem_of_getElem? h
  simp at this
theorem rdR_row {w0 w : World} {g : Nat} {zs : List Int} {st : Pst} (h : RdR w0 g zs st w) : ∃ cs, w.heap[g]? = some (.cells cs 57 (0, 0)) ∧ NoB cs := by
  obtain ⟨v, u, h1, h2, -⟩ := h
  obtain ⟨a, c, rfl, -⟩ := h2
  exact ⟨_, h1, noB_rd _ _ _ _ _⟩
theorem rdR_re {w0 w w' : World} {g : Nat} {zs : List Int} {st : Pst} (h : RdR w0 g zs st w') (hS : ∀ v, Sl .u8 w0 v zs → Sl .u8 w' v zs) : RdR w' g zs st w' := by
  obtain ⟨v, u, h1, h2, h3⟩ := h
  exact ⟨v, u, h1, hS v h2, h3⟩
/-- what is known while the document reads a record: the box q holds it, the box g the reader -/
def RecD (w : World) (q g : Nat) (rest : List Int) (st : Pst) (r : RecR) (vc vn vh vl : Value) (wr : World) : Prop :=
  wr.heap[w.heap.size]? = some (.cells zR 35 (0, 0)) ∧ wr.heap[q]? = some (.cells (rArr r vc vn vh vl) 35 (0, 0)) ∧ RdR wr g rest st wr ∧ Below w.heap.size w wr ∧ (w.heap.size < q ∧ q < g) ∧ NoB (rArr r vc vn vh vl)
theorem RecD.call {w wr w' : World} {q g : Nat} {rest : List Int} {st st' : Pst} {r : RecR} {vc vn vh vl : Value} (h : RecD w q g rest st r vc vn vh vl wr) (hr : RdR wr g rest st' w') (ho : Only (· = g) wr w') : RecD w q g rest st' r vc vn vh vl w' := by
  obtain ⟨h1, h2, h3, h4, h5, h6⟩ := h
  obtain ⟨cs, hc1, hc2⟩ := rdR_row h3
  exact ⟨(ho.2.2.2.2 _ (row_lt h1) (by omega)).trans h1, (ho.2.2.2.2 _ (row_lt h2) (by omega)).trans h2, rdR_re (w := wr) hr (fun v hv => sl_keep hv hc1 hc2 ho), ho.below h4 h4.size (fun k hk => by omega), h5, h6⟩
theorem RecD.put {w wr w' : World} {q g : Nat} {rest : List Int} {st : Pst} {r r' : RecR} {vc vn vh vl vc' vn' vh' vl' : Value} (h : RecD w q g rest st r vc vn vh vl wr) (hx : Only (· = q) wr w') (hrow : w'.heap[q]? = some (.cells (rArr r' vc' vn' vh' vl') 35 (0, 0))) (hn : NoB (rArr r' vc' vn' vh' vl')) : RecD w q g rest st r' vc' vn' vh' vl' w' := by
  obtain ⟨h1, h2, h3, h4, h5, h6⟩ := h
  obtain ⟨v, u, k1, k2, k3⟩ := h3
  exact ⟨(hx.2.2.2.2 _ (row_lt h1) (by omega)).trans h1, hrow, ⟨v, u, (hx.2.2.2.2 _ (row_lt k1) (by omega)).trans k1, sl_keep k2 h2 h6 hx, k3⟩, hx.below h4 h4.size (fun k hk => by omega), h5, hn⟩
theorem RecD.keep {w wr : World} {q g : Nat} {rest : List Int} {st : Pst} {r : RecR} {vc vn vh vl : Value} (h : RecD w q g rest st r vc vn vh vl wr) : ∀ v, Sl .u8 wr v rest → ∀ w', Only (· = g) wr w' → Sl .u8 w' v rest := fun v hv w' ho => by
  obtain ⟨cs, hc1, hc2⟩ := rdR_row h.2.2.1
  exact sl_keep hv hc1 hc2 ho
theorem wideD {w : World} {g : Nat} {zs : List Int} {st s1 : Pst} {n : Int} (h : wideS st = (n, s1)) (hr : RdR w g zs st w) : Calls Try.prog 22 #[.pointer (some ⟨g, 0, none⟩)] w (NumR w g zs (n, s1) (.int .u64 n) w) := by
  have c := rw_any w g zs st w hr (Below.refl _ _)
  rw [h] at c
  exact c
theorem smallD {w : World} {g : Nat} {zs : List Int} {st s1 : Pst} {n : Int} (h : smallS st = (n, s1)) (hr : RdR w g zs st w) : Calls Try.prog 23 #[.pointer (some ⟨g, 0, none⟩), .int .i64 65535] w (NumR w g zs (n, s1) (.int .i64 n) w) := by
  have c := rs_any w g zs 65535 st w hr (Below.refl _ _) (by decide) (by decide)
  rw [show pnum 65535 st = (n, s1) from h] at c
  exact c
theorem cmdD {w : World} {g : Nat} {zs : List Int} {st s1 : Pst} {c : Cmd} (h : cmdS st = (c, s1)) (hr : RdR w g zs st w) (hS : ∀ v, Sl .u8 w v zs → ∀ w', Only (· = g) w w' → Sl .u8 w' v zs) : Calls Try.prog 24 #[.pointer (some ⟨g, 0, none⟩)] w fun e w' => ∃ (c' : Cmd) (a : Option Addr) (q r : Nat), e = .returned (.agg (cArr c' (.slice a q r))) ∧ RdR w g zs s1 w' ∧ (s1.2 = 0 → c' = c ∧ OwnI w' w.heap.size (.slice a q r) c'.nodes ∧ c'.wf ∧ ∀ n ∈ c'.nodes, (Lit.int .i64 n).wf = true) ∧ Only (· = g) w w' := by
  have k := cmd_x w g zs st w hr hS
  unfold CmdX at k
  rw [h] at k
  exact k
theorem cmd_putx {w : World} {g : Nat} {r : RecR} {vc vn vh vl : Value} (c : Cmd) (vx : Value) (h : w.heap[g]? = some (.cells (rArr r vc vn vh vl) 35 (0, 0))) : (w.setCells g 6 (cArr c vx).toList).heap[g]? = some (.cells (rArr { r with ent := ⟨r.ent.term, c⟩ } vx vn vh vl) 35 (0, 0)) := by
  rw [heap_setCells g _ _ h]
  simp [setsA]
theorem fin_1' {zs rest s1l : List Int} {n e : Int} (hz : zs = 1 :: rest) (hl : ¬ 8000 < zs.length) (h : wideS (rest, 0) = (n, (s1l, e))) : Fin zs { zRecV with kind := 1, boot := n } (s1l, e) := by
  subst hz
  have := fin_1 hl
  rw [h] at this
  exact this
theorem fin_2' {zs rest : List Int} {s1 : Pst} {s2l : List Int} {n m e : Int} (hz : zs = 2 :: rest) (hl : ¬ 8000 < zs.length) (h : wideS (rest, 0) = (n, s1)) (h2 : smallS s1 = (m, (s2l, e))) : Fin zs { zRecV with kind := 2, term := n, vote := m } (s2l, e) := by
  subst hz
  have := fin_2 hl
  rw [h] at this
  simp only [] at this
  rw [h2] at this
  exact this
theorem fin_4' {zs rest s1l : List Int} {n e : Int} (hz : zs = 4 :: rest) (hl : ¬ 8000 < zs.length) (h : wideS (rest, 0) = (n, (s1l, e))) : Fin zs { zRecV with kind := 4, index := n } (s1l, e) := by
  subst hz
  have := fin_4 hl
  rw [h] at this
  exact this
theorem fin_3' {zs rest : List Int} {s1 s2 : Pst} {s3l : List Int} {n m e : Int} {c : Cmd} (hz : zs = 3 :: rest) (hl : ¬ 8000 < zs.length) (hw : WfB rest) (h : wideS (rest, 0) = (n, s1)) (h2 : wideS s1 = (m, s2)) (h3 : cmdS s2 = (c, (s3l, e))) : Fin zs { zRecV with kind := 3, index := n, ent := ⟨m, c⟩ } (s3l, e) := by
  subst hz
  have := fin_3 hl hw
  rw [h] at this
  simp only [] at this
  rw [h2] at this
  simp only [] at this
  rw [h3] at this
  exact this
theorem fin_5' {zs rest : List Int} {s : Sho} {l : List Int} {e : Int} (hz : zs = 5 :: rest) (hl : ¬ 8000 < zs.length) (h : shotR (rest, 0) = (s, (l, e))) : Fin zs { zRecV with kind := 5, shot := s } (l, e) := by
  subst hz
  have := fin_5 hl
  rw [h] at this
  exact this
theorem shotR_w {zs l : List Int} {s : Sho} (h : shotR (zs, 0) = (s, (l, 0))) : ShoW s := by
  obtain ⟨e1, e2⟩ := shotR_eq (zs, 0)
  rw [h] at e1 e2
  dsimp only at e1 e2
  rw [e2 (by rw [← e1]; rfl)]
  exact shotS_w _
theorem emp_no {s : ByteArray} (h : 0 < s.size) : s.toList.isEmpty = false := by
  cases hq : s.toList with
  | nil =>
    exfalso
    have := congrArg List.length hq
    rw [ByteArray.toList_eq, Array.length_toList] at this
    have h2 : s.size = 0 := this
    omega
  | cons a l => rfl
theorem emp_yes {s : ByteArray} (h : s.size = 0) : s.toList.isEmpty = true := by
  have : s.toList.length = 0 := by rw [ByteArray.toList_eq, Array.length_toList]; exact h
  rw [List.eq_nil_of_length_eq_zero this]
  rfl
set_option maxHeartbeats 12000000 in
theorem rdec_any (s : ByteArray) (w : World) : Calls Try.prog 11 #[.string s] w (DecRE (sbs s) w) := by
  have hlen0 : (sbs s).length = s.size := sbs_length s
  have hwfs := sbs_wf s
  obtain ⟨zs, hzs⟩ : ∃ zs, sbs s = zs := ⟨_, rfl⟩
  rw [hzs] at hlen0 hwfs
  obtain ⟨W0, hW0⟩ : ∃ q, w.alloc (.cells zR 35) = q := ⟨_, rfl⟩
  have hb0 : Below w.heap.size w W0 := by rw [← hW0]; exact (Below.refl _ _).alloc (Nat.le_refl _) _
  have HQ0 : Hid (W0.heap[w.heap.size]? = some (.cells zR 35 (0, 0))) := Lib.hid (by rw [← hW0]; exact heap_alloc_new _ _)
  have HZ0 : Hid (W0.heap.size = w.heap.size + 1) := Lib.hid (by rw [← hW0]; simp)
  have HB0 := Lib.hid hb0
  rw [hzs]
  by_cases hl : 8000 < zs.length
  · have HDV := Lib.hid (decR_long hl)
    have hl2 : (8000 : Int) < (s.size : Int) := by omega
    obtain ⟨WZ, hWZ⟩ : ∃ q, W0.setRow w.heap.size zR = q := ⟨_, rfl⟩
    have HQZ : Hid (WZ.heap[w.heap.size]? = some (.cells zR 35 (0, 0))) := Lib.hid (by rw [← hWZ]; exact setRow_heap _ _ _ _ _ _ HQ0.out)
    have HFIN := Lib.hid (decR_nil (w := w) (W := WZ) HDV.out (by rw [← hWZ]; exact Ld.below_row HB0.out (Nat.le_refl _) _))
    clear hb0 hl hlen0 hzs hwfs
    go_enter Try.func11, Try.ntmps11
    go_wp2_with (first | (with_reducible refine wpList_store_row rfl 35 (.tmp 2) (.tmp 9) rfl w.heap.size zR rfl rfl 35 _ HQ0.out (by kernel_rfl) rfl zR_one ?_; rw [hWZ]; clear hWZ) | fail)
    refine bodyPost_ret (v := .tuple #[.agg zR, .int .i64 2]) (results_c2 rfl _ _ w.heap.size 35 _ (0, 0) _ rfl HQZ.out Try.underlying35 rfl (by kernel_rfl) rfl) rfl ?_
    exact HFIN.out
  have hl2 : ¬ (8000 : Int) < (s.size : Int) := by omega
  have HNL := Lib.hid hl
  by_cases hn : s.size = 0
  · have h3 : s.toList.isEmpty = true := emp_yes hn
    have hzn : zs = [] := List.eq_nil_of_length_eq_zero (by omega)
    have HDV : Hid (decR zs = (zRecV, 10)) := Lib.hid (by rw [hzn]; exact fin_nil)
    obtain ⟨WZ, hWZ⟩ : ∃ q, W0.setRow w.heap.size zR = q := ⟨_, rfl⟩
    have HQZ : Hid (WZ.heap[w.heap.size]? = some (.cells zR 35 (0, 0))) := Lib.hid (by rw [← hWZ]; exact setRow_heap _ _ _ _ _ _ HQ0.out)
    have HFIN := Lib.hid (decR_nil (w := w) (W := WZ) HDV.out (by rw [← hWZ]; exact Ld.below_row HB0.out (Nat.le_refl _) _))
    clear hb0 hl hlen0 hzs hwfs hn hzn
    go_enter Try.func11, Try.ntmps11
    go_wp2_with (first | (with_reducible refine wpList_store_row rfl 35 (.tmp 2) (.tmp 12) rfl w.heap.size zR rfl rfl 35 _ HQ0.out (by kernel_rfl) rfl zR_one ?_; rw [hWZ]; clear hWZ) | fail)
    refine bodyPost_ret (v := .tuple #[.agg zR, .int .i64 10]) (results_c2 rfl _ _ w.heap.size 35 _ (0, 0) _ rfl HQZ.out Try.underlying35 rfl (by kernel_rfl) rfl) rfl ?_
    exact HFIN.out
  have h2 : 0 < s.size := by omega
  have h3 : s.toList.isEmpty = false := emp_no h2
  obtain ⟨x, hx⟩ : ∃ x, ((s[0]'h2).toNat : Int) = x := ⟨_, rfl⟩
  have hx0 : 0 ≤ x := by omega
  have hx1 : x ≤ 255 := by have := (s[0]'h2).toNat_lt; omega
  have ht := sbs_tail s h2
  rw [hzs, hx] at ht
  have hlr := sbs_length (s.extract 1 s.size)
  obtain ⟨rest, hrest⟩ : ∃ r, sbs (s.extract 1 s.size) = r := ⟨_, rfl⟩
  rw [hrest] at ht hlr
  have HZL : Hid (rest.length + 1 = zs.length) := Lib.hid (by rw [ht]; simp)
  have HWB : Hid (WfB rest) := Lib.hid (fun n hn => hwfs n (by rw [ht]; exact List.mem_cons_of_mem _ hn))
  have hsR : (W0.alloc (.cells zR 35)).heap[W0.heap.size]? = some (.cells zR 35 (0, 0)) := heap_alloc_new _ _
  obtain ⟨W3, hW3⟩ : ∃ y, (W0.alloc (.cells zR 35)).setRow W0.heap.size (rArr ({ zRecV with kind := x } : RecR) (.slice none 0 0) (.slice none 0 0) (.slice none 0 0) (.slice none 0 0)) = y := ⟨_, rfl⟩
  have hb3 : Below W0.heap.size W0 W3 := by rw [← hW3]; exact Ld.below_row ((Below.refl _ _).alloc (Nat.le_refl _) _) (Nat.le_refl _) _
  have hX3 : W3.heap[W0.heap.size]? = some (.cells (rArr ({ zRecV with kind := x } : RecR) (.slice none 0 0) (.slice none 0 0) (.slice none 0 0) (.slice none 0 0)) 35 (0, 0)) := by rw [← hW3]; exact setRow_heap _ _ _ _ _ _ hsR
  have p0 : IntKind.i64.wrap x = x := by (unfold IntKind.wrap; simp [IntKind.signed, IntKind.bits]; omega)
  have h2i : (0 : Int) < (s.size : Int) := by omega
  have h1i : (1 : Int) ≤ (s.size : Int) := by omega
  obtain ⟨cap, wc, hcv, hslc, hbc, hzc⟩ := run_bytes W3 (s.extract 1 s.size) (by unfold maxLen; rw [ByteArray.size_extract]; omega)
  have hsz1 : (s.extract 1 s.size).size = s.size - 1 := by rw [ByteArray.size_extract]; omega
  rw [hrest, hsz1] at hslc
  rw [hsz1] at hcv
  have HSLC := Lib.hid hslc
  have HGC : Hid (w.heap.size < wc.heap.size) := Lib.hid (by have := HZ0.out; have := row_lt hX3; omega)
  obtain ⟨W4, hW4⟩ : ∃ y, wc.alloc (.cells #[.slice (some ⟨W3.heap.size, 0, none⟩) (s.size - 1) cap, .int .i64 0, .int .i64 0] 57) = y := ⟨_, rfl⟩
  have hb4 : Below wc.heap.size wc W4 := by rw [← hW4]; exact (Below.refl _ _).alloc (Nat.le_refl _) _
  have HRB4 : Hid (RB wc.heap.size (.slice (some ⟨W3.heap.size, 0, none⟩) (s.size - 1) cap) 0 0 W4) := Lib.hid (by rw [← hW4]; exact heap_alloc_new _ _)
  have hbw4 : Below W3.heap.size W3 W4 := hbc.trans (hb4.mono hbc.size)
  have hz0 := HZ0.out
  have hq1 := row_lt hX3
  have HI4 : Hid (RecD w W0.heap.size wc.heap.size rest (rest, 0) { zRecV with kind := x } (.slice none 0 0) (.slice none 0 0) (.slice none 0 0) (.slice none 0 0) W4) := Lib.hid ⟨(hbw4.block _ (by omega)).trans ((hb3.block _ (by omega)).trans HQ0.out), (hbw4.block _ hq1).trans hX3, ⟨_, 0, HRB4.out, hslc.below hb4 (Nat.le_refl _), by omega, fun _ => ⟨Nat.zero_le _, rfl⟩⟩, HB0.out.trans ((hb3.trans (hbw4.mono hb3.size)).mono HB0.out.size), ⟨by omega, by omega⟩, noB_rec _ _ _ _ _ _ _ _ _ _ _ _ _⟩
  have HBC4 := Lib.hid hb4
  have HI4b := Lib.hid HI4.out.2.2.1
  obtain ⟨B0, hB0⟩ : ∃ B, B = W4.heap.size := ⟨_, rfl⟩
  have hB4 : Hid (B0 ≤ W4.heap.size) := Lib.hid (by omega)
  have HZ : Hid (zs = x :: rest) := Lib.hid ht
  have k0 := (cell_of_row W4 _ 0 _ _ _ HI4.out.2.1).trans rfl
  clear hb0 hl hlen0 hzs hwfs hn ht hlr hrest hsz1 hb3 hX3 hslc hbc hzc hb4 hbw4 hz0 hq1
  by_cases hx1' : x = 1
  · subst hx1'
    go_enter Try.func11, Try.ntmps11
    rcases hy : wideS (rest, 0) with ⟨n, ⟨l, e⟩⟩
    have HYW := Lib.hid (wideS_wf hy)
    have HF := Lib.hid (fin_1' HZ.out HNL.out hy)
    go_wp2_with (first | (with_reducible refine wpList_store_row rfl 35 (.tmp 4) (.tmp 16) rfl W0.heap.size (rArr ({ zRecV with kind := 1 } : RecR) (.slice none 0 0) (.slice none 0 0) (.slice none 0 0) (.slice none 0 0)) rfl rfl 35 _ hsR (by kernel_rfl) rfl (rArr_one _ _ _ _ _ _ _ _ _ _ _ _ _) ?_; rw [hW3]; clear hW3 hsR) | fail)
    refine (wideD hy HI4.out.2.2.1).mono ?_
    rintro E w5 ⟨rfl, hr5, ho5, -⟩
    have HI5 := Lib.hid (HI4.out.call hr5 ho5)
    have HSZ5 := Lib.hid ho5.2.2.2.1
    have cc5 := (cell_of_row w5 _ 2 _ _ _ HI5.out.2.1).trans rfl
    have ff5 : w5.frozen? ⟨W0.heap.size, 2, none⟩ = false := frozen_of_row _ _ 2 _ _ HI5.out.2.1
    obtain ⟨W5, hW5⟩ : ∃ y, w5.setCell ⟨W0.heap.size, 2, none⟩ (.int .u64 n) = y := ⟨_, rfl⟩
    have HJ5 : Hid (RecD w W0.heap.size wc.heap.size rest (l, e) { zRecV with kind := 1, boot := n } (.slice none 0 0) (.slice none 0 0) (.slice none 0 0) (.slice none 0 0) W5) := Lib.hid (HI5.out.put (r' := { zRecV with kind := 1, boot := n }) (by rw [← hW5]; exact Only.setCell _ _ _ rfl) (by rw [← hW5, heap_setCell_same _ _ 2 _ _ _ HI5.out.2.1]; rfl) (noB_rec _ _ _ _ _ _ _ _ _ _ _ _ _))
    clear hr5 ho5
    have HO : Hid (e = 0 → RecO W5 B0 { zRecV with kind := 1, boot := n } (.slice none 0 0) (.slice none 0 0) (.slice none 0 0) (.slice none 0 0) ∧ RecW { zRecV with kind := 1, boot := n }) := Lib.hid (fun _ => ⟨⟨OwnK.nil _ _ _ _, OwnK.nil _ _ _ _, OwnR.nil _ _ _, OwnR.nil _ _ _⟩, ⟨⟨ki1, zi, HYW.out, zu, zu, zEnt_wf, zSho_wf⟩, by simp [zRecV, zEntV], by simp [zRecV, zShoV]⟩⟩)
    obtain ⟨vd, u, hrow, hsl, hu1, hu2⟩ := id HJ5.out.2.2.1
    dsimp only at hrow hu2
    obtain ⟨av, cv, rfl, -⟩ := id hsl
    have HROW := Lib.hid hrow
    have HQ := Lib.hid HJ5.out.1
    have HB := Lib.hid HJ5.out.2.2.2.1
    have HX := Lib.hid HJ5.out.2.1
    clear hsl hu1
    by_cases he : e = 0
    · subst he
      obtain ⟨huu, hul⟩ := hu2 rfl
      by_cases hll : u < rest.length
      · have HDV := Lib.hid (HF.out.2.1 rfl (by intro q; have q2 := congrArg List.length (hul.symm.trans q); rw [List.length_drop] at q2; simp only [List.length_nil] at q2; omega))
        have hll2 : (u : Int) < (rest.length : Int) := by omega
        have c0 := RB.c0 hrow
        have c1 := RB.c1 hrow
        have c2 := RB.c2 hrow
        clear hul huu hll hu2 hrow
        go_wp2_with (first
          | fail)
        go_quiet (fail)
        rename_i nq
        have HROWd : Hid (RB wc.heap.size (.slice av rest.length cv) u 0 (W5.drewN nq)) := Lib.hid HROW.out
        clear c0 c1 c2
        go_wp2_with fail
        refine (fail_any wc.heap.size _ u 0 11 _ HROWd.out).mono ?_
        rintro E W8 ⟨rfl, hr8, ho8, -⟩
        have HROW8 : Hid (RB wc.heap.size (.slice av rest.length cv) u 11 W8) := Lib.hid hr8
        have HQ8 := Lib.hid ((ho8.2.2.2.2 _ (row_lt HQ.out) (by have := HGC.out; omega)).trans HQ.out)
        have HB8 : Hid (Below w.heap.size w W8) := Lib.hid (ho8.below (HB.out.trans ((Nd.below_drewN _ _).mono HB.out.size)) (HB.out.trans ((Nd.below_drewN _ _).mono HB.out.size)).size (fun k hk => by have := HGC.out; omega))
        have c2 := RB.c2 HROW8.out
        clear hr8 ho8 HROWd
        go_upto_region 25 with (fail)
        obtain ⟨WZ, hWZ⟩ : ∃ q, W8.drew.setRow w.heap.size zR = q := ⟨_, rfl⟩
        have HQD : Hid (W8.drew.heap[w.heap.size]? = some (.cells zR 35 (0, 0))) := Lib.hid HQ8.out
        have HQZ : Hid (WZ.heap[w.heap.size]? = some (.cells zR 35 (0, 0))) := Lib.hid (by rw [← hWZ]; exact setRow_heap _ _ _ _ _ _ HQD.out)
        have HRZ : Hid (WZ.heap[wc.heap.size]? = some (.cells (rA (.slice av rest.length cv) u 11) 57 (0, 0))) := Lib.hid (by have := HGC.out; rw [← hWZ]; exact (setRow_other _ _ _ _ (by omega)).trans HROW8.out)
        have HFIN := Lib.hid (decR_nil (w := w) (W := WZ) HDV.out (by rw [← hWZ]; exact Ld.below_row HB8.out.drew (Nat.le_refl _) _))
        refine wp_region_held_drew (S := fun w' => w'.heap[wc.heap.size]? = some (.cells (rA (.slice av rest.length cv) u 11) 57 (0, 0))) (by kernel_rfl) HROW8.out (fun hHeld => ?_)
        refine wpAnyH_take (i := 0) (v := (.agg zR)) rfl (by kernel_rfl) (by kernel_rfl) (by kernel_rfl) (fun _ _ _ h => h) (Or.inl ⟨by kernel_rfl, ?_⟩) (by assumption) ?_
        · intro wx hSw
          clear hSw hHeld
          go_simp
          try first | with_reducible rfl | kernel_rfl
        simp only [Act.put, List.getElem_toArray, List.getElem_cons_zero, List.setIfInBounds_toArray, List.set_cons_succ, List.set_cons_zero]
        refine wpAnyH_take (i := 1) (v := .pointer (some ⟨wc.heap.size, 0, none⟩)) rfl (by kernel_rfl) (by kernel_rfl) (by kernel_rfl) (fun _ _ _ h => h) (Or.inl ⟨by kernel_rfl, ?_⟩) (by assumption) ?_
        · intro wx hSw
          clear hSw hHeld
          go_simp
          try first | with_reducible rfl | kernel_rfl
        simp only [Act.put, List.getElem_toArray, List.getElem_cons_succ, List.getElem_cons_zero, List.setIfInBounds_toArray, List.set_cons_succ, List.set_cons_zero]
        refine wpAnyH_take (i := 2) (v := .pointer (some ⟨wc.heap.size, 0, none⟩)) rfl (by kernel_rfl) (by kernel_rfl) (by kernel_rfl) (fun _ _ _ h => h) (Or.inl ⟨by kernel_rfl, ?_⟩) (by assumption) ?_
        · intro wx hSw
          clear hSw hHeld
          go_simp
          try first | with_reducible rfl | kernel_rfl
        simp only [Act.put, List.getElem_toArray, List.getElem_cons_succ, List.getElem_cons_zero, List.setIfInBounds_toArray, List.set_cons_succ, List.set_cons_zero]
        refine wpAnyH_take (i := 3) (v := .pointer (some ⟨wc.heap.size, 2, none⟩)) rfl (by kernel_rfl) (by kernel_rfl) (by kernel_rfl) (fun _ _ _ h => h) (Or.inl ⟨by kernel_rfl, ?_⟩) (by assumption) ?_
        · intro wx hSw
          clear hSw hHeld
          go_simp
          try first | with_reducible rfl | kernel_rfl
        simp only [Act.put, List.getElem_toArray, List.getElem_cons_succ, List.getElem_cons_zero, List.setIfInBounds_toArray, List.set_cons_succ, List.set_cons_zero]
        refine wpAnyH_take (i := 4) (v := (.int .i64 11)) rfl (by kernel_rfl) (by kernel_rfl) (by kernel_rfl) (fun _ _ _ h => h) (Or.inl ⟨by kernel_rfl, ?_⟩) (by assumption) ?_
        · intro wx hSw
          have cc : wx.cell? ⟨wc.heap.size, 2, none⟩ = some (.int .i64 11) := (cell_of_row wx _ 2 _ _ _ hSw).trans rfl
          clear hSw hHeld
          go_simp
          try first | with_reducible rfl | kernel_rfl
        simp only [Act.put, List.getElem_toArray, List.getElem_cons_succ, List.getElem_cons_zero, List.setIfInBounds_toArray, List.set_cons_succ, List.set_cons_zero]
        refine wpAnyH_ready (rs := [5]) (by kernel_rfl) (by simp) ?_
        refine AllReadyH.cons rfl (fun K hK => ?_) AllReadyH.nil
        rw [if_pos (by kernel_rfl)]
        refine wp_store_row 35 (.tmp 2) (.tmp 85) (by kernel_rfl) w.heap.size zR (by kernel_rfl) (by kernel_rfl) 35 zR HQD.out (by kernel_rfl) (by kernel_rfl) zR_one ?_
        rw [hWZ]
        clear hHeld
        refine hK.out _ _ HRZ.out (fun hHeld => ?_)
        clear hK K
        refine wpAnyH_take (i := 6) (v := (.int .i64 11)) rfl (by kernel_rfl) (by kernel_rfl) (by kernel_rfl) (fun _ _ _ h => h) (Or.inl ⟨by kernel_rfl, ?_⟩) (by assumption) ?_
        · intro wx hSw
          clear hSw hHeld
          go_simp
          try first | with_reducible rfl | kernel_rfl
        simp only [Act.put, List.getElem_toArray, List.getElem_cons_succ, List.getElem_cons_zero, List.setIfInBounds_toArray, List.set_cons_succ, List.set_cons_zero]
        refine wpAnyH_done (by kernel_rfl) ?_ _
        clear hHeld
        go_wp2_with fail
        refine bodyPost_ret (v := .tuple #[.agg zR, .int .i64 11]) (results_c2 rfl _ _ w.heap.size 35 _ (0, 0) _ rfl HQZ.out Try.underlying35 rfl (by kernel_rfl) rfl) rfl ?_
        exact HFIN.out
      · have hl0 : l = [] := by rw [hul]; exact List.drop_eq_nil_of_le (by omega)
        have hll2 : ¬ (u : Int) < (rest.length : Int) := by omega
        have HLN := Lib.hid hl0
        obtain ⟨hro, hrw⟩ := HO.out rfl
        have HRO := Lib.hid hro
        have HRW := Lib.hid hrw
        have c0 := RB.c0 hrow
        have c1 := RB.c1 hrow
        have c2 := RB.c2 hrow
        clear hul huu hll hu2 hrow hl0 hro hrw
        go_wp2_with (first
          | fail)
        go_quiet (fail)
        rename_i nq
        have HXd : Hid ((W5.drewN nq).heap[W0.heap.size]? = some (.cells (rArr ({ zRecV with kind := 1, boot := n } : RecR) (.slice none 0 0) (.slice none 0 0) (.slice none 0 0) (.slice none 0 0)) 35 (0, 0))) := Lib.hid HX.out
        have HBd : Hid (Below w.heap.size w (W5.drewN nq)) := Lib.hid (HB.out.trans ((Nd.below_drewN _ _).mono HB.out.size))
        have HQd : Hid ((W5.drewN nq).heap[w.heap.size]? = some (.cells zR 35 (0, 0))) := Lib.hid HQ.out
        have HISd : Hid (IsRec (W5.drewN nq) (.agg (rArr ({ zRecV with kind := 1, boot := n } : RecR) (.slice none 0 0) (.slice none 0 0) (.slice none 0 0) (.slice none 0 0))) { zRecV with kind := 1, boot := n }) := Lib.hid ((HRO.out.is HRW.out).below (Nd.below_drewN _ _) (Nat.le_refl _))
        have c2 := RB.c2 (show RB wc.heap.size (.slice av rest.length cv) u 0 (W5.drewN nq) from HROW.out)
        clear c0 c1
        generalize hWd : W5.drewN nq = Wd at *
        go_wp2_with (first | (with_reducible refine wpList_load_row rfl 35 (.tmp 4) rfl W0.heap.size rfl 35 (rArr ({ zRecV with kind := 1, boot := n } : RecR) (.slice none 0 0) (.slice none 0 0) (.slice none 0 0) (.slice none 0 0)) (0, 0) _ HXd.out Try.underlying35 rfl (by kernel_rfl) ?_) | fail)
        refine (Rc.may_any { zRecV with kind := 1, boot := n } _ _ HISd.out).mono ?_
        rintro E W9 ⟨b, rfl, hb, hb9⟩
        have HB9 := Lib.hid (HBd.out.trans (hb9.mono HBd.out.size))
        have HQ9 := Lib.hid ((hb9.block _ (row_lt HQd.out)).trans HQd.out)
        have HX9 := Lib.hid ((hb9.block _ (row_lt HXd.out)).trans HXd.out)
        have HIS9 := Lib.hid (HISd.out.below hb9 (Nat.le_refl _))
        have HO9 : Hid (RecO W9 B0 { zRecV with kind := 1, boot := n } (.slice none 0 0) (.slice none 0 0) (.slice none 0 0) (.slice none 0 0)) := Lib.hid (by
          obtain ⟨o1, o2, o3, o4⟩ := HRO.out
          have hbd := (show Below W5.heap.size W5 Wd by rw [← hWd]; exact Nd.below_drewN _ _)
          have hbx := hbd.trans (hb9.mono hbd.size)
          exact ⟨own_belowx hbx o1, own_belowx hbx o2, own_belowx hbx o3, own_belowx hbx o4⟩)
        clear hb9
        cases b with
        | true =>
          have HDV := Lib.hid (HF.out.2.2.1 rfl HLN.out (hb.1 rfl))
          obtain ⟨WZ, hWZ⟩ : ∃ q, W9.setRow w.heap.size (rArr ({ zRecV with kind := 1, boot := n } : RecR) (.slice none 0 0) (.slice none 0 0) (.slice none 0 0) (.slice none 0 0)) = q := ⟨_, rfl⟩
          have HQZ : Hid (WZ.heap[w.heap.size]? = some (.cells (rArr ({ zRecV with kind := 1, boot := n } : RecR) (.slice none 0 0) (.slice none 0 0) (.slice none 0 0) (.slice none 0 0)) 35 (0, 0))) := Lib.hid (by rw [← hWZ]; exact setRow_heap _ _ _ _ _ _ HQ9.out)
          have HFIN : Hid (DecRE zs w (.returned (.tuple #[.agg (rArr ({ zRecV with kind := 1, boot := n } : RecR) (.slice none 0 0) (.slice none 0 0) (.slice none 0 0) (.slice none 0 0)), .int .i64 0])) WZ) := Lib.hid (by
            have hx : Only (· = w.heap.size) W9 WZ := by rw [← hWZ]; exact only_row _ _ _
            exact ⟨{ zRecV with kind := 1, boot := n }, 0, _, _, _, _, rfl, HDV.out, (HO9.out.row HQ9.out hx).is HRW.out, by rw [← hWZ]; exact Ld.below_row HB9.out (Nat.le_refl _) _⟩)
          clear hb
          go_wp2_with (first
            | (with_reducible refine wpList_load_row rfl 35 (.tmp 4) rfl W0.heap.size rfl 35 (rArr ({ zRecV with kind := 1, boot := n } : RecR) (.slice none 0 0) (.slice none 0 0) (.slice none 0 0) (.slice none 0 0)) (0, 0) _ HX9.out Try.underlying35 rfl (by kernel_rfl) ?_)
            | (with_reducible refine wpList_store_row rfl 35 (.tmp 2) (.tmp 94) rfl w.heap.size (rArr ({ zRecV with kind := 1, boot := n } : RecR) (.slice none 0 0) (.slice none 0 0) (.slice none 0 0) (.slice none 0 0)) rfl rfl 35 _ HQ9.out (by kernel_rfl) rfl (rArr_one _ _ _ _ _ _ _ _ _ _ _ _ _) ?_; rw [hWZ]; clear hWZ))
          refine bodyPost_ret (v := .tuple #[.agg (rArr ({ zRecV with kind := 1, boot := n } : RecR) (.slice none 0 0) (.slice none 0 0) (.slice none 0 0) (.slice none 0 0)), .int .i64 0]) (results_c2 rfl _ _ w.heap.size 35 _ (0, 0) _ rfl HQZ.out Try.underlying35 rfl (by kernel_rfl) rfl) rfl ?_
          exact HFIN.out
        | false =>
          have HDV := Lib.hid (HF.out.2.2.2 rfl HLN.out (fun q => by cases hb.2 q))
          obtain ⟨WZ, hWZ⟩ : ∃ q, W9.setRow w.heap.size zR = q := ⟨_, rfl⟩
          have HQZ : Hid (WZ.heap[w.heap.size]? = some (.cells zR 35 (0, 0))) := Lib.hid (by rw [← hWZ]; exact setRow_heap _ _ _ _ _ _ HQ9.out)
          have HFIN := Lib.hid (decR_nil (w := w) (W := WZ) HDV.out (by rw [← hWZ]; exact Ld.below_row HB9.out (Nat.le_refl _) _))
          clear hb
          go_wp2_with (first | (with_reducible refine wpList_store_row rfl 35 (.tmp 2) (.tmp 93) rfl w.heap.size zR rfl rfl 35 _ HQ9.out (by kernel_rfl) rfl zR_one ?_; rw [hWZ]; clear hWZ) | fail)
          refine bodyPost_ret (v := .tuple #[.agg zR, .int .i64 130]) (results_c2 rfl _ _ w.heap.size 35 _ (0, 0) _ rfl HQZ.out Try.underlying35 rfl (by kernel_rfl) rfl) rfl ?_
          exact HFIN.out
    · have hne : (e != 0) = true := by rw [bne, beq_eq_false_iff_ne.2 he]; rfl
      have hne2 : (e == 0) = false := beq_eq_false_iff_ne.2 he
      have HDV := Lib.hid (HF.out.1 he)
      have c0 := RB.c0 hrow
      have c1 := RB.c1 hrow
      have c2 := RB.c2 hrow
      clear hu2 hrow he
      go_wp2_with (first
        | fail)
      try go_frame
      go_quiet (fail)
      rename_i nq
      have c2 := RB.c2 (show RB wc.heap.size (.slice av rest.length cv) u e (W5.drewN nq) from HROW.out)
      have HROWd : Hid (RB wc.heap.size (.slice av rest.length cv) u e (W5.drewN nq)) := Lib.hid HROW.out
      have HBd : Hid (Below w.heap.size w (W5.drewN nq)) := Lib.hid (HB.out.trans ((Nd.below_drewN _ _).mono HB.out.size))
      have HQd : Hid ((W5.drewN nq).heap[w.heap.size]? = some (.cells zR 35 (0, 0))) := Lib.hid HQ.out
      clear c0 c1
      generalize hWd : W5.drewN nq = Wd at *
      go_upto_region 25 with (fail)
      obtain ⟨WZ, hWZ⟩ : ∃ q, Wd.drew.setRow w.heap.size zR = q := ⟨_, rfl⟩
      have HQD : Hid (Wd.drew.heap[w.heap.size]? = some (.cells zR 35 (0, 0))) := Lib.hid HQd.out
      have HQZ : Hid (WZ.heap[w.heap.size]? = some (.cells zR 35 (0, 0))) := Lib.hid (by rw [← hWZ]; exact setRow_heap _ _ _ _ _ _ HQD.out)
      have HRZ : Hid (WZ.heap[wc.heap.size]? = some (.cells (rA (.slice av rest.length cv) u e) 57 (0, 0))) := Lib.hid (by have := HGC.out; rw [← hWZ]; exact (setRow_other _ _ _ _ (by omega)).trans HROWd.out)
      have HFIN := Lib.hid (decR_nil (w := w) (W := WZ) HDV.out (by rw [← hWZ]; exact Ld.below_row HBd.out.drew (Nat.le_refl _) _))
      refine wp_region_held_drew (S := fun w' => w'.heap[wc.heap.size]? = some (.cells (rA (.slice av rest.length cv) u e) 57 (0, 0))) (by kernel_rfl) HROWd.out (fun hHeld => ?_)
      refine wpAnyH_take (i := 0) (v := (.agg zR)) rfl (by kernel_rfl) (by kernel_rfl) (by kernel_rfl) (fun _ _ _ h => h) (Or.inl ⟨by kernel_rfl, ?_⟩) (by assumption) ?_
      · intro wx hSw
        clear hSw hHeld
        go_simp
        try first | with_reducible rfl | kernel_rfl
      simp only [Act.put, List.getElem_toArray, List.getElem_cons_zero, List.setIfInBounds_toArray, List.set_cons_succ, List.set_cons_zero]
      refine wpAnyH_take (i := 1) (v := .pointer (some ⟨wc.heap.size, 0, none⟩)) rfl (by kernel_rfl) (by kernel_rfl) (by kernel_rfl) (fun _ _ _ h => h) (Or.inl ⟨by kernel_rfl, ?_⟩) (by assumption) ?_
      · intro wx hSw
        clear hSw hHeld
        go_simp
        try first | with_reducible rfl | kernel_rfl
      simp only [Act.put, List.getElem_toArray, List.getElem_cons_succ, List.getElem_cons_zero, List.setIfInBounds_toArray, List.set_cons_succ, List.set_cons_zero]
      refine wpAnyH_take (i := 2) (v := .pointer (some ⟨wc.heap.size, 0, none⟩)) rfl (by kernel_rfl) (by kernel_rfl) (by kernel_rfl) (fun _ _ _ h => h) (Or.inl ⟨by kernel_rfl, ?_⟩) (by assumption) ?_
      · intro wx hSw
        clear hSw hHeld
        go_simp
        try first | with_reducible rfl | kernel_rfl
      simp only [Act.put, List.getElem_toArray, List.getElem_cons_succ, List.getElem_cons_zero, List.setIfInBounds_toArray, List.set_cons_succ, List.set_cons_zero]
      refine wpAnyH_take (i := 3) (v := .pointer (some ⟨wc.heap.size, 2, none⟩)) rfl (by kernel_rfl) (by kernel_rfl) (by kernel_rfl) (fun _ _ _ h => h) (Or.inl ⟨by kernel_rfl, ?_⟩) (by assumption) ?_
      · intro wx hSw
        clear hSw hHeld
        go_simp
        try first | with_reducible rfl | kernel_rfl
      simp only [Act.put, List.getElem_toArray, List.getElem_cons_succ, List.getElem_cons_zero, List.setIfInBounds_toArray, List.set_cons_succ, List.set_cons_zero]
      refine wpAnyH_take (i := 4) (v := (.int .i64 e)) rfl (by kernel_rfl) (by kernel_rfl) (by kernel_rfl) (fun _ _ _ h => h) (Or.inl ⟨by kernel_rfl, ?_⟩) (by assumption) ?_
      · intro wx hSw
        have cc : wx.cell? ⟨wc.heap.size, 2, none⟩ = some (.int .i64 e) := (cell_of_row wx _ 2 _ _ _ hSw).trans rfl
        clear hSw hHeld
        go_simp
        try first | with_reducible rfl | kernel_rfl
      simp only [Act.put, List.getElem_toArray, List.getElem_cons_succ, List.getElem_cons_zero, List.setIfInBounds_toArray, List.set_cons_succ, List.set_cons_zero]
      refine wpAnyH_ready (rs := [5]) (by kernel_rfl) (by simp) ?_
      refine AllReadyH.cons rfl (fun K hK => ?_) AllReadyH.nil
      rw [if_pos (by kernel_rfl)]
      refine wp_store_row 35 (.tmp 2) (.tmp 85) (by kernel_rfl) w.heap.size zR (by kernel_rfl) (by kernel_rfl) 35 zR HQD.out (by kernel_rfl) (by kernel_rfl) zR_one ?_
      rw [hWZ]
      clear hHeld
      refine hK.out _ _ HRZ.out (fun hHeld => ?_)
      clear hK K
      refine wpAnyH_take (i := 6) (v := (.int .i64 e)) rfl (by kernel_rfl) (by kernel_rfl) (by kernel_rfl) (fun _ _ _ h => h) (Or.inl ⟨by kernel_rfl, ?_⟩) (by assumption) ?_
      · intro wx hSw
        clear hSw hHeld
        go_simp
        try first | with_reducible rfl | kernel_rfl
      simp only [Act.put, List.getElem_toArray, List.getElem_cons_succ, List.getElem_cons_zero, List.setIfInBounds_toArray, List.set_cons_succ, List.set_cons_zero]
      refine wpAnyH_done (by kernel_rfl) ?_ _
      clear hHeld
      go_wp2_with fail
      refine bodyPost_ret (v := .tuple #[.agg zR, .int .i64 e]) (results_c2 rfl _ _ w.heap.size 35 _ (0, 0) _ rfl HQZ.out Try.underlying35 rfl (by kernel_rfl) rfl) rfl ?_
      exact HFIN.out
  by_cases hx2 : x = 2
  · subst hx2
    go_enter Try.func11, Try.ntmps11
    rcases hy : wideS (rest, 0) with ⟨n, s1⟩
    rcases hy2 : smallS s1 with ⟨m, ⟨l, e⟩⟩
    have HYW := Lib.hid (wideS_wf hy)
    obtain ⟨hm0, hm1⟩ := smallS_bd hy2
    have HF := Lib.hid (fin_2' HZ.out HNL.out hy hy2)
    go_wp2_with (first | (with_reducible refine wpList_store_row rfl 35 (.tmp 4) (.tmp 16) rfl W0.heap.size (rArr ({ zRecV with kind := 2 } : RecR) (.slice none 0 0) (.slice none 0 0) (.slice none 0 0) (.slice none 0 0)) rfl rfl 35 _ hsR (by kernel_rfl) rfl (rArr_one _ _ _ _ _ _ _ _ _ _ _ _ _) ?_; rw [hW3]; clear hW3 hsR) | fail)
    refine (wideD hy HI4.out.2.2.1).mono ?_
    rintro E w5 ⟨rfl, hr5, ho5, -⟩
    have HI5 := Lib.hid (HI4.out.call hr5 ho5)
    have HSZ5 := Lib.hid ho5.2.2.2.1
    have cc5 := (cell_of_row w5 _ 3 _ _ _ HI5.out.2.1).trans rfl
    have ff5 : w5.frozen? ⟨W0.heap.size, 3, none⟩ = false := frozen_of_row _ _ 3 _ _ HI5.out.2.1
    obtain ⟨W5, hW5⟩ : ∃ y, w5.setCell ⟨W0.heap.size, 3, none⟩ (.int .u64 n) = y := ⟨_, rfl⟩
    have HJ5 : Hid (RecD w W0.heap.size wc.heap.size rest s1 { zRecV with kind := 2, term := n } (.slice none 0 0) (.slice none 0 0) (.slice none 0 0) (.slice none 0 0) W5) := Lib.hid (HI5.out.put (r' := { zRecV with kind := 2, term := n }) (by rw [← hW5]; exact Only.setCell _ _ _ rfl) (by rw [← hW5, heap_setCell_same _ _ 3 _ _ _ HI5.out.2.1]; rfl) (noB_rec _ _ _ _ _ _ _ _ _ _ _ _ _))
    clear hr5 ho5
    go_wp2_with fail
    refine (smallD hy2 HJ5.out.2.2.1).mono ?_
    rintro E w6 ⟨rfl, hr6, ho6, -⟩
    have HI6 := Lib.hid (HJ5.out.call hr6 ho6)
    have HSZ6 := Lib.hid ho6.2.2.2.1
    have cc6 := (cell_of_row w6 _ 1 _ _ _ HI6.out.2.1).trans rfl
    have ff6 : w6.frozen? ⟨W0.heap.size, 1, none⟩ = false := frozen_of_row _ _ 1 _ _ HI6.out.2.1
    obtain ⟨W6, hW6⟩ : ∃ y, w6.setCell ⟨W0.heap.size, 1, none⟩ (.int .i64 m) = y := ⟨_, rfl⟩
    have HJ6 : Hid (RecD w W0.heap.size wc.heap.size rest (l, e) { zRecV with kind := 2, term := n, vote := m } (.slice none 0 0) (.slice none 0 0) (.slice none 0 0) (.slice none 0 0) W6) := Lib.hid (HI6.out.put (r' := { zRecV with kind := 2, term := n, vote := m }) (by rw [← hW6]; exact Only.setCell _ _ _ rfl) (by rw [← hW6, heap_setCell_same _ _ 1 _ _ _ HI6.out.2.1]; rfl) (noB_rec _ _ _ _ _ _ _ _ _ _ _ _ _))
    clear hr6 ho6
    have HO : Hid (e = 0 → RecO W6 B0 { zRecV with kind := 2, term := n, vote := m } (.slice none 0 0) (.slice none 0 0) (.slice none 0 0) (.slice none 0 0) ∧ RecW { zRecV with kind := 2, term := n, vote := m }) := Lib.hid (fun _ => ⟨⟨OwnK.nil _ _ _ _, OwnK.nil _ _ _ _, OwnR.nil _ _ _, OwnR.nil _ _ _⟩, ⟨⟨ki2, i64_of ⟨hm0, hm1⟩, zu, HYW.out, zu, zEnt_wf, zSho_wf⟩, by simp [zRecV, zEntV], by simp [zRecV, zShoV]⟩⟩)
    obtain ⟨vd, u, hrow, hsl, hu1, hu2⟩ := id HJ6.out.2.2.1
    dsimp only at hrow hu2
    obtain ⟨av, cv, rfl, -⟩ := id hsl
    have HROW := Lib.hid hrow
    have HQ := Lib.hid HJ6.out.1
    have HB := Lib.hid HJ6.out.2.2.2.1
    have HX := Lib.hid HJ6.out.2.1
    clear hsl hu1
    by_cases he : e = 0
    · subst he
      obtain ⟨huu, hul⟩ := hu2 rfl
      by_cases hll : u < rest.length
      · have HDV := Lib.hid (HF.out.2.1 rfl (by intro q; have q2 := congrArg List.length (hul.symm.trans q); rw [List.length_drop] at q2; simp only [List.length_nil] at q2; omega))
        have hll2 : (u : Int) < (rest.length : Int) := by omega
        have c0 := RB.c0 hrow
        have c1 := RB.c1 hrow
        have c2 := RB.c2 hrow
        clear hul huu hll hu2 hrow
        go_wp2_with (first
          | fail)
        go_quiet (fail)
        rename_i nq
        have HROWd : Hid (RB wc.heap.size (.slice av rest.length cv) u 0 (W6.drewN nq)) := Lib.hid HROW.out
        clear c0 c1 c2
        go_wp2_with fail
        refine (fail_any wc.heap.size _ u 0 11 _ HROWd.out).mono ?_
        rintro E W8 ⟨rfl, hr8, ho8, -⟩
        have HROW8 : Hid (RB wc.heap.size (.slice av rest.length cv) u 11 W8) := Lib.hid hr8
        have HQ8 := Lib.hid ((ho8.2.2.2.2 _ (row_lt HQ.out) (by have := HGC.out; omega)).trans HQ.out)
        have HB8 : Hid (Below w.heap.size w W8) := Lib.hid (ho8.below (HB.out.trans ((Nd.below_drewN _ _).mono HB.out.size)) (HB.out.trans ((Nd.below_drewN _ _).mono HB.out.size)).size (fun k hk => by have := HGC.out; omega))
        have c2 := RB.c2 HROW8.out
        clear hr8 ho8 HROWd
        go_upto_region 25 with (fail)
        obtain ⟨WZ, hWZ⟩ : ∃ q, W8.drew.setRow w.heap.size zR = q := ⟨_, rfl⟩
        have HQD : Hid (W8.drew.heap[w.heap.size]? = some (.cells zR 35 (0, 0))) := Lib.hid HQ8.out
        have HQZ : Hid (WZ.heap[w.heap.size]? = some (.cells zR 35 (0, 0))) := Lib.hid (by rw [← hWZ]; exact setRow_heap _ _ _ _ _ _ HQD.out)
        have HRZ : Hid (WZ.heap[wc.heap.size]? = some (.cells (rA (.slice av rest.length cv) u 11) 57 (0, 0))) := Lib.hid (by have := HGC.out; rw [← hWZ]; exact (setRow_other _ _ _ _ (by omega)).trans HROW8.out)
        have HFIN := Lib.hid (decR_nil (w := w) (W := WZ) HDV.out (by rw [← hWZ]; exact Ld.below_row HB8.out.drew (Nat.le_refl _) _))
        refine wp_region_held_drew (S := fun w' => w'.heap[wc.heap.size]? = some (.cells (rA (.slice av rest.length cv) u 11) 57 (0, 0))) (by kernel_rfl) HROW8.out (fun hHeld => ?_)
        refine wpAnyH_take (i := 0) (v := (.agg zR)) rfl (by kernel_rfl) (by kernel_rfl) (by kernel_rfl) (fun _ _ _ h => h) (Or.inl ⟨by kernel_rfl, ?_⟩) (by assumption) ?_
        · intro wx hSw
          clear hSw hHeld
          go_simp
          try first | with_reducible rfl | kernel_rfl
        simp only [Act.put, List.getElem_toArray, List.getElem_cons_zero, List.setIfInBounds_toArray, List.set_cons_succ, List.set_cons_zero]
        refine wpAnyH_take (i := 1) (v := .pointer (some ⟨wc.heap.size, 0, none⟩)) rfl (by kernel_rfl) (by kernel_rfl) (by kernel_rfl) (fun _ _ _ h => h) (Or.inl ⟨by kernel_rfl, ?_⟩) (by assumption) ?_
        · intro wx hSw
          clear hSw hHeld
          go_simp
          try first | with_reducible rfl | kernel_rfl
        simp only [Act.put, List.getElem_toArray, List.getElem_cons_succ, List.getElem_cons_zero, List.setIfInBounds_toArray, List.set_cons_succ, List.set_cons_zero]
        refine wpAnyH_take (i := 2) (v := .pointer (some ⟨wc.heap.size, 0, none⟩)) rfl (by kernel_rfl) (by kernel_rfl) (by kernel_rfl) (fun _ _ _ h => h) (Or.inl ⟨by kernel_rfl, ?_⟩) (by assumption) ?_
        · intro wx hSw
          clear hSw hHeld
          go_simp
          try first | with_reducible rfl | kernel_rfl
        simp only [Act.put, List.getElem_toArray, List.getElem_cons_succ, List.getElem_cons_zero, List.setIfInBounds_toArray, List.set_cons_succ, List.set_cons_zero]
        refine wpAnyH_take (i := 3) (v := .pointer (some ⟨wc.heap.size, 2, none⟩)) rfl (by kernel_rfl) (by kernel_rfl) (by kernel_rfl) (fun _ _ _ h => h) (Or.inl ⟨by kernel_rfl, ?_⟩) (by assumption) ?_
        · intro wx hSw
          clear hSw hHeld
          go_simp
          try first | with_reducible rfl | kernel_rfl
        simp only [Act.put, List.getElem_toArray, List.getElem_cons_succ, List.getElem_cons_zero, List.setIfInBounds_toArray, List.set_cons_succ, List.set_cons_zero]
        refine wpAnyH_take (i := 4) (v := (.int .i64 11)) rfl (by kernel_rfl) (by kernel_rfl) (by kernel_rfl) (fun _ _ _ h => h) (Or.inl ⟨by kernel_rfl, ?_⟩) (by assumption) ?_
        · intro wx hSw
          have cc : wx.cell? ⟨wc.heap.size, 2, none⟩ = some (.int .i64 11) := (cell_of_row wx _ 2 _ _ _ hSw).trans rfl
          clear hSw hHeld
          go_simp
          try first | with_reducible rfl | kernel_rfl
        simp only [Act.put, List.getElem_toArray, List.getElem_cons_succ, List.getElem_cons_zero, List.setIfInBounds_toArray, List.set_cons_succ, List.set_cons_zero]
        refine wpAnyH_ready (rs := [5]) (by kernel_rfl) (by simp) ?_
        refine AllReadyH.cons rfl (fun K hK => ?_) AllReadyH.nil
        rw [if_pos (by kernel_rfl)]
        refine wp_store_row 35 (.tmp 2) (.tmp 85) (by kernel_rfl) w.heap.size zR (by kernel_rfl) (by kernel_rfl) 35 zR HQD.out (by kernel_rfl) (by kernel_rfl) zR_one ?_
        rw [hWZ]
        clear hHeld
        refine hK.out _ _ HRZ.out (fun hHeld => ?_)
        clear hK K
        refine wpAnyH_take (i := 6) (v := (.int .i64 11)) rfl (by kernel_rfl) (by kernel_rfl) (by kernel_rfl) (fun _ _ _ h => h) (Or.inl ⟨by kernel_rfl, ?_⟩) (by assumption) ?_
        · intro wx hSw
          clear hSw hHeld
          go_simp
          try first | with_reducible rfl | kernel_rfl
        simp only [Act.put, List.getElem_toArray, List.getElem_cons_succ, List.getElem_cons_zero, List.setIfInBounds_toArray, List.set_cons_succ, List.set_cons_zero]
        refine wpAnyH_done (by kernel_rfl) ?_ _
        clear hHeld
        go_wp2_with fail
        refine bodyPost_ret (v := .tuple #[.agg zR, .int .i64 11]) (results_c2 rfl _ _ w.heap.size 35 _ (0, 0) _ rfl HQZ.out Try.underlying35 rfl (by kernel_rfl) rfl) rfl ?_
        exact HFIN.out
      · have hl0 : l = [] := by rw [hul]; exact List.drop_eq_nil_of_le (by omega)
        have hll2 : ¬ (u : Int) < (rest.length : Int) := by omega
        have HLN := Lib.hid hl0
        obtain ⟨hro, hrw⟩ := HO.out rfl
        have HRO := Lib.hid hro
        have HRW := Lib.hid hrw
        have c0 := RB.c0 hrow
        have c1 := RB.c1 hrow
        have c2 := RB.c2 hrow
        clear hul huu hll hu2 hrow hl0 hro hrw
        go_wp2_with (first
          | fail)
        go_quiet (fail)
        rename_i nq
        have HXd : Hid ((W6.drewN nq).heap[W0.heap.size]? = some (.cells (rArr ({ zRecV with kind := 2, term := n, vote := m } : RecR) (.slice none 0 0) (.slice none 0 0) (.slice none 0 0) (.slice none 0 0)) 35 (0, 0))) := Lib.hid HX.out
        have HBd : Hid (Below w.heap.size w (W6.drewN nq)) := Lib.hid (HB.out.trans ((Nd.below_drewN _ _).mono HB.out.size))
        have HQd : Hid ((W6.drewN nq).heap[w.heap.size]? = some (.cells zR 35 (0, 0))) := Lib.hid HQ.out
        have HISd : Hid (IsRec (W6.drewN nq) (.agg (rArr ({ zRecV with kind := 2, term := n, vote := m } : RecR) (.slice none 0 0) (.slice none 0 0) (.slice none 0 0) (.slice none 0 0))) { zRecV with kind := 2, term := n, vote := m }) := Lib.hid ((HRO.out.is HRW.out).below (Nd.below_drewN _ _) (Nat.le_refl _))
        have c2 := RB.c2 (show RB wc.heap.size (.slice av rest.length cv) u 0 (W6.drewN nq) from HROW.out)
        clear c0 c1
        generalize hWd : W6.drewN nq = Wd at *
        go_wp2_with (first | (with_reducible refine wpList_load_row rfl 35 (.tmp 4) rfl W0.heap.size rfl 35 (rArr ({ zRecV with kind := 2, term := n, vote := m } : RecR) (.slice none 0 0) (.slice none 0 0) (.slice none 0 0) (.slice none 0 0)) (0, 0) _ HXd.out Try.underlying35 rfl (by kernel_rfl) ?_) | fail)
        refine (Rc.may_any { zRecV with kind := 2, term := n, vote := m } _ _ HISd.out).mono ?_
        rintro E W9 ⟨b, rfl, hb, hb9⟩
        have HB9 := Lib.hid (HBd.out.trans (hb9.mono HBd.out.size))
        have HQ9 := Lib.hid ((hb9.block _ (row_lt HQd.out)).trans HQd.out)
        have HX9 := Lib.hid ((hb9.block _ (row_lt HXd.out)).trans HXd.out)
        have HIS9 := Lib.hid (HISd.out.below hb9 (Nat.le_refl _))
        have HO9 : Hid (RecO W9 B0 { zRecV with kind := 2, term := n, vote := m } (.slice none 0 0) (.slice none 0 0) (.slice none 0 0) (.slice none 0 0)) := Lib.hid (by
          obtain ⟨o1, o2, o3, o4⟩ := HRO.out
          have hbd := (show Below W6.heap.size W6 Wd by rw [← hWd]; exact Nd.below_drewN _ _)
          have hbx := hbd.trans (hb9.mono hbd.size)
          exact ⟨own_belowx hbx o1, own_belowx hbx o2, own_belowx hbx o3, own_belowx hbx o4⟩)
        clear hb9
        cases b with
        | true =>
          have HDV := Lib.hid (HF.out.2.2.1 rfl HLN.out (hb.1 rfl))
          obtain ⟨WZ, hWZ⟩ : ∃ q, W9.setRow w.heap.size (rArr ({ zRecV with kind := 2, term := n, vote := m } : RecR) (.slice none 0 0) (.slice none 0 0) (.slice none 0 0) (.slice none 0 0)) = q := ⟨_, rfl⟩
          have HQZ : Hid (WZ.heap[w.heap.size]? = some (.cells (rArr ({ zRecV with kind := 2, term := n, vote := m } : RecR) (.slice none 0 0) (.slice none 0 0) (.slice none 0 0) (.slice none 0 0)) 35 (0, 0))) := Lib.hid (by rw [← hWZ]; exact setRow_heap _ _ _ _ _ _ HQ9.out)
          have HFIN : Hid (DecRE zs w (.returned (.tuple #[.agg (rArr ({ zRecV with kind := 2, term := n, vote := m } : RecR) (.slice none 0 0) (.slice none 0 0) (.slice none 0 0) (.slice none 0 0)), .int .i64 0])) WZ) := Lib.hid (by
            have hx : Only (· = w.heap.size) W9 WZ := by rw [← hWZ]; exact only_row _ _ _
            exact ⟨{ zRecV with kind := 2, term := n, vote := m }, 0, _, _, _, _, rfl, HDV.out, (HO9.out.row HQ9.out hx).is HRW.out, by rw [← hWZ]; exact Ld.below_row HB9.out (Nat.le_refl _) _⟩)
          clear hb
          go_wp2_with (first
            | (with_reducible refine wpList_load_row rfl 35 (.tmp 4) rfl W0.heap.size rfl 35 (rArr ({ zRecV with kind := 2, term := n, vote := m } : RecR) (.slice none 0 0) (.slice none 0 0) (.slice none 0 0) (.slice none 0 0)) (0, 0) _ HX9.out Try.underlying35 rfl (by kernel_rfl) ?_)
            | (with_reducible refine wpList_store_row rfl 35 (.tmp 2) (.tmp 94) rfl w.heap.size (rArr ({ zRecV with kind := 2, term := n, vote := m } : RecR) (.slice none 0 0) (.slice none 0 0) (.slice none 0 0) (.slice none 0 0)) rfl rfl 35 _ HQ9.out (by kernel_rfl) rfl (rArr_one _ _ _ _ _ _ _ _ _ _ _ _ _) ?_; rw [hWZ]; clear hWZ))
          refine bodyPost_ret (v := .tuple #[.agg (rArr ({ zRecV with kind := 2, term := n, vote := m } : RecR) (.slice none 0 0) (.slice none 0 0) (.slice none 0 0) (.slice none 0 0)), .int .i64 0]) (results_c2 rfl _ _ w.heap.size 35 _ (0, 0) _ rfl HQZ.out Try.underlying35 rfl (by kernel_rfl) rfl) rfl ?_
          exact HFIN.out
        | false =>
          have HDV := Lib.hid (HF.out.2.2.2 rfl HLN.out (fun q => by cases hb.2 q))
          obtain ⟨WZ, hWZ⟩ : ∃ q, W9.setRow w.heap.size zR = q := ⟨_, rfl⟩
          have HQZ : Hid (WZ.heap[w.heap.size]? = some (.cells zR 35 (0, 0))) := Lib.hid (by rw [← hWZ]; exact setRow_heap _ _ _ _ _ _ HQ9.out)
          have HFIN := Lib.hid (decR_nil (w := w) (W := WZ) HDV.out (by rw [← hWZ]; exact Ld.below_row HB9.out (Nat.le_refl _) _))
          clear hb
          go_wp2_with (first | (with_reducible refine wpList_store_row rfl 35 (.tmp 2) (.tmp 93) rfl w.heap.size zR rfl rfl 35 _ HQ9.out (by kernel_rfl) rfl zR_one ?_; rw [hWZ]; clear hWZ) | fail)
          refine bodyPost_ret (v := .tuple #[.agg zR, .int .i64 130]) (results_c2 rfl _ _ w.heap.size 35 _ (0, 0) _ rfl HQZ.out Try.underlying35 rfl (by kernel_rfl) rfl) rfl ?_
          exact HFIN.out
    · have hne : (e != 0) = true := by rw [bne, beq_eq_false_iff_ne.2 he]; rfl
      have hne2 : (e == 0) = false := beq_eq_false_iff_ne.2 he
      have HDV := Lib.hid (HF.out.1 he)
      have c0 := RB.c0 hrow
      have c1 := RB.c1 hrow
      have c2 := RB.c2 hrow
      clear hu2 hrow he
      go_wp2_with (first
        | fail)
      try go_frame
      go_quiet (fail)
      rename_i nq
      have c2 := RB.c2 (show RB wc.heap.size (.slice av rest.length cv) u e (W6.drewN nq) from HROW.out)
      have HROWd : Hid (RB wc.heap.size (.slice av rest.length cv) u e (W6.drewN nq)) := Lib.hid HROW.out
      have HBd : Hid (Below w.heap.size w (W6.drewN nq)) := Lib.hid (HB.out.trans ((Nd.below_drewN _ _).mono HB.out.size))
      have HQd : Hid ((W6.drewN nq).heap[w.heap.size]? = some (.cells zR 35 (0, 0))) := Lib.hid HQ.out
      clear c0 c1
      generalize hWd : W6.drewN nq = Wd at *
      go_upto_region 25 with (fail)
      obtain ⟨WZ, hWZ⟩ : ∃ q, Wd.drew.setRow w.heap.size zR = q := ⟨_, rfl⟩
      have HQD : Hid (Wd.drew.heap[w.heap.size]? = some (.cells zR 35 (0, 0))) := Lib.hid HQd.out
      have HQZ : Hid (WZ.heap[w.heap.size]? = some (.cells zR 35 (0, 0))) := Lib.hid (by rw [← hWZ]; exact setRow_heap _ _ _ _ _ _ HQD.out)
      have HRZ : Hid (WZ.heap[wc.heap.size]? = some (.cells (rA (.slice av rest.length cv) u e) 57 (0, 0))) := Lib.hid (by have := HGC.out; rw [← hWZ]; exact (setRow_other _ _ _ _ (by omega)).trans HROWd.out)
      have HFIN := Lib.hid (decR_nil (w := w) (W := WZ) HDV.out (by rw [← hWZ]; exact Ld.below_row HBd.out.drew (Nat.le_refl _) _))
      refine wp_region_held_drew (S := fun w' => w'.heap[wc.heap.size]? = some (.cells (rA (.slice av rest.length cv) u e) 57 (0, 0))) (by kernel_rfl) HROWd.out (fun hHeld => ?_)
      refine wpAnyH_take (i := 0) (v := (.agg zR)) rfl (by kernel_rfl) (by kernel_rfl) (by kernel_rfl) (fun _ _ _ h => h) (Or.inl ⟨by kernel_rfl, ?_⟩) (by assumption) ?_
      · intro wx hSw
        clear hSw hHeld
        go_simp
        try first | with_reducible rfl | kernel_rfl
      simp only [Act.put, List.getElem_toArray, List.getElem_cons_zero, List.setIfInBounds_toArray, List.set_cons_succ, List.set_cons_zero]
      refine wpAnyH_take (i := 1) (v := .pointer (some ⟨wc.heap.size, 0, none⟩)) rfl (by kernel_rfl) (by kernel_rfl) (by kernel_rfl) (fun _ _ _ h => h) (Or.inl ⟨by kernel_rfl, ?_⟩) (by assumption) ?_
      · intro wx hSw
        clear hSw hHeld
        go_simp
        try first | with_reducible rfl | kernel_rfl
      simp only [Act.put, List.getElem_toArray, List.getElem_cons_succ, List.getElem_cons_zero, List.setIfInBounds_toArray, List.set_cons_succ, List.set_cons_zero]
      refine wpAnyH_take (i := 2) (v := .pointer (some ⟨wc.heap.size, 0, none⟩)) rfl (by kernel_rfl) (by kernel_rfl) (by kernel_rfl) (fun _ _ _ h => h) (Or.inl ⟨by kernel_rfl, ?_⟩) (by assumption) ?_
      · intro wx hSw
        clear hSw hHeld
        go_simp
        try first | with_reducible rfl | kernel_rfl
      simp only [Act.put, List.getElem_toArray, List.getElem_cons_succ, List.getElem_cons_zero, List.setIfInBounds_toArray, List.set_cons_succ, List.set_cons_zero]
      refine wpAnyH_take (i := 3) (v := .pointer (some ⟨wc.heap.size, 2, none⟩)) rfl (by kernel_rfl) (by kernel_rfl) (by kernel_rfl) (fun _ _ _ h => h) (Or.inl ⟨by kernel_rfl, ?_⟩) (by assumption) ?_
      · intro wx hSw
        clear hSw hHeld
        go_simp
        try first | with_reducible rfl | kernel_rfl
      simp only [Act.put, List.getElem_toArray, List.getElem_cons_succ, List.getElem_cons_zero, List.setIfInBounds_toArray, List.set_cons_succ, List.set_cons_zero]
      refine wpAnyH_take (i := 4) (v := (.int .i64 e)) rfl (by kernel_rfl) (by kernel_rfl) (by kernel_rfl) (fun _ _ _ h => h) (Or.inl ⟨by kernel_rfl, ?_⟩) (by assumption) ?_
      · intro wx hSw
        have cc : wx.cell? ⟨wc.heap.size, 2, none⟩ = some (.int .i64 e) := (cell_of_row wx _ 2 _ _ _ hSw).trans rfl
        clear hSw hHeld
        go_simp
        try first | with_reducible rfl | kernel_rfl
      simp only [Act.put, List.getElem_toArray, List.getElem_cons_succ, List.getElem_cons_zero, List.setIfInBounds_toArray, List.set_cons_succ, List.set_cons_zero]
      refine wpAnyH_ready (rs := [5]) (by kernel_rfl) (by simp) ?_
      refine AllReadyH.cons rfl (fun K hK => ?_) AllReadyH.nil
      rw [if_pos (by kernel_rfl)]
      refine wp_store_row 35 (.tmp 2) (.tmp 85) (by kernel_rfl) w.heap.size zR (by kernel_rfl) (by kernel_rfl) 35 zR HQD.out (by kernel_rfl) (by kernel_rfl) zR_one ?_
      rw [hWZ]
      clear hHeld
      refine hK.out _ _ HRZ.out (fun hHeld => ?_)
      clear hK K
      refine wpAnyH_take (i := 6) (v := (.int .i64 e)) rfl (by kernel_rfl) (by kernel_rfl) (by kernel_rfl) (fun _ _ _ h => h) (Or.inl ⟨by kernel_rfl, ?_⟩) (by assumption) ?_
      · intro wx hSw
        clear hSw hHeld
        go_simp
        try first | with_reducible rfl | kernel_rfl
      simp only [Act.put, List.getElem_toArray, List.getElem_cons_succ, List.getElem_cons_zero, List.setIfInBounds_toArray, List.set_cons_succ, List.set_cons_zero]
      refine wpAnyH_done (by kernel_rfl) ?_ _
      clear hHeld
      go_wp2_with fail
      refine bodyPost_ret (v := .tuple #[.agg zR, .int .i64 e]) (results_c2 rfl _ _ w.heap.size 35 _ (0, 0) _ rfl HQZ.out Try.underlying35 rfl (by kernel_rfl) rfl) rfl ?_
      exact HFIN.out
  by_cases hx3 : x = 3
  · subst hx3
    go_enter Try.func11, Try.ntmps11
    rcases hy : wideS (rest, 0) with ⟨n, s1⟩
    rcases hy2 : wideS s1 with ⟨m, s2⟩
    rcases hy3 : cmdS s2 with ⟨c, ⟨l, e⟩⟩
    have HYW := Lib.hid (wideS_wf hy)
    have HYM := Lib.hid (wideS_wf hy2)
    have HF0 := Lib.hid (fin_3' HZ.out HNL.out HWB.out hy hy2 hy3)
    go_wp2_with (first | (with_reducible refine wpList_store_row rfl 35 (.tmp 4) (.tmp 16) rfl W0.heap.size (rArr ({ zRecV with kind := 3 } : RecR) (.slice none 0 0) (.slice none 0 0) (.slice none 0 0) (.slice none 0 0)) rfl rfl 35 _ hsR (by kernel_rfl) rfl (rArr_one _ _ _ _ _ _ _ _ _ _ _ _ _) ?_; rw [hW3]; clear hW3 hsR) | fail)
    refine (wideD hy HI4.out.2.2.1).mono ?_
    rintro E w5 ⟨rfl, hr5, ho5, -⟩
    have HI5 := Lib.hid (HI4.out.call hr5 ho5)
    have HSZ5 := Lib.hid ho5.2.2.2.1
    have cc5 := (cell_of_row w5 _ 4 _ _ _ HI5.out.2.1).trans rfl
    have ff5 : w5.frozen? ⟨W0.heap.size, 4, none⟩ = false := frozen_of_row _ _ 4 _ _ HI5.out.2.1
    obtain ⟨W5, hW5⟩ : ∃ y, w5.setCell ⟨W0.heap.size, 4, none⟩ (.int .u64 n) = y := ⟨_, rfl⟩
    have HJ5 : Hid (RecD w W0.heap.size wc.heap.size rest s1 { zRecV with kind := 3, index := n } (.slice none 0 0) (.slice none 0 0) (.slice none 0 0) (.slice none 0 0) W5) := Lib.hid (HI5.out.put (r' := { zRecV with kind := 3, index := n }) (by rw [← hW5]; exact Only.setCell _ _ _ rfl) (by rw [← hW5, heap_setCell_same _ _ 4 _ _ _ HI5.out.2.1]; rfl) (noB_rec _ _ _ _ _ _ _ _ _ _ _ _ _))
    clear hr5 ho5
    go_wp2_with fail
    refine (wideD hy2 HJ5.out.2.2.1).mono ?_
    rintro E w6 ⟨rfl, hr6, ho6, -⟩
    have HI6 := Lib.hid (HJ5.out.call hr6 ho6)
    have HSZ6 := Lib.hid ho6.2.2.2.1
    have cc6 := (cell_of_row w6 _ 5 _ _ _ HI6.out.2.1).trans rfl
    have ff6 : w6.frozen? ⟨W0.heap.size, 5, none⟩ = false := frozen_of_row _ _ 5 _ _ HI6.out.2.1
    obtain ⟨W6, hW6⟩ : ∃ y, w6.setCell ⟨W0.heap.size, 5, none⟩ (.int .u64 m) = y := ⟨_, rfl⟩
    have HJ6 : Hid (RecD w W0.heap.size wc.heap.size rest s2 { zRecV with kind := 3, index := n, ent := ⟨m, zEntV.cmd⟩ } (.slice none 0 0) (.slice none 0 0) (.slice none 0 0) (.slice none 0 0) W6) := Lib.hid (HI6.out.put (r' := { zRecV with kind := 3, index := n, ent := ⟨m, zEntV.cmd⟩ }) (by rw [← hW6]; exact Only.setCell _ _ _ rfl) (by rw [← hW6, heap_setCell_same _ _ 5 _ _ _ HI6.out.2.1]; rfl) (noB_rec _ _ _ _ _ _ _ _ _ _ _ _ _))
    clear hr6 ho6
    go_wp2_with fail
    refine (cmdD hy3 HJ6.out.2.2.1 HJ6.out.keep).mono ?_
    rintro E w7 ⟨cx, a9, q9, r9, rfl, hr7, hc7, ho7⟩
    have HI7 := Lib.hid (HJ6.out.call hr7 ho7)
    have hth : w7.there W0.heap.size 6 8 := there_row HI7.out.2.1 6 8 (by simp)
    obtain ⟨W7, hW7⟩ : ∃ y, w7.setCells W0.heap.size 6 (cArr cx (.slice a9 q9 r9)).toList = y := ⟨_, rfl⟩
    have HJ7 : Hid (RecD w W0.heap.size wc.heap.size rest (l, e) { zRecV with kind := 3, index := n, ent := ⟨m, cx⟩ } (.slice a9 q9 r9) (.slice none 0 0) (.slice none 0 0) (.slice none 0 0) W7) := Lib.hid (HI7.out.put (r' := { zRecV with kind := 3, index := n, ent := ⟨m, cx⟩ }) (by rw [← hW7]; exact setCells_only _ _ _ _) (by rw [← hW7]; exact cmd_putx cx _ HI7.out.2.1) (noB_rec _ _ _ _ _ _ _ _ _ _ _ _ _))
    have hB6 : B0 ≤ W6.heap.size := by
      have h5 := HSZ5.out
      have h6 := HSZ6.out
      rw [← hW5] at h6
      rw [← hW6]
      simp at h6 ⊢
      omega
    have HO : Hid (e = 0 → RecO W7 B0 { zRecV with kind := 3, index := n, ent := ⟨m, cx⟩ } (.slice a9 q9 r9) (.slice none 0 0) (.slice none 0 0) (.slice none 0 0) ∧ RecW { zRecV with kind := 3, index := n, ent := ⟨m, cx⟩ }) := Lib.hid (fun h0 => by
      obtain ⟨rfl, p2, p3, p4⟩ := hc7 h0
      have hx : Only (· = W0.heap.size) w7 W7 := by rw [← hW7]; exact setCells_only _ _ _ _
      exact ⟨⟨own_blk (own_lowerx hB6 p2) (own_ty p2 HI7.out.2.1 (by decide)) (fun k hk hn => hx.2.2.2.2 k hk hn), OwnK.nil _ _ _ _, OwnR.nil _ _ _, OwnR.nil _ _ _⟩, ⟨⟨ki3, zi, zu, zu, HYW.out, ⟨HYM.out, p3⟩, zSho_wf⟩, p4, by simp [zRecV, zShoV]⟩⟩)
    have HF : Hid (Fin zs { zRecV with kind := 3, index := n, ent := ⟨m, cx⟩ } (l, e)) := Lib.hid (by
      by_cases h0 : e = 0
      · rw [(hc7 h0).1]; exact HF0.out
      · exact ⟨HF0.out.1, fun q => absurd q h0, fun q => absurd q h0, fun q => absurd q h0⟩)
    clear hr7 ho7 hc7 hB6 hy hy2 hy3
    obtain ⟨vd, u, hrow, hsl, hu1, hu2⟩ := id HJ7.out.2.2.1
    dsimp only at hrow hu2
    obtain ⟨av, cv, rfl, -⟩ := id hsl
    have HROW := Lib.hid hrow
    have HQ := Lib.hid HJ7.out.1
    have HB := Lib.hid HJ7.out.2.2.2.1
    have HX := Lib.hid HJ7.out.2.1
    clear hsl hu1
    by_cases he : e = 0
    · subst he
      obtain ⟨huu, hul⟩ := hu2 rfl
      by_cases hll : u < rest.length
      · have HDV := Lib.hid (HF.out.2.1 rfl (by intro q; have q2 := congrArg List.length (hul.symm.trans q); rw [List.length_drop] at q2; simp only [List.length_nil] at q2; omega))
        have hll2 : (u : Int) < (rest.length : Int) := by omega
        have c0 := RB.c0 hrow
        have c1 := RB.c1 hrow
        have c2 := RB.c2 hrow
        clear hul huu hll hu2 hrow
        go_wp2_with (first
          | (refine wpList_store_mid rfl 25 (.tmp 50) (.tmp 48) rfl W0.heap.size 6 (cArr cx (.slice a9 q9 r9)) rfl rfl hth (by kernel_rfl) (cArr_one _ _ _ _) ?_; rw [hW7]; clear hW7 hth)
          | fail)
        go_quiet (fail)
        rename_i nq
        have HROWd : Hid (RB wc.heap.size (.slice av rest.length cv) u 0 (W7.drewN nq)) := Lib.hid HROW.out
        clear c0 c1 c2
        go_wp2_with fail
        refine (fail_any wc.heap.size _ u 0 11 _ HROWd.out).mono ?_
        rintro E W8 ⟨rfl, hr8, ho8, -⟩
        have HROW8 : Hid (RB wc.heap.size (.slice av rest.length cv) u 11 W8) := Lib.hid hr8
        have HQ8 := Lib.hid ((ho8.2.2.2.2 _ (row_lt HQ.out) (by have := HGC.out; omega)).trans HQ.out)
        have HB8 : Hid (Below w.heap.size w W8) := Lib.hid (ho8.below (HB.out.trans ((Nd.below_drewN _ _).mono HB.out.size)) (HB.out.trans ((Nd.below_drewN _ _).mono HB.out.size)).size (fun k hk => by have := HGC.out; omega))
        have c2 := RB.c2 HROW8.out
        clear hr8 ho8 HROWd
        go_upto_region 25 with (fail)
        obtain ⟨WZ, hWZ⟩ : ∃ q, W8.drew.setRow w.heap.size zR = q := ⟨_, rfl⟩
        have HQD : Hid (W8.drew.heap[w.heap.size]? = some (.cells zR 35 (0, 0))) := Lib.hid HQ8.out
        have HQZ : Hid (WZ.heap[w.heap.size]? = some (.cells zR 35 (0, 0))) := Lib.hid (by rw [← hWZ]; exact setRow_heap _ _ _ _ _ _ HQD.out)
        have HRZ : Hid (WZ.heap[wc.heap.size]? = some (.cells (rA (.slice av rest.length cv) u 11) 57 (0, 0))) := Lib.hid (by have := HGC.out; rw [← hWZ]; exact (setRow_other _ _ _ _ (by omega)).trans HROW8.out)
        have HFIN := Lib.hid (decR_nil (w := w) (W := WZ) HDV.out (by rw [← hWZ]; exact Ld.below_row HB8.out.drew (Nat.le_refl _) _))
        refine wp_region_held_drew (S := fun w' => w'.heap[wc.heap.size]? = some (.cells (rA (.slice av rest.length cv) u 11) 57 (0, 0))) (by kernel_rfl) HROW8.out (fun hHeld => ?_)
        refine wpAnyH_take (i := 0) (v := (.agg zR)) rfl (by kernel_rfl) (by kernel_rfl) (by kernel_rfl) (fun _ _ _ h => h) (Or.inl ⟨by kernel_rfl, ?_⟩) (by assumption) ?_
        · intro wx hSw
          clear hSw hHeld
          go_simp
          try first | with_reducible rfl | kernel_rfl
        simp only [Act.put, List.getElem_toArray, List.getElem_cons_zero, List.setIfInBounds_toArray, List.set_cons_succ, List.set_cons_zero]
        refine wpAnyH_take (i := 1) (v := .pointer (some ⟨wc.heap.size, 0, none⟩)) rfl (by kernel_rfl) (by kernel_rfl) (by kernel_rfl) (fun _ _ _ h => h) (Or.inl ⟨by kernel_rfl, ?_⟩) (by assumption) ?_
        · intro wx hSw
          clear hSw hHeld
          go_simp
          try first | with_reducible rfl | kernel_rfl
        simp only [Act.put, List.getElem_toArray, List.getElem_cons_succ, List.getElem_cons_zero, List.setIfInBounds_toArray, List.set_cons_succ, List.set_cons_zero]
        refine wpAnyH_take (i := 2) (v := .pointer (some ⟨wc.heap.size, 0, none⟩)) rfl (by kernel_rfl) (by kernel_rfl) (by kernel_rfl) (fun _ _ _ h => h) (Or.inl ⟨by kernel_rfl, ?_⟩) (by assumption) ?_
        · intro wx hSw
          clear hSw hHeld
          go_simp
          try first | with_reducible rfl | kernel_rfl
        simp only [Act.put, List.getElem_toArray, List.getElem_cons_succ, List.getElem_cons_zero, List.setIfInBounds_toArray, List.set_cons_succ, List.set_cons_zero]
        refine wpAnyH_take (i := 3) (v := .pointer (some ⟨wc.heap.size, 2, none⟩)) rfl (by kernel_rfl) (by kernel_rfl) (by kernel_rfl) (fun _ _ _ h => h) (Or.inl ⟨by kernel_rfl, ?_⟩) (by assumption) ?_
        · intro wx hSw
          clear hSw hHeld
          go_simp
          try first | with_reducible rfl | kernel_rfl
        simp only [Act.put, List.getElem_toArray, List.getElem_cons_succ, List.getElem_cons_zero, List.setIfInBounds_toArray, List.set_cons_succ, List.set_cons_zero]
        refine wpAnyH_take (i := 4) (v := (.int .i64 11)) rfl (by kernel_rfl) (by kernel_rfl) (by kernel_rfl) (fun _ _ _ h => h) (Or.inl ⟨by kernel_rfl, ?_⟩) (by assumption) ?_
        · intro wx hSw
          have cc : wx.cell? ⟨wc.heap.size, 2, none⟩ = some (.int .i64 11) := (cell_of_row wx _ 2 _ _ _ hSw).trans rfl
          clear hSw hHeld
          go_simp
          try first | with_reducible rfl | kernel_rfl
        simp only [Act.put, List.getElem_toArray, List.getElem_cons_succ, List.getElem_cons_zero, List.setIfInBounds_toArray, List.set_cons_succ, List.set_cons_zero]
        refine wpAnyH_ready (rs := [5]) (by kernel_rfl) (by simp) ?_
        refine AllReadyH.cons rfl (fun K hK => ?_) AllReadyH.nil
        rw [if_pos (by kernel_rfl)]
        refine wp_store_row 35 (.tmp 2) (.tmp 85) (by kernel_rfl) w.heap.size zR (by kernel_rfl) (by kernel_rfl) 35 zR HQD.out (by kernel_rfl) (by kernel_rfl) zR_one ?_
        rw [hWZ]
        clear hHeld
        refine hK.out _ _ HRZ.out (fun hHeld => ?_)
        clear hK K
        refine wpAnyH_take (i := 6) (v := (.int .i64 11)) rfl (by kernel_rfl) (by kernel_rfl) (by kernel_rfl) (fun _ _ _ h => h) (Or.inl ⟨by kernel_rfl, ?_⟩) (by assumption) ?_
        · intro wx hSw
          clear hSw hHeld
          go_simp
          try first | with_reducible rfl | kernel_rfl
        simp only [Act.put, List.getElem_toArray, List.getElem_cons_succ, List.getElem_cons_zero, List.setIfInBounds_toArray, List.set_cons_succ, List.set_cons_zero]
        refine wpAnyH_done (by kernel_rfl) ?_ _
        clear hHeld
        go_wp2_with fail
        refine bodyPost_ret (v := .tuple #[.agg zR, .int .i64 11]) (results_c2 rfl _ _ w.heap.size 35 _ (0, 0) _ rfl HQZ.out Try.underlying35 rfl (by kernel_rfl) rfl) rfl ?_
        exact HFIN.out
      · have hl0 : l = [] := by rw [hul]; exact List.drop_eq_nil_of_le (by omega)
        have hll2 : ¬ (u : Int) < (rest.length : Int) := by omega
        have HLN := Lib.hid hl0
        obtain ⟨hro, hrw⟩ := HO.out rfl
        have HRO := Lib.hid hro
        have HRW := Lib.hid hrw
        have c0 := RB.c0 hrow
        have c1 := RB.c1 hrow
        have c2 := RB.c2 hrow
        clear hul huu hll hu2 hrow hl0 hro hrw
        go_wp2_with (first
          | (refine wpList_store_mid rfl 25 (.tmp 50) (.tmp 48) rfl W0.heap.size 6 (cArr cx (.slice a9 q9 r9)) rfl rfl hth (by kernel_rfl) (cArr_one _ _ _ _) ?_; rw [hW7]; clear hW7 hth)
          | fail)
        go_quiet (fail)
        rename_i nq
        have HXd : Hid ((W7.drewN nq).heap[W0.heap.size]? = some (.cells (rArr ({ zRecV with kind := 3, index := n, ent := ⟨m, cx⟩ } : RecR) (.slice a9 q9 r9) (.slice none 0 0) (.slice none 0 0) (.slice none 0 0)) 35 (0, 0))) := Lib.hid HX.out
        have HBd : Hid (Below w.heap.size w (W7.drewN nq)) := Lib.hid (HB.out.trans ((Nd.below_drewN _ _).mono HB.out.size))
        have HQd : Hid ((W7.drewN nq).heap[w.heap.size]? = some (.cells zR 35 (0, 0))) := Lib.hid HQ.out
        have HISd : Hid (IsRec (W7.drewN nq) (.agg (rArr ({ zRecV with kind := 3, index := n, ent := ⟨m, cx⟩ } : RecR) (.slice a9 q9 r9) (.slice none 0 0) (.slice none 0 0) (.slice none 0 0))) { zRecV with kind := 3, index := n, ent := ⟨m, cx⟩ }) := Lib.hid ((HRO.out.is HRW.out).below (Nd.below_drewN _ _) (Nat.le_refl _))
        have c2 := RB.c2 (show RB wc.heap.size (.slice av rest.length cv) u 0 (W7.drewN nq) from HROW.out)
        clear c0 c1
        generalize hWd : W7.drewN nq = Wd at *
        go_wp2_with (first | (with_reducible refine wpList_load_row rfl 35 (.tmp 4) rfl W0.heap.size rfl 35 (rArr ({ zRecV with kind := 3, index := n, ent := ⟨m, cx⟩ } : RecR) (.slice a9 q9 r9) (.slice none 0 0) (.slice none 0 0) (.slice none 0 0)) (0, 0) _ HXd.out Try.underlying35 rfl (by kernel_rfl) ?_) | fail)
        refine (Rc.may_any { zRecV with kind := 3, index := n, ent := ⟨m, cx⟩ } _ _ HISd.out).mono ?_
        rintro E W9 ⟨b, rfl, hb, hb9⟩
        have HB9 := Lib.hid (HBd.out.trans (hb9.mono HBd.out.size))
        have HQ9 := Lib.hid ((hb9.block _ (row_lt HQd.out)).trans HQd.out)
        have HX9 := Lib.hid ((hb9.block _ (row_lt HXd.out)).trans HXd.out)
        have HIS9 := Lib.hid (HISd.out.below hb9 (Nat.le_refl _))
        have HO9 : Hid (RecO W9 B0 { zRecV with kind := 3, index := n, ent := ⟨m, cx⟩ } (.slice a9 q9 r9) (.slice none 0 0) (.slice none 0 0) (.slice none 0 0)) := Lib.hid (by
          obtain ⟨o1, o2, o3, o4⟩ := HRO.out
          have hbd := (show Below W7.heap.size W7 Wd by rw [← hWd]; exact Nd.below_drewN _ _)
          have hbx := hbd.trans (hb9.mono hbd.size)
          exact ⟨own_belowx hbx o1, own_belowx hbx o2, own_belowx hbx o3, own_belowx hbx o4⟩)
        clear hb9
        cases b with
        | true =>
          have HDV := Lib.hid (HF.out.2.2.1 rfl HLN.out (hb.1 rfl))
          obtain ⟨WZ, hWZ⟩ : ∃ q, W9.setRow w.heap.size (rArr ({ zRecV with kind := 3, index := n, ent := ⟨m, cx⟩ } : RecR) (.slice a9 q9 r9) (.slice none 0 0) (.slice none 0 0) (.slice none 0 0)) = q := ⟨_, rfl⟩
          have HQZ : Hid (WZ.heap[w.heap.size]? = some (.cells (rArr ({ zRecV with kind := 3, index := n, ent := ⟨m, cx⟩ } : RecR) (.slice a9 q9 r9) (.slice none 0 0) (.slice none 0 0) (.slice none 0 0)) 35 (0, 0))) := Lib.hid (by rw [← hWZ]; exact setRow_heap _ _ _ _ _ _ HQ9.out)
          have HFIN : Hid (DecRE zs w (.returned (.tuple #[.agg (rArr ({ zRecV with kind := 3, index := n, ent := ⟨m, cx⟩ } : RecR) (.slice a9 q9 r9) (.slice none 0 0) (.slice none 0 0) (.slice none 0 0)), .int .i64 0])) WZ) := Lib.hid (by
            have hx : Only (· = w.heap.size) W9 WZ := by rw [← hWZ]; exact only_row _ _ _
            exact ⟨{ zRecV with kind := 3, index := n, ent := ⟨m, cx⟩ }, 0, _, _, _, _, rfl, HDV.out, (HO9.out.row HQ9.out hx).is HRW.out, by rw [← hWZ]; exact Ld.below_row HB9.out (Nat.le_refl _) _⟩)
          clear hb
          go_wp2_with (first
            | (with_reducible refine wpList_load_row rfl 35 (.tmp 4) rfl W0.heap.size rfl 35 (rArr ({ zRecV with kind := 3, index := n, ent := ⟨m, cx⟩ } : RecR) (.slice a9 q9 r9) (.slice none 0 0) (.slice none 0 0) (.slice none 0 0)) (0, 0) _ HX9.out Try.underlying35 rfl (by kernel_rfl) ?_)
            | (with_reducible refine wpList_store_row rfl 35 (.tmp 2) (.tmp 94) rfl w.heap.size (rArr ({ zRecV with kind := 3, index := n, ent := ⟨m, cx⟩ } : RecR) (.slice a9 q9 r9) (.slice none 0 0) (.slice none 0 0) (.slice none 0 0)) rfl rfl 35 _ HQ9.out (by kernel_rfl) rfl (rArr_one _ _ _ _ _ _ _ _ _ _ _ _ _) ?_; rw [hWZ]; clear hWZ))
          refine bodyPost_ret (v := .tuple #[.agg (rArr ({ zRecV with kind := 3, index := n, ent := ⟨m, cx⟩ } : RecR) (.slice a9 q9 r9) (.slice none 0 0) (.slice none 0 0) (.slice none 0 0)), .int .i64 0]) (results_c2 rfl _ _ w.heap.size 35 _ (0, 0) _ rfl HQZ.out Try.underlying35 rfl (by kernel_rfl) rfl) rfl ?_
          exact HFIN.out
        | false =>
          have HDV := Lib.hid (HF.out.2.2.2 rfl HLN.out (fun q => by cases hb.2 q))
          obtain ⟨WZ, hWZ⟩ : ∃ q, W9.setRow w.heap.size zR = q := ⟨_, rfl⟩
          have HQZ : Hid (WZ.heap[w.heap.size]? = some (.cells zR 35 (0, 0))) := Lib.hid (by rw [← hWZ]; exact setRow_heap _ _ _ _ _ _ HQ9.out)
          have HFIN := Lib.hid (decR_nil (w := w) (W := WZ) HDV.out (by rw [← hWZ]; exact Ld.below_row HB9.out (Nat.le_refl _) _))
          clear hb
          go_wp2_with (first | (with_reducible refine wpList_store_row rfl 35 (.tmp 2) (.tmp 93) rfl w.heap.size zR rfl rfl 35 _ HQ9.out (by kernel_rfl) rfl zR_one ?_; rw [hWZ]; clear hWZ) | fail)
          refine bodyPost_ret (v := .tuple #[.agg zR, .int .i64 130]) (results_c2 rfl _ _ w.heap.size 35 _ (0, 0) _ rfl HQZ.out Try.underlying35 rfl (by kernel_rfl) rfl) rfl ?_
          exact HFIN.out
    · have hne : (e != 0) = true := by rw [bne, beq_eq_false_iff_ne.2 he]; rfl
      have hne2 : (e == 0) = false := beq_eq_false_iff_ne.2 he
      have HDV := Lib.hid (HF.out.1 he)
      have c0 := RB.c0 hrow
      have c1 := RB.c1 hrow
      have c2 := RB.c2 hrow
      clear hu2 hrow he
      go_wp2_with (first
        | (refine wpList_store_mid rfl 25 (.tmp 50) (.tmp 48) rfl W0.heap.size 6 (cArr cx (.slice a9 q9 r9)) rfl rfl hth (by kernel_rfl) (cArr_one _ _ _ _) ?_; rw [hW7]; clear hW7 hth)
          | fail)
      try go_frame
      go_quiet (fail)
      rename_i nq
      have c2 := RB.c2 (show RB wc.heap.size (.slice av rest.length cv) u e (W7.drewN nq) from HROW.out)
      have HROWd : Hid (RB wc.heap.size (.slice av rest.length cv) u e (W7.drewN nq)) := Lib.hid HROW.out
      have HBd : Hid (Below w.heap.size w (W7.drewN nq)) := Lib.hid (HB.out.trans ((Nd.below_drewN _ _).mono HB.out.size))
      have HQd : Hid ((W7.drewN nq).heap[w.heap.size]? = some (.cells zR 35 (0, 0))) := Lib.hid HQ.out
      clear c0 c1
      generalize hWd : W7.drewN nq = Wd at *
      go_upto_region 25 with (fail)
      obtain ⟨WZ, hWZ⟩ : ∃ q, Wd.drew.setRow w.heap.size zR = q := ⟨_, rfl⟩
      have HQD : Hid (Wd.drew.heap[w.heap.size]? = some (.cells zR 35 (0, 0))) := Lib.hid HQd.out
      have HQZ : Hid (WZ.heap[w.heap.size]? = some (.cells zR 35 (0, 0))) := Lib.hid (by rw [← hWZ]; exact setRow_heap _ _ _ _ _ _ HQD.out)
      have HRZ : Hid (WZ.heap[wc.heap.size]? = some (.cells (rA (.slice av rest.length cv) u e) 57 (0, 0))) := Lib.hid (by have := HGC.out; rw [← hWZ]; exact (setRow_other _ _ _ _ (by omega)).trans HROWd.out)
      have HFIN := Lib.hid (decR_nil (w := w) (W := WZ) HDV.out (by rw [← hWZ]; exact Ld.below_row HBd.out.drew (Nat.le_refl _) _))
      refine wp_region_held_drew (S := fun w' => w'.heap[wc.heap.size]? = some (.cells (rA (.slice av rest.length cv) u e) 57 (0, 0))) (by kernel_rfl) HROWd.out (fun hHeld => ?_)
      refine wpAnyH_take (i := 0) (v := (.agg zR)) rfl (by kernel_rfl) (by kernel_rfl) (by kernel_rfl) (fun _ _ _ h => h) (Or.inl ⟨by kernel_rfl, ?_⟩) (by assumption) ?_
      · intro wx hSw
        clear hSw hHeld
        go_simp
        try first | with_reducible rfl | kernel_rfl
      simp only [Act.put, List.getElem_toArray, List.getElem_cons_zero, List.setIfInBounds_toArray, List.set_cons_succ, List.set_cons_zero]
      refine wpAnyH_take (i := 1) (v := .pointer (some ⟨wc.heap.size, 0, none⟩)) rfl (by kernel_rfl) (by kernel_rfl) (by kernel_rfl) (fun _ _ _ h => h) (Or.inl ⟨by kernel_rfl, ?_⟩) (by assumption) ?_
      · intro wx hSw
        clear hSw hHeld
        go_simp
        try first | with_reducible rfl | kernel_rfl
      simp only [Act.put, List.getElem_toArray, List.getElem_cons_succ, List.getElem_cons_zero, List.setIfInBounds_toArray, List.set_cons_succ, List.set_cons_zero]
      refine wpAnyH_take (i := 2) (v := .pointer (some ⟨wc.heap.size, 0, none⟩)) rfl (by kernel_rfl) (by kernel_rfl) (by kernel_rfl) (fun _ _ _ h => h) (Or.inl ⟨by kernel_rfl, ?_⟩) (by assumption) ?_
      · intro wx hSw
        clear hSw hHeld
        go_simp
        try first | with_reducible rfl | kernel_rfl
      simp only [Act.put, List.getElem_toArray, List.getElem_cons_succ, List.getElem_cons_zero, List.setIfInBounds_toArray, List.set_cons_succ, List.set_cons_zero]
      refine wpAnyH_take (i := 3) (v := .pointer (some ⟨wc.heap.size, 2, none⟩)) rfl (by kernel_rfl) (by kernel_rfl) (by kernel_rfl) (fun _ _ _ h => h) (Or.inl ⟨by kernel_rfl, ?_⟩) (by assumption) ?_
      · intro wx hSw
        clear hSw hHeld
        go_simp
        try first | with_reducible rfl | kernel_rfl
      simp only [Act.put, List.getElem_toArray, List.getElem_cons_succ, List.getElem_cons_zero, List.setIfInBounds_toArray, List.set_cons_succ, List.set_cons_zero]
      refine wpAnyH_take (i := 4) (v := (.int .i64 e)) rfl (by kernel_rfl) (by kernel_rfl) (by kernel_rfl) (fun _ _ _ h => h) (Or.inl ⟨by kernel_rfl, ?_⟩) (by assumption) ?_
      · intro wx hSw
        have cc : wx.cell? ⟨wc.heap.size, 2, none⟩ = some (.int .i64 e) := (cell_of_row wx _ 2 _ _ _ hSw).trans rfl
        clear hSw hHeld
        go_simp
        try first | with_reducible rfl | kernel_rfl
      simp only [Act.put, List.getElem_toArray, List.getElem_cons_succ, List.getElem_cons_zero, List.setIfInBounds_toArray, List.set_cons_succ, List.set_cons_zero]
      refine wpAnyH_ready (rs := [5]) (by kernel_rfl) (by simp) ?_
      refine AllReadyH.cons rfl (fun K hK => ?_) AllReadyH.nil
      rw [if_pos (by kernel_rfl)]
      refine wp_store_row 35 (.tmp 2) (.tmp 85) (by kernel_rfl) w.heap.size zR (by kernel_rfl) (by kernel_rfl) 35 zR HQD.out (by kernel_rfl) (by kernel_rfl) zR_one ?_
      rw [hWZ]
      clear hHeld
      refine hK.out _ _ HRZ.out (fun hHeld => ?_)
      clear hK K
      refine wpAnyH_take (i := 6) (v := (.int .i64 e)) rfl (by kernel_rfl) (by kernel_rfl) (by kernel_rfl) (fun _ _ _ h => h) (Or.inl ⟨by kernel_rfl, ?_⟩) (by assumption) ?_
      · intro wx hSw
        clear hSw hHeld
        go_simp
        try first | with_reducible rfl | kernel_rfl
      simp only [Act.put, List.getElem_toArray, List.getElem_cons_succ, List.getElem_cons_zero, List.setIfInBounds_toArray, List.set_cons_succ, List.set_cons_zero]
      refine wpAnyH_done (by kernel_rfl) ?_ _
      clear hHeld
      go_wp2_with fail
      refine bodyPost_ret (v := .tuple #[.agg zR, .int .i64 e]) (results_c2 rfl _ _ w.heap.size 35 _ (0, 0) _ rfl HQZ.out Try.underlying35 rfl (by kernel_rfl) rfl) rfl ?_
      exact HFIN.out
  by_cases hx4 : x = 4
  · subst hx4
    go_enter Try.func11, Try.ntmps11
    rcases hy : wideS (rest, 0) with ⟨n, ⟨l, e⟩⟩
    have HYW := Lib.hid (wideS_wf hy)
    have HF := Lib.hid (fin_4' HZ.out HNL.out hy)
    go_wp2_with (first | (with_reducible refine wpList_store_row rfl 35 (.tmp 4) (.tmp 16) rfl W0.heap.size (rArr ({ zRecV with kind := 4 } : RecR) (.slice none 0 0) (.slice none 0 0) (.slice none 0 0) (.slice none 0 0)) rfl rfl 35 _ hsR (by kernel_rfl) rfl (rArr_one _ _ _ _ _ _ _ _ _ _ _ _ _) ?_; rw [hW3]; clear hW3 hsR) | fail)
    refine (wideD hy HI4.out.2.2.1).mono ?_
    rintro E w5 ⟨rfl, hr5, ho5, -⟩
    have HI5 := Lib.hid (HI4.out.call hr5 ho5)
    have HSZ5 := Lib.hid ho5.2.2.2.1
    have cc5 := (cell_of_row w5 _ 4 _ _ _ HI5.out.2.1).trans rfl
    have ff5 : w5.frozen? ⟨W0.heap.size, 4, none⟩ = false := frozen_of_row _ _ 4 _ _ HI5.out.2.1
    obtain ⟨W5, hW5⟩ : ∃ y, w5.setCell ⟨W0.heap.size, 4, none⟩ (.int .u64 n) = y := ⟨_, rfl⟩
    have HJ5 : Hid (RecD w W0.heap.size wc.heap.size rest (l, e) { zRecV with kind := 4, index := n } (.slice none 0 0) (.slice none 0 0) (.slice none 0 0) (.slice none 0 0) W5) := Lib.hid (HI5.out.put (r' := { zRecV with kind := 4, index := n }) (by rw [← hW5]; exact Only.setCell _ _ _ rfl) (by rw [← hW5, heap_setCell_same _ _ 4 _ _ _ HI5.out.2.1]; rfl) (noB_rec _ _ _ _ _ _ _ _ _ _ _ _ _))
    clear hr5 ho5
    have HO : Hid (e = 0 → RecO W5 B0 { zRecV with kind := 4, index := n } (.slice none 0 0) (.slice none 0 0) (.slice none 0 0) (.slice none 0 0) ∧ RecW { zRecV with kind := 4, index := n }) := Lib.hid (fun _ => ⟨⟨OwnK.nil _ _ _ _, OwnK.nil _ _ _ _, OwnR.nil _ _ _, OwnR.nil _ _ _⟩, ⟨⟨ki4, zi, zu, zu, HYW.out, zEnt_wf, zSho_wf⟩, by simp [zRecV, zEntV], by simp [zRecV, zShoV]⟩⟩)
    obtain ⟨vd, u, hrow, hsl, hu1, hu2⟩ := id HJ5.out.2.2.1
    dsimp only at hrow hu2
    obtain ⟨av, cv, rfl, -⟩ := id hsl
    have HROW := Lib.hid hrow
    have HQ := Lib.hid HJ5.out.1
    have HB := Lib.hid HJ5.out.2.2.2.1
    have HX := Lib.hid HJ5.out.2.1
    clear hsl hu1
    by_cases he : e = 0
    · subst he
      obtain ⟨huu, hul⟩ := hu2 rfl
      by_cases hll : u < rest.length
      · have HDV := Lib.hid (HF.out.2.1 rfl (by intro q; have q2 := congrArg List.length (hul.symm.trans q); rw [List.length_drop] at q2; simp only [List.length_nil] at q2; omega))
        have hll2 : (u : Int) < (rest.length : Int) := by omega
        have c0 := RB.c0 hrow
        have c1 := RB.c1 hrow
        have c2 := RB.c2 hrow
        clear hul huu hll hu2 hrow
        go_wp2_with (first
          | fail)
        go_quiet (fail)
        rename_i nq
        have HROWd : Hid (RB wc.heap.size (.slice av rest.length cv) u 0 (W5.drewN nq)) := Lib.hid HROW.out
        clear c0 c1 c2
        go_wp2_with fail
        refine (fail_any wc.heap.size _ u 0 11 _ HROWd.out).mono ?_
        rintro E W8 ⟨rfl, hr8, ho8, -⟩
        have HROW8 : Hid (RB wc.heap.size (.slice av rest.length cv) u 11 W8) := Lib.hid hr8
        have HQ8 := Lib.hid ((ho8.2.2.2.2 _ (row_lt HQ.out) (by have := HGC.out; omega)).trans HQ.out)
        have HB8 : Hid (Below w.heap.size w W8) := Lib.hid (ho8.below (HB.out.trans ((Nd.below_drewN _ _).mono HB.out.size)) (HB.out.trans ((Nd.below_drewN _ _).mono HB.out.size)).size (fun k hk => by have := HGC.out; omega))
        have c2 := RB.c2 HROW8.out
        clear hr8 ho8 HROWd
        go_upto_region 25 with (fail)
        obtain ⟨WZ, hWZ⟩ : ∃ q, W8.drew.setRow w.heap.size zR = q := ⟨_, rfl⟩
        have HQD : Hid (W8.drew.heap[w.heap.size]? = some (.cells zR 35 (0, 0))) := Lib.hid HQ8.out
        have HQZ : Hid (WZ.heap[w.heap.size]? = some (.cells zR 35 (0, 0))) := Lib.hid (by rw [← hWZ]; exact setRow_heap _ _ _ _ _ _ HQD.out)
        have HRZ : Hid (WZ.heap[wc.heap.size]? = some (.cells (rA (.slice av rest.length cv) u 11) 57 (0, 0))) := Lib.hid (by have := HGC.out; rw [← hWZ]; exact (setRow_other _ _ _ _ (by omega)).trans HROW8.out)
        have HFIN := Lib.hid (decR_nil (w := w) (W := WZ) HDV.out (by rw [← hWZ]; exact Ld.below_row HB8.out.drew (Nat.le_refl _) _))
        refine wp_region_held_drew (S := fun w' => w'.heap[wc.heap.size]? = some (.cells (rA (.slice av rest.length cv) u 11) 57 (0, 0))) (by kernel_rfl) HROW8.out (fun hHeld => ?_)
        refine wpAnyH_take (i := 0) (v := (.agg zR)) rfl (by kernel_rfl) (by kernel_rfl) (by kernel_rfl) (fun _ _ _ h => h) (Or.inl ⟨by kernel_rfl, ?_⟩) (by assumption) ?_
        · intro wx hSw
          clear hSw hHeld
          go_simp
          try first | with_reducible rfl | kernel_rfl
        simp only [Act.put, List.getElem_toArray, List.getElem_cons_zero, List.setIfInBounds_toArray, List.set_cons_succ, List.set_cons_zero]
        refine wpAnyH_take (i := 1) (v := .pointer (some ⟨wc.heap.size, 0, none⟩)) rfl (by kernel_rfl) (by kernel_rfl) (by kernel_rfl) (fun _ _ _ h => h) (Or.inl ⟨by kernel_rfl, ?_⟩) (by assumption) ?_
        · intro wx hSw
          clear hSw hHeld
          go_simp
          try first | with_reducible rfl | kernel_rfl
        simp only [Act.put, List.getElem_toArray, List.getElem_cons_succ, List.getElem_cons_zero, List.setIfInBounds_toArray, List.set_cons_succ, List.set_cons_zero]
        refine wpAnyH_take (i := 2) (v := .pointer (some ⟨wc.heap.size, 0, none⟩)) rfl (by kernel_rfl) (by kernel_rfl) (by kernel_rfl) (fun _ _ _ h => h) (Or.inl ⟨by kernel_rfl, ?_⟩) (by assumption) ?_
        · intro wx hSw
          clear hSw hHeld
          go_simp
          try first | with_reducible rfl | kernel_rfl
        simp only [Act.put, List.getElem_toArray, List.getElem_cons_succ, List.getElem_cons_zero, List.setIfInBounds_toArray, List.set_cons_succ, List.set_cons_zero]
        refine wpAnyH_take (i := 3) (v := .pointer (some ⟨wc.heap.size, 2, none⟩)) rfl (by kernel_rfl) (by kernel_rfl) (by kernel_rfl) (fun _ _ _ h => h) (Or.inl ⟨by kernel_rfl, ?_⟩) (by assumption) ?_
        · intro wx hSw
          clear hSw hHeld
          go_simp
          try first | with_reducible rfl | kernel_rfl
        simp only [Act.put, List.getElem_toArray, List.getElem_cons_succ, List.getElem_cons_zero, List.setIfInBounds_toArray, List.set_cons_succ, List.set_cons_zero]
        refine wpAnyH_take (i := 4) (v := (.int .i64 11)) rfl (by kernel_rfl) (by kernel_rfl) (by kernel_rfl) (fun _ _ _ h => h) (Or.inl ⟨by kernel_rfl, ?_⟩) (by assumption) ?_
        · intro wx hSw
          have cc : wx.cell? ⟨wc.heap.size, 2, none⟩ = some (.int .i64 11) := (cell_of_row wx _ 2 _ _ _ hSw).trans rfl
          clear hSw hHeld
          go_simp
          try first | with_reducible rfl | kernel_rfl
        simp only [Act.put, List.getElem_toArray, List.getElem_cons_succ, List.getElem_cons_zero, List.setIfInBounds_toArray, List.set_cons_succ, List.set_cons_zero]
        refine wpAnyH_ready (rs := [5]) (by kernel_rfl) (by simp) ?_
        refine AllReadyH.cons rfl (fun K hK => ?_) AllReadyH.nil
        rw [if_pos (by kernel_rfl)]
        refine wp_store_row 35 (.tmp 2) (.tmp 85) (by kernel_rfl) w.heap.size zR (by kernel_rfl) (by kernel_rfl) 35 zR HQD.out (by kernel_rfl) (by kernel_rfl) zR_one ?_
        rw [hWZ]
        clear hHeld
        refine hK.out _ _ HRZ.out (fun hHeld => ?_)
        clear hK K
        refine wpAnyH_take (i := 6) (v := (.int .i64 11)) rfl (by kernel_rfl) (by kernel_rfl) (by kernel_rfl) (fun _ _ _ h => h) (Or.inl ⟨by kernel_rfl, ?_⟩) (by assumption) ?_
        · intro wx hSw
          clear hSw hHeld
          go_simp
          try first | with_reducible rfl | kernel_rfl
        simp only [Act.put, List.getElem_toArray, List.getElem_cons_succ, List.getElem_cons_zero, List.setIfInBounds_toArray, List.set_cons_succ, List.set_cons_zero]
        refine wpAnyH_done (by kernel_rfl) ?_ _
        clear hHeld
        go_wp2_with fail
        refine bodyPost_ret (v := .tuple #[.agg zR, .int .i64 11]) (results_c2 rfl _ _ w.heap.size 35 _ (0, 0) _ rfl HQZ.out Try.underlying35 rfl (by kernel_rfl) rfl) rfl ?_
        exact HFIN.out
      · have hl0 : l = [] := by rw [hul]; exact List.drop_eq_nil_of_le (by omega)
        have hll2 : ¬ (u : Int) < (rest.length : Int) := by omega
        have HLN := Lib.hid hl0
        obtain ⟨hro, hrw⟩ := HO.out rfl
        have HRO := Lib.hid hro
        have HRW := Lib.hid hrw
        have c0 := RB.c0 hrow
        have c1 := RB.c1 hrow
        have c2 := RB.c2 hrow
        clear hul huu hll hu2 hrow hl0 hro hrw
        go_wp2_with (first
          | fail)
        go_quiet (fail)
        rename_i nq
        have HXd : Hid ((W5.drewN nq).heap[W0.heap.size]? = some (.cells (rArr ({ zRecV with kind := 4, index := n } : RecR) (.slice none 0 0) (.slice none 0 0) (.slice none 0 0) (.slice none 0 0)) 35 (0, 0))) := Lib.hid HX.out
        have HBd : Hid (Below w.heap.size w (W5.drewN nq)) := Lib.hid (HB.out.trans ((Nd.below_drewN _ _).mono HB.out.size))
        have HQd : Hid ((W5.drewN nq).heap[w.heap.size]? = some (.cells zR 35 (0, 0))) := Lib.hid HQ.out
        have HISd : Hid (IsRec (W5.drewN nq) (.agg (rArr ({ zRecV with kind := 4, index := n } : RecR) (.slice none 0 0) (.slice none 0 0) (.slice none 0 0) (.slice none 0 0))) { zRecV with kind := 4, index := n }) := Lib.hid ((HRO.out.is HRW.out).below (Nd.below_drewN _ _) (Nat.le_refl _))
        have c2 := RB.c2 (show RB wc.heap.size (.slice av rest.length cv) u 0 (W5.drewN nq) from HROW.out)
        clear c0 c1
        generalize hWd : W5.drewN nq = Wd at *
        go_wp2_with (first | (with_reducible refine wpList_load_row rfl 35 (.tmp 4) rfl W0.heap.size rfl 35 (rArr ({ zRecV with kind := 4, index := n } : RecR) (.slice none 0 0) (.slice none 0 0) (.slice none 0 0) (.slice none 0 0)) (0, 0) _ HXd.out Try.underlying35 rfl (by kernel_rfl) ?_) | fail)
        refine (Rc.may_any { zRecV with kind := 4, index := n } _ _ HISd.out).mono ?_
        rintro E W9 ⟨b, rfl, hb, hb9⟩
        have HB9 := Lib.hid (HBd.out.trans (hb9.mono HBd.out.size))
        have HQ9 := Lib.hid ((hb9.block _ (row_lt HQd.out)).trans HQd.out)
        have HX9 := Lib.hid ((hb9.block _ (row_lt HXd.out)).trans HXd.out)
        have HIS9 := Lib.hid (HISd.out.below hb9 (Nat.le_refl _))
        have HO9 : Hid (RecO W9 B0 { zRecV with kind := 4, index := n } (.slice none 0 0) (.slice none 0 0) (.slice none 0 0) (.slice none 0 0)) := Lib.hid (by
          obtain ⟨o1, o2, o3, o4⟩ := HRO.out
          have hbd := (show Below W5.heap.size W5 Wd by rw [← hWd]; exact Nd.below_drewN _ _)
          have hbx := hbd.trans (hb9.mono hbd.size)
          exact ⟨own_belowx hbx o1, own_belowx hbx o2, own_belowx hbx o3, own_belowx hbx o4⟩)
        clear hb9
        cases b with
        | true =>
          have HDV := Lib.hid (HF.out.2.2.1 rfl HLN.out (hb.1 rfl))
          obtain ⟨WZ, hWZ⟩ : ∃ q, W9.setRow w.heap.size (rArr ({ zRecV with kind := 4, index := n } : RecR) (.slice none 0 0) (.slice none 0 0) (.slice none 0 0) (.slice none 0 0)) = q := ⟨_, rfl⟩
          have HQZ : Hid (WZ.heap[w.heap.size]? = some (.cells (rArr ({ zRecV with kind := 4, index := n } : RecR) (.slice none 0 0) (.slice none 0 0) (.slice none 0 0) (.slice none 0 0)) 35 (0, 0))) := Lib.hid (by rw [← hWZ]; exact setRow_heap _ _ _ _ _ _ HQ9.out)
          have HFIN : Hid (DecRE zs w (.returned (.tuple #[.agg (rArr ({ zRecV with kind := 4, index := n } : RecR) (.slice none 0 0) (.slice none 0 0) (.slice none 0 0) (.slice none 0 0)), .int .i64 0])) WZ) := Lib.hid (by
            have hx : Only (· = w.heap.size) W9 WZ := by rw [← hWZ]; exact only_row _ _ _
            exact ⟨{ zRecV with kind := 4, index := n }, 0, _, _, _, _, rfl, HDV.out, (HO9.out.row HQ9.out hx).is HRW.out, by rw [← hWZ]; exact Ld.below_row HB9.out (Nat.le_refl _) _⟩)
          clear hb
          go_wp2_with (first
            | (with_reducible refine wpList_load_row rfl 35 (.tmp 4) rfl W0.heap.size rfl 35 (rArr ({ zRecV with kind := 4, index := n } : RecR) (.slice none 0 0) (.slice none 0 0) (.slice none 0 0) (.slice none 0 0)) (0, 0) _ HX9.out Try.underlying35 rfl (by kernel_rfl) ?_)
            | (with_reducible refine wpList_store_row rfl 35 (.tmp 2) (.tmp 94) rfl w.heap.size (rArr ({ zRecV with kind := 4, index := n } : RecR) (.slice none 0 0) (.slice none 0 0) (.slice none 0 0) (.slice none 0 0)) rfl rfl 35 _ HQ9.out (by kernel_rfl) rfl (rArr_one _ _ _ _ _ _ _ _ _ _ _ _ _) ?_; rw [hWZ]; clear hWZ))
          refine bodyPost_ret (v := .tuple #[.agg (rArr ({ zRecV with kind := 4, index := n } : RecR) (.slice none 0 0) (.slice none 0 0) (.slice none 0 0) (.slice none 0 0)), .int .i64 0]) (results_c2 rfl _ _ w.heap.size 35 _ (0, 0) _ rfl HQZ.out Try.underlying35 rfl (by kernel_rfl) rfl) rfl ?_
          exact HFIN.out
        | false =>
          have HDV := Lib.hid (HF.out.2.2.2 rfl HLN.out (fun q => by cases hb.2 q))
          obtain ⟨WZ, hWZ⟩ : ∃ q, W9.setRow w.heap.size zR = q := ⟨_, rfl⟩
          have HQZ : Hid (WZ.heap[w.heap.size]? = some (.cells zR 35 (0, 0))) := Lib.hid (by rw [← hWZ]; exact setRow_heap _ _ _ _ _ _ HQ9.out)
          have HFIN := Lib.hid (decR_nil (w := w) (W := WZ) HDV.out (by rw [← hWZ]; exact Ld.below_row HB9.out (Nat.le_refl _) _))
          clear hb
          go_wp2_with (first | (with_reducible refine wpList_store_row rfl 35 (.tmp 2) (.tmp 93) rfl w.heap.size zR rfl rfl 35 _ HQ9.out (by kernel_rfl) rfl zR_one ?_; rw [hWZ]; clear hWZ) | fail)
          refine bodyPost_ret (v := .tuple #[.agg zR, .int .i64 130]) (results_c2 rfl _ _ w.heap.size 35 _ (0, 0) _ rfl HQZ.out Try.underlying35 rfl (by kernel_rfl) rfl) rfl ?_
          exact HFIN.out
    · have hne : (e != 0) = true := by rw [bne, beq_eq_false_iff_ne.2 he]; rfl
      have hne2 : (e == 0) = false := beq_eq_false_iff_ne.2 he
      have HDV := Lib.hid (HF.out.1 he)
      have c0 := RB.c0 hrow
      have c1 := RB.c1 hrow
      have c2 := RB.c2 hrow
      clear hu2 hrow he
      go_wp2_with (first
        | fail)
      try go_frame
      go_quiet (fail)
      rename_i nq
      have c2 := RB.c2 (show RB wc.heap.size (.slice av rest.length cv) u e (W5.drewN nq) from HROW.out)
      have HROWd : Hid (RB wc.heap.size (.slice av rest.length cv) u e (W5.drewN nq)) := Lib.hid HROW.out
      have HBd : Hid (Below w.heap.size w (W5.drewN nq)) := Lib.hid (HB.out.trans ((Nd.below_drewN _ _).mono HB.out.size))
      have HQd : Hid ((W5.drewN nq).heap[w.heap.size]? = some (.cells zR 35 (0, 0))) := Lib.hid HQ.out
      clear c0 c1
      generalize hWd : W5.drewN nq = Wd at *
      go_upto_region 25 with (fail)
      obtain ⟨WZ, hWZ⟩ : ∃ q, Wd.drew.setRow w.heap.size zR = q := ⟨_, rfl⟩
      have HQD : Hid (Wd.drew.heap[w.heap.size]? = some (.cells zR 35 (0, 0))) := Lib.hid HQd.out
      have HQZ : Hid (WZ.heap[w.heap.size]? = some (.cells zR 35 (0, 0))) := Lib.hid (by rw [← hWZ]; exact setRow_heap _ _ _ _ _ _ HQD.out)
      have HRZ : Hid (WZ.heap[wc.heap.size]? = some (.cells (rA (.slice av rest.length cv) u e) 57 (0, 0))) := Lib.hid (by have := HGC.out; rw [← hWZ]; exact (setRow_other _ _ _ _ (by omega)).trans HROWd.out)
      have HFIN := Lib.hid (decR_nil (w := w) (W := WZ) HDV.out (by rw [← hWZ]; exact Ld.below_row HBd.out.drew (Nat.le_refl _) _))
      refine wp_region_held_drew (S := fun w' => w'.heap[wc.heap.size]? = some (.cells (rA (.slice av rest.length cv) u e) 57 (0, 0))) (by kernel_rfl) HROWd.out (fun hHeld => ?_)
      refine wpAnyH_take (i := 0) (v := (.agg zR)) rfl (by kernel_rfl) (by kernel_rfl) (by kernel_rfl) (fun _ _ _ h => h) (Or.inl ⟨by kernel_rfl, ?_⟩) (by assumption) ?_
      · intro wx hSw
        clear hSw hHeld
        go_simp
        try first | with_reducible rfl | kernel_rfl
      simp only [Act.put, List.getElem_toArray, List.getElem_cons_zero, List.setIfInBounds_toArray, List.set_cons_succ, List.set_cons_zero]
      refine wpAnyH_take (i := 1) (v := .pointer (some ⟨wc.heap.size, 0, none⟩)) rfl (by kernel_rfl) (by kernel_rfl) (by kernel_rfl) (fun _ _ _ h => h) (Or.inl ⟨by kernel_rfl, ?_⟩) (by assumption) ?_
      · intro wx hSw
        clear hSw hHeld
        go_simp
        try first | with_reducible rfl | kernel_rfl
      simp only [Act.put, List.getElem_toArray, List.getElem_cons_succ, List.getElem_cons_zero, List.setIfInBounds_toArray, List.set_cons_succ, List.set_cons_zero]
      refine wpAnyH_take (i := 2) (v := .pointer (some ⟨wc.heap.size, 0, none⟩)) rfl (by kernel_rfl) (by kernel_rfl) (by kernel_rfl) (fun _ _ _ h => h) (Or.inl ⟨by kernel_rfl, ?_⟩) (by assumption) ?_
      · intro wx hSw
        clear hSw hHeld
        go_simp
        try first | with_reducible rfl | kernel_rfl
      simp only [Act.put, List.getElem_toArray, List.getElem_cons_succ, List.getElem_cons_zero, List.setIfInBounds_toArray, List.set_cons_succ, List.set_cons_zero]
      refine wpAnyH_take (i := 3) (v := .pointer (some ⟨wc.heap.size, 2, none⟩)) rfl (by kernel_rfl) (by kernel_rfl) (by kernel_rfl) (fun _ _ _ h => h) (Or.inl ⟨by kernel_rfl, ?_⟩) (by assumption) ?_
      · intro wx hSw
        clear hSw hHeld
        go_simp
        try first | with_reducible rfl | kernel_rfl
      simp only [Act.put, List.getElem_toArray, List.getElem_cons_succ, List.getElem_cons_zero, List.setIfInBounds_toArray, List.set_cons_succ, List.set_cons_zero]
      refine wpAnyH_take (i := 4) (v := (.int .i64 e)) rfl (by kernel_rfl) (by kernel_rfl) (by kernel_rfl) (fun _ _ _ h => h) (Or.inl ⟨by kernel_rfl, ?_⟩) (by assumption) ?_
      · intro wx hSw
        have cc : wx.cell? ⟨wc.heap.size, 2, none⟩ = some (.int .i64 e) := (cell_of_row wx _ 2 _ _ _ hSw).trans rfl
        clear hSw hHeld
        go_simp
        try first | with_reducible rfl | kernel_rfl
      simp only [Act.put, List.getElem_toArray, List.getElem_cons_succ, List.getElem_cons_zero, List.setIfInBounds_toArray, List.set_cons_succ, List.set_cons_zero]
      refine wpAnyH_ready (rs := [5]) (by kernel_rfl) (by simp) ?_
      refine AllReadyH.cons rfl (fun K hK => ?_) AllReadyH.nil
      rw [if_pos (by kernel_rfl)]
      refine wp_store_row 35 (.tmp 2) (.tmp 85) (by kernel_rfl) w.heap.size zR (by kernel_rfl) (by kernel_rfl) 35 zR HQD.out (by kernel_rfl) (by kernel_rfl) zR_one ?_
      rw [hWZ]
      clear hHeld
      refine hK.out _ _ HRZ.out (fun hHeld => ?_)
      clear hK K
      refine wpAnyH_take (i := 6) (v := (.int .i64 e)) rfl (by kernel_rfl) (by kernel_rfl) (by kernel_rfl) (fun _ _ _ h => h) (Or.inl ⟨by kernel_rfl, ?_⟩) (by assumption) ?_
      · intro wx hSw
        clear hSw hHeld
        go_simp
        try first | with_reducible rfl | kernel_rfl
      simp only [Act.put, List.getElem_toArray, List.getElem_cons_succ, List.getElem_cons_zero, List.setIfInBounds_toArray, List.set_cons_succ, List.set_cons_zero]
      refine wpAnyH_done (by kernel_rfl) ?_ _
      clear hHeld
      go_wp2_with fail
      refine bodyPost_ret (v := .tuple #[.agg zR, .int .i64 e]) (results_c2 rfl _ _ w.heap.size 35 _ (0, 0) _ rfl HQZ.out Try.underlying35 rfl (by kernel_rfl) rfl) rfl ?_
      exact HFIN.out
  by_cases hx5 : x = 5
  · subst hx5
    go_enter Try.func11, Try.ntmps11
    rcases hy : shotR (rest, 0) with ⟨s5, ⟨l, e⟩⟩
    have HF := Lib.hid (fin_5' HZ.out HNL.out hy)
    have HYR := Lib.hid hy
    clear hy
    go_wp2_with (first | (with_reducible refine wpList_store_row rfl 35 (.tmp 4) (.tmp 16) rfl W0.heap.size (rArr ({ zRecV with kind := 5 } : RecR) (.slice none 0 0) (.slice none 0 0) (.slice none 0 0) (.slice none 0 0)) rfl rfl 35 _ hsR (by kernel_rfl) rfl (rArr_one _ _ _ _ _ _ _ _ _ _ _ _ _) ?_; rw [hW3]; clear hW3 hsR) | fail)
    refine (rread_any wc wc.heap.size rest 0 _ W4 HRB4.out HSLC.out (Nat.zero_le _) (by have := HNL.out; have := HZL.out; omega) HBC4.out (Nat.le_refl _)).mono ?_
    rintro E w7 ⟨un, uh, ul, rfl, o1, o2, o3, hr7, ho7⟩
    rw [show rest.drop 0 = rest from rfl, HYR.out] at o1 o2 o3 hr7 ⊢
    dsimp only at o1 o2 o3 hr7 ⊢
    obtain ⟨d1, m1, q1, rfl⟩ := own_formx o1
    obtain ⟨d2, m2, q2, rfl⟩ := own_formx o2
    obtain ⟨d3, m3, q3, rfl⟩ := own_formx o3
    have hr7' : RdR W4 wc.heap.size rest (l, e) w7 := by
      obtain ⟨v8, u8, g1, g2, g3⟩ := hr7
      exact ⟨v8, u8, g1, g2.below HBC4.out (Nat.le_refl _), g3⟩
    have HI7 := Lib.hid (HI4.out.call hr7' ho7)
    have hth : w7.there W0.heap.size 14 7 := there_row HI7.out.2.1 14 7 (by simp)
    obtain ⟨W7, hW7⟩ : ∃ y, w7.setCells W0.heap.size 14 (sArr s5 (.slice d1 m1 q1) (.slice d2 m2 q2) (.slice d3 m3 q3)).toList = y := ⟨_, rfl⟩
    have HJ7 : Hid (RecD w W0.heap.size wc.heap.size rest (l, e) { zRecV with kind := 5, shot := s5 } (.slice none 0 0) (.slice d1 m1 q1) (.slice d2 m2 q2) (.slice d3 m3 q3) W7) := Lib.hid (HI7.out.put (r' := { zRecV with kind := 5, shot := s5 }) (by rw [← hW7]; exact setCells_only _ _ _ _) (by rw [← hW7]; exact shot_putx s5 _ _ _ HI7.out.2.1) (noB_rec _ _ _ _ _ _ _ _ _ _ _ _ _))
    have HO : Hid (e = 0 → RecO W7 B0 { zRecV with kind := 5, shot := s5 } (.slice none 0 0) (.slice d1 m1 q1) (.slice d2 m2 q2) (.slice d3 m3 q3) ∧ RecW { zRecV with kind := 5, shot := s5 }) := Lib.hid (fun h0 => by
      subst h0
      have hx : Only (· = W0.heap.size) w7 W7 := by rw [← hW7]; exact setCells_only _ _ _ _
      have hbq : ∀ k, k < w7.heap.size → k ≠ W0.heap.size → W7.heap[k]? = w7.heap[k]? := fun k hk hn => hx.2.2.2.2 k hk hn
      have hsw := shotR_w HYR.out
      exact ⟨⟨OwnK.nil _ _ _ _, own_blk (own_lowerx hB4.out o1) (own_ty o1 HI7.out.2.1 (by decide)) hbq, own_blk (own_lowerx hB4.out o2) (own_ty o2 HI7.out.2.1 (by decide)) hbq, own_blk (own_lowerx hB4.out o3) (own_ty o3 HI7.out.2.1 (by decide)) hbq⟩, ⟨⟨ki5, zi, zu, zu, zu, zEnt_wf, hsw.1⟩, by simp [zRecV, zEntV], hsw.2⟩⟩)
    clear hr7 hr7' ho7 o1 o2 o3
    obtain ⟨vd, u, hrow, hsl, hu1, hu2⟩ := id HJ7.out.2.2.1
    dsimp only at hrow hu2
    obtain ⟨av, cv, rfl, -⟩ := id hsl
    have HROW := Lib.hid hrow
    have HQ := Lib.hid HJ7.out.1
    have HB := Lib.hid HJ7.out.2.2.2.1
    have HX := Lib.hid HJ7.out.2.1
    clear hsl hu1
    by_cases he : e = 0
    · subst he
      obtain ⟨huu, hul⟩ := hu2 rfl
      by_cases hll : u < rest.length
      · have HDV := Lib.hid (HF.out.2.1 rfl (by intro q; have q2 := congrArg List.length (hul.symm.trans q); rw [List.length_drop] at q2; simp only [List.length_nil] at q2; omega))
        have hll2 : (u : Int) < (rest.length : Int) := by omega
        have c0 := RB.c0 hrow
        have c1 := RB.c1 hrow
        have c2 := RB.c2 hrow
        clear hul huu hll hu2 hrow
        go_wp2_with (first
          | (refine wpList_store_mid rfl 33 (.tmp 60) (.tmp 59) rfl W0.heap.size 14 (sArr s5 (.slice d1 m1 q1) (.slice d2 m2 q2) (.slice d3 m3 q3)) rfl rfl hth (by kernel_rfl) (Sc.sArr_one _ _ _ _ _ _ _ _ _ _) ?_; rw [hW7]; clear hW7 hth)
          | fail)
        go_quiet (fail)
        rename_i nq
        have HROWd : Hid (RB wc.heap.size (.slice av rest.length cv) u 0 (W7.drewN nq)) := Lib.hid HROW.out
        clear c0 c1 c2
        go_wp2_with fail
        refine (fail_any wc.heap.size _ u 0 11 _ HROWd.out).mono ?_
        rintro E W8 ⟨rfl, hr8, ho8, -⟩
        have HROW8 : Hid (RB wc.heap.size (.slice av rest.length cv) u 11 W8) := Lib.hid hr8
        have HQ8 := Lib.hid ((ho8.2.2.2.2 _ (row_lt HQ.out) (by have := HGC.out; omega)).trans HQ.out)
        have HB8 : Hid (Below w.heap.size w W8) := Lib.hid (ho8.below (HB.out.trans ((Nd.below_drewN _ _).mono HB.out.size)) (HB.out.trans ((Nd.below_drewN _ _).mono HB.out.size)).size (fun k hk => by have := HGC.out; omega))
        have c2 := RB.c2 HROW8.out
        clear hr8 ho8 HROWd
        go_upto_region 25 with (fail)
        obtain ⟨WZ, hWZ⟩ : ∃ q, W8.drew.setRow w.heap.size zR = q := ⟨_, rfl⟩
        have HQD : Hid (W8.drew.heap[w.heap.size]? = some (.cells zR 35 (0, 0))) := Lib.hid HQ8.out
        have HQZ : Hid (WZ.heap[w.heap.size]? = some (.cells zR 35 (0, 0))) := Lib.hid (by rw [← hWZ]; exact setRow_heap _ _ _ _ _ _ HQD.out)
        have HRZ : Hid (WZ.heap[wc.heap.size]? = some (.cells (rA (.slice av rest.length cv) u 11) 57 (0, 0))) := Lib.hid (by have := HGC.out; rw [← hWZ]; exact (setRow_other _ _ _ _ (by omega)).trans HROW8.out)
        have HFIN := Lib.hid (decR_nil (w := w) (W := WZ) HDV.out (by rw [← hWZ]; exact Ld.below_row HB8.out.drew (Nat.le_refl _) _))
        refine wp_region_held_drew (S := fun w' => w'.heap[wc.heap.size]? = some (.cells (rA (.slice av rest.length cv) u 11) 57 (0, 0))) (by kernel_rfl) HROW8.out (fun hHeld => ?_)
        refine wpAnyH_take (i := 0) (v := (.agg zR)) rfl (by kernel_rfl) (by kernel_rfl) (by kernel_rfl) (fun _ _ _ h => h) (Or.inl ⟨by kernel_rfl, ?_⟩) (by assumption) ?_
        · intro wx hSw
          clear hSw hHeld
          go_simp
          try first | with_reducible rfl | kernel_rfl
        simp only [Act.put, List.getElem_toArray, List.getElem_cons_zero, List.setIfInBounds_toArray, List.set_cons_succ, List.set_cons_zero]
        refine wpAnyH_take (i := 1) (v := .pointer (some ⟨wc.heap.size, 0, none⟩)) rfl (by kernel_rfl) (by kernel_rfl) (by kernel_rfl) (fun _ _ _ h => h) (Or.inl ⟨by kernel_rfl, ?_⟩) (by assumption) ?_
        · intro wx hSw
          clear hSw hHeld
          go_simp
          try first | with_reducible rfl | kernel_rfl
        simp only [Act.put, List.getElem_toArray, List.getElem_cons_succ, List.getElem_cons_zero, List.setIfInBounds_toArray, List.set_cons_succ, List.set_cons_zero]
        refine wpAnyH_take (i := 2) (v := .pointer (some ⟨wc.heap.size, 0, none⟩)) rfl (by kernel_rfl) (by kernel_rfl) (by kernel_rfl) (fun _ _ _ h => h) (Or.inl ⟨by kernel_rfl, ?_⟩) (by assumption) ?_
        · intro wx hSw
          clear hSw hHeld
          go_simp
          try first | with_reducible rfl | kernel_rfl
        simp only [Act.put, List.getElem_toArray, List.getElem_cons_succ, List.getElem_cons_zero, List.setIfInBounds_toArray, List.set_cons_succ, List.set_cons_zero]
        refine wpAnyH_take (i := 3) (v := .pointer (some ⟨wc.heap.size, 2, none⟩)) rfl (by kernel_rfl) (by kernel_rfl) (by kernel_rfl) (fun _ _ _ h => h) (Or.inl ⟨by kernel_rfl, ?_⟩) (by assumption) ?_
        · intro wx hSw
          clear hSw hHeld
          go_simp
          try first | with_reducible rfl | kernel_rfl
        simp only [Act.put, List.getElem_toArray, List.getElem_cons_succ, List.getElem_cons_zero, List.setIfInBounds_toArray, List.set_cons_succ, List.set_cons_zero]
        refine wpAnyH_take (i := 4) (v := (.int .i64 11)) rfl (by kernel_rfl) (by kernel_rfl) (by kernel_rfl) (fun _ _ _ h => h) (Or.inl ⟨by kernel_rfl, ?_⟩) (by assumption) ?_
        · intro wx hSw
          have cc : wx.cell? ⟨wc.heap.size, 2, none⟩ = some (.int .i64 11) := (cell_of_row wx _ 2 _ _ _ hSw).trans rfl
          clear hSw hHeld
          go_simp
          try first | with_reducible rfl | kernel_rfl
        simp only [Act.put, List.getElem_toArray, List.getElem_cons_succ, List.getElem_cons_zero, List.setIfInBounds_toArray, List.set_cons_succ, List.set_cons_zero]
        refine wpAnyH_ready (rs := [5]) (by kernel_rfl) (by simp) ?_
        refine AllReadyH.cons rfl (fun K hK => ?_) AllReadyH.nil
        rw [if_pos (by kernel_rfl)]
        refine wp_store_row 35 (.tmp 2) (.tmp 85) (by kernel_rfl) w.heap.size zR (by kernel_rfl) (by kernel_rfl) 35 zR HQD.out (by kernel_rfl) (by kernel_rfl) zR_one ?_
        rw [hWZ]
        clear hHeld
        refine hK.out _ _ HRZ.out (fun hHeld => ?_)
        clear hK K
        refine wpAnyH_take (i := 6) (v := (.int .i64 11)) rfl (by kernel_rfl) (by kernel_rfl) (by kernel_rfl) (fun _ _ _ h => h) (Or.inl ⟨by kernel_rfl, ?_⟩) (by assumption) ?_
        · intro wx hSw
          clear hSw hHeld
          go_simp
          try first | with_reducible rfl | kernel_rfl
        simp only [Act.put, List.getElem_toArray, List.getElem_cons_succ, List.getElem_cons_zero, List.setIfInBounds_toArray, List.set_cons_succ, List.set_cons_zero]
        refine wpAnyH_done (by kernel_rfl) ?_ _
        clear hHeld
        go_wp2_with fail
        refine bodyPost_ret (v := .tuple #[.agg zR, .int .i64 11]) (results_c2 rfl _ _ w.heap.size 35 _ (0, 0) _ rfl HQZ.out Try.underlying35 rfl (by kernel_rfl) rfl) rfl ?_
        exact HFIN.out
      · have hl0 : l = [] := by rw [hul]; exact List.drop_eq_nil_of_le (by omega)
        have hll2 : ¬ (u : Int) < (rest.length : Int) := by omega
        have HLN := Lib.hid hl0
        obtain ⟨hro, hrw⟩ := HO.out rfl
        have HRO := Lib.hid hro
        have HRW := Lib.hid hrw
        have c0 := RB.c0 hrow
        have c1 := RB.c1 hrow
        have c2 := RB.c2 hrow
        clear hul huu hll hu2 hrow hl0 hro hrw
        go_wp2_with (first
          | (refine wpList_store_mid rfl 33 (.tmp 60) (.tmp 59) rfl W0.heap.size 14 (sArr s5 (.slice d1 m1 q1) (.slice d2 m2 q2) (.slice d3 m3 q3)) rfl rfl hth (by kernel_rfl) (Sc.sArr_one _ _ _ _ _ _ _ _ _ _) ?_; rw [hW7]; clear hW7 hth)
          | fail)
        go_quiet (fail)
        rename_i nq
        have HXd : Hid ((W7.drewN nq).heap[W0.heap.size]? = some (.cells (rArr ({ zRecV with kind := 5, shot := s5 } : RecR) (.slice none 0 0) (.slice d1 m1 q1) (.slice d2 m2 q2) (.slice d3 m3 q3)) 35 (0, 0))) := Lib.hid HX.out
        have HBd : Hid (Below w.heap.size w (W7.drewN nq)) := Lib.hid (HB.out.trans ((Nd.below_drewN _ _).mono HB.out.size))
        have HQd : Hid ((W7.drewN nq).heap[w.heap.size]? = some (.cells zR 35 (0, 0))) := Lib.hid HQ.out
        have HISd : Hid (IsRec (W7.drewN nq) (.agg (rArr ({ zRecV with kind := 5, shot := s5 } : RecR) (.slice none 0 0) (.slice d1 m1 q1) (.slice d2 m2 q2) (.slice d3 m3 q3))) { zRecV with kind := 5, shot := s5 }) := Lib.hid ((HRO.out.is HRW.out).below (Nd.below_drewN _ _) (Nat.le_refl _))
        have c2 := RB.c2 (show RB wc.heap.size (.slice av rest.length cv) u 0 (W7.drewN nq) from HROW.out)
        clear c0 c1
        generalize hWd : W7.drewN nq = Wd at *
        go_wp2_with (first | (with_reducible refine wpList_load_row rfl 35 (.tmp 4) rfl W0.heap.size rfl 35 (rArr ({ zRecV with kind := 5, shot := s5 } : RecR) (.slice none 0 0) (.slice d1 m1 q1) (.slice d2 m2 q2) (.slice d3 m3 q3)) (0, 0) _ HXd.out Try.underlying35 rfl (by kernel_rfl) ?_) | fail)
        refine (Rc.may_any { zRecV with kind := 5, shot := s5 } _ _ HISd.out).mono ?_
        rintro E W9 ⟨b, rfl, hb, hb9⟩
        have HB9 := Lib.hid (HBd.out.trans (hb9.mono HBd.out.size))
        have HQ9 := Lib.hid ((hb9.block _ (row_lt HQd.out)).trans HQd.out)
        have HX9 := Lib.hid ((hb9.block _ (row_lt HXd.out)).trans HXd.out)
        have HIS9 := Lib.hid (HISd.out.below hb9 (Nat.le_refl _))
        have HO9 : Hid (RecO W9 B0 { zRecV with kind := 5, shot := s5 } (.slice none 0 0) (.slice d1 m1 q1) (.slice d2 m2 q2) (.slice d3 m3 q3)) := Lib.hid (by
          obtain ⟨o1, o2, o3, o4⟩ := HRO.out
          have hbd := (show Below W7.heap.size W7 Wd by rw [← hWd]; exact Nd.below_drewN _ _)
          have hbx := hbd.trans (hb9.mono hbd.size)
          exact ⟨own_belowx hbx o1, own_belowx hbx o2, own_belowx hbx o3, own_belowx hbx o4⟩)
        clear hb9
        cases b with
        | true =>
          have HDV := Lib.hid (HF.out.2.2.1 rfl HLN.out (hb.1 rfl))
          obtain ⟨WZ, hWZ⟩ : ∃ q, W9.setRow w.heap.size (rArr ({ zRecV with kind := 5, shot := s5 } : RecR) (.slice none 0 0) (.slice d1 m1 q1) (.slice d2 m2 q2) (.slice d3 m3 q3)) = q := ⟨_, rfl⟩
          have HQZ : Hid (WZ.heap[w.heap.size]? = some (.cells (rArr ({ zRecV with kind := 5, shot := s5 } : RecR) (.slice none 0 0) (.slice d1 m1 q1) (.slice d2 m2 q2) (.slice d3 m3 q3)) 35 (0, 0))) := Lib.hid (by rw [← hWZ]; exact setRow_heap _ _ _ _ _ _ HQ9.out)
          have HFIN : Hid (DecRE zs w (.returned (.tuple #[.agg (rArr ({ zRecV with kind := 5, shot := s5 } : RecR) (.slice none 0 0) (.slice d1 m1 q1) (.slice d2 m2 q2) (.slice d3 m3 q3)), .int .i64 0])) WZ) := Lib.hid (by
            have hx : Only (· = w.heap.size) W9 WZ := by rw [← hWZ]; exact only_row _ _ _
            exact ⟨{ zRecV with kind := 5, shot := s5 }, 0, _, _, _, _, rfl, HDV.out, (HO9.out.row HQ9.out hx).is HRW.out, by rw [← hWZ]; exact Ld.below_row HB9.out (Nat.le_refl _) _⟩)
          clear hb
          go_wp2_with (first
            | (with_reducible refine wpList_load_row rfl 35 (.tmp 4) rfl W0.heap.size rfl 35 (rArr ({ zRecV with kind := 5, shot := s5 } : RecR) (.slice none 0 0) (.slice d1 m1 q1) (.slice d2 m2 q2) (.slice d3 m3 q3)) (0, 0) _ HX9.out Try.underlying35 rfl (by kernel_rfl) ?_)
            | (with_reducible refine wpList_store_row rfl 35 (.tmp 2) (.tmp 94) rfl w.heap.size (rArr ({ zRecV with kind := 5, shot := s5 } : RecR) (.slice none 0 0) (.slice d1 m1 q1) (.slice d2 m2 q2) (.slice d3 m3 q3)) rfl rfl 35 _ HQ9.out (by kernel_rfl) rfl (rArr_one _ _ _ _ _ _ _ _ _ _ _ _ _) ?_; rw [hWZ]; clear hWZ))
          refine bodyPost_ret (v := .tuple #[.agg (rArr ({ zRecV with kind := 5, shot := s5 } : RecR) (.slice none 0 0) (.slice d1 m1 q1) (.slice d2 m2 q2) (.slice d3 m3 q3)), .int .i64 0]) (results_c2 rfl _ _ w.heap.size 35 _ (0, 0) _ rfl HQZ.out Try.underlying35 rfl (by kernel_rfl) rfl) rfl ?_
          exact HFIN.out
        | false =>
          have HDV := Lib.hid (HF.out.2.2.2 rfl HLN.out (fun q => by cases hb.2 q))
          obtain ⟨WZ, hWZ⟩ : ∃ q, W9.setRow w.heap.size zR = q := ⟨_, rfl⟩
          have HQZ : Hid (WZ.heap[w.heap.size]? = some (.cells zR 35 (0, 0))) := Lib.hid (by rw [← hWZ]; exact setRow_heap _ _ _ _ _ _ HQ9.out)
          have HFIN := Lib.hid (decR_nil (w := w) (W := WZ) HDV.out (by rw [← hWZ]; exact Ld.below_row HB9.out (Nat.le_refl _) _))
          clear hb
          go_wp2_with (first | (with_reducible refine wpList_store_row rfl 35 (.tmp 2) (.tmp 93) rfl w.heap.size zR rfl rfl 35 _ HQ9.out (by kernel_rfl) rfl zR_one ?_; rw [hWZ]; clear hWZ) | fail)
          refine bodyPost_ret (v := .tuple #[.agg zR, .int .i64 130]) (results_c2 rfl _ _ w.heap.size 35 _ (0, 0) _ rfl HQZ.out Try.underlying35 rfl (by kernel_rfl) rfl) rfl ?_
          exact HFIN.out
    · have hne : (e != 0) = true := by rw [bne, beq_eq_false_iff_ne.2 he]; rfl
      have hne2 : (e == 0) = false := beq_eq_false_iff_ne.2 he
      have HDV := Lib.hid (HF.out.1 he)
      have c0 := RB.c0 hrow
      have c1 := RB.c1 hrow
      have c2 := RB.c2 hrow
      clear hu2 hrow he
      go_wp2_with (first
        | (refine wpList_store_mid rfl 33 (.tmp 60) (.tmp 59) rfl W0.heap.size 14 (sArr s5 (.slice d1 m1 q1) (.slice d2 m2 q2) (.slice d3 m3 q3)) rfl rfl hth (by kernel_rfl) (Sc.sArr_one _ _ _ _ _ _ _ _ _ _) ?_; rw [hW7]; clear hW7 hth)
          | fail)
      try go_frame
      go_quiet (fail)
      rename_i nq
      have c2 := RB.c2 (show RB wc.heap.size (.slice av rest.length cv) u e (W7.drewN nq) from HROW.out)
      have HROWd : Hid (RB wc.heap.size (.slice av rest.length cv) u e (W7.drewN nq)) := Lib.hid HROW.out
      have HBd : Hid (Below w.heap.size w (W7.drewN nq)) := Lib.hid (HB.out.trans ((Nd.below_drewN _ _).mono HB.out.size))
      have HQd : Hid ((W7.drewN nq).heap[w.heap.size]? = some (.cells zR 35 (0, 0))) := Lib.hid HQ.out
      clear c0 c1
      generalize hWd : W7.drewN nq = Wd at *
      go_upto_region 25 with (fail)
      obtain ⟨WZ, hWZ⟩ : ∃ q, Wd.drew.setRow w.heap.size zR = q := ⟨_, rfl⟩
      have HQD : Hid (Wd.drew.heap[w.heap.size]? = some (.cells zR 35 (0, 0))) := Lib.hid HQd.out
      have HQZ : Hid (WZ.heap[w.heap.size]? = some (.cells zR 35 (0, 0))) := Lib.hid (by rw [← hWZ]; exact setRow_heap _ _ _ _ _ _ HQD.out)
      have HRZ : Hid (WZ.heap[wc.heap.size]? = some (.cells (rA (.slice av rest.length cv) u e) 57 (0, 0))) := Lib.hid (by have := HGC.out; rw [← hWZ]; exact (setRow_other _ _ _ _ (by omega)).trans HROWd.out)
      have HFIN := Lib.hid (decR_nil (w := w) (W := WZ) HDV.out (by rw [← hWZ]; exact Ld.below_row HBd.out.drew (Nat.le_refl _) _))
      refine wp_region_held_drew (S := fun w' => w'.heap[wc.heap.size]? = some (.cells (rA (.slice av rest.length cv) u e) 57 (0, 0))) (by kernel_rfl) HROWd.out (fun hHeld => ?_)
      refine wpAnyH_take (i := 0) (v := (.agg zR)) rfl (by kernel_rfl) (by kernel_rfl) (by kernel_rfl) (fun _ _ _ h => h) (Or.inl ⟨by kernel_rfl, ?_⟩) (by assumption) ?_
      · intro wx hSw
        clear hSw hHeld
        go_simp
        try first | with_reducible rfl | kernel_rfl
      simp only [Act.put, List.getElem_toArray, List.getElem_cons_zero, List.setIfInBounds_toArray, List.set_cons_succ, List.set_cons_zero]
      refine wpAnyH_take (i := 1) (v := .pointer (some ⟨wc.heap.size, 0, none⟩)) rfl (by kernel_rfl) (by kernel_rfl) (by kernel_rfl) (fun _ _ _ h => h) (Or.inl ⟨by kernel_rfl, ?_⟩) (by assumption) ?_
      · intro wx hSw
        clear hSw hHeld
        go_simp
        try first | with_reducible rfl | kernel_rfl
      simp only [Act.put, List.getElem_toArray, List.getElem_cons_succ, List.getElem_cons_zero, List.setIfInBounds_toArray, List.set_cons_succ, List.set_cons_zero]
      refine wpAnyH_take (i := 2) (v := .pointer (some ⟨wc.heap.size, 0, none⟩)) rfl (by kernel_rfl) (by kernel_rfl) (by kernel_rfl) (fun _ _ _ h => h) (Or.inl ⟨by kernel_rfl, ?_⟩) (by assumption) ?_
      · intro wx hSw
        clear hSw hHeld
        go_simp
        try first | with_reducible rfl | kernel_rfl
      simp only [Act.put, List.getElem_toArray, List.getElem_cons_succ, List.getElem_cons_zero, List.setIfInBounds_toArray, List.set_cons_succ, List.set_cons_zero]
      refine wpAnyH_take (i := 3) (v := .pointer (some ⟨wc.heap.size, 2, none⟩)) rfl (by kernel_rfl) (by kernel_rfl) (by kernel_rfl) (fun _ _ _ h => h) (Or.inl ⟨by kernel_rfl, ?_⟩) (by assumption) ?_
      · intro wx hSw
        clear hSw hHeld
        go_simp
        try first | with_reducible rfl | kernel_rfl
      simp only [Act.put, List.getElem_toArray, List.getElem_cons_succ, List.getElem_cons_zero, List.setIfInBounds_toArray, List.set_cons_succ, List.set_cons_zero]
      refine wpAnyH_take (i := 4) (v := (.int .i64 e)) rfl (by kernel_rfl) (by kernel_rfl) (by kernel_rfl) (fun _ _ _ h => h) (Or.inl ⟨by kernel_rfl, ?_⟩) (by assumption) ?_
      · intro wx hSw
        have cc : wx.cell? ⟨wc.heap.size, 2, none⟩ = some (.int .i64 e) := (cell_of_row wx _ 2 _ _ _ hSw).trans rfl
        clear hSw hHeld
        go_simp
        try first | with_reducible rfl | kernel_rfl
      simp only [Act.put, List.getElem_toArray, List.getElem_cons_succ, List.getElem_cons_zero, List.setIfInBounds_toArray, List.set_cons_succ, List.set_cons_zero]
      refine wpAnyH_ready (rs := [5]) (by kernel_rfl) (by simp) ?_
      refine AllReadyH.cons rfl (fun K hK => ?_) AllReadyH.nil
      rw [if_pos (by kernel_rfl)]
      refine wp_store_row 35 (.tmp 2) (.tmp 85) (by kernel_rfl) w.heap.size zR (by kernel_rfl) (by kernel_rfl) 35 zR HQD.out (by kernel_rfl) (by kernel_rfl) zR_one ?_
      rw [hWZ]
      clear hHeld
      refine hK.out _ _ HRZ.out (fun hHeld => ?_)
      clear hK K
      refine wpAnyH_take (i := 6) (v := (.int .i64 e)) rfl (by kernel_rfl) (by kernel_rfl) (by kernel_rfl) (fun _ _ _ h => h) (Or.inl ⟨by kernel_rfl, ?_⟩) (by assumption) ?_
      · intro wx hSw
        clear hSw hHeld
        go_simp
        try first | with_reducible rfl | kernel_rfl
      simp only [Act.put, List.getElem_toArray, List.getElem_cons_succ, List.getElem_cons_zero, List.setIfInBounds_toArray, List.set_cons_succ, List.set_cons_zero]
      refine wpAnyH_done (by kernel_rfl) ?_ _
      clear hHeld
      go_wp2_with fail
      refine bodyPost_ret (v := .tuple #[.agg zR, .int .i64 e]) (results_c2 rfl _ _ w.heap.size 35 _ (0, 0) _ rfl HQZ.out Try.underlying35 rfl (by kernel_rfl) rfl) rfl ?_
      exact HFIN.out
  have n1 : (x == 1) = false := beq_eq_false_iff_ne.2 hx1'
  have n2 : (x == 2) = false := beq_eq_false_iff_ne.2 hx2
  have n3 : (x == 3) = false := beq_eq_false_iff_ne.2 hx3
  have n4 : (x == 4) = false := beq_eq_false_iff_ne.2 hx4
  have n5 : (x == 5) = false := beq_eq_false_iff_ne.2 hx5
  have HDV : Hid (decR zs = (zRecV, 11)) := Lib.hid (by rw [HZ.out]; exact fin_x (by rw [← HZ.out]; exact HNL.out) hx1' hx2 hx3 hx4 hx5)
  have HQ4 := Lib.hid HI4.out.1
  have HB4 := Lib.hid HI4.out.2.2.2.1
  obtain ⟨WZ, hWZ⟩ : ∃ q, W4.setRow w.heap.size zR = q := ⟨_, rfl⟩
  have HQZ : Hid (WZ.heap[w.heap.size]? = some (.cells zR 35 (0, 0))) := Lib.hid (by rw [← hWZ]; exact setRow_heap _ _ _ _ _ _ HQ4.out)
  have HFIN := Lib.hid (decR_nil (w := w) (W := WZ) HDV.out (by rw [← hWZ]; exact Ld.below_row HB4.out (Nat.le_refl _) _))
  clear hx1' hx2 hx3 hx4 hx5
  go_enter Try.func11, Try.ntmps11
  go_wp2_with (first
    | (with_reducible refine wpList_store_row rfl 35 (.tmp 4) (.tmp 16) rfl W0.heap.size (rArr ({ zRecV with kind := x } : RecR) (.slice none 0 0) (.slice none 0 0) (.slice none 0 0) (.slice none 0 0)) rfl rfl 35 _ hsR (by kernel_rfl) rfl (rArr_one _ _ _ _ _ _ _ _ _ _ _ _ _) ?_; rw [hW3]; clear hW3 hsR)
    | (with_reducible refine wpList_store_row rfl 35 (.tmp 2) (.tmp 24) rfl w.heap.size zR rfl rfl 35 _ HQ4.out (by kernel_rfl) rfl zR_one ?_; rw [hWZ]; clear hWZ))
  refine bodyPost_ret (v := .tuple #[.agg zR, .int .i64 11]) (results_c2 rfl _ _ w.heap.size 35 _ (0, 0) _ rfl HQZ.out Try.underlying35 rfl (by kernel_rfl) rfl) rfl ?_
  exact HFIN.out
end Rk
end Go.Proofs.Ytngnhegmealokaa
