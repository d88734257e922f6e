/- The laws' helpers of layer 5: grants(), and play(). No condition. -/
import Derived.Test.YtlkmdoddgfmnbaaLaL
import Derived.Test.YtlkmdoddgfmnbaaOps
namespace Go.Proofs.Ytlkmdoddgfmnbaa
open Go.ChangeShapes Go.WideShapes Go.ChangeAt Go.RowKit Go.Lib
set_option linter.unusedVariables false
set_option maxRecDepth 100000
namespace La
open Ld Cm Hd
abbrev aA (a : Ans) : Array Value := #[.int .i64 a.code, .int .i64 a.token, .int .u64 a.serial]
abbrev zA : Array Value := #[.int .i64 0, .int .i64 0, .int .u64 0]
/-- what Apply tells, stored into two boxes -/
theorem boxed (w1 : World) (l : Led) (a : Ans) (vh vl : Value) : ∃ W, (((w1.alloc (.cells zArr 26)).alloc (.cells zA 33)).setRow w1.heap.size (lArr l vh vl)).setRow (w1.heap.size + 1) (aA a) = W ∧ Below w1.heap.size w1 W ∧ W.heap[w1.heap.size]? = some (.cells (lArr l vh vl) 26 (0, 0)) ∧ W.heap[w1.heap.size + 1]? = some (.cells (aA a) 33 (0, 0)) ∧ W.heap.size = w1.heap.size + 2 ∧
    ((w1.alloc (.cells zArr 26)).alloc (.cells zA 33)).heap[w1.heap.size]? = some (.cells zArr 26 (0, 0)) ∧ (((w1.alloc (.cells zArr 26)).alloc (.cells zA 33)).setRow w1.heap.size (lArr l vh vl)).heap[w1.heap.size + 1]? = some (.cells zA 33 (0, 0)) := by
  have h1 : ((w1.alloc (.cells zArr 26)).alloc (.cells zA 33)).heap[w1.heap.size]? = some (.cells zArr 26 (0, 0)) := (heap_alloc_old _ _ (by simp)).trans (heap_alloc_new _ _)
  have h2 : (((w1.alloc (.cells zArr 26)).alloc (.cells zA 33)).setRow w1.heap.size (lArr l vh vl)).heap[w1.heap.size + 1]? = some (.cells zA 33 (0, 0)) := (setRow_other _ _ _ _ (by omega)).trans (new2 _ _ _)
  exact ⟨_, rfl, Ld.below_row (Ld.below_row (((Below.refl _ _).alloc (Nat.le_refl _) _).alloc (by simp) _) (Nat.le_refl _) _) (by omega) _, (setRow_other _ _ _ _ (by omega)).trans (setRow_heap _ _ _ _ _ _ h1), setRow_heap _ _ _ _ _ _ h2, by simp, h1, h2⟩
theorem ans_cells {w : World} {g : Nat} {a : Ans} (h : w.heap[g]? = some (.cells (aA a) 33 (0, 0))) : w.cell? ⟨g, 0, none⟩ = some (.int .i64 a.code) ∧ w.cell? ⟨g, 1, none⟩ = some (.int .i64 a.token) ∧ w.cell? ⟨g, 2, none⟩ = some (.int .u64 a.serial) :=
  ⟨(cell_of_row w _ 0 _ _ _ h).trans rfl, (cell_of_row w _ 1 _ _ _ h).trans rfl, (cell_of_row w _ 2 _ _ _ h).trans rfl⟩
theorem applied_led {m : Led} {w w' : World} {vh vl : Value} (h1 : OwnR 5 heldC 39 w' w.heap.size vh m.held) (h2 : OwnR 6 lastC 41 w' w.heap.size vl m.last) (h : m.wf) : IsLed w' (.agg (lArr m vh vl)) m :=
  ⟨vh, vl, rfl, h1.sl heldC_len, h2.sl lastC_len, h⟩

/-! ### the chapter's example -/
def gL : Led := ⟨2, 1, [], []⟩
def gC : Cmd := ⟨3, 1, 0, [], 1, 1, 0, 0⟩
def gM : Led := ⟨2, 2, [⟨1, 1, 1, 1, 5⟩], [⟨1, 1, 1, 1, 1, 1⟩]⟩
theorem g_ok : LedP gL := ⟨by decide, by decide, by decide, by decide, ⟨.nil, by simp [gL]⟩, .nil, by simp [gL]⟩
theorem g_err : errL gL 5 gC = 0 := err_zero.2 ⟨led_iff.2 g_ok, by decide, by decide⟩
theorem g_do : doL gL 5 gC = (gM, ⟨1, 1, 1⟩) := by decide
theorem g_led : applyL gL 5 gC = gM := by unfold applyL; rw [if_pos g_err, g_do]
theorem g_ans : answerL gL 5 gC = ⟨1, 1, 1⟩ := by unfold answerL; rw [if_pos g_err, g_do]
theorem g_any (w : World) : Calls Try.prog 17 #[.agg (lArr gL (.slice none 0 0) (.slice none 0 0)), .int .u64 5, .agg (cA gC (.slice none 0 0))] w (Applied gM ⟨1, 1, 1⟩ 0 w) := by
  have h := apply_any gL (.agg (lArr gL (.slice none 0 0) (.slice none 0 0))) (.agg (cA gC (.slice none 0 0))) 5 gC w ⟨_, _, rfl, SlR.nil _, SlR.nil _, by decide, by decide, by simp [gL], by simp [gL]⟩ ⟨_, rfl, Cm.sl_nil _ _, by unfold Cmd.wf; decide⟩ (by decide)
  rw [g_led, g_ans, g_err] at h
  exact h
set_option maxHeartbeats 1000000 in
theorem grants_any (w : World) : Calls Try.prog 15 #[] w fun e w' => e = .returned (.bool true) ∧ Below w.heap.size w w' := by
  go_enter Try.func15, Try.ntmps15
  go_wp2_with fail
  refine (g_any _).mono ?_
  rintro e w1 ⟨vh, vl, rfl, h1, h2, -, -, hb1⟩
  obtain ⟨a1, cap1, hv1, -⟩ := id (h1.sl heldC_len)
  subst hv1
  obtain ⟨a2, cap2, hv2, -⟩ := id (h2.sl lastC_len)
  subst hv2
  obtain ⟨W, hW, hbW, hR, hA, hZ, hs1, hs2⟩ := boxed w1 gM ⟨1, 1, 1⟩ (.slice a1 gM.held.length cap1) (.slice a2 gM.last.length cap2)
  obtain ⟨y0, y1, y2, y3⟩ := led_cells hR
  obtain ⟨x0, x1, x2⟩ := ans_cells hA
  have HB := Lib.hid (hb1.trans (hbW.mono hb1.size))
  have hgl : (gM.held.length : Int) = 1 := rfl
  have HS1 := Lib.hid hs1
  have HS2 := Lib.hid hs2
  clear h1 h2 hb1 hbW hR hA hZ hs1 hs2
  go_wp2_with (first
    | (with_reducible refine wpList_store_row rfl 26 (.tmp 1) (.tmp 8) rfl w1.heap.size (lArr gM (.slice a1 gM.held.length cap1) (.slice a2 gM.last.length cap2)) rfl rfl 26 _ HS1.out (by kernel_rfl) rfl (Ld.lArr_one _ _ _ _ _ _ _) ?_)
    | (with_reducible refine wpList_store_row rfl 33 (.tmp 2) (.tmp 9) rfl (w1.heap.size + 1) (aA ⟨1, 1, 1⟩) rfl rfl 33 _ HS2.out (by kernel_rfl) rfl (ans_one _ _ _) ?_))
  go_ret
  exact ⟨rfl, HB.out⟩

/-! ### play -/
theorem nil_ok {k : Int} (h1 : 1 ≤ k) (h2 : k ≤ 65535) : LedP ⟨k, 1, [], []⟩ := ⟨h1, h2, by show (1 : Int) ≠ 0; decide, by simp, ⟨.nil, by simp⟩, .nil, by simp⟩
theorem led_fits {l : Led} (h : LedP l) : IsLed.fits l := ⟨by have := h.2.2.2.1; omega, by have := last_short h.2.2.2.2.2; omega⟩
/-- a limit, brought to 1 to 65535 -/
def norm (n : Int) : Int := wrap64 (1 + (wrap64 (n.tmod 65535 + 65535)).tmod 65535)
theorem norm_ok (n : Int) : 1 ≤ norm n ∧ norm n ≤ 65535 := by
  unfold norm
  have h1 := Int.tmod_lt_of_pos n (show (0 : Int) < 65535 by decide)
  have h2 : -65535 < n.tmod 65535 := by
    have := Int.tmod_lt_of_pos (-n) (show (0 : Int) < 65535 by decide)
    rw [Int.neg_tmod] at this
    omega
  have e1 : wrap64 (n.tmod 65535 + 65535) = n.tmod 65535 + 65535 := Go.IntWalk.wrap64_in _ (by omega)
  rw [e1]
  have h3 := Int.tmod_lt_of_pos (n.tmod 65535 + 65535) (show (0 : Int) < 65535 by decide)
  have h4 := Int.tmod_nonneg (a := n.tmod 65535 + 65535) 65535 (by omega)
  have e2 : wrap64 (1 + (n.tmod 65535 + 65535).tmod 65535) = 1 + (n.tmod 65535 + 65535).tmod 65535 := Go.IntWalk.wrap64_in _ (by omega)
  rw [e2]
  omega
/-- what is told of a ledger that may be: no more, but that it is one -/
theorem err_cases {l : Led} (h : LedP l) (i : Int) (c : Cmd) : (errL l i c = 0 ∧ chkC c = true ∧ i ≠ 0) ∨ (errL l i c = 40 ∧ errL l i c ≠ 0) ∨ (errL l i c = 1 ∧ errL l i c ≠ 0) := by
  rcases err_range l i c with h0 | h0 | h0 | h0
  · exact .inl ⟨h0, (err_zero.1 h0).2⟩
  · exact .inr (.inr ⟨h0, by omega⟩)
  · exact .inr (.inl ⟨h0, by omega⟩)
  · exfalso
    unfold errL at h0
    rw [if_neg (fun k => k (led_iff.2 h))] at h0
    split at h0
    · cases h0
    · split at h0 <;> cases h0
theorem ops_get {w : World} {v : Value} {ops : List Ent} (h : IsLog w v ops) {k : Nat} (hk : k < ops.length) :
    ∃ b off cap x ar cr, v = .slice (some ⟨b, off, none⟩) ops.length cap ∧ ops[k]? = some x ∧ Sl .i64 w (.slice ar x.cmd.nodes.length cr) x.cmd.nodes ∧ x.wf ∧ b < w.heap.size ∧ ∀ j u, (entC (x, .slice ar x.cmd.nodes.length cr))[j]? = some u → w.cell? ⟨b, off + (k * 9 + j), none⟩ = some u := by
  obtain ⟨rows, ⟨a, cap, rfl, -, -, hc⟩, h2, rfl⟩ := h
  rw [List.length_map] at hk
  obtain ⟨b, off, rfl, hlt, hc⟩ := Ld.rows_open hk hc
  obtain ⟨h3, h4⟩ := h2 _ (List.getElem_mem hk)
  obtain ⟨ar, cr, hv, -⟩ := id h3
  have hx : rows[k] = (rows[k].1, .slice ar rows[k].1.cmd.nodes.length cr) := by rw [← hv]
  refine ⟨b, off, cap, rows[k].1, ar, cr, by rw [List.length_map], by rw [List.getElem?_map, List.getElem?_eq_getElem hk]; rfl, by rw [← hv]; exact h3, h4, hlt, fun j u hu => hc k _ (rgetD hk) j u (by rw [hx]; exact hu)⟩
theorem nilA_one (k n : Int) : (Ld.nilA k n).all (·.oneCell') = true := by simp [Value.oneCell']
/-- a ledger in the box g that may be; its rows are the call's own, from block B on, and not the box -/
structure Good (w : World) (g B : Nat) (m : Led) (vh vl : Value) : Prop where
  row : w.heap[g]? = some (.cells (lArr m vh vl) 26 (0, 0))
  held : OwnR 5 heldC 39 w B vh m.held
  last : OwnR 6 lastC 41 w B vl m.last
  nh : ∀ k, vh.ownBlock = some k → k ≠ g
  nl : ∀ k, vl.ownBlock = some k → k ≠ g
  wf : m.wf
  ok : LedP m
theorem Good.lt {w : World} {g B : Nat} {m : Led} {vh vl : Value} (h : Good w g B m vh vl) : g < w.heap.size := (Array.getElem?_eq_some_iff.1 h.row).1
theorem Good.below {w w' : World} {g B : Nat} {m : Led} {vh vl : Value} (h : Good w g B m vh vl) (hb : Below w.heap.size w w') : Good w' g B m vh vl :=
  ⟨(hb.block g h.lt).trans h.row, h.held.below hb (Nat.le_refl _), h.last.below hb (Nat.le_refl _), h.nh, h.nl, h.wf, h.ok⟩
theorem Good.led {w : World} {g B : Nat} {m : Led} {vh vl : Value} (h : Good w g B m vh vl) : IsLed w (.agg (lArr m vh vl)) m := ⟨_, _, rfl, h.held.sl heldC_len, h.last.sl lastC_len, h.wf⟩
/-- another row written below -/
theorem Good.led_row {w : World} {g B s : Nat} {m : Led} {vh vl : Value} (h : Good w g B m vh vl) (hs : s < B) (cs : Array Value) : IsLed (w.setRow s cs) (.agg (lArr m vh vl)) m :=
  ⟨_, _, rfl, (h.held.row hs).sl heldC_len, (h.last.row hs).sl lastC_len, h.wf⟩
abbrev eA (x : Ent) (vn : Value) : Array Value := #[.int .u64 x.term, .int .i64 x.cmd.kind, .int .i64 x.cmd.node, .int .i64 x.cmd.token, vn, .int .u64 x.cmd.boot, .int .u64 x.cmd.seq, .int .u64 x.cmd.serial, .int .u64 x.cmd.stamp]
/-- what Apply tells, put in the place of the ledger -/
theorem Good.next {w5 W6 : World} {g B C : Nat} {m m5 : Led} {vh vl vh5 vl5 : Value} (h : Good W6 g B m vh vl) (h1 : OwnR 5 heldC 39 w5 C vh5 m5.held) (h2 : OwnR 6 lastC 41 w5 C vl5 m5.last) (hg : g < C) (hB : B ≤ C) (hb : Below w5.heap.size w5 W6) (hw : m5.wf) (hL : LedP m5) :
    Good (W6.setRow g (lArr m5 vh5 vl5)) g B m5 vh5 vl5 :=
  ⟨setRow_heap _ _ _ _ _ _ h.row, ((h1.below hb (Nat.le_refl _)).row hg).lower hB, ((h2.below hb (Nat.le_refl _)).row hg).lower hB, fun k hk => by have := (own_block h1 k hk).1; omega, fun k hk => by have := (own_block h2 k hk).1; omega, hw, hL⟩
/-- what play hands back: a ledger that may be -/
def Played (k : Int) (w : World) (e : Ending) (w' : World) : Prop :=
  ∃ m vh vl, e = .returned (.tuple #[.agg (lArr m vh vl), .bool true]) ∧ IsLed w' (.agg (lArr m vh vl)) m ∧ LedP m ∧ m.limit = k ∧ Below w.heap.size w w'
set_option maxHeartbeats 4000000 in
theorem play_any (n : Int) (v : Value) (ops : List Ent) (w : World) (hn : (Lit.int .i64 n).wf = true) (hv : IsLog w v ops) :
    Calls Try.prog 20 #[.int .i64 n, v] w (Played (norm n) w) := by
  have hnb := bounds_i64 hn
  obtain ⟨a, cap, rfl, hlc, hcm⟩ := IsLog.len hv
  have HV := Lib.hid hv
  have HNK := Lib.hid (norm_ok n)
  have HST : Hid ((w.alloc (.cells zArr 26)).heap[w.heap.size]? = some (.cells zArr 26 (0, 0))) := Lib.hid (heap_alloc_new _ _)
  obtain ⟨k0, hk0⟩ : ∃ k, k = norm n := ⟨_, rfl⟩
  rw [← hk0] at HNK ⊢
  unfold norm at hk0
  clear hv hn
  go_enter Try.func20, Try.ntmps20
  go_wp2_with fail
  rw [← hk0]
  refine (Ld.new_any k0 _).mono ?_
  rintro e w1 ⟨rfl, hb1⟩
  have hz1 : w.heap.size + 1 ≤ w1.heap.size := by have := hb1.size; simpa using this
  have hT1 := (hb1.block w.heap.size (by simp)).trans HST.out
  have hb01 : Below w.heap.size w w1 := ((Below.refl _ _).alloc (Nat.le_refl _) _).trans (hb1.mono (by simp))
  have e1 : Ld.newL k0 = k0 := if_pos HNK.out
  have e2 : Ld.newN k0 = 1 := if_pos HNK.out
  have e3 : Ld.newE k0 = 0 := if_pos HNK.out
  rw [e1, e2, e3]
  have hs2 : (w1.alloc (.cells zArr 26)).heap[w1.heap.size]? = some (.cells zArr 26 (0, 0)) := heap_alloc_new _ _
  have hb2 : Below w1.heap.size w1 ((w1.alloc (.cells zArr 26)).setRow w1.heap.size (Ld.nilA k0 1)) := Ld.below_row ((Below.refl _ _).alloc (Nat.le_refl _) _) (Nat.le_refl _) _
  have hR2 := setRow_heap _ _ _ (Ld.nilA k0 1) _ _ hs2
  obtain ⟨W2, hW2⟩ : ∃ q, (w1.alloc (.cells zArr 26)).setRow w1.heap.size (Ld.nilA k0 1) = q := ⟨_, rfl⟩
  rw [hW2] at hb2 hR2
  have HS2 := Lib.hid hs2
  have HB2 := Lib.hid hb2
  have HR2 := Lib.hid hR2
  have HT1 := Lib.hid hT1
  have HB01 := Lib.hid hb01
  have HZ1 := Lib.hid hz1
  have HZ2 : Hid (w1.heap.size < W2.heap.size) := Lib.hid ((Array.getElem?_eq_some_iff.1 hR2).1)
  clear e1 e2 e3 hb1 hT1 hb01 hs2 hb2 hR2 hz1 hk0
  go_wp2_with ((with_reducible refine wpList_store_row rfl 26 (.tmp 6) (.tmp 22) rfl w1.heap.size (Ld.nilA k0 1) rfl rfl 26 _ HS2.out (by kernel_rfl) rfl (nilA_one k0 1) ?_))
  go_loopw [8, 28] (fun ok i wr => ∃ (k : Nat) (m : Led) (vh vl : Value), k ≤ ops.length ∧ i = .int .i64 k ∧ ok = .bool true ∧ Hid (m.limit = k0) ∧ Hid (Good wr w1.heap.size w1.heap.size m vh vl) ∧ Hid (Below w1.heap.size w1 wr)) (fun _ i _ => ops.length - (intOf i).toNat)
  case atStart => exact ⟨0, ⟨k0, 1, [], []⟩, .slice none 0 0, .slice none 0 0, Nat.zero_le _, rfl, rfl, Lib.hid rfl, Lib.hid ⟨HR2.out, OwnR.nil _ _ _, OwnR.nil _ _ _, fun k hk => by simp [Value.ownBlock] at hk, fun k hk => by simp [Value.ownBlock] at hk, ⟨wf_i64 (by show _ ≤ k0; have := HNK.out.1; omega) (by show k0 ≤ _; have := HNK.out.2; omega), by show (Lit.int .u64 1).wf = true; decide, by simp, by simp⟩, nil_ok HNK.out.1 HNK.out.2⟩, HB2⟩
  case round =>
    obtain ⟨k, m, vh, vl, hk, rfl, rfl, HM, HG, HB⟩ := hrel
    obtain ⟨a1, c1, hv1, -⟩ := id (HG.out.held.sl heldC_len)
    subst hv1
    obtain ⟨a2, c2, hv2, -⟩ := id (HG.out.last.sl lastC_len)
    subst hv2
    have HZ := Lib.hid HG.out.lt
    have HBW := Lib.hid (HB01.out.trans (HB.out.mono (by have := HZ1.out; omega)))
    have HT : Hid (wr.heap[w.heap.size]? = some (.cells zArr 26 (0, 0))) := Lib.hid ((HB.out.block _ (by have := HZ1.out; omega)).trans HT1.out)
    have HFIN : Hid (∀ W : World, Below wr.heap.size wr W → Played k0 w (.returned (.tuple #[.agg (lArr m (.slice a1 m.held.length c1) (.slice a2 m.last.length c2)), .bool true])) (W.setRow w.heap.size (lArr m (.slice a1 m.held.length c1) (.slice a2 m.last.length c2)))) := Lib.hid (fun W hb => by
      have hbw := HBW.out
      refine ⟨m, _, _, rfl, (HG.out.below hb).led_row (by have := HZ1.out; omega) _, HG.out.ok, HM.out, Ld.below_row (hbw.trans (hb.mono (by have := hbw.size; omega))) (Nat.le_refl _) _⟩)
    by_cases hlt : k < ops.length
    · obtain ⟨b, off, cap', x, ar, cr, hv, hx, hsl, hxw, hlb, hce⟩ := ops_get (HV.out.below HBW.out (Nat.le_refl _)) hlt
      simp only [Value.slice.injEq] at hv
      obtain ⟨rfl, -, rfl⟩ := hv
      obtain ⟨e0, e1, e2, e3, e4, e5, e6, e7, e8⟩ := Hd.ent_cells hce
      have hb4 : Below wr.heap.size wr (wr.alloc (.cells (eA x (.slice ar x.cmd.nodes.length cr)) 49)) := (Below.refl _ _).alloc (Nat.le_refl _) _
      have HG4 := Lib.hid (HG.out.below hb4)
      have HB4 := Lib.hid hb4
      have HC4 : Hid (IsCmd (wr.alloc (.cells (eA x (.slice ar x.cmd.nodes.length cr)) 49)) (.agg (cA x.cmd (.slice ar x.cmd.nodes.length cr))) x.cmd) := Lib.hid ⟨_, rfl, hsl.below hb4 (Nat.le_refl _), hxw.2⟩
      have HXW := Lib.hid hxw
      have HT4 := Lib.hid ((hb4.block _ (by have := HZ1.out; have := HZ.out; omega)).trans HT.out)
      clear hx hsl hxw hce hb4
      by_cases h200 : 200 ≤ k
      · go_wp2_with (first
          | (with_reducible refine wpList_load_row rfl 26 (.tmp 6) rfl w1.heap.size rfl 26 (lArr m (.slice a1 m.held.length c1) (.slice a2 m.last.length c2)) (0, 0) _ HG4.out.row Try.underlying26 rfl (by kernel_rfl) ?_)
          | (with_reducible refine wpList_store_row rfl 26 (.tmp 4) (.tmp 62) rfl w.heap.size (lArr m (.slice a1 m.held.length c1) (.slice a2 m.last.length c2)) rfl rfl 26 _ HT4.out (by kernel_rfl) rfl (Ld.lArr_one _ _ _ _ _ _ _) ?_))
        exact bodyPost_ret (v := .tuple #[.agg (lArr m (.slice a1 m.held.length c1) (.slice a2 m.last.length c2)), .bool true]) (results_cell2 rfl _ _ w.heap.size 26 _ (0, 0) _ rfl (setRow_heap _ _ _ _ _ _ HT4.out) Try.underlying26 rfl (by kernel_rfl) rfl) rfl (HFIN.out _ HB4.out)
      · go_wp2_with ((with_reducible refine wpList_load_row rfl 26 (.tmp 6) rfl w1.heap.size rfl 26 (lArr m (.slice a1 m.held.length c1) (.slice a2 m.last.length c2)) (0, 0) _ HG4.out.row Try.underlying26 rfl (by kernel_rfl) ?_))
        refine (apply_any m _ _ x.term x.cmd _ HG4.out.led HC4.out HXW.out.1).mono ?_
        rintro e w5 ⟨vh5, vl5, rfl, h1, h2, -, hwf5, hb5⟩
        have hz := err_cases HG.out.ok x.term x.cmd
        have HOK5 : Hid (errL m x.term x.cmd = 0 → LedP (applyL m x.term x.cmd) ∧ (applyL m x.term x.cmd).limit = k0) := Lib.hid (fun h0 => by
          obtain ⟨g1, g2, g3⟩ := err_zero.1 h0
          have := do_ok HG.out.ok HG.out.wf HXW.out.2 g2 g3
          unfold applyL
          rw [if_pos h0]
          exact ⟨this.1, this.2.2.trans HM.out⟩)
        generalize applyL m x.term x.cmd = m5 at *
        generalize answerL m x.term x.cmd = b5 at *
        generalize errL m x.term x.cmd = z5 at *
        obtain ⟨a3, c3, hv3, -⟩ := id (h1.sl heldC_len)
        subst hv3
        obtain ⟨a4, c4, hv4, -⟩ := id (h2.sl lastC_len)
        subst hv4
        obtain ⟨W6, hW6, hb6, hR6, hA6, hz6, hs1, hs2⟩ := boxed w5 m5 b5 (.slice a3 m5.held.length c3) (.slice a4 m5.last.length c4)
        have HB6 := Lib.hid (HB4.out.trans ((hb5.mono HB4.out.size).trans (hb6.mono (Nat.le_trans HB4.out.size hb5.size))))
        have HS1 := Lib.hid hs1
        have HS2 := Lib.hid hs2
        have HR6 := Lib.hid hR6
        have HN6 : Hid (Good W6 w1.heap.size w1.heap.size m (.slice a1 m.held.length c1) (.slice a2 m.last.length c2) → LedP m5 → Good (W6.setRow w1.heap.size (lArr m5 (.slice a3 m5.held.length c3) (.slice a4 m5.last.length c4))) w1.heap.size w1.heap.size m5 (.slice a3 m5.held.length c3) (.slice a4 m5.last.length c4)) := Lib.hid (fun g q => g.next h1 h2 HG4.out.lt (Nat.le_of_lt HG4.out.lt) hb6 hwf5 q)
        clear h1 h2 hwf5 hb5 hb6 hR6 hA6 hz6 hs1 hs2 e0 e1 e2 e3 e4 e5 e6 e7 e8
        rcases hz with ⟨rfl, -, -⟩ | ⟨rfl, -⟩ | ⟨rfl, -⟩
        · have HG6 := Lib.hid (HG.out.below HB6.out)
          have HX6 := Lib.hid (HB.out.trans (HB6.out.mono (by have := HZ.out; omega)))
          have HG7 := Lib.hid (HN6.out HG6.out (HOK5.out rfl).1)
          have HM7 := Lib.hid (HOK5.out rfl).2
          have HX7 := Lib.hid (Ld.below_row HX6.out (Nat.le_refl _) (lArr m5 (.slice a3 m5.held.length c3) (.slice a4 m5.last.length c4)))
          go_wp2_with (first
            | (with_reducible refine wpList_store_row rfl 26 (.tmp 11) (.tmp 42) rfl w5.heap.size (lArr m5 (.slice a3 m5.held.length c3) (.slice a4 m5.last.length c4)) rfl rfl 26 _ HS1.out (by kernel_rfl) rfl (Ld.lArr_one _ _ _ _ _ _ _) ?_)
            | (with_reducible refine wpList_store_row rfl 33 (.tmp 12) (.tmp 43) rfl (w5.heap.size + 1) (aA b5) rfl rfl 33 _ HS2.out (by kernel_rfl) rfl (ans_one _ _ _) ?_)
            | (with_reducible refine wpList_load_row rfl 26 (.tmp 11) rfl w5.heap.size rfl 26 (lArr m5 (.slice a3 m5.held.length c3) (.slice a4 m5.last.length c4)) (0, 0) _ HR6.out Try.underlying26 rfl (by kernel_rfl) ?_)
            | (with_reducible refine wpList_store_row rfl 26 (.tmp 6) (.tmp 47) rfl w1.heap.size (lArr m5 (.slice a3 m5.held.length c3) (.slice a4 m5.last.length c4)) rfl rfl 26 _ HG6.out.row (by kernel_rfl) rfl (Ld.lArr_one _ _ _ _ _ _ _) ?_))
          go_roundw
          case rel => exact ⟨k + 1, m5, _, _, by omega, by go_num, rfl, HM7, HG7, HX7⟩
          case measure => simp [intOf]; omega
        · have HG6 := Lib.hid (HG.out.below HB6.out)
          have HX6 := Lib.hid (HB.out.trans (HB6.out.mono (by have := HZ.out; omega)))
          go_wp2_with (first
            | (with_reducible refine wpList_store_row rfl 26 (.tmp 11) (.tmp 42) rfl w5.heap.size (lArr m5 (.slice a3 m5.held.length c3) (.slice a4 m5.last.length c4)) rfl rfl 26 _ HS1.out (by kernel_rfl) rfl (Ld.lArr_one _ _ _ _ _ _ _) ?_)
            | (with_reducible refine wpList_store_row rfl 33 (.tmp 12) (.tmp 43) rfl (w5.heap.size + 1) (aA b5) rfl rfl 33 _ HS2.out (by kernel_rfl) rfl (ans_one _ _ _) ?_))
          go_roundw
          case rel => exact ⟨k + 1, m, _, _, by omega, by go_num, rfl, HM, HG6, HX6⟩
          case measure => simp [intOf]; omega
        · have HG6 := Lib.hid (HG.out.below HB6.out)
          have HX6 := Lib.hid (HB.out.trans (HB6.out.mono (by have := HZ.out; omega)))
          go_wp2_with (first
            | (with_reducible refine wpList_store_row rfl 26 (.tmp 11) (.tmp 42) rfl w5.heap.size (lArr m5 (.slice a3 m5.held.length c3) (.slice a4 m5.last.length c4)) rfl rfl 26 _ HS1.out (by kernel_rfl) rfl (Ld.lArr_one _ _ _ _ _ _ _) ?_)
            | (with_reducible refine wpList_store_row rfl 33 (.tmp 12) (.tmp 43) rfl (w5.heap.size + 1) (aA b5) rfl rfl 33 _ HS2.out (by kernel_rfl) rfl (ans_one _ _ _) ?_))
          go_roundw
          case rel => exact ⟨k + 1, m, _, _, by omega, by go_num, rfl, HM, HG6, HX6⟩
          case measure => simp [intOf]; omega
    · obtain rfl : k = ops.length := by omega
      go_wp2_with (first
        | (with_reducible refine wpList_load_row rfl 26 (.tmp 6) rfl w1.heap.size rfl 26 (lArr m (.slice a1 m.held.length c1) (.slice a2 m.last.length c2)) (0, 0) _ HG.out.row Try.underlying26 rfl (by kernel_rfl) ?_)
        | (with_reducible refine wpList_store_row rfl 26 (.tmp 4) (.tmp 62) rfl w.heap.size (lArr m (.slice a1 m.held.length c1) (.slice a2 m.last.length c2)) rfl rfl 26 _ HT.out (by kernel_rfl) rfl (Ld.lArr_one _ _ _ _ _ _ _) ?_))
      exact bodyPost_ret (v := .tuple #[.agg (lArr m (.slice a1 m.held.length c1) (.slice a2 m.last.length c2)), .bool true]) (results_cell2 rfl _ _ w.heap.size 26 _ (0, 0) _ rfl (setRow_heap _ _ _ _ _ _ HT.out) Try.underlying26 rfl (by kernel_rfl) rfl) rfl (HFIN.out _ (Below.refl _ _))
/-- a ledger stored into a box of its own -/
theorem boxL (w1 : World) (l : Led) (vh vl : Value) : ∃ W, (w1.alloc (.cells zArr 26)).setRow w1.heap.size (lArr l vh vl) = W ∧ Below w1.heap.size w1 W ∧ W.heap[w1.heap.size]? = some (.cells (lArr l vh vl) 26 (0, 0)) ∧ W.heap.size = w1.heap.size + 1 ∧ (w1.alloc (.cells zArr 26)).heap[w1.heap.size]? = some (.cells zArr 26 (0, 0)) :=
  ⟨_, rfl, Ld.below_row ((Below.refl _ _).alloc (Nat.le_refl _) _) (Nat.le_refl _) _, setRow_heap _ _ _ _ _ _ (heap_alloc_new _ _), by simp, heap_alloc_new _ _⟩
theorem led_forms {w : World} {m : Led} {vh vl : Value} (h : IsLed w (.agg (lArr m vh vl)) m) : ∃ c1 k1 c2 k2, vh = .slice c1 m.held.length k1 ∧ vl = .slice c2 m.last.length k2 := by
  obtain ⟨vh', vl', e', s1, s2, -⟩ := h
  obtain ⟨rfl, rfl⟩ : vh = vh' ∧ vl = vl' := by simpa using e'
  obtain ⟨c1, k1, rfl, -⟩ := id s1
  obtain ⟨c2, k2, rfl, -⟩ := id s2
  exact ⟨_, _, _, _, rfl, rfl⟩
theorem op_cells {w : World} {g : Nat} {x : Ent} {vn : Value} {t : TypeId} (h : w.heap[g]? = some (.cells (eA x vn) t (0, 0))) :
    w.cell? ⟨g, 0, none⟩ = some (.int .u64 x.term) ∧ w.cell? ⟨g, 1, none⟩ = some (.int .i64 x.cmd.kind) ∧ w.cell? ⟨g, 2, none⟩ = some (.int .i64 x.cmd.node) ∧ w.cell? ⟨g, 3, none⟩ = some (.int .i64 x.cmd.token) ∧ w.cell? ⟨g, 4, none⟩ = some vn ∧ w.cell? ⟨g, 5, none⟩ = some (.int .u64 x.cmd.boot) ∧ w.cell? ⟨g, 6, none⟩ = some (.int .u64 x.cmd.seq) ∧ w.cell? ⟨g, 7, none⟩ = some (.int .u64 x.cmd.serial) ∧ w.cell? ⟨g, 8, none⟩ = some (.int .u64 x.cmd.stamp) := Hd.ent9 h
theorem heap_lt {w : World} {g : Nat} {o : Obj} (h : w.heap[g]? = some o) : g < w.heap.size := (Array.getElem?_eq_some_iff.1 h).1
end La
end Go.Proofs.Ytlkmdoddgfmnbaa
