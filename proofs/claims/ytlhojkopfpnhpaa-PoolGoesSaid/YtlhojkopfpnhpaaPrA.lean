/- The document's pool: where it lies; Has, waits, find. No condition. -/
import Derived.Test.YtlhojkopfpnhpaaPlG
namespace Go.Proofs.Ytlhojkopfpnhpaa
open Go.ChangeShapes Go.WideShapes Go.ChangeAt Go.RowKit Go.Deep
set_option linter.unusedVariables false
set_option maxRecDepth 100000
set_option linter.unusedSimpArgs false
namespace Pr
open Pl
abbrev TP : TypeId := 30
abbrev TC : TypeId := 49
def RpAt (w : World) (B q : Nat) (vC vW : Value) (cs : List Cn) (ws : List Int) : Prop := w.heap[q]? = some (.cells #[vC, vW] TP (0, 0)) ∧ OwnR 2 cnC TC w B vC cs ∧ OwnR 1 intC 3 w B vW ws ∧ B ≤ q
variable {w w' : World} {B q : Nat} {vC vW : Value} {cs : List Cn} {ws : List Int}
theorem RpAt.below (h : RpAt w B q vC vW cs ws) (hb : Below w.heap.size w w') : RpAt w' B q vC vW cs ws :=
  ⟨(hb.block _ (row_lt h.1)).trans h.1, h.2.1.below hb (Nat.le_refl _), h.2.2.1.below hb (Nat.le_refl _), h.2.2.2⟩
theorem RpAt.drew (h : RpAt w B q vC vW cs ws) : RpAt w.drew B q vC vW cs ws := h.below ((Below.refl _ _).drew)
theorem RpAt.c0 (h : RpAt w B q vC vW cs ws) : w.cell? ⟨q, 0, none⟩ = some vC := (cell_of_row w q 0 _ _ _ h.1).trans rfl
theorem RpAt.c1 (h : RpAt w B q vC vW cs ws) : w.cell? ⟨q, 1, none⟩ = some vW := (cell_of_row w q 1 _ _ _ h.1).trans rfl
theorem RpAt.f (h : RpAt w B q vC vW cs ws) (i : Nat) : w.frozen? ⟨q, i, none⟩ = false := frozen_of_row w q i _ _ h.1
/-- what a call of the document's leaves -/
def RpC (B q : Nat) (vC : Value) (cs' : List Cn) (ws' : List Int) (w w' : World) : Prop := ∃ vC' vW', RpAt w' B q vC' vW' cs' ws' ∧ Only (fun k => k = q ∨ vC.ownBlock = some k) w w' ∧ (vC'.ownBlock = vC.ownBlock ∨ ∀ k, vC'.ownBlock = some k → w.heap.size ≤ k)
theorem RpC.same (h : RpAt w B q vC vW cs ws) (hb : Below w.heap.size w w') : RpC B q vC cs ws w w' := ⟨vC, vW, h.below hb, Below.only hb _, .inl rfl⟩
/-- a new list of connections is put into the box -/
theorem RpAt.putC {X : World} {v' : Value} {cs' : List Cn} (h : RpAt X B q vC vW cs ws) (hB : B ≤ X.heap.size) (own' : OwnR 2 cnC TC w' X.heap.size v' cs') (hb : Below X.heap.size X w') :
    RpAt (w'.setCell ⟨q, 0, none⟩ v') B q v' vW cs' ws ∧ Only (fun k => k = q ∨ vC.ownBlock = some k) X (w'.setCell ⟨q, 0, none⟩ v') ∧ (∀ k, v'.ownBlock = some k → X.heap.size ≤ k) := by
  have h2 := h.below hb
  have hup : ∀ k, v'.ownBlock = some k → X.heap.size ≤ k := fun k hk => (World.ownsRow.lt own' k hk).1
  have g1 := own_ty own' h2.1 (by decide)
  have g2 := own_ty h2.2.2.1 h2.1 (by decide)
  exact ⟨⟨by rw [heap_setCell_same _ q 0 _ _ _ h2.1]; rfl, own_up (own_keep own' (fun k hk _ => Below.heap_setCell _ _ _ _ (by simpa using g1 k hk))) (fun k hk => Nat.le_trans hB (hup k hk)), own_keep h2.2.2.1 (fun k hk _ => Below.heap_setCell _ _ _ _ (by simpa using g2 k hk)), h.2.2.2⟩,
    (Below.only hb _).trans (Only.setCell _ _ _ (.inl rfl)), hup⟩
theorem RpAt.putW {X : World} {v' : Value} {ws' : List Int} (h : RpAt X B q vC vW cs ws) (hB : B ≤ X.heap.size) (own' : OwnR 1 intC 3 w' X.heap.size v' ws') (hb : Below X.heap.size X w') :
    RpAt (w'.setCell ⟨q, 1, none⟩ v') B q vC v' cs ws' ∧ Only (fun k => k = q ∨ vC.ownBlock = some k) X (w'.setCell ⟨q, 1, none⟩ v') := by
  have h2 := h.below hb
  have hup : ∀ k, v'.ownBlock = some k → X.heap.size ≤ k := fun k hk => (World.ownsRow.lt own' k hk).1
  have g1 := own_ty own' h2.1 (by decide)
  have g2 := own_ty h2.2.1 h2.1 (by decide)
  exact ⟨⟨by rw [heap_setCell_same _ q 1 _ _ _ h2.1]; rfl, own_keep h2.2.1 (fun k hk _ => Below.heap_setCell _ _ _ _ (by simpa using g2 k hk)), own_up (own_keep own' (fun k hk _ => Below.heap_setCell _ _ _ _ (by simpa using g1 k hk))) (fun k hk => Nat.le_trans hB (hup k hk)), h.2.2.2⟩,
    (Below.only hb _).trans (Only.setCell _ _ _ (.inl rfl))⟩
/-! ### lists -/
def tokQ (t : Int) (x : Cn) : Bool := decide (x.tok = t)
theorem tok_idx {t : Int} (hs : Sorted cs) : idxOf (tokQ t) cs = if hasC t cs = true then (posC t cs : Int) else -1 := by
  by_cases hh : hasC t cs = true
  · rw [if_pos hh]
    obtain ⟨x, hx, e⟩ := has_at hh
    exact idx_hit (fun j y hj hy => by have := pos_lt hj hy; simp [tokQ]; omega) hx (by simp [tokQ, e])
  · rw [if_neg hh]
    have hh' : hasC t cs = false := by simpa using hh
    refine idx_none (fun j y hj hy => ?_)
    rcases Nat.lt_or_ge j (posC t cs) with h1 | h1
    · have := pos_lt h1 hy; simp [tokQ]; omega
    · have := pos_gt hs hh' h1 hy; simp [tokQ]; omega
theorem has_hit {s : Int} {k : Nat} {x : Cn} (h0 : s ≠ 0) (ha : Ahead (sessQ s) cs k) (hx : cs[k]? = some x) (hq : sessQ s x = true) : hasT s cs = x.tok := by
  have e := idx_hit ha hx hq
  unfold hasT ofI
  rw [if_neg h0, e, if_neg (by omega), Int.toNat_natCast, hx]
  rfl
theorem has_none {s : Int} (h0 : s ≠ 0) (ha : Ahead (sessQ s) cs cs.length) : hasT s cs = 0 := by
  have e := idx_none ha
  unfold hasT ofI
  rw [if_neg h0, e, if_pos (by decide)]
theorem has_zero : hasT 0 cs = 0 := by
  unfold hasT ofI
  rw [if_pos rfl, if_pos (by decide)]
/-! ### calls that read -/
set_option maxHeartbeats 2000000 in
theorem rfind_any (t : Int) (w : World) (h : RpAt w B q vC vW cs ws) (h8 : cs.length ≤ 8) :
    Calls Try.prog 22 #[.pointer (some ⟨q, 0, none⟩), .int .i64 t] w fun e w' => e = .returned (.int .i64 (idxOf (tokQ t) cs)) ∧ Below w.heap.size w w' := by
  have c0 := h.c0
  rcases SlR.cases (h.2.1.sl cnC_len) with ⟨a, cap, rfl, rfl⟩ | ⟨b, off, cap, rfl, h0, hlc, hcm, hlt, hc⟩
  · clear h
    go_enter Try.func22, Try.ntmps22
    go_wp2
    refine wp_loop_rounds 1 ?_
    rw [rounds_succ]
    go_wp2
    go_ret
    exact ⟨rfl, Below.refl _ _⟩
  · have HC := Lib.hid hc
    clear h hc
    go_enter Try.func22, Try.ntmps22
    go_wp2
    clear c0
    go_loopw [12] (fun i wr => ∃ k : Nat, k ≤ cs.length ∧ i = .int .i64 k ∧ Hid (Ahead (tokQ t) cs k) ∧ Hid (Below w.heap.size w wr)) (fun i _ => cs.length - (intOf i).toNat)
    case atStart => exact ⟨0, Nat.zero_le _, rfl, Lib.hid (Ahead.zero _ _), Lib.hid (Below.refl _ _)⟩
    case round =>
      obtain ⟨k, hk, rfl, HA, HBL⟩ := hrel
      by_cases hk2 : k < cs.length
      · have hce := fun j u hu => (HBL.out.cell (p := ⟨b, off + (k * 2 + j), none⟩) hlt).trans (HC.out k _ (rgetD hk2) j u hu)
        have HG := Lib.hid (rgetD hk2)
        generalize cs[k] = x at *
        obtain ⟨x0, x1⟩ := cn_cells hce
        clear hce
        obtain ⟨W1, hW1⟩ : ∃ q, wr.alloc (.cells #[.int .i64 x.tok, .int .i64 x.sess] TC) = q := ⟨_, rfl⟩
        have hb1 : Below wr.heap.size wr W1 := by rw [← hW1]; exact (Below.refl _ _).alloc (Nat.le_refl _) _
        have hg1 : W1.heap[wr.heap.size]? = some (.cells #[.int .i64 x.tok, .int .i64 x.sess] TC (0, 0)) := by rw [← hW1]; exact heap_alloc_new _ _
        have d0 : W1.cell? ⟨wr.heap.size, 0, none⟩ = some (.int .i64 x.tok) := (cell_of_row W1 _ 0 _ _ _ hg1).trans rfl
        have HB2 := Lib.hid (HBL.out.trans (hb1.mono HBL.out.size))
        clear hb1 hg1
        by_cases hx : x.tok = t
        · have HI := Lib.hid (idx_hit HA.out HG.out (show tokQ t x = true by simp [tokQ, hx]))
          have hx2 : (x.tok == t) = true := by simpa using hx
          clear hx
          go_wp2
          go_ret
          exact ⟨ret_int HI.out.symm, HB2.out⟩
        · have hx2 : (x.tok == t) = false := by simpa using hx
          have HA2 := Lib.hid (HA.out.succ HG.out (show tokQ t x = false by simp [tokQ, hx]))
          clear hx
          go_wp2
          go_roundw
          case rel => exact ⟨k + 1, by omega, by go_num, HA2, HB2⟩
          case measure => simp [intOf]; omega
      · obtain rfl : k = cs.length := by omega
        have HI := Lib.hid (idx_none HA.out)
        go_wp2
        go_ret
        exact ⟨ret_int HI.out.symm, HBL.out⟩
set_option maxHeartbeats 2000000 in
theorem rhas_any (s : Int) (w : World) (h : RpAt w B q vC vW cs ws) (h8 : cs.length ≤ 8) :
    Calls Try.prog 17 #[.pointer (some ⟨q, 0, none⟩), .int .i64 s] w fun e w' => e = .returned (.int .i64 (hasT s cs)) ∧ Below w.heap.size w w' := by
  have c0 := h.c0
  rcases SlR.cases (h.2.1.sl cnC_len) with ⟨a, cap, rfl, rfl⟩ | ⟨b, off, cap, rfl, h0, hlc, hcm, hlt, hc⟩
  · have HZ : Hid (hasT s ([] : List Cn) = 0) := Lib.hid (by by_cases g : s = 0; (subst g; exact has_zero); exact has_none g (fun j y hj => absurd hj (Nat.not_lt_zero _)))
    clear h
    go_enter Try.func17, Try.ntmps17
    go_wp2
    refine wp_loop_rounds 1 ?_
    rw [rounds_succ]
    go_wp2
    go_ret
    exact ⟨ret_int HZ.out.symm, Below.refl _ _⟩
  · have HC := Lib.hid hc
    clear h hc
    go_enter Try.func17, Try.ntmps17
    go_wp2
    clear c0
    go_loopw [12] (fun i wr => ∃ k : Nat, k ≤ cs.length ∧ i = .int .i64 k ∧ Hid (s ≠ 0 → Ahead (sessQ s) cs k) ∧ Hid (Below w.heap.size w wr)) (fun i _ => cs.length - (intOf i).toNat)
    case atStart => exact ⟨0, Nat.zero_le _, rfl, Lib.hid (fun _ => Ahead.zero _ _), Lib.hid (Below.refl _ _)⟩
    case round =>
      obtain ⟨k, hk, rfl, HA, HBL⟩ := hrel
      by_cases hk2 : k < cs.length
      · have hce := fun j u hu => (HBL.out.cell (p := ⟨b, off + (k * 2 + j), none⟩) hlt).trans (HC.out k _ (rgetD hk2) j u hu)
        have HG := Lib.hid (rgetD hk2)
        generalize cs[k] = x at *
        obtain ⟨x0, x1⟩ := cn_cells hce
        clear hce
        obtain ⟨W1, hW1⟩ : ∃ q, wr.alloc (.cells #[.int .i64 x.tok, .int .i64 x.sess] TC) = q := ⟨_, rfl⟩
        have hb1 : Below wr.heap.size wr W1 := by rw [← hW1]; exact (Below.refl _ _).alloc (Nat.le_refl _) _
        have hg1 : W1.heap[wr.heap.size]? = some (.cells #[.int .i64 x.tok, .int .i64 x.sess] TC (0, 0)) := by rw [← hW1]; exact heap_alloc_new _ _
        have d0 : W1.cell? ⟨wr.heap.size, 0, none⟩ = some (.int .i64 x.tok) := (cell_of_row W1 _ 0 _ _ _ hg1).trans rfl
        have d1 : W1.cell? ⟨wr.heap.size, 1, none⟩ = some (.int .i64 x.sess) := (cell_of_row W1 _ 1 _ _ _ hg1).trans rfl
        have HB2 := Lib.hid (HBL.out.trans (hb1.mono HBL.out.size))
        clear hb1 hg1
        by_cases hx : x.sess = s
        · have hx2 : (x.sess == s) = true := by simpa using hx
          by_cases hs : s = 0
          · have hs2 : (s != 0) = false := by simpa using hs
            have HS := Lib.hid hs
            clear hx hs
            go_wp2
            go_roundw
            case rel => exact ⟨k + 1, by omega, by go_num, Lib.hid (fun g => absurd HS.out g), HB2⟩
            case measure => simp [intOf]; omega
          · have hs2 : (s != 0) = true := by simpa using hs
            have HI := Lib.hid (has_hit hs (HA.out hs) HG.out (show sessQ s x = true by simp [sessQ, hx]))
            clear hx hs
            go_wp2
            go_ret
            exact ⟨ret_int HI.out.symm, HB2.out⟩
        · have hx2 : (x.sess == s) = false := by simpa using hx
          have HA2 : Hid (s ≠ 0 → Ahead (sessQ s) cs (k + 1)) := Lib.hid (fun g => (HA.out g).succ HG.out (show sessQ s x = false by simp [sessQ, hx]))
          clear hx
          go_wp2
          go_roundw
          case rel => exact ⟨k + 1, by omega, by go_num, HA2, HB2⟩
          case measure => simp [intOf]; omega
      · obtain rfl : k = cs.length := by omega
        have HI : Hid (hasT s cs = 0) := Lib.hid (by by_cases g : s = 0; (subst g; exact has_zero); exact has_none g (HA.out g))
        go_wp2
        go_ret
        exact ⟨ret_int HI.out.symm, HBL.out⟩
theorem rwaits_any (s : Int) (w : World) (h : RpAt w B q vC vW cs ws) (h4 : ws.length ≤ 4) :
    Calls Try.prog 27 #[.pointer (some ⟨q, 0, none⟩), .int .i64 s] w fun e w' => e = .returned (.bool (decide (s ∈ ws))) ∧ w' = w := by
  have c1 := h.c1
  rcases SlR.cases (h.2.2.1.sl intC_len) with ⟨a, cap, rfl, rfl⟩ | ⟨b, off, cap, rfl, h0, hlc, hcm, hlt, hc⟩
  · clear h
    go_enter Try.func27, Try.ntmps27
    go_wp2
    refine wp_loop_rounds 1 ?_
    rw [rounds_succ]
    go_wp2
    go_ret
    exact ⟨by simp, rfl⟩
  · have HC := Lib.hid hc
    have HD := Lib.hid (idx_mem s ws)
    clear h hc
    go_enter Try.func27, Try.ntmps27
    go_wp2
    clear c1
    go_loop [12] (fun i => ∃ k : Nat, k ≤ ws.length ∧ i = .int .i64 k ∧ Hid (Ahead (isQ s) ws k)) (fun i => ws.length - (intOf i).toNat)
    case atStart => exact ⟨0, Nat.zero_le _, rfl, Lib.hid (Ahead.zero _ _)⟩
    case round =>
      obtain ⟨k, hk, rfl, HA⟩ := hrel
      by_cases hk2 : k < ws.length
      · have x0 : w.cell? ⟨b, off + k, none⟩ = some (.int .i64 ws[k]) := by simpa using HC.out k _ (rgetD hk2) 0 _ rfl
        have HG := Lib.hid (rgetD hk2)
        generalize ws[k] = x at *
        by_cases hx : x = s
        · have HI : Hid (decide (s ∈ ws) = true) := Lib.hid (by
            rw [← HD.out, idx_hit HA.out HG.out (show isQ s x = true by simp [isQ, hx])]
            simp)
          have hx2 : (x == s) = true := by simpa using hx
          clear hx
          go_wp2
          go_ret
          exact ⟨ret_bool HI.out.symm, rfl⟩
        · have hx2 : (x == s) = false := by simpa using hx
          have HA2 := Lib.hid (HA.out.succ HG.out (show isQ s x = false by simp [isQ, hx]))
          clear hx
          go_wp2
          go_round
          case rel => exact ⟨k + 1, by omega, by go_num, HA2⟩
          case measure => simp [intOf]; omega
      · obtain rfl : k = ws.length := by omega
        have HI : Hid (decide (s ∈ ws) = false) := Lib.hid (by rw [← HD.out, idx_none HA.out]; rfl)
        go_wp2
        go_ret
        exact ⟨ret_bool HI.out.symm, rfl⟩
end Pr
end Go.Proofs.Ytlhojkopfpnhpaa
