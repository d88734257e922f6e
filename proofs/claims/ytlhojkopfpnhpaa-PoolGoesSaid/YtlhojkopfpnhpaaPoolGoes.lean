/- The law PoolGoes returns true for every list of calls: whatever is done, a pool answers, and is, just what the document says, and the chapter's example holds. No condition. -/
import Derived.Test.YtlhojkopfpnhpaaRd
import Derived.Test.YtlhojkopfpnhpaaPrG
namespace Go.Proofs.Ytlhojkopfpnhpaa.poolGoes
open Go.ChangeShapes Go.WideShapes Go.ChangeAt Go.RowKit
open Go.ChangeMaps (open_string shut_string)
set_option linter.unusedVariables false

theorem own : ownKnob Try.prog.godebug = none := by kernel_rfl
theorem laidOut : laidOutB Try.prog = true := by kernel_rfl

set_option linter.unusedSimpArgs false
open Pl
theorem bsz {B : Nat} {a w : World} (h : Below B a w) (e : a.heap.size = B) : B ≤ w.heap.size := e ▸ h.size
theorem op_cells {w : World} {b off k : Nat} {x : POp} (h : ∀ j u, (popC x)[j]? = some u → w.cell? ⟨b, off + (k * 2 + j), none⟩ = some u) :
    w.cell? ⟨b, off + k * 2, none⟩ = some (.int .i64 x.kind) ∧ w.cell? ⟨b, off + k * 2 + 1, none⟩ = some (.int .i64 x.n) := by
  have h0 := h 0 _ rfl; have h1 := h 1 _ rfl
  simp only [← Nat.add_assoc, Nat.add_zero] at h0 h1
  exact ⟨h0, h1⟩
set_option maxRecDepth 100000 in
set_option maxHeartbeats 32000000 in
theorem walk (v0 : Value) (x0 : (List POp)) (w : World) (w0 : IsPOps w v0 x0) (b0 : IsPOps.fits x0) :
    Calls Try.prog 3 #[v0] w fun e w' => e = .returned (.bool true) ∧ Below w.heap.size w w' := by
  have HW := Lib.hid w0.1
  clear b0
  go_enter Try.func3, Try.ntmps3
  go_wp2_with fail
  refine (Pl.live_any _).mono ?_
  rintro e w1 ⟨rfl, hb1⟩
  have HB1 := Lib.hid hb1
  clear hb1
  go_wp2_with fail
  refine (Pl.new_any _).mono ?_
  rintro e w2 ⟨rfl, hn, hb2⟩
  obtain ⟨B, hB⟩ : ∃ q, w1.heap.size = q := ⟨_, rfl⟩
  rw [hB] at hn hb2 ⊢
  have HBZ := Lib.hid hB
  obtain ⟨W3, hW3⟩ : ∃ q, w2.alloc (.cells #[.slice none 0 0, .slice none 0 0] 30) = q := ⟨_, rfl⟩
  have hb3 : Below w2.heap.size w2 W3 := by rw [← hW3]; exact (Below.refl _ _).alloc (Nat.le_refl _) _
  obtain ⟨gx, hgx⟩ : ∃ q, w2.heap.size = q := ⟨_, rfl⟩
  have HX3 : Hid (Pr.RpAt W3 B gx (.slice none 0 0) (.slice none 0 0) [] []) := Lib.hid ⟨by rw [← hW3, ← hgx]; exact heap_alloc_new _ _, OwnR.nil _ _ _, OwnR.nil _ _ _, by rw [← hgx]; exact bsz hb2 hB⟩
  have HP3 := Lib.hid (Pl.PoolAt.below hn hb3)
  have HB3 : Hid (Below B w1 W3) := Lib.hid (hb2.trans (hb3.mono (bsz hb2 hB)))
  clear hn hb2 hb3
  obtain ⟨a, cap, e0, h1, h2, -⟩ := id w0.1
  subst e0
  by_cases hl : 300 < x0.length
  · have hli : (300 : Int) < (x0.length : Int) := by omega
    clear w0
    go_wp2
    go_ret
    exact ⟨rfl, HB1.out.trans (HB3.out.mono (by rw [← HBZ.out]; exact HB1.out.size))⟩
  have hli : ¬ (300 : Int) < (x0.length : Int) := by omega
  clear w0
  go_wp2_with fail
  clear hW3
  go_loopw [4, 31] (fun n i wr => ∃ (k p : Nat) (vC vW : Value) (cs : List Cn) (ws : List Int), k ≤ x0.length ∧ i = .int .i64 (k : Int) ∧ n = .pointer (some ⟨p, 0, none⟩) ∧ Hid (Pl.PoolAt wr p cs ws ∧ Pr.RpAt wr B gx vC vW cs ws ∧ Pl.OkP cs ws ∧ Below B w1 wr) ∧ Hid (B ≤ p)) (fun _ i _ => x0.length - (intOf i).toNat)
  case atStart => exact ⟨0, _, _, _, [], [], Nat.zero_le _, rfl, rfl, Lib.hid ⟨HP3.out, HX3.out, Pl.OkP.nil, HB3.out⟩, Lib.hid (Nat.le_refl _)⟩
  case round =>
    clear HP3 HX3 HB3
    obtain ⟨k, p, vC, vW, cs, ws, hk, rfl, rfl, HR, HPB⟩ := hrel
    by_cases hlt : k < x0.length
    · have hlti : (k : Int) < (x0.length : Int) := by omega
      obtain ⟨b, off, cp, e1, -, -, -, -, hcs⟩ : ∃ b off cp, Value.slice a x0.length cap = .slice (some ⟨b, off, none⟩) x0.length cp ∧ 0 < x0.length ∧ x0.length ≤ cp ∧ cp ≤ 9223372036854775807 ∧ b < w.heap.size ∧ ∀ i x, x0[i]? = some x → ∀ j u, (popC x)[j]? = some u → w.cell? ⟨b, off + (i * 2 + j), none⟩ = some u := by
        rcases SlR.cases HW.out with ⟨a2, c2, e, hnil⟩ | h
        · rw [hnil] at hlt; simp at hlt
        · exact h
      simp only [Value.slice.injEq] at e1
      obtain ⟨rfl, -, rfl⟩ := e1
      obtain ⟨x, hx⟩ : ∃ x, x0[k]? = some x := ⟨_, List.getElem?_eq_getElem hlt⟩
      have hcl : ∀ {ad : Addr} {q : Value}, w.cell? ad = some q → wr.cell? ad = some q := fun {ad q} h => by
        have hlt := World.block_lt_of_cell? _ _ h
        unfold World.cell? at h ⊢
        rw [HR.out.2.2.2.block _ (by have := HB1.out.size; have := HBZ.out; omega), HB1.out.block _ hlt]
        exact h
      obtain ⟨q0, q1⟩ := op_cells (w := wr) (fun j u hu => hcl (hcs k x hx j u hu))
      obtain ⟨W0, hW0⟩ : ∃ q, wr.alloc (.cells #[.int .i64 x.kind, .int .i64 x.n] 32) = q := ⟨_, rfl⟩
      have hb0 : Below wr.heap.size wr W0 := by rw [← hW0]; exact (Below.refl _ _).alloc (Nat.le_refl _) _
      obtain ⟨ob, hob⟩ : ∃ q, wr.heap.size = q := ⟨_, rfl⟩
      have HQW : Hid (W0.heap[ob]? = some (.cells #[.int .i64 x.kind, .int .i64 x.n] 32 (0, 0))) := Lib.hid (by rw [← hW0, ← hob]; exact heap_alloc_new _ _)
      have HPW := Lib.hid (Pl.PoolAt.below HR.out.1 hb0)
      have HXW := Lib.hid (HR.out.2.1.below hb0)
      have HOK := Lib.hid HR.out.2.2.1
      have HBW := Lib.hid (HR.out.2.2.2.trans (hb0.mono (bsz HR.out.2.2.2 HBZ.out)))
      have HSW : Hid (B ≤ W0.heap.size) := Lib.hid (bsz HBW.out HBZ.out)
      have HOB : Hid (ob ≠ p ∧ ob ≠ gx) := Lib.hid (by have := HR.out.1.1.lt; have := row_lt HR.out.2.1.1; omega)
      have ck0 : W0.cell? ⟨ob, 0, none⟩ = some (.int .i64 x.kind) := (cell_of_row W0 _ 0 _ _ _ HQW.out).trans rfl
      have ck1 : W0.cell? ⟨ob, 1, none⟩ = some (.int .i64 x.n) := (cell_of_row W0 _ 1 _ _ _ HQW.out).trans rfl
      clear hcs hcl hb0 HR hx
      go_upto_region 11 with fail
      clear hW0 q0 q1
      rcases Decidable.em (x.kind = 0) with g0 | g0
      · have d0 : (x.kind == 0) = true := by rw [g0]; rfl
        clear g0
        go_wp2_with fail
        refine (Pl.open_any x.n _ HPW.out HOK.out.sorted).mono ?_
        rintro e w5 ⟨rfl, hp, ho⟩
        have HX5 := Lib.hid (Pr.RpAt.far HXW.out HPW.out ho)
        have HP5 := Lib.hid hp
        have HB5 : Hid (Below B w1 w5) := Lib.hid (ho.below HBW.out HSW.out (fun k hk => by rw [hk]; exact HPB.out))
        have HS5 : Hid (B ≤ w5.heap.size) := Lib.hid (bsz HB5.out HBZ.out)
        have hq5 : w5.heap[ob]? = some (.cells #[.int .i64 x.kind, .int .i64 x.n] 32 (0, 0)) := (ho.2.2.2.2 _ (row_lt HQW.out) (fun hk => HOB.out.1 hk)).trans HQW.out
        have HQ5 := Lib.hid hq5
        have dk0 : w5.cell? ⟨ob, 0, none⟩ = some (.int .i64 x.kind) := (cell_of_row w5 _ 0 _ _ _ hq5).trans rfl
        have dk1 : w5.cell? ⟨ob, 1, none⟩ = some (.int .i64 x.n) := (cell_of_row w5 _ 1 _ _ _ hq5).trans rfl
        clear hp ho ck0 ck1 hq5
        go_wp2_with fail
        refine (Pr.ropen_any x.n _ HX5.out HS5.out HOK.out HPW.out.2.1 HPW.out.2.2).mono ?_
        rintro e w6 ⟨rfl, hr⟩
        have HP6 := Lib.hid (Pr.pool_far HP5.out HX5.out hr)
        have HB6 : Hid (Below B w1 w6) := Lib.hid (Pr.rpc_below hr HX5.out HB5.out HS5.out)
        obtain ⟨vC6, vW6, hx6, -, -⟩ := hr
        have HX6 := Lib.hid hx6
        have HO6 := Lib.hid (Pl.ok_open (cs := cs) (ws := ws) HOK.out x.n)
        clear hx6
        go_wp2_with fail
        refine (Pr.same_any _ HP6.out HX6.out).mono ?_
        rintro e w9 ⟨rfl, hb⟩
        have HN9 := Lib.hid (Pl.PoolAt.below HP6.out hb)
        have HX9 := Lib.hid (Pr.RpAt.below HX6.out hb)
        have HO9 := Lib.hid HO6.out
        have HB9 := Lib.hid (HB6.out.trans (hb.mono (bsz HB6.out HBZ.out)))
        clear hb
        go_wp2_with fail
        go_roundw
        case rel => exact ⟨k + 1, _, _, _, _, _, by omega, by go_num, rfl, Lib.hid ⟨HN9.out, HX9.out, HO9.out, HB9.out⟩, HPB⟩
        case measure => simp [intOf]; omega
      rcases Decidable.em (x.kind = 1) with g1 | g1
      · have d0 : (x.kind == 0) = false := by rw [g1]; rfl
        have d1 : (x.kind == 1) = true := by rw [g1]; rfl
        clear g0 g1
        go_wp2_with fail
        refine (Pl.close_any x.n _ HPW.out HOK.out.sorted).mono ?_
        rintro e w5 ⟨rfl, hp, ho⟩
        have HX5 := Lib.hid (Pr.RpAt.far HXW.out HPW.out ho)
        have HP5 := Lib.hid hp
        have HB5 : Hid (Below B w1 w5) := Lib.hid (ho.below HBW.out HSW.out (fun k hk => by rw [hk]; exact HPB.out))
        have HS5 : Hid (B ≤ w5.heap.size) := Lib.hid (bsz HB5.out HBZ.out)
        have hq5 : w5.heap[ob]? = some (.cells #[.int .i64 x.kind, .int .i64 x.n] 32 (0, 0)) := (ho.2.2.2.2 _ (row_lt HQW.out) (fun hk => HOB.out.1 hk)).trans HQW.out
        have HQ5 := Lib.hid hq5
        have dk0 : w5.cell? ⟨ob, 0, none⟩ = some (.int .i64 x.kind) := (cell_of_row w5 _ 0 _ _ _ hq5).trans rfl
        have dk1 : w5.cell? ⟨ob, 1, none⟩ = some (.int .i64 x.n) := (cell_of_row w5 _ 1 _ _ _ hq5).trans rfl
        clear hp ho ck0 ck1 hq5
        go_wp2_with fail
        refine (Pr.rclose_any x.n _ HX5.out HS5.out HOK.out HPW.out.2.1).mono ?_
        rintro e w6 ⟨rfl, hr⟩
        have HP6 := Lib.hid (Pr.pool_far HP5.out HX5.out hr)
        have HB6 : Hid (Below B w1 w6) := Lib.hid (Pr.rpc_below hr HX5.out HB5.out HS5.out)
        obtain ⟨vC6, vW6, hx6, -, -⟩ := hr
        have HX6 := Lib.hid hx6
        have HO6 := Lib.hid (Pl.ok_close (cs := cs) (ws := ws) HOK.out x.n)
        clear hx6
        go_wp2_with fail
        refine (Pr.same_any _ HP6.out HX6.out).mono ?_
        rintro e w9 ⟨rfl, hb⟩
        have HN9 := Lib.hid (Pl.PoolAt.below HP6.out hb)
        have HX9 := Lib.hid (Pr.RpAt.below HX6.out hb)
        have HO9 := Lib.hid HO6.out
        have HB9 := Lib.hid (HB6.out.trans (hb.mono (bsz HB6.out HBZ.out)))
        clear hb
        go_wp2_with fail
        go_roundw
        case rel => exact ⟨k + 1, _, _, _, _, _, by omega, by go_num, rfl, Lib.hid ⟨HN9.out, HX9.out, HO9.out, HB9.out⟩, HPB⟩
        case measure => simp [intOf]; omega
      rcases Decidable.em (x.kind = 2) with g2 | g2
      · have d0 : (x.kind == 0) = false := by rw [g2]; rfl
        have d1 : (x.kind == 1) = false := by rw [g2]; rfl
        have d2 : (x.kind == 2) = true := by rw [g2]; rfl
        clear g0 g1 g2
        go_wp2_with fail
        refine (Pl.want_any x.n _ HPW.out).mono ?_
        rintro e w5 ⟨rfl, hp, ho⟩
        have HX5 := Lib.hid (Pr.RpAt.far HXW.out HPW.out ho)
        have HP5 := Lib.hid hp
        have HB5 : Hid (Below B w1 w5) := Lib.hid (ho.below HBW.out HSW.out (fun k hk => by rw [hk]; exact HPB.out))
        have HS5 : Hid (B ≤ w5.heap.size) := Lib.hid (bsz HB5.out HBZ.out)
        have hq5 : w5.heap[ob]? = some (.cells #[.int .i64 x.kind, .int .i64 x.n] 32 (0, 0)) := (ho.2.2.2.2 _ (row_lt HQW.out) (fun hk => HOB.out.1 hk)).trans HQW.out
        have HQ5 := Lib.hid hq5
        have dk0 : w5.cell? ⟨ob, 0, none⟩ = some (.int .i64 x.kind) := (cell_of_row w5 _ 0 _ _ _ hq5).trans rfl
        have dk1 : w5.cell? ⟨ob, 1, none⟩ = some (.int .i64 x.n) := (cell_of_row w5 _ 1 _ _ _ hq5).trans rfl
        clear hp ho ck0 ck1 hq5
        go_wp2_with fail
        refine (Pr.rwant_any x.n _ HX5.out HS5.out HOK.out HPW.out.2.1 HPW.out.2.2).mono ?_
        rintro e w6 ⟨rfl, hr⟩
        have HP6 := Lib.hid (Pr.pool_far HP5.out HX5.out hr)
        have HB6 : Hid (Below B w1 w6) := Lib.hid (Pr.rpc_below hr HX5.out HB5.out HS5.out)
        obtain ⟨vC6, vW6, hx6, -, -⟩ := hr
        have HX6 := Lib.hid hx6
        have HO6 := Lib.hid (Pl.ok_want (cs := cs) (ws := ws) HOK.out x.n)
        clear hx6
        go_wp2_with fail
        refine (Pr.same_any _ HP6.out HX6.out).mono ?_
        rintro e w9 ⟨rfl, hb⟩
        have HN9 := Lib.hid (Pl.PoolAt.below HP6.out hb)
        have HX9 := Lib.hid (Pr.RpAt.below HX6.out hb)
        have HO9 := Lib.hid HO6.out
        have HB9 := Lib.hid (HB6.out.trans (hb.mono (bsz HB6.out HBZ.out)))
        clear hb
        go_wp2_with fail
        go_roundw
        case rel => exact ⟨k + 1, _, _, _, _, _, by omega, by go_num, rfl, Lib.hid ⟨HN9.out, HX9.out, HO9.out, HB9.out⟩, HPB⟩
        case measure => simp [intOf]; omega
      rcases Decidable.em (x.kind = 3) with g3 | g3
      · have d0 : (x.kind == 0) = false := by rw [g3]; rfl
        have d1 : (x.kind == 1) = false := by rw [g3]; rfl
        have d2 : (x.kind == 2) = false := by rw [g3]; rfl
        have d3 : (x.kind == 3) = true := by rw [g3]; rfl
        clear g0 g1 g2 g3
        go_wp2_with fail
        refine (Pl.free_any x.n _ HPW.out).mono ?_
        rintro e w5 ⟨rfl, hp, ho⟩
        have HX5 := Lib.hid (Pr.RpAt.far HXW.out HPW.out ho)
        have HP5 := Lib.hid hp
        have HB5 : Hid (Below B w1 w5) := Lib.hid (ho.below HBW.out HSW.out (fun k hk => by rw [hk]; exact HPB.out))
        have HS5 : Hid (B ≤ w5.heap.size) := Lib.hid (bsz HB5.out HBZ.out)
        have hq5 : w5.heap[ob]? = some (.cells #[.int .i64 x.kind, .int .i64 x.n] 32 (0, 0)) := (ho.2.2.2.2 _ (row_lt HQW.out) (fun hk => HOB.out.1 hk)).trans HQW.out
        have HQ5 := Lib.hid hq5
        have dk0 : w5.cell? ⟨ob, 0, none⟩ = some (.int .i64 x.kind) := (cell_of_row w5 _ 0 _ _ _ hq5).trans rfl
        have dk1 : w5.cell? ⟨ob, 1, none⟩ = some (.int .i64 x.n) := (cell_of_row w5 _ 1 _ _ _ hq5).trans rfl
        clear hp ho ck0 ck1 hq5
        go_wp2_with fail
        refine (Pr.rfree_any x.n _ HX5.out HS5.out HOK.out HPW.out.2.1 HPW.out.2.2).mono ?_
        rintro e w6 ⟨rfl, hr⟩
        have HP6 := Lib.hid (Pr.pool_far HP5.out HX5.out hr)
        have HB6 : Hid (Below B w1 w6) := Lib.hid (Pr.rpc_below hr HX5.out HB5.out HS5.out)
        obtain ⟨vC6, vW6, hx6, -, -⟩ := hr
        have HX6 := Lib.hid hx6
        have HO6 := Lib.hid (Pl.ok_free (cs := cs) (ws := ws) HOK.out x.n)
        clear hx6
        go_wp2_with fail
        refine (Pr.same_any _ HP6.out HX6.out).mono ?_
        rintro e w9 ⟨rfl, hb⟩
        have HN9 := Lib.hid (Pl.PoolAt.below HP6.out hb)
        have HX9 := Lib.hid (Pr.RpAt.below HX6.out hb)
        have HO9 := Lib.hid HO6.out
        have HB9 := Lib.hid (HB6.out.trans (hb.mono (bsz HB6.out HBZ.out)))
        clear hb
        go_wp2_with fail
        go_roundw
        case rel => exact ⟨k + 1, _, _, _, _, _, by omega, by go_num, rfl, Lib.hid ⟨HN9.out, HX9.out, HO9.out, HB9.out⟩, HPB⟩
        case measure => simp [intOf]; omega
      rcases Decidable.em (x.kind = 4) with g4 | g4
      · have d0 : (x.kind == 0) = false := by rw [g4]; rfl
        have d1 : (x.kind == 1) = false := by rw [g4]; rfl
        have d2 : (x.kind == 2) = false := by rw [g4]; rfl
        have d3 : (x.kind == 3) = false := by rw [g4]; rfl
        have d4 : (x.kind == 4) = true := by rw [g4]; rfl
        clear g0 g1 g2 g3 g4
        go_wp2_with fail
        refine (Pl.Leave_any x.n _ HPW.out).mono ?_
        rintro e w5 ⟨rfl, hp, ho⟩
        have HX5 := Lib.hid (Pr.RpAt.far HXW.out HPW.out ho)
        have HP5 := Lib.hid hp
        have HB5 : Hid (Below B w1 w5) := Lib.hid (ho.below HBW.out HSW.out (fun k hk => by rw [hk]; exact HPB.out))
        have HS5 : Hid (B ≤ w5.heap.size) := Lib.hid (bsz HB5.out HBZ.out)
        have hq5 : w5.heap[ob]? = some (.cells #[.int .i64 x.kind, .int .i64 x.n] 32 (0, 0)) := (ho.2.2.2.2 _ (row_lt HQW.out) (fun hk => HOB.out.1 hk)).trans HQW.out
        have HQ5 := Lib.hid hq5
        have dk0 : w5.cell? ⟨ob, 0, none⟩ = some (.int .i64 x.kind) := (cell_of_row w5 _ 0 _ _ _ hq5).trans rfl
        have dk1 : w5.cell? ⟨ob, 1, none⟩ = some (.int .i64 x.n) := (cell_of_row w5 _ 1 _ _ _ hq5).trans rfl
        clear hp ho ck0 ck1 hq5
        go_wp2_with fail
        refine (Pr.rleave_any x.n _ HX5.out HS5.out HOK.out HPW.out.2.1 HPW.out.2.2).mono ?_
        rintro e w6 ⟨rfl, hr⟩
        have HP6 := Lib.hid (Pr.pool_far HP5.out HX5.out hr)
        have HB6 : Hid (Below B w1 w6) := Lib.hid (Pr.rpc_below hr HX5.out HB5.out HS5.out)
        obtain ⟨vC6, vW6, hx6, -, -⟩ := hr
        have HX6 := Lib.hid hx6
        have HO6 := Lib.hid (Pl.ok_leave (cs := cs) (ws := ws) HOK.out x.n)
        clear hx6
        go_wp2_with fail
        refine (Pr.same_any _ HP6.out HX6.out).mono ?_
        rintro e w9 ⟨rfl, hb⟩
        have HN9 := Lib.hid (Pl.PoolAt.below HP6.out hb)
        have HX9 := Lib.hid (Pr.RpAt.below HX6.out hb)
        have HO9 := Lib.hid HO6.out
        have HB9 := Lib.hid (HB6.out.trans (hb.mono (bsz HB6.out HBZ.out)))
        clear hb
        go_wp2_with fail
        go_roundw
        case rel => exact ⟨k + 1, _, _, _, _, _, by omega, by go_num, rfl, Lib.hid ⟨HN9.out, HX9.out, HO9.out, HB9.out⟩, HPB⟩
        case measure => simp [intOf]; omega
      rcases Decidable.em (x.kind = 5) with g5 | g5
      · have d0 : (x.kind == 0) = false := by rw [g5]; rfl
        have d1 : (x.kind == 1) = false := by rw [g5]; rfl
        have d2 : (x.kind == 2) = false := by rw [g5]; rfl
        have d3 : (x.kind == 3) = false := by rw [g5]; rfl
        have d4 : (x.kind == 4) = false := by rw [g5]; rfl
        have d5 : (x.kind == 5) = true := by rw [g5]; rfl
        clear g0 g1 g2 g3 g4 g5
        go_wp2_with fail
        refine (Pl.has_any x.n _ HPW.out).mono ?_
        rintro e w5 ⟨rfl, hp, hb⟩
        have HP5 := Lib.hid hp
        have HX5 := Lib.hid (Pr.RpAt.below HXW.out hb)
        have HB5 := Lib.hid (HBW.out.trans (hb.mono HSW.out))
        have hq5 : w5.heap[ob]? = some (.cells #[.int .i64 x.kind, .int .i64 x.n] 32 (0, 0)) := (hb.block _ (row_lt HQW.out)).trans HQW.out
        have dk0 : w5.cell? ⟨ob, 0, none⟩ = some (.int .i64 x.kind) := (cell_of_row w5 _ 0 _ _ _ hq5).trans rfl
        have dk1 : w5.cell? ⟨ob, 1, none⟩ = some (.int .i64 x.n) := (cell_of_row w5 _ 1 _ _ _ hq5).trans rfl
        clear hp hb ck0 ck1 hq5
        go_wp2_with fail
        refine (Pr.rhas_any x.n _ HX5.out HPW.out.2.1).mono ?_
        rintro e w6 ⟨rfl, hb⟩
        have HP6 := Lib.hid (Pl.PoolAt.below HP5.out hb)
        have HX6 := Lib.hid (Pr.RpAt.below HX5.out hb)
        have HB6 := Lib.hid (HB5.out.trans (hb.mono (bsz HB5.out HBZ.out)))
        clear hb
        go_wp2_with fail
        refine (Pr.same_any _ HP6.out HX6.out).mono ?_
        rintro e w9 ⟨rfl, hb⟩
        have HN9 := Lib.hid (Pl.PoolAt.below HP6.out hb)
        have HX9 := Lib.hid (Pr.RpAt.below HX6.out hb)
        have HO9 := Lib.hid HOK.out
        have HB9 := Lib.hid (HB6.out.trans (hb.mono (bsz HB6.out HBZ.out)))
        clear hb
        go_wp2_with fail
        go_roundw
        case rel => exact ⟨k + 1, _, _, _, _, _, by omega, by go_num, rfl, Lib.hid ⟨HN9.out, HX9.out, HO9.out, HB9.out⟩, HPB⟩
        case measure => simp [intOf]; omega
      rcases Decidable.em (x.kind = 6) with g6 | g6
      · have d0 : (x.kind == 0) = false := by rw [g6]; rfl
        have d1 : (x.kind == 1) = false := by rw [g6]; rfl
        have d2 : (x.kind == 2) = false := by rw [g6]; rfl
        have d3 : (x.kind == 3) = false := by rw [g6]; rfl
        have d4 : (x.kind == 4) = false := by rw [g6]; rfl
        have d5 : (x.kind == 5) = false := by rw [g6]; rfl
        have d6 : (x.kind == 6) = true := by rw [g6]; rfl
        clear g0 g1 g2 g3 g4 g5 g6
        go_wp2_with fail
        refine (Pl.clone_any _ HPW.out).mono ?_
        rintro e w5 ⟨rfl, hp, hb⟩
        obtain ⟨pc, hpc⟩ : ∃ q, W0.heap.size = q := ⟨_, rfl⟩
        rw [hpc] at hp
        have HC5 := Lib.hid hp
        have HNE : Hid (pc ≠ p) := Lib.hid (by rw [← hpc]; have := HPW.out.1.lt; omega)
        have HPC : Hid (B ≤ pc) := Lib.hid (by rw [← hpc]; exact HSW.out)
        have HP5 := Lib.hid (Pl.PoolAt.below HPW.out hb)
        have HX5 := Lib.hid (Pr.RpAt.below HXW.out hb)
        have HB5 := Lib.hid (HBW.out.trans (hb.mono HSW.out))
        clear hp hb ck0 ck1
        rw [hpc]
        clear hpc
        go_wp2_with fail
        refine (Pl.open_any 9 _ HP5.out HOK.out.sorted).mono ?_
        rintro e w6 ⟨rfl, hp, ho⟩
        have HP6 := Lib.hid hp
        have HX6 := Lib.hid (Pr.RpAt.far HX5.out HP5.out ho)
        have HC6 := Lib.hid (Pl.PoolAt.block HC5.out (ho.2.2.2.2 _ HC5.out.1.lt (fun e => HNE.out e)))
        have HB6 : Hid (Below B w1 w6) := Lib.hid (ho.below HB5.out (bsz HB5.out HBZ.out) (fun k hk => by rw [hk]; exact HPB.out))
        clear hp ho
        go_wp2_with fail
        refine (Pl.want_any 6 _ HP6.out).mono ?_
        rintro e w7 ⟨rfl, hp, ho⟩
        have HP7 := Lib.hid hp
        have HX7 := Lib.hid (Pr.RpAt.far HX6.out HP6.out ho)
        have HC7 := Lib.hid (Pl.PoolAt.block HC6.out (ho.2.2.2.2 _ HC6.out.1.lt (fun e => HNE.out e)))
        have HB7 : Hid (Below B w1 w7) := Lib.hid (ho.below HB6.out (bsz HB6.out HBZ.out) (fun k hk => by rw [hk]; exact HPB.out))
        clear hp ho
        go_wp2_with fail
        refine (Pl.close_any 1 _ HP7.out (Pl.ok_want (Pl.ok_open HOK.out 9) 6).sorted).mono ?_
        rintro e w8 ⟨rfl, hp, ho⟩
        have HP8 := Lib.hid hp
        have HX8 := Lib.hid (Pr.RpAt.far HX7.out HP7.out ho)
        have HC8 := Lib.hid (Pl.PoolAt.block HC7.out (ho.2.2.2.2 _ HC7.out.1.lt (fun e => HNE.out e)))
        have HB8 : Hid (Below B w1 w8) := Lib.hid (ho.below HB7.out (bsz HB7.out HBZ.out) (fun k hk => by rw [hk]; exact HPB.out))
        clear hp ho
        go_wp2_with fail
        refine (Pr.same_any _ HC8.out HX8.out).mono ?_
        rintro e w9 ⟨rfl, hb⟩
        have HN9 := Lib.hid (Pl.PoolAt.below HC8.out hb)
        have HX9 := Lib.hid (Pr.RpAt.below HX8.out hb)
        have HO9 := Lib.hid HOK.out
        have HB9 := Lib.hid (HB8.out.trans (hb.mono (bsz HB8.out HBZ.out)))
        clear hb
        go_wp2_with fail
        go_roundw
        case rel => exact ⟨k + 1, _, _, _, _, _, by omega, by go_num, rfl, Lib.hid ⟨HN9.out, HX9.out, HO9.out, HB9.out⟩, HPC⟩
        case measure => simp [intOf]; omega
      · have d0 : (x.kind == 0) = false := beq_eq_false_iff_ne.2 g0
        have d1 : (x.kind == 1) = false := beq_eq_false_iff_ne.2 g1
        have d2 : (x.kind == 2) = false := beq_eq_false_iff_ne.2 g2
        have d3 : (x.kind == 3) = false := beq_eq_false_iff_ne.2 g3
        have d4 : (x.kind == 4) = false := beq_eq_false_iff_ne.2 g4
        have d5 : (x.kind == 5) = false := beq_eq_false_iff_ne.2 g5
        have d6 : (x.kind == 6) = false := beq_eq_false_iff_ne.2 g6
        clear g0 g1 g2 g3 g4 g5 g6
        go_wp2_with fail
        refine (Pr.same_any _ HPW.out HXW.out).mono ?_
        rintro e w9 ⟨rfl, hb⟩
        have HN9 := Lib.hid (Pl.PoolAt.below HPW.out hb)
        have HX9 := Lib.hid (Pr.RpAt.below HXW.out hb)
        have HO9 := Lib.hid HOK.out
        have HB9 := Lib.hid (HBW.out.trans (hb.mono (bsz HBW.out HBZ.out)))
        clear hb
        go_wp2_with fail
        go_roundw
        case rel => exact ⟨k + 1, _, _, _, _, _, by omega, by go_num, rfl, Lib.hid ⟨HN9.out, HX9.out, HO9.out, HB9.out⟩, HPB⟩
        case measure => simp [intOf]; omega
    · obtain rfl : k = x0.length := by omega
      go_wp2
      go_ret
      exact ⟨rfl, HB1.out.trans (HR.out.2.2.2.mono (by rw [← HBZ.out]; exact HB1.out.size))⟩

set_option maxRecDepth 100000 in
theorem contract (H : Type) (enc : TypeId × Value → H) (W : World) (base : Nat) (args : Array Value) (ds gs : List (DataW H)) (before : List MemPlace)
    (hval0 : ∀ (j : Nat) t v, Try.f3.params[j]? = some t → args[j]? = some v → Value.okWide Try.prog W .any base t v)
    (hW : DataW.Whole enc Try.prog Try.f3.params.toList Rows.poolGoesSpec.vars false W args.toList ds gs before)
    (hsz0 : (DataW.weightsEach Try.prog (Try.f3.params.toList ++ Rows.poolGoesSpec.plain.varTypes Try.prog) (ds ++ gs)).all (· ≤ reachBytes) = true) :
    Calls Try.prog 3 args W fun e W' => ∃ v, e = .returned v ∧ Rows.poolGoesSpec.post enc Try.prog Try.f3 false true false false W args v W' := by
  have hval : ∀ (j : Nat) t v, Try.f3.params[j]? = some t → args[j]? = some v → Value.okWide Try.prog W .any base t v := hval0
  have hW' := hW
  obtain ⟨p, q, hA0, hV, rfl, hfz, hnd⟩ := hW
  have hA : DataW.TrodAll enc Try.prog W 0 (fun _ => true) true Try.f3.params.toList args.toList ds p := hA0
  rw [Try.params3] at hA hval
  have hsz := hsz0
  rw [Try.params3] at hsz
  obtain ⟨v0, vs0, d0, ds0, p0, q0, hargs, rfl, rfl, h0, r0⟩ := trodAll_cons hA
  obtain ⟨rfl, rfl, rfl⟩ := trodAll_nil r0
  obtain rfl : args = #[v0] := by cases args; simp_all
  obtain ⟨rfl, rfl⟩ := trodVars_none hV
  clear hA0 hval0
  have k0 := h0
  have lt0 : ∀ x ∈ p0, x.block < W.heap.size := by obtain ⟨m, hm⟩ := k0; exact DataW.trod_lt m _ _ _ hm
  obtain ⟨x0, w0, -, s0⟩ := open_pops (hval 0 22 v0 rfl rfl) k0
  have b0 : IsPOps.fits x0 := s0 (wt_arg hsz (j := 0) rfl rfl)
  refine (walk v0 x0 W w0 b0).mono fun e W' ⟨he, bel⟩ => ?_
  subst he
  exact ⟨_, rfl, _, _, _, [], _, [], hW', trodAll_mk1 (shut_bool Try.underlying4 _), (trodAll_cons_mk (Below.trod laidOut (by kernel_rfl) (of_decide_eq_true (by kernel_rfl)) k0 bel lt0) trodAll_mk0), rfl, bel.frame _, fun h => by cases h⟩

set_option maxRecDepth 100000 in
theorem lifted (os : Os) (started : os.Started) (H : Type) (enc : TypeId × Value → H) :
    ReturnsInHanded {} Try.checked os 3 .any (Rows.poolGoesSpec.pre6 enc Try.prog Try.f3 Rows.poolGoesRow.domain false) (Rows.poolGoesSpec.post enc Try.prog Try.f3 false true false false) := by
  refine returnsInHanded_of_change_sized (C := Try.checked) own started (by kernel_rfl) Try.func3
    (ChangeSpec.witness6 (enc := enc) (C := Try.checked) false ⟨#[], #[.slice none 0 0], []⟩ 8 (by kernel_rfl) (by kernel_rfl) (by kernel_rfl) (by kernel_rfl)) ?_
  intro W base args ds gs before hval0 hW hcnd hsz _
  exact contract H enc W base args ds gs before hval0 hW hsz

theorem proved : Rows.PoolGoesSaid :=
  OpenClaim.holds_of_wide 3 Try.f3 rfl rfl rfl rfl rfl rfl rfl ⟨rfl, rfl, rfl, rfl, rfl⟩ rfl rfl rfl rfl rfl (by kernel_rfl) Try.func3 (by kernel_rfl)
    (of_decide_eq_true (by kernel_rfl)) (by unfold Func.isWrapper; first | (rw [if_pos (by decide +kernel)]; kernel_rfl) | (rw [if_neg (by decide +kernel)]; exact ⟨rfl, rfl⟩))
    (fun os started H enc _ => lifted os started H enc)
end Go.Proofs.Ytlhojkopfpnhpaa.poolGoes
