/- cmd.reader.readList. No condition. -/
import Derived.Test.YtlpoljknohiihaaCmdU
namespace Go.Proofs.Ytlpoljknohiihaa
open Go.ChangeShapes Go.WideShapes Go.ChangeAt Go.RowKit
set_option linter.unusedVariables false
namespace Cm
/-- what readList comes to: the numbers, the error, how many bytes are read -/
def li (zs : List Int) (u : Nat) : List Int × Int × Nat :=
  if ((nx zs u 7).2.1 == 0) = true then st zs (nx zs u 7).2.2 (nx zs u 7).1.toNat else ([], (nx zs u 7).2.1, (nx zs u 7).2.2)
def ReadL (B g h : Nat) (v : Value) (c : Cmd) (zs : List Int) (u : Nat) (w : World) (e : Ending) (w' : World) : Prop :=
  e = .returned (.int .i64 (li zs u).2.1) ∧ w'.heap[g]? = some (.cells #[v, .int .i64 (li zs u).2.2] 55 (0, 0)) ∧ (∃ vn, w'.heap[h]? = some (.cells (cArr c vn) 25 (0, 0)) ∧ OwnI w' B vn (li zs u).1) ∧ Past B (fun k => k = g ∨ k = h) w w'

theorem nx_zero {zs : List Int} {u : Nat} {m : Int} (h : ((nx zs u m).2.1 == 0) = false) : (nx zs u m).1 = 0 := by
  unfold nx at *
  split
  · rfl
  · split
    · rfl
    · rename_i h1 h2; rw [if_neg h1, if_neg h2] at h; simp at h
theorem Past.mono {B : Nat} {S T : Nat → Prop} {a b : World} (h : Past B S a b) (hs : ∀ k, S k → T k) : Past B T a b :=
  ⟨h.1, h.2.1, h.2.2.1, h.2.2.2.1, fun i hi ht => h.2.2.2.2 i hi fun hk => ht (hs i hk)⟩
theorem Past.of_only2 {B : Nat} {S T : Nat → Prop} {a b : World} (h : Only S a b) (hB : B ≤ a.heap.size) (hs : ∀ k, S k → T k) : Past B T a b :=
  ⟨h.1, h.2.1, h.2.2.1, h.2.2.2.1, fun i hi ht => h.2.2.2.2 i (Nat.lt_of_lt_of_le hi hB) fun hk => ht (hs i hk)⟩
theorem own_only {w w' : World} {B g : Nat} {v : Value} {zs : List Int} (hown : OwnI w B v zs) (h : Only (· = g) w w') (hg : g < B) : OwnI w' B v zs := by
  rcases hown.2 with h2 | ⟨k, cap, cur, e, hk, hh, hr⟩
  · exact ⟨hown.1, .inl h2⟩
  · exact ⟨hown.1, .inr ⟨k, cap, cur, e, hk, (h.2.2.2.2 k (Array.getElem?_eq_some_iff.1 hh).1 (by omega)).trans hh, hr⟩⟩
theorem Past.of_only {S : Nat → Prop} {w w' : World} (h : Only S w w') : Past w.heap.size S w w' := h
set_option maxHeartbeats 1000000 in
theorem readList_any (g h : Nat) (v : Value) (c : Cmd) (zs : List Int) (u : Nat) (w : World) (hg : w.heap[g]? = some (.cells #[v, .int .i64 u] 55 (0, 0))) (hh : w.heap[h]? = some (.cells (cArr c (.slice none 0 0)) 25 (0, 0)))
    (hgh : g ≠ h) (hS : ∀ w', Past w.heap.size (fun k => k = g ∨ k = h) w w' → Sl .u8 w' v zs) (hu : u ≤ zs.length) :
    Calls Try.prog 38 #[.pointer (some ⟨g, 0, none⟩), .pointer (some ⟨h, 0, none⟩)] w (ReadL w.heap.size g h v c zs u w) := by
  have hs0 := hS w ⟨rfl, rfl, rfl, Nat.le_refl _, fun _ _ _ => rfl⟩
  have hb7 := nx_bd (m := 7) hu (by omega)
  have hgl : g < w.heap.size := (Array.getElem?_eq_some_iff.1 hg).1
  have hhl : h < w.heap.size := (Array.getElem?_eq_some_iff.1 hh).1
  have HS := Lib.hid hS
  clear hS
  cases he : ((nx zs u 7).2.1 == 0) with
  | false =>
    have hn0 : (nx zs u 7).1 = 0 := nx_zero he
    have hli : li zs u = ([], (nx zs u 7).2.1, (nx zs u 7).2.2) := by unfold li; rw [he]; rfl
    have HN0 := Lib.hid hn0
    have HLI := Lib.hid hli
    clear hli hn0
    go_enter Try.func38, Try.ntmps38
    go_wp2_with (go_at_call 31; refine (next_any g v zs u 7 _ hg hs0 hu).mono ?_; rintro e w1 ⟨rfl, hg1, ho1, hz1⟩; rw [HN0.out])
    refine wp_loop_rounds 1 ?_
    rw [rounds_succ]
    go_wp2
    go_ret
    refine ⟨by rw [HLI.out]; rfl, by rw [HLI.out]; exact hg1, ⟨.slice none 0 0, (ho1.2.2.2.2 h hhl (by omega)).trans hh, by rw [HLI.out]; exact OwnK.nil _ _ _ _⟩, Past.of_only (ho1.mono fun k hk => .inl hk)⟩
  | true =>
    go_enter Try.func38, Try.ntmps38
    go_wp2_with (go_at_call 31; refine (next_any g v zs u 7 _ hg hs0 hu).mono ?_; rintro e w1 ⟨rfl, hg1, ho1, hz1⟩)
    have hli : li zs u = st zs (nx zs u 7).2.2 (nx zs u 7).1.toNat := by unfold li; rw [he]; rfl
    have HLI := Lib.hid hli
    obtain ⟨b1, b2, b3⟩ := hb7
    have he0 : (nx zs u 7).2.1 = 0 := by simpa using he
    clear hli he
    have hp1 : Past w.heap.size (fun k => k = g ∨ k = h) w w1 := Past.of_only (ho1.mono fun k hk => .inl hk)
    have hh1 := (ho1.2.2.2.2 h hhl (by omega)).trans hh
    generalize hu1 : (nx zs u 7).2.2 = u1 at *
    generalize hm1 : (nx zs u 7).1 = m1 at *
    clear ho1 hs0 hg hu1 hm1 hz1
    rw [he0]
    go_loopw [6, 7] (fun e i wr => ∃ k : Nat, (k : Int) ≤ m1 ∧ i = .int .u64 k ∧ e = .int .i64 (st zs u1 k).2.1 ∧ wr.heap[g]? = some (.cells #[v, .int .i64 (st zs u1 k).2.2] 55 (0, 0)) ∧ (∃ vn, wr.heap[h]? = some (.cells (cArr c vn) 25 (0, 0)) ∧ OwnI wr w.heap.size vn (st zs u1 k).1) ∧ Past w.heap.size (fun k => k = g ∨ k = h) w wr) (fun _ i _ => (m1 - intOf i).toNat)
    case atStart => exact ⟨0, by omega, rfl, rfl, hg1, ⟨_, hh1, OwnK.nil _ _ _ _⟩, hp1⟩
    case round =>
      obtain ⟨k, hk, rfl, rfl, hgr, ⟨vn, hhr, hown⟩, hp⟩ := hrel
      clear hg1 hh1 hp1
      cases hst : ((st zs u1 k).2.1 == 0) with
      | false =>
        obtain ⟨j, hj⟩ : ∃ j, m1.toNat = k + j := ⟨m1.toNat - k, by omega⟩
        have HF := Lib.hid (HLI.out.trans ((congrArg (st zs u1) hj).trans (st_stop hst j)))
        clear hj
        by_cases hlt : (k : Int) < m1
        · go_wp2
          go_ret
          exact ⟨by rw [HF.out]; rfl, by rw [HF.out]; exact hgr, ⟨vn, hhr, by rw [HF.out]; exact hown⟩, hp⟩
        · go_wp2
          go_ret
          exact ⟨by rw [HF.out]; rfl, by rw [HF.out]; exact hgr, ⟨vn, hhr, by rw [HF.out]; exact hown⟩, hp⟩
      | true =>
        have hse : (st zs u1 k).2.1 = 0 := by simpa using hst
        by_cases hlt : (k : Int) < m1
        · have hsk : st zs u1 (k + 1) = ((st zs u1 k).1 ++ [(nx zs (st zs u1 k).2.2 65535).1], (nx zs (st zs u1 k).2.2 65535).2.1, (nx zs (st zs u1 k).2.2 65535).2.2) := by
            show (if ((st zs u1 k).2.1 == 0) = true then _ else _) = _
            rw [if_pos hst]
          have hbd := st_bd b1 k
          have hnb := nx_bd (m := 65535) hbd.1 (by omega)
          have hu2 := hbd.1
          have hl2 := hbd.2.1
          obtain ⟨c1, c2, c3⟩ := hnb
          have HSK := Lib.hid hsk
          clear hsk hbd
          rw [hse]
          generalize st zs u1 k = s at *
          obtain ⟨ys, es, us⟩ := s
          go_wp2_with (first
            | (go_at_call 31; refine (next_any g v zs us 65535 _ hgr (HS.out _ hp) hu2).mono ?_; rintro e w2 ⟨rfl, hg2, ho2, hz2⟩; have hh2 := (ho2.2.2.2.2 h (by have := hp.2.2.2.1; omega) (by omega)).trans hhr; have hown2 := own_only hown ho2 hgl)
            | (go_at_call 39; refine (putn_any w.heap.size h c vn ys (nx zs us 65535).1 _ hh2 hown2 hhl (by have := hp.2.2.2.1; omega) c2 c3 (by omega)).mono ?_; rintro e w3 ⟨rfl, ⟨vn3, hh3, hown3, hp3⟩⟩))
          go_roundw
          case rel => exact ⟨k + 1, by omega, by go_num, by rw [HSK.out], by rw [HSK.out]; exact (hp3.2.2.2.2 g hgl hgh).trans hg2, ⟨vn3, hh3, by rw [HSK.out]; exact hown3⟩, (hp.trans (Past.of_only2 ho2 hp.2.2.2.1 fun k hk => .inl hk)).trans (hp3.mono fun k hk => .inr hk)⟩
          case measure => simp [intOf]; omega
        · have hkm : m1.toNat = k := by omega
          rw [hkm] at HLI
          go_wp2
          go_ret
          exact ⟨by rw [HLI.out, hse]; rfl, by rw [HLI.out]; exact hgr, ⟨vn, hhr, by rw [HLI.out]; exact hown⟩, hp⟩
end Cm
end Go.Proofs.Ytlpoljknohiihaa
