/- Which ledgers may be, by the document's own answer. No condition. -/
import Derived.Test.YtgbblegcjladaaaLcM
import Derived.Deep.QuietTactic
import Derived.BigQuiet
import Derived.BigRegion
import Derived.Deep.RegionWith
import Derived.Lib.QuietBelow
namespace Go.Proofs.Ytgbblegcjladaaa
open Go.ChangeShapes Go.WideShapes Go.ChangeAt Go.RowKit
set_option linter.unusedVariables false
set_option maxRecDepth 100000
namespace Ld
theorem bef_nonneg {l : Led} : ∀ {k : Nat}, heldUp l k → k ≤ l.held.length → 0 ≤ bef (l.held.take k)
  | 0, _, _ => Int.le_refl _
  | k + 1, h, hk => by
    have h0 := bef_nonneg (k := k) (fun j y hj hy => h j y (by omega) hy) (by omega)
    have h1 := (h k _ (by omega) (rgetD (by omega))).1
    rw [rtake (by omega), bef_snoc]
    omega
theorem befL_nonneg {l : Led} : ∀ {k : Nat}, lastUp l k → k ≤ l.last.length → 0 ≤ befL (l.last.take k)
  | 0, _, _ => Int.le_refl _
  | k + 1, h, hk => by
    have h0 := befL_nonneg (k := k) (fun j y hj hy => h j y (by omega) hy) (by omega)
    have h1 := (h k _ (by omega) (rgetD (by omega))).1
    rw [rtake (by omega), befL_snoc]
    omega
theorem size_new (wr : World) (o : Obj) (n : Nat) : wr.heap.size < ((wr.alloc o).drewN n).heap.size := by
  show wr.heap.size < (wr.alloc o).heap.size
  simp
theorem row_new (wr : World) (cs : Array Value) (T : TypeId) (n j : Nat) (u : Value) (h : cs[j]? = some u) : ((wr.alloc (.cells cs T)).drewN n).cell? ⟨wr.heap.size, j, none⟩ = some u := by
  have hh : ((wr.alloc (.cells cs T)).drewN n).heap[wr.heap.size]? = some (.cells cs T (0, 0)) := heap_alloc_new _ _
  rw [cell_of_row _ _ j _ _ _ hh]
  exact h
theorem cell_alloc {wq : World} {g j : Nat} {u : Value} {o : Obj} (h : g < wq.heap.size) (hc : wq.cell? ⟨g, j, none⟩ = some u) : (wq.alloc o).cell? ⟨g, j, none⟩ = some u :=
  (((Below.refl wq.heap.size wq).alloc (Nat.le_refl _) o).cell (p := ⟨g, j, none⟩) h).trans hc
theorem bef_prev {xs : List Held} {m : Nat} (h : m < xs.length) : bef (xs.take (m + 1)) = xs[m].token := by rw [rtake h, bef_snoc]
theorem befL_prev {xs : List LastR} {m : Nat} (h : m < xs.length) : befL (xs.take (m + 1)) = xs[m].node := by rw [rtake h, befL_snoc]

set_option maxRecDepth 20000 in
set_option maxHeartbeats 20000000 in
theorem rcheck_any (l : Led) (v : Value) (w : World) (h : IsLed w v l) :
    Calls Try.prog 10 #[v] w (SaysC l w) := by
  obtain ⟨vh, vl, rfl, hh, hl, hwf⟩ := h
  have HWF := Lib.hid hwf
  clear hwf
  obtain ⟨a, cap, rfl, h1, h2, h4⟩ := hh
  obtain ⟨a2, cap2, rfl, h5, h6, h7⟩ := hl
  unfold maxLen at h2 h6
  have HO4 := Lib.hid h4
  have HO7 := Lib.hid h7
  have HN0 := Lib.hid (u64_nonneg HWF.out.2.1)
  clear h4 h7
  have hb0 : Below w.heap.size w (w.alloc (.cells (lArr l (.slice a l.held.length cap) (.slice a2 l.last.length cap2)) 35)) := (Below.refl _ _).alloc (Nat.le_refl _) _
  have HB0 := Lib.hid hb0
  clear hb0
  by_cases c1 : l.limit < 1
  · have HE : Hid (¬ ledOk l) := Lib.hid (by have := HN0.out; unfold ledOk heldOk; omega)
    go_enter Try.func10, Try.ntmps10
    go_wp2
    go_ret
    exact saysC_no HE.out HB0.out
  have c1' : 1 ≤ l.limit := by omega
  clear c1
  by_cases c2 : 65535 < l.limit
  · have HE : Hid (¬ ledOk l) := Lib.hid (by have := HN0.out; unfold ledOk heldOk; omega)
    go_enter Try.func10, Try.ntmps10
    go_wp2
    go_ret
    exact saysC_no HE.out HB0.out
  have c2' : l.limit ≤ 65535 := by omega
  clear c2
  by_cases c3 : l.next < 1
  · have HE : Hid (¬ ledOk l) := Lib.hid (by have := HN0.out; unfold ledOk heldOk; omega)
    go_enter Try.func10, Try.ntmps10
    go_wp2
    go_ret
    exact saysC_no HE.out HB0.out
  have c3' : 1 ≤ l.next := by omega
  clear c3
  by_cases c4 : 64 < (l.held.length : Int)
  · have HE : Hid (¬ ledOk l) := Lib.hid (by have := HN0.out; unfold ledOk heldOk; omega)
    go_enter Try.func10, Try.ntmps10
    go_wp2
    go_ret
    exact saysC_no HE.out HB0.out
  have c4' : (l.held.length : Int) ≤ 64 := by omega
  clear c4
  have HTOP : Hid (1 ≤ l.limit ∧ l.limit ≤ 65535 ∧ 1 ≤ l.next ∧ l.held.length ≤ 64) := Lib.hid ⟨c1', c2', c3', by omega⟩
  go_enter Try.func10, Try.ntmps10
  go_wp2
  go_loopw [31] (fun i wr => ∃ k : Nat, k ≤ l.held.length ∧ i = .int .i64 k ∧ Hid (heldUp l k) ∧ Below (w.heap.size + 1) (w.alloc (.cells (lArr l (.slice a l.held.length cap) (.slice a2 l.last.length cap2)) 35)) wr) (fun i _ => l.held.length - (intOf i).toNat)
  case atStart => exact ⟨0, Nat.zero_le _, rfl, Lib.hid (heldUp_zero l), Below.refl _ _⟩
  case round =>
    obtain ⟨k, hk, rfl, HU, hb⟩ := hrel
    by_cases hlt2 : k < l.held.length
    · obtain ⟨b, off, rfl, hlt, hc⟩ := rows_open hlt2 HO4.out
      have hbw := box_below hb
      obtain ⟨hL, hN, hH, -⟩ := box_cells hb
      have HCQ : Hid (∀ wq, Below (w.heap.size + 1) (w.alloc (.cells (lArr l (.slice (some ⟨b, off, none⟩) l.held.length cap) (.slice a2 l.last.length cap2)) 35)) wq → ∀ i x, l.held[i]? = some x → ∀ j u, (heldC x)[j]? = some u → wq.cell? ⟨b, off + (i * 5 + j), none⟩ = some u) := Lib.hid (fun wq hq i x hx j u hu => ((box_below hq).cell (p := ⟨b, off + (i * 5 + j), none⟩) hlt).trans (hc i x hx j u hu))
      have hcw : ∀ i x, l.held[i]? = some x → ∀ j u, (heldC x)[j]? = some u → wr.cell? ⟨b, off + (i * 5 + j), none⟩ = some u := fun i x hx j u hu => (hbw.cell (p := ⟨b, off + (i * 5 + j), none⟩) hlt).trans (hc i x hx j u hu)
      have HCW := Lib.hid hcw
      have HBL := Lib.hid hlt
      have hce := hcw k _ (rgetD hlt2)
      have HT := Lib.hid (rtake hlt2)
      have HG := Lib.hid (rgetD hlt2)
      have HM := Lib.hid (List.getElem_mem hlt2)
      have hpre : SlR 5 heldC wr (.slice (some ⟨b, off, none⟩) k cap) (l.held.take k) := by
        refine ⟨_, cap, by rw [List.length_take, Nat.min_eq_left hk], by rw [List.length_take, Nat.min_eq_left hk]; omega, h2, .inr ⟨b, off, none, rfl, .inr ⟨rfl, Nat.lt_of_lt_of_le hlt hbw.size, fun i x hx j u hu => ?_⟩⟩⟩
        have hik : i < k := by
          rcases Nat.lt_or_ge i k with h | h
          · exact h
          · rw [List.getElem?_eq_none (by rw [List.length_take]; omega)] at hx; cases hx
        rw [List.getElem?_take_of_lt hik] at hx
        exact hcw i x hx j u hu
      have HP := Lib.hid hpre
      have HBW := Lib.hid hbw
      have HBB := Lib.hid hb
      clear hc hpre hbw hcw
      have hgx : ∃ x, l.held[k] = x := ⟨_, rfl⟩
      obtain ⟨x, hx⟩ := hgx
      rw [hx] at HT HG HM hce
      clear hx
      obtain ⟨x0, x1, x2, x3, x4⟩ := held_cells hce
      have HZ : Hid (0 ≤ x.boot ∧ 0 ≤ x.serial ∧ 0 ≤ x.stamp) := Lib.hid (by obtain ⟨-, -, q1, q2, q3⟩ := HWF.out.2.2.1 x HM.out; exact ⟨u64_nonneg q1, u64_nonneg q2, u64_nonneg q3⟩)
      have HNO : Hid (¬ rowOk l.limit l.next (bef (l.held.take k)) (l.held.take k) x → ¬ ledOk l) := Lib.hid (fun h h2 => h (h2.2.2.2.1.2 k x hlt2 HG.out))
      have hzw : w.heap.size < wr.heap.size := by have := hb.size; simp at this; omega
      have HAL : Hid (∀ o, Below w.heap.size w (wr.alloc o)) := Lib.hid (fun o => HBW.out.alloc (Nat.le_of_lt hzw) o)
      clear hce hb
      have HZ2 : Hid (bef (l.held.take (k + 1)) = x.token) := Lib.hid (by rw [HT.out, bef_snoc])
      have HZ0 : Hid (0 ≤ bef (l.held.take k)) := Lib.hid (bef_nonneg HU.out hk)
      have hgz : ∃ z, bef (l.held.take k) = z := ⟨_, rfl⟩
      obtain ⟨z, hz⟩ := hgz
      have HBF := Lib.hid hz
      rw [hz] at HNO HZ0
      clear hz
      have hkz : (k : Int) < (l.held.length : Int) := by omega
      have hfirst : (k = 0 ∧ z = 0) ∨ ∃ m : Nat, k = m + 1 ∧ wr.cell? ⟨b, off + m * 5, none⟩ = some (.int .i64 z) := by
        cases k with
        | zero => exact .inl ⟨rfl, HBF.out.symm.trans bef_nil⟩
        | succ m =>
          have hm : m < l.held.length := by omega
          refine .inr ⟨m, rfl, ?_⟩
          have h := HCW.out m _ (rgetD hm) 0 _ rfl
          rw [← bef_prev hm, HBF.out] at h
          simpa using h
      rcases hfirst with ⟨hk0, hz0⟩ | ⟨m, hkm, hpv⟩
      · have hgk : decide (0 < k) = false := decide_eq_false (by omega)
        subst hz0
        have HKM := Lib.hid hk0
        clear hk0
        go_wp2
        by_cases d1 : x.token < 1
        · have HE : Hid (¬ ledOk l) := Lib.hid (HNO.out (by have := HZ0.out; have := HZ.out; unfold rowOk; omega))
          have ed1 : decide (x.token < 1) = true := decide_eq_true d1
          clear d1
          go_quiet (fail)
          go_wp2
          go_ret
          exact saysC_no HE.out ((HAL.out _).trans (below_drewN _ _))
        have ed1 : decide (x.token < 1) = false := decide_eq_false d1
        have d1' : 1 ≤ x.token := by omega
        have Hd1 := Lib.hid d1'
        clear d1 d1'
        by_cases d2 : l.limit < x.token
        · have HE : Hid (¬ ledOk l) := Lib.hid (HNO.out (by have := HZ0.out; have := HZ.out; unfold rowOk; omega))
          have ed2 : decide (l.limit < x.token) = true := decide_eq_true d2
          clear d2
          go_quiet (fail)
          go_wp2
          go_ret
          exact saysC_no HE.out ((HAL.out _).trans (below_drewN _ _))
        have ed2 : decide (l.limit < x.token) = false := decide_eq_false d2
        have d2' : x.token ≤ l.limit := by omega
        have Hd2 := Lib.hid d2'
        clear d2 d2'
        by_cases d3 : x.node < 1
        · have HE : Hid (¬ ledOk l) := Lib.hid (HNO.out (by have := HZ0.out; have := HZ.out; unfold rowOk; omega))
          have ed3 : decide (x.node < 1) = true := decide_eq_true d3
          clear d3
          go_quiet (fail)
          go_wp2
          go_ret
          exact saysC_no HE.out ((HAL.out _).trans (below_drewN _ _))
        have ed3 : decide (x.node < 1) = false := decide_eq_false d3
        have d3' : 1 ≤ x.node := by omega
        have Hd3 := Lib.hid d3'
        clear d3 d3'
        by_cases d4 : 7 < x.node
        · have HE : Hid (¬ ledOk l) := Lib.hid (HNO.out (by have := HZ0.out; have := HZ.out; unfold rowOk; omega))
          have ed4 : decide (7 < x.node) = true := decide_eq_true d4
          clear d4
          go_quiet (fail)
          go_wp2
          go_ret
          exact saysC_no HE.out ((HAL.out _).trans (below_drewN _ _))
        have ed4 : decide (7 < x.node) = false := decide_eq_false d4
        have d4' : x.node ≤ 7 := by omega
        have Hd4 := Lib.hid d4'
        clear d4 d4'
        by_cases d5 : x.boot < 1
        · have HE : Hid (¬ ledOk l) := Lib.hid (HNO.out (by have := HZ0.out; have := HZ.out; unfold rowOk; omega))
          have ed5 : decide (x.boot < 1) = true := decide_eq_true d5
          clear d5
          go_quiet (fail)
          go_wp2
          go_ret
          exact saysC_no HE.out ((HAL.out _).trans (below_drewN _ _))
        have ed5 : decide (x.boot < 1) = false := decide_eq_false d5
        have d5' : 1 ≤ x.boot := by omega
        have Hd5 := Lib.hid d5'
        clear d5 d5'
        by_cases d6 : x.stamp < 1
        · have HE : Hid (¬ ledOk l) := Lib.hid (HNO.out (by have := HZ0.out; have := HZ.out; unfold rowOk; omega))
          have ed6 : decide (x.stamp < 1) = true := decide_eq_true d6
          clear d6
          go_quiet (fail)
          go_wp2
          go_ret
          exact saysC_no HE.out ((HAL.out _).trans (below_drewN _ _))
        have ed6 : decide (x.stamp < 1) = false := decide_eq_false d6
        have d6' : 1 ≤ x.stamp := by omega
        have Hd6 := Lib.hid d6'
        clear d6 d6'
        by_cases d7 : x.serial < 1
        · have HE : Hid (¬ ledOk l) := Lib.hid (HNO.out (by have := HZ0.out; have := HZ.out; unfold rowOk; omega))
          have ed7 : decide (x.serial < 1) = true := decide_eq_true d7
          clear d7
          go_quiet (fail)
          go_wp2
          go_ret
          exact saysC_no HE.out ((HAL.out _).trans (below_drewN _ _))
        have ed7 : decide (x.serial < 1) = false := decide_eq_false d7
        have d7' : 1 ≤ x.serial := by omega
        have Hd7 := Lib.hid d7'
        clear d7 d7'
        by_cases d8 : l.next ≤ x.serial
        · have HE : Hid (¬ ledOk l) := Lib.hid (HNO.out (by have := HZ0.out; have := HZ.out; unfold rowOk; omega))
          have ed8 : decide (l.next ≤ x.serial) = true := decide_eq_true d8
          clear d8
          go_quiet (fail)
          go_wp2
          go_ret
          exact saysC_no HE.out ((HAL.out _).trans (below_drewN _ _))
        have ed8 : decide (l.next ≤ x.serial) = false := decide_eq_false d8
        have d8' : x.serial < l.next := by omega
        have Hd8 := Lib.hid d8'
        clear d8 d8'
        go_quiet (fail)
        have HWD : Hid (∀ o (q : Nat), Below (w.heap.size + 1) (w.alloc (.cells (lArr l (.slice (some ⟨b, off, none⟩) l.held.length cap) (.slice a2 l.last.length cap2)) 35)) ((wr.alloc o).drewN q)) := Lib.hid (fun o q => (HBB.out.alloc hzw o).trans (below_drewN _ _))
        clear ed1 ed2 ed3 ed4 ed5 ed6 ed7 ed8
        go_wp2
        obtain ⟨wo, hwo⟩ : ∃ q, q = wr := ⟨_, rfl⟩
        subst hwo
        go_loopw [99] (fun i wq => ∃ j : Nat, j ≤ k ∧ i = .int .i64 j ∧ Hid (∀ i y, i < j → l.held[i]? = some y → y.serial ≠ x.serial) ∧ Below (w.heap.size + 1) (w.alloc (.cells (lArr l (.slice (some ⟨b, off, none⟩) l.held.length cap) (.slice a2 l.last.length cap2)) 35)) wq ∧ wo.heap.size < wq.heap.size ∧ wq.cell? ⟨wo.heap.size, 3, none⟩ = some (.int .u64 x.serial)) (fun i _ => k - (intOf i).toNat)
        case atStart => exact ⟨0, Nat.zero_le _, rfl, Lib.hid (fun i y h => absurd h (Nat.not_lt_zero _)), HWD.out _ _, size_new _ _ _, row_new _ _ _ _ 3 _ rfl⟩
        case round =>
          obtain ⟨j, hj, rfl, HJ, hbj, hzj, hxj⟩ := hrel
          by_cases hlt4 : j < k
          · have hjl : j < l.held.length := by omega
            have hcy := HCQ.out _ hbj j _ (rgetD hjl)
            have HGJ := Lib.hid (rgetD hjl)
            have hgy : ∃ y, l.held[j] = y := ⟨_, rfl⟩
            obtain ⟨y, hy⟩ := hgy
            rw [hy] at hcy HGJ
            clear hy
            obtain ⟨y0, y1, y2, y3, y4⟩ := held_cells hcy
            have HBJ := Lib.hid hbj
            have HXJ := Lib.hid (fun (wq : World) o (h : wo.heap.size < wq.heap.size) (g : wq.cell? ⟨wo.heap.size, 3, none⟩ = some (Value.int .u64 x.serial)) => cell_alloc (o := o) h g)
            have hzq : w.heap.size + 1 ≤ wr.heap.size := by omega
            have hjk : (j : Int) < (k : Int) := by omega
            clear hcy hbj
            by_cases hn : y.serial = x.serial
            · have hn2 : (y.serial == x.serial) = true := beq_iff_eq.2 hn
              have HE : Hid (¬ ledOk l) := Lib.hid (HNO.out (fun h => h.2.2.2.2.2.2.2.2 y (List.mem_of_getElem? (i := j) (by rw [List.getElem?_take_of_lt hlt4]; exact HGJ.out)) hn))
              clear hn
              go_wp2
              go_ret
              exact saysC_no HE.out ((box_below HBJ.out).alloc (by omega) _)
            · have hn2 : (y.serial == x.serial) = false := beq_eq_false_iff_ne.2 hn
              have HN9 := Lib.hid hn
              clear hn
              go_wp2
              go_roundw
              case rel =>
                refine ⟨j + 1, by omega, by go_num, Lib.hid ?_, HBJ.out.alloc hzq _, by simp; omega, HXJ.out _ _ hzj hxj⟩
                intro i y' hi hy'
                rcases Nat.lt_or_ge i j with h | h
                · exact HJ.out i y' h hy'
                · obtain rfl : i = j := by omega
                  rw [HGJ.out] at hy'
                  cases hy'
                  exact HN9.out
              case measure => simp [intOf]; omega
          · obtain rfl : j = k := by omega
            have HS : Hid (∀ y ∈ l.held.take j, y.serial ≠ x.serial) := Lib.hid (by
              intro y hy
              obtain ⟨i, hi, rfl⟩ := List.mem_iff_getElem.1 hy
              rw [List.length_take] at hi
              exact HJ.out i _ (by omega) (by rw [List.getElem_take]; exact List.getElem?_eq_getElem (by omega)))
            have HBJ := Lib.hid hbj
            clear hbj
            have HUP : Hid (heldUp l (j + 1)) := Lib.hid (heldUp_succ HU.out HG.out (by
              rw [HBF.out]
              have := HZ.out
              exact ⟨by first | exact H0d.out | (have := Hd1.out; omega), Hd2.out, Hd3.out, Hd4.out, by have := Hd5.out; omega, by have := Hd6.out; omega, by have := Hd7.out; omega, Hd8.out, HS.out⟩))
            go_wp2
            go_roundw
            case rel => exact ⟨j + 1, by omega, by go_num, HUP.out, HBJ.out⟩
            case measure => simp [intOf]; omega
      · have hgk0 : 0 < k := by omega
        have hgk : decide (0 < k) = true := decide_eq_true hgk0
        have hsub : IntKind.i64.wrap ((k : Int) - 1) = (m : Int) := by rw [show (k : Int) - 1 = (m : Int) by omega]; exact IntWalk.i64_in _ (by omega)
        have hm1 : (m : Int) < (l.held.length : Int) := by omega
        have hm2 : m < l.held.length := by omega
        have HKM := Lib.hid hkm
        have hbz : b < wr.heap.size := by have := HBL.out; omega
        clear hkm
        go_wp2
        by_cases d0 : x.token ≤ z
        · have HE : Hid (¬ ledOk l) := Lib.hid (HNO.out (by unfold rowOk; omega))
          have ed0 : decide (x.token ≤ z) = true := decide_eq_true d0
          clear d0
          go_quiet (fail)
          go_wp2
          go_ret
          exact saysC_no HE.out ((HAL.out _).trans (below_drewN _ _))
        have ed0 : decide (x.token ≤ z) = false := decide_eq_false d0
        have hd0 : z < x.token := by omega
        have H0d := Lib.hid hd0
        clear d0 hd0
        by_cases d1 : x.token < 1
        · have HE : Hid (¬ ledOk l) := Lib.hid (HNO.out (by have := HZ0.out; have := HZ.out; unfold rowOk; omega))
          have ed1 : decide (x.token < 1) = true := decide_eq_true d1
          clear d1
          go_quiet (fail)
          go_wp2
          go_ret
          exact saysC_no HE.out ((HAL.out _).trans (below_drewN _ _))
        have ed1 : decide (x.token < 1) = false := decide_eq_false d1
        have d1' : 1 ≤ x.token := by omega
        have Hd1 := Lib.hid d1'
        clear d1 d1'
        by_cases d2 : l.limit < x.token
        · have HE : Hid (¬ ledOk l) := Lib.hid (HNO.out (by have := HZ0.out; have := HZ.out; unfold rowOk; omega))
          have ed2 : decide (l.limit < x.token) = true := decide_eq_true d2
          clear d2
          go_quiet (fail)
          go_wp2
          go_ret
          exact saysC_no HE.out ((HAL.out _).trans (below_drewN _ _))
        have ed2 : decide (l.limit < x.token) = false := decide_eq_false d2
        have d2' : x.token ≤ l.limit := by omega
        have Hd2 := Lib.hid d2'
        clear d2 d2'
        by_cases d3 : x.node < 1
        · have HE : Hid (¬ ledOk l) := Lib.hid (HNO.out (by have := HZ0.out; have := HZ.out; unfold rowOk; omega))
          have ed3 : decide (x.node < 1) = true := decide_eq_true d3
          clear d3
          go_quiet (fail)
          go_wp2
          go_ret
          exact saysC_no HE.out ((HAL.out _).trans (below_drewN _ _))
        have ed3 : decide (x.node < 1) = false := decide_eq_false d3
        have d3' : 1 ≤ x.node := by omega
        have Hd3 := Lib.hid d3'
        clear d3 d3'
        by_cases d4 : 7 < x.node
        · have HE : Hid (¬ ledOk l) := Lib.hid (HNO.out (by have := HZ0.out; have := HZ.out; unfold rowOk; omega))
          have ed4 : decide (7 < x.node) = true := decide_eq_true d4
          clear d4
          go_quiet (fail)
          go_wp2
          go_ret
          exact saysC_no HE.out ((HAL.out _).trans (below_drewN _ _))
        have ed4 : decide (7 < x.node) = false := decide_eq_false d4
        have d4' : x.node ≤ 7 := by omega
        have Hd4 := Lib.hid d4'
        clear d4 d4'
        by_cases d5 : x.boot < 1
        · have HE : Hid (¬ ledOk l) := Lib.hid (HNO.out (by have := HZ0.out; have := HZ.out; unfold rowOk; omega))
          have ed5 : decide (x.boot < 1) = true := decide_eq_true d5
          clear d5
          go_quiet (fail)
          go_wp2
          go_ret
          exact saysC_no HE.out ((HAL.out _).trans (below_drewN _ _))
        have ed5 : decide (x.boot < 1) = false := decide_eq_false d5
        have d5' : 1 ≤ x.boot := by omega
        have Hd5 := Lib.hid d5'
        clear d5 d5'
        by_cases d6 : x.stamp < 1
        · have HE : Hid (¬ ledOk l) := Lib.hid (HNO.out (by have := HZ0.out; have := HZ.out; unfold rowOk; omega))
          have ed6 : decide (x.stamp < 1) = true := decide_eq_true d6
          clear d6
          go_quiet (fail)
          go_wp2
          go_ret
          exact saysC_no HE.out ((HAL.out _).trans (below_drewN _ _))
        have ed6 : decide (x.stamp < 1) = false := decide_eq_false d6
        have d6' : 1 ≤ x.stamp := by omega
        have Hd6 := Lib.hid d6'
        clear d6 d6'
        by_cases d7 : x.serial < 1
        · have HE : Hid (¬ ledOk l) := Lib.hid (HNO.out (by have := HZ0.out; have := HZ.out; unfold rowOk; omega))
          have ed7 : decide (x.serial < 1) = true := decide_eq_true d7
          clear d7
          go_quiet (fail)
          go_wp2
          go_ret
          exact saysC_no HE.out ((HAL.out _).trans (below_drewN _ _))
        have ed7 : decide (x.serial < 1) = false := decide_eq_false d7
        have d7' : 1 ≤ x.serial := by omega
        have Hd7 := Lib.hid d7'
        clear d7 d7'
        by_cases d8 : l.next ≤ x.serial
        · have HE : Hid (¬ ledOk l) := Lib.hid (HNO.out (by have := HZ0.out; have := HZ.out; unfold rowOk; omega))
          have ed8 : decide (l.next ≤ x.serial) = true := decide_eq_true d8
          clear d8
          go_quiet (fail)
          go_wp2
          go_ret
          exact saysC_no HE.out ((HAL.out _).trans (below_drewN _ _))
        have ed8 : decide (l.next ≤ x.serial) = false := decide_eq_false d8
        have d8' : x.serial < l.next := by omega
        have Hd8 := Lib.hid d8'
        clear d8 d8'
        go_quiet (fail)
        have HWD : Hid (∀ o (q : Nat), Below (w.heap.size + 1) (w.alloc (.cells (lArr l (.slice (some ⟨b, off, none⟩) l.held.length cap) (.slice a2 l.last.length cap2)) 35)) ((wr.alloc o).drewN q)) := Lib.hid (fun o q => (HBB.out.alloc hzw o).trans (below_drewN _ _))
        clear ed1 ed2 ed3 ed4 ed5 ed6 ed7 ed8
        go_wp2
        obtain ⟨wo, hwo⟩ : ∃ q, q = wr := ⟨_, rfl⟩
        subst hwo
        go_loopw [99] (fun i wq => ∃ j : Nat, j ≤ k ∧ i = .int .i64 j ∧ Hid (∀ i y, i < j → l.held[i]? = some y → y.serial ≠ x.serial) ∧ Below (w.heap.size + 1) (w.alloc (.cells (lArr l (.slice (some ⟨b, off, none⟩) l.held.length cap) (.slice a2 l.last.length cap2)) 35)) wq ∧ wo.heap.size < wq.heap.size ∧ wq.cell? ⟨wo.heap.size, 3, none⟩ = some (.int .u64 x.serial)) (fun i _ => k - (intOf i).toNat)
        case atStart => exact ⟨0, Nat.zero_le _, rfl, Lib.hid (fun i y h => absurd h (Nat.not_lt_zero _)), HWD.out _ _, size_new _ _ _, row_new _ _ _ _ 3 _ rfl⟩
        case round =>
          obtain ⟨j, hj, rfl, HJ, hbj, hzj, hxj⟩ := hrel
          by_cases hlt4 : j < k
          · have hjl : j < l.held.length := by omega
            have hcy := HCQ.out _ hbj j _ (rgetD hjl)
            have HGJ := Lib.hid (rgetD hjl)
            have hgy : ∃ y, l.held[j] = y := ⟨_, rfl⟩
            obtain ⟨y, hy⟩ := hgy
            rw [hy] at hcy HGJ
            clear hy
            obtain ⟨y0, y1, y2, y3, y4⟩ := held_cells hcy
            have HBJ := Lib.hid hbj
            have HXJ := Lib.hid (fun (wq : World) o (h : wo.heap.size < wq.heap.size) (g : wq.cell? ⟨wo.heap.size, 3, none⟩ = some (Value.int .u64 x.serial)) => cell_alloc (o := o) h g)
            have hzq : w.heap.size + 1 ≤ wr.heap.size := by omega
            have hjk : (j : Int) < (k : Int) := by omega
            clear hcy hbj
            by_cases hn : y.serial = x.serial
            · have hn2 : (y.serial == x.serial) = true := beq_iff_eq.2 hn
              have HE : Hid (¬ ledOk l) := Lib.hid (HNO.out (fun h => h.2.2.2.2.2.2.2.2 y (List.mem_of_getElem? (i := j) (by rw [List.getElem?_take_of_lt hlt4]; exact HGJ.out)) hn))
              clear hn
              go_wp2
              go_ret
              exact saysC_no HE.out ((box_below HBJ.out).alloc (by omega) _)
            · have hn2 : (y.serial == x.serial) = false := beq_eq_false_iff_ne.2 hn
              have HN9 := Lib.hid hn
              clear hn
              go_wp2
              go_roundw
              case rel =>
                refine ⟨j + 1, by omega, by go_num, Lib.hid ?_, HBJ.out.alloc hzq _, by simp; omega, HXJ.out _ _ hzj hxj⟩
                intro i y' hi hy'
                rcases Nat.lt_or_ge i j with h | h
                · exact HJ.out i y' h hy'
                · obtain rfl : i = j := by omega
                  rw [HGJ.out] at hy'
                  cases hy'
                  exact HN9.out
              case measure => simp [intOf]; omega
          · obtain rfl : j = k := by omega
            have HS : Hid (∀ y ∈ l.held.take j, y.serial ≠ x.serial) := Lib.hid (by
              intro y hy
              obtain ⟨i, hi, rfl⟩ := List.mem_iff_getElem.1 hy
              rw [List.length_take] at hi
              exact HJ.out i _ (by omega) (by rw [List.getElem_take]; exact List.getElem?_eq_getElem (by omega)))
            have HBJ := Lib.hid hbj
            clear hbj
            have HUP : Hid (heldUp l (j + 1)) := Lib.hid (heldUp_succ HU.out HG.out (by
              rw [HBF.out]
              have := HZ.out
              exact ⟨by first | exact H0d.out | (have := Hd1.out; omega), Hd2.out, Hd3.out, Hd4.out, by have := Hd5.out; omega, by have := Hd6.out; omega, by have := Hd7.out; omega, Hd8.out, HS.out⟩))
            go_wp2
            go_roundw
            case rel => exact ⟨j + 1, by omega, by go_num, HUP.out, HBJ.out⟩
            case measure => simp [intOf]; omega
    · obtain rfl : k = l.held.length := by omega
      have HHO : Hid (heldOk l) := Lib.hid ⟨HTOP.out.2.2.2, HU.out⟩
      have HBE := Lib.hid hb
      obtain ⟨-, -, -, hK0⟩ := box_cells hb
      clear hb HU
      go_wp2
      go_loopw [113] (fun i wr => ∃ k : Nat, k ≤ l.last.length ∧ i = .int .i64 k ∧ Hid (lastUp l k) ∧ Below (w.heap.size + 1) (w.alloc (.cells (lArr l (.slice a l.held.length cap) (.slice a2 l.last.length cap2)) 35)) wr) (fun i _ => l.last.length - (intOf i).toNat)
      case atStart => exact ⟨0, Nat.zero_le _, rfl, Lib.hid (lastUp_zero l), HBE.out⟩
      case round =>
        clear HBE hlt2 hk hK0
        obtain ⟨k, hk, rfl, HU, hb⟩ := hrel
        by_cases hlt2 : k < l.last.length
        · obtain ⟨b, off, rfl, hlt, hc⟩ := rows_open hlt2 HO7.out
          have hbw := box_below hb
          obtain ⟨hL, hN, hH, hK⟩ := box_cells hb
          have hcw : ∀ i x, l.last[i]? = some x → ∀ j u, (lastC x)[j]? = some u → wr.cell? ⟨b, off + (i * 6 + j), none⟩ = some u := fun i x hx j u hu => (hbw.cell (p := ⟨b, off + (i * 6 + j), none⟩) hlt).trans (hc i x hx j u hu)
          have HCW := Lib.hid hcw
          have HBL := Lib.hid hlt
          have hce := hcw k _ (rgetD hlt2)
          have HT := Lib.hid (rtake hlt2)
          have HG := Lib.hid (rgetD hlt2)
          have HM := Lib.hid (List.getElem_mem hlt2)
          have HBW := Lib.hid hbw
          have HBB := Lib.hid hb
          clear hc hbw hcw
          have hgx : ∃ x, l.last[k] = x := ⟨_, rfl⟩
          obtain ⟨x, hx⟩ := hgx
          rw [hx] at HT HG HM hce
          clear hx
          obtain ⟨x0, x1, x2, x3, x4, x5⟩ := last_cells hce
          have HZ : Hid (0 ≤ x.boot ∧ 0 ≤ x.seq ∧ 0 ≤ x.serial) := Lib.hid (by obtain ⟨-, q1, q2, -, -, q3⟩ := HWF.out.2.2.2 x HM.out; exact ⟨u64_nonneg q1, u64_nonneg q2, u64_nonneg q3⟩)
          have HNO : Hid (¬ lastOk l.limit l.next (befL (l.last.take k)) x → ¬ ledOk l) := Lib.hid (fun h h2 => h (h2.2.2.2.2 k x hlt2 HG.out))
          have hzw : w.heap.size < wr.heap.size := by have := hb.size; simp at this; omega
          have HAL : Hid (∀ o, Below w.heap.size w (wr.alloc o)) := Lib.hid (fun o => HBW.out.alloc (Nat.le_of_lt hzw) o)
          clear hce hb
          have HZ2 : Hid (befL (l.last.take (k + 1)) = x.node) := Lib.hid (by rw [HT.out, befL_snoc])
          have HZ0 : Hid (0 ≤ befL (l.last.take k)) := Lib.hid (befL_nonneg HU.out hk)
          have hgz : ∃ z, befL (l.last.take k) = z := ⟨_, rfl⟩
          obtain ⟨z, hz⟩ := hgz
          have HBF := Lib.hid hz
          rw [hz] at HNO HZ0
          clear hz
          have hkz : (k : Int) < (l.last.length : Int) := by omega
          have hfirst : (k = 0 ∧ z = 0) ∨ ∃ m : Nat, k = m + 1 ∧ wr.cell? ⟨b, off + m * 6, none⟩ = some (.int .i64 z) := by
            cases k with
            | zero => exact .inl ⟨rfl, HBF.out.symm.trans befL_nil⟩
            | succ m =>
              have hm : m < l.last.length := by omega
              refine .inr ⟨m, rfl, ?_⟩
              have h := HCW.out m _ (rgetD hm) 0 _ rfl
              rw [← befL_prev hm, HBF.out] at h
              simpa using h
          rcases hfirst with ⟨hk0, hz0⟩ | ⟨m, hkm, hpv⟩
          · have hgk : decide (0 < k) = false := decide_eq_false (by omega)
            subst hz0
            have HKM := Lib.hid hk0
            clear hk0
            go_wp2
            by_cases d1 : x.node < 1
            · have HE : Hid (¬ ledOk l) := Lib.hid (HNO.out (by have := HZ0.out; have := HZ.out; unfold lastOk; omega))
              have ed1 : decide (x.node < 1) = true := decide_eq_true d1
              clear d1
              go_quiet (fail)
              go_wp2
              go_ret
              exact saysC_no HE.out ((HAL.out _).trans (below_drewN _ _))
            have ed1 : decide (x.node < 1) = false := decide_eq_false d1
            have d1' : 1 ≤ x.node := by omega
            have Hd1 := Lib.hid d1'
            clear d1 d1'
            by_cases d2 : 7 < x.node
            · have HE : Hid (¬ ledOk l) := Lib.hid (HNO.out (by have := HZ0.out; have := HZ.out; unfold lastOk; omega))
              have ed2 : decide (7 < x.node) = true := decide_eq_true d2
              clear d2
              go_quiet (fail)
              go_wp2
              go_ret
              exact saysC_no HE.out ((HAL.out _).trans (below_drewN _ _))
            have ed2 : decide (7 < x.node) = false := decide_eq_false d2
            have d2' : x.node ≤ 7 := by omega
            have Hd2 := Lib.hid d2'
            clear d2 d2'
            by_cases d3 : x.boot < 1
            · have HE : Hid (¬ ledOk l) := Lib.hid (HNO.out (by have := HZ0.out; have := HZ.out; unfold lastOk; omega))
              have ed3 : decide (x.boot < 1) = true := decide_eq_true d3
              clear d3
              go_quiet (fail)
              go_wp2
              go_ret
              exact saysC_no HE.out ((HAL.out _).trans (below_drewN _ _))
            have ed3 : decide (x.boot < 1) = false := decide_eq_false d3
            have d3' : 1 ≤ x.boot := by omega
            have Hd3 := Lib.hid d3'
            clear d3 d3'
            by_cases d4 : x.seq < 1
            · have HE : Hid (¬ ledOk l) := Lib.hid (HNO.out (by have := HZ0.out; have := HZ.out; unfold lastOk; omega))
              have ed4 : decide (x.seq < 1) = true := decide_eq_true d4
              clear d4
              go_quiet (fail)
              go_wp2
              go_ret
              exact saysC_no HE.out ((HAL.out _).trans (below_drewN _ _))
            have ed4 : decide (x.seq < 1) = false := decide_eq_false d4
            have d4' : 1 ≤ x.seq := by omega
            have Hd4 := Lib.hid d4'
            clear d4 d4'
            have HS9 := Lib.hid (u64_nonneg (HWF.out.2.2.2 x HM.out).2.2.2.2.2)
            obtain ⟨wa, hwa⟩ : ∃ q, wr.alloc (.cells #[Value.int .i64 x.node, Value.int .u64 x.boot, Value.int .u64 x.seq, Value.int .i64 x.code, Value.int .i64 x.token, Value.int .u64 x.serial] 103) = q := ⟨_, rfl⟩
            have hbx : Below (w.heap.size + 1) (w.alloc (.cells (lArr l (.slice a l.held.length cap) (.slice (some ⟨b, off, none⟩) l.last.length cap2)) 35)) wa := hwa ▸ (HBB.out.alloc hzw _)
            have hrow : wa.heap[wr.heap.size]? = some (.cells #[Value.int .i64 x.node, Value.int .u64 x.boot, Value.int .u64 x.seq, Value.int .i64 x.code, Value.int .i64 x.token, Value.int .u64 x.serial] 103 (0, 0)) := hwa ▸ (heap_alloc_new _ _)
            rw [hwa]
            obtain ⟨g0, g1, g2, g3⟩ := box_cells hbx
            have k0 := cell_regrown g0
            have k1 := cell_regrown g1
            have k2 := cell_regrown g2
            have k3 := cell_regrown g3
            have r0 : ∀ d os, (Go.Sort.grow (redrawn wa d) os).cell? ⟨wr.heap.size, 0, none⟩ = some (.int .i64 x.node) := cell_regrown ((cell_of_row wa _ 0 _ _ _ hrow).trans rfl)
            have r1 : ∀ d os, (Go.Sort.grow (redrawn wa d) os).cell? ⟨wr.heap.size, 1, none⟩ = some (.int .u64 x.boot) := cell_regrown ((cell_of_row wa _ 1 _ _ _ hrow).trans rfl)
            have r2 : ∀ d os, (Go.Sort.grow (redrawn wa d) os).cell? ⟨wr.heap.size, 2, none⟩ = some (.int .u64 x.seq) := cell_regrown ((cell_of_row wa _ 2 _ _ _ hrow).trans rfl)
            have r3 : ∀ d os, (Go.Sort.grow (redrawn wa d) os).cell? ⟨wr.heap.size, 3, none⟩ = some (.int .i64 x.code) := cell_regrown ((cell_of_row wa _ 3 _ _ _ hrow).trans rfl)
            have r4 : ∀ d os, (Go.Sort.grow (redrawn wa d) os).cell? ⟨wr.heap.size, 4, none⟩ = some (.int .i64 x.token) := cell_regrown ((cell_of_row wa _ 4 _ _ _ hrow).trans rfl)
            have r5 : ∀ d os, (Go.Sort.grow (redrawn wa d) os).cell? ⟨wr.heap.size, 5, none⟩ = some (.int .u64 x.serial) := cell_regrown ((cell_of_row wa _ 5 _ _ _ hrow).trans rfl)
            have HBX := Lib.hid hbx
            have hza : w.heap.size + 1 ≤ wa.heap.size := by have := hbx.size; simpa using this
            have HZA := Lib.hid hza
            clear hwa hbx hrow g0 g1 g2 g3 hza
            by_cases hans : ansOk l.limit l.next x.code x.token x.serial
            · have hcall : ∀ (W' : World) (vh' vl' : Value), Calls Try.prog 44 #[.agg (lArr l vh' vl'), .agg (aArr x.code x.token x.serial)] W' fun e w' => e = .returned (.bool true) ∧ Below W'.heap.size W' w' := fun W' vh' vl' => (answer_any l vh' vl' _ _ _ W' HS9.out).mono (fun e w' ⟨b, he, hb, hB⟩ => ⟨by rw [he, hb.2 hans], hB⟩)
              have cA : ∀ (d : Nat) (os : Array Obj) (vh' vl' : Value), Calls Try.prog 44 #[.agg (lArr l vh' vl'), .agg (aArr x.code x.token x.serial)] (Go.Sort.grow (redrawn wa d) os) fun e w'' => e = .returned (.bool true) ∧ ∃ p : Regrown, w'' = Go.Sort.grow (redrawn wa p.d) p.os := fun d os vh' vl' => Calls.regrown_of (hcall _ _ _)
              have HCA := Lib.hid cA
              have HANS := Lib.hid hans
              clear hcall cA hans
              refine wp_region_quiet_below (by kernel_rfl) (by kernel_rfl) ?_
              repeat (go_big_quiet_step ((go_at_call 44; exact HCA.out _ _ _ _)))
              refine wpQuiet_nil ?_
              intro _ hw'
              obtain ⟨⟨dq, osq⟩, hw''⟩ := hw'
              subst hw''
              have HW2 : Hid (Below (w.heap.size + 1) (w.alloc (.cells (lArr l (.slice a l.held.length cap) (.slice (some ⟨b, off, none⟩) l.last.length cap2)) 35)) (Go.Sort.grow (redrawn wa dq) osq)) := Lib.hid (HBX.out.trans ((below_regrown wa dq osq).mono HZA.out))
              have HUP : Hid (lastUp l (k + 1)) := Lib.hid (lastUp_succ HU.out HG.out (by
                rw [HBF.out]
                have := HZ.out
                exact ⟨by first | exact H0d.out | (have := Hd1.out; omega), Hd1.out, Hd2.out, by have := Hd3.out; omega, by have := Hd4.out; omega, HANS.out⟩))
              clear k0 k1 k2 k3 r0 r1 r2 r3 r4 r5
              go_wp2
              go_roundw
              case rel => exact ⟨k + 1, by omega, by go_num, HUP.out, HW2.out⟩
              case measure => simp [intOf]; omega
            · have hcall : ∀ (W' : World) (vh' vl' : Value), Calls Try.prog 44 #[.agg (lArr l vh' vl'), .agg (aArr x.code x.token x.serial)] W' fun e w' => e = .returned (.bool false) ∧ Below W'.heap.size W' w' := fun W' vh' vl' => (answer_any l vh' vl' _ _ _ W' HS9.out).mono (fun e w' ⟨b, he, hb, hB⟩ => ⟨by rw [he, Bool.eq_false_iff.2 (fun h => hans (hb.1 h))], hB⟩)
              have cA : ∀ (d : Nat) (os : Array Obj) (vh' vl' : Value), Calls Try.prog 44 #[.agg (lArr l vh' vl'), .agg (aArr x.code x.token x.serial)] (Go.Sort.grow (redrawn wa d) os) fun e w'' => e = .returned (.bool false) ∧ ∃ p : Regrown, w'' = Go.Sort.grow (redrawn wa p.d) p.os := fun d os vh' vl' => Calls.regrown_of (hcall _ _ _)
              have HCA := Lib.hid cA
              have HE : Hid (¬ ledOk l) := Lib.hid (HNO.out (fun h => hans h.2.2.2.2.2))
              clear hcall cA hans
              refine wp_region_quiet_below (by kernel_rfl) (by kernel_rfl) ?_
              repeat (go_big_quiet_step ((go_at_call 44; exact HCA.out _ _ _ _)))
              refine wpQuiet_nil ?_
              intro _ hw'
              obtain ⟨⟨dq, osq⟩, hw''⟩ := hw'
              subst hw''
              have HW2 := Lib.hid (box_below (HBX.out.trans ((below_regrown wa dq osq).mono HZA.out)))
              clear k0 k1 k2 k3 r0 r1 r2 r3 r4 r5
              go_wp2
              go_ret
              exact saysC_no HE.out HW2.out
          · have hgk0 : 0 < k := by omega
            have hgk : decide (0 < k) = true := decide_eq_true hgk0
            have hsub : IntKind.i64.wrap ((k : Int) - 1) = (m : Int) := by rw [show (k : Int) - 1 = (m : Int) by omega]; exact IntWalk.i64_in _ (by omega)
            have hm1 : (m : Int) < (l.last.length : Int) := by omega
            have hm2 : m < l.last.length := by omega
            have HKM := Lib.hid hkm
            have hbz : b < wr.heap.size := by have := HBL.out; omega
            clear hkm
            go_wp2
            by_cases d0 : x.node ≤ z
            · have HE : Hid (¬ ledOk l) := Lib.hid (HNO.out (by unfold lastOk; omega))
              have ed0 : decide (x.node ≤ z) = true := decide_eq_true d0
              clear d0
              go_quiet (fail)
              go_wp2
              go_ret
              exact saysC_no HE.out ((HAL.out _).trans (below_drewN _ _))
            have ed0 : decide (x.node ≤ z) = false := decide_eq_false d0
            have hd0 : z < x.node := by omega
            have H0d := Lib.hid hd0
            clear d0 hd0
            by_cases d1 : x.node < 1
            · have HE : Hid (¬ ledOk l) := Lib.hid (HNO.out (by have := HZ0.out; have := HZ.out; unfold lastOk; omega))
              have ed1 : decide (x.node < 1) = true := decide_eq_true d1
              clear d1
              go_quiet (fail)
              go_wp2
              go_ret
              exact saysC_no HE.out ((HAL.out _).trans (below_drewN _ _))
            have ed1 : decide (x.node < 1) = false := decide_eq_false d1
            have d1' : 1 ≤ x.node := by omega
            have Hd1 := Lib.hid d1'
            clear d1 d1'
            by_cases d2 : 7 < x.node
            · have HE : Hid (¬ ledOk l) := Lib.hid (HNO.out (by have := HZ0.out; have := HZ.out; unfold lastOk; omega))
              have ed2 : decide (7 < x.node) = true := decide_eq_true d2
              clear d2
              go_quiet (fail)
              go_wp2
              go_ret
              exact saysC_no HE.out ((HAL.out _).trans (below_drewN _ _))
            have ed2 : decide (7 < x.node) = false := decide_eq_false d2
            have d2' : x.node ≤ 7 := by omega
            have Hd2 := Lib.hid d2'
            clear d2 d2'
            by_cases d3 : x.boot < 1
            · have HE : Hid (¬ ledOk l) := Lib.hid (HNO.out (by have := HZ0.out; have := HZ.out; unfold lastOk; omega))
              have ed3 : decide (x.boot < 1) = true := decide_eq_true d3
              clear d3
              go_quiet (fail)
              go_wp2
              go_ret
              exact saysC_no HE.out ((HAL.out _).trans (below_drewN _ _))
            have ed3 : decide (x.boot < 1) = false := decide_eq_false d3
            have d3' : 1 ≤ x.boot := by omega
            have Hd3 := Lib.hid d3'
            clear d3 d3'
            by_cases d4 : x.seq < 1
            · have HE : Hid (¬ ledOk l) := Lib.hid (HNO.out (by have := HZ0.out; have := HZ.out; unfold lastOk; omega))
              have ed4 : decide (x.seq < 1) = true := decide_eq_true d4
              clear d4
              go_quiet (fail)
              go_wp2
              go_ret
              exact saysC_no HE.out ((HAL.out _).trans (below_drewN _ _))
            have ed4 : decide (x.seq < 1) = false := decide_eq_false d4
            have d4' : 1 ≤ x.seq := by omega
            have Hd4 := Lib.hid d4'
            clear d4 d4'
            have HS9 := Lib.hid (u64_nonneg (HWF.out.2.2.2 x HM.out).2.2.2.2.2)
            obtain ⟨wa, hwa⟩ : ∃ q, wr.alloc (.cells #[Value.int .i64 x.node, Value.int .u64 x.boot, Value.int .u64 x.seq, Value.int .i64 x.code, Value.int .i64 x.token, Value.int .u64 x.serial] 103) = q := ⟨_, rfl⟩
            have hbx : Below (w.heap.size + 1) (w.alloc (.cells (lArr l (.slice a l.held.length cap) (.slice (some ⟨b, off, none⟩) l.last.length cap2)) 35)) wa := hwa ▸ (HBB.out.alloc hzw _)
            have hrow : wa.heap[wr.heap.size]? = some (.cells #[Value.int .i64 x.node, Value.int .u64 x.boot, Value.int .u64 x.seq, Value.int .i64 x.code, Value.int .i64 x.token, Value.int .u64 x.serial] 103 (0, 0)) := hwa ▸ (heap_alloc_new _ _)
            have hpw : wa.cell? ⟨b, off + m * 6, none⟩ = some (.int .i64 z) := hwa ▸ (cell_alloc hbz hpv)
            have k9 := cell_regrown hpw
            clear hpw
            rw [hwa]
            obtain ⟨g0, g1, g2, g3⟩ := box_cells hbx
            have k0 := cell_regrown g0
            have k1 := cell_regrown g1
            have k2 := cell_regrown g2
            have k3 := cell_regrown g3
            have r0 : ∀ d os, (Go.Sort.grow (redrawn wa d) os).cell? ⟨wr.heap.size, 0, none⟩ = some (.int .i64 x.node) := cell_regrown ((cell_of_row wa _ 0 _ _ _ hrow).trans rfl)
            have r1 : ∀ d os, (Go.Sort.grow (redrawn wa d) os).cell? ⟨wr.heap.size, 1, none⟩ = some (.int .u64 x.boot) := cell_regrown ((cell_of_row wa _ 1 _ _ _ hrow).trans rfl)
            have r2 : ∀ d os, (Go.Sort.grow (redrawn wa d) os).cell? ⟨wr.heap.size, 2, none⟩ = some (.int .u64 x.seq) := cell_regrown ((cell_of_row wa _ 2 _ _ _ hrow).trans rfl)
            have r3 : ∀ d os, (Go.Sort.grow (redrawn wa d) os).cell? ⟨wr.heap.size, 3, none⟩ = some (.int .i64 x.code) := cell_regrown ((cell_of_row wa _ 3 _ _ _ hrow).trans rfl)
            have r4 : ∀ d os, (Go.Sort.grow (redrawn wa d) os).cell? ⟨wr.heap.size, 4, none⟩ = some (.int .i64 x.token) := cell_regrown ((cell_of_row wa _ 4 _ _ _ hrow).trans rfl)
            have r5 : ∀ d os, (Go.Sort.grow (redrawn wa d) os).cell? ⟨wr.heap.size, 5, none⟩ = some (.int .u64 x.serial) := cell_regrown ((cell_of_row wa _ 5 _ _ _ hrow).trans rfl)
            have HBX := Lib.hid hbx
            have hza : w.heap.size + 1 ≤ wa.heap.size := by have := hbx.size; simpa using this
            have HZA := Lib.hid hza
            clear hwa hbx hrow g0 g1 g2 g3 hza
            by_cases hans : ansOk l.limit l.next x.code x.token x.serial
            · have hcall : ∀ (W' : World) (vh' vl' : Value), Calls Try.prog 44 #[.agg (lArr l vh' vl'), .agg (aArr x.code x.token x.serial)] W' fun e w' => e = .returned (.bool true) ∧ Below W'.heap.size W' w' := fun W' vh' vl' => (answer_any l vh' vl' _ _ _ W' HS9.out).mono (fun e w' ⟨b, he, hb, hB⟩ => ⟨by rw [he, hb.2 hans], hB⟩)
              have cA : ∀ (d : Nat) (os : Array Obj) (vh' vl' : Value), Calls Try.prog 44 #[.agg (lArr l vh' vl'), .agg (aArr x.code x.token x.serial)] (Go.Sort.grow (redrawn wa d) os) fun e w'' => e = .returned (.bool true) ∧ ∃ p : Regrown, w'' = Go.Sort.grow (redrawn wa p.d) p.os := fun d os vh' vl' => Calls.regrown_of (hcall _ _ _)
              have HCA := Lib.hid cA
              have HANS := Lib.hid hans
              clear hcall cA hans
              refine wp_region_quiet_below (by kernel_rfl) (by kernel_rfl) ?_
              repeat (go_big_quiet_step ((go_at_call 44; exact HCA.out _ _ _ _)))
              refine wpQuiet_nil ?_
              intro _ hw'
              obtain ⟨⟨dq, osq⟩, hw''⟩ := hw'
              subst hw''
              have HW2 : Hid (Below (w.heap.size + 1) (w.alloc (.cells (lArr l (.slice a l.held.length cap) (.slice (some ⟨b, off, none⟩) l.last.length cap2)) 35)) (Go.Sort.grow (redrawn wa dq) osq)) := Lib.hid (HBX.out.trans ((below_regrown wa dq osq).mono HZA.out))
              have HUP : Hid (lastUp l (k + 1)) := Lib.hid (lastUp_succ HU.out HG.out (by
                rw [HBF.out]
                have := HZ.out
                exact ⟨by first | exact H0d.out | (have := Hd1.out; omega), Hd1.out, Hd2.out, by have := Hd3.out; omega, by have := Hd4.out; omega, HANS.out⟩))
              clear k0 k1 k2 k3 r0 r1 r2 r3 r4 r5
              go_wp2
              go_roundw
              case rel => exact ⟨k + 1, by omega, by go_num, HUP.out, HW2.out⟩
              case measure => simp [intOf]; omega
            · have hcall : ∀ (W' : World) (vh' vl' : Value), Calls Try.prog 44 #[.agg (lArr l vh' vl'), .agg (aArr x.code x.token x.serial)] W' fun e w' => e = .returned (.bool false) ∧ Below W'.heap.size W' w' := fun W' vh' vl' => (answer_any l vh' vl' _ _ _ W' HS9.out).mono (fun e w' ⟨b, he, hb, hB⟩ => ⟨by rw [he, Bool.eq_false_iff.2 (fun h => hans (hb.1 h))], hB⟩)
              have cA : ∀ (d : Nat) (os : Array Obj) (vh' vl' : Value), Calls Try.prog 44 #[.agg (lArr l vh' vl'), .agg (aArr x.code x.token x.serial)] (Go.Sort.grow (redrawn wa d) os) fun e w'' => e = .returned (.bool false) ∧ ∃ p : Regrown, w'' = Go.Sort.grow (redrawn wa p.d) p.os := fun d os vh' vl' => Calls.regrown_of (hcall _ _ _)
              have HCA := Lib.hid cA
              have HE : Hid (¬ ledOk l) := Lib.hid (HNO.out (fun h => hans h.2.2.2.2.2))
              clear hcall cA hans
              refine wp_region_quiet_below (by kernel_rfl) (by kernel_rfl) ?_
              repeat (go_big_quiet_step ((go_at_call 44; exact HCA.out _ _ _ _)))
              refine wpQuiet_nil ?_
              intro _ hw'
              obtain ⟨⟨dq, osq⟩, hw''⟩ := hw'
              subst hw''
              have HW2 := Lib.hid (box_below (HBX.out.trans ((below_regrown wa dq osq).mono HZA.out)))
              clear k0 k1 k2 k3 r0 r1 r2 r3 r4 r5
              go_wp2
              go_ret
              exact saysC_no HE.out HW2.out
        · obtain rfl : k = l.last.length := by omega
          have HBW := Lib.hid (box_below hb)
          have HE : Hid (ledOk l) := Lib.hid ⟨HTOP.out.1, HTOP.out.2.1, by have := HTOP.out.2.2.1; omega, HHO.out, HU.out⟩
          go_wp2
          go_ret
          exact saysC_yes HE.out HBW.out
end Ld
end Go.Proofs.Ytgbblegcjladaaa
