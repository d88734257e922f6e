/- slices.insertionSortOrdered at uint64, a row of one's own. -/
import Derived.Test.YtogebbplfoainaaNmB
import Derived.Laws.OwnMore
import Derived.WalkKit
import Derived.BigGuard
import Derived.BigCall
import Derived.CellFam
import Derived.Deep.Draws
import Derived.Deep.QuietTactic
import Derived.BigQuiet
namespace Go.Proofs.Ytogebbplfoainaa
open Go.ChangeShapes Go.WideShapes Go.ChangeAt Go.RowKit
set_option linter.unusedVariables false
set_option maxRecDepth 100000
namespace Nm
theorem swp_set {l : List Int} {j : Nat} (h0 : 0 < j) (hj : j < l.length) : (l.set j (at0 l (j - 1))).set (j - 1) (at0 l j) = swp l j := by
  have hlen : (swp l j).length = l.length := (swp_perm h0 hj).length_eq
  apply List.ext_getElem (by simp [hlen])
  intro k h1 h2
  have h3 := swp_at (k := k) h0 hj
  have h4 : (swp l j)[k] = at0 (swp l j) k := by simp [at0, List.getD, List.getElem?_eq_getElem h2]
  rw [h4, h3]
  simp only [List.getElem_set]
  have hk : k < l.length := by simpa using h1
  by_cases e1 : k = j
  · rw [if_neg (by omega), if_pos e1.symm, if_pos e1]
  · by_cases e2 : k + 1 = j
    · rw [if_pos (by omega), if_neg e1, if_pos e2]
    · rw [if_neg (by omega), if_neg (by omega), if_neg e1, if_neg e2]
      simp [at0, List.getD, List.getElem?_eq_getElem hk]
theorem bdn {B : Nat} (w : World) (n : Nat) : Below B w (w.drewN n) := ⟨rfl, rfl, rfl, Nat.le_refl _, fun _ _ => rfl⟩
/-- a row of one's own of numbers -/
def RowU (w : World) (B g cap : Nat) (l : List Int) : Prop := OwnK .u64 25 w B (.slice (some ⟨g, 0, none⟩) l.length cap) l
theorem RowU.cell {w : World} {B g cap : Nat} {l : List Int} (h : RowU w B g cap l) (k : Nat) (hk : k < l.length) : w.cell? ⟨g, k, none⟩ = some (.int .u64 (at0 l k)) := by
  have h2 : World.ownsRow _ _ _ _ _ _ _ := h
  rw [h2.cellAt k (by omega)]
  simp [at0, List.getD, List.getElem?_eq_getElem hk]
theorem RowU.below {w w' : World} {B C g cap : Nat} {l : List Int} (h : RowU w B g cap l) (hb : Below C w w') (hC : w.heap.size ≤ C) : RowU w' B g cap l := OwnK.below h hb hC
theorem RowU.froz {w : World} {B g cap : Nat} {l : List Int} (h : RowU w B g cap l) (k : Nat) : w.frozen? ⟨g, k, none⟩ = false := World.ownsRow.frozenAt h k
theorem RowU.base {w : World} {B g cap : Nat} {l : List Int} (h : RowU w B g cap l) : B ≤ g ∧ g < w.heap.size := World.ownsRow.lt h g rfl
theorem RowU.swap {w : World} {B g cap : Nat} {l : List Int} {j : Nat} (h : RowU w B g cap l) (h0 : 0 < j) (hj : j < l.length) :
    RowU ((w.setCell ⟨g, j, none⟩ (.int .u64 (at0 l (j - 1)))).setCell ⟨g, j - 1, none⟩ (.int .u64 (at0 l j))) B g cap (swp l j) := by
  have h2 := ((World.ownsRow.stored h j (.int .u64 (at0 l (j - 1)))).1.stored (j - 1) (.int .u64 (at0 l j))).1
  have hlen : (swp l j).length = l.length := (swp_perm h0 hj).length_eq
  unfold RowU OwnK
  rw [hlen, ← swp_set h0 hj, List.map_set, List.map_set]
  exact h2

set_option maxHeartbeats 2000000 in
theorem ins_off (off : Nat) (hoff : off = 0) (g cap B : Nat) (zs : List Int) (w : World) (h : RowU w B g cap zs) (h0 : 0 < zs.length) (hsz : zs.length < 4611686018427387904) :
    Calls Try.prog 16 #[.slice (some ⟨g, off, none⟩) zs.length cap, .int .i64 0, .int .i64 zs.length] w fun e w' =>
      e = .returned (.tuple #[]) ∧ Below B w w' ∧ ∃ l : List Int, l.length = zs.length ∧ l.Perm zs ∧ sortedTo l zs.length ∧ RowU w' B g cap l := by
  obtain ⟨hBg, -⟩ := h.base
  have H := Lib.hid h
  have HOF := Lib.hid hoff
  clear h hoff
  go_enter Try.func16, Try.ntmps16
  go_wp2
  go_loopw [6] (fun vi wr => ∃ (i : Nat) (l : List Int), vi = .int .i64 i ∧ 0 < i ∧ i ≤ zs.length ∧ l.length = zs.length ∧ l.Perm zs ∧ sortedTo l i ∧ Below B w wr ∧ RowU wr B g cap l) (fun vi _ => zs.length - (intOf vi).toNat)
  case atStart => exact ⟨1, zs, rfl, by omega, by omega, rfl, List.Perm.refl _, sorted_one _, Below.refl _ _, H.out⟩
  case round =>
    obtain ⟨i, l, rfl, hi0, hin, hl, hp, hs, hb, hr⟩ := hrel
    have HS := Lib.hid hs
    have HP := Lib.hid hp
    have HB := Lib.hid hb
    have HR := Lib.hid hr
    clear hs hp hb hr
    go_wp2
    · have hlt : i < zs.length := by omega
      go_loopw [7] (fun vj wr2 => ∃ (j : Nat) (l2 : List Int), vj = .int .i64 j ∧ j ≤ i ∧ l2.length = zs.length ∧ l2.Perm zs ∧ almost l2 i j ∧ Below B w wr2 ∧ RowU wr2 B g cap l2) (fun vj _ => (intOf vj).toNat)
      case atStart => exact ⟨i, l, rfl, Nat.le_refl _, hl, HP.out, almost_start HS.out, HB.out, HR.out⟩
      case round =>
        obtain ⟨j, l2, rfl, hji, hl2, hp2, ha2, hb2, hr2⟩ := hrel
        obtain ⟨G, hG⟩ : ∃ G : Nat → Int, ∀ t, G t = at0 l2 t := ⟨fun t => at0 l2 t, fun _ => rfl⟩
        have hcw : ∀ t, t < zs.length → wr.cell? ⟨g, off + t, none⟩ = some (.int .u64 (G t)) := fun t ht => by rw [hG, HOF.out, Nat.zero_add]; exact hr2.cell t (by omega)
        have hfw : ∀ t, t < zs.length → wr.frozen? ⟨g, off + t, none⟩ = false := fun t ht => by rw [HOF.out, Nat.zero_add]; exact hr2.froz t
        have HG := Lib.hid hG
        have HP2 := Lib.hid hp2
        have HA2 := Lib.hid ha2
        have HB2 := Lib.hid hb2
        have HR2 := Lib.hid hr2
        have OUT : Hid (j = 0 ∨ at0 l2 (j - 1) ≤ at0 l2 j → sortedTo l2 (i + 1)) := Lib.hid (fun h => almost_end hji ha2 h)
        clear hG hp2 ha2 hb2 hr2
        go_wp2
        by_cases hja : 0 < j
        · have hjz : j < zs.length := by omega
          have hjy : (j : Int) < (zs.length : Int) := by omega
          have hjm : j - 1 < zs.length := by omega
          have hjn : ((j - 1 : Nat) : Int) < (zs.length : Int) := by omega
          have hjw : IntKind.i64.wrap ((j : Int) - 1) = ((j - 1 : Nat) : Int) := by rw [show (j : Int) - 1 = ((j - 1 : Nat) : Int) by omega]; exact wrap_small _ (by omega) (by omega)
          go_quiet (first | (go_at_call 22; refine Calls.quiet_of_same ((less_any _ _ _).mono fun _ _ h => ⟨h.1, h.2.symm⟩)))
          go_wp2
          · have hl : G j < G (j - 1) := by assumption
            go_region
            all_goals go_wp2
            go_roundw
            case rel =>
              refine ⟨j - 1, swp l2 j, by congr 1, by omega, by rw [(swp_perm hja (by omega)).length_eq]; exact hl2, (swp_perm hja (by omega)).trans HP2.out, almost_swp hja hji (by omega) HA2.out (by rw [← HG.out, ← HG.out]; exact hl), ?_, ?_⟩
              · exact ((HB2.out.trans (bdn _ _)).setCell hBg _).setCell hBg _
              · have HOF2 := HOF.out
                subst HOF2
                simp only [Nat.zero_add, HG.out]
                exact (HR2.out.below (bdn _ _) (Nat.le_refl _)).swap hja (by omega)
            case measure => simp [intOf]; omega
          · have hl : ¬ G j < G (j - 1) := by omega
            go_roundw
            case rel => exact ⟨i + 1, l2, by go_num, by omega, by omega, hl2, HP2.out, OUT.out (.inr (by rw [← HG.out, ← HG.out]; omega)), HB2.out.trans (bdn _ _), HR2.out.below (bdn _ _) (Nat.le_refl _)⟩
            case measure => simp [intOf]; omega
        · go_quiet (fail)
          go_wp2
          go_roundw
          case rel => exact ⟨i + 1, l2, by go_num, by omega, by omega, hl2, HP2.out, OUT.out (.inl (by omega)), HB2.out.trans (bdn _ _), HR2.out.below (bdn _ _) (Nat.le_refl _)⟩
          case measure => simp [intOf]; omega
    · obtain rfl : i = zs.length := by omega
      go_end0
      exact ⟨rfl, HB.out, l, hl, HP.out, HS.out, HR.out⟩
end Nm
end Go.Proofs.Ytogebbplfoainaa
