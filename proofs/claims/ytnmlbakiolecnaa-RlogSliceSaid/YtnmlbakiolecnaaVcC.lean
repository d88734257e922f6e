/- values.CopyEntries. No condition. -/
import Derived.Test.YtnmlbakiolecnaaVcB
namespace Go.Proofs.Ytnmlbakiolecnaa
open Go.ChangeShapes Go.WideShapes Go.ChangeAt Go.RowKit
set_option linter.unusedVariables false
set_option maxRecDepth 100000
namespace Vc
open Hd
theorem cells_grown {g : Nat} : ∀ (L : List Value) (o : Nat) (w : World), w.grownBy (w.setCells g o L) (some g)
  | [], _, w => ⟨rfl, rfl, rfl, Nat.le_refl _, fun _ _ _ => rfl⟩
  | u :: L, o, w => by
    have h := cells_grown (g := g) L (o + 1) (w.setCell ⟨g, o, none⟩ u)
    refine ⟨h.os.trans rfl, h.tape.trans rfl, h.output.trans rfl, Nat.le_trans (m := (w.setCell ⟨g, o, none⟩ u).heap.size) (Nat.le_of_eq (by simp)) h.size, fun k hk hne => (h.block k (by simpa using hk) hne).trans (heap_setCell_other _ _ _ _ (fun e => hne (by rw [e])))⟩
theorem there_own {w : World} {B g cap : Nat} {rows : List ERow} {e : TypeId} (h : OwnR 9 entC e w B (.slice (some ⟨g, 0, none⟩) rows.length cap) rows) (k : Nat) (hk : k < rows.length) : w.there g (k * 9) 9 := by
  intro j hj
  have e9 : (entC rows[k]).length = 9 := rfl
  have hc := World.ownsRow.cells h (g := g) rfl (k * 9 + j) _ (flat_at entC_len rows k j _ _ (List.getElem?_eq_getElem hk) (List.getElem?_eq_getElem (by rw [e9]; exact hj)))
  rw [add_plain, Nat.zero_add] at hc
  exact ⟨by rw [hc]; rfl, h.frozenAt _⟩
/-- the first k lists are the call's own and lie elsewhere -/
def EntsP (w : World) (B : Nat) (ob : Option Nat) (rs : List ERow) (k : Nat) : Prop := ∀ j r, rs[j]? = some r → j < k → OwnK .i64 3 w B r.2 r.1.cmd.nodes ∧ ∀ q, r.2.ownBlock = some q → some q ≠ ob
set_option maxHeartbeats 4000000 in
theorem entries_own (log : List Ent) (v : Value) (w : World) (h : IsLog w v log) (hf : log.length * 88 ≤ 140737488351232) (hfc : ∀ x ∈ log, IsCmd.fits x.cmd) :
    Calls Try.prog 66 #[v] w (GivesLogO log w) := by
  obtain ⟨rows, hs, he, rfl⟩ := h
  rw [List.length_map] at hf
  have HE := Lib.hid he
  have HF := Lib.hid hfc
  go_enter Try.func66, Try.ntmps66
  go_wp2_with fail
  refine (clone_any rows _ _ hs he hf).mono ?_
  rintro e w1 ⟨u, rfl, own1, hb1⟩
  obtain ⟨a3, c3, rfl, hc1, hc2, -⟩ := own1.sl entC_len
  unfold maxLen at hc2
  clear hs he hfc
  go_wp2
  go_loopw [10] (fun i wr => ∃ (k : Nat) (rs : List ERow), k ≤ rows.length ∧ i = .int .i64 k ∧ rs.length = rows.length ∧ OwnR 9 entC 41 wr w.heap.size (.slice a3 rows.length c3) rs ∧ Hid (EntsP wr w.heap.size (Value.slice a3 rows.length c3).ownBlock rs k ∧ (∀ j, k ≤ j → rs[j]? = rows[j]?) ∧ rs.map Prod.fst = rows.map Prod.fst) ∧ Below w.heap.size w wr) (fun i _ => rows.length - (intOf i).toNat)
  case atStart => exact ⟨0, rows, Nat.zero_le _, rfl, rfl, own1, Lib.hid ⟨fun j r _ hj => absurd hj (Nat.not_lt_zero _), fun _ _ => rfl, rfl⟩, hb1⟩
  case round =>
    clear own1 hb1
    obtain ⟨k, rs, hk, rfl, hrl, hown, HP, hb⟩ := hrel
    by_cases hlt : k < rows.length
    · have hlt2 : k < rs.length := by omega
      obtain ⟨g, rfl⟩ : ∃ g, a3 = some ⟨g, 0, none⟩ := by
        rcases hown.2 with ⟨h1, h2⟩ | ⟨g, cap, cur, h1, _⟩
        · omega
        · simp only [Value.slice.injEq] at h1
          exact ⟨g, h1.1⟩
      have hown' : OwnR 9 entC 41 wr w.heap.size (.slice (some ⟨g, 0, none⟩) rs.length c3) rs := by rw [hrl]; exact hown
      have hgl := World.ownsRow.lt hown g rfl
      have hrk : rs[k]? = some rows[k] := (HP.out.2.1 k (Nat.le_refl _)).trans (List.getElem?_eq_getElem hlt)
      have hce : ∀ j u, (entC rows[k])[j]? = some u → wr.cell? ⟨g, 0 + (k * 9 + j), none⟩ = some u := fun j u hu => by
        have hc := World.ownsRow.cells hown' (g := g) rfl (k * 9 + j) u (flat_at entC_len rs k j _ u hrk hu)
        rw [add_plain] at hc
        exact hc
      have hes := HE.out _ (List.getElem_mem hlt)
      have HSE := Lib.hid (hes.1.below hb (Nat.le_refl _))
      have HWF := Lib.hid hes.2
      have hfx := HF.out rows[k].1 (List.mem_map.2 ⟨_, List.getElem_mem hlt, rfl⟩)
      have HRK := Lib.hid hrk
      have HOW := Lib.hid hown'
      have HB := Lib.hid hb
      have HGL := Lib.hid hgl
      have HRL := Lib.hid hrl
      have hfst : Hid (∀ vn : Value, (rs.set k (rows[k].1, vn)).map Prod.fst = rows.map Prod.fst) := Lib.hid (fun vn => by
        rw [List.map_set, HP.out.2.2]
        apply List.ext_getElem?
        intro j
        rw [List.getElem?_set]
        by_cases c : k = j
        · subst c
          rw [if_pos rfl, if_pos (by simpa using hlt), List.getElem?_map, List.getElem?_eq_getElem hlt]
          rfl
        · rw [if_neg c])
      clear hes hrk hown hown' hb hgl
      generalize rows[k] = r at *
      obtain ⟨x, vr⟩ := r
      simp only [] at HSE HWF hfx hfst
      obtain ⟨ar, cr, hvr, -⟩ := id HSE.out
      subst hvr
      obtain ⟨e0, e1, e2, e3, e4, e5, e6, e7, e8⟩ := ent_cells hce
      simp only [Nat.zero_add] at e0 e1 e2 e3 e4 e5 e6 e7 e8
      have hkz : (k : Int) < (rows.length : Int) := by omega
      have hb4 : Below wr.heap.size wr (wr.alloc (.cells (entC (x, .slice ar x.cmd.nodes.length cr)).toArray 41)) := (Below.refl _ _).alloc (Nat.le_refl _) _
      have HB4 := Lib.hid hb4
      have HEN : Hid (IsEnt _ (.agg (entC (x, .slice ar x.cmd.nodes.length cr)).toArray) x) := Lib.hid ⟨_, rfl, HSE.out.below hb4 (Nat.le_refl _), HWF.out⟩
      clear hce hb4 hrl
      go_wp2_with fail
      refine (ent_own x _ _ HEN.out hfx).mono ?_
      rintro e w5 ⟨un, rfl, own5, hb5⟩
      obtain ⟨a5, c5, rfl, -⟩ := own5.sl HSE.out.wf
      have HB45 := Lib.hid (HB4.out.trans (hb5.mono (by simp)))
      have HOW5 := Lib.hid (HOW.out.below HB45.out (Nat.le_refl _))
      have HO5 := Lib.hid own5
      have hth := there_own HOW5.out k hlt2
      clear own5 hb5 e0 e1 e2 e3 e4 e5 e6 e7 e8
      generalize hW6 : w5.setCells g (k * 9) (entC (x, .slice a5 x.cmd.nodes.length c5)).toArray.toList = W6
      go_wp2_with (refine wpList_store_mid rfl 41 (.tmp 19) (.tmp 18) rfl g (k * 9) (entC (x, .slice a5 x.cmd.nodes.length c5)).toArray rfl rfl hth (by kernel_rfl) (ent_all _ _ _ _) ?_; rw [hW6]; clear hth)
      have hst : OwnR 9 entC 41 W6 w.heap.size (.slice (some ⟨g, 0, none⟩) rows.length c3) (rs.set k (x, .slice a5 x.cmd.nodes.length c5)) := by
        have := stored_ent HOW5.out k hlt2 (x, .slice a5 x.cmd.nodes.length c5)
        rw [HRL.out] at this
        rw [← hW6]
        exact this
      have hgr : w5.grownBy W6 (some g) := by rw [← hW6]; exact cells_grown _ _ _
      have hbW : Below w.heap.size w W6 := by rw [← hW6]; exact below_cells HGL.out.1 _ _ _ (HB.out.trans (HB45.out.mono HB.out.size))
      have hP : EntsP W6 w.heap.size (some g) (rs.set k (x, .slice a5 x.cmd.nodes.length c5)) (k + 1) := by
        intro j r hr hj
        rw [List.getElem?_set] at hr
        by_cases c : k = j
        · rw [if_pos c, if_pos (by omega)] at hr
          simp only [Option.some.injEq] at hr
          subst hr
          have hl := fun q hq => World.ownsRow.lt HO5.out q hq
          have hne : ∀ q, (Value.slice a5 x.cmd.nodes.length c5).ownBlock = some q → some q ≠ some g := fun q hq hqq => by
            have h1 := (hl q hq).1
            have h2 := HGL.out.2
            have h3 := Option.some.inj hqq
            simp at h1
            omega
          exact ⟨(HO5.out.lower (by have := HB.out.size; simp; omega)).far hgr hne, hne⟩
        · rw [if_neg c] at hr
          obtain ⟨h1, h2⟩ := HP.out.1 j r hr (by omega)
          exact ⟨(h1.below HB45.out (Nat.le_refl _)).far hgr h2, h2⟩
      have HQ : Hid (EntsP W6 w.heap.size (Value.slice (some ⟨g, 0, none⟩) rows.length c3).ownBlock (rs.set k (x, .slice a5 x.cmd.nodes.length c5)) (k + 1) ∧ (∀ j, k + 1 ≤ j → (rs.set k (x, .slice a5 x.cmd.nodes.length c5))[j]? = rows[j]?) ∧ (rs.set k (x, .slice a5 x.cmd.nodes.length c5)).map Prod.fst = rows.map Prod.fst) :=
        Lib.hid ⟨hP, fun j hj => by rw [List.getElem?_set, if_neg (by omega)]; exact HP.out.2.1 j (by omega), hfst.out _⟩
      have HST := Lib.hid hst
      have HBW := Lib.hid hbW
      clear hst hgr hbW hP hW6
      go_wp2
      go_roundw
      case rel => exact ⟨k + 1, _, by omega, by go_num, by rw [List.length_set]; exact HRL.out, HST.out, HQ.out |> Lib.hid, HBW.out⟩
      case measure => simp [intOf]; omega
    · obtain rfl : k = rows.length := by omega
      have HO : Hid (EntsO wr w.heap.size (Value.slice a3 rows.length c3).ownBlock rs) := Lib.hid (fun r hr => by
        obtain ⟨j, hj, rfl⟩ := List.mem_iff_getElem.1 hr
        obtain ⟨h1, h2⟩ := HP.out.1 j _ (List.getElem?_eq_getElem hj) (by omega)
        have hm : rs[j].1 ∈ rows.map Prod.fst := by rw [← HP.out.2.2]; exact List.mem_map.2 ⟨_, List.getElem_mem hj, rfl⟩
        obtain ⟨r', hr', he'⟩ := List.mem_map.1 hm
        have hE := HE.out r' hr'
        rw [he'] at hE
        exact ⟨h1, hE.2, hE.1.wf, h2⟩)
      have HOW := Lib.hid hown
      have HB := Lib.hid hb
      have HM := Lib.hid HP.out.2.2
      clear hown hb HP
      go_wp2
      go_ret
      exact ⟨_, rs, rfl, HOW.out, HO.out, HM.out, HB.out⟩
end Vc
end Go.Proofs.Ytnmlbakiolecnaa
