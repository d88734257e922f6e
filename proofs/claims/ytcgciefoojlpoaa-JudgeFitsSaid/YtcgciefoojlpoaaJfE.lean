/- judge's Fits. No condition. -/
import Derived.Test.YtcgciefoojlpoaaJfD
import Derived.Deep.RegionWith
import Derived.Deep.RegionHeld
namespace Go.Proofs.Ytcgciefoojlpoaa
open Go.ChangeShapes Go.WideShapes Go.ChangeAt Go.RowKit
set_option linter.unusedVariables false
set_option maxRecDepth 100000
namespace Jf
theorem below_setRow {B : Nat} {a w : World} (h : Below B a w) {g : Nat} (hg : B ≤ g) (cs : Array Value) : Below B a (w.setRow g cs) :=
  h.trans ⟨rfl, rfl, rfl, by simp, fun k hk => setRow_other w g k cs (by omega)⟩
theorem rows_open {α : Type} {sz : Nat} {C : α → List Value} {w : World} {a : Option Addr} {cap : Nat} {xs : List α} {k : Nat} (hk : k < xs.length)
    (h4 : (a = none ∧ cap = 0 ∧ xs = []) ∨ ∃ b off sp, a = some ⟨b, off, sp⟩ ∧ (xs = [] ∨ (sp = none ∧ b < w.heap.size ∧ ∀ i x, xs[i]? = some x → ∀ j u, (C x)[j]? = some u → w.cell? ⟨b, off + (i * sz + j), none⟩ = some u))) :
    ∃ b off, a = some ⟨b, off, none⟩ ∧ b < w.heap.size ∧ ∀ i x, xs[i]? = some x → ∀ j u, (C x)[j]? = some u → w.cell? ⟨b, off + (i * sz + j), none⟩ = some u := by
  rcases h4 with ⟨_, _, rfl⟩ | ⟨b, off, sp, rfl, rfl | ⟨rfl, hlt, hc⟩⟩
  · simp at hk
  · simp at hk
  · exact ⟨b, off, rfl, hlt, hc⟩
theorem rgetD {α : Type} {l : List α} {k : Nat} (h : k < l.length) : l[k]? = some l[k] := List.getElem?_eq_getElem h
def GivesF (p : Int × Int) (w : World) (e : Ending) (w' : World) : Prop := ∃ i n, e = .returned (.tuple #[.int .i64 i, .int .i64 n]) ∧ (i, n) = p ∧ Below w.heap.size w w'
set_option maxHeartbeats 16000000 in
theorem fits_any (sent : List Frm) (served : List ByteArray) (told : List Rep) (v0 v1 v2 : Value) (w : World) (h0 : IsFrms w v0 sent) (h1 : IsStrs w v1 served) (h2 : IsReps w v2 told) :
    Calls Try.prog 9 #[v0, v1, v2] w (GivesF (fitK sent told 0 false served) w) := by
  obtain ⟨a0, c0, rfl, hl0, hm0, hr0⟩ := h0.1
  obtain ⟨a2, c2, rfl, hl2, hm2, hr2⟩ := h2.1
  obtain ⟨a1, cc1, rfl, -⟩ := id h1.1
  unfold maxLen at hm0 hm2
  have hst : (w.alloc (.cells #[.bool false, .slice none 0 0] 54)).heap[w.heap.size]? = some (.cells #[.bool false, .slice none 0 0] 54 (0, 0)) := heap_alloc_new _ _
  have hb1 : Below w.heap.size w ((w.alloc (.cells #[.bool false, .slice none 0 0] 54)).setRow w.heap.size #[.bool false, .slice a1 served.length cc1]) := below_setRow ((Below.refl _ _).alloc (Nat.le_refl _) _) (Nat.le_refl _) _
  have G1 := Lib.hid (setRow_heap (w.alloc (.cells #[.bool false, .slice none 0 0] 54)) w.heap.size _ #[.bool false, .slice a1 served.length cc1] _ _ hst)
  have HB1 := Lib.hid hb1
  have HS := Lib.hid h1
  have HR0 := Lib.hid hr0
  have HR2 := Lib.hid hr2
  clear h0 h1 h2 hr0 hr2 hb1
  generalize hW1 : (w.alloc (.cells #[.bool false, .slice none 0 0] 54)).setRow w.heap.size #[.bool false, .slice a1 served.length cc1] = W1 at HB1 G1
  go_enter Try.func9, Try.ntmps9
  go_wp2_with (refine wpList_store_row rfl 54 (.tmp 8) (.tmp 13) rfl w.heap.size #[.bool false, .slice a1 served.length cc1] rfl rfl 54 _ hst (by kernel_rfl) rfl (by simp [Value.oneCell']) ?_; rw [hW1]; clear hW1 hst)
  go_loopw [16] (fun i wr => ∃ (k : Nat) (wi : Bool) (vs : Value) (rest : List ByteArray), k ≤ told.length ∧ i = .int .i64 k ∧ wr.heap[w.heap.size]? = some (.cells #[.bool wi, vs] 54 (0, 0)) ∧ IsStrs w vs rest ∧ Hid (fitK sent told 0 false served = fitK sent told k wi rest) ∧ Below w.heap.size w wr) (fun i _ => told.length - (intOf i).toNat)
  case atStart => exact ⟨0, false, _, served, Nat.zero_le _, rfl, G1.out, HS.out, Lib.hid rfl, HB1.out⟩
  case round =>
    obtain ⟨k, wi, vs, rest, hk, rfl, hg, hsr, HF, hb⟩ := hrel
    have HG := Lib.hid hg
    have HSR := Lib.hid hsr
    have HB := Lib.hid hb
    clear hg hsr hb
    by_cases hlt : k < told.length
    · obtain ⟨b, off, rfl, hbl, hc⟩ := rows_open hlt HR2.out
      have hce := fun j u hu => (HB.out.cell (p := ⟨b, off + (k * 3 + j), none⟩) hbl).trans (hc k _ (rgetD hlt) j u hu)
      have HEND : Hid (sent.length ≤ k → fitK sent told k wi rest = ((k : Int), 6)) := Lib.hid (fun h => fitK_many hlt h)
      have HBAD : Hid (∀ h2 : k < sent.length, stepE wi sent[k] told[k] rest ≠ 0 → fitK sent told k wi rest = ((k : Int), stepE wi sent[k] told[k] rest)) := Lib.hid (fun h2 h3 => fitK_bad hlt h2 h3)
      have HGO : Hid (∀ h2 : k < sent.length, stepE wi sent[k] told[k] rest = 0 → fitK sent told k wi rest = fitK sent told (k + 1) (nxW wi told[k].kind) (stepR told[k] rest)) := Lib.hid (fun h2 h3 => fitK_go hlt h2 h3)
      clear hc
      generalize told[k] = r at *
      obtain ⟨x0, x1, x2⟩ := rep_cells hce
      have hkz : (k : Int) < (told.length : Int) := by omega
      clear hce
      by_cases hk2 : k < sent.length
      · obtain ⟨b0, off0, rfl, hbl0, hc0⟩ := rows_open hk2 HR0.out
        have hcf := fun j u hu => (HB.out.cell (p := ⟨b0, off0 + (k * 2 + j), none⟩) hbl0).trans (hc0 k _ (rgetD hk2) j u hu)
        have HBAD2 := Lib.hid (HBAD.out hk2)
        have HGO2 := Lib.hid (HGO.out hk2)
        clear hc0 HBAD HGO HEND
        generalize sent[k] = f at *
        obtain ⟨y0, y1⟩ := frm_cells hcf
        have hkz0 : (k : Int) < (sent.length : Int) := by omega
        clear hcf
        have hb4 : Below wr.heap.size wr (wr.alloc (.cells (rArr r) 52)).drew := ((Below.refl _ _).alloc (Nat.le_refl _) _).drew
        have HB4 := Lib.hid (HB.out.trans (hb4.mono HB.out.size))
        have hgl4 := (Array.getElem?_eq_some_iff.1 HG.out).1
        have HG4 := Lib.hid ((hb4.block w.heap.size hgl4).trans HG.out)
        have hbl0' : b0 < wr.heap.size := Nat.lt_of_lt_of_le hbl0 HB.out.size
        have hq0 := (hb4.cell (p := ⟨b0, off0 + k * 2, none⟩) hbl0').trans y0
        have hq1 := (hb4.cell (p := ⟨b0, off0 + k * 2 + 1, none⟩) hbl0').trans y1
        have hsz4 : (wr.alloc (.cells (rArr r) 52)).drew.heap.size = wr.heap.size + 1 := by show (wr.alloc _).heap.size = _; simp
        have HC4 : Hid (∀ w', FarG w.heap.size (wr.alloc (.cells (rArr r) 52)).drew w' → w'.cell? ⟨wr.heap.size, 0, none⟩ = some (.int .i64 r.kind) ∧ w'.cell? ⟨wr.heap.size, 1, none⟩ = some (.int .i64 r.node) ∧ w'.cell? ⟨wr.heap.size, 2, none⟩ = some (.string r.text) ∧ w'.cell? ⟨b0, off0 + k * 2, none⟩ = some (.int .u8 f.kind) ∧ w'.cell? ⟨b0, off0 + k * 2 + 1, none⟩ = some (.string f.text)) := Lib.hid (fun w' hb' => by
          obtain ⟨p0, p1, p2⟩ := cells3 ((hb'.2 wr.heap.size (by omega) (by omega)).trans (heap_alloc_new _ _))
          exact ⟨p0, p1, p2, (hb'.1.cell (p := ⟨b0, off0 + k * 2, none⟩) hbl0).trans hq0, (hb'.1.cell (p := ⟨b0, off0 + k * 2 + 1, none⟩) hbl0).trans hq1⟩)
        have HGL4 : Hid (w.heap.size < (wr.alloc (.cells (rArr r) 52)).drew.heap.size) := Lib.hid (by omega)
        clear hb4 hgl4 hbl0' hq0 hq1 hsz4
        go_wp2_with fail
        go_region_held (fun w' => w'.cell? ⟨wr.heap.size, 0, none⟩ = some (.int .i64 r.kind) ∧ w'.cell? ⟨wr.heap.size, 1, none⟩ = some (.int .i64 r.node) ∧ w'.cell? ⟨wr.heap.size, 2, none⟩ = some (.string r.text) ∧ w'.cell? ⟨b0, off0 + k * 2, none⟩ = some (.int .u8 f.kind) ∧ w'.cell? ⟨b0, off0 + k * 2 + 1, none⟩ = some (.string f.text)) (first | exact HC4.out _ HF5.out | exact HC4.out _ (FarG.of_below (Below.refl _ _) HGL4.out)) ((go_at_call 22; refine (step_any w wi f r rest vs w.heap.size _ (by exact HG4.out) HSR.out (by exact HB4.out) (Nat.le_refl _)).mono ?_; rintro e w5 ⟨rfl, hb5, hg5⟩; have HF5 := Lib.hid hb5; have HG5 := Lib.hid hg5; clear hb5 hg5))
        have HB5 := Lib.hid (HB4.out.trans HF5.out.1)
        by_cases hE : stepE wi f r rest = 0
        · obtain ⟨vs', hg', hs'⟩ := HG5.out hE
          have HFN : Hid (fitK sent told 0 false served = fitK sent told (k + 1) (nxW wi r.kind) (stepR r rest)) := Lib.hid (HF.out.trans (HGO2.out hE))
          have HGN := Lib.hid hg'
          have HSN := Lib.hid hs'
          rw [hE]
          clear hg' hs' hE
          go_wp2
          go_roundw
          case rel => exact ⟨k + 1, nxW wi r.kind, vs', stepR r rest, by omega, by go_num, HGN.out, HSN.out, Lib.hid HFN.out, HB5.out⟩
          case measure => simp [intOf]; omega
        · have HFN : Hid (((k : Int), stepE wi f r rest) = fitK sent told 0 false served) := Lib.hid (HF.out.trans (HBAD2.out hE)).symm
          have hne : (stepE wi f r rest != 0) = true := by simpa using hE
          clear hE
          go_wp2
          go_ret2
          exact ⟨_, _, rfl, HFN.out, HB5.out⟩
      · have HFN : Hid (((k : Int), (6 : Int)) = fitK sent told 0 false served) := Lib.hid (HF.out.trans (HEND.out (by omega))).symm
        have hge : (sent.length : Int) ≤ (k : Int) := by omega
        go_wp2
        go_ret2
        exact ⟨_, _, rfl, HFN.out, HB.out.alloc HB.out.size _⟩
    · obtain rfl : k = told.length := by omega
      have HE : Hid (((-1 : Int), (0 : Int)) = fitK sent told 0 false served) := Lib.hid (by rw [HF.out, fitK_end])
      go_wp2
      go_ret2
      exact ⟨_, _, rfl, HE.out, HB.out⟩
end Jf
end Go.Proofs.Ytcgciefoojlpoaa
