/- What cmd.Decode hands back. No condition. -/
import Derived.Test.YtlpoljknohiihaaCmdF
namespace Go.Proofs.Ytlpoljknohiihaa
open Go.ChangeShapes Go.WideShapes Go.ChangeAt Go.RowKit
set_option linter.unusedVariables false
theorem results_cell3 {P : Program} {fn : Func} {p a b : Tmp} {ty : TypeId} (h : fn.results = #[.cell p ty, .tmp a, .tmp b]) (tmps : Array Value) (w : World) (g : Nat) (t : TypeId) (cs : Array Value) (fr : Nat × Nat) (d : TypeDesc)
    (hp : tmps.getD p undef = .pointer (some ⟨g, 0, none⟩)) (hg : w.heap[g]? = some (.cells cs t fr))
    (hu : P.underlying ty = some d) (hd : (match d with | .struct _ | .array _ _ => true | _ => false) = true) (hi : (P.info? ty).map (·.size) = some cs.size) {x y : Value} (hx : tmps.getD a undef = x) (hy : tmps.getD b undef = y) :
    (results fn tmps).run P w = .ok (.tuple #[.agg cs, x, y]) w := by
  subst hx hy
  have hp' : tmps[p]?.getD undef = .pointer (some ⟨g, 0, none⟩) := by simpa using hp
  simp [results, h, hp', asAddr, run_loadVar_row w g t ty cs fr d hg hu hd hi]
namespace Cm
theorem set_row {w : World} {g : Nat} {t : TypeId} {cs ds : Array Value} (h : w.heap[g]? = some (.cells cs t (0, 0))) : (w.setRow g ds).heap[g]? = some (.cells ds t (0, 0)) := setRow_heap _ _ _ _ _ _ h
theorem below_row {B : Nat} {a w : World} (h : Below B a w) {g : Nat} (hg : B ≤ g) (cs : Array Value) : Below B a (w.setRow g cs) :=
  h.trans ⟨rfl, rfl, rfl, by simp, fun k hk => setRow_other w g k cs (by omega)⟩

set_option maxHeartbeats 1000000 in
theorem readl_any (g h : Nat) (v : Value) (c : Cmd) (zs : List Int) (u : Nat) (w : World) (hg : w.heap[g]? = some (.cells #[v, .int .i64 u] 55 (0, 0))) (hh : w.heap[h]? = some (.cells (cArr c (.slice none 0 0)) 25 (0, 0)))
    (hgh : g ≠ h) (hS : ∀ w', Past w.heap.size (fun k => k = g ∨ k = h) w w' → Sl .u8 w' v zs) (hu : u ≤ zs.length) :
    Calls Try.prog 32 #[.pointer (some ⟨g, 0, none⟩), .pointer (some ⟨h, 0, none⟩), .int .i64 6] w (ReadL w.heap.size g h v c zs u w) := by
  have HR := Lib.hid (readList_any g h v c zs u w hg hh hgh hS hu)
  clear hg hh hgh hS hu
  go_enter Try.func32, Try.ntmps32
  go_wp2_with (go_at_call 38; refine HR.out.mono ?_; rintro e w2 ⟨rfl, h2, h3, h4⟩)
  go_ret
  exact ⟨rfl, h2, h3, h4⟩

def zeroC : Cmd := ⟨0, 0, 0, [], 0, 0, 0, 0⟩
def kindC (k : Int) : Cmd := ⟨k, 0, 0, [], 0, 0, 0, 0⟩
/-- one field read: the command, the error, how many bytes are read then -/
def rd1 (zs : List Int) (c : Cmd) (f : Nat) (u : Nat) : Cmd × Int × Nat :=
  if f = 6 then ({ c with nodes := (li zs u).1 }, (li zs u).2.1, (li zs u).2.2) else (putC c f (nx zs u (mostF f)).1, (nx zs u (mostF f)).2.1, (nx zs u (mostF f)).2.2)
/-- the fields read one behind the other -/
def rdF (zs : List Int) : List Int → Cmd → Nat → Cmd × Int × Nat
  | [], c, u => (c, 0, u)
  | f :: fs, c, u => if ((rd1 zs c f.toNat u).2.1 == 0) = true then rdF zs fs (rd1 zs c f.toNat u).1 (rd1 zs c f.toNat u).2.2 else rd1 zs c f.toNat u
/-- all fields of a kind -/
def rdC (zs : List Int) (k : Int) (u : Nat) : Cmd × Int × Nat := rdF zs (fieldsL k) (kindC k) u
/-- what Decode comes to: the command, how many bytes it takes, the error -/
def decL (zs : List Int) : Cmd × Nat × Int :=
  if ((nx zs 0 18446744073709551615).2.1 == 0) = true then
    if kindB (nx zs 0 18446744073709551615).1 = true then
      if ((rdC zs (nx zs 0 18446744073709551615).1 (nx zs 0 18446744073709551615).2.2).2.1 == 0) = true then
        if chkC (rdC zs (nx zs 0 18446744073709551615).1 (nx zs 0 18446744073709551615).2.2).1 = true then ((rdC zs (nx zs 0 18446744073709551615).1 (nx zs 0 18446744073709551615).2.2).1, (rdC zs (nx zs 0 18446744073709551615).1 (nx zs 0 18446744073709551615).2.2).2.2, 0) else (zeroC, 0, 40)
      else (zeroC, 0, (rdC zs (nx zs 0 18446744073709551615).1 (nx zs 0 18446744073709551615).2.2).2.1)
    else (zeroC, 0, 11)
  else (zeroC, 0, (nx zs 0 18446744073709551615).2.1)
def Dec (zs : List Int) (w : World) (e : Ending) (w' : World) : Prop :=
  ∃ v, e = .returned (.tuple #[v, .int .i64 (decL zs).2.1, .int .i64 (decL zs).2.2]) ∧ IsCmd w' v (decL zs).1 ∧ Below w.heap.size w w'

theorem dec_err {zs : List Int} (h : ((nx zs 0 18446744073709551615).2.1 == 0) = false) : decL zs = (zeroC, 0, (nx zs 0 18446744073709551615).2.1) := by
  unfold decL; rw [h, if_neg (by decide)]
theorem dec_form {zs : List Int} (h : ((nx zs 0 18446744073709551615).2.1 == 0) = true) (h2 : kindB (nx zs 0 18446744073709551615).1 = false) : decL zs = (zeroC, 0, 11) := by
  unfold decL; rw [h, if_pos rfl, h2, if_neg (by decide)]
theorem zeroC_wf : zeroC.wf := ⟨by decide, by decide, by decide, by decide, by decide, by decide, by decide⟩
theorem zeroC_is (w : World) : IsCmd w (.agg (cArr zeroC (.slice none 0 0))) zeroC := ⟨_, rfl, ⟨none, 0, rfl, Nat.le_refl _, Nat.zero_le _, by simp [zeroC], .inl ⟨rfl, rfl, rfl⟩⟩, zeroC_wf⟩

theorem dec_zero {zs : List Int} {w w' : World} {er : Int} (h : decL zs = (zeroC, 0, er)) (hb : Below w.heap.size w w') : Dec zs w (.returned (.tuple #[.agg (cArr zeroC (.slice none 0 0)), .int .i64 0, .int .i64 er])) w' :=
  ⟨_, by rw [h]; rfl, by rw [h]; exact zeroC_is _, hb⟩
theorem dec_some {zs : List Int} {w w' : World} {c : Cmd} {k : Nat} {vn : Value} (h : decL zs = (c, k, 0)) (hc : Sl .i64 w' vn c.nodes) (hw : c.wf) (hb : Below w.heap.size w w') : Dec zs w (.returned (.tuple #[.agg (cArr c vn), .int .i64 k, .int .i64 0])) w' :=
  ⟨_, by rw [h], by rw [h]; exact ⟨_, rfl, hc, hw⟩, hb⟩
/-- the worlds in which Decode begins -/
structure Begun (w : World) (v : Value) (w0 : World) : Prop where
  reader : w0.heap[w.heap.size + 1]? = some (.cells #[v, .int .i64 ((0 : Nat) : Int)] 55 (0, 0))
  result : w0.heap[w.heap.size]? = some (.cells (cArr zeroC (.slice none 0 0)) 25 (0, 0))
  below : Below w.heap.size w w0
  size : w0.heap.size = w.heap.size + 2
theorem begun (w : World) (v : Value) : Begun w v ((w.alloc (.cells (cArr zeroC (.slice none 0 0)) 25)).alloc (.cells #[v, .int .i64 0] 55)) :=
  ⟨heap_alloc2_new _ _ _, heap_alloc2_old _ _ _, ((Below.refl _ _).alloc (Nat.le_refl _) _).alloc (by simp) _, by simp⟩

set_option maxHeartbeats 1000000 in
theorem decode_form (v : Value) (zs : List Int) (w : World) (hs : Sl .u8 w v zs) (he : ((nx zs 0 18446744073709551615).2.1 == 0) = true) (hk : kindB (nx zs 0 18446744073709551615).1 = false) :
    Calls Try.prog 16 #[v] w (Dec zs w) := by
  obtain ⟨a, cap, rfl, -⟩ := id hs
  have HG := Lib.hid (begun w (.slice a zs.length cap))
  have hs0 := hs.below HG.out.below (Nat.le_refl _)
  have HD := Lib.hid (dec_form he hk)
  have HE := Lib.hid he
  have HK := Lib.hid hk
  have hbd := nx_bd (u := 0) (zs := zs) (m := 18446744073709551615) (Nat.zero_le _) (by omega)
  obtain ⟨b1, b2, b3⟩ := hbd
  clear hs he hk
  go_enter Try.func16, Try.ntmps16
  go_wp2_with fail
  refine (next_any (w.heap.size + 1) _ zs 0 18446744073709551615 _ HG.out.reader hs0 (Nat.zero_le _)).mono ?_
  rintro e w1 ⟨rfl, hg1, ho1, hz1⟩
  have hne : ((nx zs 0 18446744073709551615).2.1 != 0) = false := by rw [bne, HE.out]; rfl
  have hr1 := (ho1.2.2.2.2 w.heap.size (by simp; omega) (by simp)).trans HG.out.result
  have hB1 : Below w.heap.size w w1 := ho1.below HG.out.below HG.out.below.size fun k hk => by omega
  generalize nx zs 0 18446744073709551615 = x at *
  obtain ⟨n, er, u⟩ := x
  go_wp2_with (first
    | (go_at_call 18; refine (isKind_any n _ b2 b3).mono ?_; rintro e w2 ⟨rfl, rfl⟩; rw [HK.out])
    | (refine wpList_store_row rfl 25 (.tmp 2) (.tmp 26) rfl w.heap.size (cArr zeroC (.slice none 0 0)) rfl rfl 25 _ hr1 (by kernel_rfl) rfl (cArr_one _ _ _ _) ?_))
  refine bodyPost_ret (v := .tuple #[.agg (cArr zeroC (.slice none 0 0)), .int .i64 0, .int .i64 11]) (results_cell3 rfl _ _ w.heap.size 25 _ (0, 0) _ rfl (set_row hr1) Try.underlying25 rfl (by kernel_rfl) rfl rfl) rfl ?_
  exact dec_zero HD.out (below_row hB1 (Nat.le_refl _) _)

set_option maxHeartbeats 1000000 in
theorem decode_err (v : Value) (zs : List Int) (w : World) (hs : Sl .u8 w v zs) (he : ((nx zs 0 18446744073709551615).2.1 == 0) = false) :
    Calls Try.prog 16 #[v] w (Dec zs w) := by
  obtain ⟨a, cap, rfl, -⟩ := id hs
  have hh0 : ((w.alloc (.cells (cArr zeroC (.slice none 0 0)) 25)).alloc (.cells #[.slice a zs.length cap, .int .i64 0] 55)).heap[w.heap.size + 1]? = some (.cells #[.slice a zs.length cap, .int .i64 ((0 : Nat) : Int)] 55 (0, 0)) := heap_alloc2_new _ _ _
  have hr0 : ((w.alloc (.cells (cArr zeroC (.slice none 0 0)) 25)).alloc (.cells #[.slice a zs.length cap, .int .i64 0] 55)).heap[w.heap.size]? = some (.cells (cArr zeroC (.slice none 0 0)) 25 (0, 0)) := heap_alloc2_old _ _ _
  have hB0 : Below w.heap.size w ((w.alloc (.cells (cArr zeroC (.slice none 0 0)) 25)).alloc (.cells #[.slice a zs.length cap, .int .i64 0] 55)) := ((Below.refl _ _).alloc (Nat.le_refl _) _).alloc (by simp) _
  have hs0 := hs.below hB0 (Nat.le_refl _)
  have HH0 := Lib.hid hh0
  have HR0 := Lib.hid hr0
  have HB0 := Lib.hid hB0
  have HD := Lib.hid (dec_err he)
  have HE := Lib.hid he
  clear hh0 hr0 hB0 hs he
  go_enter Try.func16, Try.ntmps16
  go_wp2_with fail
  refine (next_any (w.heap.size + 1) _ zs 0 18446744073709551615 _ HH0.out hs0 (Nat.zero_le _)).mono ?_
  rintro e w1 ⟨rfl, hg1, ho1, hz1⟩
  have hne : ((nx zs 0 18446744073709551615).2.1 != 0) = true := by rw [bne, HE.out]; rfl
  have hr1 := (ho1.2.2.2.2 w.heap.size (by simp; omega) (by simp)).trans HR0.out
  generalize hx : nx zs 0 18446744073709551615 = x at *
  clear hx
  obtain ⟨n, er, u⟩ := x
  go_wp2_with (refine wpList_store_row rfl 25 (.tmp 2) (.tmp 21) rfl w.heap.size (cArr zeroC (.slice none 0 0)) rfl rfl 25 _ hr1 (by kernel_rfl) rfl (cArr_one _ _ _ _) ?_)
  have hB1 : Below w.heap.size w w1 := ho1.below HB0.out HB0.out.size fun k hk => by omega
  refine bodyPost_ret (v := .tuple #[.agg (cArr zeroC (.slice none 0 0)), .int .i64 0, .int .i64 er]) (results_cell3 rfl _ _ w.heap.size 25 _ (0, 0) _ rfl (set_row hr1) Try.underlying25 rfl (by kernel_rfl) rfl rfl) rfl ?_
  exact dec_zero HD.out (below_row hB1 (Nat.le_refl _) _)
end Cm
end Go.Proofs.Ytlpoljknohiihaa
