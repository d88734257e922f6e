/- Package msg: Decode of a frame with something behind it. Condition: the table octet.steps reads as the program's text lays it. -/
import Derived.Test.YtbdjihmgdkailaaDoorMxD
import Derived.Test.YtbdjihmgdkailaaDoorFrG
namespace Go.Proofs.YtbdjihmgdkailaaDoor
open Go.ChangeShapes Go.WideShapes Go.ChangeAt Go.RowKit Go.Deep
set_option linter.unusedVariables false
set_option maxRecDepth 100000
namespace Ms
open Nv Cm Sc
abbrev zMV : Value := .agg zMA
/-- an error: no message -/
def NoM (er : Int) (w : World) (e : Ending) (w' : World) : Prop := e = .returned (.tuple #[zMV, .int .i64 er]) ∧ Below w.heap.size w w'
set_option maxHeartbeats 4000000 in
theorem dec_behind (v : Value) (zs xs : List Int) (k : Nat) (w : World) (hs : Sl .u8 w v zs) (ht : Oc.Tab w) (ho : Fr.Opens zs xs k 0) (hk : k < zs.length) :
    Calls Tryd.prog 11 #[v] w (NoM 11 w) := by
  obtain ⟨a, cap, rfl, -⟩ := id hs
  have hb0 : Below w.heap.size w (w.alloc (.cells zMA 32)) := (Below.refl _ _).alloc (Nat.le_refl _) _
  have HR0 : Hid ((w.alloc (.cells zMA 32)).heap[w.heap.size]? = some (.cells zMA 32 (0, 0))) := Lib.hid (heap_alloc_new _ _)
  have HS0 := Lib.hid (hs.below hb0 (Nat.le_refl _))
  have HT0 := Lib.hid (ht.below hb0 (Nat.le_refl _))
  have HB0 := Lib.hid hb0
  have HOP := Lib.hid ho
  have hlen := hs.len
  unfold maxLen at hlen
  clear hs ht hb0 ho
  go_enter Tryd.func11, Tryd.ntmps11
  go_wp2_with fail
  refine (Fr.open_any _ _ _ HS0.out HT0.out).mono ?_
  rintro e w1 ⟨v1, ys, j, er, rfl, hop, -, -, hb1⟩
  obtain ⟨rfl, rfl, rfl⟩ := HOP.out.eq hop
  have hr1 := (hb1.block _ (row_lt HR0.out)).trans HR0.out
  have HB1 := Lib.hid (HB0.out.trans (hb1.mono HB0.out.size))
  have hki : (k : Int) < (zs.length : Int) := by omega
  clear hop hb1
  go_wp2_with (refine wpList_store_row rfl 32 (.tmp 2) (.tmp 22) rfl w.heap.size zMA rfl rfl 32 _ hr1 (by kernel_rfl) rfl (by kernel_rfl) ?_)
  refine bodyPost_ret (v := .tuple #[zMV, .int .i64 11]) (results_c2 rfl _ _ w.heap.size 32 _ (0, 0) _ rfl (setRow_heap _ _ _ _ _ _ hr1) Tryd.underlying32 rfl (by kernel_rfl) rfl) rfl ?_
  exact ⟨rfl, Ld.below_row HB1.out (Nat.le_refl _) _⟩
end Ms
end Go.Proofs.YtbdjihmgdkailaaDoor
