/- Package lease's keeper: what it does on lists; what it is in memory. No condition. -/
import Derived.Test.YtgbblegcjladaaaLdB
import Derived.Test.YtgbblegcjladaaaMch
import Derived.Test.YtgbblegcjladaaaMp
import Derived.DeepKeys4
import Derived.WideKeyEntry
namespace Go.Proofs.Ytgbblegcjladaaa
open Go.ChangeShapes Go.WideShapes Go.ChangeAt Go.RowKit Go.Deep Go.Maps Go.ChangeMaps Go.MapKept
set_option linter.unusedVariables false
set_option maxRecDepth 100000
set_option linter.unusedSimpArgs false
namespace Ls
open Mc
/-- what makes a row the same one as before -/
structure KR where
  token : Int
  serial : Int
  stamp : Int
deriving DecidableEq
abbrev kA (x : KR) : Array Value := #[.int .i64 x.token, .int .u64 x.serial, .int .u64 x.stamp]
abbrev krC (x : KR) : List Value := [.int .i64 x.token, .int .u64 x.serial, .int .u64 x.stamp]
theorem krC_len (x : KR) : (krC x).length = 3 := rfl
theorem krC_one (x : KR) : ∀ u ∈ krC x, u.oneCell' = true := by intro u hu; simp at hu; rcases hu with rfl | rfl | rfl <;> rfl
def KR.wf (x : KR) : Prop := (Lit.int .i64 x.token).wf = true ∧ (Lit.int .u64 x.serial).wf = true ∧ (Lit.int .u64 x.stamp).wf = true
def keyR (h : Held) : KR := ⟨h.token, h.serial, h.stamp⟩
theorem keyR_wf {h : Held} (w : h.wf) : (keyR h).wf := ⟨w.1, w.2.2.2.1, w.2.2.2.2⟩
abbrev TK : TypeId := 98
abbrev TR : TypeId := 106
abbrev MT : TypeId := 96
theorem info_kr : (Try.prog.info? TR).map (fun i => (i.zero, i.size, i.bytes)) = some (some (.agg #[.int .i64 0, .int .u64 0, .int .u64 0]), 3, 24) := by kernel_rfl
/-! ### the keys of its map -/
theorem laidK : laidOutB Try.prog = true := by kernel_rfl
theorem wideK : (match Try.prog.underlying TR with | some (.array _ _) | some (.struct _) => true | _ => false) = true := by rw [Try.underlying106]
theorem atK : Try.prog.keyTypeAt 2 TR = true := by kernel_rfl
theorem rowLaw : Keyed Try.prog TR := Keyed.of_law (deep_law_laid laidK (m := 2) (by omega) (of_decide_eq_true (by kernel_rfl)) atK wideK)
def litR (x : KR) : Lit := .string (keyBytes [.int .i64 x.token, .int .u64 x.serial, .int .u64 x.stamp])
theorem key_rd {x : KR} (h : x.wf) : keyOf Try.prog TR (.agg (kA x)) = some (litR x) := by
  have h1 : Try.prog.keyType TR = true := by kernel_rfl
  have k8 : Try.prog.cellsOf TR = 3 := by kernel_rfl
  have k1 : Try.prog.cellsOf 3 = 1 := by kernel_rfl
  have k2 : Try.prog.cellsOf 31 = 1 := by kernel_rfl
  have h2 : (Value.agg (kA x)).formed Try.prog TR = true := by simp [Value.formed, Try.underlying106, k8]
  obtain ⟨m, hm⟩ : ∃ m, Try.prog.types.size + 1 = m + 1 + 1 := ⟨Try.prog.types.size - 1, by have : 1 ≤ Try.prog.types.size := of_decide_eq_true (by kernel_rfl); omega⟩
  obtain ⟨w1, w2, w3⟩ := h
  unfold keyOf
  rw [Try.underlying106]
  simp only [h1, h2, Bool.and_self, if_true, hm]
  simp [Program.keyLits, Try.underlying106, Try.underlying3, Try.underlying31, k8, k1, k2, w1, w2, w3, litR, Value.cells]
theorem int_part {m : Nat} {t : TypeId} {q : IntKind} {c : Value} {ls : List Lit} (ht : Try.prog.underlying t = some (.int q)) (h : Try.prog.keyLits (m + 1) t [c] = some ls) : ∃ z, c = .int q z ∧ (Lit.int q z).wf = true ∧ ls = [.int q z] := by
  unfold Program.keyLits at h
  rw [ht] at h
  cases c <;> simp at h
  obtain ⟨⟨rfl, h1⟩, rfl⟩ := h
  exact ⟨_, rfl, h1, rfl⟩
theorem key_inv {v : Value} {l : Lit} (h : keyOf Try.prog TR v = some l) : ∃ x : KR, x.wf ∧ v = .agg (kA x) ∧ l = litR x := by
  have k8 : Try.prog.cellsOf TR = 3 := by kernel_rfl
  have k1 : Try.prog.cellsOf 3 = 1 := by kernel_rfl
  have k2 : Try.prog.cellsOf 31 = 1 := by kernel_rfl
  obtain ⟨m, hm⟩ : ∃ m, Try.prog.types.size + 1 = m + 1 + 1 := ⟨Try.prog.types.size - 1, by have : 1 ≤ Try.prog.types.size := of_decide_eq_true (by kernel_rfl); omega⟩
  unfold keyOf at h
  rw [Try.underlying106] at h
  simp only [hm] at h
  split at h
  · rename_i hf
    simp only [Bool.and_eq_true] at hf
    obtain ⟨cs, rfl⟩ : ∃ cs, v = .agg cs := by
      have := hf.2
      unfold Value.formed at this
      rw [Try.underlying106] at this
      cases v <;> simp at this
      exact ⟨_, rfl⟩
    have hl : cs.toList.length = 3 := by
      have := hf.2
      unfold Value.formed at this
      rw [Try.underlying106] at this
      simp [k8] at this
      simpa using this
    obtain ⟨q⟩ := cs
    match q, hl with
    | [a, b, c], _ =>
      simp only [Option.map_eq_some_iff] at h
      obtain ⟨ls, h, rfl⟩ := h
      unfold Program.keyLits at h
      rw [Try.underlying106] at h
      simp [k8, k1, k2, Value.cells, Option.map_eq_some_iff, Option.bind_eq_some_iff] at h
      obtain ⟨l1, h1, l2, ⟨l3, h2, l4, ⟨l5, h3, rfl⟩, rfl⟩, rfl⟩ := h
      obtain ⟨z1, rfl, w1, rfl⟩ := int_part Try.underlying3 h1
      obtain ⟨z2, rfl, w2, rfl⟩ := int_part Try.underlying31 h2
      obtain ⟨z3, rfl, w3, rfl⟩ := int_part Try.underlying31 h3
      exact ⟨⟨z1, z2, z3⟩, ⟨w1, w2, w3⟩, rfl, rfl⟩
  · cases h
theorem key_inj {x y : KR} (hx : x.wf) (hy : y.wf) (h : litR x = litR y) : x = y := by
  have e := rowLaw.inj (key_rd hx) (h ▸ key_rd hy)
  simp only [Value.agg.injEq, Array.mk.injEq, List.cons.injEq, Value.int.injEq, true_and, and_true] at e
  obtain ⟨e1, e2, e3⟩ := e
  cases x; cases y
  simp only at e1 e2 e3
  rw [e1, e2, e3]
theorem KK : Mp.KeyT Try.prog TR (fun x : KR => Value.agg (kA x)) litR KR.wf := ⟨rowLaw, key_rd, key_inv, key_inj⟩
/-! ### on lists -/
/-- a row that is known, and since when -/
structure Row where
  h : Held
  since : Int
def top : Int := 4611686018427387904
def timeV (t : Int) : Int := min (max t 0) top
theorem time_lo (t : Int) : 0 ≤ timeV t ∧ timeV t ≤ top := by unfold timeV top; omega
def keyX (x : Row) : KR := keyR x.h
def findX (L : List Row) (k : KR) : Option Row := L.find? fun x => keyX x == k
def sinceOf (L : List Row) (k : KR) (d : Int) : Int := ((findX L k).map Row.since).getD d
def seesV (now : Int) (L : List Row) (H : List Held) : List Row := H.map fun h => ⟨h, sinceOf L (keyR h) (timeV now)⟩
def isDue (n now : Int) (x : Row) : Bool := decide (n ≤ timeV now - x.since)
def recl (h : Held) : Cmd := ⟨6, 0, h.token, [], 0, 0, h.serial, h.stamp⟩
def dueV (n now : Int) (L : List Row) : List Cmd := (L.filter (isDue n now)).map fun x => recl x.h
def anew (n now : Int) (x : Row) : Row := if isDue n now x then ⟨x.h, timeV now⟩ else x
def doneV (n now : Int) (L : List Row) : List Row := L.map (anew n now)
/-- what always holds -/
structure OkL (L : List Row) : Prop where
  wf : ∀ x ∈ L, x.h.wf
  t : ∀ x ∈ L, 0 ≤ x.since ∧ x.since ≤ top
  nd : (L.map keyX).Nodup
theorem OkL.nil : OkL [] := ⟨by simp, by simp, by simp⟩
theorem find_mem {L : List Row} {k : KR} {x : Row} (h : findX L k = some x) : x ∈ L ∧ keyX x = k := by
  unfold findX at h
  exact ⟨List.mem_of_find?_eq_some h, by simpa using List.find?_some h⟩
theorem since_ok {L : List Row} (h : OkL L) (k : KR) (now : Int) : 0 ≤ sinceOf L k (timeV now) ∧ sinceOf L k (timeV now) ≤ top := by
  unfold sinceOf
  cases hf : findX L k with
  | none => exact time_lo now
  | some x => exact h.t x (find_mem hf).1
theorem OkL.sees {L : List Row} (h : OkL L) (now : Int) {H : List Held} (hw : ∀ x ∈ H, x.wf) (hn : (H.map keyR).Nodup) : OkL (seesV now L H) := by
  refine ⟨fun x hx => ?_, fun x hx => ?_, ?_⟩
  · obtain ⟨y, hy, rfl⟩ := List.mem_map.1 hx
    exact hw y hy
  · obtain ⟨y, hy, rfl⟩ := List.mem_map.1 hx
    exact since_ok h _ _
  · have : (seesV now L H).map keyX = H.map keyR := by unfold seesV; rw [List.map_map]; rfl
    rw [this]; exact hn
theorem anew_key (n now : Int) (x : Row) : keyX (anew n now x) = keyX x := by unfold anew; split <;> rfl
theorem anew_h (n now : Int) (x : Row) : (anew n now x).h = x.h := by unfold anew; split <;> rfl
theorem OkL.done {L : List Row} (h : OkL L) (n now : Int) : OkL (doneV n now L) := by
  refine ⟨fun x hx => ?_, fun x hx => ?_, ?_⟩
  · obtain ⟨y, hy, rfl⟩ := List.mem_map.1 hx
    rw [anew_h]; exact h.wf y hy
  · obtain ⟨y, hy, rfl⟩ := List.mem_map.1 hx
    unfold anew
    split
    · exact time_lo now
    · exact h.t y hy
  · have : (doneV n now L).map keyX = L.map keyX := by unfold doneV; rw [List.map_map]; exact List.map_congr_left fun x _ => anew_key n now x
    rw [this]; exact h.nd
theorem find_at {L : List Row} (h : (L.map keyX).Nodup) {x : Row} (hx : x ∈ L) : findX L (keyX x) = some x := by
  induction L with
  | nil => cases hx
  | cons y L ih =>
    rw [List.map_cons, List.nodup_cons] at h
    unfold findX
    rw [List.find?_cons]
    rcases List.mem_cons.1 hx with rfl | hx
    · simp
    · have hne : ¬ keyX y = keyX x := fun e => h.1 (e ▸ List.mem_map_of_mem hx)
      have hb : (keyX y == keyX x) = false := by simpa using hne
      rw [hb]
      exact ih h.2 hx
theorem find_none {L : List Row} {k : KR} (h : k ∉ L.map keyX) : findX L k = none := by
  unfold findX
  rw [List.find?_eq_none]
  intro x hx he
  exact h (List.mem_map.2 ⟨x, hx, by simpa using he⟩)
theorem find_snoc (L : List Row) (x : Row) (k : KR) : findX (L ++ [x]) k = (findX L k).or (if keyX x = k then some x else none) := by
  unfold findX
  rw [List.find?_append]
  congr 1
  by_cases h : keyX x = k <;> simp [h]
theorem find_done (n now : Int) (L : List Row) (k : KR) : findX (doneV n now L) k = (findX L k).map (anew n now) := by
  unfold findX doneV
  rw [List.find?_map]
  congr 1
  congr 1
  funext x
  show (keyX (anew n now x) == k) = _
  rw [anew_key]
/-- the map says since when -/
def FitsM (f : KR → Option Value) (L : List Row) : Prop := ∀ k, k.wf → f k = (findX L k).map fun x => .int .i64 x.since
theorem FitsM.nil : FitsM (fun _ => none) [] := fun _ _ => rfl
theorem FitsM.snoc {f : KR → Option Value} {L : List Row} {x : Row} (h : FitsM f L) (hx : keyX x ∉ L.map keyX) : FitsM (Mp.upd f (keyX x) (some (.int .i64 x.since))) (L ++ [x]) := by
  intro k hk
  rw [find_snoc]
  by_cases e : k = keyX x
  · subst e
    rw [Mp.upd_same, find_none hx]; simp
  · rw [Mp.upd_ne _ _ e, h k hk, if_neg (fun q => e q.symm)]; simp
theorem FitsM.at {f : KR → Option Value} {L : List Row} (h : FitsM f L) (ho : OkL L) {x : Row} (hx : x ∈ L) : f (keyX x) = some (.int .i64 x.since) := by
  rw [h (keyX x) (keyR_wf (ho.wf x hx)), find_at ho.nd hx]; rfl
/-- behind the first j of those that are due -/
def DoneM (f g : KR → Option Value) (D : List Row) (now : Int) : Prop := ∀ k, k.wf → g k = if k ∈ D.map keyX then some (.int .i64 (timeV now)) else f k
theorem DoneM.nil {f : KR → Option Value} {now : Int} : DoneM f f [] now := fun _ _ => rfl
theorem DoneM.snoc {f g : KR → Option Value} {D : List Row} {now : Int} {x : Row} (h : DoneM f g D now) : DoneM f (Mp.upd g (keyX x) (some (.int .i64 (timeV now)))) (D ++ [x]) now := by
  intro k hk
  by_cases e : k = keyX x
  · subst e
    rw [Mp.upd_same, if_pos (by simp)]
  · rw [Mp.upd_ne _ _ e, h k hk]
    congr 1
    simp [e]
theorem DoneM.fits {f g : KR → Option Value} {L : List Row} {n now : Int} (h : DoneM f g (L.filter (isDue n now)) now) (hf : FitsM f L) (ho : OkL L) : FitsM g (doneV n now L) := by
  intro k hk
  rw [h k hk, find_done, hf k hk]
  cases he : findX L k with
  | none =>
    rw [if_neg]
    · rfl
    · intro hm
      obtain ⟨x, hx, rfl⟩ := List.mem_map.1 hm
      rw [find_at ho.nd (List.mem_filter.1 hx).1] at he
      cases he
  | some x =>
    obtain ⟨hx, rfl⟩ := find_mem he
    by_cases hd : isDue n now x = true
    · rw [if_pos (List.mem_map.2 ⟨x, List.mem_filter.2 ⟨hx, hd⟩, rfl⟩)]
      simp [anew, hd]
    · rw [if_neg]
      · simp [anew, hd]
      · intro hm
        obtain ⟨y, hy, e⟩ := List.mem_map.1 hm
        obtain ⟨hy1, hy2⟩ := List.mem_filter.1 hy
        have h1 := find_at ho.nd hy1
        rw [e, he] at h1
        cases h1
        exact hd hy2
/-! ### in memory -/
/-- what it knows: nothing, or a map -/
def KnM (w : World) (S : Nat → Prop) (b : Option Nat) (L : List Row) : Prop := (b = none ∧ L = []) ∨ ∃ g f, b = some g ∧ S g ∧ Mp.MapF Try.prog TR litR KR.wf w g L.length f ∧ FitsM f L
/-- a keeper, whatever it holds -/
structure KnV (w : World) (S : Nat → Prop) (p : Nat) (n : Int) (vh : Value) (b : Option Nat) (L : List Row) : Prop where
  row : w.heap[p]? = some (.cells #[.int .i64 n, vh, .map b] TK (0, 0))
  sp : S p
  m : KnM w S b L
  low : ∀ k, S k → k < w.heap.size
/-- a keeper -/
structure KpV (w : World) (S : Nat → Prop) (p : Nat) (n : Int) (vh : Value) (b : Option Nat) (L : List Row) : Prop extends KnV w S p n vh b L where
  h : OwnR 3 krC TR w 0 vh (L.map keyX)
  hs : ∀ q, vh.ownBlock = some q → S q
def KpX (p : Nat) (n : Int) (L : List Row) (w : World) (S : Nat → Prop) : Prop := ∃ vh b, KpV w S p n vh b L
variable {w w' w1 : World} {S : Nat → Prop} {p : Nat} {n : Int} {vh : Value} {b : Option Nat} {L : List Row}
theorem KnM.keep (h : KnM w S b L) (hb : ∀ k, S k → w'.heap[k]? = w.heap[k]?) : KnM w' S b L := by
  rcases h with h | ⟨g, f, h1, h2, h3, h4⟩
  · exact .inl h
  · exact .inr ⟨g, f, h1, h2, h3.block (hb g h2), h4⟩
theorem KnV.keep (h : KnV w S p n vh b L) (hb : ∀ k, S k → w'.heap[k]? = w.heap[k]?) (hz : w.heap.size ≤ w'.heap.size) : KnV w' S p n vh b L :=
  ⟨(hb p h.sp).trans h.row, h.sp, h.m.keep hb, fun k hk => Nat.lt_of_lt_of_le (h.low k hk) hz⟩
theorem KpV.keep (h : KpV w S p n vh b L) (hb : ∀ k, S k → w'.heap[k]? = w.heap[k]?) (hz : w.heap.size ≤ w'.heap.size) : KpV w' S p n vh b L :=
  ⟨h.toKnV.keep hb hz, own_keep h.h (fun q hq _ => hb q (h.hs q hq)), h.hs⟩
theorem goodK (p : Nat) (n : Int) (L : List Row) : Mc.Good (KpX p n L) :=
  ⟨fun ⟨_, _, h⟩ => h.low, fun ⟨_, _, h⟩ hb hz => ⟨_, _, h.keep hb hz⟩⟩
theorem krow {x y z : Value} (h : w.heap[p]? = some (.cells #[x, y, z] TK (0, 0))) : w.cell? ⟨p, 0, none⟩ = some x ∧ w.cell? ⟨p, 1, none⟩ = some y ∧ w.cell? ⟨p, 2, none⟩ = some z ∧ ∀ i, w.frozen? ⟨p, i, none⟩ = false :=
  ⟨(cell_of_row _ _ _ _ _ _ h).trans rfl, (cell_of_row _ _ _ _ _ _ h).trans rfl, (cell_of_row _ _ _ _ _ _ h).trans rfl, fun i => frozen_of_row _ _ _ _ _ h⟩
theorem kset1 {x y z v : Value} (h : w.heap[p]? = some (.cells #[x, y, z] TK (0, 0))) : (w.setCell ⟨p, 1, none⟩ v).heap[p]? = some (.cells #[x, v, z] TK (0, 0)) := (heap_setCell_same w p 1 _ TK v h).trans rfl
theorem kset2 {x y z v : Value} (h : w.heap[p]? = some (.cells #[x, y, z] TK (0, 0))) : (w.setCell ⟨p, 2, none⟩ v).heap[p]? = some (.cells #[x, y, v] TK (0, 0)) := (heap_setCell_same w p 2 _ TK v h).trans rfl
/-- what a method answers and leaves -/
def KpR (r : Value) (p : Nat) (n : Int) (L : List Row) (S : Nat → Prop) (w : World) (e : Ending) (w' : World) : Prop := e = .returned r ∧ Mc.Left (KpX p n L) S w w'
/-- what is known of a row -/
theorem KnM.look (h : KnM w S b L) {k : KR} (hk : k.wf) (c : Bool) : (Instr.lookup MT (.map b) (.agg (kA k)) c).run Try.prog w = .ok (if c then .tuple #[.int .i64 (sinceOf L k 0), .bool (findX L k).isSome] else .int .i64 (sinceOf L k 0)) w := by
  rcases h with ⟨rfl, rfl⟩ | ⟨g, f, rfl, -, h1, h2⟩
  · have hz : (zeroValue 2).run Try.prog w = .ok (.int .i64 0) w := by kernel_rfl
    rw [look_nil c rowLaw Try.underlying96 hz (key_rd hk)]
    cases c <;> rfl
  · have hz : ∀ u, (zeroValue 2).run Try.prog u = .ok (.int .i64 0) u := fun u => by kernel_rfl
    have := h1.look KK Try.underlying96 (hz w) hk c
    rw [this, h2 k hk]
    unfold sinceOf
    cases findX L k <;> cases c <;> rfl
end Ls
end Go.Proofs.Ytgbblegcjladaaa
