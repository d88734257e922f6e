/- A holder's wallet, on lists: the tokens that are trusted, in increasing order; with one more, without one; what is ended and what stays. No condition. maps.Keys at a map of trusts, slices.Sorted and slices.Sort at []int, as landed: the library's own contracts laid (numbers of this seat: printed by lay-plain.mjs). No condition. A wallet's map of trusts, its tokens in order: maps.Keys and slices.Sorted as landed. No condition. Package lease's inOrder, as landed: a wallet's trusts in increasing order. No condition. A wallet in memory, as landed: NewWallet, All. No condition. Package lease's wallet, as landed: Asked, Drop. No condition. Package lease's wallet, as landed: Drop. No condition. Package lease's wallet, as landed: a copy of its map; a token put into it. No condition. Package lease's wallet, as landed: Ask. No condition. The document's wallet in memory: New. No condition. The document's wallet: without. No condition. The document's wallet: Drop. No condition. A holder's wallet, on lists: what a walk over the trusts ends; what is told. No condition. -/
import Derived.Test.YtgbblegcjladaaaLsA
import Derived.Test.YtgbblegcjladaaaRows
import Derived.Shelf.SlLaysZI
import Derived.Shelf.SlLaysM
import Derived.Ground.GgzProg
import Derived.Ground.SlgmProg
import Derived.Shelf.SlGeneric
import Derived.Test.YtgbblegcjladaaaMp
import Derived.Shelf.SlIterI.Nil
import Derived.Shelf.SortM.Plain
import Derived.Shelf.SortM.SortNone
import Derived.Test.YtgbblegcjladaaaLdB
import Derived.Test.YtgbblegcjladaaaLsC
import Derived.Test.YtgbblegcjladaaaMch
import Derived.Test.YtgbblegcjladaaaLedN
import Derived.Shelf.SlMaps.Clone
import Derived.Test.YtgbblegcjladaaaCmB
import Derived.Test.YtgbblegcjladaaaCmdS
import Derived.Deep.MidRow
import Derived.Test.YtgbblegcjladaaaLaA
namespace Go.Proofs.Ytgbblegcjladaaa
open Go.ChangeShapes Go.WideShapes Go.ChangeAt Go.RowKit Go.Deep
set_option linter.unusedVariables false
set_option maxRecDepth 100000
set_option linter.unusedSimpArgs false
namespace Lt
structure Tr where
  tok : Int
  ser : Int
  til : Int
deriving DecidableEq
def Tr.wf (x : Tr) : Prop := (Lit.int .i64 x.tok).wf = true ∧ (Lit.int .u64 x.ser).wf = true ∧ (Lit.int .i64 x.til).wf = true
abbrev trC (x : Tr) : List Value := [.int .i64 x.tok, .int .u64 x.ser, .int .i64 x.til]
abbrev trV (x : Tr) : Value := .agg #[.int .i64 x.tok, .int .u64 x.ser, .int .i64 x.til]
theorem trC_len (x : Tr) : (trC x).length = 3 := rfl
def Srt (L : List Tr) : Prop := L.Pairwise (fun a b => a.tok < b.tok)
def fnd (L : List Tr) (t : Int) : Option Tr := L.find? (fun x => x.tok == t)
def woV (t : Int) (L : List Tr) : List Tr := L.filter (fun x => x.tok != t)
def insT (x : Tr) : List Tr → List Tr
  | [] => [x]
  | y :: l => if x.tok < y.tok then x :: y :: l else y :: insT x l
def wiV (x : Tr) (L : List Tr) : List Tr := insT x (woV x.tok L)
def endV (now : Int) (L : List Tr) : List Tr := L.filter (fun x => decide (x.til ≤ now))
def stayV (now : Int) (L : List Tr) : List Tr := L.filter (fun x => !decide (x.til ≤ now))
variable {L : List Tr} {x y : Tr} {t : Int}
theorem Srt.nil : Srt [] := List.Pairwise.nil
theorem Srt.filter (h : Srt L) (p : Tr → Bool) : Srt (L.filter p) := List.Pairwise.filter p h
theorem Srt.wo (h : Srt L) (t : Int) : Srt (woV t L) := h.filter _
theorem Srt.stay (h : Srt L) (now : Int) : Srt (stayV now L) := h.filter _
theorem mem_ins {l : List Tr} : y ∈ insT x l ↔ y = x ∨ y ∈ l := by
  induction l with
  | nil => simp [insT]
  | cons z l ih =>
    unfold insT
    split
    · simp
    · rw [List.mem_cons, ih, List.mem_cons]
      constructor
      · rintro (h | h | h) <;> simp [h]
      · rintro (h | h | h) <;> simp [h]
theorem ins_srt {l : List Tr} (h : Srt l) (hn : ∀ y ∈ l, y.tok ≠ x.tok) : Srt (insT x l) := by
  induction l with
  | nil => exact List.pairwise_singleton _ _
  | cons z l ih =>
    have h1 := List.pairwise_cons.1 h
    unfold insT
    split
    · rename_i hlt
      refine List.pairwise_cons.2 ⟨fun y hy => ?_, h⟩
      rcases List.mem_cons.1 hy with rfl | hy
      · exact hlt
      · have := h1.1 y hy; omega
    · rename_i hlt
      have hz := hn z (List.mem_cons_self ..)
      refine List.pairwise_cons.2 ⟨fun y hy => ?_, ih h1.2 (fun y hy => hn y (List.mem_cons_of_mem _ hy))⟩
      rcases mem_ins.1 hy with rfl | hy
      · omega
      · exact h1.1 y hy
theorem wo_ne (hy : y ∈ woV t L) : y.tok ≠ t := by
  have := (List.mem_filter.1 hy).2
  simpa using this
theorem Srt.wi (h : Srt L) (x : Tr) : Srt (wiV x L) := ins_srt (h.wo _) (fun y hy => wo_ne hy)
theorem mem_wo : y ∈ woV t L ↔ y ∈ L ∧ y.tok ≠ t := by
  unfold woV
  rw [List.mem_filter]
  simp
theorem mem_wi : y ∈ wiV x L ↔ y = x ∨ (y ∈ L ∧ y.tok ≠ x.tok) := by
  unfold wiV
  rw [mem_ins, mem_wo]
theorem Srt.uniq (h : Srt L) (hx : x ∈ L) (hy : y ∈ L) (e : x.tok = y.tok) : x = y := by
  induction L with
  | nil => cases hx
  | cons z l ih =>
    have h1 := List.pairwise_cons.1 h
    rcases List.mem_cons.1 hx with ex | hx
    · rcases List.mem_cons.1 hy with ey | hy
      · rw [ex, ey]
      · have := h1.1 y hy; rw [← ex] at this; omega
    · rcases List.mem_cons.1 hy with ey | hy
      · have := h1.1 x hx; rw [← ey] at this; omega
      · exact ih h1.2 hx hy
theorem fnd_iff (h : Srt L) : fnd L t = some x ↔ x ∈ L ∧ x.tok = t := by
  unfold fnd
  constructor
  · intro e
    exact ⟨List.mem_of_find?_eq_some e, by simpa using List.find?_some e⟩
  · rintro ⟨hx, rfl⟩
    cases e : L.find? (fun y => y.tok == x.tok) with
    | none => exact absurd (List.find?_eq_none.1 e x hx) (by simp)
    | some z =>
      have h1 := List.mem_of_find?_eq_some e
      have h2 : z.tok = x.tok := by simpa using List.find?_some e
      rw [h.uniq h1 hx h2]
theorem fnd_none (h : fnd L t = none) (hx : x ∈ L) : x.tok ≠ t := by
  have := List.find?_eq_none.1 h x hx
  simpa using this
theorem fnd_wi (h : Srt L) (x : Tr) (t : Int) : fnd (wiV x L) t = if t = x.tok then some x else fnd L t := by
  refine Option.ext fun y => ?_
  rw [fnd_iff (h.wi x), mem_wi]
  split
  · rename_i e
    subst e
    constructor
    · rintro ⟨rfl | ⟨-, h2⟩, h3⟩
      · rfl
      · exact absurd h3 h2
    · intro e
      cases e
      exact ⟨.inl rfl, rfl⟩
  · rename_i hne
    rw [fnd_iff h]
    constructor
    · rintro ⟨rfl | ⟨h1, -⟩, h3⟩
      · exact absurd h3.symm hne
      · exact ⟨h1, h3⟩
    · rintro ⟨h1, rfl⟩
      exact ⟨.inr ⟨h1, hne⟩, rfl⟩
theorem fnd_wo (h : Srt L) (k t : Int) : fnd (woV k L) t = if t = k then none else fnd L t := by
  refine Option.ext fun y => ?_
  rw [fnd_iff (h.wo k), mem_wo]
  split
  · rename_i e
    subst e
    constructor
    · rintro ⟨⟨-, h2⟩, h3⟩
      exact absurd h3 h2
    · intro e
      cases e
  · rename_i hne
    rw [fnd_iff h]
    constructor
    · rintro ⟨⟨h1, -⟩, h3⟩
      exact ⟨h1, h3⟩
    · rintro ⟨h1, rfl⟩
      exact ⟨⟨h1, hne⟩, rfl⟩
theorem fnd_filter (h : Srt L) (p : Tr → Bool) (t : Int) : fnd (L.filter p) t = (fnd L t).filter p := by
  refine Option.ext fun y => ?_
  rw [fnd_iff (h.filter p), List.mem_filter, Option.filter_eq_some_iff, fnd_iff h]
  constructor
  · rintro ⟨⟨h1, h2⟩, h3⟩
    exact ⟨⟨h1, h3⟩, h2⟩
  · rintro ⟨⟨h1, h3⟩, h2⟩
    exact ⟨⟨h1, h2⟩, h3⟩
/-- without a token that is not there: the same -/
theorem wo_same (h : fnd L t = none) : woV t L = L := List.filter_eq_self.2 (fun x hx => by simpa using fnd_none h hx)
theorem wo_len (h : Srt L) (hx : fnd L t = some x) : (woV t L).length < L.length := by
  have h1 := (fnd_iff h).1 hx
  exact List.length_filter_lt_length_iff_exists.2 ⟨x, h1.1, by simp [h1.2]⟩
/-- the tokens, sorted, whatever the order in which a map gave them -/
theorem toks_sort (h : Srt L) {ss : List Int} (hp : ss.Perm (L.map Tr.tok)) : ss.mergeSort (fun a b => decide (a ≤ b)) = L.map Tr.tok := by
  refine List.Perm.eq_of_pairwise (le := fun a b : Int => a ≤ b) (fun a b _ _ h1 h2 => Int.le_antisymm h1 h2) ?_ ?_ ((List.mergeSort_perm ss _).trans hp)
  · have := List.pairwise_mergeSort (le := fun a b : Int => decide (a ≤ b)) (fun a b c h1 h2 => by simp only [decide_eq_true_eq] at *; omega) (fun a b => by simp only [Bool.or_eq_true, decide_eq_true_eq]; omega) ss
    exact this.imp (fun h => by simpa using h)
  · exact List.pairwise_map.2 (h.imp (fun h => by omega))
/-- to end what is to be ended, one by one: what stays -/
theorem stay_of (now : Int) (h : Srt L) (f : Int → Option Tr) (hf : ∀ t, f t = if (fnd (endV now L) t).isSome then none else fnd L t) (t : Int) : f t = fnd (stayV now L) t := by
  rw [hf t]
  refine Option.ext fun y => ?_
  rw [fnd_iff (h.stay now)]
  split
  · rename_i e
    obtain ⟨z, hz⟩ := Option.isSome_iff_exists.1 e
    have h1 := (fnd_iff (h.filter _)).1 hz
    have h2 := List.mem_filter.1 h1.1
    constructor
    · intro e
      cases e
    · rintro ⟨hy, e⟩
      have h3 := List.mem_filter.1 hy
      have := h.uniq h2.1 h3.1 (h1.2.trans e.symm)
      subst this
      simp at h2 h3
      omega
  · rename_i hne
    rw [fnd_iff h]
    constructor
    · rintro ⟨hy, e⟩
      refine ⟨List.mem_filter.2 ⟨hy, ?_⟩, e⟩
      cases hd : decide (y.til ≤ now)
      · rfl
      · exfalso
        apply hne
        have e2 : fnd (endV now L) t = some y := (fnd_iff (h.filter _)).2 ⟨List.mem_filter.2 ⟨hy, hd⟩, e⟩
        rw [e2]
        rfl
    · rintro ⟨hy, e⟩
      exact ⟨(List.mem_filter.1 hy).1, e⟩
end Lt
end Go.Proofs.Ytgbblegcjladaaa
namespace Go.Proofs.Ytgbblegcjladaaa
open Go.Shelf
namespace Lt
def keysL_ren : Go.Shelf.Ren := ⟨fun | 7 => 78 | 10 => 84 | n => n, fun | 23 => 116 | 26 => 3 | 3 => 115 | 28 => 154 | 0 => 0 | 27 => 153 | 33 => 128 | 4 => 4 | n => n, fun | n => n⟩
theorem keysL : Go.Proofs.SlLaysZI.n7 Try.prog keysL_ren := {
  mixed := by kernel_rfl
  f7 := ⟨Try.f78.name, by decide, Try.func78.trans (congrArg some (by kernel_rfl))⟩
  f10 := ⟨Try.f84.name, by decide, Try.func84.trans (congrArg some (by kernel_rfl))⟩
  t0 := Try.underlying0
  a0 := Try.isAgg0
  z0 := Try.sizeOf0
  v0 := Try.zeroValue0
  t4 := Try.underlying4
  a4 := Try.isAgg4
  z4 := Try.sizeOf4
  v4 := Try.zeroValue4
  t23 := Try.underlying116
  a23 := Try.isAgg116
  z23 := Try.sizeOf116
  v23 := Try.zeroValue116
  t26 := Try.underlying3
  a26 := Try.isAgg3
  z26 := Try.sizeOf3
  v26 := Try.zeroValue3
  t27 := Try.underlying153
  a27 := Try.isAgg153
  z27 := Try.sizeOf153
  v27 := Try.zeroValue153
  t28 := Try.underlying154
  a28 := Try.isAgg154
  z28 := Try.sizeOf154
  v28 := Try.zeroValue154
  t33 := Try.underlying128
  a33 := Try.isAgg128
  z33 := Try.sizeOf128
  v33 := Try.zeroValue128 }
def sortedL_ren : Go.Shelf.Ren := ⟨fun | 6 => 77 | 8 => 82 | 9 => 83 | 11 => 86 | 13 => 88 | 12 => 87 | 23 => 98 | 24 => 99 | 14 => 89 | 15 => 90 | 16 => 91 | 17 => 92 | 18 => 93 | 19 => 94 | 20 => 95 | 21 => 96 | 22 => 97 | 25 => 100 | 26 => 101 | 27 => 102 | 28 => 103 | 29 => 104 | 30 => 105 | 31 => 106 | n => n, fun | 26 => 3 | 28 => 154 | 24 => 56 | 0 => 0 | 3 => 3 | 37 => 162 | 48 => 173 | 50 => 31 | 4 => 4 | 40 => 165 | 39 => 164 | 45 => 170 | 5 => 5 | 9 => 9 | 51 => 175 | 55 => 179 | 57 => 181 | 58 => 182 | 33 => 128 | n => n, fun | n => n⟩
theorem sortedL : Go.Proofs.SlLaysZI.n6 Try.prog sortedL_ren := {
  mixed := by kernel_rfl
  f6 := ⟨Try.f77.name, by decide, Try.func77.trans (congrArg some (by kernel_rfl))⟩
  f8 := ⟨Try.f82.name, by decide, Try.func82.trans (congrArg some (by kernel_rfl))⟩
  f11 := ⟨Try.f86.name, by decide, Try.func86.trans (congrArg some (by kernel_rfl))⟩
  t0 := Try.underlying0
  a0 := Try.isAgg0
  z0 := Try.sizeOf0
  v0 := Try.zeroValue0
  t24 := Try.underlying56
  a24 := Try.isAgg56
  z24 := Try.sizeOf56
  v24 := Try.zeroValue56
  t26 := Try.underlying3
  a26 := Try.isAgg3
  z26 := Try.sizeOf3
  v26 := Try.zeroValue3
  t28 := Try.underlying154
  a28 := Try.isAgg154
  z28 := Try.sizeOf154
  v28 := Try.zeroValue154
  i26 := by kernel_rfl }
def sortL_ren : Go.Shelf.Ren := ⟨fun | 5 => 83 | 8 => 88 | 7 => 87 | 19 => 98 | 20 => 99 | 10 => 89 | 11 => 90 | 12 => 91 | 13 => 92 | 14 => 93 | 15 => 94 | 16 => 95 | 17 => 96 | 18 => 97 | 30 => 100 | 31 => 101 | 32 => 102 | 33 => 103 | 34 => 104 | 35 => 105 | 40 => 106 | n => n, fun | 23 => 56 | 25 => 3 | 3 => 3 | 32 => 162 | 22 => 56 | 0 => 0 | 44 => 173 | 46 => 31 | 4 => 4 | 36 => 165 | 35 => 164 | 41 => 170 | 5 => 5 | 9 => 9 | 53 => 175 | 57 => 179 | 63 => 181 | 64 => 182 | n => n, fun | n => n⟩
theorem sortL : Go.Proofs.SlLaysM.n5 Try.prog sortL_ren := {
  mixed := by kernel_rfl
  f5 := ⟨Try.f83.name, by decide, Try.func83.trans (congrArg some (by kernel_rfl))⟩
  f7 := ⟨Try.f87.name, by decide, Try.func87.trans (congrArg some (by kernel_rfl))⟩
  f8 := Try.func88.trans (congrArg some (by kernel_rfl))
  f10 := ⟨Try.f89.name, by decide, Try.func89.trans (congrArg some (by kernel_rfl))⟩
  f11 := ⟨Try.f90.name, by decide, Try.func90.trans (congrArg some (by kernel_rfl))⟩
  f12 := ⟨Try.f91.name, by decide, Try.func91.trans (congrArg some (by kernel_rfl))⟩
  f13 := ⟨Try.f92.name, by decide, Try.func92.trans (congrArg some (by kernel_rfl))⟩
  f14 := ⟨Try.f93.name, by decide, Try.func93.trans (congrArg some (by kernel_rfl))⟩
  f15 := ⟨Try.f94.name, by decide, Try.func94.trans (congrArg some (by kernel_rfl))⟩
  f16 := ⟨Try.f95.name, by decide, Try.func95.trans (congrArg some (by kernel_rfl))⟩
  f17 := ⟨Try.f96.name, by decide, Try.func96.trans (congrArg some (by kernel_rfl))⟩
  f18 := ⟨Try.f97.name, by decide, Try.func97.trans (congrArg some (by kernel_rfl))⟩
  f19 := Try.func98.trans (congrArg some (by kernel_rfl))
  f20 := Try.func99.trans (congrArg some (by kernel_rfl))
  f30 := ⟨Try.f100.name, by decide, Try.func100.trans (congrArg some (by kernel_rfl))⟩
  f31 := Try.func101.trans (congrArg some (by kernel_rfl))
  f32 := Try.func102.trans (congrArg some (by kernel_rfl))
  f33 := ⟨Try.f103.name, by decide, Try.func103.trans (congrArg some (by kernel_rfl))⟩
  f34 := ⟨Try.f104.name, by decide, Try.func104.trans (congrArg some (by kernel_rfl))⟩
  f35 := ⟨Try.f105.name, by decide, Try.func105.trans (congrArg some (by kernel_rfl))⟩
  f40 := ⟨Try.f106.name, by decide, Try.func106.trans (congrArg some (by kernel_rfl))⟩
  t0 := Try.underlying0
  a0 := Try.isAgg0
  z0 := Try.sizeOf0
  v0 := Try.zeroValue0
  t3 := Try.underlying3
  a3 := Try.isAgg3
  z3 := Try.sizeOf3
  v3 := Try.zeroValue3
  t4 := Try.underlying4
  a4 := Try.isAgg4
  z4 := Try.sizeOf4
  v4 := Try.zeroValue4
  t5 := Try.underlying5
  a5 := Try.isAgg5
  z5 := Try.sizeOf5
  v5 := Try.zeroValue5
  t9 := Try.underlying9
  a9 := Try.isAgg9
  z9 := Try.sizeOf9
  v9 := Try.zeroValue9
  t22 := Try.underlying56
  a22 := Try.isAgg56
  z22 := Try.sizeOf56
  v22 := Try.zeroValue56
  t23 := Try.underlying56
  a23 := Try.isAgg56
  z23 := Try.sizeOf56
  v23 := Try.zeroValue56
  t25 := Try.underlying3
  a25 := Try.isAgg3
  z25 := Try.sizeOf3
  v25 := Try.zeroValue3
  t32 := Try.underlying162
  a32 := Try.isAgg162
  z32 := Try.sizeOf162
  v32 := Try.zeroValue162
  t35 := Try.underlying164
  a35 := Try.isAgg164
  z35 := Try.sizeOf164
  v35 := Try.zeroValue164
  t36 := Try.underlying165
  a36 := Try.isAgg165
  z36 := Try.sizeOf165
  v36 := Try.zeroValue165
  t41 := Try.underlying170
  a41 := Try.isAgg170
  z41 := Try.sizeOf170
  v41 := Try.zeroValue170
  t44 := Try.underlying173
  a44 := Try.isAgg173
  z44 := Try.sizeOf173
  v44 := Try.zeroValue173
  t46 := Try.underlying31
  a46 := Try.isAgg31
  z46 := Try.sizeOf31
  v46 := Try.zeroValue31
  t53 := Try.underlying175
  a53 := Try.isAgg175
  z53 := Try.sizeOf175
  v53 := Try.zeroValue175
  t57 := Try.underlying179
  a57 := Try.isAgg179
  z57 := Try.sizeOf179
  v57 := Try.zeroValue179
  t63 := Try.underlying181
  a63 := Try.isAgg181
  z63 := Try.sizeOf181
  v63 := Try.zeroValue181
  t64 := Try.underlying182
  a64 := Try.isAgg182
  z64 := Try.sizeOf182
  v64 := Try.zeroValue182 }
end Lt
end Go.Proofs.Ytgbblegcjladaaa
namespace Go.Proofs.Ytgbblegcjladaaa
open Go.ChangeShapes Go.WideShapes Go.ChangeAt Go.RowKit Go.Deep Go.Maps Go.ChangeMaps Go.MapKept Go.Sort Go.Shelf
set_option linter.unusedVariables false
set_option maxRecDepth 100000
set_option linter.unusedSimpArgs false
namespace Lt
open Mp
theorem tokK : KeyT Try.prog 3 (Value.int .i64) (Lit.int .i64) okI := intK Try.underlying3
/-- block b is a map of just these trusts -/
def OfL (L : List Tr) (t : Int) : Option Value := (fnd L t).map trV
def TrM (w : World) (b : Nat) (L : List Tr) : Prop := Srt L ∧ (∀ x ∈ L, x.wf) ∧ MapF Try.prog 3 (Lit.int .i64) okI w b L.length (OfL L)
variable {w w' : World} {b g : Nat} {L : List Tr}
theorem TrM.block (h : TrM w b L) (hb : w'.heap[b]? = w.heap[b]?) : TrM w' b L := ⟨h.1, h.2.1, h.2.2.block hb⟩
theorem dom_of (hs : Srt L) (hw : ∀ x ∈ L, x.wf) : Dom okI (OfL L) (L.map Tr.tok) := by
  refine ⟨List.pairwise_map.2 (hs.imp (fun h => by omega)), fun t => ?_⟩
  unfold OfL
  rw [List.mem_map, Option.isSome_map]
  constructor
  · rintro ⟨x, hx, rfl⟩
    rw [(fnd_iff hs).2 ⟨hx, rfl⟩]
    exact ⟨(hw x hx).1, rfl⟩
  · rintro ⟨-, h2⟩
    obtain ⟨x, hx⟩ := Option.isSome_iff_exists.1 h2
    exact ⟨x, (fnd_iff hs).1 hx⟩
/-- a map that says the same partial function holds the same list -/
theorem TrM.mk {f : Int → Option Value} {n : Nat} (hs : Srt L) (hw : ∀ x ∈ L, x.wf) (h : MapF Try.prog 3 (Lit.int .i64) okI w b n f) (hf : ∀ t, okI t → f t = OfL L t) : TrM w b L := by
  obtain ⟨es, clock, -, -, hm⟩ := (h.congr hf).card tokK (dom_of hs hw)
  rw [List.length_map] at hm
  exact ⟨hs, hw, hm⟩
theorem keys_c (mb : Option Nat) (w : World) :
    Calls Try.prog 78 #[.map mb] w fun e w' => e = .returned (.func (.func 84) #[] #[.pointer (some ⟨w.heap.size, 0, none⟩)]) ∧ w' = w.alloc (.cells #[.map mb] 116) :=
  (callsIn_wide (n := 6)).1 (AnyZI.keys_in keysL Fence.wide 6 trivial rfl mb w)
theorem sortsL (m : Nat) : AnyZI.SortsIn Try.prog sortedL_ren Fence.wide m :=
  ⟨fun blk off cap ss W hH hblk hsz => callsIn_wide.2 (AnyM.slices_Sort_int sortL blk off cap ss W hH hblk hsz),
   fun p cap W => callsIn_wide.2 (AnyM.slices_Sort_int_none sortL p cap W)⟩
theorem sorted_c (w : World) (h : TrM w b L) (hn : L.length ≤ 1000000) (hlt : g < w.heap.size) (hg : w.cell? ⟨g, 0, none⟩ = some (.map (some b))) :
    Calls Try.prog 77 #[.func (.func 84) #[] #[.pointer (some ⟨g, 0, none⟩)]] w fun e w' => ∃ v, e = .returned v ∧ w'.ownsRow w.heap.size 3 1 v L.length (L.map (fun x => Value.int .i64 x.tok)) ∧ Below w.heap.size w w' := by
  obtain ⟨hs, hw, D, ho, hsay⟩ := h
  have hperm : (L.map Tr.tok).Perm (intKeys D) := by
    obtain ⟨es, hD, hpw, -⟩ := ho.entries tokK.law
    obtain ⟨es', hD', hko⟩ := ho.keysOf
    obtain rfl : es = es' := by rw [hD] at hD'; simpa using hD'
    have hm := ho.isMap
    subst hD
    have hd := dom_of hs hw
    refine perm_intKeys hpw (fun p hp => by obtain ⟨v, hv⟩ := hko p hp; obtain ⟨x, -, hx, -⟩ := Maps.keyOf_i64 Try.underlying3 hv; exact ⟨x, hx⟩) hd.1 (fun x => ?_)
    rw [hd.2 x]
    constructor
    · rintro ⟨h1, h2⟩
      rw [has_of hsay hm h1]
      exact h2
    · intro hh
      obtain ⟨p, hp, hk⟩ := List.any_eq_true.1 hh
      obtain ⟨v, hv⟩ := hko p hp
      obtain ⟨y, -, hy, hyw⟩ := Maps.keyOf_i64 Try.underlying3 hv
      have e : y = x := by rw [hy] at hk; simpa [Lit.sameKey] using hk
      subst e
      exact ⟨hyw, by rw [← has_of hsay hm hyw]; exact hh⟩
  have hsz : Maps.size D = L.length := by
    obtain ⟨es, hD, -, -⟩ := ho.entries tokK.law
    have := hperm.length_eq
    subst hD
    simp only [List.length_map, intKeys] at this
    rw [this]
    rfl
  have hseq : SeqGives Fence.wide 2 Try.prog 84 #[.pointer (some ⟨g, 0, none⟩)] encZ (fun ss => ss.Perm (intKeys D)) (Maps.size D) w :=
    AnyZI.keys_gives (ρ := keysL_ren) { keysL with } Fence.wide _ trivial rfl (by omega) g b L.length D w hlt hg ho
  have cS := AnyZI.sorted_in sortedL Fence.wide 5 trivial trivial trivial trivial rfl (by omega) (sortsL _) (enters_of Try.func83 (by kernel_rfl) rfl) 84 #[.pointer (some ⟨g, 0, none⟩)] trivial (enters_of Try.func84 (by kernel_rfl) rfl) _ (Maps.size D) (by rw [hsz]; unfold maxLen; omega) (by rw [hsz]; omega) w hseq
  change CallsIn _ _ Try.prog 77 _ _ _ at cS
  refine ((callsIn_wide (n := 5)).1 cS).mono ?_
  rintro e w' ⟨v, ss, rfl, hp, hrow, -, hb⟩
  have hp' := hp.trans hperm.symm
  rw [toks_sort hs hp', List.map_map] at hrow
  have hl := hp'.length_eq
  rw [List.length_map] at hl
  rw [hl] at hrow
  exact ⟨v, rfl, hrow, hb⟩
end Lt
end Go.Proofs.Ytgbblegcjladaaa
namespace Go.Proofs.Ytgbblegcjladaaa
open Go.ChangeShapes Go.WideShapes Go.ChangeAt Go.RowKit Go.Deep Go.Maps Go.ChangeMaps Go.MapKept
set_option linter.unusedVariables false
set_option maxRecDepth 100000
set_option linter.unusedSimpArgs false
namespace Lt
open Mp
variable {w w' : World} {b g : Nat} {L : List Tr}
abbrev tkC (x : Tr) : List Value := [.int .i64 x.tok]
theorem tkC_len (x : Tr) : (tkC x).length = 1 := rfl
theorem trC_one (x : Tr) : ∀ u ∈ trC x, u.oneCell' = true := by intro u hu; simp at hu; rcases hu with rfl | rfl | rfl <;> rfl
theorem flat_tk (L : List Tr) : L.flatMap tkC = L.map (fun x => Value.int .i64 x.tok) := by
  induction L with
  | nil => rfl
  | cons x l ih => rw [List.flatMap_cons, ih]; rfl
theorem info_tr : (Try.prog.info? 115).map (fun i => (i.zero, i.size, i.bytes)) = some (some (.agg #[.int .i64 0, .int .u64 0, .int .i64 0]), 3, 24) := by kernel_rfl
theorem TrM.look (h : TrM w b L) {x : Tr} (hx : x ∈ L) : (Instr.lookup 116 (.map (some b)) (.int .i64 x.tok) false).run Try.prog w = .ok (trV x) w := by
  have hz : (zeroValue 115).run Try.prog w = .ok (.agg #[.int .i64 0, .int .u64 0, .int .i64 0]) w := by kernel_rfl
  have := h.2.2.look tokK Try.underlying116 hz (h.2.1 x hx).1 false
  rw [this]
  unfold OfL
  rw [(fnd_iff h.1).2 ⟨hx, rfl⟩]
  rfl
set_option maxHeartbeats 4000000 in
theorem inorder_any (w : World) (h : TrM w b L) (hn : L.length ≤ 1000) :
    Calls Try.prog 65 #[.map (some b)] w fun e w' => ∃ v, e = .returned v ∧ OwnR 3 trC 115 w' w.heap.size v L ∧ Below w.heap.size w w' := by
  obtain ⟨g, hg⟩ : ∃ q, w.heap.size = q := ⟨_, rfl⟩
  obtain ⟨W1, hW1⟩ : ∃ q, w.alloc (.cells #[.map (some b)] 116) = q := ⟨_, rfl⟩
  have hb1 : Below w.heap.size w W1 := by rw [← hW1]; exact (Below.refl _ _).alloc (Nat.le_refl _) _
  have hr1 : W1.heap[g]? = some (.cells #[.map (some b)] 116 (0, 0)) := by rw [← hW1, ← hg]; exact heap_alloc_new _ _
  have hm1 : TrM W1 b L := h.block (hb1.block b h.2.2.lt)
  have hS := sorted_c W1 hm1 (by omega) (row_lt hr1) ((cell_of_row _ _ 0 _ _ _ hr1).trans rfl)
  have HS := Lib.hid hS
  have HK : Hid (∀ w2, Below W1.heap.size W1 w2 → Below w.heap.size w w2 ∧ TrM w2 b L) := Lib.hid (fun w2 h2 => ⟨hb1.trans (h2.mono hb1.size), hm1.block (h2.block b hm1.2.2.lt)⟩)
  have HZ : Hid (w.heap.size ≤ W1.heap.size) := Lib.hid hb1.size
  clear hS hb1 hr1 hm1 h
  go_enter Try.func65, Try.ntmps65
  go_wp2_with (first | ((with_reducible refine (keys_c _ _).mono ?_); rintro e w1 ⟨rfl, rfl⟩; rw [hW1, hg]) | ((with_reducible refine HS.out.mono ?_); rintro e w2 ⟨vs, rfl, os, bs⟩; have HO := Lib.hid (show OwnR 1 tkC 3 w2 W1.heap.size vs L by unfold OwnR; rw [flat_tk]; exact os); have HB := Lib.hid bs; clear os bs; obtain ⟨ak, ck, rfl⟩ := own_slice HO.out))
  clear hW1 hg
  go_loopw [3, 10] (fun u i wr => ∃ (j : Nat) (v : Value), v = u ∧ j ≤ L.length ∧ i = .int .i64 (j : Int) ∧ Hid (OwnR 3 trC 115 wr w2.heap.size v (L.take j) ∧ Below w2.heap.size w2 wr)) (fun _ i _ => L.length - (intOf i).toNat)
  case atStart => exact ⟨0, _, rfl, Nat.zero_le _, rfl, Lib.hid ⟨OwnR.nil _ _ _, Below.refl _ _⟩⟩
  case round =>
    obtain ⟨j, v, rfl, hj, rfl, HR⟩ := hrel
    by_cases hlt : j < L.length
    · have hlti : (j : Int) < (L.length : Int) := by omega
      obtain ⟨x, hx⟩ : ∃ x, L[j]? = some x := ⟨_, List.getElem?_eq_getElem hlt⟩
      have HTK : Hid (L.take (j + 1) = L.take j ++ [x]) := Lib.hid (by rw [List.take_add_one, hx]; rfl)
      have hbr : Below W1.heap.size W1 wr := HB.out.trans (HR.out.2.mono HB.out.size)
      have hlk := (HK.out _ hbr).2.look (List.mem_of_getElem? hx)
      obtain ⟨b0, off, rfl, y0⟩ : ∃ b off, ak = some ⟨b, off, none⟩ ∧ wr.cell? ⟨b, off + j, none⟩ = some (.int .i64 x.tok) := by
        have ho : OwnR 1 tkC 3 wr W1.heap.size (.slice ak L.length ck) L := HO.out.below HR.out.2 (Nat.le_refl _)
        rcases SlR.cases (ho.sl tkC_len) with ⟨a9, c9, e, hnil⟩ | ⟨b, off, c9, e, -, -, -, -, hc⟩
        · rw [hnil] at hlt; simp at hlt
        · simp only [Value.slice.injEq] at e
          have h0 := hc j x hx 0 _ rfl
          simp only [Nat.mul_one, Nat.add_zero] at h0
          exact ⟨b, off, e.1, h0⟩
      obtain ⟨W6, hW6⟩ : ∃ q, wr.alloc (.cells #[.int .i64 x.tok, .int .u64 x.ser, .int .i64 x.til] 115) = q := ⟨_, rfl⟩
      have HLIT : Hid (SlR 3 trC W6 (.slice (some ⟨wr.heap.size, 0, none⟩) 1 1) [x]) := Lib.hid (by rw [← hW6]; exact SlR.one trC_len wr _ rfl _ x rfl)
      have HO6 : Hid (OwnR 3 trC 115 W6 w2.heap.size v (L.take j)) := Lib.hid (by rw [← hW6]; exact HR.out.1.alloc _)
      have HB6 : Hid (Below w2.heap.size w2 W6) := Lib.hid (by rw [← hW6]; exact HR.out.2.alloc HR.out.2.size _)
      have HJL : Hid ((L.take j).length = j ∧ j < 1000) := Lib.hid (by rw [List.length_take]; omega)
      clear hx hbr HR
      go_wp2_with (first | rw [hW6] | (at_builtin; refine appR trC_len trC_one Try.underlying66 rfl (by decide) info_tr rfl (.tmp 14) (.tmp 18) rfl w2.heap.size v (L.take j) rfl HO6.out (.slice (some ⟨wr.heap.size, 0, none⟩) 1 1) [x] rfl HLIT.out (by have := HJL.out; unfold maxLen; simp only [List.length_singleton]; omega) (by have := HJL.out; simp only [List.length_singleton]; omega) HB6.out.size ?_; intro v7 w7 own7 bel7; have HO7 := Lib.hid own7; have HB7 := Lib.hid bel7; clear own7 bel7))
      go_roundw
      case rel => exact ⟨j + 1, _, rfl, by omega, by go_num, Lib.hid ⟨by rw [HTK.out]; exact HO7.out, HB6.out.trans HB7.out⟩⟩
      case measure => simp [intOf]; omega
    · obtain rfl : j = L.length := by omega
      have HE := Lib.hid HR.out
      clear HR
      go_wp2
      go_ret
      exact ⟨_, rfl, by have := HE.out.1; rw [List.take_length] at this; exact ownsRow_base_a this (HK.out _ HB.out).1.size, (HK.out _ (HB.out.trans (HE.out.2.mono HB.out.size))).1⟩
end Lt
end Go.Proofs.Ytgbblegcjladaaa
namespace Go.Proofs.Ytgbblegcjladaaa
open Go.ChangeShapes Go.WideShapes Go.ChangeAt Go.RowKit Go.Deep Go.Maps Go.ChangeMaps Go.MapKept
set_option linter.unusedVariables false
set_option maxRecDepth 100000
set_option linter.unusedSimpArgs false
namespace Lt
open Mp Mc
abbrev TW : TypeId := 118
/-- what a wallet knows: the time, when was asked and what (its kind is 0: nothing), what is trusted -/
structure Wa where
  now : Int
  made : Int
  c : Cmd
  L : List Tr
abbrev zCm : Cmd := ⟨0, 0, 0, [], 0, 0, 0, 0⟩
abbrev cmA (c : Cmd) : Array Value := #[.int .i64 c.kind, .int .i64 c.node, .int .i64 c.token, .slice none 0 0, .int .u64 c.boot, .int .u64 c.seq, .int .u64 c.serial, .int .u64 c.stamp]
abbrev waA (n : Int) (s : Wa) (g : Nat) : Array Value := #[.int .i64 n, .int .i64 s.now, .int .i64 s.c.kind, .int .i64 s.c.node, .int .i64 s.c.token, .slice none 0 0, .int .u64 s.c.boot, .int .u64 s.c.seq, .int .u64 s.c.serial, .int .u64 s.c.stamp, .int .i64 s.made, .map (some g)]
structure WaG (p : Nat) (n : Int) (s : Wa) (g : Nat) (w : World) (S : Nat → Prop) : Prop where
  row : w.heap[p]? = some (.cells (waA n s g) TW (0, 0))
  sp : S p
  sg : S g
  m : TrM w g s.L
  low : ∀ k, S k → k < w.heap.size
def WaX (p : Nat) (n : Int) (s : Wa) (w : World) (S : Nat → Prop) : Prop := ∃ g, WaG p n s g w S
variable {w w' : World} {S : Nat → Prop} {p g : Nat} {n : Int} {s : Wa}
theorem WaG.keep (h : WaG p n s g w S) (hb : ∀ k, S k → w'.heap[k]? = w.heap[k]?) (hz : w.heap.size ≤ w'.heap.size) : WaG p n s g w' S :=
  ⟨(hb p h.sp).trans h.row, h.sp, h.sg, h.m.block (hb g h.sg), fun k hk => Nat.lt_of_lt_of_le (h.low k hk) hz⟩
theorem goodW (p : Nat) (n : Int) (s : Wa) : Mc.Good (WaX p n s) :=
  ⟨fun ⟨_, h⟩ => h.low, fun ⟨g, h⟩ hb hz => ⟨g, h.keep hb hz⟩⟩
def newW : Wa := ⟨0, 0, zCm, []⟩
/-- what New answers -/
def NewW (n : Int) (w : World) (e : Ending) (w' : World) : Prop :=
  (0 ≤ n ∧ n ≤ 1073741824 ∧ (∃ p, e = .returned (.tuple #[.pointer (some ⟨p, 0, none⟩), .int .i64 0]) ∧ WaX p n newW w' (fun k => w.heap.size ≤ k ∧ k < w'.heap.size)) ∧ Below w.heap.size w w') ∨ (¬ (0 ≤ n ∧ n ≤ 1073741824) ∧ e = .returned (.tuple #[.pointer none, .int .i64 1]) ∧ w' = w)
theorem TrM.made (w : World) : TrM (w.alloc (.map #[] 0)) w.heap.size [] := ⟨Srt.nil, ⟨fun _ h => absurd h List.not_mem_nil, (Mp.made _ _ _ _ w).congr (fun _ _ => rfl)⟩⟩
set_option maxHeartbeats 4000000 in
theorem new_any (n : Int) (w : World) : Calls Try.prog 22 #[.int .i64 n] w (NewW n w) := by
  by_cases h1 : n < 0
  · have HF : Hid (¬ (0 ≤ n ∧ n ≤ 1073741824)) := Lib.hid (by omega)
    go_enter Try.func22, Try.ntmps22
    go_wp2
    go_ret2
    exact .inr ⟨HF.out, rfl, rfl⟩
  by_cases h2 : 1073741824 < n
  · have HF : Hid (¬ (0 ≤ n ∧ n ≤ 1073741824)) := Lib.hid (by omega)
    go_enter Try.func22, Try.ntmps22
    go_wp2
    go_ret2
    exact .inr ⟨HF.out, rfl, rfl⟩
  obtain ⟨g, hg⟩ : ∃ q, w.heap.size = q := ⟨_, rfl⟩
  obtain ⟨W1, hW1⟩ : ∃ q, w.alloc (.map #[] 0) = q := ⟨_, rfl⟩
  have hm1 : TrM W1 g [] := by rw [← hW1, ← hg]; exact TrM.made w
  have hb1 : Below w.heap.size w W1 := by rw [← hW1]; exact (Below.refl _ _).alloc (Nat.le_refl _) _
  obtain ⟨p, hp⟩ : ∃ q, W1.heap.size = q := ⟨_, rfl⟩
  obtain ⟨W2, hW2⟩ : ∃ q, W1.alloc (.cells (waA n newW g) TW) = q := ⟨_, rfl⟩
  have hb2 : Below W1.heap.size W1 W2 := by rw [← hW2]; exact (Below.refl _ _).alloc (Nat.le_refl _) _
  have hr : W2.heap[p]? = some (.cells (waA n newW g) TW (0, 0)) := by rw [← hW2, ← hp]; exact heap_alloc_new _ _
  have hm2 : TrM W2 g [] := hm1.block (hb2.block g hm1.2.2.lt)
  have HF : Hid (WaX p n newW W2 (fun k => w.heap.size ≤ k ∧ k < W2.heap.size) ∧ Below w.heap.size w W2) := Lib.hid
    ⟨⟨g, hr, ⟨by have := hb1.size; omega, row_lt hr⟩, ⟨by omega, hm2.2.2.lt⟩, hm2, fun k hk => hk.2⟩, hb1.trans (hb2.mono hb1.size)⟩
  have HN : Hid (0 ≤ n ∧ n ≤ 1073741824) := Lib.hid (by omega)
  have hmm := @run_makeMap Try.prog
  unfold newW at hW2
  clear hr hm1 hm2 hb1 hb2
  go_enter Try.func22, Try.ntmps22
  go_wp2_with (first | rw [hW1, hg] | rw [hW2, hp])
  go_ret2
  exact .inl ⟨HN.out.1, HN.out.2, ⟨p, rfl, HF.out.1⟩, HF.out.2⟩
set_option maxHeartbeats 4000000 in
theorem all_any (w : World) (h : WaX p n s w S) (hn : s.L.length ≤ 1000) :
    Calls Try.prog 49 #[.pointer (some ⟨p, 0, none⟩)] w fun e w' => ∃ v, e = .returned v ∧ OwnR 3 trC 115 w' w.heap.size v s.L ∧ Below w.heap.size w w' := by
  obtain ⟨g, h⟩ := h
  have c11 : w.cell? ⟨p, 11, none⟩ = some (.map (some g)) := (cell_of_row _ _ 11 _ _ _ h.row).trans rfl
  have HI := Lib.hid (inorder_any w h.m hn)
  clear h
  go_enter Try.func49, Try.ntmps49
  go_wp2_with (first | ((with_reducible refine HI.out.mono ?_); rintro e w1 ⟨v, rfl, o1, b1⟩; have H1 := Lib.hid (And.intro o1 b1); clear o1 b1))
  go_ret
  exact ⟨v, rfl, H1.out⟩
end Lt
end Go.Proofs.Ytgbblegcjladaaa
namespace Go.Proofs.Ytgbblegcjladaaa
open Go.ChangeShapes Go.WideShapes Go.ChangeAt Go.RowKit Go.Deep Go.Maps Go.ChangeMaps Go.MapKept
set_option linter.unusedVariables false
set_option maxRecDepth 100000
set_option linter.unusedSimpArgs false
namespace Lt
open Mp Mc
variable {w w' : World} {S : Nat → Prop} {p g : Nat} {n : Int} {s : Wa}
theorem wcells (h : w.heap[p]? = some (.cells (waA n s g) TW (0, 0))) : w.cell? ⟨p, 2, none⟩ = some (.int .i64 s.c.kind) ∧ w.cell? ⟨p, 3, none⟩ = some (.int .i64 s.c.node) ∧ w.cell? ⟨p, 4, none⟩ = some (.int .i64 s.c.token) ∧ w.cell? ⟨p, 5, none⟩ = some (.slice none 0 0) ∧ w.cell? ⟨p, 6, none⟩ = some (.int .u64 s.c.boot) ∧ w.cell? ⟨p, 7, none⟩ = some (.int .u64 s.c.seq) ∧ w.cell? ⟨p, 8, none⟩ = some (.int .u64 s.c.serial) ∧ w.cell? ⟨p, 9, none⟩ = some (.int .u64 s.c.stamp) :=
  ⟨(cell_of_row _ _ 2 _ _ _ h).trans rfl, (cell_of_row _ _ 3 _ _ _ h).trans rfl, (cell_of_row _ _ 4 _ _ _ h).trans rfl, (cell_of_row _ _ 5 _ _ _ h).trans rfl, (cell_of_row _ _ 6 _ _ _ h).trans rfl, (cell_of_row _ _ 7 _ _ _ h).trans rfl, (cell_of_row _ _ 8 _ _ _ h).trans rfl, (cell_of_row _ _ 9 _ _ _ h).trans rfl⟩
theorem chain8 {W : World} {r : Nat} {ty : TypeId} {x0 x1 x2 x3 x4 x5 x6 x7 : Value} (c : Cmd) (h : W.heap[r]? = some (.cells #[x0, x1, x2, x3, x4, x5, x6, x7] ty (0, 0))) : ((((((((W.setCell ⟨r, 0, none⟩ (.int .i64 c.kind)).setCell ⟨r, 1, none⟩ (.int .i64 c.node)).setCell ⟨r, 2, none⟩ (.int .i64 c.token)).setCell ⟨r, 3, none⟩ (.slice none 0 0)).setCell ⟨r, 4, none⟩ (.int .u64 c.boot)).setCell ⟨r, 5, none⟩ (.int .u64 c.seq)).setCell ⟨r, 6, none⟩ (.int .u64 c.serial)).setCell ⟨r, 7, none⟩ (.int .u64 c.stamp)).heap[r]? = some (.cells (cmA c) ty (0, 0)) := by
  have h0 : (W.setCell ⟨r, 0, none⟩ (.int .i64 c.kind)).heap[r]? = some (.cells #[.int .i64 c.kind, x1, x2, x3, x4, x5, x6, x7] ty (0, 0)) := (heap_setCell_same _ r 0 _ ty _ h).trans rfl
  have h1 : ((W.setCell ⟨r, 0, none⟩ (.int .i64 c.kind)).setCell ⟨r, 1, none⟩ (.int .i64 c.node)).heap[r]? = some (.cells #[.int .i64 c.kind, .int .i64 c.node, x2, x3, x4, x5, x6, x7] ty (0, 0)) := (heap_setCell_same _ r 1 _ ty _ h0).trans rfl
  have h2 : (((W.setCell ⟨r, 0, none⟩ (.int .i64 c.kind)).setCell ⟨r, 1, none⟩ (.int .i64 c.node)).setCell ⟨r, 2, none⟩ (.int .i64 c.token)).heap[r]? = some (.cells #[.int .i64 c.kind, .int .i64 c.node, .int .i64 c.token, x3, x4, x5, x6, x7] ty (0, 0)) := (heap_setCell_same _ r 2 _ ty _ h1).trans rfl
  have h3 : ((((W.setCell ⟨r, 0, none⟩ (.int .i64 c.kind)).setCell ⟨r, 1, none⟩ (.int .i64 c.node)).setCell ⟨r, 2, none⟩ (.int .i64 c.token)).setCell ⟨r, 3, none⟩ (.slice none 0 0)).heap[r]? = some (.cells #[.int .i64 c.kind, .int .i64 c.node, .int .i64 c.token, .slice none 0 0, x4, x5, x6, x7] ty (0, 0)) := (heap_setCell_same _ r 3 _ ty _ h2).trans rfl
  have h4 : (((((W.setCell ⟨r, 0, none⟩ (.int .i64 c.kind)).setCell ⟨r, 1, none⟩ (.int .i64 c.node)).setCell ⟨r, 2, none⟩ (.int .i64 c.token)).setCell ⟨r, 3, none⟩ (.slice none 0 0)).setCell ⟨r, 4, none⟩ (.int .u64 c.boot)).heap[r]? = some (.cells #[.int .i64 c.kind, .int .i64 c.node, .int .i64 c.token, .slice none 0 0, .int .u64 c.boot, x5, x6, x7] ty (0, 0)) := (heap_setCell_same _ r 4 _ ty _ h3).trans rfl
  have h5 : ((((((W.setCell ⟨r, 0, none⟩ (.int .i64 c.kind)).setCell ⟨r, 1, none⟩ (.int .i64 c.node)).setCell ⟨r, 2, none⟩ (.int .i64 c.token)).setCell ⟨r, 3, none⟩ (.slice none 0 0)).setCell ⟨r, 4, none⟩ (.int .u64 c.boot)).setCell ⟨r, 5, none⟩ (.int .u64 c.seq)).heap[r]? = some (.cells #[.int .i64 c.kind, .int .i64 c.node, .int .i64 c.token, .slice none 0 0, .int .u64 c.boot, .int .u64 c.seq, x6, x7] ty (0, 0)) := (heap_setCell_same _ r 5 _ ty _ h4).trans rfl
  have h6 : (((((((W.setCell ⟨r, 0, none⟩ (.int .i64 c.kind)).setCell ⟨r, 1, none⟩ (.int .i64 c.node)).setCell ⟨r, 2, none⟩ (.int .i64 c.token)).setCell ⟨r, 3, none⟩ (.slice none 0 0)).setCell ⟨r, 4, none⟩ (.int .u64 c.boot)).setCell ⟨r, 5, none⟩ (.int .u64 c.seq)).setCell ⟨r, 6, none⟩ (.int .u64 c.serial)).heap[r]? = some (.cells #[.int .i64 c.kind, .int .i64 c.node, .int .i64 c.token, .slice none 0 0, .int .u64 c.boot, .int .u64 c.seq, .int .u64 c.serial, x7] ty (0, 0)) := (heap_setCell_same _ r 6 _ ty _ h5).trans rfl
  have h7 : ((((((((W.setCell ⟨r, 0, none⟩ (.int .i64 c.kind)).setCell ⟨r, 1, none⟩ (.int .i64 c.node)).setCell ⟨r, 2, none⟩ (.int .i64 c.token)).setCell ⟨r, 3, none⟩ (.slice none 0 0)).setCell ⟨r, 4, none⟩ (.int .u64 c.boot)).setCell ⟨r, 5, none⟩ (.int .u64 c.seq)).setCell ⟨r, 6, none⟩ (.int .u64 c.serial)).setCell ⟨r, 7, none⟩ (.int .u64 c.stamp)).heap[r]? = some (.cells #[.int .i64 c.kind, .int .i64 c.node, .int .i64 c.token, .slice none 0 0, .int .u64 c.boot, .int .u64 c.seq, .int .u64 c.serial, .int .u64 c.stamp] ty (0, 0)) := (heap_setCell_same _ r 7 _ ty _ h6).trans rfl
  exact h7
theorem chainB {W : World} {r B : Nat} (c : Cmd) (h : B ≤ r) : Below B W ((((((((W.setCell ⟨r, 0, none⟩ (.int .i64 c.kind)).setCell ⟨r, 1, none⟩ (.int .i64 c.node)).setCell ⟨r, 2, none⟩ (.int .i64 c.token)).setCell ⟨r, 3, none⟩ (.slice none 0 0)).setCell ⟨r, 4, none⟩ (.int .u64 c.boot)).setCell ⟨r, 5, none⟩ (.int .u64 c.seq)).setCell ⟨r, 6, none⟩ (.int .u64 c.serial)).setCell ⟨r, 7, none⟩ (.int .u64 c.stamp)) := (((((((((Below.refl _ _).setCell (p := ⟨r, 0, none⟩) h _).setCell (p := ⟨r, 1, none⟩) h _).setCell (p := ⟨r, 2, none⟩) h _).setCell (p := ⟨r, 3, none⟩) h _).setCell (p := ⟨r, 4, none⟩) h _).setCell (p := ⟨r, 5, none⟩) h _).setCell (p := ⟨r, 6, none⟩) h _).setCell (p := ⟨r, 7, none⟩) h _)
set_option maxRecDepth 100000 in
set_option maxHeartbeats 8000000 in
theorem asked_any (w : World) (h : WaX p n s w S) :
    Calls Try.prog 40 #[.pointer (some ⟨p, 0, none⟩)] w fun e w' => e = .returned (.tuple #[.agg (cmA s.c), .bool (s.c.kind != 0)]) ∧ Below w.heap.size w w' := by
  obtain ⟨g, h⟩ := h
  obtain ⟨r, hr⟩ : ∃ q, w.heap.size = q := ⟨_, rfl⟩
  obtain ⟨W1, hW1⟩ : ∃ q, w.alloc (.cells #[.int .i64 0, .int .i64 0, .int .i64 0, .slice none 0 0, .int .u64 0, .int .u64 0, .int .u64 0, .int .u64 0] 58) = q := ⟨_, rfl⟩
  have hb1 : Below w.heap.size w W1 := by rw [← hW1]; exact (Below.refl _ _).alloc (Nat.le_refl _) _
  have hr1 : W1.heap[r]? = some (.cells #[.int .i64 0, .int .i64 0, .int .i64 0, .slice none 0 0, .int .u64 0, .int .u64 0, .int .u64 0, .int .u64 0] 58 (0, 0)) := by rw [← hW1, ← hr]; exact heap_alloc_new _ _
  have hp1 := (hb1.block p (row_lt h.row)).trans h.row
  have hne : p ≠ r := by have := row_lt h.row; omega
  obtain ⟨c2, c3, c4, c5, c6, c7, c8, c9⟩ := wcells hp1
  have f0 : W1.frozen? ⟨r, 0, none⟩ = false := frozen_of_row W1 _ _ _ _ hr1
  have f1 : W1.frozen? ⟨r, 1, none⟩ = false := frozen_of_row W1 _ _ _ _ hr1
  have f2 : W1.frozen? ⟨r, 2, none⟩ = false := frozen_of_row W1 _ _ _ _ hr1
  have f3 : W1.frozen? ⟨r, 3, none⟩ = false := frozen_of_row W1 _ _ _ _ hr1
  have f4 : W1.frozen? ⟨r, 4, none⟩ = false := frozen_of_row W1 _ _ _ _ hr1
  have f5 : W1.frozen? ⟨r, 5, none⟩ = false := frozen_of_row W1 _ _ _ _ hr1
  have f6 : W1.frozen? ⟨r, 6, none⟩ = false := frozen_of_row W1 _ _ _ _ hr1
  have f7 : W1.frozen? ⟨r, 7, none⟩ = false := frozen_of_row W1 _ _ _ _ hr1
  have e0 : W1.cell? ⟨r, 0, none⟩ = some (.int .i64 0) := (cell_of_row _ _ 0 _ _ _ hr1).trans rfl
  have e1 : W1.cell? ⟨r, 1, none⟩ = some (.int .i64 0) := (cell_of_row _ _ 1 _ _ _ hr1).trans rfl
  have e2 : W1.cell? ⟨r, 2, none⟩ = some (.int .i64 0) := (cell_of_row _ _ 2 _ _ _ hr1).trans rfl
  have e3 : W1.cell? ⟨r, 3, none⟩ = some (.slice none 0 0) := (cell_of_row _ _ 3 _ _ _ hr1).trans rfl
  have e4 : W1.cell? ⟨r, 4, none⟩ = some (.int .u64 0) := (cell_of_row _ _ 4 _ _ _ hr1).trans rfl
  have e5 : W1.cell? ⟨r, 5, none⟩ = some (.int .u64 0) := (cell_of_row _ _ 5 _ _ _ hr1).trans rfl
  have e6 : W1.cell? ⟨r, 6, none⟩ = some (.int .u64 0) := (cell_of_row _ _ 6 _ _ _ hr1).trans rfl
  have e7 : W1.cell? ⟨r, 7, none⟩ = some (.int .u64 0) := (cell_of_row _ _ 7 _ _ _ hr1).trans rfl
  have HB1 := Lib.hid hb1
  have HR1 := Lib.hid hr1
  have HRW := Lib.hid hr
  obtain ⟨kd, hkd⟩ : ∃ q, (s.c.kind != 0) = q := ⟨_, rfl⟩
  have HKD := Lib.hid hkd
  clear hb1 hr1 h
  go_enter Try.func40, Try.ntmps40
  go_upto_region 3 with (first | rw [hW1])
  go_region
  have h9 := chain8 s.c HR1.out
  have hb9 := chainB (W := W1) s.c (Nat.le_of_eq HRW.out)
  obtain ⟨W9, hW9⟩ : ∃ z, ((((((((W1.setCell ⟨r, 0, none⟩ (.int .i64 s.c.kind)).setCell ⟨r, 1, none⟩ (.int .i64 s.c.node)).setCell ⟨r, 2, none⟩ (.int .i64 s.c.token)).setCell ⟨r, 3, none⟩ (.slice none 0 0)).setCell ⟨r, 4, none⟩ (.int .u64 s.c.boot)).setCell ⟨r, 5, none⟩ (.int .u64 s.c.seq)).setCell ⟨r, 6, none⟩ (.int .u64 s.c.serial)).setCell ⟨r, 7, none⟩ (.int .u64 s.c.stamp)) = z := ⟨_, rfl⟩
  rw [hW9] at h9 hb9 ⊢
  have HB9 := Lib.hid (HB1.out.trans hb9)
  clear e0 e1 e2 e3 e4 e5 e6 e7 f0 f1 f2 f3 f4 f5 f6 f7 c2 c3 c4 c5 c6 c7 c8 c9 hb9 hW9 hp1
  have H9 : Hid (W9.drew.heap[r]? = some (.cells (cmA s.c) 58 (0, 0))) := Lib.hid h9
  clear h9
  go_wp2
  exact bodyPost_ret (v := .tuple #[.agg (cmA s.c), .bool kd]) (results_cell2 rfl _ _ r 58 _ (0, 0) _ rfl H9.out Try.underlying58 rfl (by kernel_rfl) rfl) rfl ⟨by rw [HKD.out], HB9.out.drew⟩
end Lt
end Go.Proofs.Ytgbblegcjladaaa
namespace Go.Proofs.Ytgbblegcjladaaa
open Go.ChangeShapes Go.WideShapes Go.ChangeAt Go.RowKit Go.Deep Go.Maps Go.ChangeMaps Go.MapKept
set_option linter.unusedVariables false
set_option maxRecDepth 100000
set_option linter.unusedSimpArgs false
namespace Lt
open Mp Mc
variable {w w' : World} {S : Nat → Prop} {p g : Nat} {n : Int} {s : Wa} {L : List Tr}
theorem TrM.look2 (h : TrM w g L) {t : Int} (ht : okI t) : (Instr.lookup 116 (.map (some g)) (.int .i64 t) true).run Try.prog w = .ok (.tuple #[(match fnd L t with | some x => trV x | none => .agg #[.int .i64 0, .int .u64 0, .int .i64 0]), .bool (fnd L t).isSome]) w := by
  have hz : (zeroValue 115).run Try.prog w = .ok (.agg #[.int .i64 0, .int .u64 0, .int .i64 0]) w := by kernel_rfl
  have := h.2.2.look tokK Try.underlying116 hz ht true
  rw [this]
  unfold OfL
  cases fnd L t <;> rfl
theorem upd_wo (hs : Srt L) (t u : Int) : Mp.upd (OfL L) t none u = OfL (woV t L) u := by
  unfold Mp.upd OfL
  rw [fnd_wo hs]
  split <;> rfl
/-- a token struck from the map: what the wallet then is -/
theorem WaG.del (h : WaG p n s g w S) {t : Int} {k : Nat} (hm : MapF Try.prog 3 (Lit.int .i64) okI w' g k (Mp.upd (OfL s.L) t none)) (hg : w.grownBy w' (some g)) : WaG p n { s with L := woV t s.L } g w' S := by
  have hpg : g ≠ p := h.m.2.2.row_ne h.row
  obtain ⟨-, -, -, h4, h5⟩ := hg
  exact ⟨(h5 p (row_lt h.row) (fun e => hpg (by cases e; rfl))).trans h.row, h.sp, h.sg, TrM.mk (h.m.1.wo t) (fun x hx => h.m.2.1 x (mem_wo.1 hx).1) hm (fun u _ => upd_wo h.m.1 t u), fun k hk => Nat.lt_of_lt_of_le (h.low k hk) h4⟩
theorem only_grown (hg : w.grownBy w' (some g)) (hs : S g) : Only S w w' := by
  obtain ⟨h1, h2, h3, h4, h5⟩ := hg
  exact ⟨by assumption, by assumption, by assumption, h4, fun k hk hn => h5 k hk (fun e => hn (by cases e; exact hs))⟩
set_option maxHeartbeats 8000000 in
theorem drop_any (t : Int) (w : World) (h : WaX p n s w S) (ht : okI t) (hn : s.L.length ≤ 1000) :
    Calls Try.prog 32 #[.pointer (some ⟨p, 0, none⟩), .int .i64 t] w fun e w' => e = .returned (.int .i64 (if (fnd s.L t).isSome then 0 else 4)) ∧ Mc.Left (WaX p n { s with L := woV t s.L }) S w w' := by
  obtain ⟨g, h⟩ := h
  have c11 : w.cell? ⟨p, 11, none⟩ = some (.map (some g)) := (cell_of_row _ _ 11 _ _ _ h.row).trans rfl
  have hlk := h.m.look2 ht
  have H := Lib.hid h
  have HT := Lib.hid ht
  cases hf : fnd s.L t with
  | none =>
    rw [hf] at hlk
    simp only [Option.isSome_none] at hlk ⊢
    obtain ⟨W1, hW1⟩ : ∃ q, w.alloc (.cells #[.int .i64 0, .int .u64 0, .int .i64 0] 115) = q := ⟨_, rfl⟩
    have HB : Hid (Below w.heap.size w W1) := Lib.hid (by rw [← hW1]; exact (Below.refl _ _).alloc (Nat.le_refl _) _)
    have HE : Hid ({ s with L := woV t s.L } = s) := Lib.hid (by rw [wo_same hf])
    have HW := Lib.hid hW1
    clear h ht hf hW1
    go_enter Try.func32, Try.ntmps32
    go_upto_region 4 with fail
    rw [HW.out]
    go_wp2
    go_ret
    exact ⟨rfl, by rw [HE.out]; exact Mc.Left.same (goodW p n s) ⟨g, H.out⟩ HB.out⟩
  | some x =>
    rw [hf] at hlk
    simp only [Option.isSome_some] at hlk ⊢
    obtain ⟨W1, hW1⟩ : ∃ q, w.alloc (.cells #[.int .i64 x.tok, .int .u64 x.ser, .int .i64 x.til] 115) = q := ⟨_, rfl⟩
    have HB : Hid (Below w.heap.size w W1) := Lib.hid (by rw [← hW1]; exact (Below.refl _ _).alloc (Nat.le_refl _) _)
    have H1 := Lib.hid (H.out.keep (w' := W1) (fun k hk => HB.out.block k (H.out.low k hk)) HB.out.size)
    have d11 : W1.cell? ⟨p, 11, none⟩ = some (.map (some g)) := (cell_of_row _ _ 11 _ _ _ H1.out.row).trans rfl
    clear h ht hf
    go_enter Try.func32, Try.ntmps32
    go_wp2_with (first | rw [hW1] | (at_delete; refine Mp.wp_del rfl _ _ _ rfl tokK Try.underlying116 g s.L.length (OfL s.L) rfl H1.out.m.2.2 t HT.out rfl ?_; intro w6 hm6 hg6; have H6 := Lib.hid (And.intro (H1.out.del hm6 hg6) ((Below.only HB.out S).trans (only_grown hg6 H.out.sg))); clear hm6 hg6))
    go_ret
    exact ⟨rfl, Mc.Left.mk (goodW p n _) ⟨g, H6.out.1⟩ H6.out.2⟩
end Lt
end Go.Proofs.Ytgbblegcjladaaa
namespace Go.Proofs.Ytgbblegcjladaaa
open Go.ChangeShapes Go.WideShapes Go.ChangeAt Go.RowKit Go.Deep Go.Maps Go.ChangeMaps Go.MapKept
set_option linter.unusedVariables false
set_option maxRecDepth 100000
set_option linter.unusedSimpArgs false
namespace Lt
open Mp Mc
variable {w w' : World} {S : Nat → Prop} {p g : Nat} {n : Int} {s : Wa} {L : List Tr}
theorem upd_wi (hs : Srt L) (x : Tr) (u : Int) : Mp.upd (OfL L) x.tok (some (trV x)) u = OfL (wiV x L) u := by
  unfold Mp.upd OfL
  rw [fnd_wi hs]
  split <;> rfl
/-- a trust put into the map: what the wallet then is -/
theorem WaG.put (h : WaG p n s g w S) {x : Tr} (hx : x.wf) {k : Nat} (hm : MapF Try.prog 3 (Lit.int .i64) okI w' g k (Mp.upd (OfL s.L) x.tok (some (trV x)))) (hg : w.grownBy w' (some g)) : WaG p n { s with L := wiV x s.L } g w' S := by
  have hpg : g ≠ p := h.m.2.2.row_ne h.row
  obtain ⟨-, -, -, h4, h5⟩ := hg
  exact ⟨(h5 p (row_lt h.row) (fun e => hpg (by cases e; rfl))).trans h.row, h.sp, h.sg, TrM.mk (h.m.1.wi x) (fun y hy => by rcases mem_wi.1 hy with rfl | hy; exact hx; exact h.m.2.1 y hy.1) hm (fun u _ => upd_wi h.m.1 x u), fun k hk => Nat.lt_of_lt_of_le (h.low k hk) h4⟩
abbrev MT : TypeId := 116
set_option maxHeartbeats 2000000 in
theorem mclone_any (w : World) (h : TrM w g L) :
    Calls Try.prog 55 #[.map (some g)] w fun e w' => e = .returned (.map (some w.heap.size)) ∧ TrM w' w.heap.size L ∧ Below w.heap.size w w' := by
  obtain ⟨hs, hw, Dt, ⟨es, clock, hb, hr⟩, hsy⟩ := id h
  have hq := fun w => run_eql_map_nil_sl (P := Try.prog) w MT _ _ (some g) Try.underlying116
  have hB : Below w.heap.size w (w.alloc (.map es clock)) := (Below.refl _ w).alloc (Nat.le_refl _) _
  have HB := Lib.hid hB
  have HM : Hid (TrM (w.alloc (.map es clock)) w.heap.size L) := Lib.hid ⟨hs, hw, ⟨Dt, ⟨es, clock, (MapKept.heap_alloc w _).1, hr⟩, hsy⟩⟩
  have HBB := Lib.hid hb
  clear hs hw hsy hr hB hb h
  go_enter Try.func55, Try.ntmps55
  go_wp2
  rw [run_callFunc_extern Try.func64 (by kernel_rfl) (by kernel_rfl) (by kernel_rfl) (e := Extern.MapsClone.clone) (by kernel_rfl), run_maps_clone_sl w MT HBB.out]
  simp only [Result.andThen]
  rw [Oper.upon_value]
  go_wp2
  rw [run_typeAssert_map_sl _ MT 20 _ _ _ Try.underlying116]
  simp only [Result.andThen]
  rw [Oper.upon_value]
  go_wp2
  go_ret
  exact ⟨rfl, HM.out, HB.out⟩
set_option maxRecDepth 100000 in
set_option maxHeartbeats 8000000 in
theorem clone_any (w : World) (h : WaX p n s w S) :
    Calls Try.prog 34 #[.pointer (some ⟨p, 0, none⟩)] w fun e w' => ∃ q, e = .returned (.pointer (some ⟨q, 0, none⟩)) ∧ WaX q n s w' (fun k => w.heap.size ≤ k ∧ k < w'.heap.size) ∧ Below w.heap.size w w' := by
  obtain ⟨g, h⟩ := h
  have c0 : w.cell? ⟨p, 0, none⟩ = some (.int .i64 n) := (cell_of_row _ _ 0 _ _ _ h.row).trans rfl
  have c1 : w.cell? ⟨p, 1, none⟩ = some (.int .i64 s.now) := (cell_of_row _ _ 1 _ _ _ h.row).trans rfl
  have c2 : w.cell? ⟨p, 2, none⟩ = some (.int .i64 s.c.kind) := (cell_of_row _ _ 2 _ _ _ h.row).trans rfl
  have c3 : w.cell? ⟨p, 3, none⟩ = some (.int .i64 s.c.node) := (cell_of_row _ _ 3 _ _ _ h.row).trans rfl
  have c4 : w.cell? ⟨p, 4, none⟩ = some (.int .i64 s.c.token) := (cell_of_row _ _ 4 _ _ _ h.row).trans rfl
  have c5 : w.cell? ⟨p, 5, none⟩ = some (.slice none 0 0) := (cell_of_row _ _ 5 _ _ _ h.row).trans rfl
  have c6 : w.cell? ⟨p, 6, none⟩ = some (.int .u64 s.c.boot) := (cell_of_row _ _ 6 _ _ _ h.row).trans rfl
  have c7 : w.cell? ⟨p, 7, none⟩ = some (.int .u64 s.c.seq) := (cell_of_row _ _ 7 _ _ _ h.row).trans rfl
  have c8 : w.cell? ⟨p, 8, none⟩ = some (.int .u64 s.c.serial) := (cell_of_row _ _ 8 _ _ _ h.row).trans rfl
  have c9 : w.cell? ⟨p, 9, none⟩ = some (.int .u64 s.c.stamp) := (cell_of_row _ _ 9 _ _ _ h.row).trans rfl
  have c10 : w.cell? ⟨p, 10, none⟩ = some (.int .i64 s.made) := (cell_of_row _ _ 10 _ _ _ h.row).trans rfl
  have c11 : w.cell? ⟨p, 11, none⟩ = some (.map (some g)) := (cell_of_row _ _ 11 _ _ _ h.row).trans rfl
  obtain ⟨q, hq⟩ : ∃ z, w.heap.size = z := ⟨_, rfl⟩
  obtain ⟨W1, hW1⟩ : ∃ z, w.alloc (.cells (waA n s g) TW) = z := ⟨_, rfl⟩
  have hb1 : Below w.heap.size w W1 := by rw [← hW1]; exact (Below.refl _ _).alloc (Nat.le_refl _) _
  have hr1 : W1.heap[q]? = some (.cells (waA n s g) TW (0, 0)) := by rw [← hW1, ← hq]; exact heap_alloc_new _ _
  have d11 : W1.cell? ⟨p, 11, none⟩ = some (.map (some g)) := (cell_of_row _ _ 11 _ _ _ ((hb1.block p (row_lt h.row)).trans h.row)).trans rfl
  have HM := Lib.hid (mclone_any W1 (h.m.block (hb1.block g h.m.2.2.lt)))
  have HB1 := Lib.hid hb1
  have HR1 := Lib.hid hr1
  have HQ := Lib.hid hq
  clear h hb1 hr1
  go_enter Try.func34, Try.ntmps34
  go_upto_region 4 with (first | rw [hW1, hq])
  clear c0 c1 c2 c3 c4 c5 c6 c7 c8 c9 c10 c11 hW1
  go_wp2_with fail
  refine HM.out.mono ?_
  rintro e w2 ⟨rfl, hm2, hb2⟩
  have hr2 := (hb2.block q (row_lt HR1.out)).trans HR1.out
  have e11 : w2.cell? ⟨q, 11, none⟩ = some (.map (some g)) := (cell_of_row _ _ 11 _ _ _ hr2).trans rfl
  have f11 : w2.frozen? ⟨q, 11, none⟩ = false := frozen_of_row w2 _ _ _ _ hr2
  obtain ⟨W3, hW3⟩ : ∃ z, w2.setCell ⟨q, 11, none⟩ (.map (some W1.heap.size)) = z := ⟨_, rfl⟩
  have hr3 : W3.heap[q]? = some (.cells (waA n s W1.heap.size) TW (0, 0)) := by rw [← hW3]; exact (heap_setCell_same w2 q 11 _ TW _ hr2).trans rfl
  have hne : W1.heap.size ≠ q := by have := row_lt HR1.out; omega
  have hm3 : TrM W3 W1.heap.size s.L := hm2.block (by rw [← hW3]; exact heap_setCell_other w2 ⟨q, 11, none⟩ _ _ hne)
  have hb3 : Below w.heap.size w W3 := by rw [← hW3]; exact (HB1.out.trans (hb2.mono HB1.out.size)).setCell (p := ⟨q, 11, none⟩) (Nat.le_of_eq HQ.out) _
  have HF : Hid (WaX q n s W3 (fun k => w.heap.size ≤ k ∧ k < W3.heap.size) ∧ Below w.heap.size w W3) := Lib.hid ⟨⟨_, hr3, ⟨Nat.le_of_eq HQ.out, row_lt hr3⟩, ⟨HB1.out.size, hm3.2.2.lt⟩, hm3, fun k hk => hk.2⟩, hb3⟩
  clear hm2 hb2 hr2 hr3 hne hm3 hb3
  go_wp2_with (first | rw [hW3])
  go_ret
  exact ⟨q, rfl, HF.out⟩
end Lt
end Go.Proofs.Ytgbblegcjladaaa
namespace Go.Proofs.Ytgbblegcjladaaa
open Go.ChangeShapes Go.WideShapes Go.ChangeAt Go.RowKit Go.Deep Go.Maps Go.ChangeMaps Go.MapKept
set_option linter.unusedVariables false
set_option maxRecDepth 100000
set_option linter.unusedSimpArgs false
namespace Lt
open Mp Mc
variable {w w' : World} {S : Nat → Prop} {p g : Nat} {n : Int} {s : Wa} {L : List Tr}
theorem mid8 (c : Cmd) (h : w.heap[p]? = some (.cells (waA n s g) TW (0, 0))) : (w.setCells p 2 (cmA c).toList).heap[p]? = some (.cells (waA n { s with c := c } g) TW (0, 0)) := by
  have h0 : (w.setCell ⟨p, 2, none⟩ (.int .i64 c.kind)).heap[p]? = some (.cells #[.int .i64 n, .int .i64 s.now, .int .i64 c.kind, .int .i64 s.c.node, .int .i64 s.c.token, .slice none 0 0, .int .u64 s.c.boot, .int .u64 s.c.seq, .int .u64 s.c.serial, .int .u64 s.c.stamp, .int .i64 s.made, .map (some g)] TW (0, 0)) := (heap_setCell_same _ p 2 _ TW _ h).trans rfl
  have h1 : ((w.setCell ⟨p, 2, none⟩ (.int .i64 c.kind)).setCell ⟨p, 3, none⟩ (.int .i64 c.node)).heap[p]? = some (.cells #[.int .i64 n, .int .i64 s.now, .int .i64 c.kind, .int .i64 c.node, .int .i64 s.c.token, .slice none 0 0, .int .u64 s.c.boot, .int .u64 s.c.seq, .int .u64 s.c.serial, .int .u64 s.c.stamp, .int .i64 s.made, .map (some g)] TW (0, 0)) := (heap_setCell_same _ p 3 _ TW _ h0).trans rfl
  have h2 : (((w.setCell ⟨p, 2, none⟩ (.int .i64 c.kind)).setCell ⟨p, 3, none⟩ (.int .i64 c.node)).setCell ⟨p, 4, none⟩ (.int .i64 c.token)).heap[p]? = some (.cells #[.int .i64 n, .int .i64 s.now, .int .i64 c.kind, .int .i64 c.node, .int .i64 c.token, .slice none 0 0, .int .u64 s.c.boot, .int .u64 s.c.seq, .int .u64 s.c.serial, .int .u64 s.c.stamp, .int .i64 s.made, .map (some g)] TW (0, 0)) := (heap_setCell_same _ p 4 _ TW _ h1).trans rfl
  have h3 : ((((w.setCell ⟨p, 2, none⟩ (.int .i64 c.kind)).setCell ⟨p, 3, none⟩ (.int .i64 c.node)).setCell ⟨p, 4, none⟩ (.int .i64 c.token)).setCell ⟨p, 5, none⟩ (.slice none 0 0)).heap[p]? = some (.cells #[.int .i64 n, .int .i64 s.now, .int .i64 c.kind, .int .i64 c.node, .int .i64 c.token, .slice none 0 0, .int .u64 s.c.boot, .int .u64 s.c.seq, .int .u64 s.c.serial, .int .u64 s.c.stamp, .int .i64 s.made, .map (some g)] TW (0, 0)) := (heap_setCell_same _ p 5 _ TW _ h2).trans rfl
  have h4 : (((((w.setCell ⟨p, 2, none⟩ (.int .i64 c.kind)).setCell ⟨p, 3, none⟩ (.int .i64 c.node)).setCell ⟨p, 4, none⟩ (.int .i64 c.token)).setCell ⟨p, 5, none⟩ (.slice none 0 0)).setCell ⟨p, 6, none⟩ (.int .u64 c.boot)).heap[p]? = some (.cells #[.int .i64 n, .int .i64 s.now, .int .i64 c.kind, .int .i64 c.node, .int .i64 c.token, .slice none 0 0, .int .u64 c.boot, .int .u64 s.c.seq, .int .u64 s.c.serial, .int .u64 s.c.stamp, .int .i64 s.made, .map (some g)] TW (0, 0)) := (heap_setCell_same _ p 6 _ TW _ h3).trans rfl
  have h5 : ((((((w.setCell ⟨p, 2, none⟩ (.int .i64 c.kind)).setCell ⟨p, 3, none⟩ (.int .i64 c.node)).setCell ⟨p, 4, none⟩ (.int .i64 c.token)).setCell ⟨p, 5, none⟩ (.slice none 0 0)).setCell ⟨p, 6, none⟩ (.int .u64 c.boot)).setCell ⟨p, 7, none⟩ (.int .u64 c.seq)).heap[p]? = some (.cells #[.int .i64 n, .int .i64 s.now, .int .i64 c.kind, .int .i64 c.node, .int .i64 c.token, .slice none 0 0, .int .u64 c.boot, .int .u64 c.seq, .int .u64 s.c.serial, .int .u64 s.c.stamp, .int .i64 s.made, .map (some g)] TW (0, 0)) := (heap_setCell_same _ p 7 _ TW _ h4).trans rfl
  have h6 : (((((((w.setCell ⟨p, 2, none⟩ (.int .i64 c.kind)).setCell ⟨p, 3, none⟩ (.int .i64 c.node)).setCell ⟨p, 4, none⟩ (.int .i64 c.token)).setCell ⟨p, 5, none⟩ (.slice none 0 0)).setCell ⟨p, 6, none⟩ (.int .u64 c.boot)).setCell ⟨p, 7, none⟩ (.int .u64 c.seq)).setCell ⟨p, 8, none⟩ (.int .u64 c.serial)).heap[p]? = some (.cells #[.int .i64 n, .int .i64 s.now, .int .i64 c.kind, .int .i64 c.node, .int .i64 c.token, .slice none 0 0, .int .u64 c.boot, .int .u64 c.seq, .int .u64 c.serial, .int .u64 s.c.stamp, .int .i64 s.made, .map (some g)] TW (0, 0)) := (heap_setCell_same _ p 8 _ TW _ h5).trans rfl
  have h7 : ((((((((w.setCell ⟨p, 2, none⟩ (.int .i64 c.kind)).setCell ⟨p, 3, none⟩ (.int .i64 c.node)).setCell ⟨p, 4, none⟩ (.int .i64 c.token)).setCell ⟨p, 5, none⟩ (.slice none 0 0)).setCell ⟨p, 6, none⟩ (.int .u64 c.boot)).setCell ⟨p, 7, none⟩ (.int .u64 c.seq)).setCell ⟨p, 8, none⟩ (.int .u64 c.serial)).setCell ⟨p, 9, none⟩ (.int .u64 c.stamp)).heap[p]? = some (.cells #[.int .i64 n, .int .i64 s.now, .int .i64 c.kind, .int .i64 c.node, .int .i64 c.token, .slice none 0 0, .int .u64 c.boot, .int .u64 c.seq, .int .u64 c.serial, .int .u64 c.stamp, .int .i64 s.made, .map (some g)] TW (0, 0)) := (heap_setCell_same _ p 9 _ TW _ h6).trans rfl
  exact h7
theorem midO (c : Cmd) (hp : S p) : Only S w (w.setCells p 2 (cmA c).toList) := by
  have o0 : Only S w (w.setCell ⟨p, 2, none⟩ (.int .i64 c.kind)) := Only.setCell _ ⟨p, 2, none⟩ _ hp
  have o1 : Only S w ((w.setCell ⟨p, 2, none⟩ (.int .i64 c.kind)).setCell ⟨p, 3, none⟩ (.int .i64 c.node)) := o0.trans (Only.setCell _ ⟨p, 3, none⟩ _ hp)
  have o2 : Only S w (((w.setCell ⟨p, 2, none⟩ (.int .i64 c.kind)).setCell ⟨p, 3, none⟩ (.int .i64 c.node)).setCell ⟨p, 4, none⟩ (.int .i64 c.token)) := o1.trans (Only.setCell _ ⟨p, 4, none⟩ _ hp)
  have o3 : Only S w ((((w.setCell ⟨p, 2, none⟩ (.int .i64 c.kind)).setCell ⟨p, 3, none⟩ (.int .i64 c.node)).setCell ⟨p, 4, none⟩ (.int .i64 c.token)).setCell ⟨p, 5, none⟩ (.slice none 0 0)) := o2.trans (Only.setCell _ ⟨p, 5, none⟩ _ hp)
  have o4 : Only S w (((((w.setCell ⟨p, 2, none⟩ (.int .i64 c.kind)).setCell ⟨p, 3, none⟩ (.int .i64 c.node)).setCell ⟨p, 4, none⟩ (.int .i64 c.token)).setCell ⟨p, 5, none⟩ (.slice none 0 0)).setCell ⟨p, 6, none⟩ (.int .u64 c.boot)) := o3.trans (Only.setCell _ ⟨p, 6, none⟩ _ hp)
  have o5 : Only S w ((((((w.setCell ⟨p, 2, none⟩ (.int .i64 c.kind)).setCell ⟨p, 3, none⟩ (.int .i64 c.node)).setCell ⟨p, 4, none⟩ (.int .i64 c.token)).setCell ⟨p, 5, none⟩ (.slice none 0 0)).setCell ⟨p, 6, none⟩ (.int .u64 c.boot)).setCell ⟨p, 7, none⟩ (.int .u64 c.seq)) := o4.trans (Only.setCell _ ⟨p, 7, none⟩ _ hp)
  have o6 : Only S w (((((((w.setCell ⟨p, 2, none⟩ (.int .i64 c.kind)).setCell ⟨p, 3, none⟩ (.int .i64 c.node)).setCell ⟨p, 4, none⟩ (.int .i64 c.token)).setCell ⟨p, 5, none⟩ (.slice none 0 0)).setCell ⟨p, 6, none⟩ (.int .u64 c.boot)).setCell ⟨p, 7, none⟩ (.int .u64 c.seq)).setCell ⟨p, 8, none⟩ (.int .u64 c.serial)) := o5.trans (Only.setCell _ ⟨p, 8, none⟩ _ hp)
  have o7 : Only S w ((((((((w.setCell ⟨p, 2, none⟩ (.int .i64 c.kind)).setCell ⟨p, 3, none⟩ (.int .i64 c.node)).setCell ⟨p, 4, none⟩ (.int .i64 c.token)).setCell ⟨p, 5, none⟩ (.slice none 0 0)).setCell ⟨p, 6, none⟩ (.int .u64 c.boot)).setCell ⟨p, 7, none⟩ (.int .u64 c.seq)).setCell ⟨p, 8, none⟩ (.int .u64 c.serial)).setCell ⟨p, 9, none⟩ (.int .u64 c.stamp)) := o6.trans (Only.setCell _ ⟨p, 9, none⟩ _ hp)
  exact o7
theorem midN (c : Cmd) {k : Nat} (hp : k ≠ p) : (w.setCells p 2 (cmA c).toList).heap[k]? = w.heap[k]? := by
  have o0 : (w.setCell ⟨p, 2, none⟩ (.int .i64 c.kind)).heap[k]? = w.heap[k]? := heap_setCell_other _ ⟨p, 2, none⟩ k _ hp
  have o1 : ((w.setCell ⟨p, 2, none⟩ (.int .i64 c.kind)).setCell ⟨p, 3, none⟩ (.int .i64 c.node)).heap[k]? = w.heap[k]? := (heap_setCell_other _ ⟨p, 3, none⟩ k _ hp).trans o0
  have o2 : (((w.setCell ⟨p, 2, none⟩ (.int .i64 c.kind)).setCell ⟨p, 3, none⟩ (.int .i64 c.node)).setCell ⟨p, 4, none⟩ (.int .i64 c.token)).heap[k]? = w.heap[k]? := (heap_setCell_other _ ⟨p, 4, none⟩ k _ hp).trans o1
  have o3 : ((((w.setCell ⟨p, 2, none⟩ (.int .i64 c.kind)).setCell ⟨p, 3, none⟩ (.int .i64 c.node)).setCell ⟨p, 4, none⟩ (.int .i64 c.token)).setCell ⟨p, 5, none⟩ (.slice none 0 0)).heap[k]? = w.heap[k]? := (heap_setCell_other _ ⟨p, 5, none⟩ k _ hp).trans o2
  have o4 : (((((w.setCell ⟨p, 2, none⟩ (.int .i64 c.kind)).setCell ⟨p, 3, none⟩ (.int .i64 c.node)).setCell ⟨p, 4, none⟩ (.int .i64 c.token)).setCell ⟨p, 5, none⟩ (.slice none 0 0)).setCell ⟨p, 6, none⟩ (.int .u64 c.boot)).heap[k]? = w.heap[k]? := (heap_setCell_other _ ⟨p, 6, none⟩ k _ hp).trans o3
  have o5 : ((((((w.setCell ⟨p, 2, none⟩ (.int .i64 c.kind)).setCell ⟨p, 3, none⟩ (.int .i64 c.node)).setCell ⟨p, 4, none⟩ (.int .i64 c.token)).setCell ⟨p, 5, none⟩ (.slice none 0 0)).setCell ⟨p, 6, none⟩ (.int .u64 c.boot)).setCell ⟨p, 7, none⟩ (.int .u64 c.seq)).heap[k]? = w.heap[k]? := (heap_setCell_other _ ⟨p, 7, none⟩ k _ hp).trans o4
  have o6 : (((((((w.setCell ⟨p, 2, none⟩ (.int .i64 c.kind)).setCell ⟨p, 3, none⟩ (.int .i64 c.node)).setCell ⟨p, 4, none⟩ (.int .i64 c.token)).setCell ⟨p, 5, none⟩ (.slice none 0 0)).setCell ⟨p, 6, none⟩ (.int .u64 c.boot)).setCell ⟨p, 7, none⟩ (.int .u64 c.seq)).setCell ⟨p, 8, none⟩ (.int .u64 c.serial)).heap[k]? = w.heap[k]? := (heap_setCell_other _ ⟨p, 8, none⟩ k _ hp).trans o5
  have o7 : ((((((((w.setCell ⟨p, 2, none⟩ (.int .i64 c.kind)).setCell ⟨p, 3, none⟩ (.int .i64 c.node)).setCell ⟨p, 4, none⟩ (.int .i64 c.token)).setCell ⟨p, 5, none⟩ (.slice none 0 0)).setCell ⟨p, 6, none⟩ (.int .u64 c.boot)).setCell ⟨p, 7, none⟩ (.int .u64 c.seq)).setCell ⟨p, 8, none⟩ (.int .u64 c.serial)).setCell ⟨p, 9, none⟩ (.int .u64 c.stamp)).heap[k]? = w.heap[k]? := (heap_setCell_other _ ⟨p, 9, none⟩ k _ hp).trans o6
  exact o7
/-- a request that may be -/
def reqB (c : Cmd) : Bool := (c.kind == 3 || c.kind == 4 || c.kind == 5) && Cm.chkC c
def bare (c : Cmd) : Cmd := { c with nodes := [] }
def askE (s : Wa) (c : Cmd) : Int := if reqB c then (if s.c.kind = 0 then 0 else 3) else 40
def askV (s : Wa) (c : Cmd) : Wa := if reqB c = true ∧ s.c.kind = 0 then { s with c := bare c, made := s.now } else s
theorem cmA_one (c : Cmd) : (cmA c).all (·.oneCell') = true := by simp [Value.oneCell']
theorem thereW (h : w.heap[p]? = some (.cells (waA n s g) TW (0, 0))) : w.there p 2 8 := fun j hj => by
  rcases (by omega : j = 0 ∨ j = 1 ∨ j = 2 ∨ j = 3 ∨ j = 4 ∨ j = 5 ∨ j = 6 ∨ j = 7) with rfl | rfl | rfl | rfl | rfl | rfl | rfl | rfl <;> exact ⟨by rw [cell_of_row _ _ _ _ _ _ h]; rfl, frozen_of_row _ _ _ _ _ h⟩
set_option maxRecDepth 100000 in
set_option maxHeartbeats 16000000 in
theorem ask_any (c : Cmd) (vc : Value) (w : World) (h : WaX p n s w S) (hc : IsCmd w vc c) :
    Calls Try.prog 28 #[.pointer (some ⟨p, 0, none⟩), vc] w fun e w' => e = .returned (.int .i64 (askE s c)) ∧ Mc.Left (WaX p n (askV s c)) S w w' := by
  obtain ⟨g, h⟩ := h
  obtain ⟨vn, rfl, hsl, hwf⟩ := id hc
  obtain ⟨r, hr⟩ : ∃ z, w.heap.size = z := ⟨_, rfl⟩
  obtain ⟨W1, hW1⟩ : ∃ z, w.alloc (.cells #[.int .i64 c.kind, .int .i64 c.node, .int .i64 c.token, vn, .int .u64 c.boot, .int .u64 c.seq, .int .u64 c.serial, .int .u64 c.stamp] 58) = z := ⟨_, rfl⟩
  have hb1 : Below w.heap.size w W1 := by rw [← hW1]; exact (Below.refl _ _).alloc (Nat.le_refl _) _
  have hr1 : W1.heap[r]? = some (.cells #[.int .i64 c.kind, .int .i64 c.node, .int .i64 c.token, vn, .int .u64 c.boot, .int .u64 c.seq, .int .u64 c.serial, .int .u64 c.stamp] 58 (0, 0)) := by rw [← hW1, ← hr]; exact heap_alloc_new _ _
  have k0 : W1.cell? ⟨r, 0, none⟩ = some (.int .i64 c.kind) := (cell_of_row _ _ 0 _ _ _ hr1).trans rfl
  have k1 : W1.cell? ⟨r, 1, none⟩ = some (.int .i64 c.node) := (cell_of_row _ _ 1 _ _ _ hr1).trans rfl
  have k2 : W1.cell? ⟨r, 2, none⟩ = some (.int .i64 c.token) := (cell_of_row _ _ 2 _ _ _ hr1).trans rfl
  have k3 : W1.cell? ⟨r, 3, none⟩ = some (vn) := (cell_of_row _ _ 3 _ _ _ hr1).trans rfl
  have k4 : W1.cell? ⟨r, 4, none⟩ = some (.int .u64 c.boot) := (cell_of_row _ _ 4 _ _ _ hr1).trans rfl
  have k5 : W1.cell? ⟨r, 5, none⟩ = some (.int .u64 c.seq) := (cell_of_row _ _ 5 _ _ _ hr1).trans rfl
  have k6 : W1.cell? ⟨r, 6, none⟩ = some (.int .u64 c.serial) := (cell_of_row _ _ 6 _ _ _ hr1).trans rfl
  have k7 : W1.cell? ⟨r, 7, none⟩ = some (.int .u64 c.stamp) := (cell_of_row _ _ 7 _ _ _ hr1).trans rfl
  have HC1 := Lib.hid (hc.below hb1 (Nat.le_refl _))
  have HB1 := Lib.hid hb1
  have HR1 := Lib.hid hr1
  have H := Lib.hid h
  have HRE := Lib.hid hr
  have HPR : Hid (p ≠ r) := Lib.hid (by have := row_lt h.row; omega)
  clear hb1 hr1 hc hsl hwf h
  by_cases hq : (c.kind == 3 || c.kind == 4 || c.kind == 5) = true
  rotate_left
  · have HE : Hid (askE s c = 40 ∧ askV s c = s) := Lib.hid (by unfold askE askV reqB; rw [Bool.not_eq_true] at hq; rw [hq]; simp)
    have hq3 : (c.kind == 3) = false := by cases hh : c.kind == 3 <;> simp [hh] at hq ⊢
    have hq4 : (c.kind == 4) = false := by cases hh : c.kind == 4 <;> simp [hh] at hq ⊢
    have hq5 : (c.kind == 5) = false := by cases hh : c.kind == 5 <;> simp [hh] at hq ⊢
    clear hq
    go_enter Try.func28, Try.ntmps28
    go_wp2_with (first | rw [hW1, hr])
    go_ret
    exact ⟨by rw [HE.out.1]; rfl, by rw [HE.out.2]; exact Mc.Left.same (goodW p n s) ⟨g, H.out⟩ HB1.out⟩
  have HQ := Lib.hid hq
  have hs : (c.kind == 3) = true ∨ ((c.kind == 3) = false ∧ (c.kind == 4) = true) ∨ ((c.kind == 3) = false ∧ (c.kind == 4) = false ∧ (c.kind == 5) = true) := by
    cases h3 : c.kind == 3 <;> cases h4 : c.kind == 4 <;> cases h5 : c.kind == 5 <;> simp [h3, h4, h5] at hq ⊢
  clear hq
  rcases hs with hq3 | ⟨hq3, hq4⟩ | ⟨hq3, hq4, hq5⟩
  · have _u := ()
    go_enter Try.func28, Try.ntmps28
    go_upto_region 6 with (first | rw [hW1, hr])
    go_wp2_with fail
    refine (Cm.check_any c _ W1 HC1.out).mono ?_
    rintro e w2 ⟨rfl, hb2⟩
    have HB2 := Lib.hid (HB1.out.trans (hb2.mono HB1.out.size))
    have HR2 := Lib.hid ((hb2.block r (row_lt HR1.out)).trans HR1.out)
    clear k0 k1 k2 k3 k4 k5 k6 k7 hb2 hW1 hr
    cases hch : Cm.chkC c
    · have HE : Hid (askE s c = 40 ∧ askV s c = s) := Lib.hid (by unfold askE askV reqB; rw [hch]; simp)
      simp only [Cm.cErr, Bool.false_eq_true, if_false]
      clear hch
      go_wp2
      go_ret
      exact ⟨by rw [HE.out.1]; rfl, by rw [HE.out.2]; exact Mc.Left.same (goodW p n s) ⟨g, H.out⟩ HB2.out⟩
    · have HQB : Hid (reqB c = true) := Lib.hid (by unfold reqB; rw [hch]; simp [HQ.out])
      simp only [Cm.cErr, if_true]
      clear hch
      have H2 := Lib.hid (H.out.keep (w' := w2) (fun k hk => HB2.out.block k (H.out.low k hk)) HB2.out.size)
      go_wp2_with fail
      refine (asked_any w2 ⟨g, H2.out⟩).mono ?_
      rintro e w3 ⟨rfl, hb3⟩
      obtain ⟨W4, hW4⟩ : ∃ z, w3.alloc (.cells (cmA s.c) 58) = z := ⟨_, rfl⟩
      have hb4 : Below w2.heap.size w2 W4 := by rw [← hW4]; exact hb3.alloc hb3.size _
      have HB4 := Lib.hid (HB2.out.trans (hb4.mono HB2.out.size))
      have HR4 := Lib.hid ((hb4.block r (row_lt HR2.out)).trans HR2.out)
      have H4 := Lib.hid (H.out.keep (w' := W4) (fun k hk => HB4.out.block k (H.out.low k hk)) HB4.out.size)
      clear hb3 hb4
      by_cases hk : s.c.kind = 0
      · have hkb : (s.c.kind != 0) = false := by rw [hk]; rfl
        have HE : Hid (askE s c = 0 ∧ askV s c = { s with c := bare c, made := s.now }) := Lib.hid (by unfold askE askV; rw [HQB.out, hk]; simp)
        have e3 : W4.cell? ⟨r, 3, none⟩ = some vn := (cell_of_row _ _ 3 _ _ _ HR4.out).trans rfl
        have f3 : W4.frozen? ⟨r, 3, none⟩ = false := frozen_of_row W4 _ _ _ _ HR4.out
        obtain ⟨W5, hW5⟩ : ∃ z, W4.setCell ⟨r, 3, none⟩ (.slice none 0 0) = z := ⟨_, rfl⟩
        have hr5 : W5.heap[r]? = some (.cells (cmA c) 58 (0, 0)) := by rw [← hW5]; exact (heap_setCell_same W4 r 3 _ 58 _ HR4.out).trans rfl
        have hp5 : W5.heap[p]? = some (.cells (waA n s g) TW (0, 0)) := by rw [← hW5]; exact (heap_setCell_other W4 ⟨r, 3, none⟩ p _ HPR.out).trans H4.out.row
        have ho5 : Below w.heap.size w W5 := by rw [← hW5]; exact HB4.out.setCell (p := ⟨r, 3, none⟩) (Nat.le_of_eq HRE.out) _
        have q0 : W5.cell? ⟨r, 0, none⟩ = some (.int .i64 c.kind) := (cell_of_row _ _ 0 _ _ _ hr5).trans rfl
        have q1 : W5.cell? ⟨r, 1, none⟩ = some (.int .i64 c.node) := (cell_of_row _ _ 1 _ _ _ hr5).trans rfl
        have q2 : W5.cell? ⟨r, 2, none⟩ = some (.int .i64 c.token) := (cell_of_row _ _ 2 _ _ _ hr5).trans rfl
        have q3 : W5.cell? ⟨r, 3, none⟩ = some (.slice none 0 0) := (cell_of_row _ _ 3 _ _ _ hr5).trans rfl
        have q4 : W5.cell? ⟨r, 4, none⟩ = some (.int .u64 c.boot) := (cell_of_row _ _ 4 _ _ _ hr5).trans rfl
        have q5 : W5.cell? ⟨r, 5, none⟩ = some (.int .u64 c.seq) := (cell_of_row _ _ 5 _ _ _ hr5).trans rfl
        have q6 : W5.cell? ⟨r, 6, none⟩ = some (.int .u64 c.serial) := (cell_of_row _ _ 6 _ _ _ hr5).trans rfl
        have q7 : W5.cell? ⟨r, 7, none⟩ = some (.int .u64 c.stamp) := (cell_of_row _ _ 7 _ _ _ hr5).trans rfl
        have hth := thereW hp5
        obtain ⟨W6, hW6⟩ : ∃ z, W5.setCells p 2 (cmA c).toList = z := ⟨_, rfl⟩
        have hp6 : W6.heap[p]? = some (.cells (waA n { s with c := bare c } g) TW (0, 0)) := by rw [← hW6]; exact mid8 (bare c) hp5
        have l1 : W6.cell? ⟨p, 1, none⟩ = some (.int .i64 s.now) := (cell_of_row _ _ 1 _ _ _ hp6).trans rfl
        have l10 : W6.cell? ⟨p, 10, none⟩ = some (.int .i64 s.made) := (cell_of_row _ _ 10 _ _ _ hp6).trans rfl
        have f10 : W6.frozen? ⟨p, 10, none⟩ = false := frozen_of_row W6 _ _ _ _ hp6
        obtain ⟨W7, hW7⟩ : ∃ z, W6.setCell ⟨p, 10, none⟩ (.int .i64 s.now) = z := ⟨_, rfl⟩
        have hp7 : W7.heap[p]? = some (.cells (waA n { s with c := bare c, made := s.now } g) TW (0, 0)) := by rw [← hW7]; exact (heap_setCell_same W6 p 10 _ TW _ hp6).trans rfl
        have hpg : g ≠ p := H.out.m.2.2.row_ne H.out.row
        have hgr : g ≠ r := by have := H.out.low g H.out.sg; have := HRE.out; omega
        have hg7 : W7.heap[g]? = w.heap[g]? := by
          rw [← hW7, heap_setCell_other W6 ⟨p, 10, none⟩ g _ hpg, ← hW6, midN c hpg]
          exact ho5.block g (H.out.low g H.out.sg)
        have ho7 : Only S w W7 := by
          rw [← hW7, ← hW6]
          exact ((Below.only ho5 S).trans (midO c H.out.sp)).trans (Only.setCell _ ⟨p, 10, none⟩ _ H.out.sp)
        have HF : Hid (WaX p n { s with c := bare c, made := s.now } W7 S ∧ Only S w W7) := Lib.hid ⟨⟨g, hp7, H.out.sp, H.out.sg, H.out.m.block hg7, fun k hk => Nat.lt_of_lt_of_le (H.out.low k hk) ho7.2.2.2.1⟩, ho7⟩
        clear hk hr5 hp5 ho5 hp6 hp7 hpg hgr hg7 ho7
        go_wp2_with (first | rw [hW4] | rw [hW5] | (refine wpList_store_mid rfl 58 (.tmp 30) (.tmp 28) rfl p 2 (cmA c) rfl rfl hth (by kernel_rfl) (cmA_one c) ?_; rw [hW6]) | rw [hW7])
        go_ret
        exact ⟨by rw [HE.out.1]; rfl, by rw [HE.out.2]; exact Mc.Left.mk (goodW p n _) HF.out.1 HF.out.2⟩
      · have hkb : (s.c.kind != 0) = true := bne_iff_ne.2 hk
        have HE : Hid (askE s c = 3 ∧ askV s c = s) := Lib.hid (by unfold askE askV; rw [HQB.out]; simp [hk])
        clear hk
        go_wp2_with (first | rw [hW4])
        go_ret
        exact ⟨by rw [HE.out.1]; rfl, by rw [HE.out.2]; exact Mc.Left.same (goodW p n s) ⟨g, H.out⟩ HB4.out⟩
  · have _u := ()
    go_enter Try.func28, Try.ntmps28
    go_upto_region 6 with (first | rw [hW1, hr])
    go_wp2_with fail
    refine (Cm.check_any c _ W1 HC1.out).mono ?_
    rintro e w2 ⟨rfl, hb2⟩
    have HB2 := Lib.hid (HB1.out.trans (hb2.mono HB1.out.size))
    have HR2 := Lib.hid ((hb2.block r (row_lt HR1.out)).trans HR1.out)
    clear k0 k1 k2 k3 k4 k5 k6 k7 hb2 hW1 hr
    cases hch : Cm.chkC c
    · have HE : Hid (askE s c = 40 ∧ askV s c = s) := Lib.hid (by unfold askE askV reqB; rw [hch]; simp)
      simp only [Cm.cErr, Bool.false_eq_true, if_false]
      clear hch
      go_wp2
      go_ret
      exact ⟨by rw [HE.out.1]; rfl, by rw [HE.out.2]; exact Mc.Left.same (goodW p n s) ⟨g, H.out⟩ HB2.out⟩
    · have HQB : Hid (reqB c = true) := Lib.hid (by unfold reqB; rw [hch]; simp [HQ.out])
      simp only [Cm.cErr, if_true]
      clear hch
      have H2 := Lib.hid (H.out.keep (w' := w2) (fun k hk => HB2.out.block k (H.out.low k hk)) HB2.out.size)
      go_wp2_with fail
      refine (asked_any w2 ⟨g, H2.out⟩).mono ?_
      rintro e w3 ⟨rfl, hb3⟩
      obtain ⟨W4, hW4⟩ : ∃ z, w3.alloc (.cells (cmA s.c) 58) = z := ⟨_, rfl⟩
      have hb4 : Below w2.heap.size w2 W4 := by rw [← hW4]; exact hb3.alloc hb3.size _
      have HB4 := Lib.hid (HB2.out.trans (hb4.mono HB2.out.size))
      have HR4 := Lib.hid ((hb4.block r (row_lt HR2.out)).trans HR2.out)
      have H4 := Lib.hid (H.out.keep (w' := W4) (fun k hk => HB4.out.block k (H.out.low k hk)) HB4.out.size)
      clear hb3 hb4
      by_cases hk : s.c.kind = 0
      · have hkb : (s.c.kind != 0) = false := by rw [hk]; rfl
        have HE : Hid (askE s c = 0 ∧ askV s c = { s with c := bare c, made := s.now }) := Lib.hid (by unfold askE askV; rw [HQB.out, hk]; simp)
        have e3 : W4.cell? ⟨r, 3, none⟩ = some vn := (cell_of_row _ _ 3 _ _ _ HR4.out).trans rfl
        have f3 : W4.frozen? ⟨r, 3, none⟩ = false := frozen_of_row W4 _ _ _ _ HR4.out
        obtain ⟨W5, hW5⟩ : ∃ z, W4.setCell ⟨r, 3, none⟩ (.slice none 0 0) = z := ⟨_, rfl⟩
        have hr5 : W5.heap[r]? = some (.cells (cmA c) 58 (0, 0)) := by rw [← hW5]; exact (heap_setCell_same W4 r 3 _ 58 _ HR4.out).trans rfl
        have hp5 : W5.heap[p]? = some (.cells (waA n s g) TW (0, 0)) := by rw [← hW5]; exact (heap_setCell_other W4 ⟨r, 3, none⟩ p _ HPR.out).trans H4.out.row
        have ho5 : Below w.heap.size w W5 := by rw [← hW5]; exact HB4.out.setCell (p := ⟨r, 3, none⟩) (Nat.le_of_eq HRE.out) _
        have q0 : W5.cell? ⟨r, 0, none⟩ = some (.int .i64 c.kind) := (cell_of_row _ _ 0 _ _ _ hr5).trans rfl
        have q1 : W5.cell? ⟨r, 1, none⟩ = some (.int .i64 c.node) := (cell_of_row _ _ 1 _ _ _ hr5).trans rfl
        have q2 : W5.cell? ⟨r, 2, none⟩ = some (.int .i64 c.token) := (cell_of_row _ _ 2 _ _ _ hr5).trans rfl
        have q3 : W5.cell? ⟨r, 3, none⟩ = some (.slice none 0 0) := (cell_of_row _ _ 3 _ _ _ hr5).trans rfl
        have q4 : W5.cell? ⟨r, 4, none⟩ = some (.int .u64 c.boot) := (cell_of_row _ _ 4 _ _ _ hr5).trans rfl
        have q5 : W5.cell? ⟨r, 5, none⟩ = some (.int .u64 c.seq) := (cell_of_row _ _ 5 _ _ _ hr5).trans rfl
        have q6 : W5.cell? ⟨r, 6, none⟩ = some (.int .u64 c.serial) := (cell_of_row _ _ 6 _ _ _ hr5).trans rfl
        have q7 : W5.cell? ⟨r, 7, none⟩ = some (.int .u64 c.stamp) := (cell_of_row _ _ 7 _ _ _ hr5).trans rfl
        have hth := thereW hp5
        obtain ⟨W6, hW6⟩ : ∃ z, W5.setCells p 2 (cmA c).toList = z := ⟨_, rfl⟩
        have hp6 : W6.heap[p]? = some (.cells (waA n { s with c := bare c } g) TW (0, 0)) := by rw [← hW6]; exact mid8 (bare c) hp5
        have l1 : W6.cell? ⟨p, 1, none⟩ = some (.int .i64 s.now) := (cell_of_row _ _ 1 _ _ _ hp6).trans rfl
        have l10 : W6.cell? ⟨p, 10, none⟩ = some (.int .i64 s.made) := (cell_of_row _ _ 10 _ _ _ hp6).trans rfl
        have f10 : W6.frozen? ⟨p, 10, none⟩ = false := frozen_of_row W6 _ _ _ _ hp6
        obtain ⟨W7, hW7⟩ : ∃ z, W6.setCell ⟨p, 10, none⟩ (.int .i64 s.now) = z := ⟨_, rfl⟩
        have hp7 : W7.heap[p]? = some (.cells (waA n { s with c := bare c, made := s.now } g) TW (0, 0)) := by rw [← hW7]; exact (heap_setCell_same W6 p 10 _ TW _ hp6).trans rfl
        have hpg : g ≠ p := H.out.m.2.2.row_ne H.out.row
        have hgr : g ≠ r := by have := H.out.low g H.out.sg; have := HRE.out; omega
        have hg7 : W7.heap[g]? = w.heap[g]? := by
          rw [← hW7, heap_setCell_other W6 ⟨p, 10, none⟩ g _ hpg, ← hW6, midN c hpg]
          exact ho5.block g (H.out.low g H.out.sg)
        have ho7 : Only S w W7 := by
          rw [← hW7, ← hW6]
          exact ((Below.only ho5 S).trans (midO c H.out.sp)).trans (Only.setCell _ ⟨p, 10, none⟩ _ H.out.sp)
        have HF : Hid (WaX p n { s with c := bare c, made := s.now } W7 S ∧ Only S w W7) := Lib.hid ⟨⟨g, hp7, H.out.sp, H.out.sg, H.out.m.block hg7, fun k hk => Nat.lt_of_lt_of_le (H.out.low k hk) ho7.2.2.2.1⟩, ho7⟩
        clear hk hr5 hp5 ho5 hp6 hp7 hpg hgr hg7 ho7
        go_wp2_with (first | rw [hW4] | rw [hW5] | (refine wpList_store_mid rfl 58 (.tmp 30) (.tmp 28) rfl p 2 (cmA c) rfl rfl hth (by kernel_rfl) (cmA_one c) ?_; rw [hW6]) | rw [hW7])
        go_ret
        exact ⟨by rw [HE.out.1]; rfl, by rw [HE.out.2]; exact Mc.Left.mk (goodW p n _) HF.out.1 HF.out.2⟩
      · have hkb : (s.c.kind != 0) = true := bne_iff_ne.2 hk
        have HE : Hid (askE s c = 3 ∧ askV s c = s) := Lib.hid (by unfold askE askV; rw [HQB.out]; simp [hk])
        clear hk
        go_wp2_with (first | rw [hW4])
        go_ret
        exact ⟨by rw [HE.out.1]; rfl, by rw [HE.out.2]; exact Mc.Left.same (goodW p n s) ⟨g, H.out⟩ HB4.out⟩
  · have _u := ()
    go_enter Try.func28, Try.ntmps28
    go_upto_region 6 with (first | rw [hW1, hr])
    go_wp2_with fail
    refine (Cm.check_any c _ W1 HC1.out).mono ?_
    rintro e w2 ⟨rfl, hb2⟩
    have HB2 := Lib.hid (HB1.out.trans (hb2.mono HB1.out.size))
    have HR2 := Lib.hid ((hb2.block r (row_lt HR1.out)).trans HR1.out)
    clear k0 k1 k2 k3 k4 k5 k6 k7 hb2 hW1 hr
    cases hch : Cm.chkC c
    · have HE : Hid (askE s c = 40 ∧ askV s c = s) := Lib.hid (by unfold askE askV reqB; rw [hch]; simp)
      simp only [Cm.cErr, Bool.false_eq_true, if_false]
      clear hch
      go_wp2
      go_ret
      exact ⟨by rw [HE.out.1]; rfl, by rw [HE.out.2]; exact Mc.Left.same (goodW p n s) ⟨g, H.out⟩ HB2.out⟩
    · have HQB : Hid (reqB c = true) := Lib.hid (by unfold reqB; rw [hch]; simp [HQ.out])
      simp only [Cm.cErr, if_true]
      clear hch
      have H2 := Lib.hid (H.out.keep (w' := w2) (fun k hk => HB2.out.block k (H.out.low k hk)) HB2.out.size)
      go_wp2_with fail
      refine (asked_any w2 ⟨g, H2.out⟩).mono ?_
      rintro e w3 ⟨rfl, hb3⟩
      obtain ⟨W4, hW4⟩ : ∃ z, w3.alloc (.cells (cmA s.c) 58) = z := ⟨_, rfl⟩
      have hb4 : Below w2.heap.size w2 W4 := by rw [← hW4]; exact hb3.alloc hb3.size _
      have HB4 := Lib.hid (HB2.out.trans (hb4.mono HB2.out.size))
      have HR4 := Lib.hid ((hb4.block r (row_lt HR2.out)).trans HR2.out)
      have H4 := Lib.hid (H.out.keep (w' := W4) (fun k hk => HB4.out.block k (H.out.low k hk)) HB4.out.size)
      clear hb3 hb4
      by_cases hk : s.c.kind = 0
      · have hkb : (s.c.kind != 0) = false := by rw [hk]; rfl
        have HE : Hid (askE s c = 0 ∧ askV s c = { s with c := bare c, made := s.now }) := Lib.hid (by unfold askE askV; rw [HQB.out, hk]; simp)
        have e3 : W4.cell? ⟨r, 3, none⟩ = some vn := (cell_of_row _ _ 3 _ _ _ HR4.out).trans rfl
        have f3 : W4.frozen? ⟨r, 3, none⟩ = false := frozen_of_row W4 _ _ _ _ HR4.out
        obtain ⟨W5, hW5⟩ : ∃ z, W4.setCell ⟨r, 3, none⟩ (.slice none 0 0) = z := ⟨_, rfl⟩
        have hr5 : W5.heap[r]? = some (.cells (cmA c) 58 (0, 0)) := by rw [← hW5]; exact (heap_setCell_same W4 r 3 _ 58 _ HR4.out).trans rfl
        have hp5 : W5.heap[p]? = some (.cells (waA n s g) TW (0, 0)) := by rw [← hW5]; exact (heap_setCell_other W4 ⟨r, 3, none⟩ p _ HPR.out).trans H4.out.row
        have ho5 : Below w.heap.size w W5 := by rw [← hW5]; exact HB4.out.setCell (p := ⟨r, 3, none⟩) (Nat.le_of_eq HRE.out) _
        have q0 : W5.cell? ⟨r, 0, none⟩ = some (.int .i64 c.kind) := (cell_of_row _ _ 0 _ _ _ hr5).trans rfl
        have q1 : W5.cell? ⟨r, 1, none⟩ = some (.int .i64 c.node) := (cell_of_row _ _ 1 _ _ _ hr5).trans rfl
        have q2 : W5.cell? ⟨r, 2, none⟩ = some (.int .i64 c.token) := (cell_of_row _ _ 2 _ _ _ hr5).trans rfl
        have q3 : W5.cell? ⟨r, 3, none⟩ = some (.slice none 0 0) := (cell_of_row _ _ 3 _ _ _ hr5).trans rfl
        have q4 : W5.cell? ⟨r, 4, none⟩ = some (.int .u64 c.boot) := (cell_of_row _ _ 4 _ _ _ hr5).trans rfl
        have q5 : W5.cell? ⟨r, 5, none⟩ = some (.int .u64 c.seq) := (cell_of_row _ _ 5 _ _ _ hr5).trans rfl
        have q6 : W5.cell? ⟨r, 6, none⟩ = some (.int .u64 c.serial) := (cell_of_row _ _ 6 _ _ _ hr5).trans rfl
        have q7 : W5.cell? ⟨r, 7, none⟩ = some (.int .u64 c.stamp) := (cell_of_row _ _ 7 _ _ _ hr5).trans rfl
        have hth := thereW hp5
        obtain ⟨W6, hW6⟩ : ∃ z, W5.setCells p 2 (cmA c).toList = z := ⟨_, rfl⟩
        have hp6 : W6.heap[p]? = some (.cells (waA n { s with c := bare c } g) TW (0, 0)) := by rw [← hW6]; exact mid8 (bare c) hp5
        have l1 : W6.cell? ⟨p, 1, none⟩ = some (.int .i64 s.now) := (cell_of_row _ _ 1 _ _ _ hp6).trans rfl
        have l10 : W6.cell? ⟨p, 10, none⟩ = some (.int .i64 s.made) := (cell_of_row _ _ 10 _ _ _ hp6).trans rfl
        have f10 : W6.frozen? ⟨p, 10, none⟩ = false := frozen_of_row W6 _ _ _ _ hp6
        obtain ⟨W7, hW7⟩ : ∃ z, W6.setCell ⟨p, 10, none⟩ (.int .i64 s.now) = z := ⟨_, rfl⟩
        have hp7 : W7.heap[p]? = some (.cells (waA n { s with c := bare c, made := s.now } g) TW (0, 0)) := by rw [← hW7]; exact (heap_setCell_same W6 p 10 _ TW _ hp6).trans rfl
        have hpg : g ≠ p := H.out.m.2.2.row_ne H.out.row
        have hgr : g ≠ r := by have := H.out.low g H.out.sg; have := HRE.out; omega
        have hg7 : W7.heap[g]? = w.heap[g]? := by
          rw [← hW7, heap_setCell_other W6 ⟨p, 10, none⟩ g _ hpg, ← hW6, midN c hpg]
          exact ho5.block g (H.out.low g H.out.sg)
        have ho7 : Only S w W7 := by
          rw [← hW7, ← hW6]
          exact ((Below.only ho5 S).trans (midO c H.out.sp)).trans (Only.setCell _ ⟨p, 10, none⟩ _ H.out.sp)
        have HF : Hid (WaX p n { s with c := bare c, made := s.now } W7 S ∧ Only S w W7) := Lib.hid ⟨⟨g, hp7, H.out.sp, H.out.sg, H.out.m.block hg7, fun k hk => Nat.lt_of_lt_of_le (H.out.low k hk) ho7.2.2.2.1⟩, ho7⟩
        clear hk hr5 hp5 ho5 hp6 hp7 hpg hgr hg7 ho7
        go_wp2_with (first | rw [hW4] | rw [hW5] | (refine wpList_store_mid rfl 58 (.tmp 30) (.tmp 28) rfl p 2 (cmA c) rfl rfl hth (by kernel_rfl) (cmA_one c) ?_; rw [hW6]) | rw [hW7])
        go_ret
        exact ⟨by rw [HE.out.1]; rfl, by rw [HE.out.2]; exact Mc.Left.mk (goodW p n _) HF.out.1 HF.out.2⟩
      · have hkb : (s.c.kind != 0) = true := bne_iff_ne.2 hk
        have HE : Hid (askE s c = 3 ∧ askV s c = s) := Lib.hid (by unfold askE askV; rw [HQB.out]; simp [hk])
        clear hk
        go_wp2_with (first | rw [hW4])
        go_ret
        exact ⟨by rw [HE.out.1]; rfl, by rw [HE.out.2]; exact Mc.Left.same (goodW p n s) ⟨g, H.out⟩ HB4.out⟩
end Lt
end Go.Proofs.Ytgbblegcjladaaa
namespace Go.Proofs.Ytgbblegcjladaaa
open Go.ChangeShapes Go.WideShapes Go.ChangeAt Go.RowKit Go.Deep Go.Maps Go.ChangeMaps Go.MapKept
set_option linter.unusedVariables false
set_option maxRecDepth 100000
set_option linter.unusedSimpArgs false
namespace Lt
open Mp Mc
abbrev TX : TypeId := 120
abbrev TXT : TypeId := 121
abbrev rwA (n now sent : Int) (is : Bool) (c : Cmd) (vl : Value) : Array Value := #[.int .i64 n, .int .i64 now, .int .i64 sent, .bool is, .int .i64 c.kind, .int .i64 c.node, .int .i64 c.token, .slice none 0 0, .int .u64 c.boot, .int .u64 c.seq, .int .u64 c.serial, .int .u64 c.stamp, vl]
/-- the document's wallet in the state s: when was asked is kept behind the answer, so it is free where nothing is asked -/
structure RwG (q : Nat) (n : Int) (s : Wa) (sent : Int) (vl : Value) (w : World) (S : Nat → Prop) : Prop where
  row : w.heap[q]? = some (.cells (rwA n s.now sent (s.c.kind != 0) s.c vl) TX (0, 0))
  sq : S q
  at_ : s.c.kind ≠ 0 → sent = s.made
  srt : Srt s.L
  wf : ∀ x ∈ s.L, x.wf
  l : OwnR 3 trC TXT w 0 vl s.L
  hs : ∀ k, vl.ownBlock = some k → S k
  low : ∀ k, S k → k < w.heap.size
def RwX (q : Nat) (n : Int) (s : Wa) (w : World) (S : Nat → Prop) : Prop := ∃ sent vl, RwG q n s sent vl w S
variable {w w' : World} {S : Nat → Prop} {q : Nat} {n sent : Int} {s : Wa} {vl : Value}
theorem RwG.keep (h : RwG q n s sent vl w S) (hb : ∀ k, S k → w'.heap[k]? = w.heap[k]?) (hz : w.heap.size ≤ w'.heap.size) : RwG q n s sent vl w' S :=
  ⟨(hb q h.sq).trans h.row, h.sq, h.at_, h.srt, h.wf, own_keep h.l (fun k hk _ => hb k (h.hs k hk)), h.hs, fun k hk => Nat.lt_of_lt_of_le (h.low k hk) hz⟩
theorem goodR (q : Nat) (n : Int) (s : Wa) : Mc.Good (RwX q n s) :=
  ⟨fun ⟨_, _, h⟩ => h.low, fun ⟨_, _, h⟩ hb hz => ⟨_, _, h.keep hb hz⟩⟩
def RnewW (n : Int) (w : World) (e : Ending) (w' : World) : Prop :=
  (0 ≤ n ∧ n ≤ 1073741824 ∧ (∃ q, e = .returned (.tuple #[.pointer (some ⟨q, 0, none⟩), .int .i64 0]) ∧ RwX q n newW w' (fun k => k = q) ∧ w.heap.size ≤ q) ∧ Below w.heap.size w w') ∨ (¬ (0 ≤ n ∧ n ≤ 1073741824) ∧ e = .returned (.tuple #[.pointer none, .int .i64 1]) ∧ w' = w)
set_option maxHeartbeats 4000000 in
theorem rnew_any (n : Int) (w : World) : Calls Try.prog 23 #[.int .i64 n] w (RnewW n w) := by
  by_cases h1 : n < 0
  · have HF : Hid (¬ (0 ≤ n ∧ n ≤ 1073741824)) := Lib.hid (by omega)
    go_enter Try.func23, Try.ntmps23
    go_wp2
    go_ret2
    exact .inr ⟨HF.out, rfl, rfl⟩
  by_cases h2 : 1073741824 < n
  · have HF : Hid (¬ (0 ≤ n ∧ n ≤ 1073741824)) := Lib.hid (by omega)
    go_enter Try.func23, Try.ntmps23
    go_wp2
    go_ret2
    exact .inr ⟨HF.out, rfl, rfl⟩
  obtain ⟨q, hq⟩ : ∃ z, w.heap.size = z := ⟨_, rfl⟩
  obtain ⟨W1, hW1⟩ : ∃ z, w.alloc (.cells #[.int .i64 n, .int .i64 0, .int .i64 0, .bool false, .int .i64 0, .int .i64 0, .int .i64 0, .slice none 0 0, .int .u64 0, .int .u64 0, .int .u64 0, .int .u64 0, .slice none 0 0] TX) = z := ⟨_, rfl⟩
  have hb1 : Below w.heap.size w W1 := by rw [← hW1]; exact (Below.refl _ _).alloc (Nat.le_refl _) _
  have hr : W1.heap[q]? = some (.cells (rwA n 0 0 false zCm (.slice none 0 0)) TX (0, 0)) := by rw [← hW1, ← hq]; exact heap_alloc_new _ _
  have HF : Hid (RwX q n newW W1 (fun k => k = q) ∧ w.heap.size ≤ q ∧ Below w.heap.size w W1) := Lib.hid
    ⟨⟨0, .slice none 0 0, hr, rfl, fun _ => rfl, Srt.nil, fun _ h => absurd h List.not_mem_nil, OwnR.nil _ _ _, (fun k hk => by cases hk), fun k hk => hk ▸ row_lt hr⟩, Nat.le_of_eq hq, hb1⟩
  have HN : Hid (0 ≤ n ∧ n ≤ 1073741824) := Lib.hid (by omega)
  clear hr hb1
  go_enter Try.func23, Try.ntmps23
  go_wp2_with (first | rw [hW1, hq])
  go_ret2
  exact .inl ⟨HN.out.1, HN.out.2, ⟨q, rfl, HF.out.1, HF.out.2.1⟩, HF.out.2.2⟩
end Lt
end Go.Proofs.Ytgbblegcjladaaa
namespace Go.Proofs.Ytgbblegcjladaaa
open Go.ChangeShapes Go.WideShapes Go.ChangeAt Go.RowKit Go.Deep Go.Maps Go.ChangeMaps Go.MapKept
set_option linter.unusedVariables false
set_option maxRecDepth 100000
set_option linter.unusedSimpArgs false
namespace Lt
open Mp Mc
variable {w w' : World} {S : Nat → Prop} {q : Nat} {n sent : Int} {s : Wa} {vl : Value}
theorem info_trx : (Try.prog.info? TXT).map (fun i => (i.zero, i.size, i.bytes)) = some (some (.agg #[.int .i64 0, .int .u64 0, .int .i64 0]), 3, 24) := by kernel_rfl
theorem tr_cells {b off j : Nat} {x : Tr} (h : ∀ i u, (trC x)[i]? = some u → w.cell? ⟨b, off + (j * 3 + i), none⟩ = some u) : w.cell? ⟨b, off + j * 3, none⟩ = some (.int .i64 x.tok) ∧ w.cell? ⟨b, off + j * 3 + 1, none⟩ = some (.int .u64 x.ser) ∧ w.cell? ⟨b, off + j * 3 + 2, none⟩ = some (.int .i64 x.til) :=
  ⟨h 0 _ rfl, h 1 _ rfl, h 2 _ rfl⟩
set_option maxRecDepth 100000 in
set_option maxHeartbeats 16000000 in
theorem rwo_any (t : Int) (w : World) (h : RwX q n s w S) (hn : s.L.length ≤ 1000) :
    Calls Try.prog 54 #[.pointer (some ⟨q, 0, none⟩), .int .i64 t] w fun e w' => ∃ v, e = .returned v ∧ OwnR 3 trC TXT w' w.heap.size v (woV t s.L) ∧ Below w.heap.size w w' := by
  obtain ⟨sent, vl, h⟩ := h
  obtain ⟨al, cl, rfl⟩ := own_slice h.l
  have c12 : w.cell? ⟨q, 12, none⟩ = some (.slice al s.L.length cl) := (cell_of_row _ _ 12 _ _ _ h.row).trans rfl
  have HS : Hid (∀ w', Below w.heap.size w w' → SlR 3 trC w' (.slice al s.L.length cl) s.L) := Lib.hid (fun w' hb => (h.l.below hb (Nat.le_refl _)).sl trC_len)
  obtain ⟨L, hL⟩ : ∃ z, s.L = z := ⟨_, rfl⟩
  rw [hL] at c12 HS hn ⊢
  have hlm : (L.length : Int) ≤ 1000 := by omega
  clear h hL
  go_enter Try.func54, Try.ntmps54
  go_wp2_with fail
  clear c12
  go_loopw [5, 13] (fun u i wr => ∃ (j : Nat) (v : Value), v = u ∧ j ≤ L.length ∧ i = .int .i64 (j : Int) ∧ Hid (OwnR 3 trC TXT wr w.heap.size v (woV t (L.take j)) ∧ Below w.heap.size w wr)) (fun _ i _ => L.length - (intOf i).toNat)
  case atStart => exact ⟨0, _, rfl, Nat.zero_le _, rfl, Lib.hid ⟨OwnR.nil _ _ _, Below.refl _ _⟩⟩
  case round =>
    obtain ⟨j, v, rfl, hj, rfl, HR⟩ := hrel
    by_cases hlt : j < L.length
    · have hlti : (j : Int) < (L.length : Int) := by omega
      obtain ⟨x, hx⟩ : ∃ x, L[j]? = some x := ⟨_, List.getElem?_eq_getElem hlt⟩
      have HTK : Hid (woV t (L.take (j + 1)) = woV t (L.take j) ++ (if x.tok != t then [x] else [])) := Lib.hid (by
        unfold woV
        rw [List.take_add_one, hx, List.filter_append]
        congr 1
        simp only [Option.toList_some, List.filter_cons, List.filter_nil])
      obtain ⟨b0, off, rfl, y0, y1, y2⟩ : ∃ b off, al = some ⟨b, off, none⟩ ∧ wr.cell? ⟨b, off + j * 3, none⟩ = some (.int .i64 x.tok) ∧ wr.cell? ⟨b, off + j * 3 + 1, none⟩ = some (.int .u64 x.ser) ∧ wr.cell? ⟨b, off + j * 3 + 2, none⟩ = some (.int .i64 x.til) := by
        rcases SlR.cases (HS.out wr HR.out.2) with ⟨a9, c9, e, hnil⟩ | ⟨b, off, c9, e, -, -, -, -, hc⟩
        · rw [hnil] at hlt; simp at hlt
        · simp only [Value.slice.injEq] at e
          exact ⟨b, off, e.1, tr_cells (hc j _ hx)⟩
      obtain ⟨g2, hg2⟩ : ∃ z, wr.heap.size = z := ⟨_, rfl⟩
      obtain ⟨W5, hW5⟩ : ∃ z, wr.alloc (.cells #[.int .i64 x.tok, .int .u64 x.ser, .int .i64 x.til] TXT) = z := ⟨_, rfl⟩
      have hr5 : W5.heap[g2]? = some (.cells #[.int .i64 x.tok, .int .u64 x.ser, .int .i64 x.til] TXT (0, 0)) := by rw [← hW5, ← hg2]; exact heap_alloc_new _ _
      have HO5 : Hid (OwnR 3 trC TXT W5 w.heap.size v (woV t (L.take j)) ∧ Below w.heap.size w W5) := Lib.hid (by rw [← hW5]; exact ⟨HR.out.1.alloc _, HR.out.2.alloc HR.out.2.size _⟩)
      have d0 : W5.cell? ⟨g2, 0, none⟩ = some (.int .i64 x.tok) := (cell_of_row _ _ 0 _ _ _ hr5).trans rfl
      have d1 : W5.cell? ⟨g2, 1, none⟩ = some (.int .u64 x.ser) := (cell_of_row _ _ 1 _ _ _ hr5).trans rfl
      have d2 : W5.cell? ⟨g2, 2, none⟩ = some (.int .i64 x.til) := (cell_of_row _ _ 2 _ _ _ hr5).trans rfl
      have HJL : Hid ((woV t (L.take j)).length ≤ j ∧ j < 1000) := Lib.hid ⟨Nat.le_trans (List.length_filter_le _ _) (List.length_take_le _ _), by omega⟩
      clear hr5 HR hx
      cases hb : (x.tok != t)
      · rw [hb] at HTK
        have HTK2 : Hid (woV t (L.take (j + 1)) = woV t (L.take j)) := Lib.hid (by rw [HTK.out]; simp)
        clear HTK
        go_wp2_with (first | rw [hW5, hg2])
        go_roundw
        case rel => exact ⟨j + 1, _, rfl, by omega, by go_num, Lib.hid ⟨by rw [HTK2.out]; exact HO5.out.1, HO5.out.2⟩⟩
        case measure => simp [intOf]; omega
      · rw [hb] at HTK
        have HTK2 : Hid (woV t (L.take (j + 1)) = woV t (L.take j) ++ [x]) := Lib.hid (by rw [HTK.out]; simp)
        clear HTK
        obtain ⟨W6, hW6⟩ : ∃ z, W5.alloc (.cells #[.int .i64 x.tok, .int .u64 x.ser, .int .i64 x.til] TXT) = z := ⟨_, rfl⟩
        have HLIT : Hid (SlR 3 trC W6 (.slice (some ⟨W5.heap.size, 0, none⟩) 1 1) [x]) := Lib.hid (by rw [← hW6]; exact SlR.one trC_len W5 _ rfl _ x rfl)
        have HO6 : Hid (OwnR 3 trC TXT W6 w.heap.size v (woV t (L.take j)) ∧ Below w.heap.size w W6) := Lib.hid (by rw [← hW6]; exact ⟨HO5.out.1.alloc _, HO5.out.2.alloc HO5.out.2.size _⟩)
        go_wp2_with (first | rw [hW5, hg2] | rw [hW6] | (at_builtin; refine appR trC_len trC_one Try.underlying64 rfl (by decide) info_trx rfl (.tmp 21) (.tmp 23) rfl w.heap.size v (woV t (L.take j)) rfl HO6.out.1 (.slice (some ⟨W5.heap.size, 0, none⟩) 1 1) [x] rfl HLIT.out (by have := HJL.out; unfold maxLen; simp only [List.length_singleton]; omega) (by have := HJL.out; simp only [List.length_singleton]; omega) HO6.out.2.size ?_; intro v7 w7 own7 bel7; have HO7 := Lib.hid own7; have HB7 := Lib.hid (HO6.out.2.trans bel7); clear own7 bel7))
        go_roundw
        case rel => exact ⟨j + 1, _, rfl, by omega, by go_num, Lib.hid ⟨by rw [HTK2.out]; exact HO7.out, HB7.out⟩⟩
        case measure => simp [intOf]; omega
    · obtain rfl : j = L.length := by omega
      have HE := Lib.hid HR.out
      clear HR
      go_wp2
      go_ret
      exact ⟨_, rfl, by have := HE.out.1; rw [List.take_length] at this; exact this, HE.out.2⟩
end Lt
end Go.Proofs.Ytgbblegcjladaaa
namespace Go.Proofs.Ytgbblegcjladaaa
open Go.ChangeShapes Go.WideShapes Go.ChangeAt Go.RowKit Go.Deep Go.Maps Go.ChangeMaps Go.MapKept
set_option linter.unusedVariables false
set_option maxRecDepth 100000
set_option linter.unusedSimpArgs false
namespace Lt
open Mp Mc
variable {w w' w5 : World} {S : Nat → Prop} {q : Nat} {n sent : Int} {s : Wa} {vl v : Value} {L' : List Tr}
/-- a new list is stored -/
theorem RwG.setl (h : RwG q n s sent vl w S) (hb : Below w.heap.size w w5) (hv : OwnR 3 trC TXT w5 w.heap.size v L') (hs : Srt L') (hw : ∀ x ∈ L', x.wf) : Mc.Left (RwX q n { s with L := L' }) S w (w5.setCell ⟨q, 12, none⟩ v) := by
  have hq := row_lt h.row
  have hr5 := (hb.block q hq).trans h.row
  have hne : ∀ k, v.ownBlock = some k → k ≠ q ∧ w.heap.size ≤ k ∧ k < w5.heap.size := fun k hk => by have := World.ownsRow.lt hv k hk; omega
  have hz : (w5.setCell ⟨q, 12, none⟩ v).heap.size = w5.heap.size := by simp
  have hl : OwnR 3 trC TXT (w5.setCell ⟨q, 12, none⟩ v) w.heap.size v L' := own_keep hv (fun k hk _ => heap_setCell_other w5 ⟨q, 12, none⟩ k _ (hne k hk).1)
  refine ⟨⟨fun k => k = q ∨ v.ownBlock = some k, ⟨sent, v, (heap_setCell_same w5 q 12 _ TX v hr5).trans rfl, .inl rfl, h.at_, hs, hw, ownsRow_base_a hl (Nat.zero_le _), fun k hk => .inr hk, fun k hk => ?_⟩, fun k hk => ?_⟩, (Below.only hb S).trans (Only.setCell w5 ⟨q, 12, none⟩ _ h.sq)⟩
  · rw [hz]
    rcases hk with rfl | hk
    · have := hb.size; omega
    · exact (hne k hk).2.2
  · rcases hk with rfl | hk
    · exact .inl h.sq
    · exact .inr ⟨(hne k hk).2.1, by rw [hz]; exact (hne k hk).2.2⟩
set_option maxHeartbeats 8000000 in
theorem rdrop_any (t : Int) (w : World) (h : RwX q n s w S) (hn : s.L.length ≤ 1000) :
    Calls Try.prog 33 #[.pointer (some ⟨q, 0, none⟩), .int .i64 t] w fun e w' => e = .returned (.int .i64 (if (fnd s.L t).isSome then 0 else 4)) ∧ Mc.Left (RwX q n { s with L := woV t s.L }) S w w' := by
  have HX := Lib.hid h
  obtain ⟨sent, vl, h⟩ := h
  obtain ⟨al, cl, rfl⟩ := own_slice h.l
  have c12 : w.cell? ⟨q, 12, none⟩ = some (.slice al s.L.length cl) := (cell_of_row _ _ 12 _ _ _ h.row).trans rfl
  have H := Lib.hid h
  have HN := Lib.hid hn
  clear h
  cases hf : fnd s.L t with
  | none =>
    have HW0 : Hid (woV t s.L = s.L) := Lib.hid (wo_same hf)
    simp only [Option.isSome_none, Bool.false_eq_true, if_false]
    clear hf
    go_enter Try.func33, Try.ntmps33
    go_wp2_with fail
    refine (rwo_any t w HX.out HN.out).mono ?_
    rintro e w5 ⟨v, rfl, ho, hb⟩
    obtain ⟨av, cv, rfl⟩ := own_slice ho
    have hr5 := (hb.block q (row_lt H.out.row)).trans H.out.row
    have e12 : w5.cell? ⟨q, 12, none⟩ = some (.slice al s.L.length cl) := (cell_of_row _ _ 12 _ _ _ hr5).trans rfl
    have f12 : w5.frozen? ⟨q, 12, none⟩ = false := frozen_of_row w5 _ _ _ _ hr5
    obtain ⟨W6, hW6⟩ : ∃ z, w5.setCell ⟨q, 12, none⟩ (.slice av (woV t s.L).length cv) = z := ⟨_, rfl⟩
    have g12 : W6.cell? ⟨q, 12, none⟩ = some (.slice av (woV t s.L).length cv) := by
      have : W6.heap[q]? = some (.cells (rwA n s.now sent (s.c.kind != 0) s.c (.slice av (woV t s.L).length cv)) TX (0, 0)) := by rw [← hW6]; exact (heap_setCell_same w5 q 12 _ TX _ hr5).trans rfl
      exact (cell_of_row _ _ 12 _ _ _ this).trans rfl
    have HF : Hid (Mc.Left (RwX q n { s with L := woV t s.L }) S w W6) := Lib.hid (by rw [← hW6]; exact H.out.setl hb ho (H.out.srt.wo t) (fun x hx => H.out.wf x (mem_wo.1 hx).1))
    clear ho hb hr5 c12
    obtain ⟨m, hm⟩ : ∃ z, (woV t s.L).length = z := ⟨_, rfl⟩
    have he : ((m : Int) == (s.L.length : Int)) = true := by rw [← hm, HW0.out]; simp
    have he3 : (m == s.L.length) = true := by rw [← hm, HW0.out]; simp
    rw [hm] at hW6 g12 ⊢
    go_wp2_with (first | rw [hW6])
    go_ret
    exact ⟨rfl, HF.out⟩
  | some x =>
    have HL : Hid ((woV t s.L).length < s.L.length) := Lib.hid (wo_len H.out.srt hf)
    simp only [Option.isSome_some, if_true]
    clear hf
    go_enter Try.func33, Try.ntmps33
    go_wp2_with fail
    refine (rwo_any t w HX.out HN.out).mono ?_
    rintro e w5 ⟨v, rfl, ho, hb⟩
    obtain ⟨av, cv, rfl⟩ := own_slice ho
    have hr5 := (hb.block q (row_lt H.out.row)).trans H.out.row
    have e12 : w5.cell? ⟨q, 12, none⟩ = some (.slice al s.L.length cl) := (cell_of_row _ _ 12 _ _ _ hr5).trans rfl
    have f12 : w5.frozen? ⟨q, 12, none⟩ = false := frozen_of_row w5 _ _ _ _ hr5
    obtain ⟨W6, hW6⟩ : ∃ z, w5.setCell ⟨q, 12, none⟩ (.slice av (woV t s.L).length cv) = z := ⟨_, rfl⟩
    have g12 : W6.cell? ⟨q, 12, none⟩ = some (.slice av (woV t s.L).length cv) := by
      have : W6.heap[q]? = some (.cells (rwA n s.now sent (s.c.kind != 0) s.c (.slice av (woV t s.L).length cv)) TX (0, 0)) := by rw [← hW6]; exact (heap_setCell_same w5 q 12 _ TX _ hr5).trans rfl
      exact (cell_of_row _ _ 12 _ _ _ this).trans rfl
    have HF : Hid (Mc.Left (RwX q n { s with L := woV t s.L }) S w W6) := Lib.hid (by rw [← hW6]; exact H.out.setl hb ho (H.out.srt.wo t) (fun x hx => H.out.wf x (mem_wo.1 hx).1))
    clear ho hb hr5 c12
    have he2 : ¬ (woV t s.L).length = s.L.length := by have := HL.out; omega
    have he : (((woV t s.L).length : Int) == (s.L.length : Int)) = false := beq_eq_false_iff_ne.2 (by omega)
    go_wp2_with (first | rw [hW6])
    go_ret
    exact ⟨rfl, HF.out⟩
end Lt
end Go.Proofs.Ytgbblegcjladaaa
namespace Go.Proofs.Ytgbblegcjladaaa
open Go.ChangeShapes Go.WideShapes Go.ChangeAt Go.RowKit Go.Deep
set_option linter.unusedVariables false
set_option maxRecDepth 100000
set_option linter.unusedSimpArgs false
namespace Lt
variable {L : List Tr} {x y : Tr} {t now : Int} {j : Nat}
theorem parts (hx : L[j]? = some x) : L.take (j + 1) = L.take j ++ [x] ∧ L.drop j = x :: L.drop (j + 1) ∧ L = L.take j ++ x :: L.drop (j + 1) := by
  have hj : j < L.length := (List.getElem?_eq_some_iff.1 hx).1
  have e := (List.getElem?_eq_some_iff.1 hx).2
  have h2 : L.drop j = x :: L.drop (j + 1) := by rw [List.drop_eq_getElem_cons hj, e]
  refine ⟨by rw [List.take_add_one, hx]; rfl, h2, ?_⟩
  rw [← h2, List.take_append_drop]
/-- what stays and what was not looked at yet -/
def midV (now : Int) (L : List Tr) (j : Nat) : List Tr := stayV now (L.take j) ++ L.drop j
theorem mid_start (now : Int) (L : List Tr) : midV now L 0 = L := rfl
theorem mid_end (now : Int) (L : List Tr) : midV now L L.length = stayV now L := by unfold midV; simp
theorem mid_stay (hx : L[j]? = some x) (h : ¬ x.til ≤ now) : midV now L (j + 1) = midV now L j := by
  obtain ⟨h1, h2, -⟩ := parts hx
  unfold midV stayV
  rw [h1, h2, List.filter_append, List.append_assoc]
  simp [h]
theorem mid_struck (hs : Srt L) (hx : L[j]? = some x) (h : x.til ≤ now) : midV now L (j + 1) = woV x.tok (midV now L j) := by
  obtain ⟨h1, h2, h3⟩ := parts hx
  rw [h3] at hs
  obtain ⟨-, s2, s3⟩ := List.pairwise_append.1 hs
  have s4 := (List.pairwise_cons.1 s2).1
  unfold midV stayV woV
  have e1 : ((L.take j).filter (fun x => !decide (x.til ≤ now))).filter (fun y => y.tok != x.tok) = (L.take j).filter (fun x => !decide (x.til ≤ now)) := List.filter_eq_self.2 (fun y hy => by
    have := s3 y (List.mem_filter.1 hy).1 x (List.mem_cons_self ..)
    exact bne_iff_ne.2 (by omega))
  have e2 : (L.drop (j + 1)).filter (fun y => y.tok != x.tok) = L.drop (j + 1) := List.filter_eq_self.2 (fun y hy => by
    have := s4 y hy
    exact bne_iff_ne.2 (by omega))
  rw [h1, h2, List.filter_append, List.filter_append, List.filter_cons, e1, List.filter_cons, e2]
  simp [h]
theorem end_step (hx : L[j]? = some x) : endV now (L.take (j + 1)) = endV now (L.take j) ++ (if x.til ≤ now then [x] else []) := by
  unfold endV
  rw [(parts hx).1, List.filter_append]
  by_cases h : x.til ≤ now <;> simp [h]
theorem stay_step (hx : L[j]? = some x) : stayV now (L.take (j + 1)) = stayV now (L.take j) ++ (if x.til ≤ now then [] else [x]) := by
  unfold stayV
  rw [(parts hx).1, List.filter_append]
  by_cases h : x.til ≤ now <;> simp [h]
theorem end_len (now : Int) (L : List Tr) (j : Nat) : (endV now (L.take j)).length ≤ j := Nat.le_trans (List.length_filter_le _ _) (List.length_take_le _ _)
theorem stay_len (now : Int) (L : List Tr) (j : Nat) : (stayV now (L.take j)).length ≤ j := Nat.le_trans (List.length_filter_le _ _) (List.length_take_le _ _)
theorem mid_len (now : Int) (L : List Tr) (j : Nat) (hj : j ≤ L.length) : (midV now L j).length ≤ L.length := by
  unfold midV
  rw [List.length_append, List.length_drop]
  have := stay_len now L j
  omega
/-- where a walk puts what it puts -/
theorem ins_take (L : List Tr) (x : Tr) : insT x L = L.takeWhile (fun y => !decide (x.tok < y.tok)) ++ x :: L.dropWhile (fun y => !decide (x.tok < y.tok)) := by
  induction L with
  | nil => rfl
  | cons y l ih =>
    unfold insT
    by_cases h : x.tok < y.tok
    · simp [h]
    · simp [h, ih]
/-- at a round: what of the row is there, and whether x was put -/
def insK (x : Tr) (L : List Tr) (j : Nat) : List Tr × Bool := if (L.take j).any (fun y => decide (x.tok < y.tok)) then (insT x (L.take j), true) else (L.take j, false)
theorem ins_app {A B : List Tr} (h : A.any (fun y => decide (x.tok < y.tok)) = true) : insT x (A ++ B) = insT x A ++ B := by
  induction A with
  | nil => simp at h
  | cons y l ih =>
    rw [List.cons_append]
    unfold insT
    by_cases hy : x.tok < y.tok
    · simp [hy]
    · simp only [List.any_cons, hy, decide_false, Bool.false_or] at h
      simp [hy, ih h]
theorem ins_far {A B : List Tr} (h : A.any (fun y => decide (x.tok < y.tok)) = false) : insT x (A ++ B) = A ++ insT x B := by
  induction A with
  | nil => rfl
  | cons y l ih =>
    simp only [List.any_cons, Bool.or_eq_false_iff, decide_eq_false_iff_not] at h
    rw [List.cons_append, List.cons_append]
    conv => lhs; unfold insT
    simp [h.1, ih h.2]
theorem insK_start (x : Tr) (L : List Tr) : insK x L 0 = ([], false) := rfl
theorem insK_was (hy : L[j]? = some y) (h : (insK x L j).2 = true) : insK x L (j + 1) = ((insK x L j).1 ++ [y], true) := by
  unfold insK at *
  split at h
  · rename_i h1
    rw [(parts hy).1, List.any_append, h1, Bool.true_or, if_pos rfl, ins_app h1, if_pos rfl]
  · cases h
theorem insK_now (hy : L[j]? = some y) (h : (insK x L j).2 = false) (hlt : x.tok < y.tok) : insK x L (j + 1) = ((insK x L j).1 ++ [x] ++ [y], true) := by
  unfold insK at *
  split at h
  · cases h
  · rename_i h1
    have h1 := Bool.eq_false_iff.2 h1
    have e : insT x [y] = [x, y] := by unfold insT; rw [if_pos hlt]
    rw [(parts hy).1, List.any_append, h1, Bool.false_or, ins_far h1, e]
    simp [hlt]
theorem insK_not (hy : L[j]? = some y) (h : (insK x L j).2 = false) (hlt : ¬ x.tok < y.tok) : insK x L (j + 1) = ((insK x L j).1 ++ [y], false) := by
  unfold insK at *
  split at h
  · cases h
  · rename_i h1
    have h1 := Bool.eq_false_iff.2 h1
    rw [(parts hy).1, List.any_append, h1, Bool.false_or]
    simp [hlt]
theorem insK_end (x : Tr) (L : List Tr) : insT x L = if (insK x L L.length).2 then (insK x L L.length).1 else (insK x L L.length).1 ++ [x] := by
  unfold insK
  rw [List.take_length]
  cases h : L.any (fun y => decide (x.tok < y.tok))
  · have := ins_far (x := x) (B := []) h
    simp only [List.append_nil] at this
    rw [this]
    simp [insT]
  · simp
theorem insK_len (x : Tr) (L : List Tr) (j : Nat) : (insK x L j).1.length ≤ j + 1 := by
  have hl : ∀ l : List Tr, (insT x l).length = l.length + 1 := by
    intro l
    induction l with
    | nil => rfl
    | cons y l ih => unfold insT; split <;> simp [ih]
  unfold insK
  split
  · rw [hl, List.length_take]; omega
  · rw [List.length_take]; omega
theorem wi_len (x : Tr) (L : List Tr) : (wiV x L).length ≤ L.length + 1 := by
  have hl : ∀ l : List Tr, (insT x l).length = l.length + 1 := by
    intro l
    induction l with
    | nil => rfl
    | cons y l ih => unfold insT; split <;> simp [ih]
  unfold wiV
  rw [hl]
  have := List.length_filter_le (fun y : Tr => y.tok != x.tok) L
  unfold woV
  omega
/-! ### what is told -/
abbrev untilV (n : Int) (s : Wa) : Int := s.made + n
def toldL (n : Int) (s : Wa) (a : La.Ans) : List Tr :=
  if s.c.kind = 3 then (if a.code = 1 ∧ s.now < untilV n s then wiV ⟨a.token, a.serial, untilV n s⟩ s.L else s.L)
  else match fnd s.L s.c.token with
    | none => s.L
    | some x => if x.ser = s.c.serial then
        (if s.c.kind = 4 ∧ a.code = 3 then wiV ⟨x.tok, x.ser, max x.til (untilV n s)⟩ s.L
         else if (s.c.kind = 4 ∧ a.code = 4) ∨ (s.c.kind = 5 ∧ a.code = 5) then woV s.c.token s.L else s.L) else s.L
def toldV (n : Int) (s : Wa) (a : La.Ans) : Wa := if s.c.kind = 0 then s else ⟨s.now, 0, zCm, toldL n s a⟩
def toldE (s : Wa) : Int := if s.c.kind = 0 then 3 else 0
/-- the times of a wallet -/
def Wa.tim (s : Wa) : Prop := (0 ≤ s.now ∧ s.now ≤ 4611686018427387904) ∧ (0 ≤ s.made ∧ s.made ≤ 4611686018427387904)
end Lt
end Go.Proofs.Ytgbblegcjladaaa
