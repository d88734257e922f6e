/- A wallet's map of trusts, its tokens in order: maps.Keys and slices.Sorted as landed. No condition. -/
import Derived.Test.YtgbblegcjladaaaLtA
import Derived.Test.YtgbblegcjladaaaLtS
import Derived.Test.YtgbblegcjladaaaMp
import Derived.Shelf.SlIterI.Nil
import Derived.Shelf.SortM.Plain
import Derived.Shelf.SortM.SortNone
namespace Go.Proofs.Ytgbblegcjladaaa
open Go.ChangeShapes Go.WideShapes Go.ChangeAt Go.RowKit Go.Deep Go.Maps Go.ChangeMaps Go.MapKept Go.Sort Go.Shelf
set_option linter.unusedVariables false
set_option maxRecDepth 100000
set_option linter.unusedSimpArgs false
namespace Lt
open Mp
theorem tokK : KeyT Try.prog 3 (Value.int .i64) (Lit.int .i64) okI := intK Try.underlying3
/-- block b is a map of just these trusts -/
def OfL (L : List Tr) (t : Int) : Option Value := (fnd L t).map trV
def TrM (w : World) (b : Nat) (L : List Tr) : Prop := Srt L ∧ (∀ x ∈ L, x.wf) ∧ MapF Try.prog 3 (Lit.int .i64) okI w b L.length (OfL L)
variable {w w' : World} {b g : Nat} {L : List Tr}
theorem TrM.block (h : TrM w b L) (hb : w'.heap[b]? = w.heap[b]?) : TrM w' b L := ⟨h.1, h.2.1, h.2.2.block hb⟩
theorem dom_of (hs : Srt L) (hw : ∀ x ∈ L, x.wf) : Dom okI (OfL L) (L.map Tr.tok) := by
  refine ⟨List.pairwise_map.2 (hs.imp (fun h => by omega)), fun t => ?_⟩
  unfold OfL
  rw [List.mem_map, Option.isSome_map]
  constructor
  · rintro ⟨x, hx, rfl⟩
    rw [(fnd_iff hs).2 ⟨hx, rfl⟩]
    exact ⟨(hw x hx).1, rfl⟩
  · rintro ⟨-, h2⟩
    obtain ⟨x, hx⟩ := Option.isSome_iff_exists.1 h2
    exact ⟨x, (fnd_iff hs).1 hx⟩
/-- a map that says the same partial function holds the same list -/
theorem TrM.mk {f : Int → Option Value} {n : Nat} (hs : Srt L) (hw : ∀ x ∈ L, x.wf) (h : MapF Try.prog 3 (Lit.int .i64) okI w b n f) (hf : ∀ t, okI t → f t = OfL L t) : TrM w b L := by
  obtain ⟨es, clock, -, -, hm⟩ := (h.congr hf).card tokK (dom_of hs hw)
  rw [List.length_map] at hm
  exact ⟨hs, hw, hm⟩
theorem keys_c (mb : Option Nat) (w : World) :
    Calls Try.prog 78 #[.map mb] w fun e w' => e = .returned (.func (.func 84) #[] #[.pointer (some ⟨w.heap.size, 0, none⟩)]) ∧ w' = w.alloc (.cells #[.map mb] 116) :=
  (callsIn_wide (n := 6)).1 (AnyZI.keys_in keysL Fence.wide 6 trivial rfl mb w)
theorem sortsL (m : Nat) : AnyZI.SortsIn Try.prog sortedL_ren Fence.wide m :=
  ⟨fun blk off cap ss W hH hblk hsz => callsIn_wide.2 (AnyM.slices_Sort_int sortL blk off cap ss W hH hblk hsz),
   fun p cap W => callsIn_wide.2 (AnyM.slices_Sort_int_none sortL p cap W)⟩
theorem sorted_c (w : World) (h : TrM w b L) (hn : L.length ≤ 1000000) (hlt : g < w.heap.size) (hg : w.cell? ⟨g, 0, none⟩ = some (.map (some b))) :
    Calls Try.prog 77 #[.func (.func 84) #[] #[.pointer (some ⟨g, 0, none⟩)]] w fun e w' => ∃ v, e = .returned v ∧ w'.ownsRow w.heap.size 3 1 v L.length (L.map (fun x => Value.int .i64 x.tok)) ∧ Below w.heap.size w w' := by
  obtain ⟨hs, hw, D, ho, hsay⟩ := h
  have hperm : (L.map Tr.tok).Perm (intKeys D) := by
    obtain ⟨es, hD, hpw, -⟩ := ho.entries tokK.law
    obtain ⟨es', hD', hko⟩ := ho.keysOf
    obtain rfl : es = es' := by rw [hD] at hD'; simpa using hD'
    have hm := ho.isMap
    subst hD
    have hd := dom_of hs hw
    refine perm_intKeys hpw (fun p hp => by obtain ⟨v, hv⟩ := hko p hp; obtain ⟨x, -, hx, -⟩ := Maps.keyOf_i64 Try.underlying3 hv; exact ⟨x, hx⟩) hd.1 (fun x => ?_)
    rw [hd.2 x]
    constructor
    · rintro ⟨h1, h2⟩
      rw [has_of hsay hm h1]
      exact h2
    · intro hh
      obtain ⟨p, hp, hk⟩ := List.any_eq_true.1 hh
      obtain ⟨v, hv⟩ := hko p hp
      obtain ⟨y, -, hy, hyw⟩ := Maps.keyOf_i64 Try.underlying3 hv
      have e : y = x := by rw [hy] at hk; simpa [Lit.sameKey] using hk
      subst e
      exact ⟨hyw, by rw [← has_of hsay hm hyw]; exact hh⟩
  have hsz : Maps.size D = L.length := by
    obtain ⟨es, hD, -, -⟩ := ho.entries tokK.law
    have := hperm.length_eq
    subst hD
    simp only [List.length_map, intKeys] at this
    rw [this]
    rfl
  have hseq : SeqGives Fence.wide 2 Try.prog 84 #[.pointer (some ⟨g, 0, none⟩)] encZ (fun ss => ss.Perm (intKeys D)) (Maps.size D) w :=
    AnyZI.keys_gives (ρ := keysL_ren) { keysL with } Fence.wide _ trivial rfl (by omega) g b L.length D w hlt hg ho
  have cS := AnyZI.sorted_in sortedL Fence.wide 5 trivial trivial trivial trivial rfl (by omega) (sortsL _) (enters_of Try.func83 (by kernel_rfl) rfl) 84 #[.pointer (some ⟨g, 0, none⟩)] trivial (enters_of Try.func84 (by kernel_rfl) rfl) _ (Maps.size D) (by rw [hsz]; unfold maxLen; omega) (by rw [hsz]; omega) w hseq
  change CallsIn _ _ Try.prog 77 _ _ _ at cS
  refine ((callsIn_wide (n := 5)).1 cS).mono ?_
  rintro e w' ⟨v, ss, rfl, hp, hrow, -, hb⟩
  have hp' := hp.trans hperm.symm
  rw [toks_sort hs hp', List.map_map] at hrow
  have hl := hp'.length_eq
  rw [List.length_map] at hl
  rw [hl] at hrow
  exact ⟨v, rfl, hrow, hb⟩
end Lt
end Go.Proofs.Ytgbblegcjladaaa
