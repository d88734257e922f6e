/- Package disk: Names. No condition. -/
import Derived.Test.YtfaifdidillkaaaDkE
import Derived.Test.YtfaifdidillkaaaDkS
import Derived.Test.YtfaifdidillkaaaSr1
namespace Go.Proofs.Ytfaifdidillkaaa
open Go.ChangeShapes Go.WideShapes Go.ChangeAt Go.RowKit Go.Deep
set_option linter.unusedVariables false
set_option maxRecDepth 100000
set_option linter.unusedSimpArgs false
namespace Dk
variable {w w' : World} {S : Nat → Prop} {p m : Nat} {V : ByteArray → Value} {on : Bool} {left : Int} {F : List Fl} {n : Nat}
abbrev TN : TypeId := 9
abbrev nmC (x : ByteArray) : List Value := [.string x]
theorem nmC_len (x : ByteArray) : (nmC x).length = 1 := rfl
theorem nmC_one (x : ByteArray) : ∀ u ∈ nmC x, u.oneCell' = true := by intro u hu; simp at hu; subst hu; rfl
theorem info_nm : (Try.prog.info? TN).map (fun i => (i.zero, i.size, i.bytes)) = some (some (.string ⟨#[]⟩), 1, 16) := by kernel_rfl
theorem uniq_strict {α : Type} {R : α → α → Prop} (hR : ∀ x y, R x y → R y x → False) : ∀ {a b : List α}, a.Pairwise R → b.Pairwise R → (∀ c, (c ∈ a ↔ c ∈ b)) → a = b
  | [], [], _, _, _ => rfl
  | [], y :: b, _, _, h => absurd ((h y).2 (by simp)) (by simp)
  | x :: a, [], _, _, h => absurd ((h x).1 (by simp)) (by simp)
  | x :: a, y :: b, ha, hb, h => by
    obtain ⟨ha1, ha2⟩ := List.pairwise_cons.1 ha
    obtain ⟨hb1, hb2⟩ := List.pairwise_cons.1 hb
    have e : x = y := by
      rcases List.mem_cons.1 ((h x).1 (by simp)) with g | g
      · exact g
      · rcases List.mem_cons.1 ((h y).2 (by simp)) with f | f
        · exact f.symm
        · exact (hR _ _ (hb1 _ g) (ha1 _ f)).elim
    subst e
    rw [uniq_strict hR ha2 hb2 (fun c => ⟨fun hc => by
      rcases List.mem_cons.1 ((h c).1 (List.mem_cons_of_mem _ hc)) with g | g
      · subst g; exact (hR _ _ (ha1 _ hc) (ha1 _ hc)).elim
      · exact g, fun hc => by
      rcases List.mem_cons.1 ((h c).2 (List.mem_cons_of_mem _ hc)) with g | g
      · subst g; exact (hR _ _ (hb1 _ hc) (hb1 _ hc)).elim
      · exact g⟩)]
def tl (x : ByteArray) : List UInt8 := x.data.toList
theorem tl_inj {x y : ByteArray} (h : tl x = tl y) : x = y := nm_eq h
theorem sort_names (hs : SrtF F) {A : List ByteArray} (hn : A.Nodup) (hm : ∀ x, (x ∈ A ↔ ∃ f ∈ F, f.name = x)) : ((A.map tl).mergeSort fun x y => decide (x ≤ y)) = (F.map Fl.name).map tl := by
  have hp := List.mergeSort_perm (A.map tl) (fun x y => decide (x ≤ y))
  refine uniq_strict (R := fun x y : List UInt8 => x < y) (fun x y h g => List.lt_irrefl _ (List.lt_trans h g)) ?_ ?_ (fun c => ?_)
  · have h1 : ((A.map tl).mergeSort fun x y => decide (x ≤ y)).Pairwise (fun a b => decide (a ≤ b) = true) := List.pairwise_mergeSort (fun a b c h1 h2 => by
      simp only [decide_eq_true_eq] at h1 h2 ⊢
      exact List.le_trans h1 h2) (fun a b => by
      simp only [Bool.or_eq_true, decide_eq_true_eq]
      exact List.le_total a b) _
    have h2 : ((A.map tl).mergeSort fun x y => decide (x ≤ y)).Nodup := hp.nodup_iff.2 (by
      rw [List.Nodup, List.pairwise_map]
      exact List.Pairwise.imp (fun {a b} h e => h (tl_inj e)) hn)
    refine (List.Pairwise.and h1 h2).imp (fun {a b} h => ?_)
    obtain ⟨h3, h4⟩ := h
    simp only [decide_eq_true_eq] at h3
    exact Classical.byContradiction fun q => h4 (List.le_antisymm h3 (List.not_lt.1 q))
  · rw [List.pairwise_map, List.pairwise_map]
    exact hs
  · rw [hp.mem_iff, List.mem_map, List.mem_map]
    constructor
    · rintro ⟨x, hx, rfl⟩
      obtain ⟨f, hf, rfl⟩ := (hm x).1 hx
      exact ⟨f.name, List.mem_map.2 ⟨f, hf, rfl⟩, rfl⟩
    · rintro ⟨x, hx, rfl⟩
      obtain ⟨f, hf, rfl⟩ := List.mem_map.1 hx
      exact ⟨f.name, (hm _).2 ⟨f, hf, rfl⟩, rfl⟩
theorem flat_nm (xs : List ByteArray) : xs.flatMap nmC = (xs.map tl).map encStr := by
  induction xs with
  | nil => rfl
  | cons x xs ih =>
    rw [List.flatMap_cons, ih]
    show Value.string x :: _ = _
    rw [List.map_cons, List.map_cons]
    congr 2
theorem sort_any {B : Nat} {v : Value} {A : List ByteArray} (w : World) (h : OwnR 1 nmC TN w B v A) (hl : A.length ≤ 1000) (hs : SrtF F) (hn : A.Nodup) (hm : ∀ x, (x ∈ A ↔ ∃ f ∈ F, f.name = x)) :
    Calls Try.prog 30 #[v] w fun e w' => e = .returned (.tuple #[]) ∧ OwnR 1 nmC TN w' B v (F.map Fl.name) ∧ Only (fun k => v.ownBlock = some k) w w' := by
  have hsn := sort_names hs hn hm
  have hlen : (F.map Fl.name).length = A.length := by
    have := congrArg List.length hsn
    rw [List.length_mergeSort, List.length_map, List.length_map] at this
    exact this.symm
  rcases own_form h with ⟨rfl, h0⟩ | ⟨g, c, cur, rfl, hg, hB⟩
  · have hx : A = [] := List.length_eq_zero_iff.1 h0
    subst hx
    have hS := Any.slices_Sort_string_none sortL none 0 w
    have hF : F.map Fl.name = [] := List.length_eq_zero_iff.1 hlen
    exact hS.mono fun e w' ⟨a, b⟩ => ⟨a, by rw [b, hF]; exact h, by rw [b]; exact Only.refl _ _⟩
  · unfold OwnR at h
    rw [flat_nm] at h
    have hl2 : (A.map tl).length = A.length := List.length_map _
    rw [← hl2] at h
    have hS := Any.slices_Sort_string sortL g 0 c (A.map tl) w (Sr1.holds h) (row_lt hg) (by rw [hl2]; omega)
    change Calls Try.prog 30 _ _ _ at hS
    rw [hl2] at hS
    refine hS.mono fun e w' hh => ?_
    obtain ⟨he, q, os, hw⟩ := hh
    rw [hsn] at hw
    obtain ⟨h1, h2⟩ := Sr1.done h (d := (F.map Fl.name).map tl) (by rw [List.length_map, hlen, hl2]) hw
    refine ⟨he, ?_, h2.mono (fun k hk => by subst hk; rfl)⟩
    unfold OwnR
    rw [flat_nm, hlen, ← hl2]
    exact h1
abbrev RS (w : World) (m r n : Nat) (f : ByteArray → Option Value) (left : ByteArray → Bool) (cnt : Nat) : Prop := Mp.RangeF Try.prog 9 litS Mp.okS w m r n f left cnt
set_option maxHeartbeats 8000000 in
theorem names_any (w : World) (h : DkV w S p m V on left F) (hs : OkF n F) : Calls Try.prog 11 #[.pointer (some ⟨p, 0, none⟩)] w fun e w' => ∃ u, e = .returned u ∧ OwnR 1 nmC TN w' w.heap.size u (F.map Fl.name) ∧ Below w.heap.size w w' := by
  have c0 := h.c0
  have H := Lib.hid h
  have HS := Lib.hid hs
  clear h hs
  go_enter Try.func11, Try.ntmps11
  go_wp2_with (at_range; refine Mp.wp_range rfl _ _ rfl KS Try.underlying50 m F.length _ rfl H.out.map ?_; intro w3 cnt0 hrg0 hgr0 hsz0)
  go_frame
  obtain ⟨r, hr⟩ : ∃ q, w.heap.size = q := ⟨_, rfl⟩
  rw [hr] at hrg0
  have hb3 : Below w.heap.size w w3 := ⟨hgr0.os, hgr0.tape, hgr0.output, hgr0.size, fun k hk => hgr0.block k hk (by simp)⟩
  have HRG0 := Lib.hid hrg0
  obtain ⟨D, hD⟩ : ∃ q, w3.heap.size = q := ⟨_, rfl⟩
  have HMR : Hid (m < D ∧ r < D ∧ w.heap.size ≤ D ∧ w.heap.size ≤ r) := Lib.hid ⟨by rw [← hD]; exact hrg0.map.lt, by rw [← hD]; exact hrg0.lt, by rw [← hD]; exact hb3.size, by rw [hr]; exact Nat.le_refl _⟩
  have HD0 : Hid (D ≤ w3.heap.size) := Lib.hid (by rw [hD]; exact Nat.le_refl _)
  have HB0 := Lib.hid hb3
  rw [hr]
  clear hD hrg0 hgr0 hsz0 hb3 c0 hr
  go_loopw [3] (fun o wr => ∃ (left : ByteArray → Bool) (cnt : Nat) (A : List ByteArray), Hid (RS wr m r F.length (fV V F) left cnt) ∧ Hid (D ≤ wr.heap.size ∧ OwnR 1 nmC TN wr D o A) ∧ Hid (A.Nodup ∧ ∀ x, (x ∈ A ↔ (∃ f ∈ F, f.name = x) ∧ left x = false)) ∧ Hid (Below w.heap.size w wr)) (fun _ wr => wr.rangeLeft m r)
  case atStart => exact ⟨_, _, [], HRG0, Lib.hid ⟨HD0.out, OwnR.nil _ _ _⟩, Lib.hid ⟨List.nodup_nil, fun x => by
    simp only [List.not_mem_nil, false_iff, not_and, Bool.not_eq_false]
    rintro ⟨f, hf, rfl⟩
    unfold fV
    rw [HS.out.srt.fnd hf]; rfl⟩, HB0⟩
  case round =>
    clear HRG0 HB0 HD0
    obtain ⟨left, cnt, A, HRG, HOD, HA, HBW⟩ := hrel
    have HO := Lib.hid HOD.out.2
    have HAL : Hid (A.length ≤ 64) := Lib.hid (by
      have := Mp.length_sub HA.out.1 (c := F.map Fl.name) (fun x hx => by
        obtain ⟨f, hf, e⟩ := ((HA.out.2 x).1 hx).1
        exact List.mem_map.2 ⟨f, hf, e⟩)
      rw [List.length_map] at this
      exact Nat.le_trans this HS.out.cnt)
    go_wp2_with (at_next; refine Mp.wp_next rfl _ rfl KS m r F.length _ _ _ rfl HRG.out ?_ ?_)
    · intro h0 hl0
      have HM : Hid (∀ x, (x ∈ A ↔ ∃ f ∈ F, f.name = x)) := Lib.hid (fun x => (HA.out.2 x).trans ⟨fun q => q.1, fun q => ⟨q, hl0 x (by
        obtain ⟨f, hf, rfl⟩ := q
        have := name_size (HS.out.nm f hf)
        unfold Mp.okS maxLen; omega)⟩⟩)
      clear h0 hl0
      go_wp2_with fail
      refine (sort_any _ (own_up HO.out (fun q hq => Nat.le_trans HMR.out.2.2.1 (World.ownsRow.lt HO.out q hq).1)) (Nat.le_trans HAL.out (by decide)) HS.out.srt HA.out.1 HM.out).mono ?_
      rintro e w4 ⟨rfl, ho4, hon⟩
      have HO4 := Lib.hid ho4
      have HB4 : Hid (Below w.heap.size w w4) := Lib.hid (hon.below HBW.out HBW.out.size (fun k hk => Nat.le_trans HMR.out.2.2.1 (World.ownsRow.lt HO.out k hk).1))
      clear ho4 hon
      go_wp2_with fail
      go_ret
      exact ⟨_, rfl, HO4.out, HB4.out⟩
    · intro x v w4 cnt4 hok hlx hfx hrg4 hlt4 hgr4 hsz4 hen
      have hxf : ∃ f ∈ F, f.name = x := by
        unfold fV at hfx
        rcases fnd_cases (F := F) x with ⟨q, -⟩ | ⟨f, hf, hn, -⟩
        · rw [q] at hfx; cases hfx
        · exact ⟨f, hf, hn⟩
      have HR4 := Lib.hid hrg4
      have HLT := Lib.hid hlt4
      have HB4 : Hid (Below w.heap.size w w4) := Lib.hid ((Only.grown (S := fun k => k = r) hgr4 (fun q hq => (Option.some.inj hq).symm)).below HBW.out HBW.out.size (fun k hk => by subst hk; exact HMR.out.2.2.2))
      have HD4 : Hid (D ≤ w4.heap.size) := Lib.hid (by rw [hsz4]; exact HOD.out.1)
      have HO4 : Hid (OwnR 1 nmC TN w4 D u3 A) := Lib.hid (own_keep HO.out (fun q hq hlt => hgr4.block q hlt (fun e => by
        rcases own_form HO.out with ⟨e1, -⟩ | ⟨g, c0, cur, e1, hg, -⟩
        · rw [e1] at hq; cases hq
        · rw [e1] at hq
          have h1 := HRG.out.row_ne hg
          have e2 : g = q := Option.some.inj hq
          exact h1.2 ((Option.some.inj e).symm.trans e2.symm |>.symm ▸ rfl))))
      have HA4 : Hid ((A ++ [x]).Nodup ∧ ∀ y, (y ∈ A ++ [x] ↔ (∃ f ∈ F, f.name = y) ∧ (left y && !decide (y = x)) = false)) := Lib.hid (by
        have hna : x ∉ A := fun q => by
          have := ((HA.out.2 x).1 q).2
          rw [hlx] at this; cases this
        refine ⟨List.nodup_append.2 ⟨HA.out.1, by simp, fun a ha b hb => by
          simp only [List.mem_singleton] at hb
          subst hb
          exact fun q => hna (q ▸ ha)⟩, fun y => ?_⟩
        rw [List.mem_append, HA.out.2 y, List.mem_singleton]
        constructor
        · rintro (⟨h1, h2⟩ | rfl)
          · exact ⟨h1, by rw [h2]; rfl⟩
          · exact ⟨hxf, by simp⟩
        · rintro ⟨h1, h2⟩
          by_cases e : y = x
          · exact .inr e
          · exact .inl ⟨h1, by simpa [e] using h2⟩)
      obtain ⟨W1, hW1⟩ : ∃ q, w4.alloc (.cells #[.string x] TN) = q := ⟨_, rfl⟩
      have HB5 : Hid (Below w.heap.size w W1) := Lib.hid (by rw [← hW1]; exact HB4.out.alloc HB4.out.size _)
      have HD5 : Hid (D ≤ W1.heap.size) := Lib.hid (by rw [← hW1]; exact Nat.le_trans HD4.out (by simp))
      have HO5 : Hid (OwnR 1 nmC TN W1 D u3 A) := Lib.hid (by rw [← hW1]; exact HO4.out.alloc _)
      have HR5 : Hid (RS W1 m r F.length (fV V F) (fun y => left y && !decide (y = x)) cnt4) := Lib.hid (HR4.out.below (by rw [← hW1]; exact (Below.refl _ _).alloc (Nat.le_refl _) _))
      have HN5 : Hid (SlR 1 nmC W1 (.slice (some ⟨w4.heap.size, 0, none⟩) 1 1) [x]) := Lib.hid (by rw [← hW1]; exact SlR.one nmC_len w4 _ rfl _ x rfl)
      clear hfx hxf hok hlx hrg4 hlt4 hgr4 hsz4
      go_wp2_with (at_builtin; refine appR nmC_len nmC_one Try.underlying35 rfl (by decide) info_nm rfl _ _ rfl D _ _ rfl HO5.out (.slice (some ⟨w4.heap.size, 0, none⟩) 1 1) [x] rfl HN5.out (by have := HAL.out; simp only [List.length_singleton]; unfold maxLen; omega) (by have := HAL.out; simp only [List.length_singleton]; omega) HD5.out ?_; intro v6 w6 own6 hb6; have HO6 := Lib.hid (And.intro (Nat.le_trans HD5.out hb6.size) own6); have HB6 := Lib.hid (HB5.out.trans (hb6.mono HMR.out.2.2.1)); have HR6 := Lib.hid (HR5.out.block (hb6.block _ HMR.out.1) (hb6.block _ HMR.out.2.1)); clear own6 hb6)
      go_roundw
      case rel => exact ⟨_, cnt4, _, HR6, HO6, HA4, HB6⟩
      case measure =>
        have h1 := HR6.out.left_eq
        have h2 := HRG.out.left_eq
        have h3 := HLT.out
        rw [h1, h2]; omega
end Dk
end Go.Proofs.Ytfaifdidillkaaa
