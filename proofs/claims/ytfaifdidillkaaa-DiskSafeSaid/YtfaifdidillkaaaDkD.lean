/- Package disk: Read, Sync, Remove, lose. No condition. -/
import Derived.Test.YtfaifdidillkaaaDkC
import Derived.Test.YtfaifdidillkaaaInByte
namespace Go.Proofs.Ytfaifdidillkaaa
open Go.ChangeShapes Go.WideShapes Go.ChangeAt Go.RowKit Go.Deep
set_option linter.unusedVariables false
set_option maxRecDepth 100000
set_option linter.unusedSimpArgs false
namespace Dk
variable {w w' : World} {S : Nat → Prop} {p m : Nat} {V : ByteArray → Value} {on : Bool} {left : Int} {F : List Fl} {n : Nat}
theorem Left.trans {w2 w3 : World} {on2 on3 : Bool} {left2 left3 : Int} {F2 F3 : List Fl} (h : Left S p m w w2 on2 left2 F2) (g : Left (Grow S w w2) p m w2 w3 on3 left3 F3) : Left S p m w w3 on3 left3 F3 := by
  obtain ⟨-, ho⟩ := h
  obtain ⟨⟨V, hv⟩, ho2⟩ := g
  have e1 := ho.2.2.2.1
  have e2 := ho2.2.2.2.1
  refine ⟨⟨V, hv.mono (fun k hk => ?_) (fun k hk => ?_)⟩, ho.after ho2 (fun i hi hk => ?_)⟩
  · rcases hk with (hk | hk) | hk
    · exact .inl hk
    · exact .inr ⟨hk.1, by omega⟩
    · exact .inr ⟨by omega, hk.2⟩
  · rcases hk with hk | hk
    · exact hv.low k (.inl (.inl hk))
    · exact hk.2
  · rcases hk with hk | hk
    · exact hk
    · omega
theorem DkV.leftB {w2 : World} (h : DkV w S p m V on left F) (hb : Below w.heap.size w w2) : Left S p m w w2 on left F := ⟨⟨V, (h.below hb).grow⟩, Below.only hb S⟩
theorem DkV.only_left {w2 : World} {on2 : Bool} {left2 : Int} (h : DkV w2 S p m V on2 left2 F) (ho : Only (fun k => k = p) w w2) : Left S p m w w2 on2 left2 F := ⟨⟨V, h.grow⟩, ho.mono (fun k hk => by subst hk; exact h.sp)⟩
/-- what find hands over -/
def fileL (on : Bool) (F : List Fl) (x : ByteArray) : Fl := if on = false then ⟨x, [], 0⟩ else oldF F x
theorem DkV.fv (h : DkV w S p m V on left F) (x : ByteArray) (hx : x.size ≤ maxLen) : ∃ a cc, findV V on F x = .agg #[.slice a (fileL on F x).zs.length cc, .int .i64 (fileL on F x).safe] ∧ OwnR 1 byC TB w 0 (.slice a (fileL on F x).zs.length cc) (fileL on F x).zs ∧
    (findE on F x = 0 → on = true ∧ ∃ f ∈ F, fileL on F x = f ∧ f.name = x ∧ fndL F x = some f ∧ V x = .slice a f.zs.length cc) := by
  unfold findV fileL findE
  cases on
  · exact ⟨none, 0, rfl, OwnR.nil _ _ _, fun q => by simp at q⟩
  · rcases h.found x hx with ⟨hf, -⟩ | ⟨f, a, cc, hf, hn, hfd, hv, -⟩
    · refine ⟨none, 0, ?_⟩
      have e : oldF F x = ⟨x, [], 0⟩ := by unfold oldF; rw [hf]; rfl
      have e2 : fV V F x = none := by unfold fV; rw [hf]; rfl
      rw [if_neg (by simp), if_neg (by simp), e, e2, if_neg (by simp), hf]
      exact ⟨rfl, OwnR.nil _ _ _, fun q => by simp at q⟩
    · refine ⟨a, cc, ?_⟩
      have e : oldF F x = f := by unfold oldF; rw [hfd]; rfl
      have e2 : fV V F x = some (flV (V x) f) := by unfold fV; rw [hfd]; rfl
      rw [if_neg (by simp), if_neg (by simp), e, e2, if_neg (by simp), hfd, ← hv]
      exact ⟨rfl, by rw [← hn]; exact h.rows.own f hf, fun _ => ⟨rfl, f, hf, rfl, hn, rfl, hv⟩⟩
def readL (on : Bool) (F : List Fl) (x : ByteArray) : List Int := (fileL on F x).zs
theorem file_len (hs : OkF n F) (x : ByteArray) : (fileL on F x).zs.length ≤ n ∧ (fileL on F x).safe ≤ (fileL on F x).zs.length ∧ ∀ z ∈ (fileL on F x).zs, (Lit.int .u8 z).wf = true := by
  unfold fileL
  cases on
  · exact ⟨Nat.zero_le _, Nat.le_refl _, by simp⟩
  · have := hs.old x
    rw [if_neg (by simp)]
    exact ⟨this.2.1, this.1, this.2.2⟩
set_option maxHeartbeats 4000000 in
theorem read_any (x : ByteArray) (w : World) (h : DkV w S p m V on left F) (hs : OkF n F) (hx : x.size ≤ maxLen) (hn : n ≤ 1000000000) :
    Calls Try.prog 12 #[.pointer (some ⟨p, 0, none⟩), .string x] w fun e w' => ∃ u, e = .returned (.tuple #[u, .int .i64 (findE on F x)]) ∧ OwnR 1 byC TB w' w.heap.size u (readL on F x) ∧ Below w.heap.size w w' := by
  obtain ⟨a, cc, hfv, hown, -⟩ := h.fv x hx
  have hfl := (file_len (on := on) hs x).1
  obtain ⟨L, hL⟩ : ∃ q, (fileL on F x).zs.length = q := ⟨_, rfl⟩
  obtain ⟨sf, hsf⟩ : ∃ q, ((fileL on F x).safe : Int) = q := ⟨_, rfl⟩
  rw [hL, hsf] at hfv
  rw [hL] at hown hfl
  have H := Lib.hid h
  have HX := Lib.hid hx
  have HFV := Lib.hid hfv
  have HOW := Lib.hid hown
  have HLL := Lib.hid (And.intro hL hfl)
  have HNN := Lib.hid hn
  clear h hs hx hn hfv hown hL hfl hsf
  go_enter Try.func12, Try.ntmps12
  go_wp2_with fail
  refine (find_any x w H.out HX.out).mono ?_
  rintro e w2 ⟨rfl, hb⟩
  rw [HFV.out]
  obtain ⟨ez, hez⟩ : ∃ q, findE on F x = q := ⟨_, rfl⟩
  have HEZ := Lib.hid hez
  rw [hez]
  obtain ⟨g3, hg3⟩ : ∃ q, w2.heap.size = q := ⟨_, rfl⟩
  obtain ⟨W3, hW3⟩ : ∃ q, w2.alloc (.cells #[.slice a L cc, .int .i64 sf] TF) = q := ⟨_, rfl⟩
  have hb3 : Below w.heap.size w W3 := by rw [← hW3]; exact hb.alloc hb.size _
  have HB3 := Lib.hid hb3
  have hgb : W3.heap[g3]? = some (.cells #[.slice a L cc, .int .i64 sf] TF (0, 0)) := by rw [← hW3, ← hg3]; exact heap_alloc_new _ _
  have j0 : W3.cell? ⟨g3, 0, none⟩ = some (.slice a L cc) := (cell_of_row _ _ 0 _ _ _ hgb).trans rfl
  have HSL : Hid (SlR 1 byC W3 (.slice a L cc) (readL on F x)) := Lib.hid (OwnR.sl byC_len (HOW.out.below hb3 (Nat.le_refl _)))
  clear hb hb3 hgb hez
  go_wp2_with fail
  refine (Ib.clone_any (readL on F x) _ W3 HSL.out (by have := HLL.out; have := HNN.out; unfold readL; omega)).mono ?_
  rintro e w4 ⟨u, rfl, hu, hb4⟩
  have HU : Hid (OwnR 1 byC TB w4 w.heap.size u (readL on F x)) := Lib.hid (own_up hu (fun q hq => Nat.le_trans HB3.out.size (World.ownsRow.lt hu q hq).1))
  have HB4 := Lib.hid (HB3.out.trans (hb4.mono HB3.out.size))
  clear hu hb4
  go_wp2_with fail
  go_ret2
  exact ⟨u, by rw [HEZ.out]; rfl, HU.out, HB4.out⟩
theorem slr_take {α : Type} {sz : Nat} {C : α → List Value} {w : World} {a : Option Addr} {c : Nat} {xs : List α} (h : SlR sz C w (.slice a xs.length c) xs) (k : Nat) (hk : k ≤ xs.length) : SlR sz C w (.slice a k c) (xs.take k) := by
  obtain ⟨a, cap, e, h1, h2, h3⟩ := h
  simp only [Value.slice.injEq] at e
  obtain ⟨rfl, -, rfl⟩ := e
  have hl : (xs.take k).length = k := by rw [List.length_take]; omega
  refine ⟨_, c, by rw [hl], by omega, h2, ?_⟩
  rcases h3 with ⟨h3, h4, rfl⟩ | ⟨b, off, sp, h3, h4⟩
  · exact .inl ⟨h3, h4, by simp⟩
  · refine .inr ⟨b, off, sp, h3, ?_⟩
    rcases h4 with rfl | ⟨h5, h6, h7⟩
    · exact .inl (by simp)
    · exact .inr ⟨h5, h6, fun i x hx j u hu => h7 i x (by
        rw [List.getElem?_take] at hx
        split at hx
        · exact hx
        · cases hx) j u hu⟩
/-! ### Sync -/
def syncF (on : Bool) (F : List Fl) (x : ByteArray) : List Fl := if findE on F x = 0 then updF F ⟨x, (oldF F x).zs, (oldF F x).zs.length⟩ else F
set_option maxHeartbeats 8000000 in
theorem sync_any (x : ByteArray) (w : World) (h : DkV w S p m V on left F) (hs : OkF n F) (hx : x.size ≤ maxLen) (hn : n ≤ 1000000000) :
    Calls Try.prog 19 #[.pointer (some ⟨p, 0, none⟩), .string x] w fun e w' => e = .returned (.int .i64 (findE on F x)) ∧ Left S p m w w' on left (syncF on F x) := by
  obtain ⟨a, cc, hfv, hown, hcs⟩ := h.fv x hx
  have hfl := (file_len (on := on) hs x).1
  have hfs := (file_len (on := on) hs x).2.1
  obtain ⟨L, hL⟩ : ∃ q, (fileL on F x).zs.length = q := ⟨_, rfl⟩
  obtain ⟨sf, hsf⟩ : ∃ q, ((fileL on F x).safe : Int) = q := ⟨_, rfl⟩
  rw [hL, hsf] at hfv
  rw [hL] at hown hfl
  have H := Lib.hid h
  have HS := Lib.hid hs
  have HX := Lib.hid hx
  have HFV := Lib.hid hfv
  have HOW := Lib.hid hown
  have HCS := Lib.hid hcs
  have HLL := Lib.hid (And.intro hL (And.intro hfl (And.intro hsf hfs)))
  have HNN := Lib.hid hn
  clear h hs hx hn hfv hown hcs hL hfl hsf hfs
  go_enter Try.func19, Try.ntmps19
  go_wp2_with fail
  refine (find_any x w H.out HX.out).mono ?_
  rintro e w2 ⟨rfl, hb⟩
  rw [HFV.out]
  obtain ⟨ez, hez⟩ : ∃ q, findE on F x = q := ⟨_, rfl⟩
  have HEZ := Lib.hid hez
  rw [hez]
  obtain ⟨g3, hg3⟩ : ∃ q, w2.heap.size = q := ⟨_, rfl⟩
  obtain ⟨W3, hW3⟩ : ∃ q, w2.alloc (.cells #[.slice a L cc, .int .i64 sf] TF) = q := ⟨_, rfl⟩
  have hb3 : Below w.heap.size w W3 := by rw [← hW3]; exact hb.alloc hb.size _
  have HB3 := Lib.hid hb3
  have HG3' : Hid (w.heap.size ≤ g3) := Lib.hid (by rw [← hg3]; exact hb.size)
  have hgb : W3.heap[g3]? = some (.cells #[.slice a L cc, .int .i64 sf] TF (0, 0)) := by rw [← hW3, ← hg3]; exact heap_alloc_new _ _
  have HGB := Lib.hid hgb
  have j0 : W3.cell? ⟨g3, 0, none⟩ = some (.slice a L cc) := (cell_of_row _ _ 0 _ _ _ hgb).trans rfl
  have j1 : W3.cell? ⟨g3, 1, none⟩ = some (.int .i64 sf) := (cell_of_row _ _ 1 _ _ _ hgb).trans rfl
  have kz : W3.frozen? ⟨g3, 1, none⟩ = false := frozen_of_row _ _ _ _ _ hgb
  clear hb hb3 hgb hez
  by_cases h0 : ez = 0
  · subst h0
    obtain ⟨hon, f, hf, hfe, hnm, hfd, hv⟩ := HCS.out HEZ.out
    have hlk := H.out.old x HX.out
    have hof : oldF F x = f := by unfold oldF; rw [hfd]; rfl
    have hLf : L = f.zs.length := by rw [← HLL.out.1, hfe]
    have hv0 : V x = .slice a L cc := by
      have := HFV.out
      unfold findV fV flV at this
      rw [hon, if_neg (by simp), hfd] at this
      simp only [Option.map_some, Option.getD_some, Value.agg.injEq, Array.mk.injEq, List.cons.injEq] at this
      exact this.1
    obtain ⟨W5, hW5⟩ : ∃ q, W3.setCell ⟨g3, 1, none⟩ (.int .i64 (L : Int)) = q := ⟨_, rfl⟩
    have hb5 : Below w.heap.size w W5 := by rw [← hW5]; exact below_cell HB3.out HG3'.out _
    obtain ⟨W6, hrun, hfin⟩ := put_fin (n0 := n) (n := n) (f := ⟨x, f.zs, f.zs.length⟩) (v := .slice a L cc) (v0 := .slice a L cc) (w5 := W5.drew) H.out HS.out
      (HS.out.upd (by simp only; rw [← hnm]; exact HS.out.nm f hf) (Nat.le_refl _) (HS.out.len f hf) (HS.out.wf f hf) (.inl (by simp only; rw [hfd]; rfl)))
      (fun k hk _ => hb5.block k (H.out.low k hk)) (Only.drew' (Below.only hb5 S)) (by rw [← hv0, ← hnm]; exact H.out.pne hf) (by rw [← hv0, ← hnm]; exact H.out.mne hf)
      (fun g hg hgn q hq => by rw [← hv0, ← hnm]; exact fun hq2 => H.out.rows.apart f hf g hg (fun e => hgn (e.symm.trans hnm)) q hq2 hq)
      (by have := HOW.out.below hb5 (Nat.le_refl _); rw [hfe] at this; exact this) (.inl rfl) (fun q hq => by rw [← hv0, ← hnm] at hq; exact H.out.rows.mine f hf q hq)
    have HFIN : Hid (Left S p m w W6 on left (syncF on F x)) := Lib.hid (by unfold syncF; rw [if_pos HEZ.out, hof]; exact hfin)
    have HRUN : Hid ((Instr.mapUpdate mF (.map (some m)) (.string x) (.agg #[.slice a L cc, .int .i64 (L : Int)])).run Try.prog W5.drew = .ok () W6) := Lib.hid (by
      have := hrun
      unfold flV at this
      simp only at this
      rw [← hLf] at this
      exact this)
    have HC0 : Hid (W5.drew.cell? ⟨p, 0, none⟩ = some (.map (some m))) := Lib.hid (H.out.below hb5).c0
    have HRG : Hid (W5.drew.rangeAt g3 0 [.slice a L cc, .int .i64 (L : Int)]) := Lib.hid (by
      have hh : W5.heap[g3]? = some (.cells #[.slice a L cc, .int .i64 (L : Int)] TF (0, 0)) := by rw [← hW5]; exact (heap_setCell_same W3 g3 1 _ _ _ HGB.out).trans rfl
      intro j v hv
      match j, hv with
      | 0, hv => simp at hv; subst hv; exact (cell_of_row _ _ 0 _ _ _ hh).trans rfl
      | 1, hv => simp at hv; subst hv; exact (cell_of_row _ _ 1 _ _ _ hh).trans rfl)
    clear hfin hrun hlk hb5 hv hfd hnm hfe hf hof hv0 hLf hon
    go_upto_region 5 with fail
    clear j0 j1 kz hW5 hW3
    refine Wl.start 6 (fun u => u.cell? ⟨p, 0, none⟩ = some (.map (some m)) ∧ u.rangeAt g3 0 [.slice a L cc, .int .i64 (L : Int)]) (fun _ => True) (by kernel_rfl) ⟨HC0.out, HRG.out⟩ trivial (fun hk => ?_)
    refine Wl.take (i := 0) (v := .pointer (some ⟨p, 0, none⟩)) [1, 2, 3, 6] rfl (by kernel_rfl) (by kernel_rfl) (by kernel_rfl) (by kernel_rfl) (by kernel_rfl) (fun _ _ _ h => h) (.inl ⟨by kernel_rfl, ?_⟩) hk ?_
    · intro wx hSw
      clear hSw hk
      go_simp
      try first | with_reducible rfl | kernel_rfl
    simp only [Act.put, List.getElem_toArray, List.getElem_cons_succ, List.getElem_cons_zero, List.setIfInBounds_toArray, List.set_cons_succ, List.set_cons_zero]
    refine Wl.take (i := 1) (v := .pointer (some ⟨p, 0, none⟩)) [2, 3, 6] rfl (by kernel_rfl) (by kernel_rfl) (by kernel_rfl) (by kernel_rfl) (by kernel_rfl) (fun _ _ _ h => h) (.inl ⟨by kernel_rfl, ?_⟩) hk ?_
    · intro wx hSw
      clear hSw hk
      go_simp
      try first | with_reducible rfl | kernel_rfl
    simp only [Act.put, List.getElem_toArray, List.getElem_cons_succ, List.getElem_cons_zero, List.setIfInBounds_toArray, List.set_cons_succ, List.set_cons_zero]
    refine Wl.take (i := 2) (v := .pointer (some ⟨p, 0, none⟩)) [3, 6] rfl (by kernel_rfl) (by kernel_rfl) (by kernel_rfl) (by kernel_rfl) (by kernel_rfl) (fun _ _ _ h => h) (.inl ⟨by kernel_rfl, ?_⟩) hk ?_
    · intro wx hSw
      clear hSw hk
      go_simp
      try first | with_reducible rfl | kernel_rfl
    simp only [Act.put, List.getElem_toArray, List.getElem_cons_succ, List.getElem_cons_zero, List.setIfInBounds_toArray, List.set_cons_succ, List.set_cons_zero]
    refine Wl.take (i := 3) (v := .map (some m)) [6] rfl (by kernel_rfl) (by kernel_rfl) (by kernel_rfl) (by kernel_rfl) (by kernel_rfl) (fun _ _ _ h => h) (.inl ⟨by kernel_rfl, ?_⟩) hk ?_
    · intro wx hSw
      have cc := hSw.1.1
      clear hSw hk
      go_simp
      try first | with_reducible rfl | kernel_rfl
    simp only [Act.put, List.getElem_toArray, List.getElem_cons_succ, List.getElem_cons_zero, List.setIfInBounds_toArray, List.set_cons_succ, List.set_cons_zero]
    refine Wl.take (i := 4) (v := .string x) [6] rfl (by kernel_rfl) (by kernel_rfl) (by kernel_rfl) (by kernel_rfl) (by kernel_rfl) (fun _ _ _ h => h) (.inl ⟨by kernel_rfl, ?_⟩) hk ?_
    · intro wx hSw
      clear hSw hk
      go_simp
      try first | with_reducible rfl | kernel_rfl
    simp only [Act.put, List.getElem_toArray, List.getElem_cons_succ, List.getElem_cons_zero, List.setIfInBounds_toArray, List.set_cons_succ, List.set_cons_zero]
    refine Wl.take (i := 5) (v := .agg #[.slice a L cc, .int .i64 (L : Int)]) [6] rfl (by kernel_rfl) (by kernel_rfl) (by kernel_rfl) (by kernel_rfl) (by kernel_rfl) (fun _ _ _ h => h) (yieldsIf_load_mid (by rfl) _ _ rfl _ _ rfl [.slice a L cc, .int .i64 (L : Int)] _ (fun w h => h.1.2) Try.underlying63 rfl (by kernel_rfl)) hk ?_
    simp only [Act.put, List.getElem_toArray, List.getElem_cons_succ, List.getElem_cons_zero, List.setIfInBounds_toArray, List.set_cons_succ, List.set_cons_zero]
    refine Wl.one (i := 6) (by kernel_rfl) rfl (fun K hK => ?_)
    go_simp
    have hrun := HRUN.out
    go_simp
    clear hrun
    refine hK.out _ _ (Wl.Kn.off (by kernel_rfl) trivial) (fun hk => ?_)
    clear hK K
    refine Wl.done (by kernel_rfl) ?_ _
    clear hk
    go_wp2_with fail
    go_ret
    exact ⟨by rw [HEZ.out]; rfl, HFIN.out⟩
  · have hne : (ez != 0) = true := by simpa using h0
    have HFIN : Hid (Left S p m w W3 on left (syncF on F x)) := Lib.hid (by unfold syncF; rw [if_neg (by rw [HEZ.out]; exact h0)]; exact H.out.leftB HB3.out)
    go_wp2_with fail
    go_ret
    exact ⟨by rw [HEZ.out]; rfl, HFIN.out⟩
/-! ### Remove -/
def removeF (on : Bool) (F : List Fl) (x : ByteArray) : List Fl := if findE on F x = 0 then delF F x else F
theorem Left.del {w2 : World} {w3 : World} {x : ByteArray} (h : DkV w S p m V on left F) (hs : OkF n F) (hb : Below w.heap.size w w2) (hw : MS w3 m F.length (Mp.upd (fV V F) x none)) (hg : w2.grownBy w3 (some m)) : Left S p m w w3 on left (delF F x) := by
  have h2 := h.below hb
  refine ⟨⟨V, ?_⟩, (Below.only hb S).trans (Only.grown hg (fun q hq => by rw [← Option.some.inj hq]; exact h.sm))⟩
  exact (h2.del hs hw hg).grow
set_option maxHeartbeats 8000000 in
theorem remove_any (x : ByteArray) (w : World) (h : DkV w S p m V on left F) (hs : OkF n F) (hx : x.size ≤ maxLen) (hn : n ≤ 1000000000) :
    Calls Try.prog 23 #[.pointer (some ⟨p, 0, none⟩), .string x] w fun e w' => e = .returned (.int .i64 (findE on F x)) ∧ Left S p m w w' on left (removeF on F x) := by
  obtain ⟨a, cc, hfv, hown, hcs⟩ := h.fv x hx
  have hfl := (file_len (on := on) hs x).1
  have hfs := (file_len (on := on) hs x).2.1
  obtain ⟨L, hL⟩ : ∃ q, (fileL on F x).zs.length = q := ⟨_, rfl⟩
  obtain ⟨sf, hsf⟩ : ∃ q, ((fileL on F x).safe : Int) = q := ⟨_, rfl⟩
  rw [hL, hsf] at hfv
  rw [hL] at hown hfl
  have H := Lib.hid h
  have HS := Lib.hid hs
  have HX := Lib.hid hx
  have HFV := Lib.hid hfv
  have HOW := Lib.hid hown
  have HCS := Lib.hid hcs
  have HLL := Lib.hid (And.intro hL (And.intro hfl (And.intro hsf hfs)))
  have HNN := Lib.hid hn
  clear h hs hx hn hfv hown hcs hL hfl hsf hfs
  go_enter Try.func23, Try.ntmps23
  go_wp2_with fail
  refine (find_any x w H.out HX.out).mono ?_
  rintro e w2 ⟨rfl, hb⟩
  rw [HFV.out]
  obtain ⟨ez, hez⟩ : ∃ q, findE on F x = q := ⟨_, rfl⟩
  have HEZ := Lib.hid hez
  rw [hez]
  obtain ⟨g3, hg3⟩ : ∃ q, w2.heap.size = q := ⟨_, rfl⟩
  obtain ⟨W3, hW3⟩ : ∃ q, w2.alloc (.cells #[.slice a L cc, .int .i64 sf] TF) = q := ⟨_, rfl⟩
  have hb3 : Below w.heap.size w W3 := by rw [← hW3]; exact hb.alloc hb.size _
  have HB3 := Lib.hid hb3
  have HG3' : Hid (w.heap.size ≤ g3) := Lib.hid (by rw [← hg3]; exact hb.size)
  have hgb : W3.heap[g3]? = some (.cells #[.slice a L cc, .int .i64 sf] TF (0, 0)) := by rw [← hW3, ← hg3]; exact heap_alloc_new _ _
  have HGB := Lib.hid hgb
  have j0 : W3.cell? ⟨g3, 0, none⟩ = some (.slice a L cc) := (cell_of_row _ _ 0 _ _ _ hgb).trans rfl
  have j1 : W3.cell? ⟨g3, 1, none⟩ = some (.int .i64 sf) := (cell_of_row _ _ 1 _ _ _ hgb).trans rfl
  have kz : W3.frozen? ⟨g3, 1, none⟩ = false := frozen_of_row _ _ _ _ _ hgb
  clear hb hb3 hgb hez
  by_cases h0 : ez = 0
  · subst h0
    have H3 := Lib.hid (H.out.below HB3.out)
    have c0 := H3.out.c0
    clear j0 j1 kz
    go_wp2_with (at_delete; refine Mp.wp_del rfl _ _ _ rfl KS Try.underlying50 m F.length (fV V F) rfl H3.out.map x HX.out rfl ?_; intro w6 hm6 hg6; have HFIN : Hid (Left S p m w w6 on left (removeF on F x)) := Lib.hid (by unfold removeF; rw [if_pos HEZ.out]; exact Left.del H.out HS.out HB3.out hm6 hg6); clear hm6 hg6)
    go_ret
    exact ⟨by rw [HEZ.out]; rfl, HFIN.out⟩
  · have hne : (ez != 0) = true := by simpa using h0
    have HFIN : Hid (Left S p m w W3 on left (removeF on F x)) := Lib.hid (by unfold removeF; rw [if_neg (by rw [HEZ.out]; exact h0)]; exact H.out.leftB HB3.out)
    go_wp2_with fail
    go_ret
    exact ⟨by rw [HEZ.out]; rfl, HFIN.out⟩
/-! ### lose -/
def safeL (F : List Fl) (x : ByteArray) (k : Int) : Int := (oldF F x).safe + min k ((oldF F x).zs.length - (oldF F x).safe)
def loseF (F : List Fl) (x : ByteArray) (k : Int) : List Fl := if safeL F x k = 0 then delF F x else updF F ⟨x, (oldF F x).zs.take (safeL F x k).toNat, (safeL F x k).toNat⟩
set_option maxHeartbeats 8000000 in
theorem lose_any (x : ByteArray) (kz : Int) (w : World) (h : DkV w S p m V on left F) (hs : OkF n F) (hx : x.size ≤ maxLen) (hn : n ≤ 1000000000) (hk : 0 ≤ kz) (hf : (fndL F x).isSome = true) :
    Calls Try.prog 34 #[.pointer (some ⟨p, 0, none⟩), .string x, .int .i64 kz] w fun e w' => e = .returned (.tuple #[]) ∧ Left S p m w w' on left (loseF F x kz) := by
  obtain ⟨a, cc, hlk, hown, hmine, hvp, hvm, hap, hvx⟩ := h.old x hx
  obtain ⟨ho1, ho2, ho3⟩ := hs.old x
  have hl := hlk false
  rw [if_neg (by simp)] at hl
  obtain ⟨f, hfd⟩ := Option.isSome_iff_exists.1 hf
  obtain ⟨hfm, hnm⟩ := fnd_mem hfd
  have hof : oldF F x = f := by unfold oldF; rw [hfd]; rfl
  have hpos := (hs.len f hfm).1
  rw [← hof] at hpos
  obtain ⟨L, hL⟩ : ∃ q, (oldF F x).zs.length = q := ⟨_, rfl⟩
  obtain ⟨sn, hsn⟩ : ∃ q, (oldF F x).safe = q := ⟨_, rfl⟩
  rw [hL] at hown hmine hvp hvm hap
  rw [hL, hsn] at hl
  rw [hL] at ho1 ho2 hpos
  rw [hsn] at ho1
  obtain ⟨t, ht⟩ : ∃ t : Nat, safeL F x kz = (t : Int) := ⟨(safeL F x kz).toNat, by unfold safeL; rw [hL, hsn]; omega⟩
  have htl : t ≤ L := by unfold safeL at ht; rw [hL, hsn] at ht; omega
  have hmm : (kz ≤ (L : Int) - sn ∧ (sn : Int) + kz = t) ∨ ((L : Int) - sn < kz ∧ (sn : Int) + ((L : Int) - sn) = t) := by unfold safeL at ht; rw [hL, hsn] at ht; omega
  have HH : Hid (loseF F x kz = if t = 0 then delF F x else updF F ⟨x, (oldF F x).zs.take t, t⟩) := Lib.hid (by unfold loseF; rw [ht]; simp)
  obtain ⟨g3, hg3⟩ : ∃ q, w.heap.size = q := ⟨_, rfl⟩
  obtain ⟨W3, hW3⟩ : ∃ q, w.alloc (.cells #[.slice a L cc, .int .i64 (sn : Int)] TF) = q := ⟨_, rfl⟩
  have hb3 : Below w.heap.size w W3 := by rw [← hW3]; exact (Below.refl _ _).alloc (Nat.le_refl _) _
  have hgb : W3.heap[g3]? = some (.cells #[.slice a L cc, .int .i64 (sn : Int)] TF (0, 0)) := by rw [← hW3, ← hg3]; exact heap_alloc_new _ _
  have j0 : W3.cell? ⟨g3, 0, none⟩ = some (.slice a L cc) := (cell_of_row _ _ 0 _ _ _ hgb).trans rfl
  have j1 : W3.cell? ⟨g3, 1, none⟩ = some (.int .i64 (sn : Int)) := (cell_of_row _ _ 1 _ _ _ hgb).trans rfl
  have kz1 : W3.frozen? ⟨g3, 1, none⟩ = false := frozen_of_row _ _ _ _ _ hgb
  obtain ⟨W4, hW4⟩ : ∃ q, W3.setCell ⟨g3, 1, none⟩ (.int .i64 (t : Int)) = q := ⟨_, rfl⟩
  have hb4 : Below w.heap.size w W4 := by rw [← hW4]; exact below_cell hb3 (by rw [hg3]; exact Nat.le_refl _) _
  have hgc : W4.heap[g3]? = some (.cells #[.slice a L cc, .int .i64 (t : Int)] TF (0, 0)) := by rw [← hW4]; exact (heap_setCell_same W3 g3 1 _ _ _ hgb).trans rfl
  have i0 : W4.cell? ⟨g3, 0, none⟩ = some (.slice a L cc) := (cell_of_row _ _ 0 _ _ _ hgc).trans rfl
  have i1 : W4.cell? ⟨g3, 1, none⟩ = some (.int .i64 (t : Int)) := (cell_of_row _ _ 1 _ _ _ hgc).trans rfl
  have c0 := h.c0
  have H4 := Lib.hid (h.below hb4)
  have c04 := H4.out.c0
  have H := Lib.hid h
  have HS := Lib.hid hs
  have HX := Lib.hid hx
  have HNN := Lib.hid hn
  have HB4 := Lib.hid hb4
  have HG4 := Lib.hid hgc
  have HG3' := Lib.hid hg3
  have HOW : Hid (OwnR 1 byC TB W4 0 (.slice a L cc) (oldF F x).zs) := Lib.hid (hown.below hb4 (Nat.le_refl _))
  have HMI := Lib.hid hmine
  have HVP := Lib.hid hvp
  have HVM := Lib.hid hvm
  have HAP := Lib.hid hap
  have HLL := Lib.hid (And.intro hL (And.intro ho2 (And.intro hpos htl)))
  have HTC : Hid (L ≤ cc) := Lib.hid (by rcases own_form hown with ⟨e, -⟩ | ⟨g, c0, cur, e, -⟩
                                         · simp only [Value.slice.injEq] at e; omega
                                         · rcases hown.2 with ⟨e2, -⟩ | ⟨g2, c2, cur2, e2, -, -, hle, -⟩
                                           · simp only [Value.slice.injEq] at e2; omega
                                           · simp only [Value.slice.injEq] at e2; omega)
  have HOK : Hid (0 < t → OkF n (updF F ⟨x, (oldF F x).zs.take t, t⟩)) := Lib.hid (fun h0 => hs.upd (by simp only; rw [← hnm]; exact hs.nm f hfm) (by simp only [List.length_take]; omega) (by simp only [List.length_take]; omega) (fun z hz => ho3 z (List.mem_of_mem_take hz)) (.inl hf))
  have htc : t ≤ cc := by have := HTC.out; omega
  have hsub : 0 ≤ (L : Int) - sn ∧ (L : Int) - sn ≤ 1000000000 := by omega
  have htb : (t : Int) ≤ 1000000000 := by omega
  clear h hs hx hn hb3 hb4 hgb hgc hown hmine hvp hvm hap hL hsn ho1 ho2 ho3 hpos ht hlk hvx hf hfd hfm hnm hof H4
  go_enter Try.func34, Try.ntmps34
  rcases hmm with ⟨hle, hmt⟩ | ⟨hle, hmt⟩
  · by_cases h0 : t = 0
    · have d0 : ((t : Int) == 0) = true := by simp [h0]
      have d1 : (t == 0) = true := by simp [h0]
      have HF : Hid (loseF F x kz = delF F x) := Lib.hid (by rw [HH.out, if_pos h0])
      clear h0
      go_wp2_with (at_delete; refine Mp.wp_del rfl _ _ _ rfl KS Try.underlying50 m F.length (fV V F) rfl (H.out.below HB4.out).map x HX.out rfl ?_; intro w6 hm6 hg6; have HFIN : Hid (Left S p m w w6 on left (loseF F x kz)) := Lib.hid (by rw [HF.out]; exact Left.del H.out HS.out HB4.out hm6 hg6); clear hm6 hg6)
      (try simp only [Exit.inBlock, Exit.then])
      refine bodyPost_ret (results_none rfl _ _ _) rfl ?_
      exact ⟨rfl, HFIN.out⟩
    · have d0 : ((t : Int) == 0) = false := by simp [h0]
      have d1 : (t == 0) = false := by simp [h0]
      have HF : Hid (loseF F x kz = updF F ⟨x, (oldF F x).zs.take t, t⟩) := Lib.hid (by rw [HH.out, if_neg h0])
      have HT0 : Hid (0 < t) := Lib.hid (by omega)
      clear h0
      go_wp2_with fail
      refine (Ib.clone_any ((oldF F x).zs.take t) _ W4 (slr_take (by rw [HLL.out.1]; exact HOW.out.sl byC_len) t (by rw [HLL.out.1]; exact htl)) (by rw [List.length_take]; have := HLL.out; have := HNN.out; omega)).mono ?_
      rintro e w5 ⟨u, rfl, hu, hb5⟩
      have hlu : ((oldF F x).zs.take t).length = t := by rw [List.length_take]; have := HLL.out; omega
      obtain ⟨a5, c5, hv5⟩ := own_slice hu
      rw [hlu] at hv5
      subst hv5
      have hg5 := (hb5.block _ (row_lt HG4.out)).trans HG4.out
      have l0 : w5.cell? ⟨g3, 0, none⟩ = some (.slice a L cc) := (cell_of_row _ _ 0 _ _ _ hg5).trans rfl
      have lz : w5.frozen? ⟨g3, 0, none⟩ = false := frozen_of_row _ _ _ _ _ hg5
      obtain ⟨W6, hW6⟩ : ∃ q, w5.setCell ⟨g3, 0, none⟩ (.slice a5 t c5) = q := ⟨_, rfl⟩
      have hb6 : Below w.heap.size w W6 := by rw [← hW6]; exact below_cell (HB4.out.trans (hb5.mono HB4.out.size)) (by rw [HG3'.out]; exact Nat.le_refl _) _
      have hqn : ∀ q, (Value.slice a5 t c5).ownBlock = some q → W4.heap.size ≤ q := fun q hq => (World.ownsRow.lt hu q hq).1
      have how6 : OwnR 1 byC TB W6.drew 0 (.slice a5 t c5) ((oldF F x).zs.take t) := own_keep (own_up hu (fun q _ => Nat.zero_le _)) (fun q hq hl => by rw [← hW6]; exact heap_setCell_other w5 ⟨g3, 0, none⟩ q _ (by have := hqn q hq; have := row_lt HG4.out; show q ≠ g3; omega))
      obtain ⟨W7, hrun, hfin⟩ := put_fin (n0 := n) (n := n) (f := ⟨x, (oldF F x).zs.take t, t⟩) (v := .slice a5 t c5) (v0 := .slice a L cc) (w5 := W6.drew) H.out HS.out (HOK.out HT0.out)
        (fun k hk _ => hb6.block k (H.out.low k hk)) (Only.drew' (Below.only hb6 S)) HVP.out HVM.out HAP.out how6 (.inr (fun q hq => Nat.le_trans HB4.out.size (hqn q hq))) HMI.out
      have HFIN : Hid (Left S p m w W7 on left (loseF F x kz)) := Lib.hid (by rw [HF.out]; exact hfin)
      have HRUN : Hid ((Instr.mapUpdate mF (.map (some m)) (.string x) (.agg #[.slice a5 t c5, .int .i64 (t : Int)])).run Try.prog W6.drew = .ok () W7) := Lib.hid hrun
      have HC0 : Hid (W6.drew.cell? ⟨p, 0, none⟩ = some (.map (some m))) := Lib.hid (H.out.below hb6).c0
      have HRG : Hid (W6.drew.rangeAt g3 0 [.slice a5 t c5, .int .i64 (t : Int)]) := Lib.hid (by
        have hh : W6.heap[g3]? = some (.cells #[.slice a5 t c5, .int .i64 (t : Int)] TF (0, 0)) := by rw [← hW6]; exact (heap_setCell_same w5 g3 0 _ _ _ hg5).trans rfl
        intro j v hv
        match j, hv with
        | 0, hv => simp at hv; subst hv; exact (cell_of_row _ _ 0 _ _ _ hh).trans rfl
        | 1, hv => simp at hv; subst hv; exact (cell_of_row _ _ 1 _ _ _ hh).trans rfl)
      clear hu hb5 hg5 hb6 hqn how6 hrun hfin hlu
      go_upto_region 5 with fail
      clear j0 j1 i0 i1 l0 lz hW6
      refine Wl.start 6 (fun u => u.cell? ⟨p, 0, none⟩ = some (.map (some m)) ∧ u.rangeAt g3 0 [.slice a5 t c5, .int .i64 (t : Int)]) (fun _ => True) (by kernel_rfl) ⟨HC0.out, HRG.out⟩ trivial (fun hk => ?_)
      refine Wl.take (i := 0) (v := .pointer (some ⟨p, 0, none⟩)) [1, 2, 3, 6] rfl (by kernel_rfl) (by kernel_rfl) (by kernel_rfl) (by kernel_rfl) (by kernel_rfl) (fun _ _ _ h => h) (.inl ⟨by kernel_rfl, ?_⟩) hk ?_
      · intro wx hSw
        clear hSw hk
        go_simp
        try first | with_reducible rfl | kernel_rfl
      simp only [Act.put, List.getElem_toArray, List.getElem_cons_succ, List.getElem_cons_zero, List.setIfInBounds_toArray, List.set_cons_succ, List.set_cons_zero]
      refine Wl.take (i := 1) (v := .pointer (some ⟨p, 0, none⟩)) [2, 3, 6] rfl (by kernel_rfl) (by kernel_rfl) (by kernel_rfl) (by kernel_rfl) (by kernel_rfl) (fun _ _ _ h => h) (.inl ⟨by kernel_rfl, ?_⟩) hk ?_
      · intro wx hSw
        clear hSw hk
        go_simp
        try first | with_reducible rfl | kernel_rfl
      simp only [Act.put, List.getElem_toArray, List.getElem_cons_succ, List.getElem_cons_zero, List.setIfInBounds_toArray, List.set_cons_succ, List.set_cons_zero]
      refine Wl.take (i := 2) (v := .pointer (some ⟨p, 0, none⟩)) [3, 6] rfl (by kernel_rfl) (by kernel_rfl) (by kernel_rfl) (by kernel_rfl) (by kernel_rfl) (fun _ _ _ h => h) (.inl ⟨by kernel_rfl, ?_⟩) hk ?_
      · intro wx hSw
        clear hSw hk
        go_simp
        try first | with_reducible rfl | kernel_rfl
      simp only [Act.put, List.getElem_toArray, List.getElem_cons_succ, List.getElem_cons_zero, List.setIfInBounds_toArray, List.set_cons_succ, List.set_cons_zero]
      refine Wl.take (i := 3) (v := .map (some m)) [6] rfl (by kernel_rfl) (by kernel_rfl) (by kernel_rfl) (by kernel_rfl) (by kernel_rfl) (fun _ _ _ h => h) (.inl ⟨by kernel_rfl, ?_⟩) hk ?_
      · intro wx hSw
        have cc := hSw.1.1
        clear hSw hk
        go_simp
        try first | with_reducible rfl | kernel_rfl
      simp only [Act.put, List.getElem_toArray, List.getElem_cons_succ, List.getElem_cons_zero, List.setIfInBounds_toArray, List.set_cons_succ, List.set_cons_zero]
      refine Wl.take (i := 4) (v := .string x) [6] rfl (by kernel_rfl) (by kernel_rfl) (by kernel_rfl) (by kernel_rfl) (by kernel_rfl) (fun _ _ _ h => h) (.inl ⟨by kernel_rfl, ?_⟩) hk ?_
      · intro wx hSw
        clear hSw hk
        go_simp
        try first | with_reducible rfl | kernel_rfl
      simp only [Act.put, List.getElem_toArray, List.getElem_cons_succ, List.getElem_cons_zero, List.setIfInBounds_toArray, List.set_cons_succ, List.set_cons_zero]
      refine Wl.take (i := 5) (v := .agg #[.slice a5 t c5, .int .i64 (t : Int)]) [6] rfl (by kernel_rfl) (by kernel_rfl) (by kernel_rfl) (by kernel_rfl) (by kernel_rfl) (fun _ _ _ h => h) (yieldsIf_load_mid (by rfl) _ _ rfl _ _ rfl [.slice a5 t c5, .int .i64 (t : Int)] _ (fun w h => h.1.2) Try.underlying63 rfl (by kernel_rfl)) hk ?_
      simp only [Act.put, List.getElem_toArray, List.getElem_cons_succ, List.getElem_cons_zero, List.setIfInBounds_toArray, List.set_cons_succ, List.set_cons_zero]
      refine Wl.one (i := 6) (by kernel_rfl) rfl (fun K hK => ?_)
      go_simp
      have hrun := HRUN.out
      go_simp
      clear hrun
      refine hK.out _ _ (Wl.Kn.off (by kernel_rfl) trivial) (fun hk => ?_)
      clear hK K
      refine Wl.done (by kernel_rfl) ?_ _
      clear hk
      go_wp2_with fail
      go_end0
      exact ⟨rfl, HFIN.out⟩
  · by_cases h0 : t = 0
    · have d0 : ((t : Int) == 0) = true := by simp [h0]
      have d1 : (t == 0) = true := by simp [h0]
      have HF : Hid (loseF F x kz = delF F x) := Lib.hid (by rw [HH.out, if_pos h0])
      clear h0
      go_wp2_with (at_delete; refine Mp.wp_del rfl _ _ _ rfl KS Try.underlying50 m F.length (fV V F) rfl (H.out.below HB4.out).map x HX.out rfl ?_; intro w6 hm6 hg6; have HFIN : Hid (Left S p m w w6 on left (loseF F x kz)) := Lib.hid (by rw [HF.out]; exact Left.del H.out HS.out HB4.out hm6 hg6); clear hm6 hg6)
      (try simp only [Exit.inBlock, Exit.then])
      refine bodyPost_ret (results_none rfl _ _ _) rfl ?_
      exact ⟨rfl, HFIN.out⟩
    · have d0 : ((t : Int) == 0) = false := by simp [h0]
      have d1 : (t == 0) = false := by simp [h0]
      have HF : Hid (loseF F x kz = updF F ⟨x, (oldF F x).zs.take t, t⟩) := Lib.hid (by rw [HH.out, if_neg h0])
      have HT0 : Hid (0 < t) := Lib.hid (by omega)
      clear h0
      go_wp2_with fail
      refine (Ib.clone_any ((oldF F x).zs.take t) _ W4 (slr_take (by rw [HLL.out.1]; exact HOW.out.sl byC_len) t (by rw [HLL.out.1]; exact htl)) (by rw [List.length_take]; have := HLL.out; have := HNN.out; omega)).mono ?_
      rintro e w5 ⟨u, rfl, hu, hb5⟩
      have hlu : ((oldF F x).zs.take t).length = t := by rw [List.length_take]; have := HLL.out; omega
      obtain ⟨a5, c5, hv5⟩ := own_slice hu
      rw [hlu] at hv5
      subst hv5
      have hg5 := (hb5.block _ (row_lt HG4.out)).trans HG4.out
      have l0 : w5.cell? ⟨g3, 0, none⟩ = some (.slice a L cc) := (cell_of_row _ _ 0 _ _ _ hg5).trans rfl
      have lz : w5.frozen? ⟨g3, 0, none⟩ = false := frozen_of_row _ _ _ _ _ hg5
      obtain ⟨W6, hW6⟩ : ∃ q, w5.setCell ⟨g3, 0, none⟩ (.slice a5 t c5) = q := ⟨_, rfl⟩
      have hb6 : Below w.heap.size w W6 := by rw [← hW6]; exact below_cell (HB4.out.trans (hb5.mono HB4.out.size)) (by rw [HG3'.out]; exact Nat.le_refl _) _
      have hqn : ∀ q, (Value.slice a5 t c5).ownBlock = some q → W4.heap.size ≤ q := fun q hq => (World.ownsRow.lt hu q hq).1
      have how6 : OwnR 1 byC TB W6.drew 0 (.slice a5 t c5) ((oldF F x).zs.take t) := own_keep (own_up hu (fun q _ => Nat.zero_le _)) (fun q hq hl => by rw [← hW6]; exact heap_setCell_other w5 ⟨g3, 0, none⟩ q _ (by have := hqn q hq; have := row_lt HG4.out; show q ≠ g3; omega))
      obtain ⟨W7, hrun, hfin⟩ := put_fin (n0 := n) (n := n) (f := ⟨x, (oldF F x).zs.take t, t⟩) (v := .slice a5 t c5) (v0 := .slice a L cc) (w5 := W6.drew) H.out HS.out (HOK.out HT0.out)
        (fun k hk _ => hb6.block k (H.out.low k hk)) (Only.drew' (Below.only hb6 S)) HVP.out HVM.out HAP.out how6 (.inr (fun q hq => Nat.le_trans HB4.out.size (hqn q hq))) HMI.out
      have HFIN : Hid (Left S p m w W7 on left (loseF F x kz)) := Lib.hid (by rw [HF.out]; exact hfin)
      have HRUN : Hid ((Instr.mapUpdate mF (.map (some m)) (.string x) (.agg #[.slice a5 t c5, .int .i64 (t : Int)])).run Try.prog W6.drew = .ok () W7) := Lib.hid hrun
      have HC0 : Hid (W6.drew.cell? ⟨p, 0, none⟩ = some (.map (some m))) := Lib.hid (H.out.below hb6).c0
      have HRG : Hid (W6.drew.rangeAt g3 0 [.slice a5 t c5, .int .i64 (t : Int)]) := Lib.hid (by
        have hh : W6.heap[g3]? = some (.cells #[.slice a5 t c5, .int .i64 (t : Int)] TF (0, 0)) := by rw [← hW6]; exact (heap_setCell_same w5 g3 0 _ _ _ hg5).trans rfl
        intro j v hv
        match j, hv with
        | 0, hv => simp at hv; subst hv; exact (cell_of_row _ _ 0 _ _ _ hh).trans rfl
        | 1, hv => simp at hv; subst hv; exact (cell_of_row _ _ 1 _ _ _ hh).trans rfl)
      clear hu hb5 hg5 hb6 hqn how6 hrun hfin hlu
      go_upto_region 5 with fail
      clear j0 j1 i0 i1 l0 lz hW6
      refine Wl.start 6 (fun u => u.cell? ⟨p, 0, none⟩ = some (.map (some m)) ∧ u.rangeAt g3 0 [.slice a5 t c5, .int .i64 (t : Int)]) (fun _ => True) (by kernel_rfl) ⟨HC0.out, HRG.out⟩ trivial (fun hk => ?_)
      refine Wl.take (i := 0) (v := .pointer (some ⟨p, 0, none⟩)) [1, 2, 3, 6] rfl (by kernel_rfl) (by kernel_rfl) (by kernel_rfl) (by kernel_rfl) (by kernel_rfl) (fun _ _ _ h => h) (.inl ⟨by kernel_rfl, ?_⟩) hk ?_
      · intro wx hSw
        clear hSw hk
        go_simp
        try first | with_reducible rfl | kernel_rfl
      simp only [Act.put, List.getElem_toArray, List.getElem_cons_succ, List.getElem_cons_zero, List.setIfInBounds_toArray, List.set_cons_succ, List.set_cons_zero]
      refine Wl.take (i := 1) (v := .pointer (some ⟨p, 0, none⟩)) [2, 3, 6] rfl (by kernel_rfl) (by kernel_rfl) (by kernel_rfl) (by kernel_rfl) (by kernel_rfl) (fun _ _ _ h => h) (.inl ⟨by kernel_rfl, ?_⟩) hk ?_
      · intro wx hSw
        clear hSw hk
        go_simp
        try first | with_reducible rfl | kernel_rfl
      simp only [Act.put, List.getElem_toArray, List.getElem_cons_succ, List.getElem_cons_zero, List.setIfInBounds_toArray, List.set_cons_succ, List.set_cons_zero]
      refine Wl.take (i := 2) (v := .pointer (some ⟨p, 0, none⟩)) [3, 6] rfl (by kernel_rfl) (by kernel_rfl) (by kernel_rfl) (by kernel_rfl) (by kernel_rfl) (fun _ _ _ h => h) (.inl ⟨by kernel_rfl, ?_⟩) hk ?_
      · intro wx hSw
        clear hSw hk
        go_simp
        try first | with_reducible rfl | kernel_rfl
      simp only [Act.put, List.getElem_toArray, List.getElem_cons_succ, List.getElem_cons_zero, List.setIfInBounds_toArray, List.set_cons_succ, List.set_cons_zero]
      refine Wl.take (i := 3) (v := .map (some m)) [6] rfl (by kernel_rfl) (by kernel_rfl) (by kernel_rfl) (by kernel_rfl) (by kernel_rfl) (fun _ _ _ h => h) (.inl ⟨by kernel_rfl, ?_⟩) hk ?_
      · intro wx hSw
        have cc := hSw.1.1
        clear hSw hk
        go_simp
        try first | with_reducible rfl | kernel_rfl
      simp only [Act.put, List.getElem_toArray, List.getElem_cons_succ, List.getElem_cons_zero, List.setIfInBounds_toArray, List.set_cons_succ, List.set_cons_zero]
      refine Wl.take (i := 4) (v := .string x) [6] rfl (by kernel_rfl) (by kernel_rfl) (by kernel_rfl) (by kernel_rfl) (by kernel_rfl) (fun _ _ _ h => h) (.inl ⟨by kernel_rfl, ?_⟩) hk ?_
      · intro wx hSw
        clear hSw hk
        go_simp
        try first | with_reducible rfl | kernel_rfl
      simp only [Act.put, List.getElem_toArray, List.getElem_cons_succ, List.getElem_cons_zero, List.setIfInBounds_toArray, List.set_cons_succ, List.set_cons_zero]
      refine Wl.take (i := 5) (v := .agg #[.slice a5 t c5, .int .i64 (t : Int)]) [6] rfl (by kernel_rfl) (by kernel_rfl) (by kernel_rfl) (by kernel_rfl) (by kernel_rfl) (fun _ _ _ h => h) (yieldsIf_load_mid (by rfl) _ _ rfl _ _ rfl [.slice a5 t c5, .int .i64 (t : Int)] _ (fun w h => h.1.2) Try.underlying63 rfl (by kernel_rfl)) hk ?_
      simp only [Act.put, List.getElem_toArray, List.getElem_cons_succ, List.getElem_cons_zero, List.setIfInBounds_toArray, List.set_cons_succ, List.set_cons_zero]
      refine Wl.one (i := 6) (by kernel_rfl) rfl (fun K hK => ?_)
      go_simp
      have hrun := HRUN.out
      go_simp
      clear hrun
      refine hK.out _ _ (Wl.Kn.off (by kernel_rfl) trivial) (fun hk => ?_)
      clear hK K
      refine Wl.done (by kernel_rfl) ?_ _
      clear hk
      go_wp2_with fail
      go_end0
      exact ⟨rfl, HFIN.out⟩
end Dk
end Go.Proofs.Ytfaifdidillkaaa
