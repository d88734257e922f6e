/- The document's pool: Close, Open. No condition. -/
import Derived.Test.YtlhojkopfpnhpaaPrC
namespace Go.Proofs.Ytlhojkopfpnhpaa
open Go.ChangeShapes Go.WideShapes Go.ChangeAt Go.RowKit Go.Deep
set_option linter.unusedVariables false
set_option maxRecDepth 100000
set_option linter.unusedSimpArgs false
theorem stepRq {α : Type} {sz : Nat} {C : α → List Value} {P : Program} (hC : ∀ x, (C x).length = sz) {t e : TypeId} (ht : P.underlying t = some (.slice e)) {z : Value} {bytes : Nat} (hzs : z.cells.size = sz) (hsz : 0 < sz) (hinfo : (P.info? e).map (fun i => (i.zero, i.size, i.bytes)) = some (some z, sz, bytes))
    {w : World} {ops : Array Oper} {o : Oper} {a : Act} {K : Act → World → Prop} {Q : Exit → Act → World → Prop} {E : Prop} (hgd : o.guard = none) (s x : Operand)
    (ho : o.op = .call { callee := .builtin .append, args := #[s, x], argTypes := #[t, t] }) (base : Nat)
    (v : Value) (xs : List α) (hs : a.eval s = v) (hown : OwnR sz C e w base v xs) (u : Value) (zs : List α) (hx : a.eval x = u) (hsl : SlR sz C w u zs) (h1c : ∀ x ∈ zs, ∀ u ∈ C x, u.oneCell' = true)
    (h63 : xs.length + zs.length ≤ maxLen) (hb : (xs.length + zs.length) * bytes ≤ 140737488355328) (hbase : base ≤ w.heap.size)
    (h : ∀ v' w', OwnR sz C e w' base v' (xs ++ zs) → w.grownBy w' v.ownBlock → (v'.ownBlock = v.ownBlock ∨ v'.ownBlock = some w.heap.size) → K (a.put o.dst v') w') :
    if Region.wanted o (yielded ops a.tmps) = true then Oper.wp P o a w K Q else E := by
  have hw : Region.wanted o (yielded ops a.tmps) = true := by simp [Region.wanted, hgd]
  rw [if_pos hw]
  obtain ⟨i0, hi, hz0, hz1, hz2⟩ := info_parts hinfo
  have hmk : ∀ {w' : World} {v' : Value}, w'.ownsRow base e sz v' (xs.length + zs.length) (xs.flatMap C ++ zs.flatMap C) → OwnR sz C e w' base v' (xs ++ zs) := fun q => by
    unfold OwnR
    rw [List.flatMap_append, List.length_append]
    exact q
  rcases hsl.src hC with ⟨rfl, h0, hz⟩ | ⟨ad, c, rfl, hc⟩
  · have hrun := run_append_owned_none (P := P) (w := w) base t o.type e i0 sz ht hi v xs.length _ hown
    unfold Oper.wp
    simp [execOp, ho, resolve, invoke, builtin, hs, hx, hrun, Result.andThen]
    exact h _ _ (hmk (by rw [hz, h0, List.append_nil, Nat.add_zero]; exact hown)) (World.grownBy.refl _ _) (.inl rfl)
  · obtain ⟨v', w', hr, h2, h3, h4, h5⟩ := run_append_own_at (P := P) w base t o.type e i0 z sz bytes ht hi hz0 hz1 hz2 hzs hsz v xs.length _ hown ad zs.length c (zs.flatMap C) (flat_len hC zs) hc (fun u hu => by
      obtain ⟨y, hy1, hy⟩ := List.mem_flatMap.1 hu
      exact h1c y hy1 u hy) h63 hb hbase
    unfold Oper.wp execOp
    simp only [ho, resolve, invoke, builtin, Sem.run_bind, Sem.run_pure, Result.andThen_ok, List.map_toArray, List.map_cons, List.map_nil, hs, hx, hr]
    exact h _ _ (hmk h2) h3 h5
theorem SlR.takes {α : Type} {sz : Nat} {C : α → List Value} {w : World} {g c : Nat} {xs : List α} (h : SlR sz C w (.slice (some ⟨g, 0, none⟩) xs.length c) xs) (k : Nat) (hk : k ≤ xs.length) : SlR sz C w (.slice (some ⟨g, 0, none⟩) k c) (xs.take k) := by
  obtain ⟨a, cap, e, h1, h2, h3⟩ := h
  simp only [Value.slice.injEq] at e
  obtain ⟨rfl, -, rfl⟩ := e
  have hl : (xs.take k).length = k := by rw [List.length_take]; omega
  refine ⟨_, c, by rw [hl], by omega, h2, ?_⟩
  rcases h3 with ⟨h3, -⟩ | ⟨b, off, sp, h3, h4⟩
  · cases h3
  · refine .inr ⟨b, off, sp, h3, ?_⟩
    rcases h4 with rfl | ⟨h5, h6, h7⟩
    · exact .inl (by simp)
    · exact .inr ⟨h5, h6, fun i x hx j u hu => h7 i x (by
        rw [List.getElem?_take] at hx
        split at hx
        · exact hx
        · cases hx) j u hu⟩
theorem SlR.drops {α : Type} {sz : Nat} {C : α → List Value} {w : World} {g c : Nat} {xs : List α} (h : SlR sz C w (.slice (some ⟨g, 0, none⟩) xs.length c) xs) (k : Nat) (hk : k ≤ xs.length) : SlR sz C w (.slice (some ⟨g, k * sz, none⟩) (xs.length - k) (c - k)) (xs.drop k) := by
  obtain ⟨a, cap, e, h1, h2, h3⟩ := h
  simp only [Value.slice.injEq] at e
  obtain ⟨rfl, -, rfl⟩ := e
  have hl : (xs.drop k).length = xs.length - k := List.length_drop
  refine ⟨_, c - k, by rw [hl], by omega, Nat.le_trans (Nat.sub_le _ _) h2, ?_⟩
  rcases h3 with ⟨h3, -⟩ | ⟨b, off, sp, h3, h4⟩
  · cases h3
  · simp only [Option.some.injEq, Addr.mk.injEq] at h3
    obtain ⟨rfl, rfl, rfl⟩ := h3
    refine .inr ⟨g, k * sz, none, rfl, ?_⟩
    rcases h4 with rfl | ⟨h5, h6, h7⟩
    · exact .inl (by simp)
    · refine .inr ⟨rfl, h6, fun i x hx j u hu => ?_⟩
      rw [List.getElem?_drop] at hx
      have := h7 (k + i) x hx j u hu
      rw [Nat.zero_add, Nat.add_mul] at this
      rw [← this]
      congr 2
      omega
theorem SlR.none_left {α : Type} {sz : Nat} {C : α → List Value} (w : World) (g : Nat) : SlR sz C w (.slice (some ⟨g, 0, none⟩) 0 0) ([] : List α) := ⟨_, 0, rfl, Nat.le_refl _, Nat.zero_le _, .inr ⟨g, 0, none, rfl, .inl rfl⟩⟩
namespace Pr
open Pl
/-- what grows twice, the second time in a row that is new -/
theorem grown_two {a b c : World} {row : Option Nat} (h : a.grownBy b none) (g : b.grownBy c row) (hr : ∀ q, row = some q → a.heap.size ≤ q) : a.grownBy c none :=
  ⟨g.os.trans h.os, g.tape.trans h.tape, g.output.trans h.output, Nat.le_trans h.size g.size, fun k hk hn => by
    rw [g.block k (Nat.lt_of_lt_of_le hk h.size) (fun e => by have := hr k e.symm; omega)]
    exact h.block k hk (fun e => by cases e)⟩
variable {w w' : World} {B q : Nat} {vC vW : Value} {cs : List Cn} {ws : List Int}

set_option maxHeartbeats 4000000 in
theorem rclose_any (t : Int) (w : World) (h : RpAt w B q vC vW cs ws) (hB : B ≤ w.heap.size) (ok : OkP cs ws) (h8 : cs.length ≤ 8) :
    Calls Try.prog 9 #[.pointer (some ⟨q, 0, none⟩), .int .i64 t] w (ROp B q vC (closeV t cs) (closeE t cs) (closeC t cs) ws w) := by
  have HR := Lib.hid h
  have HB := Lib.hid hB
  have HTI := Lib.hid (tok_idx (t := t) ok.sorted)
  unfold closeV closeE closeC
  by_cases hh : hasC t cs = true
  · rw [if_pos hh, if_pos hh, if_pos hh]
    obtain ⟨x, hx, -⟩ := has_at hh
    have hti : idxOf (tokQ t) cs = (posC t cs : Int) := by rw [HTI.out, if_pos hh]
    obtain ⟨k, hkp⟩ : ∃ k, posC t cs = k := ⟨_, rfl⟩
    rw [hkp] at hx hti ⊢
    rw [hx]
    have hkl : k < cs.length := (List.getElem?_eq_some_iff.1 hx).1
    obtain ⟨g, cap, rfl⟩ := h.form (by omega)
    have hcb : cs.length ≤ cap ∧ cap ≤ 9223372036854775807 := by
      obtain ⟨a2, c2, e, g1, g2, -⟩ := h.2.1.sl cnC_len
      simp only [Value.slice.injEq] at e
      obtain ⟨-, -, rfl⟩ := e
      exact ⟨g1, g2⟩
    obtain ⟨hc1, hc2⟩ := hcb
    have HT := Lib.hid hti
    have HX := Lib.hid hx
    have hki : (k : Int) < (cs.length : Int) := by omega
    obtain ⟨ss, hss⟩ : ∃ y, ((some x).map Cn.sess).getD 0 = y := ⟨_, rfl⟩
    have HSS : Hid (x.sess = ss) := Lib.hid hss
    rw [hss, List.eraseIdx_eq_take_drop_succ]
    clear h ok hh hti hx hkp hss
    go_enter Try.func9, Try.ntmps9
    go_wp2_with fail
    refine (rfind_any t _ HR.out h8).mono ?_
    rintro e w2 ⟨rfl, hb⟩
    rw [HT.out]
    have HB2 := Lib.hid hb
    have HS2 : Hid (B ≤ w2.drew.heap.size) := Lib.hid (Nat.le_trans HB.out hb.size)
    have HR2 := Lib.hid (HR.out.below hb)
    have HD := Lib.hid (HR.out.below hb).drew
    obtain ⟨y0, y1, -⟩ := HR2.out.row HX.out
    rw [HSS.out] at y1
    have c0 := HR2.out.c0
    clear hb
    obtain ⟨AD, hAD⟩ : ∃ q, (if cap = k + 1 then (some (⟨g, 0, none⟩ : Addr)) else some ⟨g, (k + 1) * 2, none⟩) = q := ⟨_, rfl⟩
    have HTK : Hid (SlR 2 cnC w2.drew (.slice (some ⟨g, 0, none⟩) k cap) (cs.take k)) := Lib.hid ((HD.out.2.1.sl cnC_len).takes k (by omega))
    have HDP : Hid (SlR 2 cnC w2.drew (.slice AD (cs.length - (k + 1)) (cap - (k + 1))) (cs.drop (k + 1))) := Lib.hid (by
      rw [← hAD]
      by_cases hc : cap = k + 1
      · rw [if_pos hc, show cs.length - (k + 1) = 0 by omega, show cap - (k + 1) = 0 by omega, List.drop_of_length_le (by omega)]
        exact SlR.none_left _ _
      · rw [if_neg hc]
        exact (HD.out.2.1.sl cnC_len).drops (k + 1) (by omega))
    go_upto_region 5 with fail
    clear y0 y1
    have hkc : k ≤ cap := by omega
    have hkc1 : k + 1 ≤ cap := by omega
    have hkl1 : k + 1 ≤ cs.length := by omega
    have hb0 : (0 : Int) ≤ (k : Int) + 1 := by omega
    have hb1 : ¬ (cs.length : Int) < (k : Int) + 1 := by omega
    refine Wl.start 18 (fun u => u.cell? ⟨q, 0, none⟩ = some (.slice (some ⟨g, 0, none⟩) cs.length cap)) (fun _ => True) (by kernel_rfl) c0 trivial (fun hk => ?_)
    refine Wl.take (i := 0) (v := .pointer (some ⟨q, 0, none⟩)) [16, 17, 18] rfl (by kernel_rfl) (by kernel_rfl) (by kernel_rfl) (by kernel_rfl) (by kernel_rfl) (fun _ _ _ h => h) (.inl ⟨by kernel_rfl, ?_⟩) hk ?_
    · intro wx hSw
      clear hSw hk
      go_simp
      try first | with_reducible rfl | kernel_rfl
    simp only [Act.put, List.getElem_toArray, List.getElem_cons_succ, List.getElem_cons_zero, List.setIfInBounds_toArray, List.set_cons_succ, List.set_cons_zero]
    refine Wl.take (i := 1) (v := .pointer (some ⟨q, 0, none⟩)) [2, 3, 4, 6, 7, 15, 16, 17, 18] rfl (by kernel_rfl) (by kernel_rfl) (by kernel_rfl) (by kernel_rfl) (by kernel_rfl) (fun _ _ _ h => h) (.inl ⟨by kernel_rfl, ?_⟩) hk ?_
    · intro wx hSw
      clear hSw hk
      go_simp
      try first | with_reducible rfl | kernel_rfl
    simp only [Act.put, List.getElem_toArray, List.getElem_cons_succ, List.getElem_cons_zero, List.setIfInBounds_toArray, List.set_cons_succ, List.set_cons_zero]
    refine Wl.take (i := 2) (v := .pointer (some ⟨q, 0, none⟩)) [3, 4, 6, 7, 15, 16, 17, 18] rfl (by kernel_rfl) (by kernel_rfl) (by kernel_rfl) (by kernel_rfl) (by kernel_rfl) (fun _ _ _ h => h) (.inl ⟨by kernel_rfl, ?_⟩) hk ?_
    · intro wx hSw
      clear hSw hk
      go_simp
      try first | with_reducible rfl | kernel_rfl
    simp only [Act.put, List.getElem_toArray, List.getElem_cons_succ, List.getElem_cons_zero, List.setIfInBounds_toArray, List.set_cons_succ, List.set_cons_zero]
    refine Wl.take (i := 3) (v := .pointer (some ⟨q, 0, none⟩)) [4, 6, 7, 15, 16, 17, 18] rfl (by kernel_rfl) (by kernel_rfl) (by kernel_rfl) (by kernel_rfl) (by kernel_rfl) (fun _ _ _ h => h) (.inl ⟨by kernel_rfl, ?_⟩) hk ?_
    · intro wx hSw
      clear hSw hk
      go_simp
      try first | with_reducible rfl | kernel_rfl
    simp only [Act.put, List.getElem_toArray, List.getElem_cons_succ, List.getElem_cons_zero, List.setIfInBounds_toArray, List.set_cons_succ, List.set_cons_zero]
    refine Wl.take (i := 4) (v := .slice (some ⟨g, 0, none⟩) cs.length cap) [6, 7, 15, 16, 17, 18] rfl (by kernel_rfl) (by kernel_rfl) (by kernel_rfl) (by kernel_rfl) (by kernel_rfl) (fun _ _ _ h => h) (.inl ⟨by kernel_rfl, ?_⟩) hk ?_
    · intro wx hSw
      have cc := hSw.1
      clear hSw hk
      go_simp
      try first | with_reducible rfl | kernel_rfl
    simp only [Act.put, List.getElem_toArray, List.getElem_cons_succ, List.getElem_cons_zero, List.setIfInBounds_toArray, List.set_cons_succ, List.set_cons_zero]
    refine Wl.take (i := 5) (v := .int .i64 (k : Int)) [6, 7, 15, 16, 17, 18] rfl (by kernel_rfl) (by kernel_rfl) (by kernel_rfl) (by kernel_rfl) (by kernel_rfl) (fun _ _ _ h => h) (.inl ⟨by kernel_rfl, ?_⟩) hk ?_
    · intro wx hSw
      clear hSw hk
      go_simp
      try first | with_reducible rfl | kernel_rfl
    simp only [Act.put, List.getElem_toArray, List.getElem_cons_succ, List.getElem_cons_zero, List.setIfInBounds_toArray, List.set_cons_succ, List.set_cons_zero]
    refine Wl.take (i := 6) (v := .slice (some ⟨g, 0, none⟩) k cap) [7, 15, 16, 17, 18] rfl (by kernel_rfl) (by kernel_rfl) (by kernel_rfl) (by kernel_rfl) (by kernel_rfl) (fun _ _ _ h => h) (.inl ⟨by kernel_rfl, ?_⟩) hk ?_
    · intro wx hSw
      clear hSw hk
      go_simp
      try first | with_reducible rfl | kernel_rfl
    simp only [Act.put, List.getElem_toArray, List.getElem_cons_succ, List.getElem_cons_zero, List.setIfInBounds_toArray, List.set_cons_succ, List.set_cons_zero]
    refine Wl.take (i := 8) (v := .pointer (some ⟨q, 0, none⟩)) [9, 10, 11, 14, 15, 16, 17, 18] rfl (by kernel_rfl) (by kernel_rfl) (by kernel_rfl) (by kernel_rfl) (by kernel_rfl) (fun _ _ _ h => h) (.inl ⟨by kernel_rfl, ?_⟩) hk ?_
    · intro wx hSw
      clear hSw hk
      go_simp
      try first | with_reducible rfl | kernel_rfl
    simp only [Act.put, List.getElem_toArray, List.getElem_cons_succ, List.getElem_cons_zero, List.setIfInBounds_toArray, List.set_cons_succ, List.set_cons_zero]
    refine Wl.take (i := 9) (v := .pointer (some ⟨q, 0, none⟩)) [10, 11, 14, 15, 16, 17, 18] rfl (by kernel_rfl) (by kernel_rfl) (by kernel_rfl) (by kernel_rfl) (by kernel_rfl) (fun _ _ _ h => h) (.inl ⟨by kernel_rfl, ?_⟩) hk ?_
    · intro wx hSw
      clear hSw hk
      go_simp
      try first | with_reducible rfl | kernel_rfl
    simp only [Act.put, List.getElem_toArray, List.getElem_cons_succ, List.getElem_cons_zero, List.setIfInBounds_toArray, List.set_cons_succ, List.set_cons_zero]
    refine Wl.take (i := 10) (v := .pointer (some ⟨q, 0, none⟩)) [11, 14, 15, 16, 17, 18] rfl (by kernel_rfl) (by kernel_rfl) (by kernel_rfl) (by kernel_rfl) (by kernel_rfl) (fun _ _ _ h => h) (.inl ⟨by kernel_rfl, ?_⟩) hk ?_
    · intro wx hSw
      clear hSw hk
      go_simp
      try first | with_reducible rfl | kernel_rfl
    simp only [Act.put, List.getElem_toArray, List.getElem_cons_succ, List.getElem_cons_zero, List.setIfInBounds_toArray, List.set_cons_succ, List.set_cons_zero]
    refine Wl.take (i := 11) (v := .slice (some ⟨g, 0, none⟩) cs.length cap) [14, 15, 16, 17, 18] rfl (by kernel_rfl) (by kernel_rfl) (by kernel_rfl) (by kernel_rfl) (by kernel_rfl) (fun _ _ _ h => h) (.inl ⟨by kernel_rfl, ?_⟩) hk ?_
    · intro wx hSw
      have cc := hSw.1
      clear hSw hk
      go_simp
      try first | with_reducible rfl | kernel_rfl
    simp only [Act.put, List.getElem_toArray, List.getElem_cons_succ, List.getElem_cons_zero, List.setIfInBounds_toArray, List.set_cons_succ, List.set_cons_zero]
    refine Wl.take (i := 12) (v := .int .i64 (k : Int)) [13, 14, 15, 16, 17, 18] rfl (by kernel_rfl) (by kernel_rfl) (by kernel_rfl) (by kernel_rfl) (by kernel_rfl) (fun _ _ _ h => h) (.inl ⟨by kernel_rfl, ?_⟩) hk ?_
    · intro wx hSw
      clear hSw hk
      go_simp
      try first | with_reducible rfl | kernel_rfl
    simp only [Act.put, List.getElem_toArray, List.getElem_cons_succ, List.getElem_cons_zero, List.setIfInBounds_toArray, List.set_cons_succ, List.set_cons_zero]
    refine Wl.take (i := 13) (v := .int .i64 ((k : Int) + 1)) [14, 15, 16, 17, 18] rfl (by kernel_rfl) (by kernel_rfl) (by kernel_rfl) (by kernel_rfl) (by kernel_rfl) (fun _ _ _ h => h) (.inl ⟨by kernel_rfl, ?_⟩) hk ?_
    · intro wx hSw
      have hwr : IntKind.i64.wrap ((k : Int) + 1) = (k : Int) + 1 := by rw [IntKind.wrap_i64]; omega
      clear hSw hk
      go_simp
      try first | with_reducible rfl | kernel_rfl
    simp only [Act.put, List.getElem_toArray, List.getElem_cons_succ, List.getElem_cons_zero, List.setIfInBounds_toArray, List.set_cons_succ, List.set_cons_zero]
    refine Wl.take (i := 14) (v := .slice AD (cs.length - (k + 1)) (cap - (k + 1))) [15, 16, 17, 18] rfl (by kernel_rfl) (by kernel_rfl) (by kernel_rfl) (by kernel_rfl) (by kernel_rfl) (fun _ _ _ h => h) (.inl ⟨by kernel_rfl, ?_⟩) hk ?_
    · intro wx hSw
      rw [← hAD]
      by_cases hc : cap = k + 1
      · subst hc
        clear hSw hk
        go_simp
        try first | with_reducible rfl | kernel_rfl
      clear hSw hk
      go_simp
      try first | with_reducible rfl | kernel_rfl
    simp only [Act.put, List.getElem_toArray, List.getElem_cons_succ, List.getElem_cons_zero, List.setIfInBounds_toArray, List.set_cons_succ, List.set_cons_zero]
    refine Wl.one (i := 7) (by kernel_rfl) rfl (fun K hK => ?_)
    refine stepRq cnC_len Try.underlying27 rfl (by decide) info_rcn rfl (.const (.slice none 0 0)) (.tmp 27) rfl w2.heap.size (.slice none 0 0) ([] : List Cn) rfl (OwnR.nil _ _ _) (.slice (some ⟨g, 0, none⟩) k cap) (cs.take k) rfl HTK.out (fun y hy => cnC_one y) (by rw [List.length_take]; unfold maxLen; simp; omega) (by rw [List.length_take]; simp; omega) (by show w2.heap.size ≤ w2.heap.size; exact Nat.le_refl _) ?_
    intro v3 w3 own3 hgr3 hor3
    rw [List.nil_append] at own3
    obtain ⟨a3, c3, rfl⟩ := own_slice own3
    have hgr3n : w2.drew.grownBy w3 none := hgr3
    have hb3 : Below w2.heap.size w2.drew w3 := ⟨hgr3n.os, hgr3n.tape, hgr3n.output, hgr3n.size, fun q hq => hgr3n.block q hq (fun e => by cases e)⟩
    have HN3 := Lib.hid (HD.out.below hb3)
    have HO3 := Lib.hid own3
    have HG3 := Lib.hid hgr3n
    have HDP3 := Lib.hid (HDP.out.below hb3 (Nat.le_refl _))
    have HS3 : Hid (w2.heap.size ≤ w3.heap.size) := Lib.hid hb3.size
    clear own3 hgr3 hor3 hgr3n hb3
    refine hK.out _ _ (Wl.Kn.on HN3.out.c0 trivial) (fun hk => ?_)
    clear hK K
    refine Wl.one (i := 15) (by kernel_rfl) rfl (fun K hK => ?_)
    refine stepRq cnC_len Try.underlying27 rfl (by decide) info_rcn rfl (.tmp 28) (.tmp 35) rfl w2.heap.size (.slice a3 (cs.take k).length c3) (cs.take k) rfl HO3.out (.slice AD (cs.length - (k + 1)) (cap - (k + 1))) (cs.drop (k + 1)) rfl HDP3.out (fun y hy => cnC_one y) (by rw [List.length_take, List.length_drop]; unfold maxLen; omega) (by rw [List.length_take, List.length_drop]; omega) HS3.out ?_
    intro v4 w4 own4 hgr4 hor4
    obtain ⟨n4, hn4⟩ : ∃ q, (cs.take k ++ cs.drop (k + 1)).length = q := ⟨_, rfl⟩
    obtain ⟨a4, c4, hv4⟩ := own_slice own4
    rw [hn4] at hv4
    subst hv4
    have hrow3 : ∀ q, (Value.slice a3 (cs.take k).length c3).ownBlock = some q → w2.drew.heap.size ≤ q := fun q hq => (World.ownsRow.lt HO3.out q hq).1
    have hg4 : w2.drew.grownBy w4 none := grown_two HG3.out hgr4 hrow3
    have hb4 : Below w2.drew.heap.size w2.drew w4 := ⟨hg4.os, hg4.tape, hg4.output, hg4.size, fun q hq => hg4.block q hq (fun e => by cases e)⟩
    have hpc := HD.out.putC HS2.out own4 hb4
    have hr4 := HD.out.below hb4
    have ck := hr4.c0
    have fk := hr4.f 0
    obtain ⟨W6, hW6⟩ : ∃ x, w4.setCell ⟨q, 0, none⟩ (.slice a4 n4 c4) = x := ⟨_, rfl⟩
    rw [hW6] at hpc
    have HFF := Lib.hid hpc
    clear own4 hgr4 hor4 hrow3 hg4 hb4 hpc hr4
    refine hK.out _ _ (Wl.Kn.on ck trivial) (fun hk => ?_)
    clear hK K
    refine Wl.take (i := 16) (v := .pointer (some ⟨q, 0, none⟩)) [17, 18] rfl (by kernel_rfl) (by kernel_rfl) (by kernel_rfl) (by kernel_rfl) (by kernel_rfl) (fun _ _ _ h => h) (.inl ⟨by kernel_rfl, ?_⟩) hk ?_
    · intro wx hSw
      clear hSw hk
      go_simp
      try first | with_reducible rfl | kernel_rfl
    simp only [Act.put, List.getElem_toArray, List.getElem_cons_succ, List.getElem_cons_zero, List.setIfInBounds_toArray, List.set_cons_succ, List.set_cons_zero]
    refine Wl.take (i := 17) (v := .pointer (some ⟨q, 0, none⟩)) [18] rfl (by kernel_rfl) (by kernel_rfl) (by kernel_rfl) (by kernel_rfl) (by kernel_rfl) (fun _ _ _ h => h) (.inl ⟨by kernel_rfl, ?_⟩) hk ?_
    · intro wx hSw
      clear hSw hk
      go_simp
      try first | with_reducible rfl | kernel_rfl
    simp only [Act.put, List.getElem_toArray, List.getElem_cons_succ, List.getElem_cons_zero, List.setIfInBounds_toArray, List.set_cons_succ, List.set_cons_zero]
    refine Wl.one (i := 18) (by kernel_rfl) rfl (fun K hK => ?_)
    go_simp
    try rw [hW6]
    refine hK.out _ _ (Wl.Kn.off (by kernel_rfl) trivial) (fun hk => ?_)
    clear hK K
    refine Wl.done (by kernel_rfl) ?_ _
    clear hk
    clear c0
    go_wp2
    go_ret2
    exact ⟨rfl, _, _, HFF.out.1, (Below.only HB2.out _).trans HFF.out.2.1, .inr (fun b hb => Nat.le_trans HB2.out.size (HFF.out.2.2 b hb))⟩
  · rw [if_neg hh, if_neg hh, if_neg hh]
    have hti : idxOf (tokQ t) cs = -1 := by rw [HTI.out, if_neg hh]
    have HT := Lib.hid hti
    clear h ok hh hti
    go_enter Try.func9, Try.ntmps9
    go_wp2_with (refine (rfind_any t _ HR.out h8).mono ?_; rintro e w2 ⟨rfl, hb⟩; rw [HT.out]; have HB2 := Lib.hid hb; clear hb)
    go_ret2
    exact ⟨rfl, RpC.same HR.out HB2.out⟩
end Pr
end Go.Proofs.Ytlhojkopfpnhpaa
