/- Both wallets beside one another: the law's own, the document's Same of trusts, the law's same. No condition. -/
import Derived.Test.YtgbblegcjladaaaLtN
import Derived.Test.YtgbblegcjladaaaLtR
import Derived.Test.YtgbblegcjladaaaLsE
namespace Go.Proofs.Ytgbblegcjladaaa
open Go.ChangeShapes Go.WideShapes Go.ChangeAt Go.RowKit Go.Deep Go.Maps Go.ChangeMaps Go.MapKept
set_option linter.unusedVariables false
set_option maxRecDepth 100000
set_option linter.unusedSimpArgs false
namespace Lt
open Mp Mc
variable {w w' w5 a : World} {S O : Nat → Prop} {p q B : Nat} {n now sent : Int} {s : Wa} {is : Bool} {vl v : Value} {L' : List Tr}
set_option maxHeartbeats 4000000 in
theorem own_any (L : List Tr) (v : Value) (w : World) (hv : SlR 3 trC w v L) (hn : L.length ≤ 1000) :
    Calls Try.prog 25 #[v] w fun e w' => ∃ v', e = .returned v' ∧ OwnR 3 trC TXT w' w.heap.size v' L ∧ Below w.heap.size w w' := by
  obtain ⟨al, cl, rfl, l1, m1, -⟩ := id hv
  have HS : Hid (∀ w', Below w.heap.size w w' → SlR 3 trC w' (.slice al L.length cl) L) := Lib.hid (fun w' hb => hv.below hb (Nat.le_refl _))
  have hlm : (L.length : Int) ≤ 1000 := by omega
  clear hv
  go_enter Try.func25, Try.ntmps25
  go_wp2_with fail
  go_loopw [3, 8] (fun u i wr => ∃ (j : Nat) (v : Value), v = u ∧ j ≤ L.length ∧ i = .int .i64 (j : Int) ∧ Hid (OwnR 3 trC TXT wr w.heap.size v (L.take j) ∧ Below w.heap.size w wr)) (fun _ i _ => L.length - (intOf i).toNat)
  case atStart => exact ⟨0, _, rfl, Nat.zero_le _, rfl, Lib.hid ⟨OwnR.nil _ _ _, Below.refl _ _⟩⟩
  case round =>
    obtain ⟨j, v, rfl, hj, rfl, HR⟩ := hrel
    by_cases hlt : j < L.length
    · have hlti : (j : Int) < (L.length : Int) := by omega
      obtain ⟨x, hx⟩ : ∃ x, L[j]? = some x := ⟨_, List.getElem?_eq_getElem hlt⟩
      have HTK := Lib.hid (parts hx).1
      obtain ⟨b0, off, rfl, y0, y1, y2⟩ : ∃ b off, al = some ⟨b, off, none⟩ ∧ wr.cell? ⟨b, off + j * 3, none⟩ = some (.int .i64 x.tok) ∧ wr.cell? ⟨b, off + j * 3 + 1, none⟩ = some (.int .u64 x.ser) ∧ wr.cell? ⟨b, off + j * 3 + 2, none⟩ = some (.int .i64 x.til) := by
        rcases SlR.cases (HS.out wr HR.out.2) with ⟨a9, c9, e, hnil⟩ | ⟨b, off, c9, e, -, -, -, -, hc⟩
        · rw [hnil] at hlt; simp at hlt
        · simp only [Value.slice.injEq] at e
          exact ⟨b, off, e.1, tr_cells (hc j _ hx)⟩
      obtain ⟨g2, hg2⟩ : ∃ z, wr.heap.size = z := ⟨_, rfl⟩
      obtain ⟨W5, hW5⟩ : ∃ z, wr.alloc (.cells #[.int .i64 x.tok, .int .u64 x.ser, .int .i64 x.til] 115) = z := ⟨_, rfl⟩
      have hr5 : W5.heap[g2]? = some (.cells #[.int .i64 x.tok, .int .u64 x.ser, .int .i64 x.til] 115 (0, 0)) := by rw [← hW5, ← hg2]; exact heap_alloc_new _ _
      have HO5 : Hid (OwnR 3 trC TXT W5 w.heap.size v (L.take j) ∧ Below w.heap.size w W5) := Lib.hid (by rw [← hW5]; exact ⟨HR.out.1.alloc _, HR.out.2.alloc HR.out.2.size _⟩)
      have d0 : W5.cell? ⟨g2, 0, none⟩ = some (.int .i64 x.tok) := (cell_of_row _ _ 0 _ _ _ hr5).trans rfl
      have d1 : W5.cell? ⟨g2, 1, none⟩ = some (.int .u64 x.ser) := (cell_of_row _ _ 1 _ _ _ hr5).trans rfl
      have d2 : W5.cell? ⟨g2, 2, none⟩ = some (.int .i64 x.til) := (cell_of_row _ _ 2 _ _ _ hr5).trans rfl
      have HJL : Hid ((L.take j).length ≤ j ∧ j < 1000) := Lib.hid ⟨List.length_take_le _ _, by omega⟩
      obtain ⟨W6, hW6⟩ : ∃ z, W5.alloc (.cells #[.int .i64 x.tok, .int .u64 x.ser, .int .i64 x.til] TXT) = z := ⟨_, rfl⟩
      have HLIT : Hid (SlR 3 trC W6 (.slice (some ⟨W5.heap.size, 0, none⟩) 1 1) [x]) := Lib.hid (by rw [← hW6]; exact SlR.one trC_len W5 _ rfl _ x rfl)
      have HO6 : Hid (OwnR 3 trC TXT W6 w.heap.size v (L.take j) ∧ Below w.heap.size w W6) := Lib.hid (by rw [← hW6]; exact ⟨HO5.out.1.alloc _, HO5.out.2.alloc HO5.out.2.size _⟩)
      clear hr5 HR hx
      go_wp2_with (first | rw [hW5, hg2] | rw [hW6] | (at_builtin; refine appR trC_len trC_one Try.underlying64 rfl (by decide) info_trx rfl (.tmp 12) (.tmp 14) rfl w.heap.size v (L.take j) rfl HO6.out.1 (.slice (some ⟨W5.heap.size, 0, none⟩) 1 1) [x] rfl HLIT.out (by have := HJL.out; unfold maxLen; simp only [List.length_singleton]; omega) (by have := HJL.out; simp only [List.length_singleton]; omega) HO6.out.2.size ?_; intro v7 w7 own7 bel7; have HO7 := Lib.hid own7; have HB7 := Lib.hid (HO6.out.2.trans bel7); clear own7 bel7))
      go_roundw
      case rel => exact ⟨j + 1, _, rfl, by omega, by go_num, Lib.hid ⟨by rw [HTK.out]; exact HO7.out, HB7.out⟩⟩
      case measure => simp [intOf]; omega
    · obtain rfl : j = L.length := by omega
      have HE := Lib.hid HR.out
      clear HR
      go_wp2
      go_ret
      exact ⟨_, rfl, by have := HE.out.1; rw [List.take_length] at this; exact this, HE.out.2⟩
theorem rng3 {a : Option Addr} {m c j : Nat} {K : List Tr} {z : Tr} (h : SlR 3 trC w (.slice a m c) K) (hz : K[j]? = some z) : ∃ b o, a = some ⟨b, o, none⟩ ∧ w.rangeAt b (o + j * 3) (trC z) := by
  rcases SlR.cases h with ⟨a2, c3, e, hnil⟩ | ⟨b, off, c3, e, -, -, -, -, hc⟩
  · rw [hnil] at hz; cases hz
  · simp only [Value.slice.injEq] at e
    exact ⟨b, off, e.1, fun i v hv => by rw [Nat.add_assoc]; exact hc j z hz i v hv⟩
set_option maxHeartbeats 4000000 in
theorem rsame_any (L : List Tr) (v u : Value) (w : World) (hv : SlR 3 trC w v L) (hu : SlR 3 trC w u L) :
    Calls Try.prog 24 #[v, u] w fun e w' => e = .returned (.bool true) ∧ Below w.heap.size w w' := by
  obtain ⟨a1, c1, rfl, l1, m1, -⟩ := id hv
  obtain ⟨a2, c2, rfl, l2, m2, -⟩ := id hu
  unfold maxLen at m1 m2
  have HV := Lib.hid hv
  have HU := Lib.hid hu
  clear hv hu
  go_enter Try.func24, Try.ntmps24
  go_wp2_with fail
  go_loopw [13] (fun i wr => ∃ (j : Nat), j ≤ L.length ∧ i = .int .i64 (j : Int) ∧ Hid (Below w.heap.size w wr)) (fun i _ => L.length - (intOf i).toNat)
  case atStart => exact ⟨0, Nat.zero_le _, rfl, Lib.hid (Below.refl _ _)⟩
  case round =>
    obtain ⟨j, hj, rfl, HRJ⟩ := hrel
    by_cases hlt : j < L.length
    · have hlti : (j : Int) < (L.length : Int) := by omega
      obtain ⟨x, hx⟩ : ∃ x, L[j]? = some x := ⟨_, List.getElem?_eq_getElem hlt⟩
      have HBR : Hid (Below w.heap.size w wr.drew) := Lib.hid HRJ.out.drew
      obtain ⟨b1, o1, rfl, r1⟩ := rng3 (HV.out.below HBR.out (Nat.le_refl _)) hx
      obtain ⟨b2, o2, rfl, r2⟩ := rng3 (HU.out.below HBR.out (Nat.le_refl _)) hx
      have HR := Lib.hid (And.intro r1 r2)
      have HJ : Hid (j < L.length ∧ (j : Int) < (L.length : Int)) := Lib.hid ⟨hlt, hlti⟩
      clear hx r1 r2
      go_upto_region 6 with fail
      refine Wl.start 999 (fun _ => True) (fun u => u.rangeAt b1 (o1 + j * 3) (trC x) ∧ u.rangeAt b2 (o2 + j * 3) (trC x)) (by kernel_rfl) trivial HR.out (fun hk => ?_)
      refine Wl.take0 (i := 0) (v := .slice (some ⟨b1, o1, none⟩) L.length c1) rfl (by kernel_rfl) (by kernel_rfl) (by kernel_rfl) (by kernel_rfl) (fun _ _ _ h => h) (.inl ⟨by kernel_rfl, ?_⟩) hk ?_
      · intro wx hSw
        clear hSw hk
        go_simp
        try first | with_reducible rfl | kernel_rfl
      simp only [Act.put, List.getElem_toArray, List.getElem_cons_succ, List.getElem_cons_zero, List.setIfInBounds_toArray, List.set_cons_succ, List.set_cons_zero]
      refine Wl.take0 (i := 1) (v := .int .i64 (j : Int)) rfl (by kernel_rfl) (by kernel_rfl) (by kernel_rfl) (by kernel_rfl) (fun _ _ _ h => h) (.inl ⟨by kernel_rfl, ?_⟩) hk ?_
      · intro wx hSw
        clear hSw hk
        go_simp
        try first | with_reducible rfl | kernel_rfl
      simp only [Act.put, List.getElem_toArray, List.getElem_cons_succ, List.getElem_cons_zero, List.setIfInBounds_toArray, List.set_cons_succ, List.set_cons_zero]
      refine Wl.take0 (i := 2) (v := .pointer (some ⟨b1, o1 + j * 3, none⟩)) rfl (by kernel_rfl) (by kernel_rfl) (by kernel_rfl) (by kernel_rfl) (fun _ _ _ h => h) (.inl ⟨by kernel_rfl, ?_⟩) hk ?_
      · intro wx hSw
        have hjl := HJ.out.1
        have hji := HJ.out.2
        clear hSw hk
        go_simp
        try first | with_reducible rfl | kernel_rfl
      simp only [Act.put, List.getElem_toArray, List.getElem_cons_succ, List.getElem_cons_zero, List.setIfInBounds_toArray, List.set_cons_succ, List.set_cons_zero]
      refine Wl.take0 (i := 3) (v := trV x) rfl (by kernel_rfl) (by kernel_rfl) (by kernel_rfl) (by kernel_rfl) (fun _ _ _ h => h) (yieldsIf_load_mid (by rfl) _ _ rfl _ _ rfl (trC x) _ (fun w h => h.1) Try.underlying121 rfl (by kernel_rfl)) hk ?_
      simp only [Act.put, List.getElem_toArray, List.getElem_cons_succ, List.getElem_cons_zero, List.setIfInBounds_toArray, List.set_cons_succ, List.set_cons_zero]
      refine Wl.take0 (i := 4) (v := .slice (some ⟨b2, o2, none⟩) L.length c2) rfl (by kernel_rfl) (by kernel_rfl) (by kernel_rfl) (by kernel_rfl) (fun _ _ _ h => h) (.inl ⟨by kernel_rfl, ?_⟩) hk ?_
      · intro wx hSw
        clear hSw hk
        go_simp
        try first | with_reducible rfl | kernel_rfl
      simp only [Act.put, List.getElem_toArray, List.getElem_cons_succ, List.getElem_cons_zero, List.setIfInBounds_toArray, List.set_cons_succ, List.set_cons_zero]
      refine Wl.take0 (i := 5) (v := .int .i64 (j : Int)) rfl (by kernel_rfl) (by kernel_rfl) (by kernel_rfl) (by kernel_rfl) (fun _ _ _ h => h) (.inl ⟨by kernel_rfl, ?_⟩) hk ?_
      · intro wx hSw
        clear hSw hk
        go_simp
        try first | with_reducible rfl | kernel_rfl
      simp only [Act.put, List.getElem_toArray, List.getElem_cons_succ, List.getElem_cons_zero, List.setIfInBounds_toArray, List.set_cons_succ, List.set_cons_zero]
      refine Wl.take0 (i := 6) (v := .pointer (some ⟨b2, o2 + j * 3, none⟩)) rfl (by kernel_rfl) (by kernel_rfl) (by kernel_rfl) (by kernel_rfl) (fun _ _ _ h => h) (.inl ⟨by kernel_rfl, ?_⟩) hk ?_
      · intro wx hSw
        have hjl := HJ.out.1
        have hji := HJ.out.2
        clear hSw hk
        go_simp
        try first | with_reducible rfl | kernel_rfl
      simp only [Act.put, List.getElem_toArray, List.getElem_cons_succ, List.getElem_cons_zero, List.setIfInBounds_toArray, List.set_cons_succ, List.set_cons_zero]
      refine Wl.take0 (i := 7) (v := trV x) rfl (by kernel_rfl) (by kernel_rfl) (by kernel_rfl) (by kernel_rfl) (fun _ _ _ h => h) (yieldsIf_load_mid (by rfl) _ _ rfl _ _ rfl (trC x) _ (fun w h => h.2) Try.underlying121 rfl (by kernel_rfl)) hk ?_
      simp only [Act.put, List.getElem_toArray, List.getElem_cons_succ, List.getElem_cons_zero, List.setIfInBounds_toArray, List.set_cons_succ, List.set_cons_zero]
      refine Wl.take0 (i := 8) (v := .bool false) rfl (by kernel_rfl) (by kernel_rfl) (by kernel_rfl) (by kernel_rfl) (fun _ _ _ h => h) (.inl ⟨by kernel_rfl, ?_⟩) hk ?_
      · intro wx hSw
        clear hSw hk
        go_simp
        try first | with_reducible rfl | kernel_rfl
      simp only [Act.put, List.getElem_toArray, List.getElem_cons_succ, List.getElem_cons_zero, List.setIfInBounds_toArray, List.set_cons_succ, List.set_cons_zero]
      refine Wl.done (by kernel_rfl) ?_ _
      clear hk
      clear HR
      go_wp2_with fail
      go_roundw
      case rel => exact ⟨j + 1, by omega, by go_num, HBR⟩
      case measure => simp [intOf]; omega
    · obtain rfl : j = L.length := by omega
      go_wp2
      go_ret
      exact ⟨rfl, HRJ.out⟩
/-! ### both wallets -/
/-- a command that a wallet may hold -/
def cmdOk (c : Cmd) : Prop := c.wf ∧ c.nodes = []
theorem isc0 {c : Cmd} (h : cmdOk c) (w : World) : IsCmd w (.agg (cmA c)) c :=
  ⟨.slice none 0 0, rfl, ⟨none, 0, by rw [h.2]; rfl, Nat.le_of_eq (by rw [h.2]; rfl), Nat.zero_le _, by rw [h.2]; exact fun _ hm => absurd hm List.not_mem_nil, .inl ⟨rfl, rfl, h.2⟩⟩, h.1⟩
structure OkW (s : Wa) : Prop where
  tim : s.tim
  cmd : cmdOk s.c
abbrev Two (p q : Nat) (n : Int) (s1 s2 : Wa) (O : Nat → Prop) (B : Nat) (a w : World) : Prop := TwoO (WaX p n s1) (RwX q n s2) O B a w
theorem Two.lt {s1 s2 : Wa} (h : Two p q n s1 s2 O B a w) {k : Nat} (hk : O k) : k < w.heap.size := by obtain ⟨S1, S2, -, -, -, -, -, h6, -, -⟩ := h; exact (h6 k hk).1
set_option maxRecDepth 100000 in
set_option maxHeartbeats 16000000 in
theorem lsame_any (h : Two p q n s s O B a w) (hs : OkW s) (hn : s.L.length ≤ 1000) :
    Calls Try.prog 35 #[.pointer (some ⟨p, 0, none⟩), .pointer (some ⟨q, 0, none⟩)] w fun e w' => e = .returned (.bool true) ∧ Two p q n s s O B a w' ∧ ∀ k, O k → w'.heap[k]? = w.heap[k]? := by
  have HT := Lib.hid h
  have HN := Lib.hid hn
  have HS := Lib.hid hs.cmd
  obtain ⟨S1, S2, h1, h2, -⟩ := h
  have HALL := Lib.hid (all_any w h1 hn)
  have hlm : (s.L.length : Int) ≤ 1000 := by omega
  obtain ⟨kd, hkd⟩ : ∃ z, (s.c.kind != 0) = z := ⟨_, rfl⟩
  have HKD := Lib.hid hkd
  have HKK : Hid ((kd == kd) = true) := Lib.hid (by cases kd <;> rfl)
  clear h1 h2 hs hkd hn
  go_enter Try.func35, Try.ntmps35
  go_wp2_with fail
  refine HALL.out.mono ?_
  rintro e w1 ⟨v, rfl, ho1, hb1⟩
  obtain ⟨a1, c1, rfl⟩ := own_slice ho1
  obtain ⟨O1, hO1⟩ : ∃ Z : Nat → Prop, Z = (fun k => O k ∨ (w.heap.size ≤ k ∧ k < w1.heap.size)) := ⟨_, rfl⟩
  have HT1 : Hid (Two p q n s s O1 B a w1) := Lib.hid (by rw [hO1]; exact TwoO.more (goodW p n s) (goodR q n s) HT.out hb1)
  have HOO : Hid ((∀ k, O k → O1 k) ∧ ∀ k, (Value.slice a1 s.L.length c1).ownBlock = some k → O1 k ∧ ¬ O k) := Lib.hid ⟨fun k hk => by rw [hO1]; exact .inl hk, fun k hk => by
    have := World.ownsRow.lt ho1 k hk
    exact ⟨by rw [hO1]; exact .inr this, fun hO => by have := HT.out.lt hO; omega⟩⟩
  have HK1 : Hid (∀ k, O k → w1.heap[k]? = w.heap[k]?) := Lib.hid (fun k hk => hb1.block k (HT.out.lt hk))
  have HO1 := Lib.hid ho1
  have HV1 : Hid (∀ w', Below w1.heap.size w1 w' → SlR 3 trC w' (.slice a1 s.L.length c1) s.L) := Lib.hid (fun w' hb => (ho1.below hb (Nat.le_refl _)).sl trC_len)
  obtain ⟨al, cl, hq1⟩ : ∃ al cl, ∀ w', Below w1.heap.size w1 w' → w'.cell? ⟨q, 12, none⟩ = some (.slice al s.L.length cl) ∧ SlR 3 trC w' (.slice al s.L.length cl) s.L := by
    obtain ⟨S1, S2, -, ⟨sent, vl, h2⟩, -⟩ := HT1.out
    obtain ⟨al, cl, rfl⟩ := own_slice h2.l
    exact ⟨al, cl, fun w' hb => ⟨(cell_of_row _ _ 12 _ _ _ ((hb.block q (row_lt h2.row)).trans h2.row)).trans rfl, (h2.l.below hb (Nat.le_refl _)).sl trC_len⟩⟩
  have HQ1 : Hid (∀ w', Below w1.heap.size w1 w' → w'.cell? ⟨q, 12, none⟩ = some (.slice al s.L.length cl) ∧ SlR 3 trC w' (.slice al s.L.length cl) s.L ∧ True) := Lib.hid (fun w' hb => ⟨(hq1 w' hb).1, (hq1 w' hb).2, trivial⟩)
  have HC1 : Hid (w1.drew.cell? ⟨q, 12, none⟩ = some (.slice al s.L.length cl)) := Lib.hid (hq1 w1.drew (Below.refl _ _).drew).1
  clear ho1 hb1 hO1 hq1 HALL
  go_upto_region 2 with fail
  refine Wl.start 999 (fun _ => True) (fun u => u.cell? ⟨q, 12, none⟩ = some (.slice al s.L.length cl)) (by kernel_rfl) trivial HC1.out (fun hk => ?_)
  refine Wl.take0 (i := 0) (v := .slice a1 s.L.length c1) rfl (by kernel_rfl) (by kernel_rfl) (by kernel_rfl) (by kernel_rfl) (fun _ _ _ h => h) (.inl ⟨by kernel_rfl, ?_⟩) hk ?_
  · intro wx hSw
    clear hSw hk
    go_simp
    try first | with_reducible rfl | kernel_rfl
  simp only [Act.put, List.getElem_toArray, List.getElem_cons_succ, List.getElem_cons_zero, List.setIfInBounds_toArray, List.set_cons_succ, List.set_cons_zero]
  refine Wl.take0 (i := 2) (v := .pointer (some ⟨q, 0, none⟩)) rfl (by kernel_rfl) (by kernel_rfl) (by kernel_rfl) (by kernel_rfl) (fun _ _ _ h => h) (.inl ⟨by kernel_rfl, ?_⟩) hk ?_
  · intro wx hSw
    clear hSw hk
    go_simp
    try first | with_reducible rfl | kernel_rfl
  simp only [Act.put, List.getElem_toArray, List.getElem_cons_succ, List.getElem_cons_zero, List.setIfInBounds_toArray, List.set_cons_succ, List.set_cons_zero]
  refine Wl.take0 (i := 3) (v := .pointer (some ⟨q, 0, none⟩)) rfl (by kernel_rfl) (by kernel_rfl) (by kernel_rfl) (by kernel_rfl) (fun _ _ _ h => h) (.inl ⟨by kernel_rfl, ?_⟩) hk ?_
  · intro wx hSw
    clear hSw hk
    go_simp
    try first | with_reducible rfl | kernel_rfl
  simp only [Act.put, List.getElem_toArray, List.getElem_cons_succ, List.getElem_cons_zero, List.setIfInBounds_toArray, List.set_cons_succ, List.set_cons_zero]
  refine Wl.take0 (i := 4) (v := .pointer (some ⟨q, 12, none⟩)) rfl (by kernel_rfl) (by kernel_rfl) (by kernel_rfl) (by kernel_rfl) (fun _ _ _ h => h) (.inl ⟨by kernel_rfl, ?_⟩) hk ?_
  · intro wx hSw
    clear hSw hk
    go_simp
    try first | with_reducible rfl | kernel_rfl
  simp only [Act.put, List.getElem_toArray, List.getElem_cons_succ, List.getElem_cons_zero, List.setIfInBounds_toArray, List.set_cons_succ, List.set_cons_zero]
  refine Wl.take0 (i := 5) (v := .slice al s.L.length cl) rfl (by kernel_rfl) (by kernel_rfl) (by kernel_rfl) (by kernel_rfl) (fun _ _ _ h => h) (.inl ⟨by kernel_rfl, ?_⟩) hk ?_
  · intro wx hSw
    have cc := hSw
    clear hSw hk
    go_simp
    try first | with_reducible rfl | kernel_rfl
  simp only [Act.put, List.getElem_toArray, List.getElem_cons_succ, List.getElem_cons_zero, List.setIfInBounds_toArray, List.set_cons_succ, List.set_cons_zero]
  refine Wl.one (i := 1) (by kernel_rfl) rfl (fun K hK => ?_)
  go_simp
  refine (own_any s.L _ _ (HV1.out w1.drew (Below.refl _ _).drew) HN.out).mono ?_
  rintro e w2 ⟨v2, rfl, ho2, hb2⟩
  have HB2 : Hid (Below w1.heap.size w1 w2) := Lib.hid ((Below.refl w1.heap.size w1).drew.trans hb2)
  have HV2 := Lib.hid (ho2.sl trC_len)
  clear ho2 hb2
  refine hK.out _ _ (Wl.Kn.on trivial (HQ1.out w2 HB2.out).1) (fun hk => ?_)
  clear hK K
  refine Wl.one (i := 6) (by kernel_rfl) rfl (fun K hK => ?_)
  go_simp
  refine (rsame_any s.L _ _ w2 HV2.out (HQ1.out w2 HB2.out).2.1).mono ?_
  rintro e w3 ⟨rfl, hb3⟩
  have HB3 : Hid (Below w1.heap.size w1 w3) := Lib.hid (HB2.out.trans (hb3.mono HB2.out.size))
  clear hb3
  refine hK.out _ _ (Wl.Kn.on trivial (HQ1.out w3 HB3.out).1) (fun hk => ?_)
  clear hK K
  refine Wl.take0 (i := 7) (v := .bool true) rfl (by kernel_rfl) (by kernel_rfl) (by kernel_rfl) (by kernel_rfl) (fun _ _ _ h => h) (.inl ⟨by kernel_rfl, ?_⟩) hk ?_
  · intro wx hSw
    clear hSw hk
    go_simp
    try first | with_reducible rfl | kernel_rfl
  simp only [Act.put, List.getElem_toArray, List.getElem_cons_succ, List.getElem_cons_zero, List.setIfInBounds_toArray, List.set_cons_succ, List.set_cons_zero]
  refine Wl.done (by kernel_rfl) ?_ _
  clear hk
  have HT3 : Hid (Two p q n s s O1 B a w3 ∧ OwnR 3 trC 115 w3 w.heap.size (.slice a1 s.L.length c1) s.L ∧ ∀ k, O k → w3.heap[k]? = w.heap[k]?) := Lib.hid ⟨TwoO.below (goodW p n s) (goodR q n s) HT1.out HB3.out, HO1.out.below HB3.out (Nat.le_refl _), fun k hk => (HB3.out.block k (HT1.out.lt (HOO.out.1 k hk))).trans (HK1.out k hk)⟩
  clear HV2 HB2 HB3 HC1 HQ1 HV1
  obtain ⟨m, hm⟩ : ∃ z, s.L.length = z := ⟨_, rfl⟩
  have HM := Lib.hid hm
  have hm2 : (m : Int) ≤ 1000 := by omega
  rw [hm] at HT3 HOO ⊢
  clear hm hlm
  go_wp2_with fail
  go_loopw [21] (fun i wr => ∃ (j : Nat) (xs : List Tr), j ≤ m ∧ i = .int .i64 (j : Int) ∧ Hid (Two p q n s s O1 B a wr ∧ (OwnR 3 trC 115 wr w.heap.size (.slice a1 m c1) xs ∧ xs.length = m) ∧ ∀ k, O k → wr.heap[k]? = w.heap[k]?)) (fun i _ => m - (intOf i).toNat)
  case atStart => exact ⟨0, s.L, Nat.zero_le _, rfl, Lib.hid ⟨HT3.out.1, ⟨HT3.out.2.1, HM.out⟩, HT3.out.2.2⟩⟩
  case round =>
    obtain ⟨j, xs, hj, rfl, HR⟩ := hrel
    by_cases hlt : j < m
    · have hlti : (j : Int) < (m : Int) := by omega
      obtain ⟨y, hy⟩ : ∃ y, xs[j]? = some y := ⟨_, List.getElem?_eq_getElem (by rw [HR.out.2.1.2]; exact hlt)⟩
      obtain ⟨bh, cur, rfl, hbh, hB⟩ : ∃ b cur, a1 = some ⟨b, 0, none⟩ ∧ wr.heap[b]? = some (.cells cur 115 (0, 0)) ∧ w.heap.size ≤ b := by
        rcases own_form HR.out.2.1.1 with ⟨-, h0⟩ | ⟨b, c, cur, e1, e2, e3⟩
        · rw [HR.out.2.1.2] at h0; omega
        · simp only [Value.slice.injEq] at e1
          exact ⟨b, cur, e1.1, e2, e3⟩
      have hOb := HOO.out.2 bh rfl
      have hset := Ls.own_set trC_len HR.out.2.1.1 hy (x' := { y with tok := 99 }) (i := 0) (by decide) (u := .int .i64 99) rfl
      simp only [Nat.add_zero] at hset
      have hcy : wr.cell? ⟨bh, j * 3, none⟩ = some (.int .i64 y.tok) := by
        rcases SlR.cases (HR.out.2.1.1.sl trC_len) with ⟨a9, c9, e, hnil⟩ | ⟨b, off, c9, e, -, -, -, -, hc⟩
        · have := congrArg List.length hnil; rw [HR.out.2.1.2, List.length_nil] at this; omega
        · simp only [Value.slice.injEq, Option.some.injEq, Addr.mk.injEq, and_true] at e
          obtain ⟨⟨rfl, rfl⟩, -, -⟩ := e
          have h4 := (tr_cells (hc j y hy)).1
          simp only [Nat.zero_add] at h4
          exact h4
      have hfz : wr.frozen? ⟨bh, j * 3, none⟩ = false := frozen_of_row wr _ _ _ _ hbh
      obtain ⟨W9, hW9⟩ : ∃ z, wr.setCell ⟨bh, j * 3, none⟩ (.int .i64 99) = z := ⟨_, rfl⟩
      have HQ9 : Hid (Two p q n s s O1 B a W9 ∧ (OwnR 3 trC 115 W9 w.heap.size (.slice (some ⟨bh, 0, none⟩) m c1) (xs.set j { y with tok := 99 }) ∧ (xs.set j { y with tok := 99 }).length = m) ∧ ∀ k, O k → W9.heap[k]? = w.heap[k]?) := Lib.hid (by
        rw [← hW9]
        refine ⟨TwoO.only (goodW p n s) (goodR q n s) HR.out.1 (Only.setCell wr ⟨bh, j * 3, none⟩ _ hOb.1), ⟨hset, by rw [List.length_set]; exact HR.out.2.1.2⟩, fun k hk => ?_⟩
        rw [heap_setCell_other wr ⟨bh, j * 3, none⟩ k _ (fun e => hOb.2 (by have e : k = bh := e; rw [← e]; exact hk))]
        exact HR.out.2.2 k hk)
      clear hy hbh hB hOb hset HR
      go_wp2_with (first | rw [hW9])
      go_roundw
      case rel => exact ⟨j + 1, _, by omega, by go_num, HQ9⟩
      case measure => simp [intOf]; omega
    · have HE := Lib.hid HR.out
      have hnl : ¬ (j : Int) < (m : Int) := by omega
      have HAS := Lib.hid (show Calls Try.prog 40 #[.pointer (some ⟨p, 0, none⟩)] wr fun e w' => e = .returned (.tuple #[.agg (cmA s.c), .bool kd]) ∧ Below wr.heap.size wr w' from by
        obtain ⟨S1, S2, h1, -⟩ := HE.out.1
        rw [← HKD.out]
        exact asked_any wr h1)
      clear HR HT3
      go_wp2_with fail
      refine HAS.out.mono ?_
      rintro e w5 ⟨rfl, hb5⟩
      obtain ⟨g8, hg8⟩ : ∃ z, w5.heap.size = z := ⟨_, rfl⟩
      obtain ⟨W6, hW6⟩ : ∃ z, w5.alloc (.cells (cmA s.c) 58) = z := ⟨_, rfl⟩
      have hb6 : Below wr.heap.size wr W6 := by rw [← hW6]; exact hb5.alloc hb5.size _
      have hr6 : W6.heap[g8]? = some (.cells (cmA s.c) 58 (0, 0)) := by rw [← hW6, ← hg8]; exact heap_alloc_new _ _
      have HT6 : Hid (Two p q n s s O1 B a W6 ∧ ∀ k, O k → W6.heap[k]? = w.heap[k]?) := Lib.hid ⟨TwoO.below (goodW p n s) (goodR q n s) HE.out.1 hb6, fun k hk => (hb6.block k (HE.out.1.lt (HOO.out.1 k hk))).trans (HE.out.2.2 k hk)⟩
      have HQ6 : Hid (W6.drew.cell? ⟨q, 3, none⟩ = some (.bool kd) ∧ W6.drew.rangeAt g8 0 (cmA s.c).toList ∧ W6.drew.rangeAt q 4 (cmA s.c).toList) := Lib.hid (by
        obtain ⟨S1, S2, -, ⟨sent, vl, h2⟩, -⟩ := HT6.out.1
        refine ⟨by rw [← HKD.out]; exact (cell_of_row W6 _ 3 _ _ _ h2.row).trans rfl, Wl.rng_of_row (w := W6.drew) hr6, fun j v hv => ?_⟩
        have hl : j < 8 := (List.getElem?_eq_some_iff.1 hv).1
        rw [show W6.drew.cell? ⟨q, 4 + j, none⟩ = _ from cell_of_row W6 _ (4 + j) _ _ _ h2.row]
        rcases (by omega : j = 0 ∨ j = 1 ∨ j = 2 ∨ j = 3 ∨ j = 4 ∨ j = 5 ∨ j = 6 ∨ j = 7) with rfl | rfl | rfl | rfl | rfl | rfl | rfl | rfl <;> exact hv)
      clear hb5 hb6 hr6
      go_upto_region 9 with (first | rw [hW6, hg8])
      clear hW6 hg8
      refine Wl.start 999 (fun _ => True) (fun u => u.cell? ⟨q, 3, none⟩ = some (.bool kd) ∧ u.rangeAt g8 0 (cmA s.c).toList ∧ u.rangeAt q 4 (cmA s.c).toList) (by kernel_rfl) trivial HQ6.out (fun hk => ?_)
      refine Wl.take0 (i := 0) (v := .bool true) rfl (by kernel_rfl) (by kernel_rfl) (by kernel_rfl) (by kernel_rfl) (fun _ _ _ h => h) (.inl ⟨by kernel_rfl, ?_⟩) hk ?_
      · intro wx hSw
        clear hSw hk
        go_simp
        try first | with_reducible rfl | kernel_rfl
      simp only [Act.put, List.getElem_toArray, List.getElem_cons_succ, List.getElem_cons_zero, List.setIfInBounds_toArray, List.set_cons_succ, List.set_cons_zero]
      refine Wl.take0 (i := 1) (v := .bool true) rfl (by kernel_rfl) (by kernel_rfl) (by kernel_rfl) (by kernel_rfl) (fun _ _ _ h => h) (.inl ⟨by kernel_rfl, ?_⟩) hk ?_
      · intro wx hSw
        clear hSw hk
        go_simp
        try first | with_reducible rfl | kernel_rfl
      simp only [Act.put, List.getElem_toArray, List.getElem_cons_succ, List.getElem_cons_zero, List.setIfInBounds_toArray, List.set_cons_succ, List.set_cons_zero]
      refine Wl.take0 (i := 2) (v := .bool kd) rfl (by kernel_rfl) (by kernel_rfl) (by kernel_rfl) (by kernel_rfl) (fun _ _ _ h => h) (.inl ⟨by kernel_rfl, ?_⟩) hk ?_
      · intro wx hSw
        clear hSw hk
        go_simp
        try first | with_reducible rfl | kernel_rfl
      simp only [Act.put, List.getElem_toArray, List.getElem_cons_succ, List.getElem_cons_zero, List.setIfInBounds_toArray, List.set_cons_succ, List.set_cons_zero]
      refine Wl.take0 (i := 3) (v := .pointer (some ⟨q, 0, none⟩)) rfl (by kernel_rfl) (by kernel_rfl) (by kernel_rfl) (by kernel_rfl) (fun _ _ _ h => h) (.inl ⟨by kernel_rfl, ?_⟩) hk ?_
      · intro wx hSw
        clear hSw hk
        go_simp
        try first | with_reducible rfl | kernel_rfl
      simp only [Act.put, List.getElem_toArray, List.getElem_cons_succ, List.getElem_cons_zero, List.setIfInBounds_toArray, List.set_cons_succ, List.set_cons_zero]
      refine Wl.take0 (i := 4) (v := .pointer (some ⟨q, 0, none⟩)) rfl (by kernel_rfl) (by kernel_rfl) (by kernel_rfl) (by kernel_rfl) (fun _ _ _ h => h) (.inl ⟨by kernel_rfl, ?_⟩) hk ?_
      · intro wx hSw
        clear hSw hk
        go_simp
        try first | with_reducible rfl | kernel_rfl
      simp only [Act.put, List.getElem_toArray, List.getElem_cons_succ, List.getElem_cons_zero, List.setIfInBounds_toArray, List.set_cons_succ, List.set_cons_zero]
      refine Wl.take0 (i := 5) (v := .pointer (some ⟨q, 3, none⟩)) rfl (by kernel_rfl) (by kernel_rfl) (by kernel_rfl) (by kernel_rfl) (fun _ _ _ h => h) (.inl ⟨by kernel_rfl, ?_⟩) hk ?_
      · intro wx hSw
        clear hSw hk
        go_simp
        try first | with_reducible rfl | kernel_rfl
      simp only [Act.put, List.getElem_toArray, List.getElem_cons_succ, List.getElem_cons_zero, List.setIfInBounds_toArray, List.set_cons_succ, List.set_cons_zero]
      refine Wl.take0 (i := 6) (v := .bool kd) rfl (by kernel_rfl) (by kernel_rfl) (by kernel_rfl) (by kernel_rfl) (fun _ _ _ h => h) (.inl ⟨by kernel_rfl, ?_⟩) hk ?_
      · intro wx hSw
        have cc := hSw.1
        clear hSw hk
        go_simp
        try first | with_reducible rfl | kernel_rfl
      simp only [Act.put, List.getElem_toArray, List.getElem_cons_succ, List.getElem_cons_zero, List.setIfInBounds_toArray, List.set_cons_succ, List.set_cons_zero]
      refine Wl.take0 (i := 7) (v := .bool true) rfl (by kernel_rfl) (by kernel_rfl) (by kernel_rfl) (by kernel_rfl) (fun _ _ _ h => h) (.inl ⟨by kernel_rfl, ?_⟩) hk ?_
      · intro wx hSw
        have e := HKK.out
        clear hSw hk
        go_simp
        try first | with_reducible rfl | kernel_rfl
      simp only [Act.put, List.getElem_toArray, List.getElem_cons_succ, List.getElem_cons_zero, List.setIfInBounds_toArray, List.set_cons_succ, List.set_cons_zero]
      refine Wl.take0 (i := 8) (v := .bool true) rfl (by kernel_rfl) (by kernel_rfl) (by kernel_rfl) (by kernel_rfl) (fun _ _ _ h => h) (.inl ⟨by kernel_rfl, ?_⟩) hk ?_
      · intro wx hSw
        clear hSw hk
        go_simp
        try first | with_reducible rfl | kernel_rfl
      simp only [Act.put, List.getElem_toArray, List.getElem_cons_succ, List.getElem_cons_zero, List.setIfInBounds_toArray, List.set_cons_succ, List.set_cons_zero]
      refine Wl.take0 (i := 9) (v := .bool true) rfl (by kernel_rfl) (by kernel_rfl) (by kernel_rfl) (by kernel_rfl) (fun _ _ _ h => h) (.inl ⟨by kernel_rfl, ?_⟩) hk ?_
      · intro wx hSw
        clear hSw hk
        go_simp
        try first | with_reducible rfl | kernel_rfl
      simp only [Act.put, List.getElem_toArray, List.getElem_cons_succ, List.getElem_cons_zero, List.setIfInBounds_toArray, List.set_cons_succ, List.set_cons_zero]
      refine Wl.take0 (i := 10) (v := .agg (cmA s.c)) rfl (by kernel_rfl) (by kernel_rfl) (by kernel_rfl) (by kernel_rfl) (fun _ _ _ h => h) (yieldsIf_load_mid (by rfl) _ _ rfl _ _ rfl (cmA s.c).toList _ (fun w h => h.2.1) Try.underlying58 rfl (by kernel_rfl)) hk ?_
      simp only [Act.put, List.getElem_toArray, List.getElem_cons_succ, List.getElem_cons_zero, List.setIfInBounds_toArray, List.set_cons_succ, List.set_cons_zero]
      refine Wl.take0 (i := 11) (v := .pointer (some ⟨q, 0, none⟩)) rfl (by kernel_rfl) (by kernel_rfl) (by kernel_rfl) (by kernel_rfl) (fun _ _ _ h => h) (.inl ⟨by kernel_rfl, ?_⟩) hk ?_
      · intro wx hSw
        clear hSw hk
        go_simp
        try first | with_reducible rfl | kernel_rfl
      simp only [Act.put, List.getElem_toArray, List.getElem_cons_succ, List.getElem_cons_zero, List.setIfInBounds_toArray, List.set_cons_succ, List.set_cons_zero]
      refine Wl.take0 (i := 12) (v := .pointer (some ⟨q, 0, none⟩)) rfl (by kernel_rfl) (by kernel_rfl) (by kernel_rfl) (by kernel_rfl) (fun _ _ _ h => h) (.inl ⟨by kernel_rfl, ?_⟩) hk ?_
      · intro wx hSw
        clear hSw hk
        go_simp
        try first | with_reducible rfl | kernel_rfl
      simp only [Act.put, List.getElem_toArray, List.getElem_cons_succ, List.getElem_cons_zero, List.setIfInBounds_toArray, List.set_cons_succ, List.set_cons_zero]
      refine Wl.take0 (i := 13) (v := .pointer (some ⟨q, 4, none⟩)) rfl (by kernel_rfl) (by kernel_rfl) (by kernel_rfl) (by kernel_rfl) (fun _ _ _ h => h) (.inl ⟨by kernel_rfl, ?_⟩) hk ?_
      · intro wx hSw
        clear hSw hk
        go_simp
        try first | with_reducible rfl | kernel_rfl
      simp only [Act.put, List.getElem_toArray, List.getElem_cons_succ, List.getElem_cons_zero, List.setIfInBounds_toArray, List.set_cons_succ, List.set_cons_zero]
      refine Wl.take0 (i := 14) (v := .agg (cmA s.c)) rfl (by kernel_rfl) (by kernel_rfl) (by kernel_rfl) (by kernel_rfl) (fun _ _ _ h => h) (yieldsIf_load_mid (by rfl) _ _ rfl _ _ rfl (cmA s.c).toList _ (fun w h => h.2.2) Try.underlying58 rfl (by kernel_rfl)) hk ?_
      simp only [Act.put, List.getElem_toArray, List.getElem_cons_succ, List.getElem_cons_zero, List.setIfInBounds_toArray, List.set_cons_succ, List.set_cons_zero]
      refine Wl.one (i := 15) (by kernel_rfl) rfl (fun K hK => ?_)
      go_simp
      refine (Cm.same_true s.c _ _ _ (isc0 HS.out _) (isc0 HS.out _)).mono ?_
      rintro e w8 ⟨rfl, hb8⟩
      have HB8 : Hid (Below W6.heap.size W6 w8) := Lib.hid ((Below.refl W6.heap.size W6).drew.trans hb8)
      have HQ8 : Hid (w8.cell? ⟨q, 3, none⟩ = some (.bool kd) ∧ w8.rangeAt g8 0 (cmA s.c).toList ∧ w8.rangeAt q 4 (cmA s.c).toList) := Lib.hid ⟨(hb8.cell (World.block_lt_of_cell? _ _ HQ6.out.1)).trans HQ6.out.1, Ls.rng_below HQ6.out.2.1 hb8, Ls.rng_below HQ6.out.2.2 hb8⟩
      clear hb8
      refine hK.out _ _ (Wl.Kn.on trivial HQ8.out) (fun hk => ?_)
      clear hK K
      refine Wl.take0 (i := 16) (v := .bool true) rfl (by kernel_rfl) (by kernel_rfl) (by kernel_rfl) (by kernel_rfl) (fun _ _ _ h => h) (.inl ⟨by kernel_rfl, ?_⟩) hk ?_
      · intro wx hSw
        clear hSw hk
        go_simp
        try first | with_reducible rfl | kernel_rfl
      simp only [Act.put, List.getElem_toArray, List.getElem_cons_succ, List.getElem_cons_zero, List.setIfInBounds_toArray, List.set_cons_succ, List.set_cons_zero]
      refine Wl.take0 (i := 17) (v := .bool true) rfl (by kernel_rfl) (by kernel_rfl) (by kernel_rfl) (by kernel_rfl) (fun _ _ _ h => h) (.inl ⟨by kernel_rfl, ?_⟩) hk ?_
      · intro wx hSw
        clear hSw hk
        go_simp
        try first | with_reducible rfl | kernel_rfl
      simp only [Act.put, List.getElem_toArray, List.getElem_cons_succ, List.getElem_cons_zero, List.setIfInBounds_toArray, List.set_cons_succ, List.set_cons_zero]
      refine Wl.done (by kernel_rfl) ?_ _
      clear hk
      go_wp2_with fail
      go_ret
      exact ⟨rfl, TwoO.mono (TwoO.below (goodW p n s) (goodR q n s) HT6.out.1 HB8.out) HOO.out.1, fun k hk => (HB8.out.block k (HT6.out.1.lt (HOO.out.1 k hk))).trans (HT6.out.2 k hk)⟩
end Lt
end Go.Proofs.Ytgbblegcjladaaa
