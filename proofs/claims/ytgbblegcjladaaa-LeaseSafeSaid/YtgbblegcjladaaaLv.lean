/- A wallet's states; the law's example of a wallet. No condition. -/
import Derived.Test.YtgbblegcjladaaaLtN
import Derived.Test.YtgbblegcjladaaaLtM
import Derived.Test.YtgbblegcjladaaaMcO
namespace Go.Proofs.Ytgbblegcjladaaa
open Go.ChangeShapes Go.WideShapes Go.ChangeAt Go.RowKit Go.Deep Go.Maps Go.ChangeMaps Go.MapKept
set_option linter.unusedVariables false
set_option maxRecDepth 100000
set_option linter.unusedSimpArgs false
namespace Lt
open Mp Mc
variable {w w' a : World} {S O : Nat → Prop} {p q B : Nat} {n now sent : Int} {s s1 s2 : Wa} {is : Bool} {vl v vn : Value} {c : Cmd} {a0 : La.Ans}
/-- a command that a wallet may hold -/
def cmdOk (c : Cmd) : Prop := c.wf ∧ c.nodes = []
theorem isc0 {c : Cmd} (h : cmdOk c) (w : World) : IsCmd w (.agg (cmA c)) c :=
  ⟨.slice none 0 0, rfl, ⟨none, 0, by rw [h.2]; rfl, Nat.le_of_eq (by rw [h.2]; rfl), Nat.zero_le _, by rw [h.2]; exact fun _ hm => absurd hm List.not_mem_nil, .inl ⟨rfl, rfl, h.2⟩⟩, h.1⟩
structure OkW (s : Wa) : Prop where
  tim : s.tim
  cmd : cmdOk s.c
/-! ### states -/
def atW (t : Int) (s : Wa) : Wa := { s with now := max s.now (Ls.timeV t), L := stayV (max s.now (Ls.timeV t)) s.L }
def goneW (t : Int) (s : Wa) : List Tr := endV (max s.now (Ls.timeV t)) s.L
theorem time_bd (t : Int) : 0 ≤ Ls.timeV t ∧ Ls.timeV t ≤ 4611686018427387904 := by unfold Ls.timeV Ls.top; omega
theorem OkW.at (h : OkW s) (t : Int) : OkW (atW t s) := ⟨⟨by have := time_bd t; have := h.tim.1; unfold atW; dsimp only; omega, h.tim.2⟩, h.cmd⟩
theorem OkW.drop (h : OkW s) (t : Int) : OkW { s with L := woV t s.L } := ⟨h.tim, h.cmd⟩
theorem cmdOk_z : cmdOk zCm := ⟨⟨rfl, rfl, rfl, rfl, rfl, rfl, rfl⟩, rfl⟩
theorem OkW.told (h : OkW s) (n : Int) (a0 : La.Ans) : OkW (toldV n s a0) := by
  unfold toldV
  split
  · exact h
  · exact ⟨⟨h.tim.1, Int.le_refl 0, (by decide : (0 : Int) ≤ 4611686018427387904)⟩, cmdOk_z⟩
theorem OkW.ask (h : OkW s) (hc : c.wf) : OkW (askV s c) := by
  unfold askV
  split
  · exact ⟨⟨h.tim.1, h.tim.1⟩, ⟨hc, rfl⟩⟩
  · exact h
theorem okW_new : OkW newW := ⟨⟨by decide, by decide⟩, cmdOk_z⟩
theorem at_len (t : Int) (s : Wa) : (atW t s).L.length ≤ s.L.length := List.length_filter_le _ _
theorem drop_len (t : Int) (L : List Tr) : (woV t L).length ≤ L.length := List.length_filter_le _ _
theorem ask_L (s : Wa) (c : Cmd) : (askV s c).L = s.L := by unfold askV; split <;> rfl
theorem toldL_len (n : Int) (s : Wa) (a0 : La.Ans) : (toldL n s a0).length ≤ s.L.length + 1 := by
  unfold toldL
  split
  · split
    · exact wi_len _ _
    · omega
  · split
    · omega
    · split
      · split
        · exact wi_len _ _
        · split
          · have := drop_len s.c.token s.L; omega
          · omega
      · omega
theorem told_len (n : Int) (s : Wa) (a0 : La.Ans) : (toldV n s a0).L.length ≤ s.L.length + 1 := by
  unfold toldV
  split
  · omega
  · exact toldL_len n s a0
end Lt
namespace Lt
section
open Mp Mc
variable {w w' a : World} {S O : Nat → Prop} {p q B : Nat} {n : Int} {s : Wa} {v : Value}
abbrev One (p : Nat) (n : Int) (s : Wa) (B : Nat) (a w : World) : Prop := OneO (WaX p n s) (fun _ => False) B a w
theorem One.at (h : One p n s B a w) (t : Int) (hn : s.L.length ≤ 1000) :
    Calls Try.prog 26 #[.pointer (some ⟨p, 0, none⟩), .int .i64 t] w fun e w' => (∃ v, e = .returned v ∧ OwnR 3 trC 115 w' w.heap.size v (goneW t s)) ∧ One p n (atW t s) B a w' ∧ OneO (WaX p n (atW t s)) (fun k => w.heap.size ≤ k ∧ k < w'.heap.size) B a w' :=
  (OneO.callS (V' := WaX p n (atW t s)) (Q := fun e w' => ∃ v, e = .returned v ∧ OwnR 3 trC 115 w' w.heap.size v (goneW t s)) (goodW p n s) h (fun S hv _ _ => (at_any t w hv hn).mono (fun e w' ⟨v, h1, h2, h3, h4⟩ => ⟨⟨v, h1, h2⟩, h3, h4⟩))).mono (fun e w' ⟨h1, h2, _⟩ => ⟨h1, h2.mono (fun k hk => hk.elim), h2.mono (fun k hk => .inr hk)⟩)
theorem One.ask (h : One p n s B a w) {c : Cmd} (hc : IsCmd w v c) : Calls Try.prog 28 #[.pointer (some ⟨p, 0, none⟩), v] w fun e w' => e = .returned (.int .i64 (askE s c)) ∧ One p n (askV s c) B a w' :=
  (OneO.call (Q := fun e _ => e = _) (goodW p n s) h (fun S hv _ _ => ask_any c v w hv hc)).mono (fun e w' ⟨h1, h2, _⟩ => ⟨h1, h2⟩)
theorem One.told (h : One p n s B a w) (a0 : La.Ans) (hs : OkW s) (hn : s.L.length ≤ 1000) (ha : (Lit.int .i64 a0.token).wf = true ∧ (Lit.int .u64 a0.serial).wf = true) (hnn : 0 ≤ n ∧ n ≤ 1073741824) :
    Calls Try.prog 30 #[.pointer (some ⟨p, 0, none⟩), .agg #[.int .i64 a0.code, .int .i64 a0.token, .int .u64 a0.serial]] w fun e w' => e = .returned (.int .i64 (toldE s)) ∧ One p n (toldV n s a0) B a w' :=
  (OneO.call (Q := fun e _ => e = _) (goodW p n s) h (fun S hv _ _ => told_any a0 w hv hn hs.cmd.1.2.2.1 ha hs.tim hnn)).mono (fun e w' ⟨h1, h2, _⟩ => ⟨h1, h2⟩)
theorem One.all (h : OneO (WaX p n s) O B a w) (hn : s.L.length ≤ 1000) :
    Calls Try.prog 49 #[.pointer (some ⟨p, 0, none⟩)] w fun e w' => (∃ v, e = .returned v ∧ OwnR 3 trC 115 w' w.heap.size v s.L) ∧ Below w.heap.size w w' := by
  obtain ⟨S, hv, -⟩ := h
  exact (all_any w hv hn).mono (fun e w' ⟨v, h1, h2, h3⟩ => ⟨⟨v, h1, h2⟩, h3⟩)
abbrev c0 : Cmd := ⟨3, 1, 0, [], 1, 1, 0, 0⟩
theorem c0_ok : cmdOk c0 := ⟨⟨rfl, rfl, rfl, rfl, rfl, rfl, rfl⟩, rfl⟩
theorem x1 : atW 5 newW = ⟨5, 0, zCm, []⟩ := by rfl
theorem x2 : askE ⟨5, 0, zCm, []⟩ c0 = 0 ∧ askV ⟨5, 0, zCm, []⟩ c0 = ⟨5, 5, c0, []⟩ := by
  have h : reqB c0 = true := by decide
  unfold askE askV
  rw [h]
  exact ⟨rfl, rfl⟩
theorem x3 : toldE ⟨5, 5, c0, []⟩ = 0 ∧ toldV 8 ⟨5, 5, c0, []⟩ ⟨1, 1, 1⟩ = ⟨5, 0, zCm, [⟨1, 1, 13⟩]⟩ := by constructor <;> rfl
theorem x4 : goneW 13 ⟨5, 0, zCm, [⟨1, 1, 13⟩]⟩ = [⟨1, 1, 13⟩] ∧ atW 13 ⟨5, 0, zCm, [⟨1, 1, 13⟩]⟩ = ⟨13, 0, zCm, []⟩ := by constructor <;> rfl
set_option maxHeartbeats 8000000 in
theorem trusts_any (w : World) : Calls Try.prog 21 #[] w fun e w' => e = .returned (.bool true) ∧ Below w.heap.size w w' := by
  go_enter Try.func21, Try.ntmps21
  go_wp2_with fail
  refine (new_any 8 w).mono ?_
  rintro e w1 (⟨-, -, ⟨p, rfl, hk⟩, hb⟩ | ⟨h, -⟩)
  rotate_left
  · exact absurd ⟨by decide, by decide⟩ h
  have H1 : Hid (One p 8 newW w.heap.size w w1) := Lib.hid ⟨_, hk, fun k hk => hk.1, fun k hk => hk.elim, hb, hb.size⟩
  clear hk hb
  go_wp2_with fail
  refine (H1.out.at 5 (Nat.zero_le _)).mono ?_
  rintro e w2 ⟨⟨v2, rfl, -⟩, h2, -⟩
  rw [x1] at h2
  have H2 := Lib.hid h2
  clear h2
  go_wp2_with fail
  refine (H2.out.ask (isc0 c0_ok w2)).mono ?_
  rintro e w3 ⟨rfl, h3⟩
  rw [x2.2] at h3
  rw [x2.1]
  have H3 := Lib.hid h3
  clear h3
  go_wp2_with fail
  refine (H3.out.told ⟨1, 1, 1⟩ ⟨⟨by decide, by decide⟩, c0_ok⟩ (Nat.zero_le _) ⟨rfl, rfl⟩ ⟨by decide, by decide⟩).mono ?_
  rintro e w4 ⟨rfl, h4⟩
  rw [x3.2] at h4
  rw [x3.1]
  have H4 := Lib.hid h4
  clear h4
  go_wp2_with fail
  refine (One.all H4.out (by decide)).mono ?_
  rintro e w5 ⟨⟨v5, rfl, o5⟩, hb5⟩
  obtain ⟨al, cl, rfl⟩ := own_slice o5
  obtain ⟨bl, cur, rfl, -⟩ : ∃ b cur, al = some ⟨b, 0, none⟩ ∧ w5.heap[b]? = some (.cells cur 115 (0, 0)) := by
    rcases own_form o5 with ⟨-, h0⟩ | ⟨b, c, cur, e1, e2, e3⟩
    · cases h0
    · simp only [Value.slice.injEq] at e1
      exact ⟨b, cur, e1.1, e2⟩
  have H5 : Hid (OneO (WaX p 8 ⟨5, 0, zCm, [⟨1, 1, 13⟩]⟩) (fun k => w4.heap.size ≤ k ∧ k < w5.heap.size) w.heap.size w w5) := Lib.hid (OneO.mono (OneO.more (goodW p 8 _) H4.out hb5) (fun k hk => .inr hk))
  have O5 := Lib.hid o5
  clear o5 hb5
  go_wp2_with fail
  refine (OneO.callS (V' := WaX p 8 (atW 13 ⟨5, 0, zCm, [⟨1, 1, 13⟩]⟩)) (Q := fun e w' => ∃ v, e = .returned v ∧ OwnR 3 trC 115 w' w5.heap.size v (goneW 13 ⟨5, 0, zCm, [⟨1, 1, 13⟩]⟩)) (goodW p 8 _) H5.out (fun S hv _ _ => (at_any 13 w5 hv (by decide)).mono (fun e w' ⟨v, h1, h2, h3, h4⟩ => ⟨⟨v, h1, h2⟩, h3, h4⟩))).mono ?_
  rintro e w6 ⟨⟨v6, rfl, o6⟩, h6, k6⟩
  rw [x4.2] at h6
  rw [x4.1] at o6
  obtain ⟨ag, cg, rfl⟩ := own_slice o6
  have o56 := own_keep O5.out (w' := w6) (fun k hk hl => k6 k ⟨(World.ownsRow.lt O5.out k hk).1, hl⟩)
  obtain ⟨y0, y1, y2⟩ : w6.cell? ⟨bl, 0, none⟩ = some (.int .i64 1) ∧ w6.cell? ⟨bl, 1, none⟩ = some (.int .u64 1) ∧ w6.cell? ⟨bl, 2, none⟩ = some (.int .i64 13) := by
    rcases SlR.cases (OwnR.sl trC_len (show OwnR 3 trC 115 w6 w4.heap.size _ [(⟨1, 1, 13⟩ : Tr)] from o56)) with ⟨a9, c9, e, hnil⟩ | ⟨b, off, c9, e, -, -, -, -, hc⟩
    · cases hnil
    · simp only [Value.slice.injEq, Option.some.injEq, Addr.mk.injEq, and_true] at e
      obtain ⟨⟨rfl, rfl⟩, -, -⟩ := e
      have := tr_cells (hc 0 _ rfl)
      simpa using this
  have HAL := Lib.hid (One.all h6 (Nat.zero_le _))
  have HB6 := Lib.hid h6.bel.1
  have HZ6 := Lib.hid h6.bel.2
  clear h6 k6 o6 o56
  go_wp2_with (first | ((with_reducible refine HAL.out.mono ?_); rintro e w7 ⟨⟨v7, rfl, o7⟩, hb7⟩; obtain ⟨a7, c7, rfl⟩ := own_slice o7; have HB7 := Lib.hid (HB6.out.trans (hb7.mono HZ6.out)); clear o7 hb7))
  go_ret
  exact ⟨rfl, HB7.out⟩
end
end Lt
end Go.Proofs.Ytgbblegcjladaaa
