/- Both wallets' calls; a wallet beside its clone; calls on a wallet as arguments. No condition. The law's example of a wallet. No condition. -/
import Derived.Test.YtgbblegcjladaaaLtT
import Derived.Test.YtgbblegcjladaaaMcO
import Derived.Test.YtgbblegcjladaaaHdT
namespace Go.Proofs.Ytgbblegcjladaaa
open Go.ChangeShapes Go.WideShapes Go.ChangeAt Go.RowKit Go.Deep Go.Maps Go.ChangeMaps Go.MapKept
set_option linter.unusedVariables false
set_option maxRecDepth 100000
set_option linter.unusedSimpArgs false
namespace Mc
section
variable {P : Program} {V1 V1' Vc V2 : World → (Nat → Prop) → Prop} {O : Nat → Prop} {B : Nat} {a w w' : World} {f : Nat} {args : Array Value} {Q : Ending → World → Prop}
/-- an elder one beside its clone and another -/
def ThreeO (V1 Vc V2 : World → (Nat → Prop) → Prop) (O : Nat → Prop) (B : Nat) (a w : World) : Prop := ∃ S2 S3, OneO V1 (fun k => S2 k ∨ S3 k ∨ O k) B a w ∧ V2 w S2 ∧ Vc w S3 ∧ (∀ k, S3 k → ¬ S2 k) ∧ ∀ k, O k → ¬ S2 k ∧ ¬ S3 k
theorem TwoO.clone (g1 : Good V1) (g2 : Good V2) (h : TwoO V1 V2 O B a w) (hb : Below w.heap.size w w') (hc : Vc w' (fun k => w.heap.size ≤ k ∧ k < w'.heap.size)) : ThreeO V1 Vc V2 O B a w' := by
  obtain ⟨S1, S2, h1, h2, h3, h4, h5, h6, h7, h8⟩ := h
  refine ⟨S2, fun k => w.heap.size ≤ k ∧ k < w'.heap.size, ⟨S1, g1.below h1 hb, h4, fun k hk => ?_, h7.trans (hb.mono h8), Nat.le_trans h8 hb.size⟩, g2.below h2 hb, hc, fun k hk q2 => ?_, fun k hk => ⟨(h6 k hk).2.2.1, fun q2 => ?_⟩⟩
  · rcases hk with hk | hk | hk
    · exact ⟨Nat.lt_of_lt_of_le (g2.low h2 k hk) hb.size, fun q2 => h3 k q2 hk, h5 k hk⟩
    · exact ⟨hk.2, fun q2 => by have := g1.low h1 k q2; have := hk.1; omega, Nat.le_trans h8 hk.1⟩
    · exact ⟨Nat.lt_of_lt_of_le (h6 k hk).1 hb.size, (h6 k hk).2.1, (h6 k hk).2.2.2⟩
  · have := g2.low h2 k q2; have := hk.1; omega
  · have := (h6 k hk).1; have := q2.1; omega
theorem OneO.sz (h : OneO V1 O B a w) {k : Nat} (hk : O k) : k < w.heap.size := by obtain ⟨S, -, -, h3, -⟩ := h; exact (h3 k hk).1
theorem ThreeO.call (g1 : Good V1) (gc : Good Vc) (g2 : Good V2) (h : ThreeO V1 Vc V2 O B a w) (hz : ∀ e w', Q e w' → True) (hc : ∀ S, V1 w S → Calls P f args w (fun e w' => Q e w' ∧ Left V1' S w w')) :
    Calls P f args w (fun e w' => Q e w' ∧ ThreeO V1' Vc V2 O B a w' ∧ ∀ k, O k → w'.heap[k]? = w.heap[k]?) := by
  obtain ⟨S2, S3, h1, h2, h3, h4, h5⟩ := h
  have hS : ∃ S, V1 w S := ⟨h1.choose, h1.choose_spec.1⟩
  have hh := h1
  refine (OneO.call (Q := fun e w' => Q e w' ∧ w.heap.size ≤ w'.heap.size) g1 h1 (fun S hv _ _ => (hc S hv).mono (fun e w' ⟨a1, a2⟩ => ⟨⟨a1, a2.2.2.2.2.1⟩, a2⟩))).mono ?_
  rintro e w' ⟨⟨hq, hz2⟩, g, gk⟩
  exact ⟨hq, ⟨S2, S3, g, g2.keep h2 (fun k hk => gk k (.inl hk)) hz2, gc.keep h3 (fun k hk => gk k (.inr (.inl hk))) hz2, h4, h5⟩, fun k hk => gk k (.inr (.inr hk))⟩
theorem ThreeO.drop (h : ThreeO V1 Vc V2 O B a w) : TwoO Vc V2 O B a w := by
  obtain ⟨S2, S3, ⟨S1, h1, hB, hO, hb, hz⟩, h2, h3, h4, h5⟩ := h
  exact ⟨S3, S2, h3, h2, h4, fun k hk => (hO k (.inr (.inl hk))).2.2, fun k hk => (hO k (.inl hk)).2.2, fun k hk => ⟨(hO k (.inr (.inr hk))).1, (h5 k hk).2, (h5 k hk).1, (hO k (.inr (.inr hk))).2.2⟩, hb, hz⟩
end
end Mc
namespace Lt
open Mp Mc
variable {w w' a : World} {S O : Nat → Prop} {p q B : Nat} {n now sent : Int} {s s1 s2 : Wa} {is : Bool} {vl v vn : Value} {c : Cmd} {a0 : La.Ans}
/-! ### states -/
def atW (t : Int) (s : Wa) : Wa := { s with now := max s.now (Ls.timeV t), L := stayV (max s.now (Ls.timeV t)) s.L }
def goneW (t : Int) (s : Wa) : List Tr := endV (max s.now (Ls.timeV t)) s.L
theorem time_bd (t : Int) : 0 ≤ Ls.timeV t ∧ Ls.timeV t ≤ 4611686018427387904 := by unfold Ls.timeV Ls.top; omega
theorem OkW.at (h : OkW s) (t : Int) : OkW (atW t s) := ⟨⟨by have := time_bd t; have := h.tim.1; unfold atW; dsimp only; omega, h.tim.2⟩, h.cmd⟩
theorem OkW.drop (h : OkW s) (t : Int) : OkW { s with L := woV t s.L } := ⟨h.tim, h.cmd⟩
theorem cmdOk_z : cmdOk zCm := ⟨⟨rfl, rfl, rfl, rfl, rfl, rfl, rfl⟩, rfl⟩
theorem OkW.told (h : OkW s) (n : Int) (a0 : La.Ans) : OkW (toldV n s a0) := by
  unfold toldV
  split
  · exact h
  · exact ⟨⟨h.tim.1, Int.le_refl 0, (by decide : (0 : Int) ≤ 4611686018427387904)⟩, cmdOk_z⟩
theorem OkW.ask (h : OkW s) (hc : c.wf) : OkW (askV s c) := by
  unfold askV
  split
  · exact ⟨⟨h.tim.1, h.tim.1⟩, ⟨hc, rfl⟩⟩
  · exact h
theorem okW_new : OkW newW := ⟨⟨by decide, by decide⟩, cmdOk_z⟩
theorem at_len (t : Int) (s : Wa) : (atW t s).L.length ≤ s.L.length := List.length_filter_le _ _
theorem drop_len (t : Int) (L : List Tr) : (woV t L).length ≤ L.length := List.length_filter_le _ _
theorem ask_L (s : Wa) (c : Cmd) : (askV s c).L = s.L := by unfold askV; split <;> rfl
theorem toldL_len (n : Int) (s : Wa) (a0 : La.Ans) : (toldL n s a0).length ≤ s.L.length + 1 := by
  unfold toldL
  split
  · split
    · exact wi_len _ _
    · omega
  · split
    · omega
    · split
      · split
        · exact wi_len _ _
        · split
          · have := drop_len s.c.token s.L; omega
          · omega
      · omega
theorem told_len (n : Int) (s : Wa) (a0 : La.Ans) : (toldV n s a0).L.length ≤ s.L.length + 1 := by
  unfold toldV
  split
  · omega
  · exact toldL_len n s a0
/-! ### calls -/
def Says (r : Value) (p q : Nat) (n : Int) (s1 s2 : Wa) (O : Nat → Prop) (B : Nat) (a w : World) (e : Ending) (w' : World) : Prop := e = .returned r ∧ Two p q n s1 s2 O B a w' ∧ ∀ k, O k → w'.heap[k]? = w.heap[k]?
theorem Two.at1 (h : Two p q n s1 s2 O B a w) (t : Int) (hn : s1.L.length ≤ 1000) :
    Calls Try.prog 26 #[.pointer (some ⟨p, 0, none⟩), .int .i64 t] w fun e w' => (∃ v, e = .returned v ∧ OwnR 3 trC 115 w' w.heap.size v (goneW t s1)) ∧ Two p q n (atW t s1) s2 (fun k => O k ∨ (w.heap.size ≤ k ∧ k < w'.heap.size)) B a w' ∧ ∀ k, O k → w'.heap[k]? = w.heap[k]? :=
  TwoO.fstS (goodW p n s1) (goodR q n s2) (goodW p n _) h (fun S hv _ _ => (at_any t w hv hn).mono (fun e w' ⟨v, h1, h2, h3, h4⟩ => ⟨⟨v, h1, h2⟩, h3, h4⟩))
theorem Two.at2 (h : Two p q n s1 s2 O B a w) (t : Int) (hn : s2.L.length ≤ 1000) :
    Calls Try.prog 27 #[.pointer (some ⟨q, 0, none⟩), .int .i64 t] w fun e w' => (∃ v, e = .returned v ∧ OwnR 3 trC TXT w' w.heap.size v (goneW t s2)) ∧ Two p q n s1 (atW t s2) O B a w' ∧ ∀ k, O k → w'.heap[k]? = w.heap[k]? :=
  TwoO.snd (goodW p n s1) (goodR q n s2) h (fun S hv _ _ => (rat_any t w hv hn).mono (fun e w' ⟨v, h1, h2, ⟨S', h3, h4, _⟩, h5⟩ => ⟨⟨v, h1, h2⟩, ⟨S', h3, h4⟩, h5⟩))
theorem Two.ask1 (h : Two p q n s1 s2 O B a w) (hc : IsCmd w v c) : Calls Try.prog 28 #[.pointer (some ⟨p, 0, none⟩), v] w (Says (.int .i64 (askE s1 c)) p q n (askV s1 c) s2 O B a w) :=
  TwoO.fst (Q := fun e _ => e = _) (goodW p n s1) (goodR q n s2) h (fun S hv _ _ => ask_any c v w hv hc)
theorem Two.ask2 (h : Two p q n s1 s2 O B a w) (hc : IsCmd w (.agg #[.int .i64 c.kind, .int .i64 c.node, .int .i64 c.token, vn, .int .u64 c.boot, .int .u64 c.seq, .int .u64 c.serial, .int .u64 c.stamp]) c) : Calls Try.prog 29 #[.pointer (some ⟨q, 0, none⟩), .agg #[.int .i64 c.kind, .int .i64 c.node, .int .i64 c.token, vn, .int .u64 c.boot, .int .u64 c.seq, .int .u64 c.serial, .int .u64 c.stamp]] w (Says (.int .i64 (askE s2 c)) p q n s1 (askV s2 c) O B a w) :=
  TwoO.snd (Q := fun e _ => e = _) (goodW p n s1) (goodR q n s2) h (fun S hv _ _ => rask_any c vn w hv hc (by obtain ⟨_, -, -, hw⟩ := hc; exact hw))
theorem Two.told1 (h : Two p q n s1 s2 O B a w) (hs : OkW s1) (hn : s1.L.length ≤ 1000) (ha : (Lit.int .i64 a0.token).wf = true ∧ (Lit.int .u64 a0.serial).wf = true) (hnn : 0 ≤ n ∧ n ≤ 1073741824) : Calls Try.prog 30 #[.pointer (some ⟨p, 0, none⟩), .agg #[.int .i64 a0.code, .int .i64 a0.token, .int .u64 a0.serial]] w (Says (.int .i64 (toldE s1)) p q n (toldV n s1 a0) s2 O B a w) :=
  TwoO.fst (Q := fun e _ => e = _) (goodW p n s1) (goodR q n s2) h (fun S hv _ _ => told_any a0 w hv hn hs.cmd.1.2.2.1 ha hs.tim hnn)
theorem Two.told2 (h : Two p q n s1 s2 O B a w) (hs : OkW s2) (hn : s2.L.length ≤ 1000) (ha : (Lit.int .i64 a0.token).wf = true ∧ (Lit.int .u64 a0.serial).wf = true) (hnn : 0 ≤ n ∧ n ≤ 1073741824) : Calls Try.prog 31 #[.pointer (some ⟨q, 0, none⟩), .agg #[.int .i64 a0.code, .int .i64 a0.token, .int .u64 a0.serial]] w (Says (.int .i64 (toldE s2)) p q n s1 (toldV n s2 a0) O B a w) :=
  TwoO.snd (Q := fun e _ => e = _) (goodW p n s1) (goodR q n s2) h (fun S hv _ _ => rtold_any a0 w hv hn ha hs.tim hnn)
def dropE (s : Wa) (t : Int) : Int := if (fnd s.L t).isSome then 0 else 4
theorem Two.drop1 (h : Two p q n s1 s2 O B a w) (hn : s1.L.length ≤ 1000) {t : Int} (ht : okI t) : Calls Try.prog 32 #[.pointer (some ⟨p, 0, none⟩), .int .i64 t] w (Says (.int .i64 (dropE s1 t)) p q n { s1 with L := woV t s1.L } s2 O B a w) :=
  TwoO.fst (Q := fun e _ => e = _) (goodW p n s1) (goodR q n s2) h (fun S hv _ _ => drop_any t w hv ht hn)
theorem Two.drop2 (h : Two p q n s1 s2 O B a w) (hn : s2.L.length ≤ 1000) (t : Int) : Calls Try.prog 33 #[.pointer (some ⟨q, 0, none⟩), .int .i64 t] w (Says (.int .i64 (dropE s2 t)) p q n s1 { s2 with L := woV t s2.L } O B a w) :=
  TwoO.snd (Q := fun e _ => e = _) (goodW p n s1) (goodR q n s2) h (fun S hv _ _ => rdrop_any t w hv hn)
abbrev Three (p c q : Nat) (n : Int) (s1 s s2 : Wa) (O : Nat → Prop) (B : Nat) (a w : World) : Prop := ThreeO (WaX p n s1) (WaX c n s) (RwX q n s2) O B a w
theorem Two.clone (h : Two p q n s1 s2 O B a w) :
    Calls Try.prog 34 #[.pointer (some ⟨p, 0, none⟩)] w fun e w' => ∃ c, e = .returned (.pointer (some ⟨c, 0, none⟩)) ∧ Three p c q n s1 s1 s2 O B a w' ∧ ∀ k, O k → w'.heap[k]? = w.heap[k]? := by
  have h1 : ∃ S, WaX p n s1 w S := by obtain ⟨S1, S2, h1, -⟩ := h; exact ⟨S1, h1⟩
  obtain ⟨S, h1⟩ := h1
  refine (clone_any w h1).mono ?_
  rintro e w' ⟨c, he, hc, hb⟩
  exact ⟨c, he, TwoO.clone (goodW p n s1) (goodR q n s2) h hb hc, fun k hk => hb.block k (Two.lt h hk)⟩
theorem Three.at {c : Nat} (h : Three p c q n s1 s s2 O B a w) (t : Int) (hn : s1.L.length ≤ 1000) :
    Calls Try.prog 26 #[.pointer (some ⟨p, 0, none⟩), .int .i64 t] w fun e w' => (∃ v, e = .returned v) ∧ Three p c q n (atW t s1) s s2 O B a w' ∧ ∀ k, O k → w'.heap[k]? = w.heap[k]? :=
  ThreeO.call (goodW p n s1) (goodW c n s) (goodR q n s2) h (fun _ _ _ => trivial) (fun S hv => (at_any t w hv hn).mono (fun e w' ⟨v, h1, h2, h3, h4⟩ => ⟨⟨v, h1⟩, Mc.Left.mk (goodW p n _) h3 h4⟩))
theorem Three.told {c : Nat} (h : Three p c q n s1 s s2 O B a w) (hs : OkW s1) (hn : s1.L.length ≤ 1000) (ha : (Lit.int .i64 a0.token).wf = true ∧ (Lit.int .u64 a0.serial).wf = true) (hnn : 0 ≤ n ∧ n ≤ 1073741824) :
    Calls Try.prog 30 #[.pointer (some ⟨p, 0, none⟩), .agg #[.int .i64 a0.code, .int .i64 a0.token, .int .u64 a0.serial]] w fun e w' => (∃ v, e = .returned v) ∧ Three p c q n (toldV n s1 a0) s s2 O B a w' ∧ ∀ k, O k → w'.heap[k]? = w.heap[k]? :=
  ThreeO.call (goodW p n s1) (goodW c n s) (goodR q n s2) h (fun _ _ _ => trivial) (fun S hv => (told_any a0 w hv hn hs.cmd.1.2.2.1 ha hs.tim hnn).mono (fun e w' ⟨h1, h2⟩ => ⟨⟨_, h1⟩, h2⟩))
/-! ### calls as arguments -/
structure AskO where
  kind : Int
  tok : Int
  now : Int
  c : Cmd
  a : La.Ans
structure ARow where
  x : AskO
  vn : Value
abbrev arA (r : ARow) : Array Value := #[.int .i64 r.x.kind, .int .i64 r.x.tok, .int .i64 r.x.now, .int .i64 r.x.c.kind, .int .i64 r.x.c.node, .int .i64 r.x.c.token, r.vn, .int .u64 r.x.c.boot, .int .u64 r.x.c.seq, .int .u64 r.x.c.serial, .int .u64 r.x.c.stamp, .int .i64 r.x.a.code, .int .i64 r.x.a.token, .int .u64 r.x.a.serial]
abbrev arC (r : ARow) : List Value := [.int .i64 r.x.kind, .int .i64 r.x.tok, .int .i64 r.x.now, .int .i64 r.x.c.kind, .int .i64 r.x.c.node, .int .i64 r.x.c.token, r.vn, .int .u64 r.x.c.boot, .int .u64 r.x.c.seq, .int .u64 r.x.c.serial, .int .u64 r.x.c.stamp, .int .i64 r.x.a.code, .int .i64 r.x.a.token, .int .u64 r.x.a.serial]
theorem arC_len (r : ARow) : (arC r).length = 14 := rfl
def ARow.ok (w : World) (r : ARow) : Prop := Sl .i64 w r.vn r.x.c.nodes ∧ r.x.c.wf ∧ (Lit.int .i64 r.x.tok).wf = true ∧ (Lit.int .i64 r.x.a.token).wf = true ∧ (Lit.int .u64 r.x.a.serial).wf = true
def IsAsks (w : World) (v : Value) (rs : List ARow) : Prop := SlR 14 arC w v rs ∧ ∀ r ∈ rs, r.ok w
def IsAsks.fits (rs : List ARow) : Prop := True
theorem IsAsks.below {rs : List ARow} {B : Nat} (h : IsAsks w v rs) (hb : Below B w w') (hB : w.heap.size ≤ B) : IsAsks w' v rs := ⟨h.1.below hb hB, fun r hr => ⟨(h.2 r hr).1.below hb hB, (h.2 r hr).2⟩⟩
section
variable {H : Type} {enc : TypeId × Value → H} {W : World}
theorem trod_ask {n : Nat} {cs : List Value} {y : DataW H × List MemPlace} (h : DataW.trod enc Try.prog W 0 (fun _ => true) true n 62 cs = some y) :
    ∃ r, cs = arC r ∧ r.ok W ∧ (Wt Try.prog 62 y.1 → True) := by
  obtain ⟨xs, m, _, rfl, hlen, hxl, hf⟩ := DataW.trod_struct Try.underlying62 h
  have hl : cs.length = 14 := hlen.trans (by kernel_rfl)
  match cs, hl, xs, hxl with
  | [c0, c1, c2, c3, c4, c5, c6, c7, c8, c9, c10, c11, c12, c13], _, [y0, y1, y2, y3, y4], _ =>
    have k1 : Try.prog.cellsOf 3 = 1 := by kernel_rfl
    have k2 : Try.prog.cellsOf 2 = 1 := by kernel_rfl
    have k3 : Try.prog.cellsOf 58 = 8 := by kernel_rfl
    have k4 : Try.prog.cellsOf 60 = 3 := by kernel_rfl
    obtain ⟨z0, rfl, w0⟩ := int_cell (P := Try.prog) Try.underlying3 (by simpa [k1] using hf 0 _ rfl)
    obtain ⟨z1, rfl, w1⟩ := int_cell (P := Try.prog) Try.underlying3 (by simpa [k1] using hf 1 _ rfl)
    obtain ⟨z2, rfl, w2⟩ := int_cell (P := Try.prog) Try.underlying2 (by simpa [k2] using hf 2 _ rfl)
    obtain ⟨c, ⟨vn, hcs, h1, h2⟩, h3, h4⟩ := trod_cmd (by simpa [k3] using hf 3 _ rfl)
    obtain ⟨b0, b1, b2, ha, u0, u1, u2⟩ := trod_answer (by simpa [k4] using hf 4 _ rfl)
    simp only [List.cons.injEq, and_true] at hcs ha
    obtain ⟨rfl, rfl, rfl, rfl, rfl, rfl, rfl, rfl⟩ := hcs
    obtain ⟨rfl, rfl, rfl⟩ := ha
    exact ⟨⟨⟨z0, z1, z2, c, ⟨b0, b1, b2⟩⟩, _⟩, rfl, ⟨h1, h2, w1, u1, u2⟩, fun _ => trivial⟩
theorem open_asks {base : Nat} {v : Value} {d : DataW H} {ps : List MemPlace}
    (hok : Value.okWide Try.prog W .any base 49 v) (h : DataW.Trod enc Try.prog W 0 (fun _ => true) true 49 v d ps) : ∃ l, IsAsks W v l ∧ True ∧ (Wt Try.prog 49 d → IsAsks.fits l) := by
  obtain ⟨fuel, hf⟩ := h
  rw [slice_cells Try.underlying49 hok] at hf
  obtain ⟨rows, g1, g2, g3⟩ := rows_cell2 (P := Try.prog) (C := arC) (Q := ARow.ok W) (F := fun _ => True) Try.underlying49 (sz := 14) (by kernel_rfl) (by omega) (fun m cs y h => trod_ask h) hf
  exact ⟨rows, ⟨g1, g2⟩, trivial, fun _ => trivial⟩
end
theorem ar_cells {b off k : Nat} {r : ARow} (h : ∀ j u, (arC r)[j]? = some u → w.cell? ⟨b, off + (k * 14 + j), none⟩ = some u) :
    w.cell? ⟨b, off + k * 14, none⟩ = some (.int .i64 r.x.kind) ∧ w.cell? ⟨b, off + k * 14 + 1, none⟩ = some (.int .i64 r.x.tok) ∧ w.cell? ⟨b, off + k * 14 + 2, none⟩ = some (.int .i64 r.x.now) ∧ w.cell? ⟨b, off + k * 14 + 3, none⟩ = some (.int .i64 r.x.c.kind) ∧ w.cell? ⟨b, off + k * 14 + 4, none⟩ = some (.int .i64 r.x.c.node) ∧ w.cell? ⟨b, off + k * 14 + 5, none⟩ = some (.int .i64 r.x.c.token) ∧ w.cell? ⟨b, off + k * 14 + 6, none⟩ = some (r.vn) ∧ w.cell? ⟨b, off + k * 14 + 7, none⟩ = some (.int .u64 r.x.c.boot) ∧ w.cell? ⟨b, off + k * 14 + 8, none⟩ = some (.int .u64 r.x.c.seq) ∧ w.cell? ⟨b, off + k * 14 + 9, none⟩ = some (.int .u64 r.x.c.serial) ∧ w.cell? ⟨b, off + k * 14 + 10, none⟩ = some (.int .u64 r.x.c.stamp) ∧ w.cell? ⟨b, off + k * 14 + 11, none⟩ = some (.int .i64 r.x.a.code) ∧ w.cell? ⟨b, off + k * 14 + 12, none⟩ = some (.int .i64 r.x.a.token) ∧ w.cell? ⟨b, off + k * 14 + 13, none⟩ = some (.int .u64 r.x.a.serial) := by
  have h0 := h 0 _ rfl; have h1 := h 1 _ rfl; have h2 := h 2 _ rfl; have h3 := h 3 _ rfl; have h4 := h 4 _ rfl; have h5 := h 5 _ rfl; have h6 := h 6 _ rfl; have h7 := h 7 _ rfl; have h8 := h 8 _ rfl; have h9 := h 9 _ rfl; have h10 := h 10 _ rfl; have h11 := h 11 _ rfl; have h12 := h 12 _ rfl; have h13 := h 13 _ rfl
  simp only [← Nat.add_assoc, Nat.add_zero] at h0 h1 h2 h3 h4 h5 h6 h7 h8 h9 h10 h11 h12 h13
  exact ⟨h0, h1, h2, h3, h4, h5, h6, h7, h8, h9, h10, h11, h12, h13⟩
end Lt
end Go.Proofs.Ytgbblegcjladaaa
namespace Go.Proofs.Ytgbblegcjladaaa
open Go.ChangeShapes Go.WideShapes Go.ChangeAt Go.RowKit Go.Deep Go.Maps Go.ChangeMaps Go.MapKept
set_option linter.unusedVariables false
set_option maxRecDepth 100000
set_option linter.unusedSimpArgs false
namespace Lt
open Mp Mc
variable {w w' a : World} {S O : Nat → Prop} {p q B : Nat} {n : Int} {s : Wa} {v : Value}
abbrev One (p : Nat) (n : Int) (s : Wa) (B : Nat) (a w : World) : Prop := OneO (WaX p n s) (fun _ => False) B a w
theorem One.at (h : One p n s B a w) (t : Int) (hn : s.L.length ≤ 1000) :
    Calls Try.prog 26 #[.pointer (some ⟨p, 0, none⟩), .int .i64 t] w fun e w' => (∃ v, e = .returned v ∧ OwnR 3 trC 115 w' w.heap.size v (goneW t s)) ∧ One p n (atW t s) B a w' ∧ OneO (WaX p n (atW t s)) (fun k => w.heap.size ≤ k ∧ k < w'.heap.size) B a w' :=
  (OneO.callS (V' := WaX p n (atW t s)) (Q := fun e w' => ∃ v, e = .returned v ∧ OwnR 3 trC 115 w' w.heap.size v (goneW t s)) (goodW p n s) h (fun S hv _ _ => (at_any t w hv hn).mono (fun e w' ⟨v, h1, h2, h3, h4⟩ => ⟨⟨v, h1, h2⟩, h3, h4⟩))).mono (fun e w' ⟨h1, h2, _⟩ => ⟨h1, h2.mono (fun k hk => hk.elim), h2.mono (fun k hk => .inr hk)⟩)
theorem One.ask (h : One p n s B a w) {c : Cmd} (hc : IsCmd w v c) : Calls Try.prog 28 #[.pointer (some ⟨p, 0, none⟩), v] w fun e w' => e = .returned (.int .i64 (askE s c)) ∧ One p n (askV s c) B a w' :=
  (OneO.call (Q := fun e _ => e = _) (goodW p n s) h (fun S hv _ _ => ask_any c v w hv hc)).mono (fun e w' ⟨h1, h2, _⟩ => ⟨h1, h2⟩)
theorem One.told (h : One p n s B a w) (a0 : La.Ans) (hs : OkW s) (hn : s.L.length ≤ 1000) (ha : (Lit.int .i64 a0.token).wf = true ∧ (Lit.int .u64 a0.serial).wf = true) (hnn : 0 ≤ n ∧ n ≤ 1073741824) :
    Calls Try.prog 30 #[.pointer (some ⟨p, 0, none⟩), .agg #[.int .i64 a0.code, .int .i64 a0.token, .int .u64 a0.serial]] w fun e w' => e = .returned (.int .i64 (toldE s)) ∧ One p n (toldV n s a0) B a w' :=
  (OneO.call (Q := fun e _ => e = _) (goodW p n s) h (fun S hv _ _ => told_any a0 w hv hn hs.cmd.1.2.2.1 ha hs.tim hnn)).mono (fun e w' ⟨h1, h2, _⟩ => ⟨h1, h2⟩)
theorem One.all (h : OneO (WaX p n s) O B a w) (hn : s.L.length ≤ 1000) :
    Calls Try.prog 49 #[.pointer (some ⟨p, 0, none⟩)] w fun e w' => (∃ v, e = .returned v ∧ OwnR 3 trC 115 w' w.heap.size v s.L) ∧ Below w.heap.size w w' := by
  obtain ⟨S, hv, -⟩ := h
  exact (all_any w hv hn).mono (fun e w' ⟨v, h1, h2, h3⟩ => ⟨⟨v, h1, h2⟩, h3⟩)
abbrev c0 : Cmd := ⟨3, 1, 0, [], 1, 1, 0, 0⟩
theorem c0_ok : cmdOk c0 := ⟨⟨rfl, rfl, rfl, rfl, rfl, rfl, rfl⟩, rfl⟩
theorem x1 : atW 5 newW = ⟨5, 0, zCm, []⟩ := by rfl
theorem x2 : askE ⟨5, 0, zCm, []⟩ c0 = 0 ∧ askV ⟨5, 0, zCm, []⟩ c0 = ⟨5, 5, c0, []⟩ := by
  have h : reqB c0 = true := by decide
  unfold askE askV
  rw [h]
  exact ⟨rfl, rfl⟩
theorem x3 : toldE ⟨5, 5, c0, []⟩ = 0 ∧ toldV 8 ⟨5, 5, c0, []⟩ ⟨1, 1, 1⟩ = ⟨5, 0, zCm, [⟨1, 1, 13⟩]⟩ := by constructor <;> rfl
theorem x4 : goneW 13 ⟨5, 0, zCm, [⟨1, 1, 13⟩]⟩ = [⟨1, 1, 13⟩] ∧ atW 13 ⟨5, 0, zCm, [⟨1, 1, 13⟩]⟩ = ⟨13, 0, zCm, []⟩ := by constructor <;> rfl
set_option maxHeartbeats 8000000 in
theorem trusts_any (w : World) : Calls Try.prog 21 #[] w fun e w' => e = .returned (.bool true) ∧ Below w.heap.size w w' := by
  go_enter Try.func21, Try.ntmps21
  go_wp2_with fail
  refine (new_any 8 w).mono ?_
  rintro e w1 (⟨-, -, ⟨p, rfl, hk⟩, hb⟩ | ⟨h, -⟩)
  rotate_left
  · exact absurd ⟨by decide, by decide⟩ h
  have H1 : Hid (One p 8 newW w.heap.size w w1) := Lib.hid ⟨_, hk, fun k hk => hk.1, fun k hk => hk.elim, hb, hb.size⟩
  clear hk hb
  go_wp2_with fail
  refine (H1.out.at 5 (Nat.zero_le _)).mono ?_
  rintro e w2 ⟨⟨v2, rfl, -⟩, h2, -⟩
  rw [x1] at h2
  have H2 := Lib.hid h2
  clear h2
  go_wp2_with fail
  refine (H2.out.ask (isc0 c0_ok w2)).mono ?_
  rintro e w3 ⟨rfl, h3⟩
  rw [x2.2] at h3
  rw [x2.1]
  have H3 := Lib.hid h3
  clear h3
  go_wp2_with fail
  refine (H3.out.told ⟨1, 1, 1⟩ ⟨⟨by decide, by decide⟩, c0_ok⟩ (Nat.zero_le _) ⟨rfl, rfl⟩ ⟨by decide, by decide⟩).mono ?_
  rintro e w4 ⟨rfl, h4⟩
  rw [x3.2] at h4
  rw [x3.1]
  have H4 := Lib.hid h4
  clear h4
  go_wp2_with fail
  refine (One.all H4.out (by decide)).mono ?_
  rintro e w5 ⟨⟨v5, rfl, o5⟩, hb5⟩
  obtain ⟨al, cl, rfl⟩ := own_slice o5
  obtain ⟨bl, cur, rfl, -⟩ : ∃ b cur, al = some ⟨b, 0, none⟩ ∧ w5.heap[b]? = some (.cells cur 115 (0, 0)) := by
    rcases own_form o5 with ⟨-, h0⟩ | ⟨b, c, cur, e1, e2, e3⟩
    · cases h0
    · simp only [Value.slice.injEq] at e1
      exact ⟨b, cur, e1.1, e2⟩
  have H5 : Hid (OneO (WaX p 8 ⟨5, 0, zCm, [⟨1, 1, 13⟩]⟩) (fun k => w4.heap.size ≤ k ∧ k < w5.heap.size) w.heap.size w w5) := Lib.hid (OneO.mono (OneO.more (goodW p 8 _) H4.out hb5) (fun k hk => .inr hk))
  have O5 := Lib.hid o5
  clear o5 hb5
  go_wp2_with fail
  refine (OneO.callS (V' := WaX p 8 (atW 13 ⟨5, 0, zCm, [⟨1, 1, 13⟩]⟩)) (Q := fun e w' => ∃ v, e = .returned v ∧ OwnR 3 trC 115 w' w5.heap.size v (goneW 13 ⟨5, 0, zCm, [⟨1, 1, 13⟩]⟩)) (goodW p 8 _) H5.out (fun S hv _ _ => (at_any 13 w5 hv (by decide)).mono (fun e w' ⟨v, h1, h2, h3, h4⟩ => ⟨⟨v, h1, h2⟩, h3, h4⟩))).mono ?_
  rintro e w6 ⟨⟨v6, rfl, o6⟩, h6, k6⟩
  rw [x4.2] at h6
  rw [x4.1] at o6
  obtain ⟨ag, cg, rfl⟩ := own_slice o6
  have o56 := own_keep O5.out (w' := w6) (fun k hk hl => k6 k ⟨(World.ownsRow.lt O5.out k hk).1, hl⟩)
  obtain ⟨y0, y1, y2⟩ : w6.cell? ⟨bl, 0, none⟩ = some (.int .i64 1) ∧ w6.cell? ⟨bl, 1, none⟩ = some (.int .u64 1) ∧ w6.cell? ⟨bl, 2, none⟩ = some (.int .i64 13) := by
    rcases SlR.cases (OwnR.sl trC_len (show OwnR 3 trC 115 w6 w4.heap.size _ [(⟨1, 1, 13⟩ : Tr)] from o56)) with ⟨a9, c9, e, hnil⟩ | ⟨b, off, c9, e, -, -, -, -, hc⟩
    · cases hnil
    · simp only [Value.slice.injEq, Option.some.injEq, Addr.mk.injEq, and_true] at e
      obtain ⟨⟨rfl, rfl⟩, -, -⟩ := e
      have := tr_cells (hc 0 _ rfl)
      simpa using this
  have HAL := Lib.hid (One.all h6 (Nat.zero_le _))
  have HB6 := Lib.hid h6.bel.1
  have HZ6 := Lib.hid h6.bel.2
  clear h6 k6 o6 o56
  go_wp2_with (first | ((with_reducible refine HAL.out.mono ?_); rintro e w7 ⟨⟨v7, rfl, o7⟩, hb7⟩; obtain ⟨a7, c7, rfl⟩ := own_slice o7; have HB7 := Lib.hid (HB6.out.trans (hb7.mono HZ6.out)); clear o7 hb7))
  go_ret
  exact ⟨rfl, HB7.out⟩
end Lt
end Go.Proofs.Ytgbblegcjladaaa
