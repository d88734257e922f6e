/- Calls on a keeper as arguments; the program's keeper and the document's beside one another. No condition. -/
import Derived.Test.YtgbblegcjladaaaLsG
import Derived.Test.YtgbblegcjladaaaHdT
namespace Go.Proofs.Ytgbblegcjladaaa
open Go.ChangeShapes Go.WideShapes Go.ChangeAt Go.RowKit Go.Deep
set_option linter.unusedVariables false
set_option maxRecDepth 100000
set_option linter.unusedSimpArgs false
namespace Ls
open Mc
structure SeeO where
  kind : Int
  now : Int
  led : Led
structure SRow where
  x : SeeO
  vh : Value
  vl : Value
abbrev srA (r : SRow) : Array Value := #[.int .i64 r.x.kind, .int .i64 r.x.now, .int .i64 r.x.led.limit, .int .u64 r.x.led.next, r.vh, r.vl]
abbrev srC (r : SRow) : List Value := [.int .i64 r.x.kind, .int .i64 r.x.now, .int .i64 r.x.led.limit, .int .u64 r.x.led.next, r.vh, r.vl]
theorem srC_len (r : SRow) : (srC r).length = 6 := rfl
def SRow.ok (w : World) (r : SRow) : Prop := SlR 5 heldC w r.vh r.x.led.held ∧ SlR 6 lastC w r.vl r.x.led.last ∧ r.x.led.wf
def IsSees (w : World) (v : Value) (rs : List SRow) : Prop := SlR 6 srC w v rs ∧ ∀ r ∈ rs, r.ok w
def IsSees.fits (rs : List SRow) : Prop := ∀ r ∈ rs, IsLed.fits r.x.led
theorem IsSees.below {w w' : World} {v : Value} {rs : List SRow} {B : Nat} (h : IsSees w v rs) (hb : Below B w w') (hB : w.heap.size ≤ B) : IsSees w' v rs := ⟨h.1.below hb hB, fun r hr => ⟨(h.2 r hr).1.below hb hB, (h.2 r hr).2.1.below hb hB, (h.2 r hr).2.2⟩⟩
section
variable {H : Type} {enc : TypeId × Value → H} {W : World}
theorem trod_see {n : Nat} {cs : List Value} {y : DataW H × List MemPlace} (h : DataW.trod enc Try.prog W 0 (fun _ => true) true n 37 cs = some y) :
    ∃ r, cs = srC r ∧ r.ok W ∧ (Wt Try.prog 37 y.1 → IsLed.fits r.x.led) := by
  obtain ⟨xs, m, _, rfl, hlen, hxl, hf⟩ := DataW.trod_struct Try.underlying37 h
  have hl : cs.length = 6 := hlen.trans (by kernel_rfl)
  match cs, hl, xs, hxl with
  | [c0, c1, c2, c3, c4, c5], _, [y0, y1, y2], _ =>
    have k1 : Try.prog.cellsOf 3 = 1 := by kernel_rfl
    have k2 : Try.prog.cellsOf 2 = 1 := by kernel_rfl
    have k4 : Try.prog.cellsOf 35 = 4 := by kernel_rfl
    obtain ⟨z0, rfl, w0⟩ := int_cell (P := Try.prog) Try.underlying3 (by simpa [k1] using hf 0 _ rfl)
    obtain ⟨z1, rfl, w1⟩ := int_cell (P := Try.prog) Try.underlying2 (by simpa [k2] using hf 1 _ rfl)
    obtain ⟨l, ⟨vh, vl, he, g1, g2, g3⟩, -, g5⟩ := trod_led (by simpa [k4] using hf 2 _ rfl)
    simp only [List.cons.injEq, and_true] at he
    obtain ⟨rfl, rfl, rfl, rfl⟩ := he
    exact ⟨⟨⟨z0, z1, l⟩, _, _⟩, rfl, ⟨g1, g2, g3⟩, fun hw => g5 (wt_field Try.underlying37 hw (j := 2) rfl rfl)⟩
theorem open_sees {base : Nat} {v : Value} {d : DataW H} {ps : List MemPlace}
    (hok : Value.okWide Try.prog W .any base 22 v) (h : DataW.Trod enc Try.prog W 0 (fun _ => true) true 22 v d ps) : ∃ l, IsSees W v l ∧ True ∧ (Wt Try.prog 22 d → IsSees.fits l) := by
  obtain ⟨fuel, hf⟩ := h
  rw [slice_cells Try.underlying22 hok] at hf
  obtain ⟨rows, g1, g2, g3⟩ := rows_cell2 (P := Try.prog) (C := srC) (Q := SRow.ok W) (F := fun r => IsLed.fits r.x.led) Try.underlying22 (sz := 6) (by kernel_rfl) (by omega) (fun m cs y h => trod_see h) hf
  exact ⟨rows, ⟨g1, g2⟩, trivial, fun hw => (g3 hw).2⟩
end
theorem sr_cells {w : World} {b off k : Nat} {r : SRow} (h : ∀ j u, (srC r)[j]? = some u → w.cell? ⟨b, off + (k * 6 + j), none⟩ = some u) :
    w.cell? ⟨b, off + k * 6, none⟩ = some (.int .i64 r.x.kind) ∧ w.cell? ⟨b, off + k * 6 + 1, none⟩ = some (.int .i64 r.x.now) ∧ w.cell? ⟨b, off + k * 6 + 2, none⟩ = some (.int .i64 r.x.led.limit) ∧ w.cell? ⟨b, off + k * 6 + 3, none⟩ = some (.int .u64 r.x.led.next) ∧ w.cell? ⟨b, off + k * 6 + 4, none⟩ = some r.vh ∧ w.cell? ⟨b, off + k * 6 + 5, none⟩ = some r.vl := by
  have h0 := h 0 _ rfl; have h1 := h 1 _ rfl; have h2 := h 2 _ rfl; have h3 := h 3 _ rfl; have h4 := h 4 _ rfl; have h5 := h 5 _ rfl
  simp only [← Nat.add_assoc, Nat.add_zero] at h0 h1 h2 h3 h4 h5
  exact ⟨h0, h1, h2, h3, h4, h5⟩
/-! ### both keepers -/
section
variable {w w' a : World} {O : Nat → Prop} {p q c B : Nat} {n now : Int} {vh vl : Value} {L L1 L2 : List Row} {l : Led}
abbrev Two (p q : Nat) (n : Int) (L1 L2 : List Row) (O : Nat → Prop) (B : Nat) (a w : World) : Prop := TwoO (KpX p n L1) (KxX q n L2) O B a w
/-- what a call answers, and leaves both in -/
def TwoR (r : Value) (p q : Nat) (n : Int) (L1 L2 : List Row) (O : Nat → Prop) (B : Nat) (a w : World) (e : Ending) (w' : World) : Prop := e = .returned r ∧ Two p q n L1 L2 O B a w' ∧ ∀ k, O k → w'.heap[k]? = w.heap[k]?
structure LedA (l : Led) : Prop where
  len : l.held.length ≤ 1000
  wf : ∀ x ∈ l.held, x.wf
  nd : (l.held.map keyR).Nodup
theorem Two.lt (h : Two p q n L1 L2 O B a w) {k : Nat} (hk : O k) : k < w.heap.size := by obtain ⟨S1, S2, -, -, -, -, -, h6, -, -⟩ := h; exact (h6 k hk).1
theorem Two.leads1 (h : Two p q n L1 L2 O B a w) (now : Int) (hl : LedA l) (hL : ∀ w', (∀ k, O k → w'.heap[k]? = w.heap[k]?) → SlR 5 heldC w' vh l.held) :
    Calls Try.prog 12 #[.pointer (some ⟨p, 0, none⟩), .int .i64 now, .agg (lArr l vh vl)] w (TwoR (.tuple #[]) p q n (seesV now [] l.held) L2 O B a w) := by
  refine (TwoO.fst (Q := fun e _ => e = .returned (.tuple #[])) (goodK p n L1) (goodQ q n L2) h (fun S hv hO hS => ?_)).mono (fun e w' ⟨h1, h2, h3⟩ => ⟨h1, h2, h3⟩)
  obtain ⟨vk, b, hv⟩ := hv
  exact leads_any now l w hv (fun w' ho => hL w' (fun k hk => only_at ho (h.lt hk) (hO k hk))) hl.len hl.wf hl.nd
theorem Two.sees1 (h : Two p q n L1 L2 O B a w) (hok : OkL L1) (now : Int) (hl : LedA l) (hL : ∀ w', (∀ k, O k → w'.heap[k]? = w.heap[k]?) → SlR 5 heldC w' vh l.held) :
    Calls Try.prog 14 #[.pointer (some ⟨p, 0, none⟩), .int .i64 now, .agg (lArr l vh vl)] w (TwoR (.tuple #[]) p q n (seesV now L1 l.held) L2 O B a w) := by
  refine (TwoO.fst (Q := fun e _ => e = .returned (.tuple #[])) (goodK p n L1) (goodQ q n L2) h (fun S hv hO hS => ?_)).mono (fun e w' ⟨h1, h2, h3⟩ => ⟨h1, h2, h3⟩)
  obtain ⟨vk, b, hv⟩ := hv
  exact sees_any now l w hv.toKnV hok (fun w' ho => hL w' (fun k hk => only_at ho (h.lt hk) (hO k hk))) hl.len hl.wf hl.nd
theorem Two.leads2 (h : Two p q n L1 L2 O B a w) (now : Int) (hl : LedA l) (hL : ∀ w', Below B a w' → SlR 5 heldC w' vh l.held) :
    Calls Try.prog 13 #[.pointer (some ⟨q, 0, none⟩), .int .i64 now, .agg (lArr l vh vl)] w (TwoR (.tuple #[]) p q n L1 (seesV now [] l.held) O B a w) := by
  refine (TwoO.snd (Q := fun e _ => e = .returned (.tuple #[])) (goodK p n L1) (goodQ q n L2) h (fun S hv hO hS => ?_)).mono (fun e w' ⟨h1, h2, h3⟩ => ⟨h1, h2, h3⟩)
  obtain ⟨vx, hv⟩ := hv
  exact rleads_any now l w hv (hL w h.bel.1) (fun w' ho => hL w' (ho.below h.bel.1 h.bel.2 hS)) hl.len hl.wf hl.nd
theorem Two.sees2 (h : Two p q n L1 L2 O B a w) (hok : OkL L2) (hlen : L2.length ≤ 1000) (now : Int) (hl : LedA l) (hL : ∀ w', Below B a w' → SlR 5 heldC w' vh l.held) :
    Calls Try.prog 15 #[.pointer (some ⟨q, 0, none⟩), .int .i64 now, .agg (lArr l vh vl)] w (TwoR (.tuple #[]) p q n L1 (seesV now L2 l.held) O B a w) := by
  refine (TwoO.snd (Q := fun e _ => e = .returned (.tuple #[])) (goodK p n L1) (goodQ q n L2) h (fun S hv hO hS => ?_)).mono (fun e w' ⟨h1, h2, h3⟩ => ⟨h1, h2, h3⟩)
  obtain ⟨vx, hv⟩ := hv
  exact rsees_any now l w hv hok (hL w h.bel.1) hl.len hlen hl.wf hl.nd
/-- what is due, in new blocks that are nobody's -/
def DueT (p q : Nat) (n : Int) (K : List KR) (L1 L2 : List Row) (O : Nat → Prop) (B : Nat) (a w : World) (e : Ending) (w' : World) : Prop := ∃ vd, e = .returned vd ∧ OwnR 8 rcC TCm w' w.heap.size vd K ∧ Two p q n L1 L2 (fun k => O k ∨ (w.heap.size ≤ k ∧ k < w'.heap.size)) B a w' ∧ ∀ k, O k → w'.heap[k]? = w.heap[k]?
theorem Two.due1 (h : Two p q n L1 L2 O B a w) (hok : OkL L1) (hn : 1 ≤ n ∧ n ≤ 1073741824) (hlen : L1.length ≤ 1000) (now : Int) :
    Calls Try.prog 17 #[.pointer (some ⟨p, 0, none⟩), .int .i64 now] w (DueT p q n (dueK n now L1) (doneV n now L1) L2 O B a w) := by
  refine (TwoO.fstS (Q := fun e w' => ∃ vd, e = .returned vd ∧ OwnR 8 rcC TCm w' w.heap.size vd (dueK n now L1)) (V1' := KpX p n (doneV n now L1)) (goodK p n L1) (goodQ q n L2) (goodK p n _) h (fun S hv hO hS => ?_)).mono (fun e w' ⟨⟨vd, h1, h1'⟩, h2, h3⟩ => ⟨vd, h1, h1', h2, h3⟩)
  obtain ⟨vk, b, hv⟩ := hv
  exact (due_any now w hv hok hn hlen).mono (fun e w' ⟨vd, he, h1, h2, h3⟩ => ⟨⟨vd, he, h1⟩, h2, h3⟩)
theorem Two.due2 (h : Two p q n L1 L2 O B a w) (hok : OkL L2) (hn : 1 ≤ n ∧ n ≤ 1073741824) (hlen : L2.length ≤ 1000) (now : Int) :
    Calls Try.prog 18 #[.pointer (some ⟨q, 0, none⟩), .int .i64 now] w (DueT p q n (dueK n now L2) L1 (doneV n now L2) O B a w) := by
  refine (TwoO.sndS (Q := fun e w' => ∃ vd, e = .returned vd ∧ OwnR 8 rcC TCm w' w.heap.size vd (dueK n now L2)) (V2' := KxX q n (doneV n now L2)) (goodK p n L1) (goodQ q n L2) (goodQ q n _) h (fun S hv hO hS => ?_)).mono (fun e w' ⟨⟨vd, h1, h1'⟩, h2, h3⟩ => ⟨vd, h1, h1', h2, h3⟩)
  obtain ⟨vk, hv⟩ := hv
  exact (rdue_any now w hv hok hn hlen).mono (fun e w' ⟨vd, he, h1, h2, h3⟩ => ⟨⟨vd, he, h1⟩, h2, h3⟩)
/-- an elder keeper beside its clone and the document's -/
def Three (p c q : Nat) (n : Int) (L1 L : List Row) (O : Nat → Prop) (B : Nat) (a w : World) : Prop := ∃ S2 S3, KpO p n L1 (fun k => S2 k ∨ S3 k ∨ O k) B a w ∧ KxX q n L w S2 ∧ KpX c n L w S3 ∧ (∀ k, S3 k → ¬ S2 k) ∧ ∀ k, O k → ¬ S2 k ∧ ¬ S3 k
theorem Two.clone (h : Two p q n L L O B a w) (hlen : L.length ≤ 1000) :
    Calls Try.prog 19 #[.pointer (some ⟨p, 0, none⟩)] w fun e w' => ∃ c, e = .returned (.pointer (some ⟨c, 0, none⟩)) ∧ Three p c q n L L O B a w' ∧ ∀ k, O k → w'.heap[k]? = w.heap[k]? := by
  obtain ⟨S1, S2, h1, h2, h3, h4, h5, h6, h7, h8⟩ := h
  have h1' := h1
  obtain ⟨vk, b, hv⟩ := h1
  refine (clone_any w hv hlen).mono ?_
  rintro e w' ⟨c, he, hc, hb⟩
  refine ⟨c, he, ⟨S2, fun k => w.heap.size ≤ k ∧ k < w'.heap.size, ⟨S1, (goodK p n L).below h1' hb, h4, fun k hk => ?_, h7.trans (hb.mono h8), Nat.le_trans h8 hb.size⟩, (goodQ q n L).below h2 hb, hc, fun k hk q2 => ?_, fun k hk => ⟨(h6 k hk).2.2.1, fun q2 => ?_⟩⟩, fun k hk => hb.block k (h6 k hk).1⟩
  · rcases hk with hk | hk | hk
    · exact ⟨Nat.lt_of_lt_of_le ((goodQ q n L).low h2 k hk) hb.size, fun q2 => h3 k q2 hk, h5 k hk⟩
    · exact ⟨hk.2, fun q2 => by have := (goodK p n L).low h1' k q2; have := hk.1; omega, Nat.le_trans h8 hk.1⟩
    · exact ⟨Nat.lt_of_lt_of_le (h6 k hk).1 hb.size, (h6 k hk).2.1, (h6 k hk).2.2.2⟩
  · have := (goodQ q n L).low h2 k q2; have := hk.1; omega
  · have := (h6 k hk).1; have := q2.1; omega
theorem Three.leads (h : Three p c q n L1 L O B a w) (now : Int) (hl : LedA l) (hL : ∀ w', (∀ k, O k → w'.heap[k]? = w.heap[k]?) → SlR 5 heldC w' vh l.held) :
    Calls Try.prog 12 #[.pointer (some ⟨p, 0, none⟩), .int .i64 now, .agg (lArr l vh vl)] w fun e w' => e = .returned (.tuple #[]) ∧ Three p c q n (seesV now [] l.held) L O B a w' ∧ ∀ k, O k → w'.heap[k]? = w.heap[k]? := by
  obtain ⟨S2, S3, h1, h2, h3, h4, h5⟩ := h
  refine (KpO.leads h1 now l (fun w' _ hk => hL w' (fun k hO => hk k (.inr (.inr hO)))) hl.len hl.wf hl.nd).mono ?_
  rintro e w' ⟨he, g1, g2⟩
  have z := g1.bel
  have hz : w.heap.size ≤ w'.heap.size ∨ True := .inr trivial
  obtain ⟨S0, s1, s2, s3, s4, s5⟩ := id g1
  exact ⟨he, ⟨S2, S3, g1, ⟨_, (h2.choose_spec.row |> fun _ => ⟨(g2 _ (.inl h2.choose_spec.sp)).trans h2.choose_spec.row, h2.choose_spec.sp, own_keep h2.choose_spec.l (fun k hk _ => g2 k (.inl (h2.choose_spec.ls k hk))), h2.choose_spec.ls, fun k hk => (s3 k (.inl hk)).1⟩)⟩, ⟨_, _, ⟨⟨(g2 _ (.inr (.inl h3.choose_spec.choose_spec.sp))).trans h3.choose_spec.choose_spec.row, h3.choose_spec.choose_spec.sp, h3.choose_spec.choose_spec.m.keep (fun k hk => g2 k (.inr (.inl hk))), fun k hk => (s3 k (.inr (.inl hk))).1⟩, own_keep h3.choose_spec.choose_spec.h (fun k hk _ => g2 k (.inr (.inl (h3.choose_spec.choose_spec.hs k hk)))), h3.choose_spec.choose_spec.hs⟩⟩, h4, h5⟩, fun k hk => g2 k (.inr (.inr hk))⟩
theorem Three.due (h : Three p c q n L1 L O B a w) (hok : OkL L1) (hn : 1 ≤ n ∧ n ≤ 1073741824) (hlen : L1.length ≤ 1000) (now : Int) :
    Calls Try.prog 17 #[.pointer (some ⟨p, 0, none⟩), .int .i64 now] w fun e w' => (∃ vd, e = .returned vd) ∧ Two c q n L L O B a w' ∧ ∀ k, O k → w'.heap[k]? = w.heap[k]? := by
  obtain ⟨S2, S3, h1, h2, h3, h4, h5⟩ := h
  refine (KpO.due h1 hok hn hlen now).mono ?_
  rintro e w' ⟨vd, he, -, g1, g2⟩
  obtain ⟨S0, s1, s2, s3, s4, s5⟩ := g1
  have e3 : ∀ k, S2 k ∨ S3 k ∨ O k → k < w'.heap.size ∧ ¬ S0 k ∧ B ≤ k := fun k hk => s3 k (.inl hk)
  exact ⟨⟨vd, he⟩, ⟨S3, S2, ⟨_, _, ⟨⟨(g2 _ (.inr (.inl h3.choose_spec.choose_spec.sp))).trans h3.choose_spec.choose_spec.row, h3.choose_spec.choose_spec.sp, h3.choose_spec.choose_spec.m.keep (fun k hk => g2 k (.inr (.inl hk))), fun k hk => (e3 k (.inr (.inl hk))).1⟩, own_keep h3.choose_spec.choose_spec.h (fun k hk _ => g2 k (.inr (.inl (h3.choose_spec.choose_spec.hs k hk)))), h3.choose_spec.choose_spec.hs⟩⟩, ⟨_, ⟨(g2 _ (.inl h2.choose_spec.sp)).trans h2.choose_spec.row, h2.choose_spec.sp, own_keep h2.choose_spec.l (fun k hk _ => g2 k (.inl (h2.choose_spec.ls k hk))), h2.choose_spec.ls, fun k hk => (e3 k (.inl hk)).1⟩⟩, h4, fun k hk => (e3 k (.inr (.inl hk))).2.2, fun k hk => (e3 k (.inl hk)).2.2, fun k hk => ⟨(e3 k (.inr (.inr hk))).1, (h5 k hk).2, (h5 k hk).1, (e3 k (.inr (.inr hk))).2.2⟩, s4, s5⟩, fun k hk => g2 k (.inr (.inr hk))⟩
theorem leda_of {l : Led} (h : La.LedP l) (hw : l.wf) : LedA l := ⟨by have := h.2.2.2.1; omega, hw.2.2.1, held_nd h⟩
theorem sees_len (now : Int) (L : List Row) (H : List Held) : (seesV now L H).length = H.length := by unfold seesV; rw [List.length_map]
theorem done_len (n now : Int) (L : List Row) : (doneV n now L).length = L.length := by unfold doneV; rw [List.length_map]
end
end Ls
end Go.Proofs.Ytgbblegcjladaaa
