/- Two sessions of one state, the program's and the document's, in one world: what each call leaves. No condition. -/
import Derived.Test.YtdakkjpejhlciaaMuK
import Derived.Test.YtdakkjpejhlciaaStM
namespace Go.Proofs.Ytdakkjpejhlciaa
open Go.ChangeShapes Go.WideShapes Go.ChangeAt Go.RowKit Go.Deep
set_option linter.unusedVariables false
set_option maxRecDepth 100000
set_option linter.unusedSimpArgs false
namespace Mu
open St Mc
section
variable {w w' w1 w2 a : World} {S S' S1 : Nat → Prop} {O O' : Nat → Prop} {p gx B : Nat} {vr vq vo r : Value} {s s' t t' : Ses}
/-- the program's of state s, the document's of state t, and blocks that are neither's -/
def TwO (p gx : Nat) (s t : Ses) (O : Nat → Prop) (B : Nat) (a w : World) : Prop := ∃ S1 S2, SesX p s w S1 ∧ Mv.XSX gx t w S2 ∧ (∀ k, S1 k → ¬ S2 k) ∧ (∀ k, S1 k → B ≤ k) ∧ (∀ k, S2 k → B ≤ k) ∧ (∀ k, O k → k < w.heap.size ∧ ¬ S1 k ∧ ¬ S2 k ∧ B ≤ k) ∧ Below B a w ∧ B ≤ w.heap.size
theorem TwO.start (h : TwO p gx s t O' B a w) (hb : Below w.heap.size w w') : TwO p gx s t (fun k => w.heap.size ≤ k ∧ k < w'.heap.size) B a w' := by
  obtain ⟨S1, S2, h1, h2, h3, h4, h5, h6, h7, h8⟩ := h
  refine ⟨S1, S2, (goodS p s).below h1 hb, (Mv.goodX gx t).below h2 hb, h3, h4, h5, fun k hk => ⟨hk.2, fun q => ?_, fun q => ?_, Nat.le_trans h8 hk.1⟩, h7.trans (hb.mono h8), Nat.le_trans h8 hb.size⟩
  · have := (goodS p s).low h1 k q; have := hk.1; omega
  · have := (Mv.goodX gx t).low h2 k q; have := hk.1; omega
theorem TwO.mono (h : TwO p gx s t O B a w) (hO : ∀ k, O' k → O k) : TwO p gx s t O' B a w := by
  obtain ⟨S1, S2, h1, h2, h3, h4, h5, h6, h7, h8⟩ := h
  exact ⟨S1, S2, h1, h2, h3, h4, h5, fun k hk => h6 k (hO k hk), h7, h8⟩
theorem TwO.below (h : TwO p gx s t O B a w) (hb : Below w.heap.size w w') : TwO p gx s t O B a w' := by
  obtain ⟨S1, S2, h1, h2, h3, h4, h5, h6, h7, h8⟩ := h
  exact ⟨S1, S2, (goodS p s).below h1 hb, (Mv.goodX gx t).below h2 hb, h3, h4, h5, fun k hk => ⟨Nat.lt_of_lt_of_le (h6 k hk).1 hb.size, (h6 k hk).2⟩, h7.trans (hb.mono h8), Nat.le_trans h8 hb.size⟩
theorem TwO.drew (h : TwO p gx s t O B a w) : TwO p gx s t O B a w.drew := h.below ⟨rfl, rfl, rfl, Nat.le_refl _, fun _ _ => rfl⟩
theorem TwO.write {g i : Nat} {v : Value} (h : TwO p gx s t O B a w) (hg : O g) : TwO p gx s t O B a (w.setCell ⟨g, i, none⟩ v) := by
  obtain ⟨S1, S2, h1, h2, h3, h4, h5, h6, h7, h8⟩ := h
  obtain ⟨g1, g2, g3, g4⟩ := h6 g hg
  exact ⟨S1, S2, (goodS p s).keep h1 (fun k hk => heap_setCell_other w ⟨g, i, none⟩ k v (fun (e : k = g) => g2 (e ▸ hk))) (by simp), (Mv.goodX gx t).keep h2 (fun k hk => heap_setCell_other w ⟨g, i, none⟩ k v (fun (e : k = g) => g3 (e ▸ hk))) (by simp), h3, h4, h5, fun k hk => ⟨by simpa using (h6 k hk).1, (h6 k hk).2⟩, below_cell h7 g4 v, by simpa using h8⟩
/-- a call on the program's -/
theorem TwO.prog {f : Nat} {args : Array Value} (h : TwO p gx s t O B a w) (hc : ∀ S vr vq vo, SesV w S p vr vq vo s → (∀ k, O k → ¬ S k) → Calls Try.prog f args w (MuR r p s' S w)) :
    Calls Try.prog f args w (fun e w' => e = .returned r ∧ TwO p gx s' t O B a w' ∧ ∀ k, O k → w'.heap[k]? = w.heap[k]?) := by
  obtain ⟨S1, S2, ⟨vr, vq, vo, h1⟩, h2, h3, h4, h5, h6, h7, h8⟩ := h
  refine (hc S1 vr vq vo h1 (fun k hk => (h6 k hk).2.1)).mono ?_
  rintro e w' ⟨rfl, hl⟩
  obtain ⟨S', q1, q2, q3, q4, q5⟩ := apart_turn (goodS p s) (Mv.goodX gx t) h1.x h2 h3 h4 h8 hl
  have z := hl.2.2.2.2.1
  refine ⟨rfl, ⟨S', S2, q1, q2, q3, q4, h5, fun k hk => ⟨Nat.lt_of_lt_of_le (h6 k hk).1 z, fun q => ?_, (h6 k hk).2.2⟩, hl.2.below h7 h8 h4, Nat.le_trans h8 z⟩, fun k hk => hl.2.2.2.2.2 k (h6 k hk).1 (h6 k hk).2.1⟩
  rcases q5 k q with c | c
  · exact (h6 k hk).2.1 c
  · have := (h6 k hk).1; omega
/-- a call on the document's -/
theorem TwO.doc {f : Nat} {args : Array Value} (h : TwO p gx s t O B a w) (hc : ∀ S vq vo b bd al tx, Mv.XSV w S gx vq vo b bd al tx t → Calls Try.prog f args w (Mv.MvR r gx t' S w)) :
    Calls Try.prog f args w (fun e w' => e = .returned r ∧ TwO p gx s t' O B a w' ∧ ∀ k, O k → w'.heap[k]? = w.heap[k]?) := by
  obtain ⟨S1, S2, h1, ⟨vq, vo, b, bd, al, tx, h2⟩, h3, h4, h5, h6, h7, h8⟩ := h
  refine (hc S2 vq vo b bd al tx h2).mono ?_
  rintro e w' ⟨rfl, hl⟩
  obtain ⟨S', q1, q2, q3, q4, q5⟩ := apart_turn (Mv.goodX gx t) (goodS p s) h2.x h1 (fun k c d => h3 k d c) h5 h8 hl
  have z := hl.2.2.2.2.1
  refine ⟨rfl, ⟨S1, S', q2, q1, fun k c d => q3 k d c, h4, q4, fun k hk => ⟨Nat.lt_of_lt_of_le (h6 k hk).1 z, (h6 k hk).2.1, fun q => ?_, (h6 k hk).2.2.2⟩, hl.2.below h7 h8 h5, Nat.le_trans h8 z⟩, fun k hk => hl.2.2.2.2.2 k (h6 k hk).1 (h6 k hk).2.2.1⟩
  rcases q5 k q with c | c
  · exact (h6 k hk).2.2.1 c
  · have := (h6 k hk).1; omega
/-- the program's Hang -/
theorem hang_left (w : World) (h : SesV w S p vr vq vo s) : Calls Try.prog 21 #[.pointer (some ⟨p, 0, none⟩)] w (MuR (.tuple #[]) p (hangS s) S w) := by
  refine (hang_any w h).mono ?_
  rintro e w' ⟨rfl, hv, ho⟩
  exact ⟨rfl, Mc.Left.mk (goodS p _) hv.x ho⟩
theorem TwO.open_ (h : TwO p gx s t O B a w) : Calls Try.prog 27 #[.pointer (some ⟨p, 0, none⟩)] w (fun e w' => e = .returned (.bool (decide (s.st ≠ 0))) ∧ w = w') := by
  obtain ⟨S1, S2, ⟨vr, vq, vo, h1⟩, -⟩ := h
  exact open_any w h1
theorem TwO.state (h : TwO p gx s t O B a w) : w.cell? ⟨gx, 3, none⟩ = some (.int .i64 (Mv.stX t.st)) := by
  obtain ⟨S1, S2, -, ⟨vq, vo, b, bd, al, tx, h2⟩, -⟩ := h
  exact (Mv.xcells h2.row).2.2.2.1
/-- the program's replies, given away -/
theorem TwO.replies (h : TwO p gx s t O' B a w) : Calls Try.prog 23 #[.pointer (some ⟨p, 0, none⟩)] w (fun e w' => ∃ v, e = .returned v ∧ OwnR 3 repC TR w' 0 v s.out ∧ TwO p gx (repsS s) t (fun k => v.ownBlock = some k) B a w') := by
  obtain ⟨S1, S2, ⟨vr, vq, vo, h1⟩, h2, h3, h4, h5, h6, h7, h8⟩ := h
  refine (replies_any w h1).mono ?_
  rintro e w' ⟨rfl, rfl⟩
  obtain ⟨g1, g2⟩ := h1.given
  have ho := only_cell (w := w) h1.sp 5 (.slice none 0 0)
  refine ⟨vo, rfl, g2, _, S2, g1.x, (Mv.goodX gx t).only h2 ho (fun k hk q => h3 k q hk), fun k hk q => h3 k hk.1 q, fun k hk => h4 k hk.1, h5, fun k hk => ⟨by have := h1.low k (h1.os k hk); simpa using this, fun q => q.2 hk, h3 k (h1.os k hk), h4 k (h1.os k hk)⟩, ho.below h7 h8 h4, by simpa using h8⟩
/-- the document's replies -/
theorem TwO.xreplies (h : TwO p gx s t O B a w) : Calls Try.prog 25 #[.pointer (some ⟨gx, 0, none⟩)] w (fun e w' => ∃ v, e = .returned v ∧ OwnQ 3 repC TR w' 0 v t.out ∧ TwO p gx s (repsS t) O B a w' ∧ ∀ k, O k → w'.heap[k]? = w.heap[k]?) := by
  obtain ⟨S1, S2, h1, ⟨vq, vo, b, bd, al, tx, h2⟩, h3, h4, h5, h6, h7, h8⟩ := h
  refine (Mv.replies_any w h2).mono ?_
  rintro e w' ⟨v, rfl, g1, g2, g3, g4⟩
  have z := g4.2.2.2.1
  exact ⟨v, rfl, g2, ⟨S1, S2, (goodS p s).only h1 g4 h3, g1, h3, h4, h5, fun k hk => ⟨Nat.lt_of_lt_of_le (h6 k hk).1 z, (h6 k hk).2⟩, g4.below h7 h8 h5, Nat.le_trans h8 z⟩, fun k hk => g4.2.2.2.2 k (h6 k hk).1 (h6 k hk).2.2.1⟩
/-- a copy taken: whatever becomes of the old one -/
theorem TwO.clone {n m : Nat} (h : TwO p gx s t O B a w) (hok : okS n m s) (hn : n ≤ 1000000) (hm : m ≤ 1000000) : Calls Try.prog 26 #[.pointer (some ⟨p, 0, none⟩)] w (fun e w' => ∃ g, e = .returned (.pointer (some ⟨g, 0, none⟩)) ∧ ∃ S1, SesX p s w' S1 ∧ ∀ w9, Only S1 w' w9 → TwO g gx s t (fun _ => False) B a w9) := by
  obtain ⟨S1, S2, ⟨vr, vq, vo, h1⟩, h2, h3, h4, h5, h6, h7, h8⟩ := h
  refine (clone_any w h1 hok hn hm).mono ?_
  rintro e w' ⟨g, rfl, hx, hb⟩
  have z := hb.size
  refine ⟨g, rfl, S1, (goodS p s).below h1.x hb, fun w9 ho => ⟨_, S2, (goodS g s).only hx ho (fun k hk q => ?_), (Mv.goodX gx t).only ((Mv.goodX gx t).below h2 hb) ho (fun k hk q => h3 k q hk), fun k hk q => ?_, fun k hk => Nat.le_trans h8 hk.1, h5, fun k hk => hk.elim, ho.below (h7.trans (hb.mono h8)) (Nat.le_trans h8 z) h4, Nat.le_trans h8 (Nat.le_trans z ho.2.2.2.1)⟩⟩
  · have := h1.low k q; have := hk.1; omega
  · have := (Mv.goodX gx t).low h2 k q; have := hk.1; omega
/-- the old one goes on -/
theorem left_then {f : Nat} {args : Array Value} (h : Mc.Left (SesX p s) S1 w1 w) (hc : ∀ S vr vq vo, SesV w S p vr vq vo s → (∀ k, S k → Grow S1 w1 w k) → Calls Try.prog f args w (MuR r p s' S w)) :
    Calls Try.prog f args w (fun e w' => e = .returned r ∧ Mc.Left (SesX p s') S1 w1 w') := by
  obtain ⟨⟨S, ⟨vr, vq, vo, h1⟩, h2⟩, h3⟩ := h
  refine (hc S vr vq vo h1 h2).mono ?_
  rintro e w' ⟨rfl, hl⟩
  exact ⟨rfl, Mc.Left.step h3 h2 hl⟩
theorem left_replies (h : Mc.Left (SesX p s) S1 w1 w) : Calls Try.prog 23 #[.pointer (some ⟨p, 0, none⟩)] w (fun e w' => ∃ v, e = .returned v ∧ Mc.Left (SesX p (repsS s)) S1 w1 w') := by
  obtain ⟨⟨S, ⟨vr, vq, vo, h1⟩, h2⟩, h3⟩ := h
  refine (replies_any w h1).mono ?_
  rintro e w' ⟨rfl, rfl⟩
  exact ⟨_, rfl, Mc.Left.step h3 h2 ⟨⟨_, h1.given.1.x, fun k hk => .inl hk.1⟩, only_cell h1.sp 5 _⟩⟩
theorem mop_cells {w : World} {b off k : Nat} {x : MOp} (h : ∀ j u, (mopC x)[j]? = some u → w.cell? ⟨b, off + (k * 5 + j), none⟩ = some u) :
    w.cell? ⟨b, off + k * 5, none⟩ = some (.int .i64 x.kind) ∧ w.cell? ⟨b, off + k * 5 + 1, none⟩ = some (.string x.text) ∧ w.cell? ⟨b, off + k * 5 + 2, none⟩ = some (.int .i64 x.rep.kind) ∧ w.cell? ⟨b, off + k * 5 + 3, none⟩ = some (.int .i64 x.rep.node) ∧ w.cell? ⟨b, off + k * 5 + 4, none⟩ = some (.string x.rep.text) := by
  have h0 := h 0 _ rfl; have h1 := h 1 _ rfl; have h2 := h 2 _ rfl; have h3 := h 3 _ rfl; have h4 := h 4 _ rfl
  simp only [← Nat.add_assoc, Nat.add_zero] at h0 h1 h2 h3 h4
  exact ⟨h0, h1, h2, h3, h4⟩
def opA (x : MOp) : Array Value := #[.int .i64 x.kind, .string x.text, .int .i64 x.rep.kind, .int .i64 x.rep.node, .string x.rep.text]
/-- the document's at the beginning -/
theorem x_fresh {w : World} (hw : w.heap[gx]? = some (.cells #[.string ⟨#[]⟩, .bool false, .slice none 0 0, .int .i64 0, .bool false, .string ⟨#[]⟩, .slice none 0 0] Mv.TX (0, 0))) : Mv.XSX gx fresh w (fun k => k = gx) :=
  ⟨.slice none 0 0, .slice none 0 0, ⟨#[]⟩, false, false, ⟨#[]⟩, ⟨hw, rfl, ⟨fun _ => ⟨rfl, rfl⟩, (by rintro (q | q | q) <;> cases q), (by rintro (⟨q, -⟩ | q) <;> cases q)⟩, OwnQ.nil _ _ _, (fun k hk => by cases hk), OwnQ.nil _ _ _, (fun k hk => by cases hk), fun k hk => hk ▸ row_lt hw⟩⟩
end
end Mu
end Go.Proofs.Ytdakkjpejhlciaa
