/- Pieces of a log. No condition. What is left of a log behind a snapshot: hard.behind. No condition but the bounds of what may last. -/
import Derived.Test.YtngnhegmealokaaVcN
import Derived.Deep.QuietTactic
import Derived.BigQuiet
namespace Go.Proofs.Ytngnhegmealokaa
open Go.ChangeShapes Go.WideShapes Go.ChangeAt Go.RowKit Go.Deep
set_option linter.unusedVariables false
set_option maxRecDepth 100000
theorem IsLog.sub {w : World} {b off cap : Nat} {log : List Ent} (h : IsLog w (.slice (some ⟨b, off, none⟩) log.length cap) log) (j m : Nat) (hm : j + m ≤ log.length) :
    IsLog w (.slice (some ⟨b, off + j * 9, none⟩) m (cap - j)) ((log.drop j).take m) := by
  obtain ⟨rows, ⟨a', cap', e, h1, h2, h4⟩, he, rfl⟩ := h
  rw [List.length_map] at hm e
  simp only [Value.slice.injEq] at e
  obtain ⟨rfl, -, rfl⟩ := e
  have hl : ((rows.drop j).take m).length = m := by rw [List.length_take, List.length_drop]; omega
  refine ⟨(rows.drop j).take m, ⟨_, cap - j, by rw [hl], by omega, by omega, .inr ⟨b, off + j * 9, none, rfl, ?_⟩⟩, fun r hr => he r (List.mem_of_mem_drop (List.mem_of_mem_take hr)), by rw [List.map_take, List.map_drop]⟩
  rcases h4 with ⟨h5, _⟩ | ⟨b1, off1, sp1, h5, h6⟩
  · cases h5
  · simp only [Option.some.injEq, Addr.mk.injEq] at h5
    obtain ⟨rfl, rfl, rfl⟩ := h5
    rcases h6 with rfl | ⟨-, hlt, hc⟩
    · exact .inl (by simp)
    · refine .inr ⟨rfl, hlt, fun i x hx q u hu => ?_⟩
      rw [List.getElem?_take] at hx
      split at hx
      · rw [List.getElem?_drop] at hx
        have := hc (j + i) x hx q u hu
        rw [show off + j * 9 + (i * 9 + q) = off + ((j + i) * 9 + q) by omega]
        exact this
      · cases hx
namespace Hd
/-- u is a piece of v, which reads as full -/
def PieceOf (v : Value) (full : List Ent) (u : Value) (part : List Ent) : Prop :=
  (u = .slice none 0 0 ∧ part = []) ∨ (∃ g off cap k, v = .slice (some ⟨g, off, none⟩) full.length cap ∧ u = .slice (some ⟨g, off + k * 9, none⟩) part.length (cap - k) ∧ k + part.length ≤ full.length ∧ (full.drop k).take part.length = part) ∨ ∃ ad c, u = .slice (some ad) 0 c ∧ c ≤ maxLen ∧ part = []
/-- a log that is a piece of rows of the call's own -/
def LogP (w : World) (B : Nat) (u : Value) (log : List Ent) : Prop := ∃ v rows, OwnR 9 entC 27 w B v rows ∧ EntsO w B v.ownBlock rows ∧ PieceOf v (rows.map Prod.fst) u log
theorem IsLog.nil (w : World) : IsLog w (.slice none 0 0) [] := ⟨[], SlR.nil _, fun r hr => by simp at hr, rfl⟩
theorem rows_len {w : World} {B : Nat} {v : Value} {rows : List ERow} (h : OwnR 9 entC 27 w B v rows) {a : Option Addr} {n c : Nat} (e : v = .slice a n c) : n = rows.length := by
  obtain ⟨a', c', e', -⟩ := h.sl entC_len
  rw [e] at e'
  simp only [Value.slice.injEq] at e'
  exact e'.2.1
theorem LogP.log {w : World} {B : Nat} {u : Value} {log : List Ent} (h : LogP w B u log) : IsLog w u log := by
  obtain ⟨v, rows, h1, h2, h3⟩ := h
  rcases h3 with ⟨rfl, rfl⟩ | ⟨g, off, cap, k, rfl, rfl, hk, e⟩ | ⟨ad, c, rfl, hc, rfl⟩
  · exact IsLog.nil w
  · have hI : IsLog w (.slice (some ⟨g, off, none⟩) (rows.map Prod.fst).length cap) (rows.map Prod.fst) := ⟨rows, h1.sl entC_len, h2.ents, rfl⟩
    have := hI.sub k log.length hk
    rw [e] at this
    exact this
  · exact ⟨[], ⟨some ad, c, rfl, Nat.zero_le _, hc, .inr ⟨ad.block, ad.off, ad.spot, rfl, .inl rfl⟩⟩, fun r hr => by simp at hr, rfl⟩
theorem LogP.whole {w : World} {B : Nat} {v : Value} {rows : List ERow} (h1 : OwnR 9 entC 27 w B v rows) (h2 : EntsO w B v.ownBlock rows) : LogP w B v (rows.map Prod.fst) := by
  refine ⟨v, rows, h1, h2, ?_⟩
  obtain ⟨a, c, e, -⟩ := h1.sl entC_len
  rcases h1.2 with ⟨e2, h0⟩ | ⟨g, cap, cur, e2, -⟩
  · refine .inl ⟨e2, ?_⟩
    rw [List.eq_nil_of_length_eq_zero h0]
    rfl
  · refine .inr (.inl ⟨g, 0, cap, 0, by rw [e2, List.length_map], by rw [e2, List.length_map]; simp, by simp, by rw [List.drop_zero]; exact List.take_of_length_le (Nat.le_refl _)⟩)
theorem LogP.nil (w : World) (B : Nat) : LogP w B (.slice none 0 0) [] := ⟨.slice none 0 0, [], OwnR.nil _ _ _, fun r hr => by simp at hr, .inl ⟨rfl, rfl⟩⟩
theorem LogP.map {w w' : World} {B D : Nat} {u : Value} {log : List Ent} (h : LogP w B u log) (f : ∀ e sz v n xs, w.ownsRow B e sz v n xs → w'.ownsRow D e sz v n xs) : LogP w' D u log := by
  obtain ⟨v, rows, h1, h2, h3⟩ := h
  exact ⟨v, rows, f _ _ _ _ _ h1, fun r hr => ⟨f _ _ _ _ _ (h2 r hr).1, (h2 r hr).2⟩, h3⟩
/-- a piece of a piece -/
theorem PieceOf.trans {v u t : Value} {full part log : List Ent} (h : PieceOf v full u part) (g : PieceOf u part t log) : PieceOf v full t log := by
  rcases g with g | ⟨b, o, c, j, rfl, rfl, hj, ej⟩ | g
  · exact .inl g
  · rcases h with ⟨h, -⟩ | ⟨b2, o2, c2, k, rfl, hu, hk, ek⟩ | ⟨ad, c3, hu, hc3, rfl⟩
    · cases h
    · simp only [Value.slice.injEq, Option.some.injEq, Addr.mk.injEq] at hu
      obtain ⟨⟨rfl, rfl, -⟩, -, rfl⟩ := hu
      refine .inr (.inl ⟨b, o2, c2, k + j, rfl, ?_, by omega, ?_⟩)
      · rw [show o2 + k * 9 + j * 9 = o2 + (k + j) * 9 by omega, show c2 - k - j = c2 - (k + j) by omega]
      · rw [← ek, List.drop_take, List.take_take, List.drop_drop] at ej
        rw [show min log.length (part.length - j) = log.length by omega] at ej
        exact ej
    · simp only [Value.slice.injEq] at hu
      have hl : log.length = 0 := by have q := hj; rw [List.length_nil] at q; omega
      refine .inr (.inr ⟨⟨b, o + j * 9, none⟩, c - j, by rw [hl], by rw [hu.2.2]; omega, List.eq_nil_of_length_eq_zero hl⟩)
  · exact .inr (.inr g)
theorem LogP.piece {w : World} {B : Nat} {u t : Value} {part log : List Ent} (h : LogP w B u part) (g : PieceOf u part t log) : LogP w B t log := by
  obtain ⟨v, rows, h1, h2, h3⟩ := h
  exact ⟨v, rows, h1, h2, h3.trans g⟩
/-- what lasts, whose lists are the call's own -/
def OwnH (w : World) (B : Nat) (vn vh vl vg : Value) (h : Har) : Prop := OwnI w B vn h.shot.nodes ∧ OwnR 5 heldC 72 w B vh h.shot.led.held ∧ OwnR 6 lastC 76 w B vl h.shot.led.last ∧ LogP w B vg h.log
theorem OwnH.map {w w' : World} {B D : Nat} {vn vh vl vg : Value} {h : Har} (o : OwnH w B vn vh vl vg h) (f : ∀ e sz v n xs, w.ownsRow B e sz v n xs → w'.ownsRow D e sz v n xs) : OwnH w' D vn vh vl vg h :=
  ⟨f _ _ _ _ _ o.1, f _ _ _ _ _ o.2.1, f _ _ _ _ _ o.2.2.1, o.2.2.2.map f⟩
def HarW (h : Har) : Prop := h.wf ∧ ∀ n ∈ h.shot.nodes, (Lit.int .i64 n).wf = true
theorem OwnH.hard {w : World} {B : Nat} {vn vh vl vg : Value} {h : Har} (o : OwnH w B vn vh vl vg h) (hw : HarW h) : IsHard w (.agg (hArr h vn vh vl vg)) h :=
  ⟨vn, vh, vl, vg, rfl, o.1.sl hw.2, o.2.1.sl heldC_len, o.2.2.1.sl lastC_len, o.2.2.2.log, hw.1⟩
theorem IsHard.harW {w : World} {v : Value} {h : Har} (hh : IsHard w v h) : HarW h := by
  obtain ⟨vn, vh, vl, vg, rfl, hn, -, -, -, hwf⟩ := hh
  exact ⟨hwf, hn.wf⟩
theorem owns_below {w w' : World} {B : Nat} (hb : Below w.heap.size w w') {e sz : _} {v : Value} {n : Nat} {xs : List Value} (h : w.ownsRow B e sz v n xs) : w'.ownsRow B e sz v n xs := by
  refine ⟨h.1, ?_⟩
  rcases h.2 with h2 | ⟨g, cap, cur, rfl, h3, h4, h5⟩
  · exact .inl h2
  · exact .inr ⟨g, cap, cur, rfl, h3, (hb.block g (Array.getElem?_eq_some_iff.1 h4).1).trans h4, h5⟩
theorem owns_lower {w : World} {B D : Nat} (hD : D ≤ B) {e sz : _} {v : Value} {n : Nat} {xs : List Value} (h : w.ownsRow B e sz v n xs) : w.ownsRow D e sz v n xs := by
  refine ⟨h.1, ?_⟩
  rcases h.2 with h2 | ⟨g, cap, cur, rfl, h3, h4⟩
  · exact .inl h2
  · exact .inr ⟨g, cap, cur, rfl, Nat.le_trans hD h3, h4⟩
theorem befE_at {t : Int} {l : List Ent} {k : Nat} (hk : k < l.length) : befE t (l.take (k + 1)) = l[k].term := by
  rw [List.take_add_one, List.getElem?_eq_getElem hk]
  simp only [Option.toList_some]
  exact befE_snoc _ _ _
end Hd
end Go.Proofs.Ytngnhegmealokaa
namespace Go.Proofs.Ytngnhegmealokaa
open Go.ChangeShapes Go.WideShapes Go.ChangeAt Go.RowKit Go.Deep
set_option linter.unusedVariables false
set_option maxRecDepth 100000
namespace Hd
def behindL (h : Har) (s : Sho) : List Ent := if h.shot.index + h.log.length < s.index then [] else if befE h.shot.term (h.log.take (s.index - h.shot.index).toNat) = s.term then h.log.drop (s.index - h.shot.index).toNat else []
def SaysB (h : Har) (s : Sho) (v : Value) (w : World) (e : Ending) (w' : World) : Prop := ∃ u, e = .returned u ∧ PieceOf v h.log u (behindL h s) ∧ Below w.heap.size w w'
theorem behindL_far {h : Har} {s : Sho} {k : Nat} (hk : s.index = h.shot.index + k) (c : h.log.length < k) : behindL h s = [] := by
  unfold behindL
  rw [if_pos (by omega)]
theorem behindL_yes {h : Har} {s : Sho} {k : Nat} (hk : s.index = h.shot.index + k) (c : k ≤ h.log.length) (e : befE h.shot.term (h.log.take k) = s.term) : behindL h s = h.log.drop k := by
  unfold behindL
  have q : (s.index - h.shot.index).toNat = k := by omega
  rw [if_neg (by omega), q, if_pos e]
theorem behindL_no {h : Har} {s : Sho} {k : Nat} (hk : s.index = h.shot.index + k) (c : k ≤ h.log.length) (e : befE h.shot.term (h.log.take k) ≠ s.term) : behindL h s = [] := by
  unfold behindL
  have q : (s.index - h.shot.index).toNat = k := by omega
  rw [if_neg (by omega), q, if_neg e]
end Hd
end Go.Proofs.Ytngnhegmealokaa
