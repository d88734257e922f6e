/- Pieces of a log. No condition. What is left of a log behind a snapshot: hard.behind. No condition but the bounds of what may last. -/
import Derived.Test.YtlkgmjhejocobaaVcN
import Derived.Deep.QuietTactic
import Derived.BigQuiet
namespace Go.Proofs.Ytlkgmjhejocobaa
open Go.ChangeShapes Go.WideShapes Go.ChangeAt Go.RowKit Go.Deep
set_option linter.unusedVariables false
set_option maxRecDepth 100000
theorem IsLog.sub {w : World} {b off cap : Nat} {log : List Ent} (h : IsLog w (.slice (some ⟨b, off, none⟩) log.length cap) log) (j m : Nat) (hm : j + m ≤ log.length) :
    IsLog w (.slice (some ⟨b, off + j * 9, none⟩) m (cap - j)) ((log.drop j).take m) := by
  obtain ⟨rows, ⟨a', cap', e, h1, h2, h4⟩, he, rfl⟩ := h
  rw [List.length_map] at hm e
  simp only [Value.slice.injEq] at e
  obtain ⟨rfl, -, rfl⟩ := e
  have hl : ((rows.drop j).take m).length = m := by rw [List.length_take, List.length_drop]; omega
  refine ⟨(rows.drop j).take m, ⟨_, cap - j, by rw [hl], by omega, by omega, .inr ⟨b, off + j * 9, none, rfl, ?_⟩⟩, fun r hr => he r (List.mem_of_mem_drop (List.mem_of_mem_take hr)), by rw [List.map_take, List.map_drop]⟩
  rcases h4 with ⟨h5, _⟩ | ⟨b1, off1, sp1, h5, h6⟩
  · cases h5
  · simp only [Option.some.injEq, Addr.mk.injEq] at h5
    obtain ⟨rfl, rfl, rfl⟩ := h5
    rcases h6 with rfl | ⟨-, hlt, hc⟩
    · exact .inl (by simp)
    · refine .inr ⟨rfl, hlt, fun i x hx q u hu => ?_⟩
      rw [List.getElem?_take] at hx
      split at hx
      · rw [List.getElem?_drop] at hx
        have := hc (j + i) x hx q u hu
        rw [show off + j * 9 + (i * 9 + q) = off + ((j + i) * 9 + q) by omega]
        exact this
      · cases hx
namespace Hd
/-- u is a piece of v, which reads as full -/
def PieceOf (v : Value) (full : List Ent) (u : Value) (part : List Ent) : Prop :=
  (u = .slice none 0 0 ∧ part = []) ∨ (∃ g off cap k, v = .slice (some ⟨g, off, none⟩) full.length cap ∧ u = .slice (some ⟨g, off + k * 9, none⟩) part.length (cap - k) ∧ k + part.length ≤ full.length ∧ (full.drop k).take part.length = part) ∨ ∃ ad c, u = .slice (some ad) 0 c ∧ c ≤ maxLen ∧ part = []
/-- a log that is a piece of rows of the call's own -/
def LogP (w : World) (B : Nat) (u : Value) (log : List Ent) : Prop := ∃ v rows, OwnR 9 entC 47 w B v rows ∧ EntsO w B v.ownBlock rows ∧ PieceOf v (rows.map Prod.fst) u log
theorem IsLog.nil (w : World) : IsLog w (.slice none 0 0) [] := ⟨[], SlR.nil _, fun r hr => by simp at hr, rfl⟩
theorem rows_len {w : World} {B : Nat} {v : Value} {rows : List ERow} (h : OwnR 9 entC 47 w B v rows) {a : Option Addr} {n c : Nat} (e : v = .slice a n c) : n = rows.length := by
  obtain ⟨a', c', e', -⟩ := h.sl entC_len
  rw [e] at e'
  simp only [Value.slice.injEq] at e'
  exact e'.2.1
theorem LogP.log {w : World} {B : Nat} {u : Value} {log : List Ent} (h : LogP w B u log) : IsLog w u log := by
  obtain ⟨v, rows, h1, h2, h3⟩ := h
  rcases h3 with ⟨rfl, rfl⟩ | ⟨g, off, cap, k, rfl, rfl, hk, e⟩ | ⟨ad, c, rfl, hc, rfl⟩
  · exact IsLog.nil w
  · have hI : IsLog w (.slice (some ⟨g, off, none⟩) (rows.map Prod.fst).length cap) (rows.map Prod.fst) := ⟨rows, h1.sl entC_len, h2.ents, rfl⟩
    have := hI.sub k log.length hk
    rw [e] at this
    exact this
  · exact ⟨[], ⟨some ad, c, rfl, Nat.zero_le _, hc, .inr ⟨ad.block, ad.off, ad.spot, rfl, .inl rfl⟩⟩, fun r hr => by simp at hr, rfl⟩
theorem LogP.whole {w : World} {B : Nat} {v : Value} {rows : List ERow} (h1 : OwnR 9 entC 47 w B v rows) (h2 : EntsO w B v.ownBlock rows) : LogP w B v (rows.map Prod.fst) := by
  refine ⟨v, rows, h1, h2, ?_⟩
  obtain ⟨a, c, e, -⟩ := h1.sl entC_len
  rcases h1.2 with ⟨e2, h0⟩ | ⟨g, cap, cur, e2, -⟩
  · refine .inl ⟨e2, ?_⟩
    rw [List.eq_nil_of_length_eq_zero h0]
    rfl
  · refine .inr (.inl ⟨g, 0, cap, 0, by rw [e2, List.length_map], by rw [e2, List.length_map]; simp, by simp, by rw [List.drop_zero]; exact List.take_of_length_le (Nat.le_refl _)⟩)
theorem LogP.nil (w : World) (B : Nat) : LogP w B (.slice none 0 0) [] := ⟨.slice none 0 0, [], OwnR.nil _ _ _, fun r hr => by simp at hr, .inl ⟨rfl, rfl⟩⟩
theorem LogP.map {w w' : World} {B D : Nat} {u : Value} {log : List Ent} (h : LogP w B u log) (f : ∀ e sz v n xs, w.ownsRow B e sz v n xs → w'.ownsRow D e sz v n xs) : LogP w' D u log := by
  obtain ⟨v, rows, h1, h2, h3⟩ := h
  exact ⟨v, rows, f _ _ _ _ _ h1, fun r hr => ⟨f _ _ _ _ _ (h2 r hr).1, (h2 r hr).2⟩, h3⟩
/-- a piece of a piece -/
theorem PieceOf.trans {v u t : Value} {full part log : List Ent} (h : PieceOf v full u part) (g : PieceOf u part t log) : PieceOf v full t log := by
  rcases g with g | ⟨b, o, c, j, rfl, rfl, hj, ej⟩ | g
  · exact .inl g
  · rcases h with ⟨h, -⟩ | ⟨b2, o2, c2, k, rfl, hu, hk, ek⟩ | ⟨ad, c3, hu, hc3, rfl⟩
    · cases h
    · simp only [Value.slice.injEq, Option.some.injEq, Addr.mk.injEq] at hu
      obtain ⟨⟨rfl, rfl, -⟩, -, rfl⟩ := hu
      refine .inr (.inl ⟨b, o2, c2, k + j, rfl, ?_, by omega, ?_⟩)
      · rw [show o2 + k * 9 + j * 9 = o2 + (k + j) * 9 by omega, show c2 - k - j = c2 - (k + j) by omega]
      · rw [← ek, List.drop_take, List.take_take, List.drop_drop] at ej
        rw [show min log.length (part.length - j) = log.length by omega] at ej
        exact ej
    · simp only [Value.slice.injEq] at hu
      have hl : log.length = 0 := by have q := hj; rw [List.length_nil] at q; omega
      refine .inr (.inr ⟨⟨b, o + j * 9, none⟩, c - j, by rw [hl], by rw [hu.2.2]; omega, List.eq_nil_of_length_eq_zero hl⟩)
  · exact .inr (.inr g)
theorem LogP.piece {w : World} {B : Nat} {u t : Value} {part log : List Ent} (h : LogP w B u part) (g : PieceOf u part t log) : LogP w B t log := by
  obtain ⟨v, rows, h1, h2, h3⟩ := h
  exact ⟨v, rows, h1, h2, h3.trans g⟩
/-- what lasts, whose lists are the call's own -/
def OwnH (w : World) (B : Nat) (vn vh vl vg : Value) (h : Har) : Prop := OwnI w B vn h.shot.nodes ∧ OwnR 5 heldC 74 w B vh h.shot.led.held ∧ OwnR 6 lastC 78 w B vl h.shot.led.last ∧ LogP w B vg h.log
theorem OwnH.map {w w' : World} {B D : Nat} {vn vh vl vg : Value} {h : Har} (o : OwnH w B vn vh vl vg h) (f : ∀ e sz v n xs, w.ownsRow B e sz v n xs → w'.ownsRow D e sz v n xs) : OwnH w' D vn vh vl vg h :=
  ⟨f _ _ _ _ _ o.1, f _ _ _ _ _ o.2.1, f _ _ _ _ _ o.2.2.1, o.2.2.2.map f⟩
def HarW (h : Har) : Prop := h.wf ∧ ∀ n ∈ h.shot.nodes, (Lit.int .i64 n).wf = true
theorem OwnH.hard {w : World} {B : Nat} {vn vh vl vg : Value} {h : Har} (o : OwnH w B vn vh vl vg h) (hw : HarW h) : IsHard w (.agg (hArr h vn vh vl vg)) h :=
  ⟨vn, vh, vl, vg, rfl, o.1.sl hw.2, o.2.1.sl heldC_len, o.2.2.1.sl lastC_len, o.2.2.2.log, hw.1⟩
theorem IsHard.harW {w : World} {v : Value} {h : Har} (hh : IsHard w v h) : HarW h := by
  obtain ⟨vn, vh, vl, vg, rfl, hn, -, -, -, hwf⟩ := hh
  exact ⟨hwf, hn.wf⟩
theorem owns_below {w w' : World} {B : Nat} (hb : Below w.heap.size w w') {e sz : _} {v : Value} {n : Nat} {xs : List Value} (h : w.ownsRow B e sz v n xs) : w'.ownsRow B e sz v n xs := by
  refine ⟨h.1, ?_⟩
  rcases h.2 with h2 | ⟨g, cap, cur, rfl, h3, h4, h5⟩
  · exact .inl h2
  · exact .inr ⟨g, cap, cur, rfl, h3, (hb.block g (Array.getElem?_eq_some_iff.1 h4).1).trans h4, h5⟩
theorem owns_lower {w : World} {B D : Nat} (hD : D ≤ B) {e sz : _} {v : Value} {n : Nat} {xs : List Value} (h : w.ownsRow B e sz v n xs) : w.ownsRow D e sz v n xs := by
  refine ⟨h.1, ?_⟩
  rcases h.2 with h2 | ⟨g, cap, cur, rfl, h3, h4⟩
  · exact .inl h2
  · exact .inr ⟨g, cap, cur, rfl, Nat.le_trans hD h3, h4⟩
theorem befE_at {t : Int} {l : List Ent} {k : Nat} (hk : k < l.length) : befE t (l.take (k + 1)) = l[k].term := by
  rw [List.take_add_one, List.getElem?_eq_getElem hk]
  simp only [Option.toList_some]
  exact befE_snoc _ _ _
end Hd
end Go.Proofs.Ytlkgmjhejocobaa
namespace Go.Proofs.Ytlkgmjhejocobaa
open Go.ChangeShapes Go.WideShapes Go.ChangeAt Go.RowKit Go.Deep
set_option linter.unusedVariables false
set_option maxRecDepth 100000
namespace Hd
def behindL (h : Har) (s : Sho) : List Ent := if h.shot.index + h.log.length < s.index then [] else if befE h.shot.term (h.log.take (s.index - h.shot.index).toNat) = s.term then h.log.drop (s.index - h.shot.index).toNat else []
def SaysB (h : Har) (s : Sho) (v : Value) (w : World) (e : Ending) (w' : World) : Prop := ∃ u, e = .returned u ∧ PieceOf v h.log u (behindL h s) ∧ Below w.heap.size w w'
theorem behindL_far {h : Har} {s : Sho} {k : Nat} (hk : s.index = h.shot.index + k) (c : h.log.length < k) : behindL h s = [] := by
  unfold behindL
  rw [if_pos (by omega)]
theorem behindL_yes {h : Har} {s : Sho} {k : Nat} (hk : s.index = h.shot.index + k) (c : k ≤ h.log.length) (e : befE h.shot.term (h.log.take k) = s.term) : behindL h s = h.log.drop k := by
  unfold behindL
  have q : (s.index - h.shot.index).toNat = k := by omega
  rw [if_neg (by omega), q, if_pos e]
theorem behindL_no {h : Har} {s : Sho} {k : Nat} (hk : s.index = h.shot.index + k) (c : k ≤ h.log.length) (e : befE h.shot.term (h.log.take k) ≠ s.term) : behindL h s = [] := by
  unfold behindL
  have q : (s.index - h.shot.index).toNat = k := by omega
  rw [if_neg (by omega), q, if_neg e]
set_option maxHeartbeats 4000000 in
theorem behind_nil (h : Har) (vn vh vl : Value) (s : Sho) (sv : Value) (w : World) (hh : IsHard w (.agg (hArr h vn vh vl (.slice none 0 0))) h) (hs : IsShot w sv s) (k : Nat) (hk : s.index = h.shot.index + k) (hi : h.shot.index + h.log.length ≤ 4611686018427387904) (hl : h.log = []) : Calls Try.prog 60 #[.agg (hArr h vn vh vl (.slice none 0 0)), sv] w (SaysB h s (.slice none 0 0) w) := by
  have hwf := IsHard.harW hh
  obtain ⟨un, uh, ul, rfl, -, -, -, hsw⟩ := id hs
  have hsb := bounds_u64 hsw.1
  have hx0 := Ld.u64_nonneg hwf.1.2.2.2.1
  have hb0 : Below w.heap.size w ((w.alloc (.cells (hArr h vn vh vl (.slice none 0 0)) 43)).alloc (.cells (sArr s un uh ul) 29)) := ((Below.refl _ _).alloc (Nat.le_refl _) _).alloc (by simp) _
  obtain ⟨d0, d1, d2, d3, d4, d5, d6, d7, d8, d9, d10⟩ := cells11 (heap_alloc2_old w (.cells (hArr h vn vh vl (.slice none 0 0)) 43 (0, 0)) (.cells (sArr s un uh ul) 29 (0, 0)))
  have s0 := (cell_of_row _ _ 0 _ _ _ (heap_alloc2_new w (.cells (hArr h vn vh vl (.slice none 0 0)) 43 (0, 0)) (.cells (sArr s un uh ul) 29 (0, 0)))).trans rfl
  have s1 := (cell_of_row _ _ 1 _ _ _ (heap_alloc2_new w (.cells (hArr h vn vh vl (.slice none 0 0)) 43 (0, 0)) (.cells (sArr s un uh ul) 29 (0, 0)))).trans rfl
  have HB := Lib.hid hb0
  have e1 : s.index - h.shot.index = (k : Int) := by omega
  have hl0 : h.log.length = 0 := by rw [hl]; rfl
  have HL := Lib.hid hl
  have HK := Lib.hid hk
  clear hh hs hwf hsw hb0 hl hl0
  by_cases c : k = 0
  · subst c
    by_cases ct : h.shot.term = s.term
    · have HE : Hid (behindL h s = []) := Lib.hid (by rw [behindL_yes HK.out (Nat.zero_le _) (by rw [List.take_zero, befE_nil]; exact ct), HL.out]; rfl)
      have e2 : (h.shot.term != s.term) = false := by rw [bne, beq_iff_eq.2 ct]; rfl
      clear ct
      go_enter Try.func60, Try.ntmps60
      go_wp2
      go_ret
      exact ⟨_, rfl, .inl ⟨rfl, HE.out⟩, HB.out⟩
    · have HE : Hid (behindL h s = []) := Lib.hid (behindL_no HK.out (Nat.zero_le _) (by rw [List.take_zero, befE_nil]; exact ct))
      have e2 : (h.shot.term != s.term) = true := by rw [bne, beq_eq_false_iff_ne.2 ct]; rfl
      clear ct
      go_enter Try.func60, Try.ntmps60
      go_wp2
      go_ret
      exact ⟨_, rfl, .inl ⟨rfl, HE.out⟩, HB.out⟩
  · have HE : Hid (behindL h s = []) := Lib.hid (behindL_far HK.out (by rw [HL.out]; simp; omega))
    have c1 : (0 : Int) < (k : Int) := by omega
    go_enter Try.func60, Try.ntmps60
    go_wp2
    go_ret
    exact ⟨_, rfl, .inl ⟨rfl, HE.out⟩, HB.out⟩
set_option maxHeartbeats 4000000 in
theorem behind_some (h : Har) (vn vh vl : Value) (b off cap : Nat) (s : Sho) (sv : Value) (w : World) (hh : IsHard w (.agg (hArr h vn vh vl (.slice (some ⟨b, off, none⟩) h.log.length cap))) h) (hs : IsShot w sv s) (k : Nat) (hk : s.index = h.shot.index + k) (hi : h.shot.index + h.log.length ≤ 4611686018427387904)  : Calls Try.prog 60 #[.agg (hArr h vn vh vl (.slice (some ⟨b, off, none⟩) h.log.length cap)), sv] w (SaysB h s (.slice (some ⟨b, off, none⟩) h.log.length cap) w) := by
  have hwf := IsHard.harW hh
  obtain ⟨un, uh, ul, rfl, -, -, -, hsw⟩ := id hs
  have hsb := bounds_u64 hsw.1
  have hx0 := Ld.u64_nonneg hwf.1.2.2.2.1
  have hb0 : Below w.heap.size w ((w.alloc (.cells (hArr h vn vh vl (.slice (some ⟨b, off, none⟩) h.log.length cap)) 43)).alloc (.cells (sArr s un uh ul) 29)) := ((Below.refl _ _).alloc (Nat.le_refl _) _).alloc (by simp) _
  obtain ⟨d0, d1, d2, d3, d4, d5, d6, d7, d8, d9, d10⟩ := cells11 (heap_alloc2_old w (.cells (hArr h vn vh vl (.slice (some ⟨b, off, none⟩) h.log.length cap)) 43 (0, 0)) (.cells (sArr s un uh ul) 29 (0, 0)))
  have s0 := (cell_of_row _ _ 0 _ _ _ (heap_alloc2_new w (.cells (hArr h vn vh vl (.slice (some ⟨b, off, none⟩) h.log.length cap)) 43 (0, 0)) (.cells (sArr s un uh ul) 29 (0, 0)))).trans rfl
  have s1 := (cell_of_row _ _ 1 _ _ _ (heap_alloc2_new w (.cells (hArr h vn vh vl (.slice (some ⟨b, off, none⟩) h.log.length cap)) 43 (0, 0)) (.cells (sArr s un uh ul) 29 (0, 0)))).trans rfl
  have HB := Lib.hid hb0
  have e1 : s.index - h.shot.index = (k : Int) := by omega
  have HK := Lib.hid hk
  obtain ⟨vn', vh', vl', vg', e, -, -, -, hg, -⟩ := id hh
  obtain ⟨rows, a', cap', hv, hrl, hlc, hcm, hrc, -, hget⟩ := log_rows hg
  have hvg : vg' = .slice (some ⟨b, off, none⟩) h.log.length cap := by
    have := congrArg (fun v => match v with | .agg A => A[10]? | _ => none) e
    simpa using this.symm
  rw [hvg] at hv
  simp only [Value.slice.injEq] at hv
  obtain ⟨rfl, -, rfl⟩ := hv
  clear hh hs hwf hsw hg e hvg
  by_cases c : h.log.length < k
  · have HE : Hid (behindL h s = []) := Lib.hid (behindL_far HK.out c)
    have c1 : (h.log.length : Int) < (k : Int) := by omega
    clear hb0 hrc hget
    go_enter Try.func60, Try.ntmps60
    go_wp2
    go_ret
    exact ⟨_, rfl, .inl ⟨rfl, HE.out⟩, HB.out⟩
  · have c1 : (k : Int) ≤ (h.log.length : Int) := by omega
    by_cases c0 : k = 0
    · subst c0
      clear hrc hget hb0
      by_cases ct : h.shot.term = s.term
      · have HE : Hid (behindL h s = h.log.drop 0) := Lib.hid (behindL_yes HK.out (Nat.zero_le _) (by rw [List.take_zero, befE_nil]; exact ct))
        have e2 : (h.shot.term != s.term) = false := by rw [bne, beq_iff_eq.2 ct]; rfl
        clear ct
        go_enter Try.func60, Try.ntmps60
        go_wp2
        go_ret
        refine ⟨_, rfl, .inr (.inl ⟨b, off, cap, 0, rfl, ?_, by rw [HE.out]; simp, by rw [HE.out, List.drop_zero]; exact List.take_of_length_le (Nat.le_refl _)⟩), HB.out⟩
        rw [HE.out]
        simp
      · have HE : Hid (behindL h s = []) := Lib.hid (behindL_no HK.out (Nat.zero_le _) (by rw [List.take_zero, befE_nil]; exact ct))
        have e2 : (h.shot.term != s.term) = true := by rw [bne, beq_eq_false_iff_ne.2 ct]; rfl
        clear ct
        go_enter Try.func60, Try.ntmps60
        go_wp2
        go_ret
        exact ⟨_, rfl, .inl ⟨rfl, HE.out⟩, HB.out⟩
    · obtain ⟨j, rfl⟩ : ∃ j, k = j + 1 := ⟨k - 1, by omega⟩
      have hj : j < rows.length := by omega
      obtain ⟨b2, off2, ha, hlt, hc⟩ := Ld.rows_open hj hrc
      simp only [Option.some.injEq, Addr.mk.injEq, and_true] at ha
      obtain ⟨rfl, rfl⟩ := ha
      have hce := (hb0.cell (p := ⟨b, off + (j * 9 + 0), none⟩) hlt).trans (hc _ _ (Ld.rgetD hj) 0 _ rfl)
      have hlj : j < h.log.length := by omega
      have hgt := hget j hj
      rw [List.getElem?_eq_getElem hlj] at hgt
      have HBE : Hid (befE h.shot.term (h.log.take (j + 1)) = rows[j].1.term) := Lib.hid (by rw [befE_at hlj, Option.some.inj hgt])
      generalize rows[j] = r at *
      obtain ⟨x, vr⟩ := r
      simp only [Nat.add_zero] at hce
      have e3 : ((j + 1 : Nat) : Int) - 1 = (j : Int) := by omega
      have e4 : ((j + 1 : Nat) : Int) = (j : Int) + 1 := by omega
      have hj2 : (j : Int) < (h.log.length : Int) := by omega
      have hle : h.shot.index ≤ s.index := by omega
      have e5 : s.index - h.shot.index = (j : Int) + 1 := by omega
      clear hrc hget hgt hc hb0 hk e1 c c1 c0 e4
      by_cases ct : x.term = s.term
      · have HE : Hid (behindL h s = h.log.drop (j + 1)) := Lib.hid (behindL_yes HK.out (by omega) (by rw [HBE.out]; exact ct))
        have e2 : (x.term != s.term) = false := by rw [bne, beq_iff_eq.2 ct]; rfl
        clear ct
        by_cases hcap : cap = j + 1
        · subst hcap
          have hlen : h.log.length = j + 1 := by omega
          have HE2 : Hid (behindL h s = []) := Lib.hid (by rw [HE.out]; exact List.drop_eq_nil_of_le (by omega))
          have HL := Lib.hid hlen
          clear hlen HE
          go_enter Try.func60, Try.ntmps60
          go_wp2
          go_ret
          all_goals exact ⟨.slice (some ⟨b, off, none⟩) 0 0, rfl, .inr (.inr ⟨⟨b, off, none⟩, 0, rfl, Nat.zero_le _, HE2.out⟩), HB.out⟩
        · have hcap2 : (j : Int) + 1 < (cap : Int) := by omega
          go_enter Try.func60, Try.ntmps60
          go_wp2
          go_ret
          all_goals exact ⟨.slice (some ⟨b, off + (j + 1) * 9, none⟩) (h.log.length - (j + 1)) (cap - (j + 1)), rfl, .inr (.inl ⟨b, off, cap, j + 1, rfl, by rw [HE.out, List.length_drop], by rw [HE.out, List.length_drop]; omega, by rw [HE.out]; exact List.take_of_length_le (Nat.le_refl _)⟩), HB.out⟩
      · have HE : Hid (behindL h s = []) := Lib.hid (behindL_no HK.out (by omega) (by rw [HBE.out]; exact ct))
        have e2 : (x.term != s.term) = true := by rw [bne, beq_eq_false_iff_ne.2 ct]; rfl
        clear ct
        go_enter Try.func60, Try.ntmps60
        go_wp2
        go_ret
        exact ⟨_, rfl, .inl ⟨rfl, HE.out⟩, HB.out⟩
end Hd
end Go.Proofs.Ytlkgmjhejocobaa
