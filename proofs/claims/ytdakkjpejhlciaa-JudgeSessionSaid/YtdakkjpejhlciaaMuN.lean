/- How a session is served. No condition. -/
import Derived.Test.YtdakkjpejhlciaaMuL
import Derived.Test.YtdakkjpejhlciaaMuM
namespace Go.Proofs.Ytdakkjpejhlciaa
open Go.ChangeShapes Go.WideShapes Go.ChangeAt Go.RowKit Go.Deep
set_option linter.unusedVariables false
set_option maxRecDepth 100000
set_option linter.unusedSimpArgs false
namespace Mu
open St Mc
section
variable {H : Type} {enc : TypeId × Value → H} {P : Program} {W : World}
theorem bool_cell {t : TypeId} {n : Nat} {v : Value} {y : DataW H × List MemPlace} (ht : P.underlying t = some .bool) (h : DataW.trod enc P W 0 (fun _ => true) true n t [v] = some y) :
    ∃ z, v = .bool z ∧ True := by
  obtain ⟨z, h1, _⟩ := DataW.trod_bool ht h
  simp only [List.cons.injEq, and_true] at h1
  exact ⟨z, h1, trivial⟩
end
structure Way where
  turned : Bool
  lost : Bool
  text : ByteArray
abbrev wayC (x : Way) : List Value := [.bool x.turned, .bool x.lost, .string x.text]
theorem wayC_len (x : Way) : (wayC x).length = 3 := rfl
theorem wayC_one (x : Way) : ∀ u ∈ wayC x, u.oneCell' = true := by intro u hu; simp at hu; rcases hu with rfl | rfl | rfl <;> rfl
def Way.wf (x : Way) : Prop := True ∧ True ∧ x.text.size ≤ maxLen
def IsWays (w : World) (v : Value) (xs : List Way) : Prop := SlR 3 wayC w v xs ∧ ∀ x ∈ xs, x.wf
def IsWays.size (xs : List Way) : Nat := xs.length
def IsWays.fits (xs : List Way) : Prop := xs.length * 24 ≤ 140737488351232
theorem IsWays.below {w w' : World} {v : Value} {xs : List Way} {B : Nat} (h : IsWays w v xs) (hb : Below B w w') (hB : w.heap.size ≤ B) : IsWays w' v xs := ⟨h.1.below hb hB, h.2⟩
section
variable {H : Type} {enc : TypeId × Value → H} {W : World}
theorem trod_wayC {n : Nat} {cs : List Value} {y : DataW H × List MemPlace} (h : DataW.trod enc Try.prog W 0 (fun _ => true) true n 61 cs = some y) : ∃ x, cs = wayC x ∧ x.wf := by
  obtain ⟨xs, m, _, rfl, hlen, hxl, hf⟩ := DataW.trod_struct Try.underlying61 h
  have hl : cs.length = 3 := hlen.trans (by kernel_rfl)
  match cs, hl, xs, hxl with
  | [c0, c1, c2], _, [y0, y1, y2], _ =>
    have k_bool : Try.prog.cellsOf 4 = 1 := by kernel_rfl
    have k_string : Try.prog.cellsOf 9 = 1 := by kernel_rfl
    obtain ⟨z0, rfl, w0⟩ := bool_cell (P := Try.prog) Try.underlying4 (by simpa [k_bool, k_string] using hf 0 _ rfl)
    obtain ⟨z1, rfl, w1⟩ := bool_cell (P := Try.prog) Try.underlying4 (by simpa [k_bool, k_string] using hf 1 _ rfl)
    obtain ⟨z2, rfl, w2⟩ := str_cell (P := Try.prog) Try.underlying9 (by simpa [k_bool, k_string] using hf 2 _ rfl)
    exact ⟨⟨z0, z1, z2⟩, rfl, w0, w1, w2⟩
theorem open_wayC {base : Nat} {v : Value} {d : DataW H} {ps : List MemPlace}
    (hok : Value.okWide Try.prog W .any base 48 v) (h : DataW.Trod enc Try.prog W 0 (fun _ => true) true 48 v d ps) : ∃ l, IsWays W v l ∧ IsWays.size l ≤ Rows.uptoBulk d ∧ (Wt Try.prog 48 d → IsWays.fits l) := by
  obtain ⟨fuel, hf⟩ := h
  rw [slice_cells Try.underlying48 hok] at hf
  obtain ⟨xs, h1, h2, h3, h4⟩ := rows_cell (P := Try.prog) (C := wayC) (Q := Way.wf) Try.underlying48 (sz := 3) (by kernel_rfl) (by omega) (fun m cs y h => trod_wayC h) hf
  refine ⟨xs, ⟨h1, h2⟩, h3, fun hw => ?_⟩
  have := h4 hw
  rw [show Try.prog.bytesOf 61 = 24 from by kernel_rfl] at this
  simpa [reachBytes, IsWays.fits] using this
end
theorem wayC_cells {w : World} {b o : Nat} {x : Way} (h : ∀ j u, (wayC x)[j]? = some u → w.cell? ⟨b, o + j, none⟩ = some u) : w.cell? ⟨b, o, none⟩ = some (.bool x.turned) ∧ w.cell? ⟨b, o + 1, none⟩ = some (.bool x.lost) ∧ w.cell? ⟨b, o + 2, none⟩ = some (.string x.text) := ⟨h 0 _ rfl, h 1 _ rfl, h 2 _ rfl⟩

section
variable {w w' a : World} {S : Nat → Prop} {O O' : Nat → Prop} {p gn B : Nat} {vr vq vo r : Value} {s s' : Ses} {F : List Frm}
/-- a session, and blocks that are not its own -/
def MuO (p : Nat) (s : Ses) (O : Nat → Prop) (B : Nat) (a w : World) : Prop := ∃ S1, SesX p s w S1 ∧ (∀ k, S1 k → B ≤ k) ∧ (∀ k, O k → k < w.heap.size ∧ ¬ S1 k ∧ B ≤ k) ∧ Below B a w ∧ B ≤ w.heap.size
theorem MuO.bel (h : MuO p s O B a w) : Below B a w ∧ B ≤ w.heap.size := by obtain ⟨S1, -, -, -, h5, h6⟩ := h; exact ⟨h5, h6⟩
theorem MuO.below (h : MuO p s O B a w) (hb : Below w.heap.size w w') : MuO p s O B a w' := by
  obtain ⟨S1, h1, h2, h3, h4, h5⟩ := h
  exact ⟨S1, (goodS p s).below h1 hb, h2, fun k hk => ⟨Nat.lt_of_lt_of_le (h3 k hk).1 hb.size, (h3 k hk).2⟩, h4.trans (hb.mono h5), Nat.le_trans h5 hb.size⟩
theorem MuO.mono (h : MuO p s O B a w) (hO : ∀ k, O' k → O k) : MuO p s O' B a w := by
  obtain ⟨S1, h1, h2, h3, h4, h5⟩ := h
  exact ⟨S1, h1, h2, fun k hk => h3 k (hO k hk), h4, h5⟩
/-- a block made since is not its own -/
theorem MuO.more (h : MuO p s O B a w) (hb : Below w.heap.size w w') : MuO p s (fun k => O k ∨ (w.heap.size ≤ k ∧ k < w'.heap.size)) B a w' := by
  obtain ⟨S1, h1, h2, h3, h4, h5⟩ := h
  refine ⟨S1, (goodS p s).below h1 hb, h2, fun k hk => ?_, h4.trans (hb.mono h5), Nat.le_trans h5 hb.size⟩
  rcases hk with hk | hk
  · exact ⟨Nat.lt_of_lt_of_le (h3 k hk).1 hb.size, (h3 k hk).2⟩
  · exact ⟨hk.2, fun q => by have := (goodS p s).low h1 k q; have := hk.1; omega, by have := hk.1; omega⟩
theorem MuO.write {g i : Nat} {v : Value} (h : MuO p s O B a w) (hg : O g) : MuO p s O B a (w.setCell ⟨g, i, none⟩ v) := by
  obtain ⟨S1, h1, h2, h3, h4, h5⟩ := h
  obtain ⟨g1, g2, g3⟩ := h3 g hg
  exact ⟨S1, (goodS p s).keep h1 (fun k hk => heap_setCell_other w ⟨g, i, none⟩ k v (fun (e : k = g) => g2 (e ▸ hk))) (by simp), h2, fun k hk => ⟨by simpa using (h3 k hk).1, (h3 k hk).2⟩, below_cell h4 g3 v, by simpa using h5⟩
theorem MuO.writes {g : Nat} {cs : Array Value} (h : MuO p s O B a w) (hg : O g) : MuO p s O B a (w.setRow g cs) := by
  obtain ⟨S1, h1, h2, h3, h4, h5⟩ := h
  obtain ⟨g1, g2, g3⟩ := h3 g hg
  exact ⟨S1, (goodS p s).keep h1 (fun k hk => setRow_other w g k cs (fun (e : k = g) => g2 (e ▸ hk))) (by simp), h2, fun k hk => ⟨by simpa using (h3 k hk).1, (h3 k hk).2⟩, ⟨h4.os, h4.tape, h4.output, by simpa using h4.size, fun k hk => (setRow_other w g k cs (by omega)).trans (h4.block k hk)⟩, by simpa using h5⟩
theorem MuO.prog {f : Nat} {args : Array Value} (h : MuO p s O B a w) (hc : ∀ S vr vq vo, SesV w S p vr vq vo s → (∀ k, O k → ¬ S k) → Calls Try.prog f args w (MuR r p s' S w)) :
    Calls Try.prog f args w (fun e w' => e = .returned r ∧ MuO p s' O B a w' ∧ ∀ k, O k → w'.heap[k]? = w.heap[k]?) := by
  obtain ⟨S1, ⟨vr, vq, vo, h1⟩, h4, h6, h7, h8⟩ := h
  refine (hc S1 vr vq vo h1 (fun k hk => (h6 k hk).2.1)).mono ?_
  rintro e w' ⟨rfl, ⟨S', q1, q5⟩, q6⟩
  have z := q6.2.2.2.1
  refine ⟨rfl, ⟨S', q1, fun k hk => ?_, fun k hk => ⟨Nat.lt_of_lt_of_le (h6 k hk).1 z, fun q => ?_, (h6 k hk).2.2⟩, q6.below h7 h8 h4, Nat.le_trans h8 z⟩, fun k hk => q6.2.2.2.2 k (h6 k hk).1 (h6 k hk).2.1⟩
  · rcases q5 k hk with c | c
    · exact h4 k c
    · omega
  · rcases q5 k q with c | c
    · exact (h6 k hk).2.1 c
    · have := (h6 k hk).1; omega
theorem MuO.replies (h : MuO p s O B a w) : Calls Try.prog 23 #[.pointer (some ⟨p, 0, none⟩)] w (fun e w' => ∃ v, e = .returned v ∧ OwnR 3 repC TR w' 0 v s.out ∧ MuO p (repsS s) O B a w' ∧ ∀ k, O k → w'.heap[k]? = w.heap[k]?) := by
  obtain ⟨S1, ⟨vr, vq, vo, h1⟩, h4, h6, h7, h8⟩ := h
  refine (replies_any w h1).mono ?_
  rintro e w' ⟨rfl, rfl⟩
  obtain ⟨g1, g2⟩ := h1.given
  have ho := only_cell (w := w) h1.sp 5 (.slice none 0 0)
  exact ⟨vo, rfl, g2, ⟨_, g1.x, fun k hk => h4 k hk.1, fun k hk => ⟨by have := (h6 k hk).1; simpa using this, fun q => (h6 k hk).2.1 q.1, (h6 k hk).2.2⟩, ho.below h7 h8 h4, by simpa using h8⟩, fun k hk => ho.2.2.2.2 k (h6 k hk).1 (h6 k hk).2.1⟩
theorem MuO.open_ (h : MuO p s O B a w) : Calls Try.prog 27 #[.pointer (some ⟨p, 0, none⟩)] w (fun e w' => e = .returned (.bool (decide (s.st ≠ 0))) ∧ w = w') := by
  obtain ⟨S1, ⟨vr, vq, vo, h1⟩, -⟩ := h
  exact open_any w h1
theorem turn4 (w : World) (h : SesV w S p vr vq vo s) (h2 : s.st = 2) (hl : s.out.length ≤ 1000000) : Calls Try.prog 15 #[.pointer (some ⟨p, 0, none⟩), .agg #[.int .i64 4, .int .i64 0, .string ⟨#[]⟩]] w (MuR (.int .i64 0) p ({ s with st := 1, tx := emp }.tell (rep 4)) S w) := by
  have ht : turns (rep 4) := .inl ⟨rfl, rfl, rfl⟩
  have h := turn_any (rep 4) w h hl
  unfold turnE turnS at h
  rw [if_pos ht, if_pos ht, if_pos h2, if_pos h2] at h
  exact h
theorem got2 (w : World) (h : SesV w S p vr vq vo s) (h2 : s.st = 2) (hl : s.out.length ≤ 1000000) : Calls Try.prog 13 #[.pointer (some ⟨p, 0, none⟩)] w (MuR (.int .i64 0) p (gotS s) S w) := by
  have h := got_any w h hl
  unfold gotE at h
  rw [if_pos h2] at h
  exact h
theorem lost5 (w : World) (h : SesV w S p vr vq vo s) (h5 : s.st = 5) (hl : s.out.length ≤ 1000000) : Calls Try.prog 19 #[.pointer (some ⟨p, 0, none⟩)] w (MuR (.int .i64 0) p (lostS s) S w) := by
  have h := lost_any w h hl
  unfold lostE at h
  rw [if_pos (by omega)] at h
  exact h
theorem ans5 (t : ByteArray) (w : World) (h : SesV w S p vr vq vo s) (h5 : s.st = 5) (hl : s.out.length ≤ 1000000) : Calls Try.prog 17 #[.pointer (some ⟨p, 0, none⟩), .string t] w (MuR (.int .i64 0) p (ansS s t) S w) := by
  have h := ans_any t w h hl
  unfold ansE at h
  rw [if_pos h5] at h
  exact h
/-- what serving answers -/
def Served (p gn : Nat) (F : List Frm) (O : Nat → Prop) (w0 : World) (B : Nat) (a : World) (e : Ending) (w' : World) : Prop := ∃ v s', e = .returned (.tuple #[v, .bool true]) ∧ OwnR 3 repC TR w' 0 v s'.out ∧ MuO p (repsS s') O B a w' ∧ (∀ k, O k → k ≠ gn → w'.heap[k]? = w0.heap[k]?) ∧ Inv F s' ∧ s'.q = [] ∧ (s'.st = 0 ∨ takesS s')
/-- at a round's head -/
def SvR (p gn : Nat) (F : List Frm) (O : Nat → Prop) (w0 : World) (B : Nat) (a : World) (i : Nat) (s' : Ses) (wr : World) : Prop := MuO p s' O B a wr ∧ (∀ k, O k → k ≠ gn → wr.heap[k]? = w0.heap[k]?) ∧ Inv F s' ∧ headS s' ∧ ∃ m : Nat, m ≤ 2 * i ∧ wr.heap[gn]? = some (.cells #[.int .i64 (m : Int)] 3 (0, 0))
theorem way_cells {w : World} {b o k : Nat} {x : Way} (h : ∀ j u, (wayC x)[j]? = some u → w.cell? ⟨b, o + (k * 3 + j), none⟩ = some u) : w.cell? ⟨b, o + k * 3, none⟩ = some (.bool x.turned) ∧ w.cell? ⟨b, o + k * 3 + 1, none⟩ = some (.bool x.lost) ∧ w.cell? ⟨b, o + k * 3 + 2, none⟩ = some (.string x.text) := by
  have h0 := h 0 _ rfl; have h1 := h 1 _ rfl; have h2 := h 2 _ rfl
  simp only [← Nat.add_assoc, Nat.add_zero] at h0 h1 h2
  exact ⟨h0, h1, h2⟩
set_option maxHeartbeats 8000000 in
theorem serve_any (vw : Value) (ws : List Way) (w : World) (hF : okF F) (hF4 : F.length ≤ 303) (hO : O gn) (h : SvR p gn F O w B a 0 s w) (hi : todo s ≤ 1000) (hw : ∀ w', Below B a w' → SlR 3 wayC w' vw ws) : Calls Try.prog 30 #[.pointer (some ⟨p, 0, none⟩), vw, .pointer (some ⟨gn, 0, none⟩)] w (Served p gn F O w B a) := by
  have HW := Lib.hid hw
  have HF := Lib.hid hF
  have HF4 := Lib.hid hF4
  have H0 := Lib.hid h
  have HON := Lib.hid hO
  have HI := Lib.hid hi
  have hvw : ∃ av cv, vw = .slice av ws.length cv ∧ ws.length ≤ 9223372036854775807 := by
    obtain ⟨av, cv, e, h1, h2, -⟩ := hw w h.1.bel.1
    exact ⟨av, cv, e, by unfold maxLen at h2; omega⟩
  obtain ⟨av, cv, rfl, hwl⟩ := hvw
  clear h hi hw hF hF4 hO
  go_enter Try.func30, Try.ntmps30
  go_wp2
  go_loopw [8, 12] (fun hb i wr => ∃ (k : Nat) (b : Bool) (s' : Ses), k + todo s' ≤ 1000 ∧ hb = .bool b ∧ i = .int .i64 (k : Int) ∧ Hid (SvR p gn F O w B a k s' wr)) (fun _ i _ => 2000 - (intOf i).toNat)
  case atStart => exact ⟨0, false, s, by have := HI.out; omega, rfl, rfl, H0⟩
  case round =>
    obtain ⟨k, hb0, s1, hk, rfl, rfl, HR⟩ := hrel
    clear H0 HI
    have hk2 : (k : Int) < 2000 := by omega
    obtain ⟨hm1, hk0, hinv, hhd, m, hm, hgn⟩ := HR.out
    have HK0 := Lib.hid hk0
    have HN := Lib.hid (inv_next HF.out hinv hhd)
    have HOL : Hid (s1.out.length + s1.q.length ≤ 606) := Lib.hid (by have h1 := hinv.len; have h2 := hinv.q; have h3 := congrArg List.length h2; rw [List.length_drop] at h3; have := HF4.out; omega)
    have HP := Lib.hid (hm1.prog (fun S vr vq vo hv ho => next_any _ hv (by have := HOL.out; omega)))
    have HGN := Lib.hid hgn
    have HML : Hid (m ≤ 2 * k) := Lib.hid hm
    have HBL := Lib.hid hm1.bel
    have HKT : Hid (k + todo s1 ≤ 1000) := Lib.hid hk
    obtain ⟨⟨⟨A, T⟩, s2⟩, hs2⟩ : ∃ q, nextV s1 = q := ⟨_, rfl⟩
    rw [hs2] at HN HP
    simp only [] at HP
    clear hs2 hk0 hm1 hinv hhd hm hgn HR hk
    go_wp2_with fail
    refine HP.out.mono ?_
    rintro e w5 ⟨rfl, h5, k5⟩
    have HG5 : Hid (w5.heap[gn]? = some (.cells #[.int .i64 (m : Int)] 3 (0, 0))) := Lib.hid ((k5 gn HON.out).trans HGN.out)
    go_upto_region 6 with fail
    obtain ⟨W6, hW6⟩ : ∃ q, w5.alloc (.cells #[.bool false, .bool false, .string ⟨#[]⟩] 61) = q := ⟨_, rfl⟩
    have hb6 : Below w5.heap.size w5 W6 := by rw [← hW6]; exact (Below.refl _ _).alloc (Nat.le_refl _) _
    obtain ⟨gx, hgx⟩ : ∃ q, w5.heap.size = q := ⟨_, rfl⟩
    have hr6 : W6.heap[gx]? = some (.cells #[.bool false, .bool false, .string ⟨#[]⟩] 61 (0, 0)) := by rw [← hW6, ← hgx]; exact heap_alloc_new _ _
    have hg6 : W6.heap[gn]? = some (.cells #[.int .i64 (m : Int)] 3 (0, 0)) := (hb6.block _ (row_lt HG5.out)).trans HG5.out
    have HM6 : Hid (MuO p s2 (fun k => O k ∨ k = gx) B a W6) := Lib.hid ((h5.more hb6).mono (fun k hk => hk.imp id (fun e => by have := row_lt hr6; subst e; exact ⟨Nat.le_of_eq hgx, this⟩)))
    have HK6 : Hid (∀ k, O k → k ≠ gn → k ≠ gx ∧ W6.heap[k]? = w.heap[k]?) := Lib.hid (fun k hk hn => by
      obtain ⟨S1, -, -, q3, -⟩ := h5
      have := (q3 k hk).1
      exact ⟨by omega, (hb6.block k this).trans ((k5 k hk).trans (HK0.out k hk hn))⟩)
    have HGX : Hid (gx ≠ gn) := Lib.hid (by have := row_lt HG5.out; omega)
    have HR6 := Lib.hid hr6
    have HG6 := Lib.hid hg6
    rw [hW6, hgx]
    clear h5 k5 hb6 hgx hW6
    rcases Nat.eq_zero_or_pos ws.length with h0 | h0
    · have hwz : ¬ (0 : Int) < (ws.length : Int) := by omega
      clear h0
      obtain ⟨W7, hW7⟩ : ∃ q, W6 = q := ⟨_, rfl⟩
      have hr7 : W7.heap[gx]? = some (.cells #[.bool false, .bool false, .string ⟨#[]⟩] 61 (0, 0)) := by rw [← hW7]; exact hr6
      have hg7 : W7.heap[gn]? = some (.cells #[.int .i64 (m : Int)] 3 (0, 0)) := by rw [← hW7]; exact hg6
      have HM7 : Hid (MuO p s2 (fun k => O k ∨ k = gx) B a W7) := Lib.hid (by rw [← hW7]; exact HM6.out)
      have HK7 : Hid (∀ k, O k → k ≠ gn → W7.heap[k]? = w.heap[k]?) := Lib.hid (fun k hk hn => by rw [← hW7]; exact (HK6.out k hk hn).2)
      clear hr6 hg6
      go_upto_region 8 with fail
      try rw [hW7]
      obtain ⟨tu, htu⟩ : ∃ b : Bool, false = b := ⟨_, rfl⟩
      obtain ⟨lo, hlo⟩ : ∃ b : Bool, false = b := ⟨_, rfl⟩
      obtain ⟨tx, htx⟩ : ∃ b : ByteArray, (⟨#[]⟩ : ByteArray) = b := ⟨_, rfl⟩
      replace hr7 : W7.heap[gx]? = some (.cells #[.bool tu, .bool lo, .string tx] 61 (0, 0)) := by rw [hr7, ← htu, ← hlo, ← htx]
      clear htu hlo htx hW7
      have HR7 := Lib.hid hr7
      have HG7 := Lib.hid hg7
      have x0 : W7.cell? ⟨gx, 0, none⟩ = some (.bool tu) := (cell_of_row _ _ _ _ _ _ hr7).trans rfl
      have x1 : W7.cell? ⟨gx, 1, none⟩ = some (.bool lo) := (cell_of_row _ _ _ _ _ _ hr7).trans rfl
      have x2 : W7.cell? ⟨gx, 2, none⟩ = some (.string tx) := (cell_of_row _ _ _ _ _ _ hr7).trans rfl
      have g7 : W7.cell? ⟨gn, 0, none⟩ = some (.int .i64 (m : Int)) := (cell_of_row _ _ _ _ _ _ hg7).trans rfl
      have gz : W7.frozen? ⟨gn, 0, none⟩ = false := frozen_of_row _ _ _ _ _ hg7
      clear hr7 hg7
      rcases HN.out with ⟨hi2, hn2⟩
      have HI2 := Lib.hid hi2
      have HOL2 : Hid (s2.out.length ≤ 303) := Lib.hid (by have h1 : s2.out.length + pendN s2 ≤ F.length := hi2.len; have := HF4.out; omega)
      clear hi2
      rcases hn2 with ⟨hA, hq0, hst⟩ | ⟨hA, hst, hd⟩ | ⟨hA, hst, hd⟩ | ⟨hA, hst, hd⟩
      · have HQ0 := Lib.hid hq0
        have HST := Lib.hid hst
        simp only [] at hA
        subst hA
        clear hq0 hst
        go_wp2_with (first | ((with_reducible refine HM7.out.replies.mono ?_); rintro e w9 ⟨v9, rfl, o9, h9, k9⟩; have HO9 := Lib.hid o9; have H9 := Lib.hid h9; have K9 := Lib.hid k9; clear o9 h9 k9))
        go_ret2
        exact ⟨_, s2, rfl, HO9.out, H9.out.mono (fun k hk => .inl hk), fun k hk hn => (K9.out k (.inl hk)).trans (HK7.out k hk hn), HI2.out, HQ0.out, HST.out⟩
      · have HST : Hid (s2.st = 2) := Lib.hid hst
        have HD : Hid (3 * s2.q.length + 3 ≤ todo s1) := Lib.hid hd
        simp only [] at hA
        subst hA
        clear hst hd
        obtain ⟨W8, hW8⟩ : ∃ q, W7.setCell ⟨gn, 0, none⟩ (.int .i64 ((m : Int) + 1)) = q := ⟨_, rfl⟩
        have HM8 : Hid (MuO p s2 (fun k => O k ∨ k = gx) B a W8) := Lib.hid (by rw [← hW8]; exact HM7.out.write (.inl HON.out))
        have HK8 : Hid (∀ k, O k → k ≠ gn → W8.heap[k]? = w.heap[k]?) := Lib.hid (fun k hk hn => by rw [← hW8]; exact (heap_setCell_other W7 ⟨gn, 0, none⟩ k _ hn).trans (HK7.out k hk hn))
        have HG8 : Hid (W8.heap[gn]? = some (.cells #[.int .i64 ((m + 1 : Nat) : Int)] 3 (0, 0))) := Lib.hid (by rw [← hW8]; exact (heap_setCell_same W7 gn 0 _ _ _ HG7.out).trans (by simp))
        have hr8 : W8.heap[gx]? = some (.cells #[.bool tu, .bool lo, .string tx] 61 (0, 0)) := by rw [← hW8]; exact (heap_setCell_other W7 ⟨gn, 0, none⟩ gx _ HGX.out).trans HR7.out
        have z0 : W8.cell? ⟨gx, 0, none⟩ = some (.bool tu) := (cell_of_row _ _ _ _ _ _ hr8).trans rfl
        have hwm : IntKind.i64.wrap ((m : Int) + 1) = (m : Int) + 1 := by rw [IntKind.wrap_i64]; have := HML.out; omega
        clear hr8
        cases tu
        · go_wp2_with (first | rw [hW8] | ((with_reducible refine (HM8.out.prog (fun S vr vq vo hv ho => got2 _ hv HST.out (by have := HOL2.out; omega))).mono ?_); rintro e w9 ⟨rfl, h9, k9⟩; have H9 := Lib.hid h9; have K9 := Lib.hid k9; clear h9 k9))
          obtain ⟨g1, g2, g3⟩ := inv_got HI2.out HST.out
          have K9g := (K9.out gn (.inl HON.out)).trans HG8.out
          go_roundw
          case rel => exact ⟨k + 1, _, gotS s2, by have := HKT.out; have := HD.out; have := g3; omega, rfl, by go_num, Lib.hid ⟨H9.out.mono (fun k hk => .inl hk), fun k hk hn => (K9.out k (.inl hk)).trans (HK8.out k hk hn), g1, g2, m + 1, by have := HML.out; omega, K9g⟩⟩
          case measure => simp [intOf]; omega
        · go_wp2_with (first | rw [hW8] | ((with_reducible refine (HM8.out.prog (fun S vr vq vo hv ho => turn4 _ hv HST.out (by have := HOL2.out; omega))).mono ?_); rintro e w9 ⟨rfl, h9, k9⟩; have H9 := Lib.hid h9; have K9 := Lib.hid k9; clear h9 k9))
          have g1 := inv_turn HI2.out HST.out
          have K9g := (K9.out gn (.inl HON.out)).trans HG8.out
          go_roundw
          case rel => exact ⟨k + 1, _, ({ s2 with st := 1, tx := emp }.tell (rep 4)), by have := HKT.out; have := HD.out; have : todo ({ s2 with st := 1, tx := emp }.tell (rep 4)) = 3 * s2.q.length := rfl; omega, rfl, by go_num, Lib.hid ⟨H9.out.mono (fun k hk => .inl hk), fun k hk hn => (K9.out k (.inl hk)).trans (HK8.out k hk hn), g1, .inr (.inl (.inl rfl)), m + 1, by have := HML.out; omega, K9g⟩⟩
          case measure => simp [intOf]; omega
      · have HST : Hid (s2.st = 5) := Lib.hid hst
        have HD : Hid (3 * s2.q.length + 2 ≤ todo s1) := Lib.hid hd
        simp only [] at hA
        subst hA
        clear hst hd
        obtain ⟨W8, hW8⟩ : ∃ q, W7.setCell ⟨gn, 0, none⟩ (.int .i64 ((m : Int) + 1)) = q := ⟨_, rfl⟩
        have HM8 : Hid (MuO p s2 (fun k => O k ∨ k = gx) B a W8) := Lib.hid (by rw [← hW8]; exact HM7.out.write (.inl HON.out))
        have HK8 : Hid (∀ k, O k → k ≠ gn → W8.heap[k]? = w.heap[k]?) := Lib.hid (fun k hk hn => by rw [← hW8]; exact (heap_setCell_other W7 ⟨gn, 0, none⟩ k _ hn).trans (HK7.out k hk hn))
        have HG8 : Hid (W8.heap[gn]? = some (.cells #[.int .i64 ((m + 1 : Nat) : Int)] 3 (0, 0))) := Lib.hid (by rw [← hW8]; exact (heap_setCell_same W7 gn 0 _ _ _ HG7.out).trans (by simp))
        have hr8 : W8.heap[gx]? = some (.cells #[.bool tu, .bool lo, .string tx] 61 (0, 0)) := by rw [← hW8]; exact (heap_setCell_other W7 ⟨gn, 0, none⟩ gx _ HGX.out).trans HR7.out
        have z1 : W8.cell? ⟨gx, 1, none⟩ = some (.bool lo) := (cell_of_row _ _ _ _ _ _ hr8).trans rfl
        have z2 : W8.cell? ⟨gx, 2, none⟩ = some (.string tx) := (cell_of_row _ _ _ _ _ _ hr8).trans rfl
        have hwm : IntKind.i64.wrap ((m : Int) + 1) = (m : Int) + 1 := by rw [IntKind.wrap_i64]; have := HML.out; omega
        clear hr8
        cases lo
        · go_wp2_with (first | rw [hW8] | ((with_reducible refine (HM8.out.prog (fun S vr vq vo hv ho => ans5 tx _ hv HST.out (by have := HOL2.out; omega))).mono ?_); rintro e w9 ⟨rfl, h9, k9⟩; have H9 := Lib.hid h9; have K9 := Lib.hid k9; clear h9 k9))
          obtain ⟨g1, g2, g3⟩ := inv_ans HI2.out HST.out tx
          have K9g := (K9.out gn (.inl HON.out)).trans HG8.out
          go_roundw
          case rel => exact ⟨k + 1, _, ansS s2 tx, by have := HKT.out; have := HD.out; have := g3; omega, rfl, by go_num, Lib.hid ⟨H9.out.mono (fun k hk => .inl hk), fun k hk hn => (K9.out k (.inl hk)).trans (HK8.out k hk hn), g1, g2, m + 1, by have := HML.out; omega, K9g⟩⟩
          case measure => simp [intOf]; omega
        · go_wp2_with (first | rw [hW8] | ((with_reducible refine (HM8.out.prog (fun S vr vq vo hv ho => lost5 _ hv HST.out (by have := HOL2.out; omega))).mono ?_); rintro e w9 ⟨rfl, h9, k9⟩; have H9 := Lib.hid h9; have K9 := Lib.hid k9; clear h9 k9))
          obtain ⟨g1, g2, g3⟩ := inv_lost HI2.out HST.out
          have K9g := (K9.out gn (.inl HON.out)).trans HG8.out
          go_roundw
          case rel => exact ⟨k + 1, _, lostS s2, by have := HKT.out; have := HD.out; have := g3; omega, rfl, by go_num, Lib.hid ⟨H9.out.mono (fun k hk => .inl hk), fun k hk hn => (K9.out k (.inl hk)).trans (HK8.out k hk hn), g1, g2, m + 1, by have := HML.out; omega, K9g⟩⟩
          case measure => simp [intOf]; omega
      · have HST : Hid (s2.st = 1 ∨ s2.st = 0) := Lib.hid hst
        have HD : Hid (3 * s2.q.length + 1 ≤ todo s1) := Lib.hid hd
        simp only [] at hA
        subst hA
        clear hst hd
        go_wp2_with fail
        have g3 : todo s2 = 3 * s2.q.length := by unfold todo; have := HST.out; rw [if_neg (by omega), if_neg (by omega)]; rfl
        go_roundw
        case rel => exact ⟨k + 1, _, s2, by have := HKT.out; have := HD.out; omega, rfl, by go_num, Lib.hid ⟨HM7.out.mono (fun k hk => .inl hk), HK7.out, HI2.out, by rcases HST.out with e | e; exact .inr (.inl (.inl e)); exact .inl e, m, by have := HML.out; omega, HG7.out⟩⟩
        case measure => simp [intOf]; omega
    · have hwz : (0 : Int) < (ws.length : Int) := by omega
      have hix : m % ws.length < ws.length := Nat.mod_lt _ h0
      obtain ⟨ix, hixe⟩ : ∃ q, m % ws.length = q := ⟨_, rfl⟩
      rw [hixe] at hix
      have hrm : (m : Int).tmod (ws.length : Int) = (ix : Int) := by rw [← hixe]; exact (Int.ofNat_tmod m ws.length).symm
      have hixi : (ix : Int) < (ws.length : Int) := by omega
      obtain ⟨x, hx⟩ : ∃ x, ws[ix]? = some x := ⟨_, List.getElem?_eq_getElem hix⟩
      obtain ⟨b, off, rfl, y0, y1, y2⟩ : ∃ b off, av = some ⟨b, off, none⟩ ∧ W6.cell? ⟨b, off + ix * 3, none⟩ = some (.bool x.turned) ∧ W6.cell? ⟨b, off + ix * 3 + 1, none⟩ = some (.bool x.lost) ∧ W6.cell? ⟨b, off + ix * 3 + 2, none⟩ = some (.string x.text) := by
        rcases SlR.cases (HW.out W6 HM6.out.bel.1) with ⟨a2, c2, e, hnil⟩ | ⟨b, off, c2, e, -, -, -, -, hc⟩
        · rw [hnil] at h0; cases h0
        · simp only [Value.slice.injEq] at e
          exact ⟨b, off, e.1, way_cells (hc ix x hx)⟩
      have g6 : W6.cell? ⟨gn, 0, none⟩ = some (.int .i64 (m : Int)) := (cell_of_row _ _ _ _ _ _ hg6).trans rfl
      obtain ⟨tu, htu⟩ : ∃ b : Bool, x.turned = b := ⟨_, rfl⟩
      obtain ⟨lo, hlo⟩ : ∃ b : Bool, x.lost = b := ⟨_, rfl⟩
      obtain ⟨tx, htx⟩ : ∃ b : ByteArray, x.text = b := ⟨_, rfl⟩
      rw [htu] at y0
      rw [hlo] at y1
      rw [htx] at y2
      have HONE : Hid (((#[.bool tu, .bool lo, .string tx] : Array Value)).all (·.oneCell') = true) := Lib.hid (by simp [Value.oneCell'])
      obtain ⟨W7, hW7⟩ : ∃ q, W6.setRow gx #[.bool tu, .bool lo, .string tx] = q := ⟨_, rfl⟩
      have hr7 : W7.heap[gx]? = some (.cells #[.bool tu, .bool lo, .string tx] 61 (0, 0)) := by rw [← hW7]; exact setRow_heap _ _ _ _ _ _ hr6
      have hg7 : W7.heap[gn]? = some (.cells #[.int .i64 (m : Int)] 3 (0, 0)) := by rw [← hW7]; exact (setRow_other _ _ _ _ (fun e => HGX.out e.symm)).trans hg6
      have HM7 : Hid (MuO p s2 (fun k => O k ∨ k = gx) B a W7) := Lib.hid (by rw [← hW7]; exact HM6.out.writes (.inr rfl))
      have HK7 : Hid (∀ k, O k → k ≠ gn → W7.heap[k]? = w.heap[k]?) := Lib.hid (fun k hk hn => by rw [← hW7]; exact (setRow_other _ _ _ _ (HK6.out k hk hn).1).trans (HK6.out k hk hn).2)
      have hm0 : 0 ≤ (m : Int) := by omega
      clear htu hlo htx hx hixe hr6 hg6
      go_upto_region 8 with (first | (with_reducible refine wpList_store_row rfl _ (.tmp 11) (.tmp 31) rfl gx #[.bool tu, .bool lo, .string tx] rfl rfl 61 _ HR6.out (by kernel_rfl) rfl HONE.out ?_))
      try rw [hW7]
      clear hW7 y0 y1 y2 hrm
      have HR7 := Lib.hid hr7
      have HG7 := Lib.hid hg7
      have x0 : W7.cell? ⟨gx, 0, none⟩ = some (.bool tu) := (cell_of_row _ _ _ _ _ _ hr7).trans rfl
      have x1 : W7.cell? ⟨gx, 1, none⟩ = some (.bool lo) := (cell_of_row _ _ _ _ _ _ hr7).trans rfl
      have x2 : W7.cell? ⟨gx, 2, none⟩ = some (.string tx) := (cell_of_row _ _ _ _ _ _ hr7).trans rfl
      have g7 : W7.cell? ⟨gn, 0, none⟩ = some (.int .i64 (m : Int)) := (cell_of_row _ _ _ _ _ _ hg7).trans rfl
      have gz : W7.frozen? ⟨gn, 0, none⟩ = false := frozen_of_row _ _ _ _ _ hg7
      clear hr7 hg7
      rcases HN.out with ⟨hi2, hn2⟩
      have HI2 := Lib.hid hi2
      have HOL2 : Hid (s2.out.length ≤ 303) := Lib.hid (by have h1 : s2.out.length + pendN s2 ≤ F.length := hi2.len; have := HF4.out; omega)
      clear hi2
      rcases hn2 with ⟨hA, hq0, hst⟩ | ⟨hA, hst, hd⟩ | ⟨hA, hst, hd⟩ | ⟨hA, hst, hd⟩
      · have HQ0 := Lib.hid hq0
        have HST := Lib.hid hst
        simp only [] at hA
        subst hA
        clear hq0 hst
        go_wp2_with (first | ((with_reducible refine HM7.out.replies.mono ?_); rintro e w9 ⟨v9, rfl, o9, h9, k9⟩; have HO9 := Lib.hid o9; have H9 := Lib.hid h9; have K9 := Lib.hid k9; clear o9 h9 k9))
        go_ret2
        exact ⟨_, s2, rfl, HO9.out, H9.out.mono (fun k hk => .inl hk), fun k hk hn => (K9.out k (.inl hk)).trans (HK7.out k hk hn), HI2.out, HQ0.out, HST.out⟩
      · have HST : Hid (s2.st = 2) := Lib.hid hst
        have HD : Hid (3 * s2.q.length + 3 ≤ todo s1) := Lib.hid hd
        simp only [] at hA
        subst hA
        clear hst hd
        obtain ⟨W8, hW8⟩ : ∃ q, W7.setCell ⟨gn, 0, none⟩ (.int .i64 ((m : Int) + 1)) = q := ⟨_, rfl⟩
        have HM8 : Hid (MuO p s2 (fun k => O k ∨ k = gx) B a W8) := Lib.hid (by rw [← hW8]; exact HM7.out.write (.inl HON.out))
        have HK8 : Hid (∀ k, O k → k ≠ gn → W8.heap[k]? = w.heap[k]?) := Lib.hid (fun k hk hn => by rw [← hW8]; exact (heap_setCell_other W7 ⟨gn, 0, none⟩ k _ hn).trans (HK7.out k hk hn))
        have HG8 : Hid (W8.heap[gn]? = some (.cells #[.int .i64 ((m + 1 : Nat) : Int)] 3 (0, 0))) := Lib.hid (by rw [← hW8]; exact (heap_setCell_same W7 gn 0 _ _ _ HG7.out).trans (by simp))
        have hr8 : W8.heap[gx]? = some (.cells #[.bool tu, .bool lo, .string tx] 61 (0, 0)) := by rw [← hW8]; exact (heap_setCell_other W7 ⟨gn, 0, none⟩ gx _ HGX.out).trans HR7.out
        have z0 : W8.cell? ⟨gx, 0, none⟩ = some (.bool tu) := (cell_of_row _ _ _ _ _ _ hr8).trans rfl
        have hwm : IntKind.i64.wrap ((m : Int) + 1) = (m : Int) + 1 := by rw [IntKind.wrap_i64]; have := HML.out; omega
        clear hr8
        cases tu
        · go_wp2_with (first | rw [hW8] | ((with_reducible refine (HM8.out.prog (fun S vr vq vo hv ho => got2 _ hv HST.out (by have := HOL2.out; omega))).mono ?_); rintro e w9 ⟨rfl, h9, k9⟩; have H9 := Lib.hid h9; have K9 := Lib.hid k9; clear h9 k9))
          obtain ⟨g1, g2, g3⟩ := inv_got HI2.out HST.out
          have K9g := (K9.out gn (.inl HON.out)).trans HG8.out
          go_roundw
          case rel => exact ⟨k + 1, _, gotS s2, by have := HKT.out; have := HD.out; have := g3; omega, rfl, by go_num, Lib.hid ⟨H9.out.mono (fun k hk => .inl hk), fun k hk hn => (K9.out k (.inl hk)).trans (HK8.out k hk hn), g1, g2, m + 1, by have := HML.out; omega, K9g⟩⟩
          case measure => simp [intOf]; omega
        · go_wp2_with (first | rw [hW8] | ((with_reducible refine (HM8.out.prog (fun S vr vq vo hv ho => turn4 _ hv HST.out (by have := HOL2.out; omega))).mono ?_); rintro e w9 ⟨rfl, h9, k9⟩; have H9 := Lib.hid h9; have K9 := Lib.hid k9; clear h9 k9))
          have g1 := inv_turn HI2.out HST.out
          have K9g := (K9.out gn (.inl HON.out)).trans HG8.out
          go_roundw
          case rel => exact ⟨k + 1, _, ({ s2 with st := 1, tx := emp }.tell (rep 4)), by have := HKT.out; have := HD.out; have : todo ({ s2 with st := 1, tx := emp }.tell (rep 4)) = 3 * s2.q.length := rfl; omega, rfl, by go_num, Lib.hid ⟨H9.out.mono (fun k hk => .inl hk), fun k hk hn => (K9.out k (.inl hk)).trans (HK8.out k hk hn), g1, .inr (.inl (.inl rfl)), m + 1, by have := HML.out; omega, K9g⟩⟩
          case measure => simp [intOf]; omega
      · have HST : Hid (s2.st = 5) := Lib.hid hst
        have HD : Hid (3 * s2.q.length + 2 ≤ todo s1) := Lib.hid hd
        simp only [] at hA
        subst hA
        clear hst hd
        obtain ⟨W8, hW8⟩ : ∃ q, W7.setCell ⟨gn, 0, none⟩ (.int .i64 ((m : Int) + 1)) = q := ⟨_, rfl⟩
        have HM8 : Hid (MuO p s2 (fun k => O k ∨ k = gx) B a W8) := Lib.hid (by rw [← hW8]; exact HM7.out.write (.inl HON.out))
        have HK8 : Hid (∀ k, O k → k ≠ gn → W8.heap[k]? = w.heap[k]?) := Lib.hid (fun k hk hn => by rw [← hW8]; exact (heap_setCell_other W7 ⟨gn, 0, none⟩ k _ hn).trans (HK7.out k hk hn))
        have HG8 : Hid (W8.heap[gn]? = some (.cells #[.int .i64 ((m + 1 : Nat) : Int)] 3 (0, 0))) := Lib.hid (by rw [← hW8]; exact (heap_setCell_same W7 gn 0 _ _ _ HG7.out).trans (by simp))
        have hr8 : W8.heap[gx]? = some (.cells #[.bool tu, .bool lo, .string tx] 61 (0, 0)) := by rw [← hW8]; exact (heap_setCell_other W7 ⟨gn, 0, none⟩ gx _ HGX.out).trans HR7.out
        have z1 : W8.cell? ⟨gx, 1, none⟩ = some (.bool lo) := (cell_of_row _ _ _ _ _ _ hr8).trans rfl
        have z2 : W8.cell? ⟨gx, 2, none⟩ = some (.string tx) := (cell_of_row _ _ _ _ _ _ hr8).trans rfl
        have hwm : IntKind.i64.wrap ((m : Int) + 1) = (m : Int) + 1 := by rw [IntKind.wrap_i64]; have := HML.out; omega
        clear hr8
        cases lo
        · go_wp2_with (first | rw [hW8] | ((with_reducible refine (HM8.out.prog (fun S vr vq vo hv ho => ans5 tx _ hv HST.out (by have := HOL2.out; omega))).mono ?_); rintro e w9 ⟨rfl, h9, k9⟩; have H9 := Lib.hid h9; have K9 := Lib.hid k9; clear h9 k9))
          obtain ⟨g1, g2, g3⟩ := inv_ans HI2.out HST.out tx
          have K9g := (K9.out gn (.inl HON.out)).trans HG8.out
          go_roundw
          case rel => exact ⟨k + 1, _, ansS s2 tx, by have := HKT.out; have := HD.out; have := g3; omega, rfl, by go_num, Lib.hid ⟨H9.out.mono (fun k hk => .inl hk), fun k hk hn => (K9.out k (.inl hk)).trans (HK8.out k hk hn), g1, g2, m + 1, by have := HML.out; omega, K9g⟩⟩
          case measure => simp [intOf]; omega
        · go_wp2_with (first | rw [hW8] | ((with_reducible refine (HM8.out.prog (fun S vr vq vo hv ho => lost5 _ hv HST.out (by have := HOL2.out; omega))).mono ?_); rintro e w9 ⟨rfl, h9, k9⟩; have H9 := Lib.hid h9; have K9 := Lib.hid k9; clear h9 k9))
          obtain ⟨g1, g2, g3⟩ := inv_lost HI2.out HST.out
          have K9g := (K9.out gn (.inl HON.out)).trans HG8.out
          go_roundw
          case rel => exact ⟨k + 1, _, lostS s2, by have := HKT.out; have := HD.out; have := g3; omega, rfl, by go_num, Lib.hid ⟨H9.out.mono (fun k hk => .inl hk), fun k hk hn => (K9.out k (.inl hk)).trans (HK8.out k hk hn), g1, g2, m + 1, by have := HML.out; omega, K9g⟩⟩
          case measure => simp [intOf]; omega
      · have HST : Hid (s2.st = 1 ∨ s2.st = 0) := Lib.hid hst
        have HD : Hid (3 * s2.q.length + 1 ≤ todo s1) := Lib.hid hd
        simp only [] at hA
        subst hA
        clear hst hd
        go_wp2_with fail
        have g3 : todo s2 = 3 * s2.q.length := by unfold todo; have := HST.out; rw [if_neg (by omega), if_neg (by omega)]; rfl
        go_roundw
        case rel => exact ⟨k + 1, _, s2, by have := HKT.out; have := HD.out; omega, rfl, by go_num, Lib.hid ⟨HM7.out.mono (fun k hk => .inl hk), HK7.out, HI2.out, by rcases HST.out with e | e; exact .inr (.inl (.inl e)); exact .inl e, m, by have := HML.out; omega, HG7.out⟩⟩
        case measure => simp [intOf]; omega
end
end Mu
end Go.Proofs.Ytdakkjpejhlciaa
