/- A session alone; the program's and the document's in one world; the chapter's example. No condition. -/
import Derived.Test.YtdakkjpejhlciaaMuJ
import Derived.Lib.SlBytesConst
namespace Go.Proofs.Ytdakkjpejhlciaa
open Go.ChangeShapes Go.WideShapes Go.ChangeAt Go.RowKit Go.Deep
set_option linter.unusedVariables false
set_option maxRecDepth 100000
set_option linter.unusedSimpArgs false
namespace Mu
open St Mc
section
variable {w w' w1 w2 a : World} {S S' : Nat → Prop} {p B : Nat} {vr vq vo r : Value} {s s' t t' : Ses}
/-- a session alone, in blocks made since -/
def MuS (B p : Nat) (s : Ses) (a w : World) : Prop := (∃ S, SesX p s w S ∧ ∀ k, S k → B ≤ k) ∧ Below B a w ∧ B ≤ w.heap.size
theorem MuS.left (hB : ∀ k, S k → B ≤ k) (hb : Below B a w) (hz : B ≤ w.heap.size) (hl : Mc.Left (SesX p s') S w w') : MuS B p s' a w' := by
  obtain ⟨⟨S', h1, h2⟩, h3⟩ := hl
  have z := h3.2.2.2.1
  refine ⟨⟨S', h1, fun k hk => ?_⟩, h3.below hb hz hB, by omega⟩
  rcases h2 k hk with c | c
  · exact hB k c
  · omega
theorem MuS.step {f : Nat} {args : Array Value} (h : MuS B p s a w) (hc : ∀ S vr vq vo, SesV w S p vr vq vo s → Calls Try.prog f args w (MuR r p s' S w)) : Calls Try.prog f args w (fun e w' => e = .returned r ∧ MuS B p s' a w') := by
  obtain ⟨⟨S, ⟨vr, vq, vo, h1⟩, hB⟩, hb, hz⟩ := h
  refine (hc S vr vq vo h1).mono ?_
  rintro e w' ⟨rfl, hl⟩
  exact ⟨rfl, MuS.left hB hb hz hl⟩
theorem MuS.below (h : MuS B p s a w) (hb : Below w.heap.size w w') : MuS B p s a w' := by
  obtain ⟨⟨S, h1, hB⟩, h2, hz⟩ := h
  exact ⟨⟨S, (goodS p s).below h1 hb, hB⟩, h2.trans (hb.mono hz), Nat.le_trans hz hb.size⟩
/-- bytes in a block that is not its own -/
theorem bytes_stay {g n c : Nat} {bs : List Int} (hl : ∀ k, S k → k < g) (hs : Sl .u8 w (.slice (some ⟨g, 0, none⟩) n c) bs) (w' : World) (ho : Only S w w') : Sl .u8 w' (.slice (some ⟨g, 0, none⟩) n c) bs := by
  obtain ⟨a', c', e, h1, h2, h3, h4⟩ := hs
  refine ⟨a', c', e, h1, h2, h3, ?_⟩
  rcases h4 with h4 | ⟨b, off, sp, rfl, h5⟩
  · exact .inl h4
  · refine .inr ⟨b, off, sp, rfl, ?_⟩
    rcases h5 with h5 | ⟨h6, h7, h8⟩
    · exact .inl h5
    · simp only [Value.slice.injEq, Option.some.injEq, Addr.mk.injEq] at e
      obtain ⟨⟨rfl, rfl, -⟩, -, -⟩ := e
      refine .inr ⟨h6, Nat.lt_of_lt_of_le h7 ho.2.2.2.1, fun i hi => ?_⟩
      exact (World.cell?_of_block (ho.2.2.2.2 g h7 (fun q => by have := hl g q; omega))).trans (h8 i hi)
/-- a literal of three replies -/
theorem lit3 (w : World) (x y z : Rep) (cs : Array Value) (h : cs = (repC x ++ repC y ++ repC z).toArray) : SlR 3 repC (w.alloc (.cells cs TR)) (.slice (some ⟨w.heap.size, 0, none⟩) 3 3) [x, y, z] := by
  subst h
  refine ⟨_, 3, rfl, Nat.le_refl _, by decide, .inr ⟨w.heap.size, 0, none, rfl, .inr ⟨rfl, by simp, fun i q hq j u hu => ?_⟩⟩⟩
  have hj : j < 3 := (List.getElem?_eq_some_iff.1 hu).1
  have hr := heap_alloc_new w (.cells (repC x ++ repC y ++ repC z).toArray TR)
  rw [cell_of_row _ _ _ _ _ _ hr]
  match i, hq with
  | 0, hq => cases hq; rcases (show j = 0 ∨ j = 1 ∨ j = 2 by omega) with rfl | rfl | rfl <;> exact hu
  | 1, hq => cases hq; rcases (show j = 0 ∨ j = 1 ∨ j = 2 by omega) with rfl | rfl | rfl <;> exact hu
  | 2, hq => cases hq; rcases (show j = 0 ∨ j = 1 ∨ j = 2 by omega) with rfl | rfl | rfl <;> exact hu
  | i + 3, hq => cases hq
end
section
variable {w w' a : World} {p B : Nat}
theorem okx1 : okS 10 10 ex1 := ok_feed4 (ok_fresh.mono (Nat.zero_le _) (Nat.zero_le _)) exB (by decide) (by decide) |> fun h => exS1 ▸ h
theorem lf (w : World) (S : Nat → Prop) (h1 : SesX p fresh w S) (hB : ∀ k, S k → B ≤ k) (hb : Below B a w) (hz : B ≤ w.heap.size) (vb : Value) (g n c : Nat) (hv : vb = .slice (some ⟨g, 0, none⟩) n c) (hg : ∀ k, S k → k < g) (hs : Sl .u8 w vb exB) : Calls Try.prog 9 #[.pointer (some ⟨p, 0, none⟩), vb] w (fun e w' => e = .returned (.int .i64 0) ∧ MuS B p ex1 a w') := by
  obtain ⟨vr, vq, vo, hv2⟩ := h1
  refine (feed_any vb exB w hv2 ok_fresh (by decide) (fun w' ho => by subst hv; exact bytes_stay hg hs w' ho) (by decide)).mono ?_
  rw [exS1]
  rintro e w' ⟨rfl, hl⟩
  exact ⟨rfl, MuS.left hB hb hz hl⟩
theorem l1 (w : World) (h : MuS B p ex1 a w) : Calls Try.prog 11 #[.pointer (some ⟨p, 0, none⟩)] w (fun e w' => e = .returned (.tuple #[.int .i64 1, .string ⟨#[]⟩]) ∧ MuS B p ex2 a w') := by
  have h2 := MuS.step (r := .tuple #[.int .i64 (nextV ex1).1.1, .string (nextV ex1).1.2]) (s' := (nextV ex1).2) h (fun S vr vq vo hv2 => next_any w hv2 (by decide))
  rw [exS2] at h2
  exact h2
theorem l2 (w : World) (h : MuS B p ex2 a w) : Calls Try.prog 13 #[.pointer (some ⟨p, 0, none⟩)] w (fun e w' => e = .returned (.int .i64 0) ∧ MuS B p ex3 a w') := by
  have h2 := MuS.step (r := .int .i64 (gotE ex2)) (s' := gotS ex2) h (fun S vr vq vo hv2 => got_any w hv2 (by decide))
  rw [exS3.1, exS3.2] at h2
  exact h2
theorem l3 (w : World) (h : MuS B p ex3 a w) : Calls Try.prog 11 #[.pointer (some ⟨p, 0, none⟩)] w (fun e w' => e = .returned (.tuple #[.int .i64 2, .string ⟨#[104, 105]⟩]) ∧ MuS B p ex4 a w') := by
  have h2 := MuS.step (r := .tuple #[.int .i64 (nextV ex3).1.1, .string (nextV ex3).1.2]) (s' := (nextV ex3).2) h (fun S vr vq vo hv2 => next_any w hv2 (by decide))
  rw [exS4] at h2
  exact h2
theorem l4 (w : World) (h : MuS B p ex4 a w) : Calls Try.prog 17 #[.pointer (some ⟨p, 0, none⟩), .string ⟨#[121, 111]⟩] w (fun e w' => e = .returned (.int .i64 0) ∧ MuS B p ex5 a w') := by
  have h2 := MuS.step (r := .int .i64 (ansE ex4)) (s' := ansS ex4 yo) h (fun S vr vq vo hv2 => ans_any yo w hv2 (by decide))
  rw [exS5.1, exS5.2] at h2
  exact h2
theorem l5 (w : World) (h : MuS B p ex5 a w) : Calls Try.prog 11 #[.pointer (some ⟨p, 0, none⟩)] w (fun e w' => e = .returned (.tuple #[.int .i64 3, .string ⟨#[]⟩]) ∧ MuS B p ex6 a w') := by
  have h2 := MuS.step (r := .tuple #[.int .i64 (nextV ex5).1.1, .string (nextV ex5).1.2]) (s' := (nextV ex5).2) h (fun S vr vq vo hv2 => next_any w hv2 (by decide))
  rw [exS6] at h2
  exact h2
/-- the replies, given away -/
theorem l6 (w : World) (h : MuS B p ex6 a w) : Calls Try.prog 23 #[.pointer (some ⟨p, 0, none⟩)] w (fun e w' => (∃ v, e = .returned v ∧ OwnR 3 repC TR w' 0 v ex6.out) ∧ Below B a w') := by
  obtain ⟨⟨S, ⟨vr, vq, vo, h1⟩, hB⟩, hb, hz⟩ := h
  refine (replies_any w h1).mono ?_
  rintro e w' ⟨rfl, rfl⟩
  exact ⟨⟨_, rfl, h1.given.2⟩, (only_cell h1.sp 5 _).below hb hz hB⟩
theorem lo (w : World) (h : MuS B p fresh a w) : Calls Try.prog 27 #[.pointer (some ⟨p, 0, none⟩)] w (fun e w' => e = .returned (.bool true) ∧ w = w') := by
  obtain ⟨⟨S, ⟨vr, vq, vo, h1⟩, hB⟩, hb, hz⟩ := h
  exact open_any w h1
set_option maxHeartbeats 4000000 in
theorem live_any (w : World) : Calls Try.prog 7 #[] w fun e w' => e = .returned (.bool true) ∧ Below w.heap.size w w' := by
  have kc := fun (w : World) (C : Array Value) (n c : Nat) => Lib.run_convert_bytes_const (P := Try.prog) w 37 5 C n c Try.underlying37 Try.underlying5
  go_enter Try.func7, Try.ntmps7
  go_wp2_with fail
  refine (new_any _).mono ?_
  rintro e w1 ⟨⟨g, rfl, hx⟩, hb⟩
  have HM1 : Hid (MuS w.heap.size g fresh w w1) := Lib.hid ⟨⟨_, hx, fun k hk => hk.1⟩, hb, hb.size⟩
  obtain ⟨W2, hW2⟩ : ∃ q, w1.alloc (.cells #[.int .u8 66, .int .u8 81, .int .u8 2, .int .u8 104, .int .u8 105, .int .u8 69] 5 (6, 7)) = q := ⟨_, rfl⟩
  have hb2 : Below w1.heap.size w1 W2 := by rw [← hW2]; exact (Below.refl _ _).alloc (Nat.le_refl _) _
  have HM2 := Lib.hid (HM1.out.below hb2)
  have HSL : Hid (Sl .u8 W2 (.slice (some ⟨w1.heap.size, 0, none⟩) 6 6) exB) := Lib.hid (by rw [← hW2]; exact Sl.new w1 _ exB rfl rfl (Nat.le_refl _) (by decide) (by decide))
  have HF2 := Lib.hid (lf W2 _ ((goodS g fresh).below hx hb2) (fun k hk => hk.1) (hb.trans (hb2.mono hb.size)) (Nat.le_trans hb.size hb2.size) _ _ 6 6 rfl (fun k hk => hk.2) HSL.out)
  clear hx hb hb2
  go_wp2_with (first | ((with_reducible refine (lo _ HM1.out).mono ?_); rintro e w' ⟨rfl, rfl⟩) | rw [hW2] | ((with_reducible refine HF2.out.mono ?_); rintro e w3 ⟨rfl, h3⟩; have HM3 := Lib.hid h3; clear h3) | ((with_reducible refine (l1 _ HM3.out).mono ?_); rintro e w4 ⟨rfl, h4⟩; have HM4 := Lib.hid h4; clear h4) | ((with_reducible refine (l2 _ HM4.out).mono ?_); rintro e w5 ⟨rfl, h5⟩; have HM5 := Lib.hid h5; clear h5) | ((with_reducible refine (l3 _ HM5.out).mono ?_); rintro e w6 ⟨rfl, h6⟩; have HM6 := Lib.hid h6; clear h6) | ((with_reducible refine (l4 _ HM6.out).mono ?_); rintro e w7 ⟨rfl, h7⟩; have HM7 := Lib.hid h7; clear h7) | ((with_reducible refine (l5 _ HM7.out).mono ?_); rintro e w8 ⟨rfl, h8⟩; have HM8 := Lib.hid h8; clear h8) | ((with_reducible refine (l6 _ HM8.out).mono ?_); rintro e w9 ⟨⟨v9, rfl, ho9⟩, hb9⟩; have HO9 := Lib.hid ho9; have HB9 := Lib.hid hb9; obtain ⟨W10, hW10⟩ : ∃ q, w9.alloc (.cells #[.int .i64 1, .int .i64 0, .string ⟨#[]⟩, .int .i64 2, .int .i64 0, .string ⟨#[121, 111]⟩, .int .i64 3, .int .i64 0, .string ⟨#[]⟩] TR) = q := ⟨_, rfl⟩; have HL10 : Hid (SlR 3 repC W10 (.slice (some ⟨w9.heap.size, 0, none⟩) 3 3) ex6.out) := Lib.hid (by rw [← hW10]; exact lit3 w9 (rep 1) ⟨2, 0, yo⟩ (rep 3) _ rfl); have hb10 : Below w9.heap.size w9 W10 := (by rw [← hW10]; exact (Below.refl _ _).alloc (Nat.le_refl _) _); have HL9 := Lib.hid ((ho9.sl repC_len).below hb10 (Nat.le_refl _)); have HB10 := Lib.hid (hb9.trans (hb10.mono hb9.size)); clear ho9 hb9 hb10) | rw [hW10] | ((with_reducible refine (rsame_any _ _ _ _ HL9.out HL10.out).mono ?_); rintro e w11 ⟨rfl, hb11⟩; have HB11 := Lib.hid (HB10.out.trans (hb11.mono HB10.out.size)); clear hb11))
  go_ret
  exact ⟨rfl, HB11.out⟩
end
end Mu
end Go.Proofs.Ytdakkjpejhlciaa
