/- Package disk: Crash, Power. No condition. -/
import Derived.Test.YtfaifdidillkaaaDkF
namespace Go.Proofs.Ytfaifdidillkaaa
open Go.ChangeShapes Go.WideShapes Go.ChangeAt Go.RowKit Go.Deep
set_option linter.unusedVariables false
set_option maxRecDepth 100000
set_option linter.unusedSimpArgs false
namespace Dk
variable {w w' : World} {S : Nat → Prop} {p m : Nat} {V : ByteArray → Value} {on : Bool} {left : Int} {F : List Fl} {n : Nat}
abbrev inC (x : Int) : List Value := [.int .i64 x]
theorem inC_len (x : Int) : (inC x).length = 1 := rfl
theorem Left.after {w3 wr : World} {S2 : Nat → Prop} (ho : Only S w w3) (hS : ∀ k, S2 k → S k ∨ (w.heap.size ≤ k ∧ k < w3.heap.size)) (hlow : ∀ k, S k → k < w.heap.size) (g : Left S2 p m w3 wr on left F) : Left S p m w wr on left F := by
  obtain ⟨⟨V, hv⟩, ho2⟩ := g
  have e1 := ho.2.2.2.1
  have e2 := ho2.2.2.2.1
  refine ⟨⟨V, hv.mono (fun k hk => ?_) (fun k hk => ?_)⟩, ho.after ho2 (fun i hi hk => ?_)⟩
  · rcases hk with hk | hk
    · rcases hS k hk with q | q
      · exact .inl q
      · exact .inr ⟨q.1, by omega⟩
    · exact .inr ⟨by omega, hk.2⟩
  · rcases hk with hk | hk
    · have := hlow k hk; omega
    · exact hk.2
  · rcases hS i hk with q | q
    · exact q
    · omega
theorem OkF.lose {x : ByteArray} {k : Int} (h : OkF n F) (hk : 0 ≤ k) (hf : (fndL F x).isSome = true) : OkF n (loseF F x k) := by
  obtain ⟨f, hfd⟩ := Option.isSome_iff_exists.1 hf
  obtain ⟨hfm, hnm⟩ := fnd_mem hfd
  have hof : oldF F x = f := by unfold oldF; rw [hfd]; rfl
  have h1 := h.safe f hfm
  have h2 := h.len f hfm
  unfold loseF
  by_cases h0 : safeL F x k = 0
  · rw [if_pos h0]; exact h.sub _
  · rw [if_neg h0]
    unfold safeL at *
    rw [hof] at *
    refine h.upd (by simp only; rw [← hnm]; exact h.nm f hfm) (by simp only [List.length_take]; omega) (by simp only [List.length_take]; omega) (fun z hz => h.wf f hfm z (List.mem_of_mem_take hz)) (.inl hf)
/-- what of the loose bytes of the k-th file that has some is kept -/
def keptL (ks : List Int) (k : Nat) : Int := match ks[k]? with
  | some z => max z 0
  | none => 0
def crF : List ByteArray → Nat → List Int → List Fl → List Fl
  | [], _, _, F => F
  | x :: xs, k, ks, F => if looseL F x = 0 then crF xs k ks F else crF xs (k + 1) ks (loseF F x (keptL ks k))
def crashF (ks : List Int) (F : List Fl) : List Fl := crF (F.map Fl.name) 0 ks F
theorem loose_some {x : ByteArray} (h : looseL F x ≠ 0) : (fndL F x).isSome = true := by
  unfold looseL at h
  cases hq : fndL F x with
  | none => rw [hq] at h; exact absurd rfl h
  | some f => rfl
theorem kept_nonneg (ks : List Int) (k : Nat) : 0 ≤ keptL ks k := by unfold keptL; split <;> omega
theorem OkF.cr {ks : List Int} : ∀ {xs : List ByteArray} {k : Nat} {F : List Fl}, OkF n F → OkF n (crF xs k ks F)
  | [], _, _, h => h
  | x :: xs, k, F, h => by
    unfold crF
    split
    · exact OkF.cr h
    · rename_i q
      exact OkF.cr (h.lose (kept_nonneg ks k) (loose_some q))
set_option maxHeartbeats 16000000 in
theorem crash_any (vb : Value) (ks : List Int) (w : World) (h : DkV w S p m V on left F) (hs : OkF n F) (hn : n ≤ 1000000000) (hk : ∀ w', Only S w w' → SlR 1 inC w' vb ks) :
    Calls Try.prog 14 #[.pointer (some ⟨p, 0, none⟩), vb] w fun e w' => e = .returned (.tuple #[]) ∧ Left S p m w w' false (-1) (crashF ks F) := by
  have hb := hk w (Only.refl _ _)
  obtain ⟨ab, cb, rfl, hb1, hb2, -⟩ := id hb
  unfold maxLen at hb2
  have H := Lib.hid h
  have HS := Lib.hid hs
  have HN := Lib.hid hn
  have HKS := Lib.hid hk
  clear h hs hn hb hk
  go_enter Try.func14, Try.ntmps14
  go_wp2_with fail
  refine (off_any w H.out).mono ?_
  rintro e w2 ⟨rfl, hv2, ho2⟩
  have HO2 : Hid (Only S w w2) := Lib.hid (ho2.mono (fun k hk => by subst hk; exact H.out.sp))
  have H2 := Lib.hid (hv2.grow (w := w))
  clear hv2 ho2
  go_wp2_with fail
  refine (names_any w2 H2.out HS.out).mono ?_
  rintro e w3 ⟨u, rfl, hu, hb3⟩
  obtain ⟨S2, hS2⟩ : ∃ q, Grow S w w2 = q := ⟨_, rfl⟩
  have HSE := Lib.hid hS2
  rw [hS2] at H2
  have HB3 := Lib.hid hb3
  have HU := Lib.hid hu
  have HL3 : Hid (Left S2 p m w3 w3 false (-1) F) := Lib.hid ((H2.out.below hb3).leftB (Below.refl _ _))
  have HON3 : Hid (Only S w w3) := Lib.hid (HO2.out.trans (Below.only hb3 S))
  have HLOW : Hid (∀ k, S2 k → k < w2.heap.size) := Lib.hid H2.out.low
  clear hb3 hu hS2
  obtain ⟨au, cu, hau⟩ := own_slice HU.out
  subst hau
  obtain ⟨NL, hNL⟩ : ∃ q, F.map Fl.name = q := ⟨_, rfl⟩
  have HNL := Lib.hid hNL
  have hcnt : NL.length ≤ 64 := by rw [← hNL, List.length_map]; exact HS.out.cnt
  have HXS : Hid (∀ x ∈ NL, x.size ≤ maxLen) := Lib.hid (fun x hx => by
    rw [← hNL] at hx
    obtain ⟨f, hf, rfl⟩ := List.mem_map.1 hx
    have := name_size (HS.out.nm f hf)
    unfold maxLen; omega)
  rw [hNL] at HU ⊢
  clear hNL
  go_wp2_with fail
  go_loopw [4, 15] (fun av i wr => ∃ (j at_ : Nat) (Fj : List Fl), j ≤ NL.length ∧ at_ ≤ j ∧ i = .int .i64 (j : Int) ∧ av = .int .i64 (at_ : Int) ∧ Hid (OkF n Fj) ∧ Hid (Left S2 p m w3 wr false (-1) Fj) ∧ Hid (crF (NL.drop j) at_ ks Fj = crashF ks F)) (fun _ i _ => NL.length - (intOf i).toNat)
  case atStart => exact ⟨0, 0, F, Nat.zero_le _, Nat.le_refl _, rfl, rfl, HS, HL3, Lib.hid (by unfold crashF; rw [HNL.out]; rfl)⟩
  case round =>
    clear HL3
    obtain ⟨j, at_, Fj, hj, hat, rfl, rfl, HOKJ, HLJ, HCR⟩ := hrel
    by_cases hlt : j < NL.length
    · have hlti : (j : Int) < (NL.length : Int) := by omega
      obtain ⟨b, off, cp, e1, -, -, -, hbl, hcs⟩ : ∃ b off cp, Value.slice au NL.length cu = .slice (some ⟨b, off, none⟩) NL.length cp ∧ 0 < NL.length ∧ NL.length ≤ cp ∧ cp ≤ 9223372036854775807 ∧ b < w3.heap.size ∧ ∀ i x, NL[i]? = some x → ∀ j u, (nmC x)[j]? = some u → w3.cell? ⟨b, off + (i * 1 + j), none⟩ = some u := by
        rcases SlR.cases (HU.out.sl nmC_len) with ⟨a2, c2, e, hnil⟩ | h
        · rw [hnil] at hlt; simp at hlt
        · exact h
      simp only [Value.slice.injEq] at e1
      obtain ⟨rfl, -, rfl⟩ := e1
      obtain ⟨x, hx⟩ : ∃ x, NL[j]? = some x := ⟨_, List.getElem?_eq_getElem hlt⟩
      have hbw2 : w2.heap.size ≤ b := (World.ownsRow.lt HU.out b rfl).1
      have hblk : wr.heap[b]? = w3.heap[b]? := HLJ.out.2.2.2.2.2 b hbl (fun q => by have := HLOW.out b q; omega)
      have x0 : wr.cell? ⟨b, off + j, none⟩ = some (.string x) := by
        have := hcs j x hx 0 _ rfl
        simp only [Nat.mul_one, Nat.add_zero] at this
        rw [← this]
        unfold World.cell?
        rw [hblk]
      have HXM := Lib.hid (HXS.out x (List.mem_of_getElem? hx))
      have HST : Hid (crF (NL.drop j) at_ ks Fj = if looseL Fj x = 0 then crF (NL.drop (j + 1)) at_ ks Fj else crF (NL.drop (j + 1)) (at_ + 1) ks (loseF Fj x (keptL ks at_))) := Lib.hid (by
        have e : NL.drop j = x :: NL.drop (j + 1) := by
          have h1 := (List.getElem?_eq_some_iff.1 hx)
          obtain ⟨h2, h3⟩ := h1
          rw [← h3]; exact List.drop_eq_getElem_cons h2
        rw [e]; rfl)
      obtain ⟨⟨Vj, hvj⟩, -⟩ := HLJ.out
      have HVJ := Lib.hid hvj
      clear hcs hx hblk hvj hbl hbw2
      go_wp2_with fail
      refine (loose_any x wr HVJ.out HXM.out HOKJ.out HN.out).mono ?_
      rintro e w5 ⟨rfl, hb5⟩
      have HV5 := Lib.hid (HVJ.out.below hb5)
      have HL5 : Hid (Left S2 p m w3 w5 false (-1) Fj) := Lib.hid (HLJ.out.trans (HVJ.out.leftB hb5))
      have HV5g := HV5
      have HSZ : Hid (wr.heap.size ≤ w5.heap.size) := Lib.hid hb5.size
      have HKW : Hid (SlR 1 inC w5 (.slice ab ks.length cb) ks) := Lib.hid (HKS.out w5 (HON3.out.after HL5.out.2 (fun i hi q => by
        rw [← HSE.out] at q
        rcases q with q | q
        · exact q
        · omega)))
      clear hb5
      clear x0
      obtain ⟨lz, hlz⟩ : ∃ q, looseL Fj x = q := ⟨_, rfl⟩
      have HLZ := Lib.hid hlz
      rw [hlz]
      by_cases h0 : lz = 0
      · subst h0
        have HCR2 : Hid (crF (NL.drop (j + 1)) at_ ks Fj = crashF ks F) := Lib.hid (by rw [← HCR.out, HST.out, if_pos HLZ.out])
        clear hlz
        go_wp2_with fail
        go_roundw
        case rel => exact ⟨j + 1, at_, Fj, by omega, by omega, by go_num, rfl, HOKJ, HL5, HCR2⟩
        case measure => simp [intOf]; omega
      · have d0 : (lz == 0) = false := by simpa using h0
        have HLN : Hid (¬ looseL Fj x = 0) := Lib.hid (by rw [hlz]; exact h0)
        have HIS := Lib.hid (loose_some HLN.out)
        have HV5 : Hid (DkV w5 (Grow S2 w3 w5) p m Vj false (-1) Fj) := Lib.hid (HV5g.out.mono (fun k hk => by
          rcases hk with hk | hk
          · exact .inl hk
          · exact .inr ⟨hk.1, Nat.lt_of_lt_of_le hk.2 HSZ.out⟩) (fun k hk => by
          rcases hk with hk | hk
          · exact HV5g.out.low k (.inl hk)
          · exact hk.2))
        clear h0 hlz HV5g
        by_cases hak : at_ < ks.length
        · have haki : (at_ : Int) < (ks.length : Int) := by omega
          obtain ⟨b2, off2, cp2, e2, -, -, -, hbl2, hcs2⟩ : ∃ b off cp, Value.slice ab ks.length cb = .slice (some ⟨b, off, none⟩) ks.length cp ∧ 0 < ks.length ∧ ks.length ≤ cp ∧ cp ≤ 9223372036854775807 ∧ b < w5.heap.size ∧ ∀ i x, ks[i]? = some x → ∀ j u, (inC x)[j]? = some u → w5.cell? ⟨b, off + (i * 1 + j), none⟩ = some u := by
            rcases SlR.cases HKW.out with ⟨a2, c2, e, hnil⟩ | h
            · rw [hnil] at hak; simp at hak
            · exact h
          simp only [Value.slice.injEq] at e2
          obtain ⟨rfl, -, rfl⟩ := e2
          obtain ⟨z, hz⟩ : ∃ x, ks[at_]? = some x := ⟨_, List.getElem?_eq_getElem hak⟩
          have y0 : w5.cell? ⟨b2, off2 + at_, none⟩ = some (.int .i64 z) := by
            have := hcs2 at_ z hz 0 _ rfl
            simpa using this
          have HKE : Hid (keptL ks at_ = max z 0) := Lib.hid (by unfold keptL; rw [hz])
          clear hcs2 hz hbl2
          go_wp2_with fail
          refine (lose_any x (max z 0) w5 HV5.out HOKJ.out HXM.out HN.out (by omega) HIS.out).mono ?_
          rintro e w6 ⟨rfl, hl6⟩
          have HL6 : Hid (Left S2 p m w3 w6 false (-1) (loseF Fj x (max z 0))) := Lib.hid (HL5.out.trans hl6)
          clear hl6
          go_wp2_with fail
          go_roundw
          case rel => exact ⟨j + 1, at_ + 1, loseF Fj x (max z 0), by omega, by omega, by go_num, by go_num, Lib.hid (HOKJ.out.lose (by omega) HIS.out), HL6, Lib.hid (by rw [← HCR.out, HST.out, if_neg HLN.out, HKE.out])⟩
          case measure => simp [intOf]; omega
        · have haki : ¬ (at_ : Int) < (ks.length : Int) := by omega
          have HKZ : Hid (keptL ks at_ = 0) := Lib.hid (by unfold keptL; rw [List.getElem?_eq_none (by omega)])
          go_wp2_with fail
          refine (lose_any x 0 w5 HV5.out HOKJ.out HXM.out HN.out (by omega) HIS.out).mono ?_
          rintro e w6 ⟨rfl, hl6⟩
          have HL6 : Hid (Left S2 p m w3 w6 false (-1) (loseF Fj x 0)) := Lib.hid (HL5.out.trans hl6)
          clear hl6
          go_wp2_with fail
          go_roundw
          case rel => exact ⟨j + 1, at_ + 1, loseF Fj x 0, by omega, by omega, by go_num, by go_num, Lib.hid (HOKJ.out.lose (by omega) HIS.out), HL6, Lib.hid (by rw [← HCR.out, HST.out, if_neg HLN.out, HKZ.out])⟩
          case measure => simp [intOf]; omega
    · obtain rfl : j = NL.length := by omega
      have hcr := HCR.out
      rw [List.drop_length] at hcr
      have HFIN : Hid (Left S p m w wr false (-1) (crashF ks F)) := Lib.hid (by
        rw [← hcr]
        exact Left.after HON3.out (fun k hk => by
          rw [← HSE.out] at hk
          rcases hk with hk | hk
          · exact .inl hk
          · exact .inr ⟨hk.1, Nat.lt_of_lt_of_le hk.2 HB3.out.size⟩) H.out.low HLJ.out)
      clear hcr
      go_wp2_with fail
      go_end0
      exact ⟨rfl, HFIN.out⟩
end Dk
end Go.Proofs.Ytfaifdidillkaaa
