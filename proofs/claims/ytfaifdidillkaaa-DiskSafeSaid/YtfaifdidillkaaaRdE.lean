/- The document's disk: Crash, Power. No condition. -/
import Derived.Test.YtfaifdidillkaaaRdD
namespace Go.Proofs.Ytfaifdidillkaaa
open Go.ChangeShapes Go.WideShapes Go.ChangeAt Go.RowKit Go.Deep
set_option linter.unusedVariables false
set_option maxRecDepth 100000
set_option linter.unusedSimpArgs false
namespace Rk
open Dk
variable {w w' : World} {S : Nat → Prop} {q : Nat} {vF : Value} {arm : Int} {off : Bool} {F : List Fl} {n : Nat}
def sL (ks : List Int) (k : Nat) (f : Fl) : Int := f.safe + min (keptL ks k) (f.zs.length - f.safe)
def outF (ks : List Int) : List Fl → Nat → List Fl
  | [], _ => []
  | f :: F, k => if (f.zs.length : Int) - f.safe = 0 then f :: outF ks F k else if sL ks k f = 0 then outF ks F (k + 1) else ⟨f.name, f.zs.take (sL ks k f).toNat, (sL ks k f).toNat⟩ :: outF ks F (k + 1)
theorem cr_out (ks : List Int) : ∀ (F pre : List Fl) (k : Nat), SrtF (pre ++ F) → crF (F.map Fl.name) k ks (pre ++ F) = pre ++ outF ks F k
  | [], pre, k, h => rfl
  | f :: F, pre, k, h => by
    have hm : f ∈ pre ++ f :: F := by simp
    have hk : (pre ++ f :: F)[pre.length]? = some f := by simp
    have hfd := h.fnd hm
    have hof : oldF (pre ++ f :: F) f.name = f := by unfold oldF; rw [hfd]; rfl
    have hlo : looseL (pre ++ f :: F) f.name = (f.zs.length : Int) - f.safe := by unfold looseL; rw [hfd]
    rw [List.map_cons]
    unfold crF outF
    rw [hlo]
    by_cases h0 : (f.zs.length : Int) - f.safe = 0
    · rw [if_pos h0, if_pos h0]
      have := cr_out ks F (pre ++ [f]) k (by simpa using h)
      simpa using this
    · rw [if_neg h0, if_neg h0]
      have hsl : safeL (pre ++ f :: F) f.name (keptL ks k) = sL ks k f := by unfold safeL sL; rw [hof]
      unfold loseF
      rw [hsl, hof]
      by_cases h1 : sL ks k f = 0
      · rw [if_pos h1, if_pos h1]
        have hd := del_at h hk rfl
        have hd2 : delF (pre ++ f :: F) f.name = pre ++ F := by rw [hd]; simp
        rw [hd2]
        exact cr_out ks F pre (k + 1) (by
          have : SrtF (delF (pre ++ f :: F) f.name) := by unfold delF SrtF; exact List.Pairwise.filter _ h
          rwa [hd2] at this)
      · rw [if_neg h1, if_neg h1]
        have hd := set_at (f' := ⟨f.name, f.zs.take (sL ks k f).toNat, (sL ks k f).toNat⟩) h hk rfl
        have hd2 : updF (pre ++ f :: F) ⟨f.name, f.zs.take (sL ks k f).toNat, (sL ks k f).toNat⟩ = (pre ++ [⟨f.name, f.zs.take (sL ks k f).toNat, (sL ks k f).toNat⟩]) ++ F := by rw [hd]; simp
        have hs2 := srt_upd (f := ⟨f.name, f.zs.take (sL ks k f).toNat, (sL ks k f).toNat⟩) h
        rw [hd2] at hs2 ⊢
        rw [cr_out ks F _ (k + 1) hs2]
        simp
theorem crash_out (ks : List Int) (h : SrtF F) : outF ks F 0 = crashF ks F := by
  have := cr_out ks F [] 0 h
  unfold crashF
  exact this.symm
set_option maxHeartbeats 16000000 in
theorem rcrash_any (vb : Value) (ks : List Int) (w : World) (h : RdV w S q vF arm off F) (hs : OkF n F) (hn : n ≤ 1000000000) (hk : ∀ w', Only S w w' → SlR 1 inC w' vb ks) :
    Calls Try.prog 26 #[.pointer (some ⟨q, 0, none⟩), vb] w fun e w' => e = .returned (.tuple #[]) ∧ RLeft S q w w' (-1) true (crashF ks F) := by
  have hb := hk w (Only.refl _ _)
  obtain ⟨ab, cb, rfl, hb1, hb2, -⟩ := id hb
  unfold maxLen at hb2
  have H := Lib.hid h
  have HS := Lib.hid hs
  have HN := Lib.hid hn
  have HKS := Lib.hid hk
  have HCRO := Lib.hid (crash_out ks hs.srt)
  have hcnt := hs.cnt
  obtain ⟨a, cap, hvF⟩ := own_slice h.own
  subst hvF
  have c0 := h.c0
  have hsl := h.own.sl rfC_len
  have HSL := Lib.hid hsl
  clear h hs hn hb hk hsl
  go_enter Try.func26, Try.ntmps26
  go_wp2_with fail
  go_loopw [4, 5, 15] (fun ov av i wr => ∃ (j at_ : Nat) (O : List Fl) (vO : Value), j ≤ F.length ∧ at_ ≤ j ∧ ov = vO ∧ av = .int .i64 (at_ : Int) ∧ i = .int .i64 (j : Int) ∧ Hid (O.length ≤ j) ∧ Hid (Below w.heap.size w wr) ∧ Hid (OwnR 3 rfC TE wr w.heap.size vO O) ∧ Hid (O ++ outF ks (F.drop j) at_ = outF ks F 0)) (fun _ _ i _ => F.length - (intOf i).toNat)
  case atStart => exact ⟨0, 0, [], .slice none 0 0, Nat.zero_le _, Nat.le_refl _, rfl, rfl, rfl, Lib.hid (Nat.le_refl _), Lib.hid (Below.refl _ _), Lib.hid (OwnR.nil _ _ _), Lib.hid rfl⟩
  case round =>
    obtain ⟨j, at_, O, vO, hj, hat, rfl, rfl, rfl, HOJ, HB, HO, HEQ⟩ := hrel
    obtain ⟨ao, co, hvO⟩ := own_slice HO.out
    subst hvO
    by_cases hlt : j < F.length
    · have hlti : (j : Int) < (F.length : Int) := by omega
      obtain ⟨b, off', cp, e1, -, -, -, hbl, hcs⟩ : ∃ b off cp, Value.slice a F.length cap = .slice (some ⟨b, off, none⟩) F.length cp ∧ 0 < F.length ∧ F.length ≤ cp ∧ cp ≤ 9223372036854775807 ∧ b < w.heap.size ∧ ∀ i x, F[i]? = some x → ∀ j u, (rfC x)[j]? = some u → w.cell? ⟨b, off + (i * 3 + j), none⟩ = some u := by
        rcases SlR.cases HSL.out with ⟨a2, c2, e, hnil⟩ | h
        · rw [hnil] at hlt; simp at hlt
        · exact h
      simp only [Value.slice.injEq] at e1
      obtain ⟨rfl, -, rfl⟩ := e1
      obtain ⟨f, hx⟩ : ∃ x, F[j]? = some x := ⟨_, List.getElem?_eq_getElem hlt⟩
      obtain ⟨x0, x1, x2⟩ := rfC_cells (w := wr) (b := b) (o := off' + j * 3) (fun j' u hu => by rw [Nat.add_assoc]; exact (HB.out.cell (p := ⟨b, off' + (j * 3 + j'), none⟩) hbl).trans (hcs j f hx j' u hu))
      have hm := List.mem_of_getElem? hx
      have HSF := Lib.hid (HS.out.safe f hm)
      have HFL := Lib.hid (HS.out.len f hm)
      have hfl := (HS.out.len f hm).2
      have hfl1 := (HS.out.len f hm).1
      have hfs := HS.out.safe f hm
      have hnn := HN.out
      have HST : Hid (outF ks (F.drop j) at_ = if (f.zs.length : Int) - f.safe = 0 then f :: outF ks (F.drop (j + 1)) at_ else if sL ks at_ f = 0 then outF ks (F.drop (j + 1)) (at_ + 1) else ⟨f.name, f.zs.take (sL ks at_ f).toNat, (sL ks at_ f).toNat⟩ :: outF ks (F.drop (j + 1)) (at_ + 1)) := Lib.hid (by
        have e : F.drop j = f :: F.drop (j + 1) := by
          obtain ⟨h2, h3⟩ := List.getElem?_eq_some_iff.1 hx
          rw [← h3]; exact List.drop_eq_getElem_cons h2
        rw [e]; rfl)
      have HOL : Hid (O.length ≤ 64 ∧ O.length ≤ j) := Lib.hid (by have := HOJ.out; omega)
      obtain ⟨g, hg⟩ : ∃ z, wr.heap.size = z := ⟨_, rfl⟩
      obtain ⟨W1, hW1⟩ : ∃ z, wr.alloc (.cells #[.string f.name, .string (strOfNums f.zs), .int .i64 f.safe] TE) = z := ⟨_, rfl⟩
      have hg1 : W1.heap[g]? = some (.cells #[.string f.name, .string (strOfNums f.zs), .int .i64 f.safe] TE (0, 0)) := by rw [← hW1, ← hg]; exact heap_alloc_new _ _
      have y0 : W1.cell? ⟨g, 0, none⟩ = some (.string f.name) := (cell_of_row _ _ 0 _ _ _ hg1).trans rfl
      have y1 : W1.cell? ⟨g, 1, none⟩ = some (.string (strOfNums f.zs)) := (cell_of_row _ _ 1 _ _ _ hg1).trans rfl
      have y2 : W1.cell? ⟨g, 2, none⟩ = some (.int .i64 (f.safe : Int)) := (cell_of_row _ _ 2 _ _ _ hg1).trans rfl
      have yz : W1.frozen? ⟨g, 1, none⟩ = false := frozen_of_row _ _ _ _ _ hg1
      have HG1 := Lib.hid hg1
      have HGG : Hid (w.heap.size ≤ g) := Lib.hid (by rw [← hg]; exact HB.out.size)
      have HBW : Hid (Below w.heap.size w W1) := Lib.hid (by rw [← hW1]; exact HB.out.alloc HB.out.size _)
      have HO1 : Hid (OwnR 3 rfC TE W1 w.heap.size (.slice ao O.length co) O) := Lib.hid (by rw [← hW1]; exact OwnR.alloc HO.out _)
      have HOG : Hid (∀ k, (Value.slice ao O.length co).ownBlock = some k → k ≠ g) := Lib.hid (fun k hk => by have := (World.ownsRow.lt HO.out k hk).2; omega)
      have HKW : Hid (SlR 1 inC W1 (.slice ab ks.length cb) ks) := Lib.hid (HKS.out W1 (Below.only HBW.out S))
      have hsz : (strOfNums f.zs).size = f.zs.length := strOfNums_size _
      have hnf := str_nil f.zs
      have hwr : IntKind.i64.wrap ((f.zs.length : Int) - f.safe) = (f.zs.length : Int) - f.safe := by rw [IntKind.wrap_i64]; omega
      rw [decide_eq_false (show ¬ f.zs.length = 0 by omega)] at hnf
      clear hcs hx hm hg1
      by_cases hl0 : f.safe = f.zs.length
      · have d0 : decide (f.safe < f.zs.length) = false := decide_eq_false (by omega)
        have d0i : ¬ f.safe < f.zs.length := by omega
        have d0j : ¬ (0 : Int) < (f.zs.length : Int) - f.safe := by omega
        have HSTP : Hid ((O ++ [f]) ++ outF ks (F.drop (j + 1)) at_ = outF ks F 0) := Lib.hid (by
          rw [← HEQ.out, HST.out, if_pos (by omega), List.append_assoc]; rfl)
        clear hl0
        go_upto_region 14 with fail
        obtain ⟨g3, hg3⟩ : ∃ z, W1.heap.size = z := ⟨_, rfl⟩
        obtain ⟨W4, hW4⟩ : ∃ z, W1.alloc (.cells #[.string f.name, .string (strOfNums f.zs), .int .i64 (f.safe : Int)] TE) = z := ⟨_, rfl⟩
        have HN4 : Hid (SlR 3 rfC W4 (.slice (some ⟨g3, 0, none⟩) 1 1) [f]) := Lib.hid (by rw [← hW4]; exact SlR.one rfC_len W1 _ hg3 _ f rfl)
        have HB4 : Hid (Below w.heap.size w W4) := Lib.hid (by rw [← hW4]; exact (HBW.out).alloc (HBW.out).size _)
        have HO4 : Hid (OwnR 3 rfC TE W4 w.heap.size (.slice ao O.length co) O) := Lib.hid (by rw [← hW4]; exact OwnR.alloc (HO1.out) _)
        have HZ4 : Hid (w.heap.size ≤ W4.heap.size) := Lib.hid HB4.out.size
        go_wp2_with (at_builtin; refine appR rfC_len rfC_one Try.underlying53 rfl (by decide) info_rf rfl _ _ rfl w.heap.size (.slice ao O.length co) O rfl HO4.out (.slice (some ⟨g3, 0, none⟩) 1 1) [f] rfl HN4.out (by have := HOL.out; (try simp only [List.length_singleton]); unfold maxLen; omega) (by have := HOL.out; (try simp only [List.length_singleton]); omega) HZ4.out ?_; intro v5 w5 own' hb'; have HO5 := Lib.hid own'; have HB5 : Hid (Below w.heap.size w w5) := Lib.hid (HB4.out.trans hb'); clear own' hb')
        go_roundw
        case rel => exact ⟨j + 1, at_, O ++ [f], v5, by omega, by omega, rfl, rfl, by go_num, Lib.hid (by have := HOL.out; rw [List.length_append, List.length_singleton]; omega), HB5, HO5, HSTP⟩
        case measure => simp [intOf]; omega

      · have d0 : decide (f.safe < f.zs.length) = true := decide_eq_true (by omega)
        have HLN : Hid (¬ (f.zs.length : Int) - f.safe = 0) := Lib.hid (by omega)
        have hl1 : f.safe < f.zs.length := by omega
        clear hl0
        by_cases hak : at_ < ks.length
        · have haki : (at_ : Int) < (ks.length : Int) := by omega
          have dk : decide (at_ < ks.length) = true := decide_eq_true hak
          obtain ⟨b2, off2, cp2, e2, -, -, -, hbl2, hcs2⟩ : ∃ b off cp, Value.slice ab ks.length cb = .slice (some ⟨b, off, none⟩) ks.length cp ∧ 0 < ks.length ∧ ks.length ≤ cp ∧ cp ≤ 9223372036854775807 ∧ b < W1.heap.size ∧ ∀ i x, ks[i]? = some x → ∀ j u, (inC x)[j]? = some u → W1.cell? ⟨b, off + (i * 1 + j), none⟩ = some u := by
            rcases SlR.cases HKW.out with ⟨a2, c2, e, hnil⟩ | h
            · rw [hnil] at hak; simp at hak
            · exact h
          simp only [Value.slice.injEq] at e2
          obtain ⟨rfl, -, rfl⟩ := e2
          obtain ⟨z, hz⟩ : ∃ x, ks[at_]? = some x := ⟨_, List.getElem?_eq_getElem hak⟩
          have k0 : W1.cell? ⟨b2, off2 + at_, none⟩ = some (.int .i64 z) := by
            have := hcs2 at_ z hz 0 _ rfl
            simpa using this
          have HKE : Hid (keptL ks at_ = max z 0) := Lib.hid (by unfold keptL; rw [hz])
          clear hcs2 hz hbl2
          obtain ⟨kp, hkp⟩ : ∃ y, min (max 0 z) ((f.zs.length : Int) - f.safe) = y := ⟨_, rfl⟩
          have hk1 : 0 ≤ kp ∧ kp ≤ (f.zs.length : Int) - f.safe := by omega
          obtain ⟨m, hm⟩ : ∃ m : Nat, (f.safe : Int) + kp = m := ⟨((f.safe : Int) + kp).toNat, by omega⟩
          have HM : Hid (sL ks at_ f = m) := Lib.hid (by unfold sL; rw [HKE.out]; omega)
          have hmw : IntKind.i64.wrap ((f.safe : Int) + kp) = (m : Int) := by rw [IntKind.wrap_i64]; omega
          have hml : m ≤ f.zs.length := by omega
          have hmi : (m : Int) ≤ (f.zs.length : Int) := by omega
          go_upto_region 12 with fail
          rw [ext_take]
          obtain ⟨T, hT⟩ : ∃ z, f.zs.take m = z := ⟨_, rfl⟩
          have HT := Lib.hid hT
          rw [hT]
          obtain ⟨W2, hW2⟩ : ∃ z, W1.setCell ⟨g, 1, none⟩ (.string (strOfNums T)) = z := ⟨_, rfl⟩
          obtain ⟨W3, hW3⟩ : ∃ z, W2.setCell ⟨g, 2, none⟩ (.int .i64 (T.length : Int)) = z := ⟨_, rfl⟩
          have hg2 : W2.heap[g]? = some (.cells #[.string f.name, .string (strOfNums T), .int .i64 f.safe] TE (0, 0)) := by rw [← hW2]; exact (heap_setCell_same W1 g 1 _ _ _ HG1.out).trans rfl
          have hg3 : W3.heap[g]? = some (.cells #[.string f.name, .string (strOfNums T), .int .i64 (T.length : Int)] TE (0, 0)) := by rw [← hW3]; exact (heap_setCell_same W2 g 2 _ _ _ hg2).trans rfl
          have u1 : W2.cell? ⟨g, 1, none⟩ = some (.string (strOfNums T)) := (cell_of_row _ _ 1 _ _ _ hg2).trans rfl
          have u2 : W2.cell? ⟨g, 2, none⟩ = some (.int .i64 (f.safe : Int)) := (cell_of_row _ _ 2 _ _ _ hg2).trans rfl
          have uz : W2.frozen? ⟨g, 2, none⟩ = false := frozen_of_row _ _ _ _ _ hg2
          have v0 : W3.cell? ⟨g, 0, none⟩ = some (.string f.name) := (cell_of_row _ _ 0 _ _ _ hg3).trans rfl
          have v1 : W3.cell? ⟨g, 1, none⟩ = some (.string (strOfNums T)) := (cell_of_row _ _ 1 _ _ _ hg3).trans rfl
          have v2 : W3.cell? ⟨g, 2, none⟩ = some (.int .i64 (T.length : Int)) := (cell_of_row _ _ 2 _ _ _ hg3).trans rfl
          have hszT : (strOfNums T).size = T.length := strOfNums_size _
          have HB3 : Hid (Below w.heap.size w W3) := Lib.hid (by rw [← hW3, ← hW2]; exact (HBW.out.setCell HGG.out _).setCell HGG.out _)
          have HO3 : Hid (OwnR 3 rfC TE W3 w.heap.size (.slice ao O.length co) O) := Lib.hid (own_keep HO1.out (fun k hk hl => by rw [← hW3, ← hW2]; exact (heap_setCell_other _ ⟨g, 2, none⟩ k _ (HOG.out k hk)).trans (heap_setCell_other _ ⟨g, 1, none⟩ k _ (HOG.out k hk))))
          have hnil := str_nil T
          clear hg2 hg3 hT y0 y1 y2
          rw [hW2]
          by_cases h0 : T.length = 0
          · rw [decide_eq_true h0] at hnil
            have HSTP : Hid (O ++ outF ks (F.drop (j + 1)) (at_ + 1) = outF ks F 0) := Lib.hid (by
              rw [← HEQ.out, HST.out, if_neg HLN.out]
              have : sL ks at_ f = 0 := by have := HT.out; have h1 := HM.out; rw [← HT.out, List.length_take] at h0; have := HSF.out; omega
              rw [if_pos this])
            clear h0
            go_wp2_with fail
            go_roundw
            case rel => exact ⟨j + 1, at_ + 1, O, .slice ao O.length co, by omega, by omega, rfl, by go_num, by go_num, Lib.hid (by have := HOL.out; omega), HB3, HO3, HSTP⟩
            case measure => simp [intOf]; omega
          · rw [decide_eq_false h0] at hnil
            have HSTP : Hid ((O ++ [⟨f.name, T, T.length⟩]) ++ outF ks (F.drop (j + 1)) (at_ + 1) = outF ks F 0) := Lib.hid (by
              rw [← HEQ.out, HST.out, if_neg HLN.out]
              have h1 := HM.out
              have h2 := HSF.out
              have h3 : ¬ sL ks at_ f = 0 := by rw [← HT.out, List.length_take] at h0; omega
              rw [if_neg h3, h1, Int.toNat_natCast, HT.out, List.append_assoc]
              have h4 : T.length = m := by rw [← HT.out, List.length_take]; omega
              rw [h4]; rfl)
            clear h0
            obtain ⟨g3, hg3⟩ : ∃ z, W3.heap.size = z := ⟨_, rfl⟩
            obtain ⟨W4, hW4⟩ : ∃ z, W3.alloc (.cells #[.string f.name, .string (strOfNums T), .int .i64 (T.length : Int)] TE) = z := ⟨_, rfl⟩
            have HN4 : Hid (SlR 3 rfC W4 (.slice (some ⟨g3, 0, none⟩) 1 1) [(⟨f.name, T, T.length⟩ : Fl)]) := Lib.hid (by rw [← hW4]; exact SlR.one rfC_len W3 _ hg3 _ (⟨f.name, T, T.length⟩ : Fl) rfl)
            have HB4 : Hid (Below w.heap.size w W4) := Lib.hid (by rw [← hW4]; exact (HB3.out).alloc (HB3.out).size _)
            have HO4 : Hid (OwnR 3 rfC TE W4 w.heap.size (.slice ao O.length co) O) := Lib.hid (by rw [← hW4]; exact OwnR.alloc (HO3.out) _)
            have HZ4 : Hid (w.heap.size ≤ W4.heap.size) := Lib.hid HB4.out.size
            go_wp2_with (at_builtin; refine appR rfC_len rfC_one Try.underlying53 rfl (by decide) info_rf rfl _ _ rfl w.heap.size (.slice ao O.length co) O rfl HO4.out (.slice (some ⟨g3, 0, none⟩) 1 1) [(⟨f.name, T, T.length⟩ : Fl)] rfl HN4.out (by have := HOL.out; (try simp only [List.length_singleton]); unfold maxLen; omega) (by have := HOL.out; (try simp only [List.length_singleton]); omega) HZ4.out ?_; intro v5 w5 own' hb'; have HO5 := Lib.hid own'; have HB5 : Hid (Below w.heap.size w w5) := Lib.hid (HB4.out.trans hb'); clear own' hb')
            go_roundw
            case rel => exact ⟨j + 1, at_ + 1, O ++ [⟨f.name, T, T.length⟩], v5, by omega, by omega, rfl, by go_num, by go_num, Lib.hid (by have := HOL.out; rw [List.length_append, List.length_singleton]; omega), HB5, HO5, HSTP⟩
            case measure => simp [intOf]; omega

        · have haki : ¬ (at_ : Int) < (ks.length : Int) := by omega
          have dk : decide (at_ < ks.length) = false := decide_eq_false hak
          have HM : Hid (sL ks at_ f = f.safe) := Lib.hid (by unfold sL keptL; rw [List.getElem?_eq_none (by omega)]; simp only; omega)
          have hmw : IntKind.i64.wrap (f.safe : Int) = (f.safe : Int) := by rw [IntKind.wrap_i64]; omega
          have hml : f.safe ≤ f.zs.length := by omega
          have hmi : (f.safe : Int) ≤ (f.zs.length : Int) := by omega
          go_upto_region 12 with fail
          rw [ext_take]
          obtain ⟨T, hT⟩ : ∃ z, f.zs.take f.safe = z := ⟨_, rfl⟩
          have HT := Lib.hid hT
          rw [hT]
          obtain ⟨W2, hW2⟩ : ∃ z, W1.setCell ⟨g, 1, none⟩ (.string (strOfNums T)) = z := ⟨_, rfl⟩
          obtain ⟨W3, hW3⟩ : ∃ z, W2.setCell ⟨g, 2, none⟩ (.int .i64 (T.length : Int)) = z := ⟨_, rfl⟩
          have hg2 : W2.heap[g]? = some (.cells #[.string f.name, .string (strOfNums T), .int .i64 f.safe] TE (0, 0)) := by rw [← hW2]; exact (heap_setCell_same W1 g 1 _ _ _ HG1.out).trans rfl
          have hg3 : W3.heap[g]? = some (.cells #[.string f.name, .string (strOfNums T), .int .i64 (T.length : Int)] TE (0, 0)) := by rw [← hW3]; exact (heap_setCell_same W2 g 2 _ _ _ hg2).trans rfl
          have u1 : W2.cell? ⟨g, 1, none⟩ = some (.string (strOfNums T)) := (cell_of_row _ _ 1 _ _ _ hg2).trans rfl
          have u2 : W2.cell? ⟨g, 2, none⟩ = some (.int .i64 (f.safe : Int)) := (cell_of_row _ _ 2 _ _ _ hg2).trans rfl
          have uz : W2.frozen? ⟨g, 2, none⟩ = false := frozen_of_row _ _ _ _ _ hg2
          have v0 : W3.cell? ⟨g, 0, none⟩ = some (.string f.name) := (cell_of_row _ _ 0 _ _ _ hg3).trans rfl
          have v1 : W3.cell? ⟨g, 1, none⟩ = some (.string (strOfNums T)) := (cell_of_row _ _ 1 _ _ _ hg3).trans rfl
          have v2 : W3.cell? ⟨g, 2, none⟩ = some (.int .i64 (T.length : Int)) := (cell_of_row _ _ 2 _ _ _ hg3).trans rfl
          have hszT : (strOfNums T).size = T.length := strOfNums_size _
          have HB3 : Hid (Below w.heap.size w W3) := Lib.hid (by rw [← hW3, ← hW2]; exact (HBW.out.setCell HGG.out _).setCell HGG.out _)
          have HO3 : Hid (OwnR 3 rfC TE W3 w.heap.size (.slice ao O.length co) O) := Lib.hid (own_keep HO1.out (fun k hk hl => by rw [← hW3, ← hW2]; exact (heap_setCell_other _ ⟨g, 2, none⟩ k _ (HOG.out k hk)).trans (heap_setCell_other _ ⟨g, 1, none⟩ k _ (HOG.out k hk))))
          have hnil := str_nil T
          clear hg2 hg3 hT y0 y1 y2
          rw [hW2]
          by_cases h0 : T.length = 0
          · rw [decide_eq_true h0] at hnil
            have HSTP : Hid (O ++ outF ks (F.drop (j + 1)) (at_ + 1) = outF ks F 0) := Lib.hid (by
              rw [← HEQ.out, HST.out, if_neg HLN.out]
              have : sL ks at_ f = 0 := by have := HT.out; have h1 := HM.out; rw [← HT.out, List.length_take] at h0; have := HSF.out; omega
              rw [if_pos this])
            clear h0
            go_wp2_with fail
            go_roundw
            case rel => exact ⟨j + 1, at_ + 1, O, .slice ao O.length co, by omega, by omega, rfl, by go_num, by go_num, Lib.hid (by have := HOL.out; omega), HB3, HO3, HSTP⟩
            case measure => simp [intOf]; omega
          · rw [decide_eq_false h0] at hnil
            have HSTP : Hid ((O ++ [⟨f.name, T, T.length⟩]) ++ outF ks (F.drop (j + 1)) (at_ + 1) = outF ks F 0) := Lib.hid (by
              rw [← HEQ.out, HST.out, if_neg HLN.out]
              have h1 := HM.out
              have h2 := HSF.out
              have h3 : ¬ sL ks at_ f = 0 := by rw [← HT.out, List.length_take] at h0; omega
              rw [if_neg h3, h1, Int.toNat_natCast, HT.out, List.append_assoc]
              have h4 : T.length = f.safe := by rw [← HT.out, List.length_take]; omega
              rw [h4]; rfl)
            clear h0
            obtain ⟨g3, hg3⟩ : ∃ z, W3.heap.size = z := ⟨_, rfl⟩
            obtain ⟨W4, hW4⟩ : ∃ z, W3.alloc (.cells #[.string f.name, .string (strOfNums T), .int .i64 (T.length : Int)] TE) = z := ⟨_, rfl⟩
            have HN4 : Hid (SlR 3 rfC W4 (.slice (some ⟨g3, 0, none⟩) 1 1) [(⟨f.name, T, T.length⟩ : Fl)]) := Lib.hid (by rw [← hW4]; exact SlR.one rfC_len W3 _ hg3 _ (⟨f.name, T, T.length⟩ : Fl) rfl)
            have HB4 : Hid (Below w.heap.size w W4) := Lib.hid (by rw [← hW4]; exact (HB3.out).alloc (HB3.out).size _)
            have HO4 : Hid (OwnR 3 rfC TE W4 w.heap.size (.slice ao O.length co) O) := Lib.hid (by rw [← hW4]; exact OwnR.alloc (HO3.out) _)
            have HZ4 : Hid (w.heap.size ≤ W4.heap.size) := Lib.hid HB4.out.size
            go_wp2_with (at_builtin; refine appR rfC_len rfC_one Try.underlying53 rfl (by decide) info_rf rfl _ _ rfl w.heap.size (.slice ao O.length co) O rfl HO4.out (.slice (some ⟨g3, 0, none⟩) 1 1) [(⟨f.name, T, T.length⟩ : Fl)] rfl HN4.out (by have := HOL.out; (try simp only [List.length_singleton]); unfold maxLen; omega) (by have := HOL.out; (try simp only [List.length_singleton]); omega) HZ4.out ?_; intro v5 w5 own' hb'; have HO5 := Lib.hid own'; have HB5 : Hid (Below w.heap.size w w5) := Lib.hid (HB4.out.trans hb'); clear own' hb')
            go_roundw
            case rel => exact ⟨j + 1, at_ + 1, O ++ [⟨f.name, T, T.length⟩], v5, by omega, by omega, rfl, by go_num, by go_num, Lib.hid (by have := HOL.out; rw [List.length_append, List.length_singleton]; omega), HB5, HO5, HSTP⟩
            case measure => simp [intOf]; omega

    · obtain rfl : j = F.length := by omega
      have HFE : Hid (O = crashF ks F) := Lib.hid (by
        rw [← HCRO.out, ← HEQ.out, List.drop_length]
        show O = O ++ []
        rw [List.append_nil])
      have HBR := H.out.below HB.out
      have cq := HBR.c0
      have zq := HBR.z 0
      have HL1 := Lib.hid (H.out.put (Below.only HB.out S) (HB.out.block q (H.out.low q H.out.sq)) HO.out)
      clear HBR
      obtain ⟨Wa, hWa⟩ : ∃ z, wr.setCell ⟨q, 0, none⟩ (.slice ao O.length co) = z := ⟨_, rfl⟩
      rw [hWa] at HL1
      obtain ⟨⟨Va, hva⟩, -⟩ := HL1.out
      have ca2 := hva.c2
      have za2 := hva.z 2
      have HL2 := Lib.hid (HL1.out.trans (hva.turn2 true))
      obtain ⟨Wb, hWb⟩ : ∃ z, Wa.setCell ⟨q, 2, none⟩ (.bool true) = z := ⟨_, rfl⟩
      rw [hWb] at HL2
      obtain ⟨⟨Vb, hvb⟩, -⟩ := HL2.out
      have cb1 := hvb.c1
      have zb1 := hvb.z 1
      have HL3 := Lib.hid (HL2.out.trans (hvb.turn1 (-1)))
      clear hva hvb
      go_wp2_with fail
      go_end0
      exact ⟨rfl, by rw [← HFE.out]; exact HL3.out⟩
set_option maxHeartbeats 8000000 in
theorem rpower_any (w : World) (h : RdV w S q vF arm off F) (hs : OkF n F) (hn : n ≤ 1000000000) : Calls Try.prog 27 #[.pointer (some ⟨q, 0, none⟩)] w fun e w' => e = .returned (.tuple #[]) ∧ RLeftS S q w w' (powS ⟨!off, arm, F⟩) := by
  have H := Lib.hid h
  have HS := Lib.hid hs
  have HN := Lib.hid hn
  have c2 := h.c2
  have z2 := h.z 2
  cases off
  · have HE : Hid (powS ⟨!false, arm, F⟩ = ⟨true, arm, F⟩) := Lib.hid (by unfold powS; rfl)
    have HL := Lib.hid (h.leftB (Below.refl _ _))
    clear h hs hn
    go_enter Try.func27, Try.ntmps27
    go_wp2_with fail
    go_end0
    exact ⟨rfl, by unfold RLeftS; rw [HE.out]; exact HL.out⟩
  · have HE : Hid (powS ⟨!true, arm, F⟩ = ⟨true, -1, crashF [] F⟩) := Lib.hid (by unfold powS; rfl)
    clear h hs hn
    go_enter Try.func27, Try.ntmps27
    go_wp2_with fail
    refine (rcrash_any _ [] w H.out HS.out HN.out (fun w' _ => slr_nil w')).mono ?_
    rintro e w2 ⟨rfl, hl⟩
    have HL2 := Lib.hid hl
    obtain ⟨⟨v2, hv2⟩, -⟩ := hl
    have c22 := hv2.c2
    have z22 := hv2.z 2
    have HL3 := Lib.hid (HL2.out.trans (hv2.turn2 false))
    clear hv2
    go_wp2_with fail
    go_end0
    exact ⟨rfl, by unfold RLeftS; rw [HE.out]; exact HL3.out⟩
end Rk
end Go.Proofs.Ytfaifdidillkaaa
