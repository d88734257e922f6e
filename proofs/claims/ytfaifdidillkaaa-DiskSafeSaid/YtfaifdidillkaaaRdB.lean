/- The document's disk: put. No condition. -/
import Derived.Test.YtfaifdidillkaaaRdA
namespace Go.Proofs.Ytfaifdidillkaaa
open Go.ChangeShapes Go.WideShapes Go.ChangeAt Go.RowKit Go.Deep
set_option linter.unusedVariables false
set_option maxRecDepth 100000
set_option linter.unusedSimpArgs false
namespace Rk
open Dk
variable {w w' : World} {S : Nat → Prop} {q : Nat} {vF : Value} {arm : Int} {off : Bool} {F : List Fl} {n : Nat}
theorem str_app (xs ys : List Int) : strOfNums xs ++ strOfNums ys = strOfNums (xs ++ ys) := by
  apply ByteArray.ext
  apply Array.toList_inj.1
  rw [strOfNums_data, List.map_append, ← strOfNums_data xs, ← strOfNums_data ys]
  simp
theorem flat_set {u : Value} {j : Nat} {f f' : Fl} (hj : j < 3) (hr : rfC f' = (rfC f).set j u) : ∀ (F : List Fl) (k : Nat), F[k]? = some f → (F.flatMap rfC).set (k * 3 + j) u = (F.set k f').flatMap rfC
  | [], k, h => by simp at h
  | x :: F, 0, h => by
    simp only [List.getElem?_cons_zero, Option.some.injEq] at h
    subst h
    rw [List.set_cons_zero, List.flatMap_cons, List.flatMap_cons, hr, Nat.zero_mul, Nat.zero_add, List.set_append_left _ _ (by rw [rfC_len]; exact hj)]
  | x :: F, k + 1, h => by
    have := flat_set hj hr F k (by simpa using h)
    rw [List.set_cons_succ, List.flatMap_cons, List.flatMap_cons, ← this]
    show (rfC x ++ F.flatMap rfC).set ((k + 1) * 3 + j) u = _
    rw [show (k + 1) * 3 + j = (k * 3 + j) + 1 + 1 + 1 by omega]
    rfl
theorem set_at {f f' : Fl} {k : Nat} (hs : SrtF F) (hk : F[k]? = some f) (hn : f'.name = f.name) : updF F f' = F.set k f' := by
  obtain ⟨hlt, hx⟩ := List.getElem?_eq_some_iff.1 hk
  have hfd : (fndL F f'.name).isSome = true := by rw [hn, hs.fnd (List.mem_of_getElem? hk)]; rfl
  unfold updF
  rw [if_pos hfd]
  apply List.ext_getElem?
  intro i
  unfold setF
  rw [List.getElem?_map, List.getElem?_set]
  by_cases e : k = i
  · subst e
    rw [if_pos rfl, if_pos hlt, hk]
    simp [hn]
  · rw [if_neg e]
    cases hi : F[i]? with
    | none => rfl
    | some g =>
      have hne : g.name ≠ f'.name := fun q => by
        obtain ⟨hi2, hg⟩ := List.getElem?_eq_some_iff.1 hi
        have hpw := List.pairwise_iff_getElem.1 hs
        rcases Nat.lt_or_ge i k with h | h
        · have := hpw i k hi2 hlt h
          rw [hg, hx, q, hn] at this
          exact nm_irrefl _ this
        · have := hpw k i hlt hi2 (by omega)
          rw [hg, hx, q, hn] at this
          exact nm_irrefl _ this
      simp [hne]
theorem ins_at {f : Fl} : ∀ {F : List Fl} {k : Nat}, (∀ g ∈ F.take k, nmLt g.name f.name) → k ≤ F.length → (∀ g, F[k]? = some g → ¬ nmLt g.name f.name) → insF F f = F.take k ++ f :: F.drop k
  | [], k, _, hk, _ => by
    obtain rfl : k = 0 := by simpa using hk
    rfl
  | a :: F, 0, _, _, h => by
    have := h a rfl
    unfold insF
    rw [if_neg this]; rfl
  | a :: F, k + 1, h1, hk, h2 => by
    unfold insF
    rw [if_pos (h1 a (by simp))]
    rw [ins_at (F := F) (k := k) (fun g hg => h1 g (by simp [hg])) (by simpa using hk) (fun g hg => h2 g (by simpa using hg))]
    rfl
/-- a cell of a file turned -/
theorem RdV.turnF {g cap k j : Nat} {u : Value} {f f' : Fl} (h : RdV w S q (.slice (some ⟨g, 0, none⟩) F.length cap) arm off F) (hk : F[k]? = some f) (hj : j < 3) (hr : rfC f' = (rfC f).set j u) : RLeft S q w (w.setCell ⟨g, k * 3 + j, none⟩ u) arm off (F.set k f') := by
  have hqg : q ≠ g := fun e => h.ne g rfl e.symm
  have hst := (World.ownsRow.stored h.own (k * 3 + j) u).1
  rw [flat_set hj hr F k hk] at hst
  refine ⟨⟨.slice (some ⟨g, 0, none⟩) F.length cap, RdV.grow ⟨(heap_setCell_other w ⟨g, k * 3 + j, none⟩ q _ hqg).trans h.row, ?_, h.sq, h.sf, fun k hk => by simpa [World.setCell] using h.low k hk⟩⟩, Only.setCell w ⟨g, _, none⟩ _ (h.sf g rfl)⟩
  unfold OwnR
  rw [List.length_set]
  exact hst
theorem lt_str (a b : ByteArray) : Op.bytesLess a.toList b.toList = decide (nmLt a b) := by
  rw [ByteArray.toList_eq, ByteArray.toList_eq, bytesLess_eq]
  rfl
theorem str_nil (zs : List Int) : (strOfNums zs).toList.isEmpty = decide (zs.length = 0) := by
  rw [ByteArray.toList_eq, strOfNums_data]
  cases zs <;> simp
def RLeftS (S : Nat → Prop) (q : Nat) (w w' : World) (s : St) : Prop := RLeft S q w w' s.left (!s.on) s.F
set_option maxHeartbeats 16000000 in
theorem rput_any (x : ByteArray) (zs : List Int) (w : World) (h : RdV w S q vF arm off F) (hs : OkF n F) (hn : n + zs.length ≤ 1000000000) (hxs : x.size ≤ maxLen) :
    Calls Try.prog 39 #[.pointer (some ⟨q, 0, none⟩), .string x, .string (strOfNums zs)] w fun e w' => e = .returned (.tuple #[]) ∧ RLeft S q w w' arm off (addF F x zs) := by
  have hz := str_nil zs
  have hsz : (strOfNums zs).size = zs.length := strOfNums_size zs
  have H := Lib.hid h
  have HS := Lib.hid hs
  have HN := Lib.hid hn
  have hcnt := hs.cnt
  by_cases h0 : zs.length = 0
  · rw [decide_eq_true h0] at hz
    have HF : Hid (RLeft S q w w arm off (addF F x zs)) := Lib.hid (by unfold addF; rw [if_pos h0]; exact h.leftB (Below.refl _ _))
    clear h hs h0
    go_enter Try.func39, Try.ntmps39
    go_wp2_with fail
    (try simp only [Exit.inBlock, Exit.then])
    refine bodyPost_ret (results_none rfl _ _ _) rfl ?_
    exact ⟨rfl, HF.out⟩
  rw [decide_eq_false h0] at hz
  have HZ0 := Lib.hid h0
  clear h hs h0 hn
  go_enter Try.func39, Try.ntmps39
  go_wp2_with fail
  refine (rfind_any x w H.out HS.out).mono ?_
  rintro e w2 ⟨z, rfl, hfp, hb⟩
  have HL2 := Lib.hid (H.out.leftB hb)
  obtain ⟨⟨v2, hv2⟩, -⟩ := HL2.out
  have H2 := Lib.hid hv2
  clear hb hv2
  obtain ⟨a, cap, hvF⟩ := own_slice H2.out.own
  subst hvF
  have c0 := H2.out.c0
  rcases hfp with ⟨rfl, hfd⟩ | ⟨k, f, rfl, hk, hnm, hfd⟩
  · have HFN := Lib.hid (fnd_none hfd)
    have HAD : Hid (addF F x zs = insF F ⟨x, zs, 0⟩) := Lib.hid (by
      unfold addF updF oldF
      rw [if_neg HZ0.out]
      simp only [hfd, Option.getD_none, Option.isSome_none, List.nil_append]
      rw [if_neg (by simp)])
    clear hfd
    go_wp2_with fail
    go_loop [7] (fun i => ∃ k : Nat, k ≤ F.length ∧ i = .int .i64 (k : Int) ∧ Hid (∀ g ∈ F.take k, nmLt g.name x)) (fun i => F.length - (intOf i).toNat)
    case atStart => exact ⟨0, Nat.zero_le _, rfl, Lib.hid (by simp)⟩
    case round =>
      obtain ⟨j, hj, rfl, HU⟩ := hrel
      by_cases hlt : j < F.length
      · have hlti : (j : Int) < (F.length : Int) := by omega
        have d1 : decide ((j : Int) < (F.length : Int)) = true := decide_eq_true hlti
        have d1b : decide (j < F.length) = true := decide_eq_true hlt
        obtain ⟨g, cg, cur, e1, -⟩ : ∃ g c cur, Value.slice a F.length cap = .slice (some ⟨g, 0, none⟩) F.length c ∧ w2.heap[g]? = some (.cells cur TE (0, 0)) := by
          rcases own_form H2.out.own with ⟨e, h0⟩ | ⟨g, c, cur, e, hg, -⟩
          · omega
          · exact ⟨g, c, cur, e, hg⟩
        simp only [Value.slice.injEq] at e1
        obtain ⟨rfl, -, rfl⟩ := e1
        obtain ⟨y, hy⟩ : ∃ y, F[j]? = some y := ⟨_, rgetD hlt⟩
        have hsl := H2.out.own.sl rfC_len
        obtain ⟨b, off', cp, e2, -, hlc, hcm, hbl, hcs⟩ : ∃ b off cp, Value.slice (some ⟨g, 0, none⟩) F.length cap = .slice (some ⟨b, off, none⟩) F.length cp ∧ 0 < F.length ∧ F.length ≤ cp ∧ cp ≤ 9223372036854775807 ∧ b < w2.heap.size ∧ ∀ i x, F[i]? = some x → ∀ j u, (rfC x)[j]? = some u → w2.cell? ⟨b, off + (i * 3 + j), none⟩ = some u := by
          rcases SlR.cases hsl with ⟨a2, c2, e, hnil⟩ | h
          · rw [hnil] at hlt; simp at hlt
          · exact h
        simp only [Value.slice.injEq, Option.some.injEq, Addr.mk.injEq] at e2
        obtain ⟨⟨rfl, rfl, -⟩, -, rfl⟩ := e2
        obtain ⟨y0, y1, y2⟩ := rfC_cells (w := w2) (b := g) (o := j * 3) (fun i u hu => by have := hcs j y hy i u hu; rwa [Nat.zero_add] at this)
        by_cases hnl : nmLt y.name x
        · have d2 : Op.bytesLess y.name.toList x.toList = true := by rw [lt_str, decide_eq_true hnl]
          have HU2 : Hid (∀ g ∈ F.take (j + 1), nmLt g.name x) := Lib.hid (by
            rw [List.take_add_one, hy]
            intro g hg
            rcases List.mem_append.1 hg with hg | hg
            · exact HU.out g hg
            · simp at hg; subst hg; exact hnl)
          clear hcs hy hsl hnl
          go_wp2_with fail
          go_round
          case rel => exact ⟨j + 1, by omega, by go_num, HU2⟩
          case measure => simp [intOf]; omega
        · have d2 : Op.bytesLess y.name.toList x.toList = false := by rw [lt_str, decide_eq_false hnl]
          have HIC : Hid (insF F ⟨x, zs, 0⟩ = F.take j ++ (⟨x, zs, 0⟩ : Fl) :: F.drop j) := Lib.hid (ins_at HU.out hj (fun g hg => by rw [hy] at hg; cases hg; exact hnl))
          have HTK := Lib.hid (hsl.takes j (by omega))
          have HDP := Lib.hid (hsl.drops j (by omega))
          have hne : ¬ cap = j := by omega
          have hne2 : ¬ j = cap := by omega
          clear hy hsl hcs hnl
          go_upto_region 7 with fail
          clear y0 y1 y2
          have HTL : Hid ((F.take j).length ≤ 64 ∧ (F.take j ++ [(⟨x, zs, 0⟩ : Fl)]).length ≤ 65 ∧ (F.drop j).length ≤ 64) := Lib.hid (by simp only [List.length_append, List.length_take, List.length_drop, List.length_singleton]; omega)
          go_wp2_with (first
            | (at_builtin; refine appR rfC_len rfC_one Try.underlying53 rfl (by decide) info_rf rfl _ _ rfl w2.heap.size (.slice none 0 0) ([] : List Fl) rfl (OwnR.nil _ _ _) (.slice (some ⟨g, 0, none⟩) j cap) (F.take j) rfl HTK.out (by have := HTL.out.1; (try simp only [List.length_singleton, List.length_nil]); unfold maxLen; omega) (by have := HTL.out.1; (try simp only [List.length_singleton, List.length_nil]); omega) (Nat.le_refl _) ?_; intro v3 w3 own' hb'; rw [List.nil_append] at own'; obtain ⟨n3, hn3⟩ : ∃ x, (F.take j).length = x := ⟨_, rfl⟩; obtain ⟨a3, c3, hv3⟩ := own_slice own'; rw [hn3] at hv3; subst hv3; obtain ⟨W3, hW3⟩ : ∃ zz, w3.alloc (.cells #[.string x, .string (strOfNums zs), .int .i64 0] TE) = zz := ⟨_, rfl⟩; have HN1 : Hid (SlR 3 rfC W3 (.slice (some ⟨w3.heap.size, 0, none⟩) 1 1) [(⟨x, zs, 0⟩ : Fl)]) := Lib.hid (by rw [← hW3]; exact SlR.one rfC_len w3 _ rfl _ ⟨x, zs, 0⟩ rfl); have hbW : Below w2.heap.size w2 W3 := (by rw [← hW3]; exact hb'.alloc hb'.size _); have HB3 := Lib.hid hbW; have HO3 : Hid (OwnR 3 rfC TE W3 w2.heap.size (.slice a3 n3 c3) (F.take j)) := Lib.hid (by rw [← hW3]; exact own'.alloc _); have HS3 : Hid (w2.heap.size ≤ W3.heap.size) := Lib.hid hbW.size; clear hbW; clear own' hb')
            | (at_builtin; refine appR rfC_len rfC_one Try.underlying53 rfl (by decide) info_rf rfl _ _ rfl w2.heap.size (.slice a3 n3 c3) (F.take j) rfl HO3.out (.slice (some ⟨w3.heap.size, 0, none⟩) 1 1) [(⟨x, zs, 0⟩ : Fl)] rfl HN1.out (by have := HTL.out.1; (try simp only [List.length_singleton, List.length_nil]); unfold maxLen; omega) (by have := HTL.out.1; (try simp only [List.length_singleton, List.length_nil]); omega) HS3.out ?_; intro v4 w4 own' hb'; obtain ⟨n4, hn4⟩ : ∃ x', (F.take j ++ [(⟨x, zs, 0⟩ : Fl)]).length = x' := ⟨_, rfl⟩; obtain ⟨a4, c4, hv4⟩ := own_slice own'; rw [hn4] at hv4; subst hv4; have hb4w := HB3.out.trans hb'; have HS4 := Lib.hid hb4w.size; have HO4 := Lib.hid own'; have HB4 := Lib.hid hb4w; have HDP4 := Lib.hid (HDP.out.below hb4w (Nat.le_refl _)); have c4q := (H2.out.below hb4w).c0; clear hb4w; clear own' hb')
            | (at_builtin; refine appR rfC_len rfC_one Try.underlying53 rfl (by decide) info_rf rfl _ _ rfl w2.heap.size (.slice a4 n4 c4) (F.take j ++ [(⟨x, zs, 0⟩ : Fl)]) rfl HO4.out (.slice (some ⟨g, j * 3, none⟩) (F.length - j) (cap - j)) (F.drop j) rfl HDP4.out (by have := HTL.out; (try simp only [List.length_singleton, List.length_nil]); unfold maxLen; omega) (by have := HTL.out; (try simp only [List.length_singleton, List.length_nil]); omega) HS4.out ?_; intro v5 w5 own' hb'; rw [List.append_assoc, List.singleton_append, ← HIC.out] at own'; obtain ⟨n5, hn5⟩ : ∃ x', (insF F ⟨x, zs, 0⟩).length = x' := ⟨_, rfl⟩; obtain ⟨a5, c5, hv5⟩ := own_slice own'; rw [hn5] at hv5; subst hv5; have hb5w := HB4.out.trans hb'; have HL5 := Lib.hid (H2.out.put (Below.only hb5w _) (hb5w.block q (H2.out.low q H2.out.sq)) own'); have c5q := (H2.out.below hb5w).c0; have f5q := (H2.out.below hb5w).z 0; clear hb5w; clear own' hb'))
          go_end0
          exact ⟨rfl, by rw [HAD.out]; exact HL2.out.trans HL5.out⟩
      · have hlti : ¬ (j : Int) < (F.length : Int) := by omega
        have d1 : decide ((j : Int) < (F.length : Int)) = false := decide_eq_false hlti
        have d1b : decide (j < F.length) = false := decide_eq_false hlt
        have hjl : j = F.length := by omega
        have HIC : Hid (insF F ⟨x, zs, 0⟩ = F.take j ++ (⟨x, zs, 0⟩ : Fl) :: F.drop j) := Lib.hid (ins_at HU.out hj (fun g hg => by rw [List.getElem?_eq_none (by omega)] at hg; cases hg))
        rcases own_form H2.out.own with ⟨e2, hz0⟩ | ⟨g, cg, cur, e2, -⟩
        · simp only [Value.slice.injEq] at e2
          obtain ⟨rfl, -, rfl⟩ := e2
          have hF : F = [] := List.eq_nil_of_length_eq_zero hz0
          have hj0 : j = 0 := by omega
          have HTK : Hid (SlR 3 rfC w2 (.slice none 0 0) (F.take j)) := Lib.hid (by rw [hF]; simpa using SlR.nil w2)
          have HDP : Hid (SlR 3 rfC w2 (.slice none 0 0) (F.drop j)) := Lib.hid (by rw [hF]; simpa using SlR.nil w2)
          rw [hz0] at c0 hlti
          have hcz := hz0
          have d3 : decide ((j : Int) < 0) = false := decide_eq_false (by omega)
          clear hF
          go_upto_region 7 with fail
          clear hjl
          obtain rfl := hj0
          have hq0 : F.length = 0 := hz0
          have HTL : Hid ((F.take 0).length ≤ 64 ∧ (F.take 0 ++ [(⟨x, zs, 0⟩ : Fl)]).length ≤ 65 ∧ (F.drop 0).length ≤ 64) := Lib.hid (by simp only [List.length_append, List.length_take, List.length_drop, List.length_singleton]; omega)
          go_wp2_with (first
            | (at_builtin; refine appR rfC_len rfC_one Try.underlying53 rfl (by decide) info_rf rfl _ _ rfl w2.heap.size (.slice none 0 0) ([] : List Fl) rfl (OwnR.nil _ _ _) (.slice none 0 0) (F.take 0) rfl HTK.out (by have := HTL.out.1; (try simp only [List.length_singleton, List.length_nil]); unfold maxLen; omega) (by have := HTL.out.1; (try simp only [List.length_singleton, List.length_nil]); omega) (Nat.le_refl _) ?_; intro v3 w3 own' hb'; rw [List.nil_append] at own'; obtain ⟨n3, hn3⟩ : ∃ x, (F.take 0).length = x := ⟨_, rfl⟩; obtain ⟨a3, c3, hv3⟩ := own_slice own'; rw [hn3] at hv3; subst hv3; obtain ⟨W3, hW3⟩ : ∃ zz, w3.alloc (.cells #[.string x, .string (strOfNums zs), .int .i64 0] TE) = zz := ⟨_, rfl⟩; have HN1 : Hid (SlR 3 rfC W3 (.slice (some ⟨w3.heap.size, 0, none⟩) 1 1) [(⟨x, zs, 0⟩ : Fl)]) := Lib.hid (by rw [← hW3]; exact SlR.one rfC_len w3 _ rfl _ ⟨x, zs, 0⟩ rfl); have hbW : Below w2.heap.size w2 W3 := (by rw [← hW3]; exact hb'.alloc hb'.size _); have HB3 := Lib.hid hbW; have HO3 : Hid (OwnR 3 rfC TE W3 w2.heap.size (.slice a3 n3 c3) (F.take 0)) := Lib.hid (by rw [← hW3]; exact own'.alloc _); have HS3 : Hid (w2.heap.size ≤ W3.heap.size) := Lib.hid hbW.size; clear hbW; clear own' hb')
            | (at_builtin; refine appR rfC_len rfC_one Try.underlying53 rfl (by decide) info_rf rfl _ _ rfl w2.heap.size (.slice a3 n3 c3) (F.take 0) rfl HO3.out (.slice (some ⟨w3.heap.size, 0, none⟩) 1 1) [(⟨x, zs, 0⟩ : Fl)] rfl HN1.out (by have := HTL.out.1; (try simp only [List.length_singleton, List.length_nil]); unfold maxLen; omega) (by have := HTL.out.1; (try simp only [List.length_singleton, List.length_nil]); omega) HS3.out ?_; intro v4 w4 own' hb'; obtain ⟨n4, hn4⟩ : ∃ x', (F.take 0 ++ [(⟨x, zs, 0⟩ : Fl)]).length = x' := ⟨_, rfl⟩; obtain ⟨a4, c4, hv4⟩ := own_slice own'; rw [hn4] at hv4; subst hv4; have hb4w := HB3.out.trans hb'; have HS4 := Lib.hid hb4w.size; have HO4 := Lib.hid own'; have HB4 := Lib.hid hb4w; have HDP4 := Lib.hid (HDP.out.below hb4w (Nat.le_refl _)); have c4q := (H2.out.below hb4w).c0; clear hb4w; clear own' hb')
            | (at_builtin; refine appR rfC_len rfC_one Try.underlying53 rfl (by decide) info_rf rfl _ _ rfl w2.heap.size (.slice a4 n4 c4) (F.take 0 ++ [(⟨x, zs, 0⟩ : Fl)]) rfl HO4.out (.slice none 0 0) (F.drop 0) rfl HDP4.out (by have := HTL.out; (try simp only [List.length_singleton, List.length_nil]); unfold maxLen; omega) (by have := HTL.out; (try simp only [List.length_singleton, List.length_nil]); omega) HS4.out ?_; intro v5 w5 own' hb'; rw [List.append_assoc, List.singleton_append, ← HIC.out] at own'; obtain ⟨n5, hn5⟩ : ∃ x', (insF F ⟨x, zs, 0⟩).length = x' := ⟨_, rfl⟩; obtain ⟨a5, c5, hv5⟩ := own_slice own'; rw [hn5] at hv5; subst hv5; have hb5w := HB4.out.trans hb'; have HL5 := Lib.hid (H2.out.put (Below.only hb5w _) (hb5w.block q (H2.out.low q H2.out.sq)) own'); have c5q := (H2.out.below hb5w).c0; have f5q := (H2.out.below hb5w).z 0; clear hb5w; clear own' hb'))
          go_end0
          exact ⟨rfl, by rw [HAD.out]; exact HL2.out.trans HL5.out⟩
        · simp only [Value.slice.injEq] at e2
          obtain ⟨rfl, -, rfl⟩ := e2
          have hjg : F.length ≤ j := by omega
          clear hjl
          have hsl := H2.out.own.sl rfC_len
          have hlc : F.length ≤ cap := by
            obtain ⟨_, _, e, h1, -⟩ := hsl
            simp only [Value.slice.injEq] at e
            omega
          have hjc : j ≤ cap := by omega
          have hjci : (j : Int) ≤ (cap : Int) := by omega
          have HTK := Lib.hid (hsl.takes j (by omega))
          go_upto_region 7 with fail
          by_cases hc : cap = j
          · subst hc
            have HDP : Hid (SlR 3 rfC w2 (.slice (some ⟨g, 0, none⟩) 0 0) (F.drop cap)) := Lib.hid (by rw [List.drop_of_length_le (by omega)]; exact SlR.none_left _ _)
            clear hsl
            have HTL : Hid ((F.take cap).length ≤ 64 ∧ (F.take cap ++ [(⟨x, zs, 0⟩ : Fl)]).length ≤ 65 ∧ (F.drop cap).length ≤ 64) := Lib.hid (by simp only [List.length_append, List.length_take, List.length_drop, List.length_singleton]; omega)
            go_wp2_with (first
              | (at_builtin; refine appR rfC_len rfC_one Try.underlying53 rfl (by decide) info_rf rfl _ _ rfl w2.heap.size (.slice none 0 0) ([] : List Fl) rfl (OwnR.nil _ _ _) (.slice (some ⟨g, 0, none⟩) cap cap) (F.take cap) rfl HTK.out (by have := HTL.out.1; (try simp only [List.length_singleton, List.length_nil]); unfold maxLen; omega) (by have := HTL.out.1; (try simp only [List.length_singleton, List.length_nil]); omega) (Nat.le_refl _) ?_; intro v3 w3 own' hb'; rw [List.nil_append] at own'; obtain ⟨n3, hn3⟩ : ∃ x, (F.take cap).length = x := ⟨_, rfl⟩; obtain ⟨a3, c3, hv3⟩ := own_slice own'; rw [hn3] at hv3; subst hv3; obtain ⟨W3, hW3⟩ : ∃ zz, w3.alloc (.cells #[.string x, .string (strOfNums zs), .int .i64 0] TE) = zz := ⟨_, rfl⟩; have HN1 : Hid (SlR 3 rfC W3 (.slice (some ⟨w3.heap.size, 0, none⟩) 1 1) [(⟨x, zs, 0⟩ : Fl)]) := Lib.hid (by rw [← hW3]; exact SlR.one rfC_len w3 _ rfl _ ⟨x, zs, 0⟩ rfl); have hbW : Below w2.heap.size w2 W3 := (by rw [← hW3]; exact hb'.alloc hb'.size _); have HB3 := Lib.hid hbW; have HO3 : Hid (OwnR 3 rfC TE W3 w2.heap.size (.slice a3 n3 c3) (F.take cap)) := Lib.hid (by rw [← hW3]; exact own'.alloc _); have HS3 : Hid (w2.heap.size ≤ W3.heap.size) := Lib.hid hbW.size; clear hbW; clear own' hb')
              | (at_builtin; refine appR rfC_len rfC_one Try.underlying53 rfl (by decide) info_rf rfl _ _ rfl w2.heap.size (.slice a3 n3 c3) (F.take cap) rfl HO3.out (.slice (some ⟨w3.heap.size, 0, none⟩) 1 1) [(⟨x, zs, 0⟩ : Fl)] rfl HN1.out (by have := HTL.out.1; (try simp only [List.length_singleton, List.length_nil]); unfold maxLen; omega) (by have := HTL.out.1; (try simp only [List.length_singleton, List.length_nil]); omega) HS3.out ?_; intro v4 w4 own' hb'; obtain ⟨n4, hn4⟩ : ∃ x', (F.take cap ++ [(⟨x, zs, 0⟩ : Fl)]).length = x' := ⟨_, rfl⟩; obtain ⟨a4, c4, hv4⟩ := own_slice own'; rw [hn4] at hv4; subst hv4; have hb4w := HB3.out.trans hb'; have HS4 := Lib.hid hb4w.size; have HO4 := Lib.hid own'; have HB4 := Lib.hid hb4w; have HDP4 := Lib.hid (HDP.out.below hb4w (Nat.le_refl _)); have c4q := (H2.out.below hb4w).c0; clear hb4w; clear own' hb')
              | (at_builtin; refine appR rfC_len rfC_one Try.underlying53 rfl (by decide) info_rf rfl _ _ rfl w2.heap.size (.slice a4 n4 c4) (F.take cap ++ [(⟨x, zs, 0⟩ : Fl)]) rfl HO4.out (.slice (some ⟨g, 0, none⟩) 0 0) (F.drop cap) rfl HDP4.out (by have := HTL.out; (try simp only [List.length_singleton, List.length_nil]); unfold maxLen; omega) (by have := HTL.out; (try simp only [List.length_singleton, List.length_nil]); omega) HS4.out ?_; intro v5 w5 own' hb'; rw [List.append_assoc, List.singleton_append, ← HIC.out] at own'; obtain ⟨n5, hn5⟩ : ∃ x', (insF F ⟨x, zs, 0⟩).length = x' := ⟨_, rfl⟩; obtain ⟨a5, c5, hv5⟩ := own_slice own'; rw [hn5] at hv5; subst hv5; have hb5w := HB4.out.trans hb'; have HL5 := Lib.hid (H2.out.put (Below.only hb5w _) (hb5w.block q (H2.out.low q H2.out.sq)) own'); have c5q := (H2.out.below hb5w).c0; have f5q := (H2.out.below hb5w).z 0; clear hb5w; clear own' hb'))
            go_end0
            exact ⟨rfl, by rw [HAD.out]; exact HL2.out.trans HL5.out⟩
          · have hne2 : ¬ j = cap := fun e => hc e.symm
            have HDP : Hid (SlR 3 rfC w2 (.slice (some ⟨g, j * 3, none⟩) 0 (cap - j)) (F.drop j)) := Lib.hid (by have := hsl.drops j (by omega); rw [show F.length - j = 0 by omega] at this; exact this)
            clear hsl
            have HTL : Hid ((F.take j).length ≤ 64 ∧ (F.take j ++ [(⟨x, zs, 0⟩ : Fl)]).length ≤ 65 ∧ (F.drop j).length ≤ 64) := Lib.hid (by simp only [List.length_append, List.length_take, List.length_drop, List.length_singleton]; omega)
            go_wp2_with (first
              | (at_builtin; refine appR rfC_len rfC_one Try.underlying53 rfl (by decide) info_rf rfl _ _ rfl w2.heap.size (.slice none 0 0) ([] : List Fl) rfl (OwnR.nil _ _ _) (.slice (some ⟨g, 0, none⟩) j cap) (F.take j) rfl HTK.out (by have := HTL.out.1; (try simp only [List.length_singleton, List.length_nil]); unfold maxLen; omega) (by have := HTL.out.1; (try simp only [List.length_singleton, List.length_nil]); omega) (Nat.le_refl _) ?_; intro v3 w3 own' hb'; rw [List.nil_append] at own'; obtain ⟨n3, hn3⟩ : ∃ x, (F.take j).length = x := ⟨_, rfl⟩; obtain ⟨a3, c3, hv3⟩ := own_slice own'; rw [hn3] at hv3; subst hv3; obtain ⟨W3, hW3⟩ : ∃ zz, w3.alloc (.cells #[.string x, .string (strOfNums zs), .int .i64 0] TE) = zz := ⟨_, rfl⟩; have HN1 : Hid (SlR 3 rfC W3 (.slice (some ⟨w3.heap.size, 0, none⟩) 1 1) [(⟨x, zs, 0⟩ : Fl)]) := Lib.hid (by rw [← hW3]; exact SlR.one rfC_len w3 _ rfl _ ⟨x, zs, 0⟩ rfl); have hbW : Below w2.heap.size w2 W3 := (by rw [← hW3]; exact hb'.alloc hb'.size _); have HB3 := Lib.hid hbW; have HO3 : Hid (OwnR 3 rfC TE W3 w2.heap.size (.slice a3 n3 c3) (F.take j)) := Lib.hid (by rw [← hW3]; exact own'.alloc _); have HS3 : Hid (w2.heap.size ≤ W3.heap.size) := Lib.hid hbW.size; clear hbW; clear own' hb')
              | (at_builtin; refine appR rfC_len rfC_one Try.underlying53 rfl (by decide) info_rf rfl _ _ rfl w2.heap.size (.slice a3 n3 c3) (F.take j) rfl HO3.out (.slice (some ⟨w3.heap.size, 0, none⟩) 1 1) [(⟨x, zs, 0⟩ : Fl)] rfl HN1.out (by have := HTL.out.1; (try simp only [List.length_singleton, List.length_nil]); unfold maxLen; omega) (by have := HTL.out.1; (try simp only [List.length_singleton, List.length_nil]); omega) HS3.out ?_; intro v4 w4 own' hb'; obtain ⟨n4, hn4⟩ : ∃ x', (F.take j ++ [(⟨x, zs, 0⟩ : Fl)]).length = x' := ⟨_, rfl⟩; obtain ⟨a4, c4, hv4⟩ := own_slice own'; rw [hn4] at hv4; subst hv4; have hb4w := HB3.out.trans hb'; have HS4 := Lib.hid hb4w.size; have HO4 := Lib.hid own'; have HB4 := Lib.hid hb4w; have HDP4 := Lib.hid (HDP.out.below hb4w (Nat.le_refl _)); have c4q := (H2.out.below hb4w).c0; clear hb4w; clear own' hb')
              | (at_builtin; refine appR rfC_len rfC_one Try.underlying53 rfl (by decide) info_rf rfl _ _ rfl w2.heap.size (.slice a4 n4 c4) (F.take j ++ [(⟨x, zs, 0⟩ : Fl)]) rfl HO4.out (.slice (some ⟨g, j * 3, none⟩) 0 (cap - j)) (F.drop j) rfl HDP4.out (by have := HTL.out; (try simp only [List.length_singleton, List.length_nil]); unfold maxLen; omega) (by have := HTL.out; (try simp only [List.length_singleton, List.length_nil]); omega) HS4.out ?_; intro v5 w5 own' hb'; rw [List.append_assoc, List.singleton_append, ← HIC.out] at own'; obtain ⟨n5, hn5⟩ : ∃ x', (insF F ⟨x, zs, 0⟩).length = x' := ⟨_, rfl⟩; obtain ⟨a5, c5, hv5⟩ := own_slice own'; rw [hn5] at hv5; subst hv5; have hb5w := HB4.out.trans hb'; have HL5 := Lib.hid (H2.out.put (Below.only hb5w _) (hb5w.block q (H2.out.low q H2.out.sq)) own'); have c5q := (H2.out.below hb5w).c0; have f5q := (H2.out.below hb5w).z 0; clear hb5w; clear own' hb'))
            go_end0
            exact ⟨rfl, by rw [HAD.out]; exact HL2.out.trans HL5.out⟩
  · have hlt : k < F.length := (List.getElem?_eq_some_iff.1 hk).1
    have hki : (k : Int) < (F.length : Int) := by omega
    obtain ⟨g, cg, cur, e1, hgc⟩ : ∃ g c cur, Value.slice a F.length cap = .slice (some ⟨g, 0, none⟩) F.length c ∧ w2.heap[g]? = some (.cells cur TE (0, 0)) := by
      rcases own_form H2.out.own with ⟨e, h0⟩ | ⟨g, c, cur, e, hg, -⟩
      · omega
      · exact ⟨g, c, cur, e, hg⟩
    simp only [Value.slice.injEq] at e1
    obtain ⟨rfl, -, rfl⟩ := e1
    have hsl := H2.out.own.sl rfC_len
    obtain ⟨b, off', cp, e2, -, hlc, hcm, hbl, hcs⟩ : ∃ b off cp, Value.slice (some ⟨g, 0, none⟩) F.length cap = .slice (some ⟨b, off, none⟩) F.length cp ∧ 0 < F.length ∧ F.length ≤ cp ∧ cp ≤ 9223372036854775807 ∧ b < w2.heap.size ∧ ∀ i x, F[i]? = some x → ∀ j u, (rfC x)[j]? = some u → w2.cell? ⟨b, off + (i * 3 + j), none⟩ = some u := by
      rcases SlR.cases hsl with ⟨a2, c2, e, hnil⟩ | h
      · rw [hnil] at hlt; simp at hlt
      · exact h
    simp only [Value.slice.injEq, Option.some.injEq, Addr.mk.injEq] at e2
    obtain ⟨⟨rfl, rfl, -⟩, -, rfl⟩ := e2
    obtain ⟨y0, y1, y2⟩ := rfC_cells (w := w2) (b := g) (o := k * 3) (fun i u hu => by have := hcs k f hk i u hu; rwa [Nat.zero_add] at this)
    have yz : w2.frozen? ⟨g, k * 3 + 1, none⟩ = false := frozen_of_row _ _ _ _ _ hgc
    have hfl := (HS.out.len f (List.mem_of_getElem? hk)).2
    have hnn := HN.out
    have hn2 : ¬ 9223372036854775807 < (strOfNums f.zs).size + (strOfNums zs).size := by rw [hsz, strOfNums_size]; omega
    have hn3 : (strOfNums f.zs).size = f.zs.length := strOfNums_size _
    have HL5 := Lib.hid (H2.out.turnF (f' := ⟨x, f.zs ++ zs, f.safe⟩) (j := 1) (u := .string (strOfNums f.zs ++ strOfNums zs)) hk (by decide) (by show [_, _, _] = [_, _, _]; rw [hnm, str_app]))
    have HAD : Hid (addF F x zs = F.set k ⟨x, f.zs ++ zs, f.safe⟩) := Lib.hid (by
      unfold addF oldF
      rw [if_neg HZ0.out]
      simp only [hfd, Option.getD_some]
      exact set_at HS.out.srt hk hnm.symm)
    clear hsl hcs hgc hk hfd hnm
    go_wp2_with fail
    (try simp only [Exit.inBlock, Exit.then])
    refine bodyPost_ret (results_none rfl _ _ _) rfl ?_
    exact ⟨rfl, by rw [HAD.out]; exact HL2.out.trans HL5.out⟩
end Rk
end Go.Proofs.Ytfaifdidillkaaa
