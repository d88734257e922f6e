/- The document's Replay: the same contract as the program's. No condition. -/
import Derived.Test.YteihopgnpiajoaaJjK
import Derived.Test.YteihopgnpiajoaaJjF
namespace Go.Proofs.Yteihopgnpiajoaa
open Go.ChangeShapes Go.WideShapes Go.ChangeAt Go.RowKit Go.Deep
set_option linter.unusedVariables false
set_option maxRecDepth 100000
set_option linter.unusedSimpArgs false
namespace Jj
variable {lim : Int}
/-! ### lists -/
def Best (n last : Int) (cs : List Cx) (b : Int) : Prop := (b = 0 ∧ ∀ c ∈ cs, c.node = n → c.tok ≤ last) ∨ (b ≠ 0 ∧ ⟨n, b⟩ ∈ cs ∧ last < b ∧ ∀ c ∈ cs, c.node = n → last < c.tok → b ≤ c.tok)
theorem Best.nil (n last : Int) : Best n last [] 0 := .inl ⟨rfl, fun c hc => absurd hc (by simp)⟩
def hitB (n last b : Int) (c : Cx) : Prop := c.node = n ∧ last < c.tok ∧ (b = 0 ∨ c.tok < b)
theorem Best.hit {n last b : Int} {cs : List Cx} {c : Cx} (h : Best n last cs b) (hc : hitB n last b c) (h1 : 1 ≤ c.tok) : Best n last (cs ++ [c]) c.tok := by
  obtain ⟨hn, hl, hb⟩ := hc
  refine .inr ⟨by omega, List.mem_append.2 (.inr (by cases c; simp only at hn; simp [hn])), hl, fun d hd hdn hdl => ?_⟩
  rcases List.mem_append.1 hd with hd | hd
  · rcases h with ⟨h2, h3⟩ | ⟨h2, h3, h4, h5⟩
    · have := h3 d hd hdn; omega
    · have := h5 d hd hdn hdl
      rcases hb with hb | hb
      · exact absurd hb h2
      · omega
  · simp only [List.mem_singleton] at hd; subst hd; omega
theorem Best.miss {n last b : Int} {cs : List Cx} {c : Cx} (h : Best n last cs b) (hc : ¬ hitB n last b c) : Best n last (cs ++ [c]) b := by
  unfold hitB at hc
  rcases h with ⟨rfl, h3⟩ | ⟨h2, h3, h4, h5⟩
  · refine .inl ⟨rfl, fun d hd hn => ?_⟩
    rcases List.mem_append.1 hd with hd | hd
    · exact h3 d hd hn
    · simp only [List.mem_singleton] at hd; subst hd
      exact Classical.byContradiction fun q => hc ⟨hn, by omega, .inl rfl⟩
  · refine .inr ⟨h2, List.mem_append.2 (.inl h3), h4, fun d hd hn hl => ?_⟩
    rcases List.mem_append.1 hd with hd | hd
    · exact h5 d hd hn hl
    · simp only [List.mem_singleton] at hd; subst hd
      exact Classical.byContradiction fun q => hc ⟨hn, hl, .inr (by omega)⟩
/-- what is written so far -/
def InvA (cs : List Cx) (n last : Int) (A : List Cx) : Prop := A.Pairwise ltC ∧ ∀ c, (c ∈ A ↔ c ∈ cs ∧ (c.node < n ∨ (c.node = n ∧ c.tok ≤ last)))
theorem InvA.start {cs : List Cx} (h : OkC lim cs) : InvA cs 1 0 [] := ⟨List.Pairwise.nil, fun c => by
  simp only [List.not_mem_nil, false_iff, not_and]
  intro hc
  have h1 := h.node c hc
  have h2 := h.tok c hc
  omega⟩
theorem InvA.put {cs : List Cx} {n last b : Int} {A : List Cx} (h : InvA cs n last A) (hb : Best n last cs b) (h0 : b ≠ 0) : InvA cs n b (A ++ [⟨n, b⟩]) := by
  rcases hb with ⟨q, -⟩ | ⟨-, hm, hl, ho⟩
  · exact absurd q h0
  refine ⟨List.pairwise_append.2 ⟨h.1, by simp, fun a ha d hd => ?_⟩, fun c => ?_⟩
  · simp only [List.mem_singleton] at hd; subst hd
    have := ((h.2 a).1 ha).2
    unfold ltC; simp only; omega
  · rw [List.mem_append, h.2 c, List.mem_singleton]
    constructor
    · rintro (⟨h1, h2⟩ | rfl)
      · exact ⟨h1, by omega⟩
      · exact ⟨hm, .inr ⟨rfl, Int.le_refl _⟩⟩
    · rintro ⟨h1, h2⟩
      by_cases q : c.node < n ∨ (c.node = n ∧ c.tok ≤ last)
      · exact .inl ⟨h1, q⟩
      · have e1 : c.node = n := by omega
        have e2 := ho c h1 e1 (by omega)
        exact .inr (by cases c; simp only at *; simp only [Cx.mk.injEq]; omega)
theorem InvA.next {cs : List Cx} {n last : Int} {A : List Cx} (h : InvA cs n last A) (ho : OkC lim cs) (hb : Best n last cs 0) : InvA cs (n + 1) 0 A := ⟨h.1, fun c => (h.2 c).trans ⟨fun ⟨q1, q2⟩ => ⟨q1, by omega⟩, fun ⟨q1, q2⟩ => ⟨q1, by
  have h1 := ho.tok c q1
  rcases hb with ⟨-, hb⟩ | ⟨hb, -⟩
  · by_cases e : c.node = n
    · have := hb c q1 e; omega
    · omega
  · exact absurd rfl hb⟩⟩⟩
theorem InvA.done {cs : List Cx} {A : List Cx} (h : InvA cs 8 0 A) (ho : OkC lim cs) : Srtd cs A := ⟨h.1, fun c => (h.2 c).trans ⟨fun q => q.1, fun q => ⟨q, by have := ho.node c q; omega⟩⟩⟩
theorem InvA.len {cs : List Cx} {n last : Int} {A : List Cx} (h : InvA cs n last A) : A.length ≤ cs.length := Mp.length_sub (show A.Nodup from h.1.imp (fun {a b} h (q : a = b) => by subst q; exact lt_irrefl h)) (fun c hc => ((h.2 c).1 hc).1)
theorem best_step {n last b : Int} {cs : List Cx} {j : Nat} {c : Cx} (hc : cs[j]? = some c) : cs.take (j + 1) = cs.take j ++ [c] := by rw [List.take_add_one, hc]; rfl
def lenV : Value → Nat
  | .slice _ n _ => n
  | _ => 0
theorem lenV_own {w : World} {B : Nat} {v : Value} {xs : List Cx} (h : OwnR 2 cxC 34 w B v xs) : lenV v = xs.length := by
  obtain ⟨a, c, rfl⟩ := own_slice h
  rfl
set_option maxHeartbeats 16000000 in
theorem rreplay_any {v : Value} {l : List Sx} (w : World) (hv : SlR 3 sxC w v l) (hl : l.length ≤ 1000) :
    Calls Try.prog 11 #[.int .i64 lim, v] w (Replayed lim l w) := by
  have HV := Lib.hid hv
  have HL := Lib.hid hl
  clear hv hl
  go_enter Try.func11, Try.ntmps11
  go_wp2_with fail
  refine (rjudge_any w HV.out HL.out).mono ?_
  rintro e w2 ⟨i, ee, rfl, hj, hb⟩
  have HJ := Lib.hid hj
  have HB := Lib.hid hb
  clear hj hb
  by_cases he : ee = 0
  · subst he
    have HOK : Hid (OkC lim (openL l)) := Lib.hid (by
      rcases HJ.out with ⟨-, -, hf⟩ | ⟨k, s, -, -, -, h0, -⟩
      · have := fine_ok hf (Nat.le_refl _)
        rwa [List.take_length] at this
      · exact absurd rfl h0)
    go_wp2_with fail
    refine (ropen_any _ (HV.out.below HB.out (Nat.le_refl _)) HL.out).mono ?_
    rintro e w3 ⟨u, rfl, ho, hb3⟩
    have HLN : Hid ((openL l).length ≤ 1000) := Lib.hid (Nat.le_trans (open_len l) HL.out)
    obtain ⟨cs, hcs⟩ : ∃ q, openL l = q := ⟨_, rfl⟩
    rw [hcs] at ho HOK HLN
    have HCS := Lib.hid hcs
    obtain ⟨D, hD⟩ : ∃ q, w3.heap.size = q := ⟨_, rfl⟩
    have HB3 := Lib.hid (HB.out.trans (hb3.mono HB.out.size))
    have HO3 := Lib.hid ho
    have HD : Hid (w3.heap.size = D ∧ w.heap.size ≤ D) := Lib.hid ⟨hD, by rw [← hD]; exact HB3.out.size⟩
    clear ho hb3 hcs hD HB
    obtain ⟨ao, co, hao⟩ := own_slice HO3.out
    subst hao
    have HST : Hid (InvA cs 1 0 []) := Lib.hid (InvA.start HOK.out)
    have hcl : cs.length ≤ 1000 := HLN.out
    go_wp2_with fail
    go_loopw [9, 10] (fun o nv wr => ∃ (n : Nat) (A : List Cx), 1 ≤ n ∧ n ≤ 8 ∧ nv = .int .i64 (n : Int) ∧ Hid (InvA cs n 0 A) ∧ Hid (D ≤ wr.heap.size ∧ OwnR 2 cxC 34 wr D o A) ∧ Hid (Below D w3 wr)) (fun _ nv _ => 8 - (intOf nv).toNat)
    case atStart => exact ⟨1, [], Nat.le_refl _, by omega, rfl, HST, Lib.hid ⟨by rw [HD.out.1]; exact Nat.le_refl _, OwnR.nil _ _ _⟩, Lib.hid (Below.refl _ _)⟩
    case round =>
      clear HST
      obtain ⟨n, A0, hn1, hn8, rfl, HA0, HO0, HB0⟩ := hrel
      by_cases hn : n ≤ 7
      · have hni : (n : Int) ≤ 7 := by omega
        go_wp2_with fail
        go_loopw [9, 11] (fun o lv wr => ∃ (last : Int) (A : List Cx), lv = .int .i64 last ∧ Hid (InvA cs n last A) ∧ Hid (D ≤ wr.heap.size ∧ OwnR 2 cxC 34 wr D o A) ∧ Hid (Below D w3 wr)) (fun o _ _ => cs.length - lenV o)
        case atStart => exact ⟨0, A0, rfl, HA0, HO0, HB0⟩
        case round =>
          clear HA0 HO0 HB0
          obtain ⟨last, A, rfl, HA, HO, HBD⟩ := hrel
          obtain ⟨wm, hwm⟩ : ∃ q, q = wr := ⟨_, rfl⟩
          subst hwm
          go_wp2_with fail
          go_loopw [12, 32] (fun b i wr => ∃ (j : Nat) (bz : Int), j ≤ cs.length ∧ i = .int .i64 (j : Int) ∧ b = .int .i64 bz ∧ Hid (Best n last (cs.take j) bz) ∧ Hid (Below wm.heap.size wm wr)) (fun _ i _ => cs.length - (intOf i).toNat)
          case atStart => exact ⟨0, 0, Nat.zero_le _, rfl, rfl, Lib.hid (Best.nil _ _), Lib.hid (Below.refl _ _)⟩
          case round =>
            obtain ⟨j, bz, hj, rfl, rfl, HBS, HBM⟩ := hrel
            by_cases hlt2 : j < cs.length
            · have hlti2 : (j : Int) < (cs.length : Int) := by omega
              have hbw : Below D w3 wr := HBD.out.trans (HBM.out.mono HO.out.1)
              obtain ⟨b, off, cp, e1, -, -, -, hbl, hcs⟩ : ∃ b off cp, Value.slice ao cs.length co = .slice (some ⟨b, off, none⟩) cs.length cp ∧ 0 < cs.length ∧ cs.length ≤ cp ∧ cp ≤ 9223372036854775807 ∧ b < w3.heap.size ∧ ∀ i x, cs[i]? = some x → ∀ j u, (cxC x)[j]? = some u → w3.cell? ⟨b, off + (i * 2 + j), none⟩ = some u := by
                rcases SlR.cases (HO3.out.sl cxC_len) with ⟨a2, c2, e, hnil⟩ | h
                · rw [hnil] at hlt2; simp at hlt2
                · exact h
              simp only [Value.slice.injEq] at e1
              obtain ⟨rfl, -, rfl⟩ := e1
              obtain ⟨c, hc⟩ : ∃ x, cs[j]? = some x := ⟨_, List.getElem?_eq_getElem hlt2⟩
              obtain ⟨x0, x1⟩ := cxC_cells (w := wr) (b := b) (o := off + j * 2) (fun i u hu => by rw [Nat.add_assoc]; exact (hbw.cell (p := ⟨b, off + (j * 2 + i), none⟩) (by rw [← HD.out.1]; exact hbl)).trans (hcs j c hc i u hu))
              have htk := HOK.out.tok c (List.mem_of_getElem? hc)
              have HTS := Lib.hid (best_step (n := n) (last := last) (b := bz) hc)
              have HT1 : Hid (1 ≤ c.tok) := Lib.hid htk.1
              obtain ⟨g, hg⟩ : ∃ q, wr.heap.size = q := ⟨_, rfl⟩
              obtain ⟨W6, hW6⟩ : ∃ q, wr.alloc (.cells #[.int .i64 c.node, .int .i64 c.tok] 34) = q := ⟨_, rfl⟩
              have hg6 : W6.heap[g]? = some (.cells #[.int .i64 c.node, .int .i64 c.tok] 34 (0, 0)) := by rw [← hW6, ← hg]; exact heap_alloc_new _ _
              have y0 : W6.cell? ⟨g, 0, none⟩ = some (.int .i64 c.node) := (cell_of_row W6 _ 0 _ _ _ hg6).trans rfl
              have y1 : W6.cell? ⟨g, 1, none⟩ = some (.int .i64 c.tok) := (cell_of_row W6 _ 1 _ _ _ hg6).trans rfl
              have HB6 : Hid (Below wm.heap.size wm W6) := Lib.hid (by rw [← hW6]; exact HBM.out.alloc HBM.out.size _)
              clear hcs hc hg6 htk hbw
              by_cases a1 : c.node = (n : Int)
              · by_cases a2 : last < c.tok
                · by_cases a3 : bz = 0
                  · have HN : Hid (Best n last (cs.take (j + 1)) c.tok) := Lib.hid (by rw [HTS.out]; exact HBS.out.hit ⟨a1, a2, .inl a3⟩ HT1.out)
                    have d1 : (c.node == (n : Int)) = true := by simpa using a1
                    have d2 : decide (last < c.tok) = true := decide_eq_true a2
                    have d3 : (bz == 0) = true := by simpa using a3
                    clear a1 a2 a3
                    go_wp2_with fail
                    go_roundw
                    case rel => exact ⟨j + 1, c.tok, by omega, by go_num, rfl, HN, HB6⟩
                    case measure => simp [intOf]; omega
                  · by_cases a4 : c.tok < bz
                    · have HN : Hid (Best n last (cs.take (j + 1)) c.tok) := Lib.hid (by rw [HTS.out]; exact HBS.out.hit ⟨a1, a2, .inr a4⟩ HT1.out)
                      have d1 : (c.node == (n : Int)) = true := by simpa using a1
                      have d2 : decide (last < c.tok) = true := decide_eq_true a2
                      have d3 : (bz == 0) = false := by simpa using a3
                      have d4 : decide (c.tok < bz) = true := decide_eq_true a4
                      clear a1 a2 a3 a4
                      go_wp2_with fail
                      go_roundw
                      case rel => exact ⟨j + 1, c.tok, by omega, by go_num, rfl, HN, HB6⟩
                      case measure => simp [intOf]; omega
                    · have HN : Hid (Best n last (cs.take (j + 1)) bz) := Lib.hid (by rw [HTS.out]; exact HBS.out.miss (fun q => by obtain ⟨q1, q2, q3⟩ := q; omega))
                      have d1 : (c.node == (n : Int)) = true := by simpa using a1
                      have d2 : decide (last < c.tok) = true := decide_eq_true a2
                      have d3 : (bz == 0) = false := by simpa using a3
                      have d4 : decide (c.tok < bz) = false := decide_eq_false a4
                      clear a1 a2 a3 a4
                      go_wp2_with fail
                      go_roundw
                      case rel => exact ⟨j + 1, bz, by omega, by go_num, rfl, HN, HB6⟩
                      case measure => simp [intOf]; omega
                · have HN : Hid (Best n last (cs.take (j + 1)) bz) := Lib.hid (by rw [HTS.out]; exact HBS.out.miss (fun q => by obtain ⟨q1, q2, q3⟩ := q; omega))
                  have d1 : (c.node == (n : Int)) = true := by simpa using a1
                  have d2 : decide (last < c.tok) = false := decide_eq_false a2
                  clear a1 a2
                  go_wp2_with fail
                  go_roundw
                  case rel => exact ⟨j + 1, bz, by omega, by go_num, rfl, HN, HB6⟩
                  case measure => simp [intOf]; omega
              · have HN : Hid (Best n last (cs.take (j + 1)) bz) := Lib.hid (by rw [HTS.out]; exact HBS.out.miss (fun q => by obtain ⟨q1, q2, q3⟩ := q; omega))
                have d1 : (c.node == (n : Int)) = false := by simpa using a1
                clear a1
                go_wp2_with fail
                go_roundw
                case rel => exact ⟨j + 1, bz, by omega, by go_num, rfl, HN, HB6⟩
                case measure => simp [intOf]; omega
            · obtain rfl : j = cs.length := by omega
              have hbs := HBS.out
              rw [List.take_length] at hbs
              have HBE : Hid (Below D w3 wr) := Lib.hid (HBD.out.trans (HBM.out.mono HO.out.1))
              have HOE : Hid (D ≤ wr.heap.size ∧ OwnR 2 cxC 34 wr D u9 A) := Lib.hid ⟨Nat.le_trans HO.out.1 HBM.out.size, HO.out.2.below HBM.out (Nat.le_refl _)⟩
              by_cases a1 : bz = 0
              · have d1 : (bz == 0) = true := by simpa using a1
                subst a1
                have HN : Hid (InvA cs ((n + 1 : Nat) : Int) 0 A) := Lib.hid (HA.out.next HOK.out hbs)
                clear hbs
                go_wp2_with fail
                go_roundw
                case rel => exact ⟨n + 1, A, by omega, by omega, by go_num, HN, HOE, HBE⟩
                case measure => simp [intOf]; omega
              · have d1 : (bz == 0) = false := by simpa using a1
                have HN := Lib.hid (HA.out.put hbs a1)
                have HAL : Hid (A.length ≤ 1000) := Lib.hid (Nat.le_trans HA.out.len HLN.out)
                obtain ⟨W1, hW1⟩ : ∃ q, wr.alloc (.cells #[.int .i64 (n : Int), .int .i64 bz] 34) = q := ⟨_, rfl⟩
                have HB5 : Hid (Below D w3 W1) := Lib.hid (by rw [← hW1]; exact HBE.out.alloc HOE.out.1 _)
                have HO5 : Hid (OwnR 2 cxC 34 W1 D u9 A) := Lib.hid (by rw [← hW1]; exact HOE.out.2.alloc _)
                have HD5 : Hid (D ≤ W1.heap.size) := Lib.hid (by rw [← hW1]; exact Nat.le_trans HOE.out.1 (by simp))
                have HN5 : Hid (SlR 2 cxC W1 (.slice (some ⟨wr.heap.size, 0, none⟩) 1 1) [(⟨n, bz⟩ : Cx)]) := Lib.hid (by rw [← hW1]; exact SlR.one cxC_len wr _ rfl _ ⟨n, bz⟩ rfl)
                clear a1 hbs
                go_wp2_with (at_builtin; refine appR cxC_len cxC_one Try.underlying30 rfl (by decide) info_cx rfl _ _ rfl D _ _ rfl HO5.out (.slice (some ⟨wr.heap.size, 0, none⟩) 1 1) [(⟨n, bz⟩ : Cx)] rfl HN5.out (by have := HAL.out; simp only [List.length_singleton]; unfold maxLen; omega) (by have := HAL.out; simp only [List.length_singleton]; omega) HD5.out ?_; intro v6 w6 own6 hb6; have HO6 := Lib.hid (And.intro (Nat.le_trans HD5.out hb6.size) own6); have HB6 := Lib.hid (HB5.out.trans hb6); have HLE : Hid (lenV v6 = A.length + 1) := Lib.hid (by rw [lenV_own own6]; simp); clear own6 hb6)
                go_roundw
                case rel => exact ⟨bz, _, rfl, HN, HO6, HB6⟩
                case measure =>
                  have h1 := HLE.out
                  have h2 := lenV_own HO.out.2
                  have h3 := HN.out.len
                  simp only [List.length_append, List.length_singleton] at h3
                  show cs.length - lenV v6 < cs.length - lenV u9
                  omega
      · obtain rfl : n = 8 := by omega
        have HS : Hid (Srtd (openL l) A0) := Lib.hid (by rw [HCS.out]; exact HA0.out.done HOK.out)
        have HOF : Hid (OwnR 2 cxC 34 wr w.heap.size u9 A0) := Lib.hid (own_up HO0.out.2 (fun q hq => Nat.le_trans HD.out.2 (World.ownsRow.lt HO0.out.2 q hq).1))
        have HBF : Hid (Below w.heap.size w wr) := Lib.hid (HB3.out.trans (HB0.out.mono HD.out.2))
        go_wp2_with fail
        go_ret2
        exact ⟨_, _, _, _, rfl, HJ.out, HOF.out, HBF.out, fun q => absurd rfl q, fun _ => HS.out⟩
  · have hne : (ee != 0) = true := by simpa using he
    have HNE := Lib.hid he
    clear he
    go_wp2_with fail
    go_ret2
    exact ⟨_, _, _, _, rfl, HJ.out, OwnR.nil _ _ _, HB.out, fun _ => rfl, fun q => absurd q HNE.out⟩
theorem ex3 : JudP 2 [⟨1, 1, 1⟩] (-1) 0 := .inl ⟨rfl, rfl, fun j s hj hs => by
  match j, hj with
  | 0, _ => simp only [List.getElem?_cons_zero, Option.some.injEq] at hs; subst hs; decide⟩
theorem ex3_open : Srtd (openL [⟨1, 1, 1⟩]) [⟨1, 1⟩] := ⟨List.pairwise_singleton _ _, fun c => by simp [openL, stepO]⟩
end Jj
end Go.Proofs.Yteihopgnpiajoaa
