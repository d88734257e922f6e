/- The document's pool: give, Free, Leave, Want. No condition. -/
import Derived.Test.YtlhojkopfpnhpaaPrA
import Derived.Test.YtlhojkopfpnhpaaWl
import Derived.Laws.OwnMore
namespace Go.Proofs.Ytlhojkopfpnhpaa
open Go.ChangeShapes Go.WideShapes Go.ChangeAt Go.RowKit Go.Deep
set_option linter.unusedVariables false
set_option maxRecDepth 100000
set_option linter.unusedSimpArgs false
namespace Pr
open Pl
theorem flat_set : ∀ (cs : List Cn) (k : Nat) (z : Int), (cs.flatMap cnC).set (k * 2 + 1) (.int .i64 z) = (setS k z cs).flatMap cnC
  | [], k, z => by simp [setS]
  | x :: cs, 0, z => by
    unfold setS
    rw [List.modify_zero_cons]
    rfl
  | x :: cs, k + 1, z => by
    have := flat_set cs k z
    unfold setS at this ⊢
    rw [List.modify_succ_cons, List.flatMap_cons, List.flatMap_cons, ← this]
    show (cnC x ++ cs.flatMap cnC).set ((k + 1) * 2 + 1) _ = _
    rw [show (k + 1) * 2 + 1 = (k * 2 + 1) + 1 + 1 by omega]
    rfl
variable {w w' : World} {B q : Nat} {vC vW : Value} {cs : List Cn} {ws : List Int}
theorem own_give {g cap n : Nat} (h : OwnR 2 cnC TC w B (.slice (some ⟨g, 0, none⟩) n cap) cs) (hn : n = cs.length) (k : Nat) (z : Int) : OwnR 2 cnC TC (w.setCell ⟨g, k * 2 + 1, none⟩ (.int .i64 z)) B (.slice (some ⟨g, 0, none⟩) n cap) (setS k z cs) := by
  subst hn
  have := (World.ownsRow.stored h (k * 2 + 1) (.int .i64 z)).1
  unfold OwnR
  rw [setS_len, ← flat_set]
  exact this
theorem RpAt.give {g cap n : Nat} (h : RpAt w B q (.slice (some ⟨g, 0, none⟩) n cap) vW cs ws) (hn : n = cs.length) (k : Nat) (z : Int) : RpAt (w.setCell ⟨g, k * 2 + 1, none⟩ (.int .i64 z)) B q (.slice (some ⟨g, 0, none⟩) n cap) vW (setS k z cs) ws := by
  have g1 := own_ty h.2.1 h.1 (by decide) g rfl
  refine ⟨(Below.heap_setCell _ _ _ _ (by simpa using fun e => g1 e.symm)).trans h.1, own_give h.2.1 hn k z, own_keep h.2.2.1 (fun b hb _ => Below.heap_setCell _ _ _ _ ?_), h.2.2.2⟩
  rcases own_form h.2.1 with ⟨e, -⟩ | ⟨g2, c2, cur, e, hg, -⟩
  · cases e
  · simp only [Value.slice.injEq, Option.some.injEq, Addr.mk.injEq] at e
    obtain ⟨⟨rfl, -⟩, -⟩ := e
    exact own_ty h.2.2.1 hg (by decide) b hb
theorem RpAt.row {g cap n : Nat} (h : RpAt w B q (.slice (some ⟨g, 0, none⟩) n cap) vW cs ws) {k : Nat} {x : Cn} (hx : cs[k]? = some x) : w.cell? ⟨g, k * 2, none⟩ = some (.int .i64 x.tok) ∧ w.cell? ⟨g, k * 2 + 1, none⟩ = some (.int .i64 x.sess) ∧ w.frozen? ⟨g, k * 2 + 1, none⟩ = false := by
  rcases SlR.cases (h.2.1.sl cnC_len) with ⟨a, c, e, rfl⟩ | ⟨b, off, c, e, h0, hlc, hcm, hlt, hc⟩
  · simp at hx
  · simp only [Value.slice.injEq, Option.some.injEq, Addr.mk.injEq] at e
    obtain ⟨⟨rfl, rfl, -⟩, -⟩ := e
    have h1 := hc k x hx 0 _ rfl
    have h2 := hc k x hx 1 _ rfl
    rw [Nat.zero_add] at h1 h2
    refine ⟨h1, h2, ?_⟩
    rcases own_form h.2.1 with ⟨e, -⟩ | ⟨g2, c2, cur, e, hg, -⟩
    · cases e
    · simp only [Value.slice.injEq, Option.some.injEq, Addr.mk.injEq] at e
      obtain ⟨⟨rfl, -⟩, -⟩ := e
      exact frozen_of_row w g _ _ _ hg
theorem RpAt.form (h : RpAt w B q vC vW cs ws) (h0 : 0 < cs.length) : ∃ g cap, vC = .slice (some ⟨g, 0, none⟩) cs.length cap := by
  rcases own_form h.2.1 with ⟨-, e⟩ | ⟨g, c, cur, e, -⟩
  · omega
  · exact ⟨g, c, e⟩
theorem slr_tail {w : World} {gb n cp : Nat} {s : Int} {r : List Int} (h : SlR 1 intC w (.slice (some ⟨gb, 0, none⟩) n cp) (s :: r)) : SlR 1 intC w (.slice (some (if cp = 1 then ⟨gb, 0, none⟩ else ⟨gb, 1, none⟩)) (n - 1) (cp - 1)) r := by
  obtain ⟨a, cap, e, h1, h2, h4⟩ := h
  simp only [Value.slice.injEq] at e
  obtain ⟨rfl, rfl, rfl⟩ := e
  simp only [List.length_cons] at h1 ⊢
  refine ⟨_, cp - 1, rfl, by omega, by omega, .inr ?_⟩
  rcases h4 with ⟨e, -⟩ | ⟨b, off, sp, e, h5⟩
  · cases e
  · simp only [Option.some.injEq, Addr.mk.injEq] at e
    obtain ⟨rfl, rfl, rfl⟩ := e
    by_cases hr : r = []
    · by_cases hc : cp = 1
      · rw [if_pos hc]; exact ⟨_, _, _, rfl, .inl hr⟩
      · rw [if_neg hc]; exact ⟨_, _, _, rfl, .inl hr⟩
    · have : 0 < r.length := by cases r with | nil => exact absurd rfl hr | cons _ _ => simp
      rw [if_neg (by omega)]
      rcases h5 with h5 | ⟨-, hlt, hc⟩
      · cases h5
      · refine ⟨_, _, _, rfl, .inr ⟨rfl, hlt, fun i x hx j u hu => ?_⟩⟩
        have := hc (i + 1) x (by rw [List.getElem?_cons_succ]; exact hx) j u hu
        rw [← this]
        congr 2
        omega
theorem setS_at {k k2 : Nat} {z : Int} {x : Cn} (hx : cs[k2]? = some x) : ∃ y, (if k < k2 then setS k z cs else cs)[k2]? = some y ∧ y.tok = x.tok := by
  by_cases h : k < k2
  · rw [if_pos h, setS_get, if_neg (by omega)]; exact ⟨x, hx, rfl⟩
  · rw [if_neg h]; exact ⟨x, hx, rfl⟩
theorem setS_len2 (k k2 : Nat) (z : Int) : (if k < k2 then setS k z cs else cs).length = cs.length := by split; exact setS_len ..; rfl

set_option maxHeartbeats 4000000 in
theorem rgive_any {k : Nat} {x : Cn} (t : Int) (w : World) (h : RpAt w B q vC vW cs ws) (hB : B ≤ w.heap.size) (h8 : cs.length ≤ 8) (h4 : ws.length ≤ 4) (hs : Sorted cs) (hx : cs[k]? = some x) (ht : x.tok = t) :
    Calls Try.prog 23 #[.pointer (some ⟨q, 0, none⟩), .int .i64 t] w fun e w' => e = .returned (.int .i64 (ws.headD 0)) ∧ RpC B q vC (setS k (ws.headD 0) cs) ws.tail w w' := by
  have hkl := (List.getElem?_eq_some_iff.1 hx).1
  obtain ⟨g, cap, rfl⟩ := h.form (by omega)
  have HX := Lib.hid hx
  have HT := Lib.hid ht
  have HSO := Lib.hid hs
  have HKL := Lib.hid hkl
  have hcb : cs.length ≤ cap ∧ cap ≤ 9223372036854775807 := by
    obtain ⟨a2, c2, e, g1, g2, -⟩ := h.2.1.sl cnC_len
    simp only [Value.slice.injEq] at e
    obtain ⟨-, -, rfl⟩ := e
    exact ⟨g1, g2⟩
  obtain ⟨hcb1, hcb2⟩ := hcb
  have c0 := h.c0
  have c1 := h.c1
  cases ws with
  | nil =>
    have HRP := Lib.hid h
    have HON : Hid (Only (fun k => k = q ∨ k = g) w w) := Lib.hid (Only.refl _ _)
    obtain ⟨a1, cw, rfl⟩ := own_slice h.2.2.1
    clear h hx ht hs hB
    simp only [List.headD_nil, List.tail_nil]
    go_enter Try.func23, Try.ntmps23
    go_wp2_with fail
    clear c0 c1
    go_loopw [33] (fun i wr => ∃ j : Nat, j ≤ cs.length ∧ i = .int .i64 j ∧ Hid (RpAt wr B q (.slice (some ⟨g, 0, none⟩) cs.length cap) (.slice a1 0 cw) (if k < j then setS k 0 cs else cs) [] ∧ Only (fun k => k = q ∨ k = g) w wr)) (fun i _ => cs.length - (intOf i).toNat)
    case atStart => exact ⟨0, Nat.zero_le _, rfl, Lib.hid ⟨by rw [if_neg (by omega)]; exact HRP.out, HON.out⟩⟩
    case round =>
      clear HRP HON
      obtain ⟨j, hj, rfl, HR⟩ := hrel
      by_cases hjl : j < cs.length
      · have hji : (j : Int) < (cs.length : Int) := by omega
        have c0 := HR.out.1.c0
        obtain ⟨xj, hxj⟩ : ∃ xj, cs[j]? = some xj := ⟨_, rgetD hjl⟩
        obtain ⟨y, hy, ey⟩ := setS_at (k := k) (z := 0) hxj
        obtain ⟨y0, y1, yf⟩ := HR.out.1.row hy
        rw [ey] at y0
        by_cases hjk : j = k
        · subst hjk
          have et : xj.tok = t := by have := HX.out; rw [hxj] at this; cases this; exact HT.out
          rw [et] at y0
          obtain ⟨W1, hW1⟩ : ∃ q, wr.setCell ⟨g, j * 2 + 1, none⟩ (.int .i64 0) = q := ⟨_, rfl⟩
          have hr1 := HR.out.1
          rw [if_neg (Nat.lt_irrefl _)] at hr1
          have hr2 := hr1.give rfl j 0
          rw [hW1] at hr2
          have HR2 : Hid (RpAt W1 B q (.slice (some ⟨g, 0, none⟩) cs.length cap) (.slice a1 0 cw) (if j < j + 1 then setS j 0 cs else cs) [] ∧ Only (fun k => k = q ∨ k = g) w W1) := Lib.hid ⟨by rw [if_pos (by omega)]; exact hr2, by rw [← hW1]; exact HR.out.2.set g _ _ (.inr rfl)⟩
          clear hr1 hr2 hy ey et hxj
          go_wp2
          go_roundw
          case rel => exact ⟨j + 1, by omega, by go_num, HR2⟩
          case measure => simp [intOf]; omega
        · have et : xj.tok ≠ t := by
            intro e
            rcases Nat.lt_or_gt_of_ne hjk with g1 | g1
            · have := sorted_iff.1 HSO.out _ _ _ _ g1 hxj HX.out; have := HT.out; omega
            · have := sorted_iff.1 HSO.out _ _ _ _ g1 HX.out hxj; have := HT.out; omega
          have et2 : (xj.tok == t) = false := by simpa using et
          have HR2 : Hid (RpAt wr B q (.slice (some ⟨g, 0, none⟩) cs.length cap) (.slice a1 0 cw) (if k < j + 1 then setS k 0 cs else cs) [] ∧ Only (fun k => k = q ∨ k = g) w wr) := Lib.hid ⟨by
            have := HR.out.1
            by_cases g1 : k < j
            · rw [if_pos g1] at this; rw [if_pos (by omega)]; exact this
            · rw [if_neg g1] at this; rw [if_neg (by omega)]; exact this, HR.out.2⟩
          clear et hy ey hxj
          go_wp2
          go_roundw
          case rel => exact ⟨j + 1, by omega, by go_num, HR2⟩
          case measure => simp [intOf]; omega
      · obtain rfl : j = cs.length := by omega
        have hr := HR.out.1
        rw [if_pos HKL.out] at hr
        have HFF : Hid (RpC B q (.slice (some ⟨g, 0, none⟩) cs.length cap) (setS k 0 cs) [] w wr) := Lib.hid ⟨_, _, hr, HR.out.2.mono (fun i hi => by rcases hi with rfl | rfl; exact .inl rfl; exact .inr rfl), .inl rfl⟩
        clear hr
        go_wp2
        go_ret
        exact ⟨rfl, HFF.out⟩
  | cons s r =>
    rcases own_form h.2.2.1 with ⟨-, e⟩ | ⟨gb, cw, cur, rfl, hgw, -⟩
    · simp at e
    have hsl := h.2.2.1.sl intC_len
    obtain ⟨n, hn⟩ : ∃ n, (s :: r).length = n := ⟨_, rfl⟩
    rw [hn] at c1 hsl
    have hcw : n ≤ cw ∧ cw ≤ 9223372036854775807 := by
      obtain ⟨a2, c2, e, g1, g2, -⟩ := id hsl
      simp only [Value.slice.injEq] at e
      obtain ⟨-, -, rfl⟩ := e
      rw [hn] at g1
      exact ⟨g1, g2⟩
    obtain ⟨hcw1, hcw2⟩ := hcw
    have hn0 : 0 < n := by rw [← hn]; simp
    have hni : (0 : Int) < (n : Int) := by omega
    have hni1 : (1 : Int) ≤ (n : Int) := by omega
    have s0 : w.cell? ⟨gb, 0, none⟩ = some (.int .i64 s) := by
      rcases SlR.cases hsl with ⟨a, c, e, e2⟩ | ⟨b, off, c, e, -, -, -, -, hc⟩
      · cases e2
      · simp only [Value.slice.injEq, Option.some.injEq, Addr.mk.injEq] at e
        obtain ⟨⟨rfl, rfl, -⟩, -⟩ := e
        simpa using hc 0 s rfl 0 _ rfl
    have HTL := Lib.hid (slr_tail hsl)
    have HRW := Lib.hid h
    have HBW := Lib.hid hB
    have hrl : r.length ≤ 4 := by simp only [List.length_cons] at h4; omega
    have f1 := h.f 1
    have hq1 : ∀ w2 : World, Below w.heap.size w w2 → w2.frozen? ⟨q, 1, none⟩ = false ∧ w2.cell? ⟨q, 1, none⟩ = some (.slice (some ⟨gb, 0, none⟩) n cw) := fun w2 hb => by
      have := HRW.out.below hb
      exact ⟨this.f 1, by rw [this.c1, hn]⟩
    have HQ1 := Lib.hid hq1
    clear h hx ht hs hB hsl hgw hn h4 hq1
    simp only [List.headD_cons, List.tail_cons]
    go_enter Try.func23, Try.ntmps23
    by_cases hc : cw = 1
    · have hn1 : n = 1 := by omega
      subst hc
      subst hn1
      have HTL1 : Hid (SlR 1 intC w (.slice (some ⟨gb, 0, none⟩) 0 0) r) := Lib.hid (by simpa using HTL.out)
      go_wp2_with (at_builtin; refine appR intC_len intC_one Try.underlying28 rfl (by decide) info_in1 rfl _ _ rfl w.heap.size (.slice none 0 0) [] rfl (OwnR.nil _ _ _) (.slice (some ⟨gb, 0, none⟩) 0 0) r rfl HTL1.out (by simp; unfold maxLen; omega) (by simp; omega) (Nat.le_refl _) ?_; intro v2 w2 own2 hb2; rw [List.nil_append] at own2; obtain ⟨a2, cp2, hv2⟩ := own_slice own2; subst hv2; obtain ⟨hz2, hc2x⟩ := HQ1.out w2 hb2; obtain ⟨W3, hW3⟩ : ∃ x, w2.setCell ⟨q, 1, none⟩ (.slice a2 r.length cp2) = x := ⟨_, rfl⟩; have hpw := HRW.out.putW HBW.out own2 hb2; rw [hW3] at hpw; have HPW := Lib.hid hpw; have d0 := hpw.1.c0; clear own2 hb2 hpw)
      have HRP := Lib.hid HPW.out.1
      have HON : Hid (Only (fun k => k = q ∨ k = g) w W3) := Lib.hid (HPW.out.2.mono (fun i hi => by rcases hi with e | e; exact .inl e; exact .inr (Option.some.inj e).symm))
      clear c0 c1 s0 f1 hW3 hz2 hc2x
      go_loopw [33] (fun i wr => ∃ j : Nat, j ≤ cs.length ∧ i = .int .i64 j ∧ Hid (RpAt wr B q (.slice (some ⟨g, 0, none⟩) cs.length cap) (.slice a2 r.length cp2) (if k < j then setS k s cs else cs) r ∧ Only (fun k => k = q ∨ k = g) w wr)) (fun i _ => cs.length - (intOf i).toNat)
      case atStart => exact ⟨0, Nat.zero_le _, rfl, Lib.hid ⟨by rw [if_neg (by omega)]; exact HRP.out, HON.out⟩⟩
      case round =>
        clear HRP HON
        obtain ⟨j, hj, rfl, HR⟩ := hrel
        by_cases hjl : j < cs.length
        · have hji : (j : Int) < (cs.length : Int) := by omega
          have c0 := HR.out.1.c0
          obtain ⟨xj, hxj⟩ : ∃ xj, cs[j]? = some xj := ⟨_, rgetD hjl⟩
          obtain ⟨y, hy, ey⟩ := setS_at (k := k) (z := s) hxj
          obtain ⟨y0, y1, yf⟩ := HR.out.1.row hy
          rw [ey] at y0
          by_cases hjk : j = k
          · subst hjk
            have et : xj.tok = t := by have := HX.out; rw [hxj] at this; cases this; exact HT.out
            rw [et] at y0
            obtain ⟨W1, hW1⟩ : ∃ q, wr.setCell ⟨g, j * 2 + 1, none⟩ (.int .i64 s) = q := ⟨_, rfl⟩
            have hr1 := HR.out.1
            rw [if_neg (Nat.lt_irrefl _)] at hr1
            have hr2 := hr1.give rfl j s
            rw [hW1] at hr2
            have HR2 : Hid (RpAt W1 B q (.slice (some ⟨g, 0, none⟩) cs.length cap) (.slice a2 r.length cp2) (if j < j + 1 then setS j s cs else cs) r ∧ Only (fun k => k = q ∨ k = g) w W1) := Lib.hid ⟨by rw [if_pos (by omega)]; exact hr2, by rw [← hW1]; exact HR.out.2.set g _ _ (.inr rfl)⟩
            clear hr1 hr2 hy ey et hxj
            go_wp2
            go_roundw
            case rel => exact ⟨j + 1, by omega, by go_num, HR2⟩
            case measure => simp [intOf]; omega
          · have et : xj.tok ≠ t := by
              intro e
              rcases Nat.lt_or_gt_of_ne hjk with g1 | g1
              · have := sorted_iff.1 HSO.out _ _ _ _ g1 hxj HX.out; have := HT.out; omega
              · have := sorted_iff.1 HSO.out _ _ _ _ g1 HX.out hxj; have := HT.out; omega
            have et2 : (xj.tok == t) = false := by simpa using et
            have HR2 : Hid (RpAt wr B q (.slice (some ⟨g, 0, none⟩) cs.length cap) (.slice a2 r.length cp2) (if k < j + 1 then setS k s cs else cs) r ∧ Only (fun k => k = q ∨ k = g) w wr) := Lib.hid ⟨by
              have := HR.out.1
              by_cases g1 : k < j
              · rw [if_pos g1] at this; rw [if_pos (by omega)]; exact this
              · rw [if_neg g1] at this; rw [if_neg (by omega)]; exact this, HR.out.2⟩
            clear et hy ey hxj
            go_wp2
            go_roundw
            case rel => exact ⟨j + 1, by omega, by go_num, HR2⟩
            case measure => simp [intOf]; omega
        · obtain rfl : j = cs.length := by omega
          have hr := HR.out.1
          rw [if_pos HKL.out] at hr
          have HFF : Hid (RpC B q (.slice (some ⟨g, 0, none⟩) cs.length cap) (setS k s cs) r w wr) := Lib.hid ⟨_, _, hr, HR.out.2.mono (fun i hi => by rcases hi with rfl | rfl; exact .inl rfl; exact .inr rfl), .inl rfl⟩
          clear hr
          go_wp2
          go_ret
          exact ⟨rfl, HFF.out⟩
    · have HTL1 : Hid (SlR 1 intC w (.slice (some ⟨gb, 1, none⟩) (n - 1) (cw - 1)) r) := Lib.hid (by have := HTL.out; rw [if_neg hc] at this; exact this)
      have hc2 : ¬ (1 = cw) := fun e => hc e.symm
      go_wp2_with (at_builtin; refine appR intC_len intC_one Try.underlying28 rfl (by decide) info_in1 rfl _ _ rfl w.heap.size (.slice none 0 0) [] rfl (OwnR.nil _ _ _) (.slice (some ⟨gb, 1, none⟩) (n - 1) (cw - 1)) r rfl HTL1.out (by simp; unfold maxLen; omega) (by simp; omega) (Nat.le_refl _) ?_; intro v2 w2 own2 hb2; rw [List.nil_append] at own2; obtain ⟨a2, cp2, hv2⟩ := own_slice own2; subst hv2; obtain ⟨hz2, hc2x⟩ := HQ1.out w2 hb2; obtain ⟨W3, hW3⟩ : ∃ x, w2.setCell ⟨q, 1, none⟩ (.slice a2 r.length cp2) = x := ⟨_, rfl⟩; have hpw := HRW.out.putW HBW.out own2 hb2; rw [hW3] at hpw; have HPW := Lib.hid hpw; have d0 := hpw.1.c0; clear own2 hb2 hpw)
      have HRP := Lib.hid HPW.out.1
      have HON : Hid (Only (fun k => k = q ∨ k = g) w W3) := Lib.hid (HPW.out.2.mono (fun i hi => by rcases hi with e | e; exact .inl e; exact .inr (Option.some.inj e).symm))
      clear c0 c1 s0 f1 hW3 hz2 hc2x
      go_loopw [33] (fun i wr => ∃ j : Nat, j ≤ cs.length ∧ i = .int .i64 j ∧ Hid (RpAt wr B q (.slice (some ⟨g, 0, none⟩) cs.length cap) (.slice a2 r.length cp2) (if k < j then setS k s cs else cs) r ∧ Only (fun k => k = q ∨ k = g) w wr)) (fun i _ => cs.length - (intOf i).toNat)
      case atStart => exact ⟨0, Nat.zero_le _, rfl, Lib.hid ⟨by rw [if_neg (by omega)]; exact HRP.out, HON.out⟩⟩
      case round =>
        clear HRP HON
        obtain ⟨j, hj, rfl, HR⟩ := hrel
        by_cases hjl : j < cs.length
        · have hji : (j : Int) < (cs.length : Int) := by omega
          have c0 := HR.out.1.c0
          obtain ⟨xj, hxj⟩ : ∃ xj, cs[j]? = some xj := ⟨_, rgetD hjl⟩
          obtain ⟨y, hy, ey⟩ := setS_at (k := k) (z := s) hxj
          obtain ⟨y0, y1, yf⟩ := HR.out.1.row hy
          rw [ey] at y0
          by_cases hjk : j = k
          · subst hjk
            have et : xj.tok = t := by have := HX.out; rw [hxj] at this; cases this; exact HT.out
            rw [et] at y0
            obtain ⟨W1, hW1⟩ : ∃ q, wr.setCell ⟨g, j * 2 + 1, none⟩ (.int .i64 s) = q := ⟨_, rfl⟩
            have hr1 := HR.out.1
            rw [if_neg (Nat.lt_irrefl _)] at hr1
            have hr2 := hr1.give rfl j s
            rw [hW1] at hr2
            have HR2 : Hid (RpAt W1 B q (.slice (some ⟨g, 0, none⟩) cs.length cap) (.slice a2 r.length cp2) (if j < j + 1 then setS j s cs else cs) r ∧ Only (fun k => k = q ∨ k = g) w W1) := Lib.hid ⟨by rw [if_pos (by omega)]; exact hr2, by rw [← hW1]; exact HR.out.2.set g _ _ (.inr rfl)⟩
            clear hr1 hr2 hy ey et hxj
            go_wp2
            go_roundw
            case rel => exact ⟨j + 1, by omega, by go_num, HR2⟩
            case measure => simp [intOf]; omega
          · have et : xj.tok ≠ t := by
              intro e
              rcases Nat.lt_or_gt_of_ne hjk with g1 | g1
              · have := sorted_iff.1 HSO.out _ _ _ _ g1 hxj HX.out; have := HT.out; omega
              · have := sorted_iff.1 HSO.out _ _ _ _ g1 HX.out hxj; have := HT.out; omega
            have et2 : (xj.tok == t) = false := by simpa using et
            have HR2 : Hid (RpAt wr B q (.slice (some ⟨g, 0, none⟩) cs.length cap) (.slice a2 r.length cp2) (if k < j + 1 then setS k s cs else cs) r ∧ Only (fun k => k = q ∨ k = g) w wr) := Lib.hid ⟨by
              have := HR.out.1
              by_cases g1 : k < j
              · rw [if_pos g1] at this; rw [if_pos (by omega)]; exact this
              · rw [if_neg g1] at this; rw [if_neg (by omega)]; exact this, HR.out.2⟩
            clear et hy ey hxj
            go_wp2
            go_roundw
            case rel => exact ⟨j + 1, by omega, by go_num, HR2⟩
            case measure => simp [intOf]; omega
        · obtain rfl : j = cs.length := by omega
          have hr := HR.out.1
          rw [if_pos HKL.out] at hr
          have HFF : Hid (RpC B q (.slice (some ⟨g, 0, none⟩) cs.length cap) (setS k s cs) r w wr) := Lib.hid ⟨_, _, hr, HR.out.2.mono (fun i hi => by rcases hi with rfl | rfl; exact .inl rfl; exact .inr rfl), .inl rfl⟩
          clear hr
          go_wp2
          go_ret
          exact ⟨rfl, HFF.out⟩
end Pr
end Go.Proofs.Ytlhojkopfpnhpaa
