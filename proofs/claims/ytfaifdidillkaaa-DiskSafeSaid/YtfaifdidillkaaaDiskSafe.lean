/- The law DiskSafe returns true for every list of calls and every list of numbers: what is safe is there behind a crash, and nothing else than a beginning of what was written. No condition. -/
import Derived.Test.YtfaifdidillkaaaRd
import Derived.Test.YtfaifdidillkaaaRdK
namespace Go.Proofs.Ytfaifdidillkaaa.diskSafe
open Go.ChangeShapes Go.WideShapes Go.ChangeAt Go.RowKit
open Go.ChangeMaps (open_string shut_string)
set_option linter.unusedVariables false

theorem own : ownKnob Try.prog.godebug = none := by kernel_rfl
theorem laidOut : laidOutB Try.prog = true := by kernel_rfl

set_option linter.unusedSimpArgs false
open Dk Rk Go.Deep
set_option maxRecDepth 100000 in
set_option maxHeartbeats 16000000 in
theorem walk (v0 : Value) (x0 : (List DOp)) (v1 : Value) (z1 : List Int) (w : World) (w0 : IsDOps w v0 x0) (w1 : Sl .i64 w v1 z1) (b1 : z1.length * 8 ≤ 140737488351232) :
    Calls Try.prog 4 #[v0, v1] w fun e w' => e = .returned (.bool true) ∧ Below w.heap.size w w' := by
  obtain ⟨rows, hr1, hr2, -⟩ := w0
  have HV := Lib.hid hr1
  have HQ := Lib.hid hr2
  obtain ⟨a, cap, e0, h1, h2, -⟩ := id hr1
  unfold maxLen at h2
  subst e0
  have HKE : Hid (SlR 1 inC w v1 z1) := Lib.hid (sl_slr w1)
  clear hr1 hr2 w1
  go_enter Try.func4, Try.ntmps4
  go_wp2_with fail
  refine (live_any _).mono ?_
  rintro e w2 ⟨rfl, hb⟩
  have HB2 := Lib.hid hb
  clear hb
  go_wp2_with fail
  refine (new_any _).mono ?_
  rintro e w3 ⟨p, m, V0, rfl, hv, hb⟩
  have HB3 : Hid (Below w.heap.size w w3) := Lib.hid (HB2.out.trans (hb.mono HB2.out.size))
  have HD3 : Hid (Dof w3 (fun k => w.heap.size ≤ k) p m ⟨true, -1, []⟩) := Lib.hid ⟨_, V0, hv, fun k hk => by have := HB2.out.size; omega⟩
  clear hv hb
  by_cases hl : 100 < rows.length
  · have d1 : decide ((100 : Int) < (rows.length : Int)) = true := decide_eq_true (by omega)
    go_wp2_with fail
    go_ret
    exact ⟨rfl, HB3.out⟩
  have d1 : decide ((100 : Int) < (rows.length : Int)) = false := decide_eq_false (by omega)
  have hl3 : rows.length ≤ 100 := by omega
  go_wp2_with fail
  go_loopw [38] (fun i wr => ∃ (k : Nat) (s : St), k ≤ rows.length ∧ i = .int .i64 (k : Int) ∧ Hid (OkF (10000 * k) s.F ∧ leftOk s.left ∧ Dof wr (fun k => w.heap.size ≤ k) p m s ∧ s.on = true ∧ s.left = -1) ∧ Hid (Below w.heap.size w wr)) (fun i _ => rows.length - (intOf i).toNat)
  case atStart => exact ⟨0, ⟨true, -1, []⟩, Nat.zero_le _, rfl, Lib.hid ⟨OkF.nil _, ⟨by decide, by decide⟩, HD3.out, rfl, rfl⟩, HB3⟩
  case round =>
    clear HD3 HB3
    obtain ⟨k, s, hk, rfl, HK, HBW⟩ := hrel
    by_cases hlt : k < rows.length
    · have hlti : (k : Int) < (rows.length : Int) := by omega
      obtain ⟨b, off, cp, e1, -, -, -, hbl, hcs⟩ : ∃ b off cp, Value.slice a rows.length cap = .slice (some ⟨b, off, none⟩) rows.length cp ∧ 0 < rows.length ∧ rows.length ≤ cp ∧ cp ≤ 9223372036854775807 ∧ b < w.heap.size ∧ ∀ i x, rows[i]? = some x → ∀ j u, (dopC x)[j]? = some u → w.cell? ⟨b, off + (i * 5 + j), none⟩ = some u := by
        rcases SlR.cases HV.out with ⟨a2, c2, e, hnil⟩ | h
        · rw [hnil] at hlt; simp at hlt
        · exact h
      simp only [Value.slice.injEq] at e1
      obtain ⟨rfl, -, rfl⟩ := e1
      obtain ⟨⟨x, vk⟩, hx⟩ : ∃ x, rows[k]? = some x := ⟨_, List.getElem?_eq_getElem hlt⟩
      have hq := HQ.out _ (List.mem_of_getElem? hx)
      have HWF : Hid x.wf := Lib.hid hq.1
      obtain ⟨ak, ck, hvk, -⟩ := hq.2
      simp only at hvk
      subst hvk
      obtain ⟨nk, hnk⟩ : ∃ q, x.keep.length = q := ⟨_, rfl⟩
      have HNK := Lib.hid hnk
      obtain ⟨x0', x1', x2', x3', x4'⟩ := dop_cells (w := wr) (b := b) (o := off + k * 5) (fun j u hu => by rw [Nat.add_assoc]; exact (HBW.out.cell (p := ⟨b, off + (k * 5 + j), none⟩) hbl).trans (hcs k _ hx j u hu))
      simp only [hnk] at x4'
      simp only at x0' x1' x2' x3'
      obtain ⟨g, hg⟩ : ∃ q, wr.heap.size = q := ⟨_, rfl⟩
      obtain ⟨W4, hW4⟩ : ∃ q, wr.alloc (.cells #[.int .i64 x.kind, .int .i64 x.n, .string x.name, .string x.b, .slice ak nk ck] 30) = q := ⟨_, rfl⟩
      have hb4 : Below wr.heap.size wr W4 := by rw [← hW4]; exact (Below.refl _ _).alloc (Nat.le_refl _) _
      have hg4 : W4.heap[g]? = some (.cells #[.int .i64 x.kind, .int .i64 x.n, .string x.name, .string x.b, .slice ak nk ck] 30 (0, 0)) := by rw [← hW4, ← hg]; exact heap_alloc_new _ _
      have y0 : W4.cell? ⟨g, 0, none⟩ = some (.int .i64 x.kind) := (cell_of_row _ _ 0 _ _ _ hg4).trans rfl
      have y3 : W4.cell? ⟨g, 3, none⟩ = some (.string x.b) := (cell_of_row _ _ 3 _ _ _ hg4).trans rfl
      have HCC : Hid (∀ u, Below W4.drew.heap.size W4.drew u → u.cell? ⟨g, 0, none⟩ = some (.int .i64 x.kind) ∧ u.cell? ⟨g, 1, none⟩ = some (.int .i64 x.n) ∧ u.cell? ⟨g, 2, none⟩ = some (.string x.name) ∧ u.cell? ⟨g, 3, none⟩ = some (.string x.b) ∧ u.cell? ⟨g, 4, none⟩ = some (.slice ak nk ck)) := Lib.hid (fun u hu => by
        have hgu := (hu.block g (row_lt hg4)).trans hg4
        exact ⟨(cell_of_row _ _ 0 _ _ _ hgu).trans rfl, (cell_of_row _ _ 1 _ _ _ hgu).trans rfl, (cell_of_row _ _ 2 _ _ _ hgu).trans rfl, (cell_of_row _ _ 3 _ _ _ hgu).trans rfl, (cell_of_row _ _ 4 _ _ _ hgu).trans rfl⟩)
      have HC4 := Lib.hid (HCC.out W4.drew (Below.refl _ _))
      have HD1 : Hid (Dof W4 (fun k => w.heap.size ≤ k) p m s) := Lib.hid (HK.out.2.2.1.below hb4)
      have HD4 : Hid (Dof W4.drew (fun k => w.heap.size ≤ k) p m s) := Lib.hid (HD1.out.below ((Below.refl W4.heap.size W4).drew))
      have HB4 := Lib.hid (HBW.out.trans (hb4.mono HBW.out.size))
      have HBW4 : Hid (Below w.heap.size w W4.drew) := Lib.hid HB4.out.drew
      clear hcs hx hg4 hb4 hq
      have HSKIP : Hid (OkF (10000 * (k + 1)) s.F) := Lib.hid (HK.out.1.mono (by omega))
      by_cases hkd : x.kind ≤ 3
      · have dk : decide (x.kind ≤ 3) = true := decide_eq_true hkd
        by_cases hsz : x.b.size ≤ 10000
        · have d2 : decide ((x.b.size : Int) ≤ 10000) = true := decide_eq_true (by omega)
          have d2b : decide (x.b.size ≤ 10000) = true := decide_eq_true hsz
          have HSZ : Hid (x.b.size ≤ 10000) := Lib.hid hsz
          have HKD : Hid (x.kind ≤ 3) := Lib.hid hkd
          have HK100 : Hid (k < 100) := Lib.hid (by omega)
          clear hsz hkd
          go_upto_region 9 with fail
          clear hW4 y0 y3
          refine Wl.start 3 (fun u => u.cell? ⟨g, 0, none⟩ = some (.int .i64 x.kind) ∧ u.cell? ⟨g, 1, none⟩ = some (.int .i64 x.n) ∧ u.cell? ⟨g, 2, none⟩ = some (.string x.name) ∧ u.cell? ⟨g, 3, none⟩ = some (.string x.b) ∧ u.cell? ⟨g, 4, none⟩ = some (.slice ak nk ck)) (fun _ => True) (by kernel_rfl) HC4.out trivial (fun hk => ?_)
          refine Wl.take (i := 0) (v := .pointer (some ⟨p, 0, none⟩)) [3] rfl (by kernel_rfl) (by kernel_rfl) (by kernel_rfl) (by kernel_rfl) (by kernel_rfl) (fun _ _ _ h => h) (.inl ⟨by kernel_rfl, ?_⟩) hk ?_
          · intro wx hSw
            clear hSw hk
            go_simp
            try first | with_reducible rfl | kernel_rfl
          simp only [Act.put, List.getElem_toArray, List.getElem_cons_succ, List.getElem_cons_zero, List.setIfInBounds_toArray, List.set_cons_succ, List.set_cons_zero]
          refine Wl.take (i := 2) (v := .agg #[.int .i64 x.kind, .int .i64 x.n, .string x.name, .string x.b, .slice ak nk ck]) [3] rfl (by kernel_rfl) (by kernel_rfl) (by kernel_rfl) (by kernel_rfl) (by kernel_rfl) (fun _ _ _ h => h) (.inl ⟨by kernel_rfl, ?_⟩) hk ?_
          · intro wx hSw
            have y0 := hSw.1.1
            have y1 := hSw.1.2.1
            have y2 := hSw.1.2.2.1
            have y3 := hSw.1.2.2.2.1
            have y4 := hSw.1.2.2.2.2
            clear hSw hk
            go_simp
            try first | with_reducible rfl | kernel_rfl
          simp only [Act.put, List.getElem_toArray, List.getElem_cons_succ, List.getElem_cons_zero, List.setIfInBounds_toArray, List.set_cons_succ, List.set_cons_zero]
          refine Wl.one (i := 1) (by kernel_rfl) rfl (fun K hK => ?_)
          go_simp
          refine (rnew_any _).mono ?_
          rintro e w5 ⟨q, rfl, hx, hb5⟩
          have HX5 := Lib.hid hx
          have HB45 := Lib.hid hb5
          have HC5 := Lib.hid (HCC.out w5 hb5)
          clear hx hb5
          refine hK.out _ _ (Wl.Kn.on HC5.out trivial) (fun hk => ?_)
          clear hK K
          refine Wl.one (i := 3) (by kernel_rfl) rfl (fun K hK => ?_)
          go_simp
          obtain ⟨Sd, Vd, hd4, hd4T⟩ := HD4.out
          refine (do2_any (n := 10000 * k) (T := fun k => w.heap.size ≤ k) w5 s ⟨true, -1, []⟩ x (.slice ak nk ck) (hd4.below HB45.out) HX5.out (fun k hk hk2 => by have := hd4.low k hk; omega) hd4T (fun k hk => by have := HBW4.out.size; omega) HK.out.1 HK.out.2.1 (OkF.nil _) ⟨by decide, by decide⟩ HWF.out ⟨ak, ck, by rw [HNK.out]⟩ (by have := HSZ.out; have := HK100.out; omega) HKD.out).mono ?_
          rintro e w6 ⟨z, rfl, hdo, ho⟩
          have HB6 : Hid (Below w.heap.size w w6) := Lib.hid (ho.below (HBW4.out.trans (HB45.out.mono HBW4.out.size)) (Nat.le_trans HBW4.out.size HB45.out.size) (fun k hk => hk))
          have HDO6 : Hid (Dof w6 (fun k => w.heap.size ≤ k) p m (doS s x)) := Lib.hid (by
            obtain ⟨S6, V6, h6, h7⟩ := hdo
            exact ⟨S6, V6, h6, fun k hk => by
              rcases h7 k hk with q | q
              · exact q
              · have := HBW4.out.size; have := HB45.out.size; omega⟩)
          clear hdo ho hd4 hd4T
          refine hK.out _ _ (Wl.Kn.off (by kernel_rfl) trivial) (fun hk => ?_)
          clear hK K
          refine Wl.done (by kernel_rfl) ?_ _
          clear hk
          have HOK5 := Lib.hid (do_ok HK.out.1 HK.out.2.1 HWF.out HSZ.out)
          go_wp2_with fail
          go_roundw
          case rel => exact ⟨k + 1, doS s x, by omega, by go_num, Lib.hid ⟨HOK5.out.1.mono (by omega), HOK5.out.2, HDO6.out, do_on HKD.out HK.out.2.2.2.1 HK.out.2.2.2.2⟩, HB6⟩
          case measure => simp [intOf]; omega
        · have d2 : decide ((x.b.size : Int) ≤ 10000) = false := decide_eq_false (by omega)
          have d2b : decide (x.b.size ≤ 10000) = false := decide_eq_false hsz
          go_wp2_with fail
          go_roundw
          case rel => exact ⟨k + 1, s, by omega, by go_num, Lib.hid ⟨HSKIP.out, HK.out.2.1, HD1.out, HK.out.2.2.2⟩, HB4⟩
          case measure => simp [intOf]; omega
      · have dk : decide (x.kind ≤ 3) = false := decide_eq_false hkd
        go_wp2_with fail
        go_roundw
        case rel => exact ⟨k + 1, s, by omega, by go_num, Lib.hid ⟨HSKIP.out, HK.out.2.1, HD1.out, HK.out.2.2.2⟩, HB4⟩
        case measure => simp [intOf]; omega
    · obtain rfl : k = rows.length := by omega
      obtain ⟨Sd, Vd, hd, hdT⟩ := HK.out.2.2.1
      obtain ⟨on, lf, F⟩ := s
      obtain ⟨hon, hlf⟩ := HK.out.2.2.2
      simp only at hon hlf hd
      subst hon hlf
      have HOK : Hid (OkF 1000000 F) := Lib.hid (HK.out.1.mono (by omega))
      have HD := Lib.hid hd
      have HDT := Lib.hid hdT
      have hcnt := HOK.out.cnt
      clear hd hdT HK hl3 h2 d1 hl
      go_wp2_with fail
      refine (names_any wr HD.out HOK.out).mono ?_
      rintro e wl ⟨u, rfl, hu, hbl⟩
      obtain ⟨au, cu, hau⟩ := own_slice hu
      rw [List.length_map] at hau
      subst hau
      have HNM := Lib.hid hu
      have HBL := Lib.hid hbl
      have HBWL : Hid (Below w.heap.size w wl) := Lib.hid (HBW.out.trans (hbl.mono HBW.out.size))
      have HDL := Lib.hid (HD.out.below hbl)
      have hmm := @run_makeMap Try.prog
      obtain ⟨mw, hmw⟩ : ∃ q, wl.heap.size = q := ⟨_, rfl⟩
      obtain ⟨W5, hW5⟩ : ∃ q, wl.alloc (.map #[] 0) = q := ⟨_, rfl⟩
      obtain ⟨ms, hms⟩ : ∃ q, W5.heap.size = q := ⟨_, rfl⟩
      obtain ⟨W6, hW6⟩ : ∃ q, W5.alloc (.map #[] 0) = q := ⟨_, rfl⟩
      have HMW0 : Hid (MS W6 mw 0 (fW (F.take 0))) := Lib.hid (by rw [← hW6]; refine Mp.MapF.alloc ?_ _; rw [← hW5, ← hmw]; exact (Mp.made _ _ _ _ _).congr (fun x _ => rfl))
      have HMS0 : Hid (MS W6 ms 0 (fS (F.take 0))) := Lib.hid (by rw [← hW6, ← hms]; exact (Mp.made _ _ _ _ _).congr (fun x _ => rfl))
      have HB60 : Hid (Below wl.heap.size wl W6) := Lib.hid (by rw [← hW6, ← hW5]; exact ((Below.refl _ _).alloc (Nat.le_refl _) _).alloc (by simp) _)
      have HMM : Hid (wl.heap.size ≤ mw ∧ wl.heap.size ≤ ms ∧ mw ≠ ms ∧ ms < W6.heap.size) := Lib.hid (by
        have e1 : W5.heap.size = wl.heap.size + 1 := by rw [← hW5]; simp
        have e2 : W6.heap.size = W5.heap.size + 1 := by rw [← hW6]; simp
        omega)
      clear hu hbl
      go_wp2_with fail
      clear hmm hW5 hW6 hmw hms
      go_loopw [62] (fun i wr => ∃ j : Nat, j ≤ F.length ∧ i = .int .i64 (j : Int) ∧ Hid (Below wl.heap.size wl wr) ∧ Hid (MS wr mw j (fW (F.take j))) ∧ Hid (MS wr ms j (fS (F.take j)))) (fun i _ => F.length - (intOf i).toNat)
      case atStart => exact ⟨0, Nat.zero_le _, rfl, HB60, HMW0, HMS0⟩
      case round =>
        clear HB60 HMW0 HMS0
        obtain ⟨j, hj, rfl, HB, HMW, HMS⟩ := hrel
        by_cases hlt : j < F.length
        · have hlti : (j : Int) < (F.length : Int) := by omega
          obtain ⟨f, hx⟩ : ∃ x, F[j]? = some x := ⟨_, List.getElem?_eq_getElem hlt⟩
          have hm := List.mem_of_getElem? hx
          obtain ⟨bl, ol, cp, e1, -, hlc2, hcm2, hbl, hcs⟩ : ∃ b off cp, Value.slice au F.length cu = .slice (some ⟨b, off, none⟩) F.length cp ∧ 0 < F.length ∧ F.length ≤ cp ∧ cp ≤ 9223372036854775807 ∧ b < wl.heap.size ∧ ∀ i x, (F.map Fl.name)[i]? = some x → ∀ j u, (nmC x)[j]? = some u → wl.cell? ⟨b, off + (i * 1 + j), none⟩ = some u := by
            rcases SlR.cases (HNM.out.sl nmC_len) with ⟨a2, c2, e, hnil⟩ | h
            · have := congrArg List.length hnil
              simp at this
              rw [this] at hlt; simp at hlt
            · rw [List.length_map] at h; exact h
          simp only [Value.slice.injEq] at e1
          obtain ⟨rfl, -, rfl⟩ := e1
          have l0 : wr.cell? ⟨bl, ol + j, none⟩ = some (.string f.name) := by
            have := hcs j f.name (by rw [List.getElem?_map, hx]; rfl) 0 _ rfl
            refine (HB.out.cell (p := ⟨bl, ol + j, none⟩) hbl).trans ?_
            simpa using this
          have HFM : Hid (f.name.size ≤ maxLen) := Lib.hid (by have := name_size (HOK.out.nm f hm); unfold maxLen; omega)
          have HWF : Hid (∀ z ∈ f.zs, (Lit.int .u8 z).wf = true) := Lib.hid (HOK.out.wf f hm)
          have HE : Hid (findE true F f.name = 0 ∧ readL true F f.name = f.zs) := Lib.hid (by
            have := HOK.out.srt.fnd hm
            exact ⟨by unfold findE; rw [this]; rfl, by unfold readL fileL oldF; rw [this]; rfl⟩)
          have HLO := Lib.hid (loose_of HOK.out hm)
          have HX := Lib.hid hx
          have hfl := (HOK.out.len f hm).2
          have hfs := HOK.out.safe f hm
          have HJ64 : Hid (j < maxLen) := Lib.hid (by unfold maxLen; omega)
          clear hcs hx hm
          go_wp2_with fail
          refine (read_any f.name wr (HDL.out.below HB.out) HOK.out HFM.out (by decide)).mono ?_
          rintro e w3 ⟨u, rfl, hu, hb3⟩
          rw [HE.out.1]
          rw [HE.out.2] at hu
          obtain ⟨ab, cb, hau⟩ := own_slice hu
          subst hau
          have HB3 : Hid (Below wl.heap.size wl w3) := Lib.hid (HB.out.trans (hb3.mono HB.out.size))
          have HMW3 := Lib.hid (HMW.out.below hb3)
          have HMS3 := Lib.hid (HMS.out.below hb3)
          have e1 := run_str (own_sl hu HWF.out)
          clear hu hb3 l0
          go_upto_region 21 with (at_mapUpdate; refine Mp.wp_put rfl _ _ _ _ rfl KS Try.underlying37 mw j _ rfl HMW3.out HJ64.out f.name HFM.out (.string (strOfNums f.zs)) rfl rfl ?_; intro w4 hm4 hg4; have HMW4 : Hid (MS w4 mw (j + 1) (fW (F.take (j + 1)))) := Lib.hid (hm4.congr (fun y _ => fW_upd HOK.out.srt HX.out y)); have HB4 : Hid (Below wl.heap.size wl w4) := Lib.hid ((Only.grown (S := fun k => k = mw) hg4 (fun q hq => (Option.some.inj hq).symm)).below HB3.out HB3.out.size (fun k hk => by subst hk; exact HMM.out.1)); have HMS4 : Hid (MS w4 ms j (fS (F.take j))) := Lib.hid (HMS3.out.block (hg4.block ms HMS3.out.lt (fun e => HMM.out.2.2.1 (Option.some.inj e).symm))); clear hm4 hg4)
          go_wp2_with fail
          refine (loose_any f.name w4 (HDL.out.below HB4.out) HFM.out HOK.out (by decide)).mono ?_
          rintro e w5 ⟨rfl, hb5⟩
          rw [HLO.out]
          have hwr : IntKind.i64.wrap ((f.zs.length : Int) - ((f.zs.length : Int) - f.safe)) = (f.safe : Int) := by rw [IntKind.wrap_i64]; omega
          have hwr2 : IntKind.i64.wrap (f.safe : Int) = (f.safe : Int) := by rw [IntKind.wrap_i64]; omega
          have hss : (f.zs.length : Int) - ((f.zs.length : Int) - f.safe) = (f.safe : Int) := by omega
          have HB5 : Hid (Below wl.heap.size wl w5) := Lib.hid (HB4.out.trans (hb5.mono HB4.out.size))
          have HMW5 := Lib.hid (HMW4.out.below hb5)
          have HMS5 := Lib.hid (HMS4.out.below hb5)
          clear hb5
          go_wp2_with (at_mapUpdate; refine Mp.wp_put rfl _ _ _ _ rfl KS Try.underlying38 ms j _ rfl HMS5.out HJ64.out f.name HFM.out (.int .i64 (f.safe : Int)) rfl rfl ?_; intro w6 hm6 hg6; have HMS6 : Hid (MS w6 ms (j + 1) (fS (F.take (j + 1)))) := Lib.hid (hm6.congr (fun y _ => fS_upd HOK.out.srt HX.out y)); have HB6 : Hid (Below wl.heap.size wl w6) := Lib.hid ((Only.grown (S := fun k => k = ms) hg6 (fun q hq => (Option.some.inj hq).symm)).below HB5.out HB5.out.size (fun k hk => by subst hk; exact HMM.out.2.1)); have HMW6 : Hid (MS w6 mw (j + 1) (fW (F.take (j + 1)))) := Lib.hid (HMW5.out.block (hg6.block mw HMW5.out.lt (fun e => HMM.out.2.2.1 (Option.some.inj e)))); clear hm6 hg6)
          go_roundw
          case rel => exact ⟨j + 1, by omega, by go_num, HB6, HMW6, HMS6⟩
          case measure => simp [intOf]; omega
        · obtain rfl : j = F.length := by omega
          have HMWF : Hid (MS wr mw F.length (fW F)) := Lib.hid (by have := HMW.out; rwa [List.take_length] at this)
          have HMSF : Hid (MS wr ms F.length (fS F)) := Lib.hid (by have := HMS.out; rwa [List.take_length] at this)
          have HDW := Lib.hid (HDL.out.below HB.out)
          have HBWR : Hid (Below w.heap.size w wr) := Lib.hid (HBWL.out.trans (HB.out.mono HBWL.out.size))
          clear HMW HMS
          go_wp2_with fail
          refine (crash_any _ z1 wr HDW.out HOK.out (by decide) (fun w' ho => HKE.out.below (ho.below HBWR.out HBWR.out.size HDT.out) (Nat.le_refl _))).mono ?_
          rintro e w7 ⟨rfl, hl7⟩
          have HL7 := Lib.hid hl7
          obtain ⟨⟨V7, hv7⟩, -⟩ := hl7
          have HV7 := Lib.hid hv7
          clear hv7
          go_wp2_with fail
          refine (power_any w7 HV7.out (OkF.cr HOK.out) (by decide)).mono ?_
          rintro e w8 ⟨rfl, hl8⟩
          obtain ⟨F2, hF2⟩ : ∃ z, outF z1 F 0 = z := ⟨_, rfl⟩
          have hpc := pow_crash (s := ⟨true, -1, F⟩) (ks := z1) HOK.out
          change powS ⟨false, -1, crashF z1 F⟩ = ⟨true, -1, outF z1 F 0⟩ ∧ OkF 1000000 (outF z1 F 0) at hpc
          have hoc := out_cut z1 F 0 HOK.out.safe
          rw [hF2] at hpc hoc
          have HOK2 := Lib.hid hpc.2
          have HCUT := Lib.hid hoc
          change LeftS _ p m w7 w8 (powS ⟨false, -1, crashF z1 F⟩) at hl8
          rw [hpc.1] at hl8
          have HL8 : Hid (Dk.Left Sd p m wr w8 true (-1) F2) := Lib.hid (HL7.out.trans hl8)
          obtain ⟨⟨V8, hv8⟩, -⟩ := HL8.out
          have HV8 := Lib.hid hv8
          have hsd : ∀ k, Sd k → k < wl.heap.size := HDL.out.low
          have HMWN : Hid (∀ k, Grow Sd wr w8 k → k ≠ mw ∧ k ≠ ms) := Lib.hid (fun k hk => by
            have h1 := HMM.out
            have h2 := HMWF.out.lt
            have h3 := HMSF.out.lt
            rcases hk with hk | hk
            · have := hsd k hk; omega
            · omega)
          have HMW8 : Hid (MS w8 mw F.length (fW F)) := Lib.hid (HMWF.out.block (HL8.out.2.2.2.2.2 mw HMWF.out.lt (fun q => (HMWN.out mw (.inl q)).1 rfl)))
          have HMS8 : Hid (MS w8 ms F.length (fS F)) := Lib.hid (HMSF.out.block (HL8.out.2.2.2.2.2 ms HMSF.out.lt (fun q => (HMWN.out ms (.inl q)).2 rfl)))
          have HB8 : Hid (Below w.heap.size w w8) := Lib.hid (HL8.out.2.below HBWR.out HBWR.out.size HDT.out)
          have hcnt2 := HOK2.out.cnt
          clear hl8 hpc hoc hv8 hsd hF2 hcnt
          go_wp2_with fail
          refine (names_any w8 HV8.out HOK2.out).mono ?_
          rintro e w9 ⟨u2, rfl, hu2, hb9⟩
          obtain ⟨au2, cu2, hau2⟩ := own_slice hu2
          rw [List.length_map] at hau2
          subst hau2
          have HNM2 := Lib.hid hu2
          have HV9 := Lib.hid (HV8.out.below hb9)
          have HMW9 := Lib.hid (HMW8.out.below hb9)
          have HMS9 := Lib.hid (HMS8.out.below hb9)
          have HB9 : Hid (Below w.heap.size w w9) := Lib.hid (HB8.out.trans (hb9.mono HB8.out.size))
          clear hu2 hb9
          go_wp2_with fail
          obtain ⟨wc, hwc⟩ : ∃ z, z = wr := ⟨_, rfl⟩
          subst hwc
          go_loopw [95] (fun i wr => ∃ j : Nat, j ≤ F2.length ∧ i = .int .i64 (j : Int) ∧ Hid (Only (fun k => k = mw) w9 wr) ∧ Hid (MS wr mw F.length (fD F F2 j))) (fun i _ => F2.length - (intOf i).toNat)
          case atStart => exact ⟨0, Nat.zero_le _, rfl, Lib.hid (Only.refl _ _), Lib.hid (HMW9.out.congr (fun x _ => rfl))⟩
          case round =>
            clear HMW9
            obtain ⟨j, hj, rfl, HON, HMD⟩ := hrel
            have HVR : Hid (DkV wr (Grow Sd wc w8) p m V8 true (-1) F2) := Lib.hid (HV9.out.only HON.out (fun k hk q => (HMWN.out k hk).1 q))
            have HMSR : Hid (MS wr ms F.length (fS F)) := Lib.hid (HMS9.out.block (HON.out.2.2.2.2 ms HMS9.out.lt (fun q => HMM.out.2.2.1 q.symm)))
            have HBR : Hid (Below w.heap.size w wr) := Lib.hid (HON.out.below HB9.out HB9.out.size (fun k hk => by subst hk; have := HMM.out.1; have := HBWL.out.size; omega))
            by_cases hlt : j < F2.length
            · have hlti : (j : Int) < (F2.length : Int) := by omega
              obtain ⟨f2, hx⟩ : ∃ x, F2[j]? = some x := ⟨_, List.getElem?_eq_getElem hlt⟩
              have hm := List.mem_of_getElem? hx
              obtain ⟨f, hf, hct⟩ := HCUT.out.1 f2 hm
              obtain ⟨bl, ol, cp, e1, -, hlc2, hcm2, hbl, hcs⟩ : ∃ b off cp, Value.slice au2 F2.length cu2 = .slice (some ⟨b, off, none⟩) F2.length cp ∧ 0 < F2.length ∧ F2.length ≤ cp ∧ cp ≤ 9223372036854775807 ∧ b < w9.heap.size ∧ ∀ i x, (F2.map Fl.name)[i]? = some x → ∀ j u, (nmC x)[j]? = some u → w9.cell? ⟨b, off + (i * 1 + j), none⟩ = some u := by
                rcases SlR.cases (HNM2.out.sl nmC_len) with ⟨a2, c2, e, hnil⟩ | h
                · have := congrArg List.length hnil
                  simp at this
                  rw [this] at hlt; simp at hlt
                · rw [List.length_map] at h; exact h
              simp only [Value.slice.injEq] at e1
              obtain ⟨rfl, -, rfl⟩ := e1
              have hnb : w8.heap.size ≤ bl := (World.ownsRow.lt HNM2.out bl rfl).1
              have l0 : wr.cell? ⟨bl, ol + j, none⟩ = some (.string f2.name) := by
                have := hcs j f2.name (by rw [List.getElem?_map, hx]; rfl) 0 _ rfl
                have hbk := HON.out.2.2.2.2 bl hbl (fun q => by have := HMW8.out.lt; omega)
                refine (World.cell?_of_block (a := ⟨bl, ol + j, none⟩) hbk).trans ?_
                simpa using this
              have HFM2 : Hid (Mp.okS f2.name) := Lib.hid (by have := name_size (HOK2.out.nm f2 hm); unfold Mp.okS maxLen; omega)
              have HWF2 : Hid (∀ z ∈ f2.zs, (Lit.int .u8 z).wf = true) := Lib.hid (HOK2.out.wf f2 hm)
              have HE : Hid (findE true F2 f2.name = 0 ∧ readL true F2 f2.name = f2.zs) := Lib.hid (by
                have := HOK2.out.srt.fnd hm
                exact ⟨by unfold findE; rw [this]; rfl, by unfold readL fileL oldF; rw [this]; rfl⟩)
              have HLO2 : Hid (looseL F2 f2.name = 0) := Lib.hid (by rw [loose_of HOK2.out hm, hct.2.2.2.2]; omega)
              have HX2 := Lib.hid hx
              have HFD : Hid (fD F F2 j f2.name = some (.string (strOfNums f.zs))) := Lib.hid (fD_at HOK.out.srt HOK2.out.srt hx hf hct.1)
              have HFS : Hid (fS F f2.name = some (.int .i64 (f.safe : Int))) := Lib.hid (by rw [← hct.1]; exact fS_at HOK.out.srt hf)
              have HCN : Hid (decide ((f2.zs.length : Int) < (f.safe : Int)) = false ∧ decide (f2.zs.length < f.safe) = false ∧ f2.zs.length ≤ f.zs.length ∧ (f2.zs.length : Int) ≤ (f.zs.length : Int) ∧ True ∧ (strOfNums f.zs).size = f.zs.length ∧ (strOfNums f.zs).extract 0 f2.zs.length = strOfNums f2.zs) := Lib.hid ⟨decide_eq_false (by have := hct.2.1; omega), decide_eq_false (by have := hct.2.1; omega), hct.2.2.1, by have := hct.2.2.1; omega, trivial, strOfNums_size _, by rw [ext_take, ← hct.2.2.2.1]⟩
              have hfl2 := (HOK2.out.len f2 hm).2
              clear hcs hx hm hf hct hnb
              go_wp2_with fail
              refine (read_any f2.name wr HVR.out HOK2.out HFM2.out (by decide)).mono ?_
              rintro e w3 ⟨u, rfl, hu, hb3⟩
              rw [HE.out.1]
              rw [HE.out.2] at hu
              obtain ⟨ab, cb, hau⟩ := own_slice hu
              subst hau
              have HB3 := Lib.hid hb3
              have hlk := (HMD.out.below hb3).look KS Try.underlying37 (zStr w3) HFM2.out false
              rw [HFD.out] at hlk
              have HOB5 : Hid (OwnR 1 byC TB w3.drew wr.heap.size (.slice ab f2.zs.length cb) f2.zs) := Lib.hid (hu.below ((Below.refl w3.heap.size w3).drew) (Nat.le_refl _))
              have HBD : Hid (Below wr.heap.size wr w3.drew) := Lib.hid hb3.drew
              have HMS5 : Hid (MS w3.drew ms F.length (fS F)) := Lib.hid (HMSR.out.below HBD.out)
              have HV5 : Hid (DkV w3.drew (Grow Sd wc w8) p m V8 true (-1) F2) := Lib.hid (HVR.out.below HBD.out)
              clear hu hb3 l0
              go_upto_region 30 with fail
              clear hlk
              refine Wl.start 999 (fun _ => True) (fun _ => True) (by kernel_rfl) trivial trivial (fun hk => ?_)
              refine Wl.take0 (i := 0) (v := .int .i64 0) rfl (by kernel_rfl) (by kernel_rfl) (by kernel_rfl) (by kernel_rfl) (fun _ _ _ h => h) (.inl ⟨by kernel_rfl, ?_⟩) hk ?_
              · intro wx hSw
                clear hSw hk
                go_simp
                try first | with_reducible rfl | kernel_rfl
              simp only [Act.put, List.getElem_toArray, List.getElem_cons_succ, List.getElem_cons_zero, List.setIfInBounds_toArray, List.set_cons_succ, List.set_cons_zero]
              refine Wl.take0 (i := 1) (v := .bool false) rfl (by kernel_rfl) (by kernel_rfl) (by kernel_rfl) (by kernel_rfl) (fun _ _ _ h => h) (.inl ⟨by kernel_rfl, ?_⟩) hk ?_
              · intro wx hSw
                clear hSw hk
                go_simp
                try first | with_reducible rfl | kernel_rfl
              simp only [Act.put, List.getElem_toArray, List.getElem_cons_succ, List.getElem_cons_zero, List.setIfInBounds_toArray, List.set_cons_succ, List.set_cons_zero]
              refine Wl.take0 (i := 2) (v := .bool false) rfl (by kernel_rfl) (by kernel_rfl) (by kernel_rfl) (by kernel_rfl) (fun _ _ _ h => h) (.inl ⟨by kernel_rfl, ?_⟩) hk ?_
              · intro wx hSw
                clear hSw hk
                go_simp
                try first | with_reducible rfl | kernel_rfl
              simp only [Act.put, List.getElem_toArray, List.getElem_cons_succ, List.getElem_cons_zero, List.setIfInBounds_toArray, List.set_cons_succ, List.set_cons_zero]
              refine Wl.take0 (i := 3) (v := .slice ab f2.zs.length cb) rfl (by kernel_rfl) (by kernel_rfl) (by kernel_rfl) (by kernel_rfl) (fun _ _ _ h => h) (.inl ⟨by kernel_rfl, ?_⟩) hk ?_
              · intro wx hSw
                clear hSw hk
                go_simp
                try first | with_reducible rfl | kernel_rfl
              simp only [Act.put, List.getElem_toArray, List.getElem_cons_succ, List.getElem_cons_zero, List.setIfInBounds_toArray, List.set_cons_succ, List.set_cons_zero]
              refine Wl.take0 (i := 4) (v := .int .i64 (f2.zs.length : Int)) rfl (by kernel_rfl) (by kernel_rfl) (by kernel_rfl) (by kernel_rfl) (fun _ _ _ h => h) (.inl ⟨by kernel_rfl, ?_⟩) hk ?_
              · intro wx hSw
                clear hSw hk
                go_simp
                try first | with_reducible rfl | kernel_rfl
              simp only [Act.put, List.getElem_toArray, List.getElem_cons_succ, List.getElem_cons_zero, List.setIfInBounds_toArray, List.set_cons_succ, List.set_cons_zero]
              refine Wl.take0 (i := 5) (v := .map (some ms)) rfl (by kernel_rfl) (by kernel_rfl) (by kernel_rfl) (by kernel_rfl) (fun _ _ _ h => h) (.inl ⟨by kernel_rfl, ?_⟩) hk ?_
              · intro wx hSw
                clear hSw hk
                go_simp
                try first | with_reducible rfl | kernel_rfl
              simp only [Act.put, List.getElem_toArray, List.getElem_cons_succ, List.getElem_cons_zero, List.setIfInBounds_toArray, List.set_cons_succ, List.set_cons_zero]
              refine Wl.take0 (i := 6) (v := .string f2.name) rfl (by kernel_rfl) (by kernel_rfl) (by kernel_rfl) (by kernel_rfl) (fun _ _ _ h => h) (.inl ⟨by kernel_rfl, ?_⟩) hk ?_
              · intro wx hSw
                clear hSw hk
                go_simp
                try first | with_reducible rfl | kernel_rfl
              simp only [Act.put, List.getElem_toArray, List.getElem_cons_succ, List.getElem_cons_zero, List.setIfInBounds_toArray, List.set_cons_succ, List.set_cons_zero]
              refine Wl.one (i := 7) (by kernel_rfl) rfl (fun K hK => ?_)
              have hlk := (HMS5.out.look KS Try.underlying38 (zInt _) HFM2.out false)
              rw [HFS.out] at hlk
              go_simp
              clear hlk
              refine hK.out _ _ (Wl.Kn.on trivial trivial) (fun hk => ?_)
              clear hK K
              refine Wl.take0 (i := 8) (v := .bool false) rfl (by kernel_rfl) (by kernel_rfl) (by kernel_rfl) (by kernel_rfl) (fun _ _ _ h => h) (.inl ⟨by kernel_rfl, ?_⟩) hk ?_
              · intro wx hSw
                have hc1 := HCN.out.1
                have hc1n := HCN.out.2.1
                clear hSw hk
                go_simp
                try first | with_reducible rfl | kernel_rfl
              simp only [Act.put, List.getElem_toArray, List.getElem_cons_succ, List.getElem_cons_zero, List.setIfInBounds_toArray, List.set_cons_succ, List.set_cons_zero]
              refine Wl.take0 (i := 9) (v := .bool false) rfl (by kernel_rfl) (by kernel_rfl) (by kernel_rfl) (by kernel_rfl) (fun _ _ _ h => h) (.inl ⟨by kernel_rfl, ?_⟩) hk ?_
              · intro wx hSw
                clear hSw hk
                go_simp
                try first | with_reducible rfl | kernel_rfl
              simp only [Act.put, List.getElem_toArray, List.getElem_cons_succ, List.getElem_cons_zero, List.setIfInBounds_toArray, List.set_cons_succ, List.set_cons_zero]
              refine Wl.take0 (i := 10) (v := .bool false) rfl (by kernel_rfl) (by kernel_rfl) (by kernel_rfl) (by kernel_rfl) (fun _ _ _ h => h) (.inl ⟨by kernel_rfl, ?_⟩) hk ?_
              · intro wx hSw
                clear hSw hk
                go_simp
                try first | with_reducible rfl | kernel_rfl
              simp only [Act.put, List.getElem_toArray, List.getElem_cons_succ, List.getElem_cons_zero, List.setIfInBounds_toArray, List.set_cons_succ, List.set_cons_zero]
              refine Wl.take0 (i := 11) (v := .slice ab f2.zs.length cb) rfl (by kernel_rfl) (by kernel_rfl) (by kernel_rfl) (by kernel_rfl) (fun _ _ _ h => h) (.inl ⟨by kernel_rfl, ?_⟩) hk ?_
              · intro wx hSw
                clear hSw hk
                go_simp
                try first | with_reducible rfl | kernel_rfl
              simp only [Act.put, List.getElem_toArray, List.getElem_cons_succ, List.getElem_cons_zero, List.setIfInBounds_toArray, List.set_cons_succ, List.set_cons_zero]
              refine Wl.take0 (i := 12) (v := .int .i64 (f2.zs.length : Int)) rfl (by kernel_rfl) (by kernel_rfl) (by kernel_rfl) (by kernel_rfl) (fun _ _ _ h => h) (.inl ⟨by kernel_rfl, ?_⟩) hk ?_
              · intro wx hSw
                clear hSw hk
                go_simp
                try first | with_reducible rfl | kernel_rfl
              simp only [Act.put, List.getElem_toArray, List.getElem_cons_succ, List.getElem_cons_zero, List.setIfInBounds_toArray, List.set_cons_succ, List.set_cons_zero]
              refine Wl.take0 (i := 13) (v := .string (strOfNums f.zs)) rfl (by kernel_rfl) (by kernel_rfl) (by kernel_rfl) (by kernel_rfl) (fun _ _ _ h => h) (.inl ⟨by kernel_rfl, ?_⟩) hk ?_
              · intro wx hSw
                clear hSw hk
                go_simp
                try first | with_reducible rfl | kernel_rfl
              simp only [Act.put, List.getElem_toArray, List.getElem_cons_succ, List.getElem_cons_zero, List.setIfInBounds_toArray, List.set_cons_succ, List.set_cons_zero]
              refine Wl.take0 (i := 14) (v := .int .i64 (f.zs.length : Int)) rfl (by kernel_rfl) (by kernel_rfl) (by kernel_rfl) (by kernel_rfl) (fun _ _ _ h => h) (.inl ⟨by kernel_rfl, ?_⟩) hk ?_
              · intro wx hSw
                have hsz := HCN.out.2.2.2.2.2.1
                clear hSw hk
                go_simp
                try first | with_reducible rfl | kernel_rfl
              simp only [Act.put, List.getElem_toArray, List.getElem_cons_succ, List.getElem_cons_zero, List.setIfInBounds_toArray, List.set_cons_succ, List.set_cons_zero]
              refine Wl.take0 (i := 15) (v := .bool false) rfl (by kernel_rfl) (by kernel_rfl) (by kernel_rfl) (by kernel_rfl) (fun _ _ _ h => h) (.inl ⟨by kernel_rfl, ?_⟩) hk ?_
              · intro wx hSw
                have hc2 := HCN.out.2.2.1
                have hc2n := HCN.out.2.2.2.1
                clear hSw hk
                go_simp
                try first | with_reducible rfl | kernel_rfl
              simp only [Act.put, List.getElem_toArray, List.getElem_cons_succ, List.getElem_cons_zero, List.setIfInBounds_toArray, List.set_cons_succ, List.set_cons_zero]
              refine Wl.take0 (i := 16) (v := .bool false) rfl (by kernel_rfl) (by kernel_rfl) (by kernel_rfl) (by kernel_rfl) (fun _ _ _ h => h) (.inl ⟨by kernel_rfl, ?_⟩) hk ?_
              · intro wx hSw
                clear hSw hk
                go_simp
                try first | with_reducible rfl | kernel_rfl
              simp only [Act.put, List.getElem_toArray, List.getElem_cons_succ, List.getElem_cons_zero, List.setIfInBounds_toArray, List.set_cons_succ, List.set_cons_zero]
              refine Wl.take0 (i := 17) (v := .bool false) rfl (by kernel_rfl) (by kernel_rfl) (by kernel_rfl) (by kernel_rfl) (fun _ _ _ h => h) (.inl ⟨by kernel_rfl, ?_⟩) hk ?_
              · intro wx hSw
                clear hSw hk
                go_simp
                try first | with_reducible rfl | kernel_rfl
              simp only [Act.put, List.getElem_toArray, List.getElem_cons_succ, List.getElem_cons_zero, List.setIfInBounds_toArray, List.set_cons_succ, List.set_cons_zero]
              refine Wl.take0 (i := 18) (v := .slice ab f2.zs.length cb) rfl (by kernel_rfl) (by kernel_rfl) (by kernel_rfl) (by kernel_rfl) (fun _ _ _ h => h) (.inl ⟨by kernel_rfl, ?_⟩) hk ?_
              · intro wx hSw
                clear hSw hk
                go_simp
                try first | with_reducible rfl | kernel_rfl
              simp only [Act.put, List.getElem_toArray, List.getElem_cons_succ, List.getElem_cons_zero, List.setIfInBounds_toArray, List.set_cons_succ, List.set_cons_zero]
              refine Wl.take0 (i := 20) (v := .string (strOfNums f.zs)) rfl (by kernel_rfl) (by kernel_rfl) (by kernel_rfl) (by kernel_rfl) (fun _ _ _ h => h) (.inl ⟨by kernel_rfl, ?_⟩) hk ?_
              · intro wx hSw
                clear hSw hk
                go_simp
                try first | with_reducible rfl | kernel_rfl
              simp only [Act.put, List.getElem_toArray, List.getElem_cons_succ, List.getElem_cons_zero, List.setIfInBounds_toArray, List.set_cons_succ, List.set_cons_zero]
              refine Wl.take0 (i := 21) (v := .slice ab f2.zs.length cb) rfl (by kernel_rfl) (by kernel_rfl) (by kernel_rfl) (by kernel_rfl) (fun _ _ _ h => h) (.inl ⟨by kernel_rfl, ?_⟩) hk ?_
              · intro wx hSw
                clear hSw hk
                go_simp
                try first | with_reducible rfl | kernel_rfl
              simp only [Act.put, List.getElem_toArray, List.getElem_cons_succ, List.getElem_cons_zero, List.setIfInBounds_toArray, List.set_cons_succ, List.set_cons_zero]
              refine Wl.take0 (i := 22) (v := .int .i64 (f2.zs.length : Int)) rfl (by kernel_rfl) (by kernel_rfl) (by kernel_rfl) (by kernel_rfl) (fun _ _ _ h => h) (.inl ⟨by kernel_rfl, ?_⟩) hk ?_
              · intro wx hSw
                clear hSw hk
                go_simp
                try first | with_reducible rfl | kernel_rfl
              simp only [Act.put, List.getElem_toArray, List.getElem_cons_succ, List.getElem_cons_zero, List.setIfInBounds_toArray, List.set_cons_succ, List.set_cons_zero]
              refine Wl.take0 (i := 23) (v := .string (strOfNums f2.zs)) rfl (by kernel_rfl) (by kernel_rfl) (by kernel_rfl) (by kernel_rfl) (fun _ _ _ h => h) (.inl ⟨by kernel_rfl, ?_⟩) hk ?_
              · intro wx hSw
                have hc2 := HCN.out.2.2.1
                have hsz := HCN.out.2.2.2.2.2.1
                have hle := HCN.out.2.2.2.1
                have hex := HCN.out.2.2.2.2.2.2
                clear hSw hk
                go_simp
                try first | with_reducible rfl | kernel_rfl
              simp only [Act.put, List.getElem_toArray, List.getElem_cons_succ, List.getElem_cons_zero, List.setIfInBounds_toArray, List.set_cons_succ, List.set_cons_zero]
              refine Wl.one (i := 19) (by kernel_rfl) rfl (fun K hK => ?_)
              have e1 := run_str (own_sl HOB5.out HWF2.out)
              go_simp
              clear e1
              refine hK.out _ _ (Wl.Kn.on trivial trivial) (fun hk => ?_)
              clear hK K
              refine Wl.take0 (i := 24) (v := .bool false) rfl (by kernel_rfl) (by kernel_rfl) (by kernel_rfl) (by kernel_rfl) (fun _ _ _ h => h) (.inl ⟨by kernel_rfl, ?_⟩) hk ?_
              · intro wx hSw
                clear hSw hk
                go_simp
                try first | with_reducible rfl | kernel_rfl
              simp only [Act.put, List.getElem_toArray, List.getElem_cons_succ, List.getElem_cons_zero, List.setIfInBounds_toArray, List.set_cons_succ, List.set_cons_zero]
              refine Wl.take0 (i := 25) (v := .bool false) rfl (by kernel_rfl) (by kernel_rfl) (by kernel_rfl) (by kernel_rfl) (fun _ _ _ h => h) (.inl ⟨by kernel_rfl, ?_⟩) hk ?_
              · intro wx hSw
                clear hSw hk
                go_simp
                try first | with_reducible rfl | kernel_rfl
              simp only [Act.put, List.getElem_toArray, List.getElem_cons_succ, List.getElem_cons_zero, List.setIfInBounds_toArray, List.set_cons_succ, List.set_cons_zero]
              refine Wl.take0 (i := 26) (v := .bool false) rfl (by kernel_rfl) (by kernel_rfl) (by kernel_rfl) (by kernel_rfl) (fun _ _ _ h => h) (.inl ⟨by kernel_rfl, ?_⟩) hk ?_
              · intro wx hSw
                clear hSw hk
                go_simp
                try first | with_reducible rfl | kernel_rfl
              simp only [Act.put, List.getElem_toArray, List.getElem_cons_succ, List.getElem_cons_zero, List.setIfInBounds_toArray, List.set_cons_succ, List.set_cons_zero]
              refine Wl.take0 (i := 27) (v := .pointer (some ⟨p, 0, none⟩)) rfl (by kernel_rfl) (by kernel_rfl) (by kernel_rfl) (by kernel_rfl) (fun _ _ _ h => h) (.inl ⟨by kernel_rfl, ?_⟩) hk ?_
              · intro wx hSw
                clear hSw hk
                go_simp
                try first | with_reducible rfl | kernel_rfl
              simp only [Act.put, List.getElem_toArray, List.getElem_cons_succ, List.getElem_cons_zero, List.setIfInBounds_toArray, List.set_cons_succ, List.set_cons_zero]
              refine Wl.take0 (i := 28) (v := .string f2.name) rfl (by kernel_rfl) (by kernel_rfl) (by kernel_rfl) (by kernel_rfl) (fun _ _ _ h => h) (.inl ⟨by kernel_rfl, ?_⟩) hk ?_
              · intro wx hSw
                clear hSw hk
                go_simp
                try first | with_reducible rfl | kernel_rfl
              simp only [Act.put, List.getElem_toArray, List.getElem_cons_succ, List.getElem_cons_zero, List.setIfInBounds_toArray, List.set_cons_succ, List.set_cons_zero]
              refine Wl.one (i := 29) (by kernel_rfl) rfl (fun K hK => ?_)
              go_simp
              refine (loose_any f2.name _ HV5.out HFM2.out HOK2.out (by decide)).mono ?_
              rintro e w6 ⟨he6, hb6⟩
              rw [HLO2.out] at he6
              subst he6
              have HB56 := Lib.hid hb6
              clear hb6
              refine hK.out _ _ (Wl.Kn.on trivial trivial) (fun hk => ?_)
              clear hK K
              refine Wl.take0 (i := 30) (v := .bool false) rfl (by kernel_rfl) (by kernel_rfl) (by kernel_rfl) (by kernel_rfl) (fun _ _ _ h => h) (.inl ⟨by kernel_rfl, ?_⟩) hk ?_
              · intro wx hSw
                clear hSw hk
                go_simp
                try first | with_reducible rfl | kernel_rfl
              simp only [Act.put, List.getElem_toArray, List.getElem_cons_succ, List.getElem_cons_zero, List.setIfInBounds_toArray, List.set_cons_succ, List.set_cons_zero]
              refine Wl.take0 (i := 31) (v := .bool false) rfl (by kernel_rfl) (by kernel_rfl) (by kernel_rfl) (by kernel_rfl) (fun _ _ _ h => h) (.inl ⟨by kernel_rfl, ?_⟩) hk ?_
              · intro wx hSw
                clear hSw hk
                go_simp
                try first | with_reducible rfl | kernel_rfl
              simp only [Act.put, List.getElem_toArray, List.getElem_cons_succ, List.getElem_cons_zero, List.setIfInBounds_toArray, List.set_cons_succ, List.set_cons_zero]
              refine Wl.done (by kernel_rfl) ?_ _
              clear hk
              have HB6 : Hid (Below wr.heap.size wr w6) := Lib.hid (HBD.out.trans (HB56.out.mono HBD.out.size))
              have HMD6 : Hid (MS w6 mw F.length (fD F F2 j)) := Lib.hid (HMD.out.below HB6.out)
              go_wp2_with (at_delete; refine Mp.wp_del rfl _ _ _ rfl KS Try.underlying37 mw F.length _ rfl HMD6.out f2.name HFM2.out rfl ?_; intro w7 hm7 hg7; have HMD7 : Hid (MS w7 mw F.length (fD F F2 (j + 1))) := Lib.hid (hm7.congr (fun y _ => fD_upd HOK2.out.srt HX2.out y)); have HON7 : Hid (Only (fun k => k = mw) w9 w7) := Lib.hid ((HON.out.trans (Below.only HB6.out _)).trans (Only.grown hg7 (fun q hq => (Option.some.inj hq).symm))); clear hm7 hg7)
              go_roundw
              case rel => exact ⟨j + 1, by omega, by go_num, HON7, HMD7⟩
              case measure => simp [intOf]; omega
            · obtain rfl : j = F2.length := by omega
              go_wp2_with (at_range; refine Mp.wp_range rfl _ _ rfl KS Try.underlying37 mw F.length _ rfl HMD.out ?_; intro w3 cnt0 hrg0 hgr0 hsz0)
              go_frame
              obtain ⟨r, hr⟩ : ∃ z, wr.heap.size = z := ⟨_, rfl⟩
              rw [hr] at hrg0 ⊢
              have hb3 : Below wr.heap.size wr w3 := ⟨hgr0.os, hgr0.tape, hgr0.output, hgr0.size, fun k hk => hgr0.block k hk (by simp)⟩
              have HRG0 := Lib.hid hrg0
              have HMS0 := Lib.hid (HMSR.out.below hb3)
              have HB30 : Hid (Below w.heap.size w w3) := Lib.hid (HBR.out.trans (hb3.mono HBR.out.size))
              have HRW : Hid (w.heap.size ≤ r ∧ r ≠ ms) := Lib.hid (by have := HBR.out.size; have := HMSR.out.lt; omega)
              clear hrg0 hgr0 hsz0 hb3 hr
              go_loopw [21] (fun _ wr => ∃ (left : ByteArray → Bool) (cnt : Nat), Hid (RS wr mw r F.length (fD F F2 F2.length) left cnt) ∧ Hid (MS wr ms F.length (fS F)) ∧ Hid (Below w.heap.size w wr)) (fun _ wr => wr.rangeLeft mw r)
              case atStart => exact ⟨_, _, HRG0, HMS0, HB30⟩
              case round =>
                clear HRG0 HMS0 HB30
                obtain ⟨left, cnt, HRG, HMZ, HBZ⟩ := hrel
                go_wp2_with (at_next; refine Mp.wp_next rfl _ rfl KS mw r F.length _ _ _ rfl HRG.out ?_ ?_)
                · intro h0 hl0
                  clear h0 hl0
                  go_wp2_with fail
                  go_ret
                  exact ⟨rfl, HBZ.out⟩
                · intro x v w4 cnt4 hok hlx hfx hrg4 hlt4 hgr4 hsz4 hen
                  have hz := fD_end HOK.out.srt HCUT.out.2 HOK2.out.srt hfx
                  have HR4 := Lib.hid hrg4
                  have HLT := Lib.hid hlt4
                  have HMS4 : Hid (MS w4 ms F.length (fS F)) := Lib.hid (HMZ.out.block (hgr4.block ms HMZ.out.lt (fun e => HRW.out.2 (Option.some.inj e).symm)))
                  have HB4 : Hid (Below w.heap.size w w4) := Lib.hid ((Only.grown (S := fun k => k = r) hgr4 (fun q hq => (Option.some.inj hq).symm)).below HBZ.out HBZ.out.size (fun k hk => by subst hk; exact HRW.out.1))
                  have hlk := HMS4.out.look KS Try.underlying38 (zInt w4) hok false
                  rw [hz] at hlk
                  clear hok hlx hfx hrg4 hlt4 hgr4 hsz4 hz
                  go_wp2_with fail
                  go_roundw
                  case rel => exact ⟨_, cnt4, HR4, HMS4, HB4⟩
                  case measure =>
                    have h1 := HR4.out.left_eq
                    have h2 := HRG.out.left_eq
                    have h3 := HLT.out
                    rw [h1, h2]; omega

set_option maxRecDepth 100000 in
theorem contract (H : Type) (enc : TypeId × Value → H) (W : World) (base : Nat) (args : Array Value) (ds gs : List (DataW H)) (before : List MemPlace)
    (hval0 : ∀ (j : Nat) t v, Try.f4.params[j]? = some t → args[j]? = some v → Value.okWide Try.prog W .any base t v)
    (hW : DataW.Whole enc Try.prog Try.f4.params.toList Rows.diskSafeSpec.vars false W args.toList ds gs before)
    (hsz0 : (DataW.weightsEach Try.prog (Try.f4.params.toList ++ Rows.diskSafeSpec.plain.varTypes Try.prog) (ds ++ gs)).all (· ≤ reachBytes) = true) :
    Calls Try.prog 4 args W fun e W' => ∃ v, e = .returned v ∧ Rows.diskSafeSpec.post enc Try.prog Try.f4 false true false false W args v W' := by
  have hval : ∀ (j : Nat) t v, Try.f4.params[j]? = some t → args[j]? = some v → Value.okWide Try.prog W .any base t v := hval0
  have hW' := hW
  obtain ⟨p, q, hA0, hV, rfl, hfz, hnd⟩ := hW
  have hA : DataW.TrodAll enc Try.prog W 0 (fun _ => true) true Try.f4.params.toList args.toList ds p := hA0
  rw [Try.params4] at hA hval
  have hsz := hsz0
  rw [Try.params4] at hsz
  obtain ⟨v0, vs0, d0, ds0, p0, q0, hargs, rfl, rfl, h0, r0⟩ := trodAll_cons hA
  obtain ⟨v1, vs1, d1, ds1, p1, q1, rfl, rfl, rfl, h1, r1⟩ := trodAll_cons r0
  obtain ⟨rfl, rfl, rfl⟩ := trodAll_nil r1
  obtain rfl : args = #[v0, v1] := by cases args; simp_all
  obtain ⟨rfl, rfl⟩ := trodVars_none hV
  clear hA0 hval0
  have k0 := h0
  have lt0 : ∀ x ∈ p0, x.block < W.heap.size := by obtain ⟨m, hm⟩ := k0; exact DataW.trod_lt m _ _ _ hm
  have k1 := h1
  have lt1 : ∀ x ∈ p1, x.block < W.heap.size := by obtain ⟨m, hm⟩ := k1; exact DataW.trod_lt m _ _ _ hm
  obtain ⟨x0, w0, -⟩ := open_dops (hval 0 22 v0 rfl rfl) k0
  obtain ⟨z1, w1, u10, b10⟩ := open_sl Try.underlying28 Try.underlying3 (by kernel_rfl) (okWide_slice Try.underlying28 (hval 1 28 v1 rfl rfl)).choose_spec.choose_spec.choose_spec k1
  have b1 : z1.length * 8 ≤ 140737488351232 := by
    have := b10 hsz (j := 1) rfl rfl
    rw [show Try.prog.bytesOf 3 = 8 from by kernel_rfl] at this
    simpa [reachBytes] using this
  refine (walk v0 x0 v1 z1 W w0 w1 b1).mono fun e W' ⟨he, bel⟩ => ?_
  subst he
  exact ⟨_, rfl, _, _, _, [], _, [], hW', trodAll_mk1 (shut_bool Try.underlying4 _), (trodAll_cons_mk (Below.trod laidOut (by kernel_rfl) (of_decide_eq_true (by kernel_rfl)) k0 bel lt0) (trodAll_cons_mk (Below.trod laidOut (by kernel_rfl) (of_decide_eq_true (by kernel_rfl)) k1 bel lt1) trodAll_mk0)), rfl, bel.frame _, fun h => by cases h⟩

set_option maxRecDepth 100000 in
theorem lifted (os : Os) (started : os.Started) (H : Type) (enc : TypeId × Value → H) :
    ReturnsInHanded {} Try.checked os 4 .any (Rows.diskSafeSpec.pre6 enc Try.prog Try.f4 Rows.diskSafeRow.domain false) (Rows.diskSafeSpec.post enc Try.prog Try.f4 false true false false) := by
  refine returnsInHanded_of_change_sized (C := Try.checked) own started (by kernel_rfl) Try.func4
    (ChangeSpec.witness6 (enc := enc) (C := Try.checked) false ⟨#[], #[.slice none 0 0, .slice none 0 0], []⟩ 8 (by kernel_rfl) (by kernel_rfl) (by kernel_rfl) (by kernel_rfl)) ?_
  intro W base args ds gs before hval0 hW hcnd hsz _
  exact contract H enc W base args ds gs before hval0 hW hsz

theorem proved : Rows.DiskSafeSaid :=
  OpenClaim.holds_of_wide 4 Try.f4 rfl rfl rfl rfl rfl rfl rfl ⟨rfl, rfl, rfl, rfl, rfl⟩ rfl rfl rfl rfl rfl (by kernel_rfl) Try.func4 (by kernel_rfl)
    (of_decide_eq_true (by kernel_rfl)) (by unfold Func.isWrapper; first | (rw [if_pos (by decide +kernel)]; kernel_rfl) | (rw [if_neg (by decide +kernel)]; exact ⟨rfl, rfl⟩))
    (fun os started H enc _ => lifted os started H enc)
end Go.Proofs.Ytfaifdidillkaaa.diskSafe
