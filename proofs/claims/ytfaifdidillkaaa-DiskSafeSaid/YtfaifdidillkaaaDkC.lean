/- Package disk: New, add. No condition. -/
import Derived.Test.YtfaifdidillkaaaDkB
import Derived.Test.YtfaifdidillkaaaWl
namespace Go.Proofs.Ytfaifdidillkaaa
open Go.ChangeShapes Go.WideShapes Go.ChangeAt Go.RowKit Go.Deep
set_option linter.unusedVariables false
set_option maxRecDepth 100000
set_option linter.unusedSimpArgs false
namespace Dk
variable {w w' : World} {S : Nat → Prop} {p m : Nat} {V : ByteArray → Value} {on : Bool} {left : Int} {F : List Fl} {n : Nat}
theorem new_any (w : World) : Calls Try.prog 7 #[] w fun e w' => ∃ p m V, e = .returned (.pointer (some ⟨p, 0, none⟩)) ∧ DkV w' (fun k => w.heap.size ≤ k ∧ k < w'.heap.size) p m V true (-1) [] ∧ Below w.heap.size w w' := by
  obtain ⟨m, hm⟩ : ∃ q, w.heap.size = q := ⟨_, rfl⟩
  obtain ⟨W1, hW1⟩ : ∃ q, w.alloc (.map #[] 0) = q := ⟨_, rfl⟩
  obtain ⟨p, hp⟩ : ∃ q, W1.heap.size = q := ⟨_, rfl⟩
  obtain ⟨W2, hW2⟩ : ∃ q, W1.alloc (.cells #[.map (some m), .bool true, .int .i64 (-1)] TD) = q := ⟨_, rfl⟩
  have e1 : W1.heap.size = w.heap.size + 1 := by rw [← hW1]; simp
  have e2 : W2.heap.size = w.heap.size + 2 := by rw [← hW2]; simp [e1]
  have hrow : W2.rowIs p TD 3 (dkV m true (-1)) := by
    rw [← hW2, ← hp]
    exact World.rowIs_alloc W1 _ _ _ (fun i hi => by
      have hi3 : i < 3 := by simpa using hi
      match i, hi3 with
      | 0, _ => rfl
      | 1, _ => rfl
      | 2, _ => rfl)
  have hm1 : MS W1 m 0 (fun _ => none) := by rw [← hW1, ← hm]; exact Mp.made _ _ _ _ _
  have H : Hid (DkV W2 (fun k => w.heap.size ≤ k ∧ k < W2.heap.size) p m (fun _ => .slice none 0 0) true (-1) []) := Lib.hid ⟨hrow, by rw [← hW2]; exact (hm1.alloc _).congr (fun x _ => rfl), ⟨by simp, by simp, by simp⟩, by omega, by omega, fun k hk => hk.2⟩
  have HB : Hid (Below w.heap.size w W2) := Lib.hid (by rw [← hW2, ← hW1]; exact ((Below.refl _ _).alloc (Nat.le_refl _) _).alloc (by simp) _)
  have hmm := @run_makeMap Try.prog
  clear hrow hm1 e1 e2
  go_enter Try.func7, Try.ntmps7
  go_wp2
  go_ret
  exact ⟨p, m, _, rfl, H.out, HB.out⟩
/-! ### a file's old self -/
def oldF (F : List Fl) (x : ByteArray) : Fl := (fndL F x).getD ⟨x, [], 0⟩
theorem old_name (F : List Fl) (x : ByteArray) : (oldF F x).name = x := by
  unfold oldF
  rcases fnd_cases (F := F) x with ⟨h, -⟩ | ⟨f, -, hn, h⟩
  · rw [h]; rfl
  · rw [h]; exact hn
theorem OkF.old (h : OkF n F) (x : ByteArray) : (oldF F x).safe ≤ (oldF F x).zs.length ∧ (oldF F x).zs.length ≤ n ∧ ∀ z ∈ (oldF F x).zs, (Lit.int .u8 z).wf = true := by
  unfold oldF
  rcases fnd_cases (F := F) x with ⟨h1, -⟩ | ⟨f, hf, hn, h1⟩
  · rw [h1]; exact ⟨Nat.le_refl _, Nat.zero_le _, by simp⟩
  · rw [h1]; exact ⟨h.safe f hf, (h.len f hf).2, h.wf f hf⟩
theorem DkV.old (h : DkV w S p m V on left F) (x : ByteArray) (hx : x.size ≤ maxLen) : ∃ a cc,
    (∀ c, (Instr.lookup mF (.map (some m)) (.string x) c).run Try.prog w = .ok (if c then .tuple #[.agg #[.slice a (oldF F x).zs.length cc, .int .i64 (oldF F x).safe], .bool (fndL F x).isSome] else .agg #[.slice a (oldF F x).zs.length cc, .int .i64 (oldF F x).safe]) w) ∧
    OwnR 1 byC TB w 0 (.slice a (oldF F x).zs.length cc) (oldF F x).zs ∧ (∀ q, (Value.slice a (oldF F x).zs.length cc).ownBlock = some q → S q) ∧
    (Value.slice a (oldF F x).zs.length cc).ownBlock ≠ some p ∧ (Value.slice a (oldF F x).zs.length cc).ownBlock ≠ some m ∧
    (∀ g ∈ F, g.name ≠ x → ∀ q, (V g.name).ownBlock = some q → (Value.slice a (oldF F x).zs.length cc).ownBlock ≠ some q) ∧ ((fndL F x).isSome = true → V x = .slice a (oldF F x).zs.length cc) := by
  rcases h.found x hx with ⟨hf, hlk⟩ | ⟨f, a, cc, hf, hn, hfd, hv, hlk⟩
  · refine ⟨none, 0, ?_⟩
    have e : oldF F x = ⟨x, [], 0⟩ := by unfold oldF; rw [hf]; rfl
    rw [e]
    exact ⟨fun c => by rw [hlk c, hf]; rfl, OwnR.nil _ _ _, (by intro q hq; cases hq), (by intro hq; cases hq), (by intro hq; cases hq), (by intro g _ _ q _ hq; cases hq), by rw [hf]; intro q; cases q⟩
  · refine ⟨a, cc, ?_⟩
    have e : oldF F x = f := by unfold oldF; rw [hfd]; rfl
    rw [e, ← hv, ← hn]
    refine ⟨fun c => ?_, h.rows.own f hf, h.rows.mine f hf, h.pne hf, h.mne hf, fun g hg hgn q hq hq2 => h.rows.apart f hf g hg (fun e => hgn e.symm) q hq2 hq, fun _ => rfl⟩
    rw [hn, hlk c, hfd, hv]; rfl
/-- a file put in its place; what its bytes were may have turned -/
theorem DkV.put2 {w0 : World} {n0 : Nat} {f : Fl} {v v0 : Value} (h : DkV w0 S p m V on left F) (hs : OkF n0 F) (hf : OkF n (updF F f))
    (hb : ∀ k, S k → v0.ownBlock ≠ some k → w.heap[k]? = w0.heap[k]?) (hsz : w0.heap.size ≤ w.heap.size) (hp : v0.ownBlock ≠ some p) (hm : v0.ownBlock ≠ some m)
    (hap : ∀ g ∈ F, g.name ≠ f.name → ∀ q, (V g.name).ownBlock = some q → v0.ownBlock ≠ some q)
    (hw : MS w' m (F.length + 1) (Mp.upd (fV V F) f.name (some (flV v f)))) (hg : w.grownBy w' (some m)) (hv : OwnR 1 byC TB w' 0 v f.zs)
    (hvq : v.ownBlock = v0.ownBlock ∨ ∀ q, v.ownBlock = some q → w0.heap.size ≤ q) (hS : ∀ q, v0.ownBlock = some q → S q) :
    DkV w' (Grow S w0 w') p m (fun y => if y = f.name then v else V y) on left (updF F f) := by
  have hb2 : ∀ k, S k → v0.ownBlock ≠ some k → k ≠ m → w'.heap[k]? = w0.heap[k]? := fun k hk hne hkm => (hg.block k (Nat.lt_of_lt_of_le (h.low k hk) hsz) (fun e => hkm (Option.some.inj e))).trans (hb k hk hne)
  obtain ⟨-, -, -, -, hmc⟩ := Mp.MapF.card (hw.congr (fun x _ => fV_upd hs.srt f v x)) KS (names_dom (V := fun y => if y = f.name then v else V y) hf)
  have hold : ∀ g ∈ F, g.name ≠ f.name → OwnR 1 byC TB w' 0 (V g.name) g.zs := fun g hgm hgn => own_keep (h.rows.own g hgm) (fun q hq hl => hb2 q (h.rows.mine g hgm q hq) (hap g hgm hgn q hq) (fun e => h.mne hgm (e ▸ hq)))
  have hvn : ∀ q, v.ownBlock = some q → Grow S w0 w' q := fun q hq => by
    rcases hvq with e | e
    · exact .inl (hS q (by rw [← e]; exact hq))
    · exact .inr ⟨e q hq, (World.ownsRow.lt hv q hq).2⟩
  have hva : ∀ g ∈ F, g.name ≠ f.name → ∀ q, v.ownBlock = some q → (V g.name).ownBlock ≠ some q := fun g hgm hgn q hq e => by
    rcases hvq with e2 | e2
    · exact hap g hgm hgn q e (by rw [← e2]; exact hq)
    · have := h.low q (h.rows.mine g hgm q e)
      have := e2 q hq
      omega
  have hz : w0.heap.size ≤ w'.heap.size := Nat.le_trans hsz hg.size
  refine ⟨World.rowIs.of_block h.row (hb2 p h.sp hp h.ne.symm), by simpa using hmc, ⟨fun g hg => ?_, fun g hg => ?_, fun g hg g' hg' hne => ?_⟩, .inl h.sp, .inl h.sm, fun k hk => ?_⟩
  · rcases mem_upd.1 hg with rfl | ⟨hg1, hg2⟩
    · simp only [if_pos]; exact hv
    · simp only [if_neg hg2]; exact hold g hg1 hg2
  · rcases mem_upd.1 hg with rfl | ⟨hg1, hg2⟩
    · simp only [if_pos]; exact hvn
    · simp only [if_neg hg2]; exact fun q hq => .inl (h.rows.mine g hg1 q hq)
  · rcases mem_upd.1 hg with rfl | ⟨hg1, hg2⟩
    · rcases mem_upd.1 hg' with rfl | ⟨hg3, hg4⟩
      · exact absurd rfl hne
      · simp only [if_pos, if_neg hg4]; exact hva g' hg3 hg4
    · rcases mem_upd.1 hg' with rfl | ⟨hg3, hg4⟩
      · simp only [if_pos, if_neg hg2]
        intro q hq e
        exact hva g hg1 hg2 q e hq
      · simp only [if_neg hg2, if_neg hg4]; exact h.rows.apart g hg1 g' hg3 hne
  · rcases hk with hk | hk
    · exact Nat.lt_of_lt_of_le (h.low k hk) hz
    · exact hk.2
/-! ### add -/
def addF (F : List Fl) (x : ByteArray) (zs : List Int) : List Fl := if zs.length = 0 then F else updF F ⟨x, (oldF F x).zs ++ zs, (oldF F x).safe⟩
theorem OkF.add {x : ByteArray} {zs : List Int} (h : OkF n F) (hx : nameB x = true) (hw : ∀ z ∈ zs, (Lit.int .u8 z).wf = true) (hc : zs.length = 0 ∨ (fndL F x).isSome = true ∨ F.length < 64) : OkF (n + zs.length) (addF F x zs) := by
  unfold addF
  by_cases h0 : zs.length = 0
  · rw [if_pos h0]; exact h.mono (by omega)
  · rw [if_neg h0]
    obtain ⟨h1, h2, h3⟩ := h.old x
    refine (h.mono (by omega)).upd hx (by simp only [List.length_append]; omega) (by simp only [List.length_append]; omega) (fun z hz => ?_) (by
      rcases hc with q | q
      · exact absurd q h0
      · exact q)
    rcases List.mem_append.1 hz with hz | hz
    · exact h3 z hz
    · exact hw z hz
/-- what a call leaves -/
def Left (S : Nat → Prop) (p m : Nat) (w w' : World) (on : Bool) (left : Int) (F : List Fl) : Prop := (∃ V, DkV w' (Grow S w w') p m V on left F) ∧ Only S w w'
theorem Only.drew' {S : Nat → Prop} {w w' : World} (h : Only S w w') : Only S w w'.drew := ⟨h.1, h.2.1, h.2.2.1, h.2.2.2.1, h.2.2.2.2⟩
/-- a file put back into the map: what the call leaves -/
theorem put_fin {n0 : Nat} {f : Fl} {v v0 : Value} {w5 : World} (h : DkV w S p m V on left F) (hs : OkF n0 F) (hf : OkF n (updF F f))
    (hb : ∀ k, S k → v0.ownBlock ≠ some k → w5.heap[k]? = w.heap[k]?) (ho : Only S w w5) (hp : v0.ownBlock ≠ some p) (hm : v0.ownBlock ≠ some m)
    (hap : ∀ g ∈ F, g.name ≠ f.name → ∀ q, (V g.name).ownBlock = some q → v0.ownBlock ≠ some q) (hv : OwnR 1 byC TB w5 0 v f.zs)
    (hvq : v.ownBlock = v0.ownBlock ∨ ∀ q, v.ownBlock = some q → w.heap.size ≤ q) (hS : ∀ q, v0.ownBlock = some q → S q) :
    ∃ W6, (Instr.mapUpdate mF (.map (some m)) (.string f.name) (flV v f)).run Try.prog w5 = .ok () W6 ∧ Left S p m w W6 on left (updF F f) := by
  have hnm : nameB f.name = true := hf.nm f (mem_upd.2 (.inl rfl))
  have hsz := name_size hnm
  have hvm : ∀ q, v.ownBlock = some q → q ≠ m := fun q hq e => by
    rcases hvq with e2 | e2
    · rw [e2, e] at hq; exact hm hq
    · have := e2 q hq; have := h.low m h.sm; omega
  obtain ⟨W6, hrun, hm6, hg6⟩ := (h.map.block (w' := w5) (hb m h.sm hm)).put KS Try.underlying50 (by have := hs.cnt; unfold maxLen; omega) (x := f.name) (by unfold Mp.okS maxLen; omega) (flV v f)
  refine ⟨W6, hrun, ⟨_, h.put2 (w := w5) hs hf hb ho.2.2.2.1 hp hm hap hm6 hg6 (own_keep hv (fun q hq hl => hg6.block q hl (fun e => hvm q hq (Option.some.inj e)))) hvq hS⟩, ho.trans (Only.grown hg6 (fun q hq => by rw [← Option.some.inj hq]; exact h.sm))⟩
set_option maxHeartbeats 8000000 in
theorem add_any (x : ByteArray) (vb : Value) (zs : List Int) (w : World) (h : DkV w S p m V on left F) (hs : OkF n F) (hx : nameB x = true) (hb : SlR 1 byC w vb zs) (hwf : ∀ z ∈ zs, (Lit.int .u8 z).wf = true) (hn : n + zs.length ≤ 1000000000) (hc : zs.length = 0 ∨ (fndL F x).isSome = true ∨ F.length < 64) :
    Calls Try.prog 36 #[.pointer (some ⟨p, 0, none⟩), .string x, vb] w fun e w' => e = .returned (.tuple #[]) ∧ Left S p m w w' on left (addF F x zs) := by
  have HBS := Lib.hid hb
  obtain ⟨ab, cb, rfl, hb1, hb2, -⟩ := id hb
  unfold maxLen at hb2
  by_cases h0 : zs.length = 0
  · have HF : Hid (Left S p m w w on left (addF F x zs)) := Lib.hid ⟨⟨V, by unfold addF; rw [if_pos h0]; exact h.grow⟩, Only.refl _ _⟩
    have hz : zs = [] := List.length_eq_zero_iff.1 h0
    subst hz
    clear h hs hb
    go_enter Try.func36, Try.ntmps36
    go_wp2_with fail
    (try simp only [Exit.inBlock, Exit.then])
    refine bodyPost_ret (results_none rfl _ _ _) rfl ?_
    exact ⟨rfl, HF.out⟩
  have d0 : ((zs.length : Int) == 0) = false := by simp [h0]
  have d1 : (zs.length == 0) = false := by simp [h0]
  have hxs := name_size hx
  have hxm : Mp.okS x := by unfold Mp.okS maxLen; omega
  obtain ⟨a, cc, hlk, hown, hmine, hvp, hvm, hap, -⟩ := h.old x hxm
  obtain ⟨ho1, ho2, ho3⟩ := hs.old x
  have hl := hlk false
  rw [if_neg (by simp)] at hl
  obtain ⟨L, hL⟩ : ∃ q, (oldF F x).zs.length = q := ⟨_, rfl⟩
  obtain ⟨sf, hsf⟩ : ∃ q, ((oldF F x).safe : Int) = q := ⟨_, rfl⟩
  rw [hL] at hown hmine hvp hvm hap
  rw [hL, hsf] at hl
  obtain ⟨g3, hg3⟩ : ∃ q, w.heap.size = q := ⟨_, rfl⟩
  obtain ⟨W3, hW3⟩ : ∃ q, w.alloc (.cells #[.slice a L cc, .int .i64 sf] TF) = q := ⟨_, rfl⟩
  have hb3 : Below w.heap.size w W3 := by rw [← hW3]; exact (Below.refl _ _).alloc (Nat.le_refl _) _
  have hgb : W3.heap[g3]? = some (.cells #[.slice a L cc, .int .i64 sf] TF (0, 0)) := by rw [← hW3, ← hg3]; exact heap_alloc_new _ _
  have hown3 : OwnR 1 byC TB W3 0 (.slice a L cc) (oldF F x).zs := hown.below hb3 (Nat.le_refl _)
  have hsrc3 : SlR 1 byC W3 (.slice ab zs.length cb) zs := HBS.out.below hb3 (Nat.le_refl _)
  have hq3 : ∀ q, (Value.slice a L cc).ownBlock = some q → q ≠ g3 := fun q hq => by have := h.low q (hmine q hq); omega
  have c0 := h.c0
  have j0 : W3.cell? ⟨g3, 0, none⟩ = some (.slice a L cc) := (cell_of_row _ _ 0 _ _ _ hgb).trans rfl
  have H := Lib.hid h
  have HS := Lib.hid hs
  have HX := Lib.hid hx
  have HWF := Lib.hid hwf
  have HC := Lib.hid hc
  have HNN := Lib.hid hn
  have HB3 := Lib.hid hb3
  have HO3 := Lib.hid hown3
  have HR3 := Lib.hid hsrc3
  have HMI := Lib.hid hmine
  have HVP := Lib.hid hvp
  have HVM := Lib.hid hvm
  have HAP := Lib.hid hap
  have HQ3 := Lib.hid hq3
  have HLS := Lib.hid (And.intro hL (And.intro hsf (And.intro ho1 ho2)))
  have HGB := Lib.hid hgb
  have HG3' := Lib.hid hg3
  have hsfe := Lib.hid hsf
  have HH0 := Lib.hid h0
  have HXM := Lib.hid hxm
  clear h hs hx hwf hc hn hb3 hown3 hsrc3 hmine hvp hvm hap hq3 hL hsf ho1 ho2 ho3 hgb hb hown hlk hxs h0 hxm
  go_enter Try.func36, Try.ntmps36
  go_upto_region 3 with (at_builtin; refine appX byC_len Try.underlying39 rfl (by decide) info_by rfl _ _ rfl 0 (.slice a L cc) (oldF F x).zs rfl HO3.out _ zs rfl HR3.out (fun x _ => byC_one x) (by have := HLS.out; have := HNN.out; unfold maxLen; omega) (by have := HLS.out; have := HNN.out; omega) (Nat.zero_le _) ?_; intro v4 w4 own4 hg4 hlie; obtain ⟨a4, c4, hv4⟩ := own_slice own4; subst hv4; have HOW4 := Lib.hid own4; have HLI := Lib.hid hlie; have HG4 := Lib.hid hg4; have hgw := (hg4.block _ (row_lt HGB.out) (fun e => HQ3.out _ e.symm rfl)).trans HGB.out; have HGW := Lib.hid hgw; have k0 : w4.cell? ⟨g3, 0, none⟩ = some (.slice a L cc) := (cell_of_row _ _ 0 _ _ _ hgw).trans rfl; have kz : w4.frozen? ⟨g3, 0, none⟩ = false := frozen_of_row _ _ _ _ _ hgw; obtain ⟨L4, hL4⟩ : ∃ q, ((oldF F x).zs ++ zs).length = q := ⟨_, rfl⟩; rw [hL4] at HOW4 HLI ⊢; obtain ⟨W5, hW5⟩ : ∃ q, w4.setCell ⟨g3, 0, none⟩ (.slice a4 L4 c4) = q := ⟨_, rfl⟩; have HW5 := Lib.hid hW5; clear own4 hlie hg4 hgw hL4)
  clear c0 j0 hl k0 kz
  have HBS5 : Hid (∀ k, S k → (Value.slice a L cc).ownBlock ≠ some k → W5.drew.heap[k]? = w.heap[k]?) := Lib.hid (fun k hk hne => by
    have h1 := H.out.low k hk
    have h2 : k ≠ g3 := by have := HG3'.out; omega
    rw [← HW5.out]
    exact (heap_setCell_other w4 ⟨g3, 0, none⟩ k _ h2).trans ((HG4.out.block k (Nat.lt_of_lt_of_le h1 HB3.out.size) (fun e => hne e.symm)).trans (HB3.out.block k h1)))
  have HON5 : Hid (Only S w W5.drew) := Lib.hid (by
    have o1 := (Below.only HB3.out S).trans (Only.grown HG4.out (fun q hq => HMI.out q hq))
    rw [← HW5.out]
    exact Only.drew' (o1.after (Only.setCell w4 ⟨g3, 0, none⟩ _ (S := fun k => k = g3) rfl) (fun i hi e => by have := HG3'.out; omega)))
  have HV4 : Hid (∀ q, (Value.slice a4 L4 c4).ownBlock = some q → q ≠ g3) := Lib.hid (fun q hq => by
    rcases HLI.out with e | e
    · exact HQ3.out q (by rw [← e]; exact hq)
    · rw [e] at hq
      have := Option.some.inj hq
      have := row_lt HGB.out
      omega)
  have HOW5 : Hid (OwnR 1 byC TB W5.drew 0 (Value.slice a4 L4 c4) ((oldF F x).zs ++ zs)) := Lib.hid (own_keep HOW4.out (fun q hq hl => by rw [← HW5.out]; exact heap_setCell_other w4 ⟨g3, 0, none⟩ q _ (HV4.out q hq)))
  obtain ⟨W6, hrun, hfin⟩ := put_fin (n := n + zs.length) (f := ⟨x, (oldF F x).zs ++ zs, (oldF F x).safe⟩) (v := .slice a4 L4 c4) (v0 := .slice a L cc) (w5 := W5.drew) H.out HS.out (by
    have := HS.out.add HX.out HWF.out HC.out
    unfold addF at this
    rwa [if_neg HH0.out] at this) HBS5.out HON5.out HVP.out HVM.out HAP.out HOW5.out (by
    rcases HLI.out with e | e
    · exact .inl e
    · refine .inr (fun q hq => ?_)
      rw [e] at hq
      rw [← Option.some.inj hq]
      exact HB3.out.size) HMI.out
  have HFIN : Hid (Left S p m w W6 on left (addF F x zs)) := Lib.hid (by unfold addF; rw [if_neg HH0.out]; exact hfin)
  have hrun2 : (Instr.mapUpdate mF (.map (some m)) (.string x) (.agg #[.slice a4 L4 c4, .int .i64 sf])).run Try.prog W5.drew = .ok () W6 := by rw [← hsfe.out]; exact hrun
  have HRUN := Lib.hid hrun2
  have HC0 : Hid (W5.drew.cell? ⟨p, 0, none⟩ = some (.map (some m))) := Lib.hid (by
    have := World.rowIs.of_block H.out.row (HBS5.out p H.out.sp HVP.out)
    exact World.rowIs.cell this (by omega))
  have HRG : Hid (W5.drew.rangeAt g3 0 [.slice a4 L4 c4, .int .i64 sf]) := Lib.hid (by
    have hh : W5.heap[g3]? = some (.cells #[.slice a4 L4 c4, .int .i64 sf] TF (0, 0)) := by rw [← HW5.out]; exact (heap_setCell_same w4 g3 0 _ _ _ HGW.out).trans rfl
    intro j v hv
    match j, hv with
    | 0, hv => simp at hv; subst hv; exact (cell_of_row _ _ 0 _ _ _ hh).trans rfl
    | 1, hv => simp at hv; subst hv; exact (cell_of_row _ _ 1 _ _ _ hh).trans rfl)
  clear hfin hrun hrun2
  refine Wl.start 6 (fun u => u.cell? ⟨p, 0, none⟩ = some (.map (some m)) ∧ u.rangeAt g3 0 [.slice a4 L4 c4, .int .i64 sf]) (fun _ => True) (by kernel_rfl) ⟨HC0.out, HRG.out⟩ trivial (fun hk => ?_)
  refine Wl.take (i := 0) (v := .pointer (some ⟨p, 0, none⟩)) [1, 2, 3, 6] rfl (by kernel_rfl) (by kernel_rfl) (by kernel_rfl) (by kernel_rfl) (by kernel_rfl) (fun _ _ _ h => h) (.inl ⟨by kernel_rfl, ?_⟩) hk ?_
  · intro wx hSw
    clear hSw hk
    go_simp
    try first | with_reducible rfl | kernel_rfl
  simp only [Act.put, List.getElem_toArray, List.getElem_cons_succ, List.getElem_cons_zero, List.setIfInBounds_toArray, List.set_cons_succ, List.set_cons_zero]
  refine Wl.take (i := 1) (v := .pointer (some ⟨p, 0, none⟩)) [2, 3, 6] rfl (by kernel_rfl) (by kernel_rfl) (by kernel_rfl) (by kernel_rfl) (by kernel_rfl) (fun _ _ _ h => h) (.inl ⟨by kernel_rfl, ?_⟩) hk ?_
  · intro wx hSw
    clear hSw hk
    go_simp
    try first | with_reducible rfl | kernel_rfl
  simp only [Act.put, List.getElem_toArray, List.getElem_cons_succ, List.getElem_cons_zero, List.setIfInBounds_toArray, List.set_cons_succ, List.set_cons_zero]
  refine Wl.take (i := 2) (v := .pointer (some ⟨p, 0, none⟩)) [3, 6] rfl (by kernel_rfl) (by kernel_rfl) (by kernel_rfl) (by kernel_rfl) (by kernel_rfl) (fun _ _ _ h => h) (.inl ⟨by kernel_rfl, ?_⟩) hk ?_
  · intro wx hSw
    clear hSw hk
    go_simp
    try first | with_reducible rfl | kernel_rfl
  simp only [Act.put, List.getElem_toArray, List.getElem_cons_succ, List.getElem_cons_zero, List.setIfInBounds_toArray, List.set_cons_succ, List.set_cons_zero]
  refine Wl.take (i := 3) (v := .map (some m)) [6] rfl (by kernel_rfl) (by kernel_rfl) (by kernel_rfl) (by kernel_rfl) (by kernel_rfl) (fun _ _ _ h => h) (.inl ⟨by kernel_rfl, ?_⟩) hk ?_
  · intro wx hSw
    have cc := hSw.1.1
    clear hSw hk
    go_simp
    try first | with_reducible rfl | kernel_rfl
  simp only [Act.put, List.getElem_toArray, List.getElem_cons_succ, List.getElem_cons_zero, List.setIfInBounds_toArray, List.set_cons_succ, List.set_cons_zero]
  refine Wl.take (i := 4) (v := .string x) [6] rfl (by kernel_rfl) (by kernel_rfl) (by kernel_rfl) (by kernel_rfl) (by kernel_rfl) (fun _ _ _ h => h) (.inl ⟨by kernel_rfl, ?_⟩) hk ?_
  · intro wx hSw
    clear hSw hk
    go_simp
    try first | with_reducible rfl | kernel_rfl
  simp only [Act.put, List.getElem_toArray, List.getElem_cons_succ, List.getElem_cons_zero, List.setIfInBounds_toArray, List.set_cons_succ, List.set_cons_zero]
  refine Wl.take (i := 5) (v := .agg #[.slice a4 L4 c4, .int .i64 sf]) [6] rfl (by kernel_rfl) (by kernel_rfl) (by kernel_rfl) (by kernel_rfl) (by kernel_rfl) (fun _ _ _ h => h) (yieldsIf_load_mid (by rfl) _ _ rfl _ _ rfl [.slice a4 L4 c4, .int .i64 sf] _ (fun w h => h.1.2) Try.underlying63 rfl (by kernel_rfl)) hk ?_
  simp only [Act.put, List.getElem_toArray, List.getElem_cons_succ, List.getElem_cons_zero, List.setIfInBounds_toArray, List.set_cons_succ, List.set_cons_zero]
  refine Wl.one (i := 6) (by kernel_rfl) rfl (fun K hK => ?_)
  go_simp
  have hrun := HRUN.out
  go_simp
  clear hrun
  refine hK.out _ _ (Wl.Kn.off (by kernel_rfl) trivial) (fun hk => ?_)
  clear hK K
  refine Wl.done (by kernel_rfl) ?_ _
  clear hk
  clear hW5
  go_wp2_with fail
  go_end0
  exact ⟨rfl, HFIN.out⟩
end Dk
end Go.Proofs.Ytfaifdidillkaaa
