/- Package net: how often each letter is there, in a map of the law's own. No condition. -/
import Derived.Test.YtgmndcfeifgapaaNtF
import Derived.Maps.OwnSet
import Derived.Maps.OwnOps
import Derived.DeepKeys4
import Derived.WideKeyEntry
namespace Go.Proofs.Ytgmndcfeifgapaa
open Go.ChangeShapes Go.WideShapes Go.ChangeAt Go.RowKit Go.Maps Go.ChangeMaps Go.MapKept
set_option linter.unusedVariables false
set_option maxRecDepth 100000
set_option linter.unusedSimpArgs false
instance : DecidableEq Letr := fun a b => by
  cases a; cases b
  simp only [Letr.mk.injEq]
  infer_instance
namespace Nk
open Nt
abbrev mT : TypeId := 45
theorem laidN : laidOutB Try.prog = true := by kernel_rfl
theorem wideN : (match Try.prog.underlying 31 with | some (.array _ _) | some (.struct _) => true | _ => false) = true := by rw [Try.underlying31]
theorem atN : Try.prog.keyTypeAt 2 31 = true := by kernel_rfl
theorem letLaw0 : WideMaps.KeyLaw Try.prog 31 := deep_law_laid laidN (m := 2) (by omega) (of_decide_eq_true (by kernel_rfl)) atN wideN
theorem letLaw : Keyed Try.prog 31 := Keyed.of_law letLaw0
def kL (y : Letr) : Lit := .string (keyBytes [.int .i64 y.src, .int .i64 y.dst, .string y.bytes.data.toList])
theorem keyL {y : Letr} (h : y.wf) : keyOf Try.prog 31 (.agg (lA y)) = some (kL y) := by
  have h1 : Try.prog.keyType 31 = true := by kernel_rfl
  have k8 : Try.prog.cellsOf 31 = 3 := by kernel_rfl
  have k1 : Try.prog.cellsOf 3 = 1 := by kernel_rfl
  have k2 : Try.prog.cellsOf 9 = 1 := by kernel_rfl
  have h2 : (Value.agg (lA y)).formed Try.prog 31 = true := by simp [Value.formed, Try.underlying31, k8]
  have hs : 1 ≤ Try.prog.types.size := of_decide_eq_true (by kernel_rfl)
  obtain ⟨m, hm⟩ : ∃ m, Try.prog.types.size + 1 = m + 1 + 1 := ⟨Try.prog.types.size - 1, by omega⟩
  obtain ⟨w1, w2, w3⟩ := h
  unfold keyOf
  rw [Try.underlying31]
  simp only [h1, h2, Bool.and_self, if_true, hm]
  simp [Program.keyLits, Try.underlying31, Try.underlying3, Try.underlying9, k8, k1, k2, w1, w2, w3, kL, Value.cells]
theorem kL_inj {x y : Letr} (hx : x.wf) (hy : y.wf) (h : kL x = kL y) : x = y := by
  have e := letLaw.inj (keyL hx) (h ▸ keyL hy)
  simp only [Value.agg.injEq, Array.mk.injEq, List.cons.injEq, Value.int.injEq, Value.string.injEq, true_and, and_true] at e
  obtain ⟨e1, e2, e3⟩ := e
  cases x; cases y
  simp only at e1 e2 e3
  rw [e1, e2, e3]
theorem zeroI (u : World) : (zeroValue 3).run Try.prog u = .ok (.int .i64 0) u := by kernel_rfl
noncomputable abbrev EI : Value → Option (DataW Unit × List MemPlace) := plainElem Try.prog 3
noncomputable abbrev OM (w : World) (b n : Nat) (D : DataW Unit) : Prop := w.ownsMap Try.prog 31 EI b n D
abbrev li (c : Int) : DataW Unit := .lit (.int .i64 c)
/-- the map says how often each letter is in a list -/
def Counts (D : DataW Unit) (ls : List Letr) : Prop := ∀ y : Letr, y.wf → D.atKey (kL y) (li 0) = li (ls.count y)
theorem set_block_grown {w : World} {b : Nat} {es : Array MapEntry} {clock : Nat} {o' : Obj} (h : w.heap[b]? = some (.map es clock)) : w.grownBy (setBlock w b o') (some b) :=
  ⟨rfl, rfl, rfl, by simp [setBlock], fun i _ hi => heap_setBlock_other h _ (fun e => hi (by rw [e]))⟩
theorem isMap_of {w : World} {b n : Nat} {D : DataW Unit} (h : OM w b n D) : IsMap D := by
  obtain ⟨es, clock, -, -, -, rfl⟩ := h
  exact ⟨_, rfl⟩
/-- 'm[k] op= x' in its two parts: an entry, then its value -/
theorem entry_own {w : World} {b n : Nat} {D : DataW Unit} (h : OM w b n D) (hn : n + 1 < maxLen) {y : Letr} (hy : y.wf) :
    ∃ (v0 : Value) (st : Nat) (w1 : World), (Instr.mapEntry mT (.map (some b)) (.agg (lA y))).run Try.prog w = .ok (.tuple #[v0, goInt st]) w1 ∧ w.grownBy w1 (some b) ∧
      (∃ D1, OM w1 b (n + 1) D1 ∧ D1.atKey (kL y) (li 0) = D.atKey (kL y) (li 0)) ∧
      ∀ (w2 : World) (val : Int), (Lit.int .i64 val).wf = true → w2.heap[b]? = w1.heap[b]? → ∃ w3, (Instr.entryStore mT (.map (some b)) (goInt st) (.int .i64 val)).run Try.prog w2 = .ok () w3 ∧ w2.grownBy w3 (some b) ∧ OM w3 b (n + 1) (D.put (kL y) (li val)) := by
  have h0 := h
  obtain ⟨es, clock, hb, F, hs, hD⟩ := h
  obtain ⟨v0, st, es1, clock1, hrun, hcase, hst⟩ := WideElems.entry_then_store letLaw0 Try.underlying45 zeroI hb F (keyL hy)
  refine ⟨v0, st, _, hrun, set_block_grown hb, ?_, ?_⟩
  · rcases letLaw0.find w (keyL hy) es.toList F.keys with ⟨h1, h2⟩ | ⟨j, e0, h1, h2, h3⟩
    · have hr5 : (Instr.mapEntry mT (.map (some b)) (.agg (lA y))).run Try.prog w = .ok (.tuple #[.int .i64 0, goInt clock]) (setBlock w b (.map (es.push ⟨.agg (lA y), .int .i64 0, clock⟩) (clock + 1))) := by
        simp [Instr.mapEntry, run_underlying Try.underlying45, Go.MapKept.run_getObj_map hb, letLaw0.check w false (keyL hy), h1, zeroI, Go.MapKept.run_setObj_map _ hb, Result.andThen, setBlock]
      have hr6 : (Instr.mapUpdate mT (.map (some b)) (.agg (lA y)) (.int .i64 0)).run Try.prog w = .ok () (setBlock w b (.map (es.push ⟨.agg (lA y), .int .i64 0, clock⟩) (clock + 1))) := by
        simp [Instr.mapUpdate, run_underlying Try.underlying45, Go.MapKept.run_getObj_map hb, letLaw0.check w false (keyL hy), h1, Go.MapKept.run_setObj_map _ hb, Result.andThen, setBlock]
      obtain ⟨w4, hr4, ho4, hg4⟩ := h0.update letLaw Try.underlying45 (by omega) (keyL hy) (plainElem_int (a := 0) Try.underlying3 (by decide))
      rw [hr6] at hr4
      rw [hr5] at hrun
      simp only [Result.ok.injEq, true_and] at hr4 hrun
      rw [← hrun.2, hr4]
      refine ⟨_, ho4, ?_⟩
      rw [atKey_put_same (isMap_of h0) (letLaw.key (keyL hy))]
      rcases Maps.fit_look false letLaw Try.underlying45 (zeroI w) hb F (keyL hy) with ⟨-, -, hat⟩ | ⟨e0, yv, hm, hk, -, -, -, -⟩
      · rw [hD]; exact (hat _).symm
      · exact absurd hk (h2 e0 hm)
    · have hj : es[j]? = some e0 := by simpa using h2
      have hsame : es.modify j (fun e => { e with key := .agg (lA y) }) = es := by
        apply Array.ext'
        rw [Array.toList_modify, modify_eq_set _ _ _ _ h2]
        have : ({ e0 with key := .agg (lA y) } : MapEntry) = e0 := by rw [← h3]
        rw [this]
        exact WideElems.set_self _ _ _ h2
      have hr5 : (Instr.mapEntry mT (.map (some b)) (.agg (lA y))).run Try.prog w = .ok (.tuple #[e0.val, goInt e0.born]) (setBlock w b (.map es clock)) := by
        simp [Instr.mapEntry, run_underlying Try.underlying45, Go.MapKept.run_getObj_map hb, letLaw0.check w false (keyL hy), h1, hj, h3, letLaw0.stays w (keyL hy), hsame, Go.MapKept.run_setObj_map _ hb, Result.andThen, setBlock]
      rw [hr5] at hrun
      simp only [Result.ok.injEq] at hrun
      rw [← hrun.2]
      exact ⟨D, ⟨es, clock, heap_setBlock_same hb _, F, by omega, hD⟩, rfl⟩
  · intro w2 val hv hw2
    rw [heap_setBlock_same hb] at hw2
    obtain ⟨es2, clock2, hr2, hr3⟩ := hst w2 (.int .i64 val) hw2
    obtain ⟨w4, hr4, ho4, hg4⟩ := h0.update letLaw Try.underlying45 (by omega) (keyL hy) (plainElem_int Try.underlying3 hv)
    rw [hr3] at hr4
    simp only [Result.ok.injEq, true_and] at hr4
    subst hr4
    refine ⟨_, hr2, set_block_grown hw2, ?_⟩
    obtain ⟨es5, clock5, hb5, F5, hs5, hD5⟩ := ho4
    rw [heap_setBlock_same hb] at hb5
    exact ⟨es5, clock5, by rw [heap_setBlock_same hw2]; exact hb5, F5, hs5, hD5⟩
theorem lookup_c {u : World} {b n : Nat} {D : DataW Unit} {y : Letr} {c : Int} (h : OM u b n D) (hy : y.wf) (hc : D.atKey (kL y) (li 0) = li c) :
    (Instr.lookup mT (.map (some b)) (.agg #[.int .i64 y.src, .int .i64 y.dst, .string y.bytes]) false).run Try.prog u = .ok (.int .i64 c) u := by
  obtain ⟨c2, hrun, hat, -⟩ := h.lookup_int letLaw Try.underlying45 Try.underlying3 (zeroI u) (keyL hy)
  rw [hc] at hat
  simp only [DataW.lit.injEq, Lit.int.injEq, true_and] at hat
  rw [hat]
  exact hrun
theorem om_blk {w w' : World} {b n : Nat} {D : DataW Unit} (h : OM w b n D) (hb : w'.heap[b]? = w.heap[b]?) : OM w' b n D := by
  obtain ⟨es, clock, h1, h2⟩ := h
  exact ⟨es, clock, hb.trans h1, h2⟩
theorem om_below {w w' : World} {b n : Nat} {D : DataW Unit} (h : OM w b n D) (hb : Below w.heap.size w w') : OM w' b n D := om_blk h (hb.block _ h.lt)
theorem map_cells {w : World} {b n g : Nat} {D : DataW Unit} {cs : Array Value} {t : TypeId} {fr : Nat × Nat} (h : OM w b n D) (hg : w.heap[g]? = some (.cells cs t fr)) : b ≠ g := fun e => by
  obtain ⟨es, clock, h1, -⟩ := h
  subst e
  rw [hg] at h1
  cases h1
theorem map_own {w : World} {b n : Nat} {D : DataW Unit} {B e sz m : Nat} {v : Value} {xs : List Value} (h : OM w b n D) (hv : w.ownsRow B e sz v m xs) : ∀ q, v.ownBlock = some q → b ≠ q := fun q hq => by
  rcases own_form hv with ⟨rfl, -⟩ | ⟨g, c, cur, rfl, hh, -⟩
  · cases hq
  · simp only [Value.ownBlock, Option.some.injEq] at hq
    subst hq
    exact map_cells h hh
/-- the map stays where a net is changed -/
theorem om_net {TN TL : TypeId} {w w' : World} {B p b n : Nat} {v : Value} {ls : List Letr} {D : DataW Unit} (h : OM w b n D) (hn : NetAt TN TL w B p v ls) (ho : Only (fun k => k = p ∨ v.ownBlock = some k) w w') : OM w' b n D :=
  om_blk h (ho.2.2.2.2 _ h.lt (fun hk => by
    rcases hk with e | e
    · exact map_cells h hn.1 e
    · exact map_own h hn.2.1 _ e rfl))
/-- a net stays where the map is changed -/
theorem net_map {TN TL : TypeId} {w w' : World} {B p b n : Nat} {v : Value} {ls : List Letr} {D : DataW Unit} (hn : NetAt TN TL w B p v ls) (h : OM w b n D) (hg : w.grownBy w' (some b)) : NetAt TN TL w' B p v ls :=
  ⟨(hg.block _ (row_lt hn.1) (fun e => map_cells h hn.1 (Option.some.inj e).symm)).trans hn.1, own_keep hn.2.1 (fun q hq hl => hg.block _ hl (fun e => map_own h hn.2.1 q hq (Option.some.inj e).symm)), hn.2.2⟩
theorem row_map {w w' : World} {b n g : Nat} {D : DataW Unit} {cs : Array Value} {t : TypeId} {fr : Nat × Nat} (h : OM w b n D) (hg : w.heap[g]? = some (.cells cs t fr)) (hgr : w.grownBy w' (some b)) : w'.heap[g]? = some (.cells cs t fr) :=
  (hgr.block _ (row_lt hg) (fun e => map_cells h hg (Option.some.inj e).symm)).trans hg
theorem rng_map {w w' : World} {b n g o : Nat} {D : DataW Unit} {cs : Array Value} {t : TypeId} {fr : Nat × Nat} {xs : List Value} (h : OM w b n D) (hg : w.heap[g]? = some (.cells cs t fr)) (hr : w.rangeAt g o xs) (hgr : w.grownBy w' (some b)) : w'.rangeAt g o xs := fun j v hv => by
  have := hr j v hv
  unfold World.cell? at this ⊢
  rw [row_map h hg hgr]
  rw [hg] at this
  exact this
theorem below_map {B : Nat} {a w w' : World} {b : Nat} (h : Below B a w) (hg : w.grownBy w' (some b)) (hb : B ≤ b) (hB : B ≤ w.heap.size) : Below B a w' :=
  ⟨hg.os.trans h.os, hg.tape.trans h.tape, hg.output.trans h.output, Nat.le_trans h.size hg.size, fun k hk => (hg.block k (Nat.lt_of_lt_of_le hk hB) (fun e => by have := Option.some.inj e; omega)).trans (h.block k hk)⟩
theorem wf_of {x : Letr} (h1 : nodeP x.src) (h2 : nodeP x.dst) (h3 : x.bytes.size ≤ 8200) : x.wf := by
  unfold nodeP at h1 h2
  refine ⟨?_, ?_, by unfold maxLen; omega⟩ <;> simp [Lit.wf, IntKind.min, IntKind.max, IntKind.signed, IntKind.bits] <;> omega
theorem ok_wf {ls : List Letr} (h : okL ls) {x : Letr} (hx : x ∈ ls) : x.wf := wf_of (h.2 x hx).1 (h.2 x hx).2.1 (h.2 x hx).2.2
theorem counts_put {D : DataW Unit} {ls ls' : List Letr} {x : Letr} {c : Int} (h : Counts D ls) (hm : IsMap D) (hx : x.wf) (hc : c = (ls'.count x : Nat)) (ho : ∀ y, y ≠ x → ls'.count y = ls.count y) : Counts (D.put (kL x) (li c)) ls' := fun y hy => by
  by_cases e : y = x
  · subst e
    rw [atKey_put_same hm (letLaw.key (keyL hx)), hc]
  · rw [atKey_put_other (fun q => e (kL_inj hy hx q)), h y hy, ho y e]
theorem count_app {ls : List Letr} {x : Letr} : ((ls ++ [x]).count x : Int) = (ls.count x : Int) + 1 ∧ ∀ y, y ≠ x → (ls ++ [x]).count y = ls.count y := by
  refine ⟨by rw [List.count_append]; simp, fun y hy => ?_⟩
  rw [List.count_append, List.count_singleton]
  have : (x == y) = false := beq_eq_false_iff_ne.2 (fun e => hy e.symm)
  rw [this]
  simp
theorem count_cut {ls : List Letr} {k : Nat} (hk : k < ls.length) : (((ls.take k ++ ls.drop (k + 1)).count (ls.getD k zLet) : Nat) : Int) = (ls.count (ls.getD k zLet) : Int) - 1 ∧ 1 ≤ ls.count (ls.getD k zLet) ∧ ∀ y, y ≠ ls.getD k zLet → (ls.take k ++ ls.drop (k + 1)).count y = ls.count y := by
  have e : ls.getD k zLet = ls[k] := by rw [List.getD_eq_getElem?_getD, List.getElem?_eq_getElem hk]; rfl
  have hs : ls = ls.take k ++ ls[k] :: ls.drop (k + 1) := by rw [← List.drop_eq_getElem_cons hk, List.take_append_drop]
  have hc : ∀ y, ls.count y = (ls.take k ++ ls.drop (k + 1)).count y + if ls[k] == y then 1 else 0 := fun y => by
    conv => lhs; rw [hs]
    rw [List.count_append, List.count_append, List.count_cons]
    omega
  rw [e]
  have h1 := hc ls[k]
  rw [beq_self_eq_true, if_pos rfl] at h1
  refine ⟨by omega, by omega, fun y hy => ?_⟩
  have h2 := hc y
  rw [beq_eq_false_iff_ne.2 (fun q => hy q.symm)] at h2
  simpa using h2.symm
theorem send_two (ls : List Letr) (x : Letr) : (sendE ls x = 0 ∧ sendL ls x = ls ++ [x] ∧ x.wf ∧ okL (sendL ls x) = okL (sendL ls x)) ∨ (sendE ls x ≠ 0 ∧ sendL ls x = ls) := by
  unfold sendE sendL addE addL
  by_cases h1 : ¬ nodeP x.src ∨ ¬ nodeP x.dst
  · rw [if_pos h1, if_pos h1]; exact .inr ⟨by decide, rfl⟩
  · rw [if_neg h1, if_neg h1]
    by_cases h2 : 8200 < x.bytes.size
    · rw [if_pos h2, if_pos h2]; exact .inr ⟨by decide, rfl⟩
    · rw [if_neg h2, if_neg h2]
      by_cases h3 : 200 ≤ ls.length
      · rw [if_pos h3, if_pos h3]; exact .inr ⟨by decide, rfl⟩
      · rw [if_neg h3, if_neg h3]
        exact .inl ⟨rfl, rfl, wf_of (Decidable.not_not.1 (fun q => h1 (.inl q))) (Decidable.not_not.1 (fun q => h1 (.inr q))) (by omega), rfl⟩
theorem dbl_two {ls : List Letr} (i : Int) : (dblE ls i = 0 ∧ inP ls i ∧ dblL ls i = ls ++ [ls.getD i.toNat zLet]) ∨ (dblE ls i ≠ 0 ∧ dblL ls i = ls) := by
  unfold dblE dblL addE addL
  by_cases h : inP ls i
  · rw [if_pos h, if_pos h]
    by_cases h3 : 200 ≤ ls.length
    · rw [if_pos h3, if_pos h3]; exact .inr ⟨by decide, rfl⟩
    · rw [if_neg h3, if_neg h3]; exact .inl ⟨rfl, h, rfl⟩
  · rw [if_neg h, if_neg h]; exact .inr ⟨by decide, rfl⟩
theorem counts_nil : Counts (.map []) [] := fun y hy => rfl
theorem drop_count {ls : List Letr} {k : Nat} (hk : k < ls.length) : 1 ≤ (ls.drop k).count (ls.getD k zLet) ∧ (((ls.drop (k + 1)).count (ls.getD k zLet) : Nat) : Int) = ((ls.drop k).count (ls.getD k zLet) : Int) - 1 ∧ ∀ y, y ≠ ls.getD k zLet → (ls.drop (k + 1)).count y = (ls.drop k).count y := by
  have e : ls.getD k zLet = ls[k] := by rw [List.getD_eq_getElem?_getD, List.getElem?_eq_getElem hk]; rfl
  have hc : ∀ y, (ls.drop k).count y = (ls.drop (k + 1)).count y + if ls[k] == y then 1 else 0 := fun y => by
    conv => lhs; rw [List.drop_eq_getElem_cons hk]
    rw [List.count_cons]
  rw [e]
  have h1 := hc ls[k]
  rw [beq_self_eq_true, if_pos rfl] at h1
  refine ⟨by omega, by omega, fun y hy => ?_⟩
  have h2 := hc y
  rw [beq_eq_false_iff_ne.2 (fun q => hy q.symm)] at h2
  simpa using h2.symm
end Nk
end Go.Proofs.Ytgmndcfeifgapaa
