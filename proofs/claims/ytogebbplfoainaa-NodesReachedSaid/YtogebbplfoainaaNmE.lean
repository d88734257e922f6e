/- nodes.Mid. The map is one of the call's own. -/
import Derived.Test.YtogebbplfoainaaNmD
import Derived.Test.YtogebbplfoainaaNodP
import Derived.Maps.Own
import Derived.Maps.OwnOps
import Derived.Maps.OwnSet
namespace Go.Proofs.Ytogebbplfoainaa
open Go.ChangeShapes Go.WideShapes Go.ChangeAt Go.RowKit Go.Maps
set_option linter.unusedVariables false
set_option maxRecDepth 100000
namespace Nm
open Nd (Sl.cases take_get)
theorem lawI : Keyed Try.prog 3 := int_keyed Try.underlying3
theorem zeroU (w : World) : (zeroValue 25).run Try.prog w = .ok (.int .u64 0) w := by kernel_rfl
abbrev OwnM (w : World) (b k : Nat) (D : DataW Unit) : Prop := w.ownsMap Try.prog 3 (plainElem Try.prog 25) b k D
/-- what the map says at x -/
def farOf (D : DataW Unit) (x : Int) : Int := match D.atKey (.int .i64 x) (.lit (.int .u64 0)) with | .lit (.int _ c) => c | _ => 0
theorem far_got {D : DataW Unit} {x c : Int} (h : D.atKey (.int .i64 x) (.lit (.int .u64 0)) = .lit (.int .u64 c)) : c = farOf D x := by unfold farOf; rw [h]
theorem OwnM.far_wf {w : World} {b k : Nat} {D : DataW Unit} (h : OwnM w b k D) {x : Int} (hx : (Lit.int .i64 x).wf = true) : (Lit.int .u64 (farOf D x)).wf = true := by
  obtain ⟨c, -, h2, h3⟩ := h.lookup_int lawI Try.underlying24 Try.underlying25 (zeroU w) (keyOf_int_mk Try.underlying3 hx)
  rw [← far_got h2]; exact h3
theorem OwnM.below {w w' : World} {b k C : Nat} {D : DataW Unit} (h : OwnM w b k D) (hb : Below C w w') (hC : w.heap.size ≤ C) : OwnM w' b k D := by
  have hlt := h.lt
  obtain ⟨es, clock, h1, h2⟩ := h
  exact ⟨es, clock, (hb.block b (by omega)).trans h1, h2⟩
theorem okFrom_len : ∀ {l : List Int} {last : Int}, Nd.okFrom last l = true → l ≠ [] → last + l.length ≤ 7
  | [], _, _, h => absurd rfl h
  | n :: l, last, h, _ => by
    unfold Nd.okFrom at h
    rw [Bool.and_eq_true] at h
    have h1 := of_decide_eq_true h.1
    by_cases e : l = []
    · subst e; simp; omega
    · have := okFrom_len h.2 e
      simp only [List.length_cons]; omega
theorem chk_len {l : List Int} (h : Nd.chk l = true) : 0 < l.length ∧ l.length ≤ 7 := by
  unfold Nd.chk at h
  rw [Bool.and_eq_true] at h
  have h1 : l ≠ [] := by intro e; subst e; simp at h
  have := okFrom_len h.2 h1
  exact ⟨List.length_pos_iff.2 h1, by omega⟩
theorem info_u64 : (Try.prog.info? 25).map (fun i => (i.zero, i.size, i.bytes)) = some (some (.int .u64 0), 1, 8) := by kernel_rfl
abbrev OwnU := OwnK .u64 25
theorem appU {w : World} {ops : Array Oper} {rest : List Oper} {o : Oper} {a : Act} {Q : Exit → Act → World → Prop} (hgd : o.guard = none) (s x : Operand)
    (ho : o.op = .call { callee := .builtin .append, args := #[s, x], argTypes := #[23, 23] }) (base : Nat)
    (v : Value) (xs : List Int) (hs : a.eval s = v) (hown : OwnU w base v xs) (u : Value) (zs : List Int) (hx : a.eval x = u) (hsl : Sl .u64 w u zs)
    (hb : (xs.length + zs.length) * 8 ≤ 140737488355328) (hbase : base ≤ w.heap.size)
    (h : ∀ v' w', OwnU w' base v' (xs ++ zs) → Below base w w' → wpList Try.prog ops Q rest (a.put o.dst v') w') : wpList Try.prog ops Q (o :: rest) a w :=
  appK Try.underlying23 info_u64 hgd s x ho base v xs hs hown u zs hx hsl (by unfold maxLen; omega) hb hbase h
theorem own_row {w : World} {B : Nat} {v : Value} {l : List Int} (h : OwnU w B v l) (h0 : 0 < l.length) : ∃ g cap, v = .slice (some ⟨g, 0, none⟩) l.length cap ∧ RowU w B g cap l := by
  have h2 := h
  rcases h2.2 with ⟨-, h3⟩ | ⟨g, cap, cur, h3, -⟩
  · omega
  · exact ⟨g, cap, h3, by rw [h3] at h; exact h⟩
/-- what Mid gives -/
def MidP (f : Int → Int) (zs : List Int) (x : Int) : Prop := (Nd.chk zs = false → x = 0) ∧ (Nd.chk zs = true → ∃ l : List Int, l.Perm (zs.map f) ∧ sortedTo l zs.length ∧ l.length = zs.length ∧ x = at0 l ((zs.length - 1) / 2))
set_option maxHeartbeats 2000000 in
theorem mid_any (v : Value) (zs : List Int) (w : World) (hs : Sl .i64 w v zs) (b k : Nat) (D : DataW Unit) (hm : OwnM w b k D) :
    Calls Try.prog 5 #[v, .map (some b)] w fun e w' => (∃ x, e = .returned (.int .u64 x) ∧ MidP (farOf D) zs x) ∧ Below w.heap.size w w' := by
  have HM := Lib.hid hm
  cases hck : Nd.chk zs with
  | false =>
    have HCK := Lib.hid hck
    have HC : Hid (Calls Try.prog 7 #[v] w fun e w' => e = .returned (.int .i64 1) ∧ w = w') := Lib.hid (by have h := Nd.check_any v zs w hs; rw [hck] at h; exact h)
    clear hs hm hck
    go_enter Try.func5, Try.ntmps5
    go_wp2_with (go_at_call 7; refine HC.out.mono ?_; rintro e w1 ⟨rfl, rfl⟩)
    go_ret
    exact ⟨⟨0, rfl, fun _ => rfl, fun h => by rw [HCK.out] at h; cases h⟩, Below.refl _ _⟩
  | true =>
    have HCK := Lib.hid hck
    obtain ⟨hz0, hz7⟩ := chk_len hck
    have HC : Hid (Calls Try.prog 7 #[v] w fun e w' => e = .returned (.int .i64 0) ∧ w = w') := Lib.hid (by have h := Nd.check_any v zs w hs; rw [hck] at h; exact h)
    have HWF := Lib.hid hs.wf
    rcases Sl.cases hs with ⟨a, cap, rfl, rfl⟩ | ⟨b2, off, cap, rfl, h0, hlc, hcm, hlt, hc⟩
    · simp at hz0
    have HCX := Lib.hid hc
    clear hs hm hck hc
    go_enter Try.func5, Try.ntmps5
    go_wp2_with (go_at_call 7; refine HC.out.mono ?_; rintro e w1 ⟨rfl, rfl⟩)
    go_loopw [5, 13] (fun r i wr => ∃ j : Nat, j ≤ zs.length ∧ i = .int .i64 j ∧ Below w.heap.size w wr ∧ OwnU wr w.heap.size r ((zs.take j).map (farOf D))) (fun _ i _ => zs.length - (intOf i).toNat)
    case atStart => exact ⟨0, Nat.zero_le _, rfl, Below.refl _ _, OwnK.nil _ _ _ _⟩
    case round =>
      obtain ⟨j, hj, rfl, hb, hown⟩ := hrel
      have HB := Lib.hid hb
      have HOWN := Lib.hid hown
      by_cases hlt2 : j < zs.length
      · have hcx := (hb.cell (p := ⟨b2, off + j, none⟩) hlt).trans (HCX.out j hlt2)
        have HT := Lib.hid (take_get hlt2)
        have HZ : Hid ((Lit.int .i64 (zs.getD j 0)).wf = true) := Lib.hid (HWF.out _ (by rw [Nd.getD_get hlt2]; exact List.getElem_mem _))
        have HMM := Lib.hid (HM.out.below hb (Nat.le_refl _))
        clear hb hown
        generalize zs.getD j 0 = z at *
        have HU := Lib.hid (HM.out.far_wf HZ.out)
        go_wp2_with (first
          | (at_lookup; refine wpList_lookup_own_int _ rfl _ _ 24 rfl 3 25 .u64 lawI Try.underlying24 Try.underlying25 (zeroU _) b k D rfl HMM.out _ _ rfl (keyOf_int_mk Try.underlying3 HZ.out) ?_; intro c hat hwc; obtain rfl := far_got hat)
          | (at_builtin; refine appU rfl _ _ rfl w.heap.size _ _ rfl (HOWN.out.alloc _) _ [farOf D z] rfl (Sl.new (fr := (0, 0)) wr #[Value.int .u64 (farOf D z)] [farOf D z] rfl rfl (Nat.le_refl _) (by decide) (by intro y hy; simp at hy; subst hy; exact HU.out)) (by simp; omega) (by have := HB.out.size; simp; omega) ?_; intro u1 w1 hown1 hb1))
        go_roundw
        case rel => exact ⟨j + 1, by omega, by go_num, (HB.out.alloc HB.out.size _).trans hb1, by rw [HT.out, List.map_append]; exact hown1⟩
        case measure => simp [intOf]; omega
      · obtain rfl : j = zs.length := by omega
        have hlz : ((zs.take zs.length).map (farOf D)).length = zs.length := by simp
        obtain ⟨g, cap2, rfl, hrow⟩ := own_row hown (by omega)
        rw [hlz]
        have HS := Lib.hid (sort_any g cap2 w.heap.size _ _ hrow (by omega) (by omega))
        rw [hlz] at HS
        clear hb hown hrow
        have hzi : (zs.length : Int) ≤ 7 := by omega
        go_wp2_with (go_at_call 9; refine HS.out.mono ?_; rintro e w1 ⟨rfl, hb1, l, hl, hp, hso, hrw⟩; have hcl := hrw.cell ((zs.length - 1) / 2) (by omega))
        go_ret
        rw [List.take_length] at hp
        exact ⟨⟨_, rfl, fun h => Bool.noConfusion (HCK.out.symm.trans h), fun _ => ⟨l, hp, hso, hl, rfl⟩⟩, HB.out.trans hb1⟩
end Nm
end Go.Proofs.Ytogebbplfoainaa
