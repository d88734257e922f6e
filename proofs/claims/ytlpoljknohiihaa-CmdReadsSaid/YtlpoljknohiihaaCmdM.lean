/- A command's bytes read again, on lists alone. No condition. -/
import Derived.Test.YtlpoljknohiihaaCmdH
namespace Go.Proofs.Ytlpoljknohiihaa
open Go.ChangeShapes Go.WideShapes Go.ChangeAt Go.RowKit
set_option linter.unusedVariables false
namespace Cm

theorem decode_any (v : Value) (zs : List Int) (w : World) (hs : Sl .u8 w v zs) : Calls Try.prog 16 #[v] w (Dec zs w) := by
  cases he : ((nx zs 0 18446744073709551615).2.1 == 0) with
  | false => exact decode_err v zs w hs he
  | true =>
    cases hk : kindB (nx zs 0 18446744073709551615).1 with
    | false => exact decode_form v zs w hs he hk
    | true =>
      rcases hx : nx zs 0 18446744073709551615 with ⟨n, er, u⟩
      rw [hx] at he hk
      have : er = 0 := by simpa using he
      subst this
      exact decode_kind v zs w hs hx hk

/-! ### what was written is read -/
theorem nx_num {zs rest : List Int} {u : Nat} {n m : Int} (h : zs.drop u = numI n ++ rest) (h0 : 0 ≤ n) (h1 : n ≤ 18446744073709551615) (hm : n ≤ m) :
    nx zs u m = (n, 0, u + (numI n).length) ∧ zs.drop (u + (numI n).length) = rest := by
  have hr : Oc.rdL (zs.drop u) = (n.toNat, Oc.bw n.toNat + 1, 0) := by rw [h]; exact Oc.rd_num (by omega) rest
  have hl : (numI n).length = Oc.bw n.toNat + 1 := Oc.numL_length _
  refine ⟨?_, ?_⟩
  · rw [nx_ok hr (by omega), hl, show ((n.toNat : Nat) : Int) = n by omega]
  · rw [← List.drop_drop, h, List.drop_left]
theorem mostF_bd {c : Cmd} {f : Nat} (hf : f ≤ 5) (hok : fitsF c f = true) (hb : 0 ≤ numF c f ∧ numF c f ≤ 18446744073709551615) : numF c f ≤ mostF f := by
  rcases (show f = 0 ∨ f = 1 ∨ f = 2 ∨ f = 3 ∨ f = 4 ∨ f = 5 by omega) with rfl | rfl | rfl | rfl | rfl | rfl
  · have := of_decide_eq_true hok; show numF c 0 ≤ 65535; omega
  · exact hb.2
  · exact hb.2
  · have := of_decide_eq_true hok; exact this.2
  · exact hb.2
  · exact hb.2
theorem encF_cons (c : Cmd) (f : Int) (l : List Int) : encF c (f :: l) = numI (numF c f.toNat) ++ encF c l := rfl
theorem encN_cons (n : Int) (l : List Int) : encN (n :: l) = numI n ++ encN l := rfl
def putAll (c : Cmd) : List Int → Cmd → Cmd
  | [], d => d
  | f :: fs, d => putAll c fs (putC d f.toNat (numF c f.toNat))
theorem rdF_enc {zs rest : List Int} {c : Cmd} (hb : ∀ f, 0 ≤ numF c f ∧ numF c f ≤ 18446744073709551615) : ∀ (fs : List Int) (d : Cmd) (u : Nat), (∀ f ∈ fs, 0 ≤ f ∧ f ≤ 5 ∧ fitsF c f.toNat = true) → zs.drop u = encF c fs ++ rest →
    rdF zs fs d u = (putAll c fs d, 0, u + (encF c fs).length) ∧ zs.drop (u + (encF c fs).length) = rest
  | [], d, u, _, h => ⟨rfl, by simpa [encF] using h⟩
  | f :: fs, d, u, hf, h => by
    obtain ⟨f0, f5, fok⟩ := hf f (by simp)
    rw [encF_cons, List.append_assoc] at h
    have h1 := nx_num (m := mostF f.toNat) h (hb _).1 (hb _).2 (mostF_bd (by omega) fok (hb _))
    have h2 : rd1 zs d f.toNat u = (putC d f.toNat (numF c f.toNat), 0, u + (numI (numF c f.toNat)).length) := by rw [rd1_num (by omega), h1.1]
    have ih := rdF_enc hb fs (putC d f.toNat (numF c f.toNat)) _ (fun g hg => hf g (by simp [hg])) h1.2
    rw [rdF_ok (by rw [h2]; rfl), h2, encF_cons, List.length_append, ← Nat.add_assoc]
    exact ih
theorem st_enc {zs rest l : List Int} {u : Nat} (h : zs.drop u = encN l ++ rest) (hl : ∀ n ∈ l, 0 ≤ n ∧ n ≤ 65535) : ∀ k, k ≤ l.length →
    st zs u k = (l.take k, 0, u + (encN (l.take k)).length) ∧ zs.drop (u + (encN (l.take k)).length) = encN (l.drop k) ++ rest
  | 0, _ => ⟨by simp [st, encN], by simpa [encN] using h⟩
  | k + 1, hk => by
    have ih := st_enc h hl k (by omega)
    have hd := Nd.drop_get (l := l) (k := k) (by omega)
    have hb := hl _ (Nd.mem_get (l := l) (k := k) (by omega))
    have ht := Nd.take_get (l := l) (k := k) (by omega)
    rw [hd, encN_cons, List.append_assoc] at ih
    have h1 := nx_num (m := 65535) ih.2 hb.1 (by omega) hb.2
    have h2 : st zs u (k + 1) = ((st zs u k).1 ++ [(nx zs (st zs u k).2.2 65535).1], (nx zs (st zs u k).2.2 65535).2.1, (nx zs (st zs u k).2.2 65535).2.2) := by
      show (if ((st zs u k).2.1 == 0) = true then _ else _) = _
      rw [ih.1]; rfl
    rw [h2, ih.1, h1.1, ht, encN_snoc, List.length_append, ← Nat.add_assoc]
    exact ⟨rfl, h1.2⟩
theorem li_enc {zs rest l : List Int} {u : Nat} (h : zs.drop u = numI l.length ++ (encN l ++ rest)) (h7 : l.length ≤ 7) (hl : ∀ n ∈ l, 0 ≤ n ∧ n ≤ 65535) :
    li zs u = (l, 0, u + (numI l.length).length + (encN l).length) := by
  have h1 := nx_num (m := 7) h (by omega) (by omega) (by omega)
  have h2 := (st_enc h1.2 hl l.length (Nat.le_refl _)).1
  unfold li
  rw [h1.1]
  simp only [beq_self_eq_true, if_true, Int.toNat_natCast]
  rw [h2, List.take_length]
theorem okF_of {c : Cmd} (h : chkC c = true) : ∀ f, f < 7 → okF c f = true := by
  unfold chkC at h
  rw [Bool.and_eq_true, List.all_eq_true] at h
  exact fun f hf => h.2 f (List.mem_range.2 hf)
theorem fits_of {c : Cmd} (h : chkC c = true) {f : Int} (hf : f ∈ fieldsL c.kind) : fitsF c f.toNat = true := by
  have hb := (fieldsL_bd c.kind).2 f hf
  have := okF_of h f.toNat (by omega)
  unfold okF at this
  rw [if_pos (by rw [show ((f.toNat : Nat) : Int) = f by omega]; exact hf)] at this
  exact this
theorem zero_of {c : Cmd} (h : chkC c = true) {f : Nat} (h7 : f < 7) (hf : ((f : Nat) : Int) ∉ fieldsL c.kind) : numF c f = 0 := by
  have := okF_of h f h7
  unfold okF at this
  rw [if_neg hf] at this
  simpa using this
theorem u64_zero {n : Int} (hw : (Lit.int .i64 n).wf = true) (h : u64 n = 0) : n = 0 := by
  have := bounds_i64 hw
  unfold u64 at h
  split at h <;> omega
theorem u64_self {n : Int} (hw : (Lit.int .i64 n).wf = true) (h : u64 n ≤ 65535) : u64 n = n := by
  have := bounds_i64 hw
  unfold u64 at h ⊢
  split at h <;> split <;> omega
theorem six_mem {k : Int} (h : 1 ≤ k ∧ k ≤ 6) (hk : k ≠ 2) : ((6 : Nat) : Int) ∉ fieldsL k ∧ ∀ f ∈ fieldsL k, 0 ≤ f ∧ f ≤ 5 := by
  rcases (show k = 1 ∨ k = 3 ∨ k = 4 ∨ k = 5 ∨ k = 6 by omega) with rfl | rfl | rfl | rfl | rfl <;> simp [fieldsL]
theorem putAll_eq {c : Cmd} (hw : c.wf) (h : chkC c = true) (hk : c.kind ≠ 2) : putAll c (fieldsL c.kind) (kindC c.kind) = c := by
  have hk6 := (chk_parts h).1
  obtain ⟨w0, w1, w2, w3, w4, w5, w6⟩ := hw
  have z := fun (f : Nat) (h7 : f < 7) => zero_of h h7
  have t := fun (f : Int) (hf : f ∈ fieldsL c.kind) => fits_of h hf
  have hn : c.nodes = [] := by
    have := z 6 (by omega) (six_mem hk6 hk).1
    exact List.eq_nil_of_length_eq_zero (by simpa [numF] using this)
  obtain ⟨kind, node, token, nodes, boot, seq, serial, stamp⟩ := c
  simp only [] at hk hk6 hn w0 w1 w2
  subst hn
  rcases (show kind = 1 ∨ kind = 3 ∨ kind = 4 ∨ kind = 5 ∨ kind = 6 by omega) with rfl | rfl | rfl | rfl | rfl
  · have z0 := u64_zero w1 (z 0 (by omega) (by simp [fieldsL]))
    have z1 : boot = 0 := z 1 (by omega) (by simp [fieldsL])
    have z2 : seq = 0 := z 2 (by omega) (by simp [fieldsL])
    have z3 := u64_zero w2 (z 3 (by omega) (by simp [fieldsL]))
    have z4 : serial = 0 := z 4 (by omega) (by simp [fieldsL])
    have z5 : stamp = 0 := z 5 (by omega) (by simp [fieldsL])
    subst z0 z1 z2 z3 z4 z5
    rfl
  · have t0 := of_decide_eq_true (t 0 (by simp [fieldsL]))
    have e0 := u64_self w1 (show u64 node ≤ 65535 by have := t0.2; simp only [numF] at this; omega)
    have z3 := u64_zero w2 (z 3 (by omega) (by simp [fieldsL]))
    have z4 : serial = 0 := z 4 (by omega) (by simp [fieldsL])
    have z5 : stamp = 0 := z 5 (by omega) (by simp [fieldsL])
    subst z3 z4 z5
    simp [fieldsL, putAll, putC, kindC, numF, e0]
  · have t0 := of_decide_eq_true (t 0 (by simp [fieldsL]))
    have e0 := u64_self w1 (show u64 node ≤ 65535 by have := t0.2; simp only [numF] at this; omega)
    have t3 := of_decide_eq_true (t 3 (by simp [fieldsL]))
    have e3 := u64_self w2 (show u64 token ≤ 65535 by have := t3.2; simp only [numF] at this; omega)
    have z5 : stamp = 0 := z 5 (by omega) (by simp [fieldsL])
    subst z5
    simp [fieldsL, putAll, putC, kindC, numF, e0, e3]
  · have t0 := of_decide_eq_true (t 0 (by simp [fieldsL]))
    have e0 := u64_self w1 (show u64 node ≤ 65535 by have := t0.2; simp only [numF] at this; omega)
    have t3 := of_decide_eq_true (t 3 (by simp [fieldsL]))
    have e3 := u64_self w2 (show u64 token ≤ 65535 by have := t3.2; simp only [numF] at this; omega)
    have z5 : stamp = 0 := z 5 (by omega) (by simp [fieldsL])
    subst z5
    simp [fieldsL, putAll, putC, kindC, numF, e0, e3]
  · have z0 := u64_zero w1 (z 0 (by omega) (by simp [fieldsL]))
    have z1 : boot = 0 := z 1 (by omega) (by simp [fieldsL])
    have z2 : seq = 0 := z 2 (by omega) (by simp [fieldsL])
    have t3 := of_decide_eq_true (t 3 (by simp [fieldsL]))
    have e3 := u64_self w2 (show u64 token ≤ 65535 by have := t3.2; simp only [numF] at this; omega)
    subst z0 z1 z2
    simp [fieldsL, putAll, putC, kindC, numF, e3]
theorem eq_list {c : Cmd} (hw : c.wf) (h : chkC c = true) (hk : c.kind = 2) : ({ kindC 2 with nodes := c.nodes } : Cmd) = c := by
  obtain ⟨w0, w1, w2, w3, w4, w5, w6⟩ := hw
  have z := fun (f : Nat) (h7 : f < 7) => zero_of h h7
  obtain ⟨kind, node, token, nodes, boot, seq, serial, stamp⟩ := c
  simp only [] at hk w0 w1 w2
  subst hk
  have z0 := u64_zero w1 (z 0 (by omega) (by simp [fieldsL]))
  have z1 : boot = 0 := z 1 (by omega) (by simp [fieldsL])
  have z2 : seq = 0 := z 2 (by omega) (by simp [fieldsL])
  have z3 := u64_zero w2 (z 3 (by omega) (by simp [fieldsL]))
  have z4 : serial = 0 := z 4 (by omega) (by simp [fieldsL])
  have z5 : stamp = 0 := z 5 (by omega) (by simp [fieldsL])
  subst z0 z1 z2 z3 z4 z5
  rfl
theorem encN_none {c : Cmd} (h : chkC c = true) (hk : c.kind ≠ 2) : encN c.nodes = [] := by
  have := zero_of h (f := 6) (by omega) (six_mem (chk_parts h).1 hk).1
  rw [List.eq_nil_of_length_eq_zero (by simpa [numF] using this : c.nodes.length = 0)]; rfl
theorem dec_enc {c : Cmd} (hw : c.wf) (h : chkC c = true) (rest : List Int) : decL (encL c ++ rest) = (c, (encL c).length, 0) := by
  obtain ⟨hk, h7, hn⟩ := chk_parts h
  have hb := numF_bd hw (by omega)
  have h0 : (encL c ++ rest).drop 0 = numI c.kind ++ (encF c (fieldsL c.kind) ++ (encN c.nodes ++ rest)) := by simp [encL, List.append_assoc]
  have h1 := nx_num (m := 18446744073709551615) h0 (by omega) (by omega) (by omega)
  rw [Nat.zero_add] at h1
  refine dec_yes h1.1 (decide_eq_true hk) ?_ h
  unfold rdC
  by_cases h2 : c.kind = 2
  · have hf : fieldsL c.kind = [6] := by rw [h2]; rfl
    have he : encF c [6] = numI (c.nodes.length : Int) := by rw [encF_cons]; simp [encF, numF]
    have h3 := h1.2
    rw [hf, he] at h3
    have h4 := li_enc h3 h7 (fun n hn' => by have := hn n hn'; omega)
    have h5 : rd1 (encL c ++ rest) (kindC c.kind) (6 : Int).toNat (numI c.kind).length = (c, 0, (encL c).length) := by
      show rd1 _ _ 6 _ = _
      rw [rd1_six, h4, h2, eq_list hw h h2]
      unfold encL
      rw [hf, he, h2, List.length_append, List.length_append]
    rw [hf, rdF_ok (by rw [h5]; rfl), h5]
    rfl
  · have h3 := rdF_enc hb (fieldsL c.kind) (kindC c.kind) _ (fun f hf => ⟨((six_mem hk h2).2 f hf).1, ((six_mem hk h2).2 f hf).2, fits_of h hf⟩) h1.2
    rw [h3.1, putAll_eq hw h h2]
    unfold encL
    rw [encN_none h h2, List.append_nil, List.length_append]
end Cm
end Go.Proofs.Ytlpoljknohiihaa
