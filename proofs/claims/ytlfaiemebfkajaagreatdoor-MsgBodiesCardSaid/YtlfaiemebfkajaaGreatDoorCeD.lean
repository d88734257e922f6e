/- A command's bytes read again, on lists alone. No condition. What is read of a command is written as these bytes; what was cut is short: on lists alone. No condition. -/
import Derived.Test.YtlfaiemebfkajaaGreatDoorCeC
namespace Go.Proofs.YtlfaiemebfkajaaGreatDoor
open Go.ChangeShapes Go.WideShapes Go.ChangeAt Go.RowKit
set_option linter.unusedVariables false
set_option maxRecDepth 100000
namespace Cm

theorem decode_any (v : Value) (zs : List Int) (w : World) (hs : Sl .u8 w v zs) : Calls Tryz.prog 86 #[v] w (Dec zs w) := by
  cases he : ((nx zs 0 18446744073709551615).2.1 == 0) with
  | false => exact decode_err v zs w hs he
  | true =>
    cases hk : kindB (nx zs 0 18446744073709551615).1 with
    | false => exact decode_form v zs w hs he hk
    | true =>
      rcases hx : nx zs 0 18446744073709551615 with ⟨n, er, u⟩
      rw [hx] at he hk
      have : er = 0 := by simpa using he
      subst this
      exact decode_kind v zs w hs hx hk

/-! ### what was written is read -/
theorem nx_num {zs rest : List Int} {u : Nat} {n m : Int} (h : zs.drop u = numI n ++ rest) (h0 : 0 ≤ n) (h1 : n ≤ 18446744073709551615) (hm : n ≤ m) :
    nx zs u m = (n, 0, u + (numI n).length) ∧ zs.drop (u + (numI n).length) = rest := by
  have hr : Oc.rdL (zs.drop u) = (n.toNat, Oc.bw n.toNat + 1, 0) := by rw [h]; exact Oc.rd_num (by omega) rest
  have hl : (numI n).length = Oc.bw n.toNat + 1 := Oc.numL_length _
  refine ⟨?_, ?_⟩
  · rw [nx_ok hr (by omega), hl, show ((n.toNat : Nat) : Int) = n by omega]
  · rw [← List.drop_drop, h, List.drop_left]
theorem mostF_bd {c : Cmd} {f : Nat} (hf : f ≤ 5) (hok : fitsF c f = true) (hb : 0 ≤ numF c f ∧ numF c f ≤ 18446744073709551615) : numF c f ≤ mostF f := by
  rcases (show f = 0 ∨ f = 1 ∨ f = 2 ∨ f = 3 ∨ f = 4 ∨ f = 5 by omega) with rfl | rfl | rfl | rfl | rfl | rfl
  · have := of_decide_eq_true hok; show numF c 0 ≤ 65535; omega
  · exact hb.2
  · exact hb.2
  · have := of_decide_eq_true hok; exact this.2
  · exact hb.2
  · exact hb.2
theorem encF_cons (c : Cmd) (f : Int) (l : List Int) : encF c (f :: l) = numI (numF c f.toNat) ++ encF c l := rfl
theorem encN_cons (n : Int) (l : List Int) : encN (n :: l) = numI n ++ encN l := rfl
def putAll (c : Cmd) : List Int → Cmd → Cmd
  | [], d => d
  | f :: fs, d => putAll c fs (putC d f.toNat (numF c f.toNat))
theorem rdF_enc {zs rest : List Int} {c : Cmd} (hb : ∀ f, 0 ≤ numF c f ∧ numF c f ≤ 18446744073709551615) : ∀ (fs : List Int) (d : Cmd) (u : Nat), (∀ f ∈ fs, 0 ≤ f ∧ f ≤ 5 ∧ fitsF c f.toNat = true) → zs.drop u = encF c fs ++ rest →
    rdF zs fs d u = (putAll c fs d, 0, u + (encF c fs).length) ∧ zs.drop (u + (encF c fs).length) = rest
  | [], d, u, _, h => ⟨rfl, by simpa [encF] using h⟩
  | f :: fs, d, u, hf, h => by
    obtain ⟨f0, f5, fok⟩ := hf f (by simp)
    rw [encF_cons, List.append_assoc] at h
    have h1 := nx_num (m := mostF f.toNat) h (hb _).1 (hb _).2 (mostF_bd (by omega) fok (hb _))
    have h2 : rd1 zs d f.toNat u = (putC d f.toNat (numF c f.toNat), 0, u + (numI (numF c f.toNat)).length) := by rw [rd1_num (by omega), h1.1]
    have ih := rdF_enc hb fs (putC d f.toNat (numF c f.toNat)) _ (fun g hg => hf g (by simp [hg])) h1.2
    rw [rdF_ok (by rw [h2]; rfl), h2, encF_cons, List.length_append, ← Nat.add_assoc]
    exact ih
theorem st_enc {zs rest l : List Int} {u : Nat} (h : zs.drop u = encN l ++ rest) (hl : ∀ n ∈ l, 0 ≤ n ∧ n ≤ 65535) : ∀ k, k ≤ l.length →
    st zs u k = (l.take k, 0, u + (encN (l.take k)).length) ∧ zs.drop (u + (encN (l.take k)).length) = encN (l.drop k) ++ rest
  | 0, _ => ⟨by simp [st, encN], by simpa [encN] using h⟩
  | k + 1, hk => by
    have ih := st_enc h hl k (by omega)
    have hd := Nd.drop_get (l := l) (k := k) (by omega)
    have hb := hl _ (Nd.mem_get (l := l) (k := k) (by omega))
    have ht := Nd.take_get (l := l) (k := k) (by omega)
    rw [hd, encN_cons, List.append_assoc] at ih
    have h1 := nx_num (m := 65535) ih.2 hb.1 (by omega) hb.2
    have h2 : st zs u (k + 1) = ((st zs u k).1 ++ [(nx zs (st zs u k).2.2 65535).1], (nx zs (st zs u k).2.2 65535).2.1, (nx zs (st zs u k).2.2 65535).2.2) := by
      show (if ((st zs u k).2.1 == 0) = true then _ else _) = _
      rw [ih.1]; rfl
    rw [h2, ih.1, h1.1, ht, encN_snoc, List.length_append, ← Nat.add_assoc]
    exact ⟨rfl, h1.2⟩
theorem li_enc {zs rest l : List Int} {u : Nat} (h : zs.drop u = numI l.length ++ (encN l ++ rest)) (h7 : l.length ≤ 7) (hl : ∀ n ∈ l, 0 ≤ n ∧ n ≤ 65535) :
    li zs u = (l, 0, u + (numI l.length).length + (encN l).length) := by
  have h1 := nx_num (m := 7) h (by omega) (by omega) (by omega)
  have h2 := (st_enc h1.2 hl l.length (Nat.le_refl _)).1
  unfold li
  rw [h1.1]
  simp only [beq_self_eq_true, if_true, Int.toNat_natCast]
  rw [h2, List.take_length]
theorem okF_of {c : Cmd} (h : chkC c = true) : ∀ f, f < 7 → okF c f = true := by
  unfold chkC at h
  rw [Bool.and_eq_true, List.all_eq_true] at h
  exact fun f hf => h.2 f (List.mem_range.2 hf)
theorem fits_of {c : Cmd} (h : chkC c = true) {f : Int} (hf : f ∈ fieldsL c.kind) : fitsF c f.toNat = true := by
  have hb := (fieldsL_bd c.kind).2 f hf
  have := okF_of h f.toNat (by omega)
  unfold okF at this
  rw [if_pos (by rw [show ((f.toNat : Nat) : Int) = f by omega]; exact hf)] at this
  exact this
theorem zero_of {c : Cmd} (h : chkC c = true) {f : Nat} (h7 : f < 7) (hf : ((f : Nat) : Int) ∉ fieldsL c.kind) : numF c f = 0 := by
  have := okF_of h f h7
  unfold okF at this
  rw [if_neg hf] at this
  simpa using this
theorem u64_zero {n : Int} (hw : (Lit.int .i64 n).wf = true) (h : u64 n = 0) : n = 0 := by
  have := bounds_i64 hw
  unfold u64 at h
  split at h <;> omega
theorem u64_self {n : Int} (hw : (Lit.int .i64 n).wf = true) (h : u64 n ≤ 65535) : u64 n = n := by
  have := bounds_i64 hw
  unfold u64 at h ⊢
  split at h <;> split <;> omega
theorem six_mem {k : Int} (h : 1 ≤ k ∧ k ≤ 6) (hk : k ≠ 2) : ((6 : Nat) : Int) ∉ fieldsL k ∧ ∀ f ∈ fieldsL k, 0 ≤ f ∧ f ≤ 5 := by
  rcases (show k = 1 ∨ k = 3 ∨ k = 4 ∨ k = 5 ∨ k = 6 by omega) with rfl | rfl | rfl | rfl | rfl <;> simp [fieldsL]
theorem putAll_eq {c : Cmd} (hw : c.wf) (h : chkC c = true) (hk : c.kind ≠ 2) : putAll c (fieldsL c.kind) (kindC c.kind) = c := by
  have hk6 := (chk_parts h).1
  obtain ⟨w0, w1, w2, w3, w4, w5, w6⟩ := hw
  have z := fun (f : Nat) (h7 : f < 7) => zero_of h h7
  have t := fun (f : Int) (hf : f ∈ fieldsL c.kind) => fits_of h hf
  have hn : c.nodes = [] := by
    have := z 6 (by omega) (six_mem hk6 hk).1
    exact List.eq_nil_of_length_eq_zero (by simpa [numF] using this)
  obtain ⟨kind, node, token, nodes, boot, seq, serial, stamp⟩ := c
  simp only [] at hk hk6 hn w0 w1 w2
  subst hn
  rcases (show kind = 1 ∨ kind = 3 ∨ kind = 4 ∨ kind = 5 ∨ kind = 6 by omega) with rfl | rfl | rfl | rfl | rfl
  · have z0 := u64_zero w1 (z 0 (by omega) (by simp [fieldsL]))
    have z1 : boot = 0 := z 1 (by omega) (by simp [fieldsL])
    have z2 : seq = 0 := z 2 (by omega) (by simp [fieldsL])
    have z3 := u64_zero w2 (z 3 (by omega) (by simp [fieldsL]))
    have z4 : serial = 0 := z 4 (by omega) (by simp [fieldsL])
    have z5 : stamp = 0 := z 5 (by omega) (by simp [fieldsL])
    subst z0 z1 z2 z3 z4 z5
    rfl
  · have t0 := of_decide_eq_true (t 0 (by simp [fieldsL]))
    have e0 := u64_self w1 (show u64 node ≤ 65535 by have := t0.2; simp only [numF] at this; omega)
    have z3 := u64_zero w2 (z 3 (by omega) (by simp [fieldsL]))
    have z4 : serial = 0 := z 4 (by omega) (by simp [fieldsL])
    have z5 : stamp = 0 := z 5 (by omega) (by simp [fieldsL])
    subst z3 z4 z5
    simp [fieldsL, putAll, putC, kindC, numF, e0]
  · have t0 := of_decide_eq_true (t 0 (by simp [fieldsL]))
    have e0 := u64_self w1 (show u64 node ≤ 65535 by have := t0.2; simp only [numF] at this; omega)
    have t3 := of_decide_eq_true (t 3 (by simp [fieldsL]))
    have e3 := u64_self w2 (show u64 token ≤ 65535 by have := t3.2; simp only [numF] at this; omega)
    have z5 : stamp = 0 := z 5 (by omega) (by simp [fieldsL])
    subst z5
    simp [fieldsL, putAll, putC, kindC, numF, e0, e3]
  · have t0 := of_decide_eq_true (t 0 (by simp [fieldsL]))
    have e0 := u64_self w1 (show u64 node ≤ 65535 by have := t0.2; simp only [numF] at this; omega)
    have t3 := of_decide_eq_true (t 3 (by simp [fieldsL]))
    have e3 := u64_self w2 (show u64 token ≤ 65535 by have := t3.2; simp only [numF] at this; omega)
    have z5 : stamp = 0 := z 5 (by omega) (by simp [fieldsL])
    subst z5
    simp [fieldsL, putAll, putC, kindC, numF, e0, e3]
  · have z0 := u64_zero w1 (z 0 (by omega) (by simp [fieldsL]))
    have z1 : boot = 0 := z 1 (by omega) (by simp [fieldsL])
    have z2 : seq = 0 := z 2 (by omega) (by simp [fieldsL])
    have t3 := of_decide_eq_true (t 3 (by simp [fieldsL]))
    have e3 := u64_self w2 (show u64 token ≤ 65535 by have := t3.2; simp only [numF] at this; omega)
    subst z0 z1 z2
    simp [fieldsL, putAll, putC, kindC, numF, e3]
theorem eq_list {c : Cmd} (hw : c.wf) (h : chkC c = true) (hk : c.kind = 2) : ({ kindC 2 with nodes := c.nodes } : Cmd) = c := by
  obtain ⟨w0, w1, w2, w3, w4, w5, w6⟩ := hw
  have z := fun (f : Nat) (h7 : f < 7) => zero_of h h7
  obtain ⟨kind, node, token, nodes, boot, seq, serial, stamp⟩ := c
  simp only [] at hk w0 w1 w2
  subst hk
  have z0 := u64_zero w1 (z 0 (by omega) (by simp [fieldsL]))
  have z1 : boot = 0 := z 1 (by omega) (by simp [fieldsL])
  have z2 : seq = 0 := z 2 (by omega) (by simp [fieldsL])
  have z3 := u64_zero w2 (z 3 (by omega) (by simp [fieldsL]))
  have z4 : serial = 0 := z 4 (by omega) (by simp [fieldsL])
  have z5 : stamp = 0 := z 5 (by omega) (by simp [fieldsL])
  subst z0 z1 z2 z3 z4 z5
  rfl
theorem encN_none {c : Cmd} (h : chkC c = true) (hk : c.kind ≠ 2) : encN c.nodes = [] := by
  have := zero_of h (f := 6) (by omega) (six_mem (chk_parts h).1 hk).1
  rw [List.eq_nil_of_length_eq_zero (by simpa [numF] using this : c.nodes.length = 0)]; rfl
theorem dec_enc {c : Cmd} (hw : c.wf) (h : chkC c = true) (rest : List Int) : decL (encL c ++ rest) = (c, (encL c).length, 0) := by
  obtain ⟨hk, h7, hn⟩ := chk_parts h
  have hb := numF_bd hw (by omega)
  have h0 : (encL c ++ rest).drop 0 = numI c.kind ++ (encF c (fieldsL c.kind) ++ (encN c.nodes ++ rest)) := by simp [encL, List.append_assoc]
  have h1 := nx_num (m := 18446744073709551615) h0 (by omega) (by omega) (by omega)
  rw [Nat.zero_add] at h1
  refine dec_yes h1.1 (decide_eq_true hk) ?_ h
  unfold rdC
  by_cases h2 : c.kind = 2
  · have hf : fieldsL c.kind = [6] := by rw [h2]; rfl
    have he : encF c [6] = numI (c.nodes.length : Int) := by rw [encF_cons]; simp [encF, numF]
    have h3 := h1.2
    rw [hf, he] at h3
    have h4 := li_enc h3 h7 (fun n hn' => by have := hn n hn'; omega)
    have h5 : rd1 (encL c ++ rest) (kindC c.kind) (6 : Int).toNat (numI c.kind).length = (c, 0, (encL c).length) := by
      show rd1 _ _ 6 _ = _
      rw [rd1_six, h4, h2, eq_list hw h h2]
      unfold encL
      rw [hf, he, h2, List.length_append, List.length_append]
    rw [hf, rdF_ok (by rw [h5]; rfl), h5]
    rfl
  · have h3 := rdF_enc hb (fieldsL c.kind) (kindC c.kind) _ (fun f hf => ⟨((six_mem hk h2).2 f hf).1, ((six_mem hk h2).2 f hf).2, fits_of h hf⟩) h1.2
    rw [h3.1, putAll_eq hw h h2]
    unfold encL
    rw [encN_none h h2, List.append_nil, List.length_append]
end Cm
end Go.Proofs.YtlfaiemebfkajaaGreatDoor
namespace Go.Proofs.YtlfaiemebfkajaaGreatDoor
open Go.ChangeShapes Go.WideShapes Go.ChangeAt Go.RowKit
set_option linter.unusedVariables false
set_option maxRecDepth 100000
namespace Cm

theorem encL_len {c : Cmd} (hw : c.wf) (h : chkC c = true) : (encL c).length ≤ 120 ∧ ∀ x ∈ encL c, (Lit.int .u8 x).wf = true := by
  obtain ⟨hk, h7, hn⟩ := chk_parts h
  have h1 := numI_len (n := c.kind) (by omega) (by omega)
  have h2 := encF_len hw (by omega) (fieldsL c.kind)
  have h3 := encN_len c.nodes fun n hn' => by have := hn n hn'; omega
  have h4 := (fieldsL_bd c.kind).1
  unfold encL
  refine ⟨?_, wf_app (wf_app (numI_wf (by omega) (by omega)) h2.2) h3.2⟩
  rw [List.length_append, List.length_append]
  omega

/-! ### what was cut is short -/
theorem rdF_app {zs rest : List Int} {c : Cmd} (hb : ∀ f, 0 ≤ numF c f ∧ numF c f ≤ 18446744073709551615) (gs : List Int) : ∀ (fs : List Int) (d : Cmd) (u : Nat), (∀ f ∈ fs, 0 ≤ f ∧ f ≤ 5 ∧ fitsF c f.toNat = true) → zs.drop u = encF c fs ++ rest →
    ∃ d2, rdF zs (fs ++ gs) d u = rdF zs gs d2 (u + (encF c fs).length) ∧ zs.drop (u + (encF c fs).length) = rest
  | [], d, u, _, h => ⟨d, rfl, by simpa [encF] using h⟩
  | f :: fs, d, u, hf, h => by
    obtain ⟨f0, f5, fok⟩ := hf f (by simp)
    rw [encF_cons, List.append_assoc] at h
    have h1 := nx_num (m := mostF f.toNat) h (hb _).1 (hb _).2 (mostF_bd (by omega) fok (hb _))
    have h2 : rd1 zs d f.toNat u = (putC d f.toNat (numF c f.toNat), 0, u + (numI (numF c f.toNat)).length) := by rw [rd1_num (by omega), h1.1]
    have ih := rdF_app hb gs fs (putC d f.toNat (numF c f.toNat)) _ (fun g hg => hf g (by simp [hg])) h1.2
    rw [List.cons_append, rdF_ok (by rw [h2]; rfl), h2, encF_cons, List.length_append, ← Nat.add_assoc]
    exact ih
theorem numI_pos (n : Int) : 1 ≤ (numI n).length := by
  have := Oc.numL_length n.toNat
  unfold numI; omega
def cutI (n : Int) : List Int := (numI n).take ((numI n).length - 1)
theorem take_cut (A : List Int) (n : Int) : (A ++ numI n).take ((A ++ numI n).length - 1) = A ++ cutI n := by
  have := numI_pos n
  rw [List.length_append, show A.length + (numI n).length - 1 = A.length + ((numI n).length - 1) by omega, List.take_length_add_append]
  rfl
theorem nx_cut {zs : List Int} {u : Nat} {n m : Int} (h : zs.drop u = cutI n) (h0 : 0 ≤ n) (h1 : n ≤ 18446744073709551615) : nx zs u m = (0, 10, u) := by
  refine nx_err (n := 0) (k := 0) ?_ rfl
  have hl := Oc.numL_length n.toNat
  rw [h]
  unfold cutI numI
  rw [hl, Nat.add_sub_cancel]
  exact Oc.rd_cut n.toNat (by omega)
theorem split_last {l : List Int} (h : l ≠ []) : ∃ a x, l = a ++ [x] := ⟨l.dropLast, l.getLast h, (List.dropLast_concat_getLast h).symm⟩
theorem dec_cut {c : Cmd} (hw : c.wf) (h : chkC c = true) : decL ((encL c).take ((encL c).length - 1)) = (zeroC, 0, 10) := by
  obtain ⟨hk, h7, hn⟩ := chk_parts h
  have hb := numF_bd hw (by omega)
  by_cases h2 : c.kind = 2
  · have hf : fieldsL c.kind = [6] := by rw [h2]; rfl
    have he : encF c [6] = numI (c.nodes.length : Int) := by rw [encF_cons]; simp [encF, numF]
    have h6 := fits_of h (f := 6) (by rw [hf]; simp)
    have hnz : c.nodes ≠ [] := by
      intro e
      have : Nd.chk c.nodes = true := h6
      rw [e] at this; cases this
    obtain ⟨l, x, hx⟩ := split_last hnz
    have hE : encL c = (numI c.kind ++ (numI (c.nodes.length : Int) ++ encN l)) ++ numI x := by
      unfold encL
      rw [hf, he, hx, encN_snoc]
      simp only [List.append_assoc]
    rw [hE, take_cut]
    have hxb := hn x (by rw [hx]; simp)
    have hlb : ∀ n ∈ l, 0 ≤ n ∧ n ≤ 65535 := fun n hn' => by have := hn n (by rw [hx]; simp [hn']); omega
    have h0 : (numI c.kind ++ (numI (c.nodes.length : Int) ++ encN l) ++ cutI x).drop 0 = numI c.kind ++ (numI (c.nodes.length : Int) ++ (encN l ++ cutI x)) := by simp [List.append_assoc]
    have h1 := nx_num (m := 18446744073709551615) h0 (by omega) (by omega) (by omega)
    rw [Nat.zero_add] at h1
    have h3 := nx_num (m := 7) h1.2 (by omega) (by omega) (by omega)
    have h4 := st_enc h3.2 hlb l.length (Nat.le_refl _)
    rw [List.take_length, List.drop_length] at h4
    have h5 := nx_cut (m := 65535) (n := x) (by have h9 := h4.2; rw [show encN [] = [] from rfl, List.nil_append] at h9; exact h9) (by omega) (by omega)
    have hlen : c.nodes.length = l.length + 1 := by rw [hx]; simp
    refine dec_read h1.1 (decide_eq_true hk) (er := 10) ?_ rfl
    unfold rdC
    generalize numI c.kind ++ (numI (c.nodes.length : Int) ++ encN l) ++ cutI x = zs at *
    have hli : (li zs (numI c.kind).length).2.1 = 10 := by
      unfold li
      rw [h3.1]
      simp only [beq_self_eq_true, if_true, Int.toNat_natCast]
      rw [hlen]
      show (if ((st zs _ l.length).2.1 == 0) = true then _ else _ : List Int × Int × Nat).2.1 = 10
      rw [← hlen, h4.1]
      simp only [beq_self_eq_true, if_true]
      rw [h5]
    have h8 : (rd1 zs (kindC c.kind) (6 : Int).toNat (numI c.kind).length).2.1 = 10 := by
      show (rd1 _ _ 6 _).2.1 = 10
      rw [rd1_six]; exact hli
    rw [hf, rdF_no (by rw [h8]; rfl), h8]
  · have hN := encN_none h h2
    by_cases hfs : fieldsL c.kind = []
    · have hE : encL c = [] ++ numI c.kind := by unfold encL; rw [hN, hfs]; simp [encF]
      rw [hE, take_cut]
      have h1 := nx_cut (zs := [] ++ cutI c.kind) (u := 0) (n := c.kind) (m := 18446744073709551615) (by simp) (by omega) (by omega)
      rw [dec_err (by rw [h1]; rfl), h1]
    · obtain ⟨fs, f, hff⟩ := split_last hfs
      have hE : encL c = (numI c.kind ++ encF c fs) ++ numI (numF c f.toNat) := by
        unfold encL
        rw [hN, hff, encF_snoc, List.append_nil, List.append_assoc]
      rw [hE, take_cut]
      have h0 : (numI c.kind ++ encF c fs ++ cutI (numF c f.toNat)).drop 0 = numI c.kind ++ (encF c fs ++ cutI (numF c f.toNat)) := by simp [List.append_assoc]
      have h1 := nx_num (m := 18446744073709551615) h0 (by omega) (by omega) (by omega)
      rw [Nat.zero_add] at h1
      have hmem : ∀ g ∈ fieldsL c.kind, 0 ≤ g ∧ g ≤ 5 ∧ fitsF c g.toNat = true := fun g hg => ⟨((six_mem hk h2).2 g hg).1, ((six_mem hk h2).2 g hg).2, fits_of h hg⟩
      obtain ⟨d2, h3, h4⟩ := rdF_app hb [f] fs (kindC c.kind) _ (fun g hg => hmem g (by rw [hff]; simp [hg])) h1.2
      have hf5 := hmem f (by rw [hff]; simp)
      have h5 := nx_cut (m := mostF f.toNat) h4 (hb _).1 (hb _).2
      refine dec_read h1.1 (decide_eq_true hk) (er := 10) ?_ rfl
      unfold rdC
      have h6 : rd1 (numI c.kind ++ encF c fs ++ cutI (numF c f.toNat)) d2 f.toNat ((numI c.kind).length + (encF c fs).length) = (putC d2 f.toNat 0, 10, (numI c.kind).length + (encF c fs).length) := by rw [rd1_num (by omega), h5]
      rw [hff, h3, rdF_no (by rw [h6]; rfl), h6]

/-! ### what is read is written so -/
theorem nx_back {zs : List Int} (hw : ∀ n ∈ zs, (Lit.int .u8 n).wf = true) {u u' : Nat} {n m : Int} (hu : u ≤ zs.length) (h : nx zs u m = (n, 0, u')) (hm : 0 ≤ m) :
    0 ≤ n ∧ n ≤ m ∧ n ≤ 18446744073709551615 ∧ u' ≤ zs.length ∧ zs.drop u = numI n ++ zs.drop u' := by
  rcases hr : Oc.rdL (zs.drop u) with ⟨k, j, e⟩
  rcases Oc.rd_err hr with he | he
  · subst he
    by_cases hkm : m < (k : Int)
    · rw [nx_form hr hkm] at h
      simp only [Prod.mk.injEq] at h
      omega
    · rw [nx_ok hr (by omega)] at h
      simp only [Prod.mk.injEq, true_and] at h
      obtain ⟨rfl, rfl⟩ := h
      obtain ⟨h1, h2, h3, h4⟩ := Oc.rd_back (fun x hx => hw x (List.mem_of_mem_drop hx)) hr
      rw [List.length_drop] at h2
      refine ⟨by omega, by omega, by omega, by omega, ?_⟩
      show zs.drop u = Oc.numL ((k : Int).toNat) ++ _
      rw [Int.toNat_natCast, h4, ← List.drop_drop, List.take_append_drop]
  · rw [nx_err hr he] at h
    simp only [Prod.mk.injEq] at h
    rw [h.2.1] at he
    cases he
theorem numF_put {c : Cmd} {f : Nat} {n : Int} (hf : f ≤ 5) (h0 : 0 ≤ n) : numF (putC c f n) f = n := by
  rcases (show f = 0 ∨ f = 1 ∨ f = 2 ∨ f = 3 ∨ f = 4 ∨ f = 5 by omega) with rfl | rfl | rfl | rfl | rfl | rfl
  · exact u64_pos h0
  · rfl
  · rfl
  · exact u64_pos h0
  · rfl
  · rfl
theorem numF_other {c : Cmd} {f g : Nat} {n : Int} (hf : f ≤ 5) (hg : g ≤ 5) (hne : g ≠ f) : numF (putC c f n) g = numF c g := by
  rcases (show f = 0 ∨ f = 1 ∨ f = 2 ∨ f = 3 ∨ f = 4 ∨ f = 5 by omega) with rfl | rfl | rfl | rfl | rfl | rfl <;>
  rcases (show g = 0 ∨ g = 1 ∨ g = 2 ∨ g = 3 ∨ g = 4 ∨ g = 5 by omega) with rfl | rfl | rfl | rfl | rfl | rfl <;> first | exact absurd rfl hne | rfl
theorem putC_kind (c : Cmd) {f : Nat} (n : Int) (hf : f ≤ 5) : (putC c f n).kind = c.kind := by
  rcases (show f = 0 ∨ f = 1 ∨ f = 2 ∨ f = 3 ∨ f = 4 ∨ f = 5 by omega) with rfl | rfl | rfl | rfl | rfl | rfl <;> rfl
theorem rdF_back {zs : List Int} (hw : ∀ n ∈ zs, (Lit.int .u8 n).wf = true) {c : Cmd} {u' : Nat} : ∀ (fs : List Int) (d : Cmd) (u : Nat), (∀ f ∈ fs, 0 ≤ f ∧ f ≤ 5) → fs.Nodup → u ≤ zs.length → rdF zs fs d u = (c, 0, u') →
    u' ≤ zs.length ∧ zs.drop u = encF c fs ++ zs.drop u' ∧ c.kind = d.kind ∧ c.nodes = d.nodes ∧ ∀ g : Nat, g ≤ 5 → (g : Int) ∉ fs → numF c g = numF d g
  | [], d, u, _, _, hu, h => by
    have h' : (d, (0 : Int), u) = (c, 0, u') := h
    simp only [Prod.mk.injEq, true_and] at h'
    obtain ⟨rfl, rfl⟩ := h'
    exact ⟨hu, rfl, rfl, rfl, fun _ _ _ => rfl⟩
  | f :: fs, d, u, hf, hnd, hu, h => by
    obtain ⟨f0, f5⟩ := hf f (by simp)
    obtain ⟨hn1, hn2⟩ := List.nodup_cons.1 hnd
    rcases hx : nx zs u (mostF f.toNat) with ⟨n, e, u1⟩
    have h2 : rd1 zs d f.toNat u = (putC d f.toNat n, e, u1) := by rw [rd1_num (by omega), hx]
    by_cases he : (e == 0) = true
    · have he0 : e = 0 := by simpa using he
      subst he0
      rw [rdF_ok (by rw [h2]; rfl), h2] at h
      have hb := nx_back hw hu hx (by unfold mostF; split <;> omega)
      obtain ⟨i1, i2, i3, i4, i5⟩ := rdF_back hw fs _ u1 (fun g hg => hf g (by simp [hg])) hn2 hb.2.2.2.1 h
      have hfn : numF c f.toNat = n := by
        rw [i5 f.toNat (by omega) (by rw [show ((f.toNat : Nat) : Int) = f by omega]; exact hn1)]
        exact numF_put (by omega) hb.1
      refine ⟨i1, ?_, i3.trans (putC_kind _ _ (by omega)), i4.trans (putC_nodes _ _ (by omega)), fun g hg hgn => ?_⟩
      · rw [encF_cons, hfn, List.append_assoc, ← i2]; exact hb.2.2.2.2
      · rw [List.mem_cons, not_or] at hgn
        rw [i5 g hg hgn.2]
        exact numF_other (by omega) hg (by omega)
    · have he' : (e == 0) = false := by simpa using he
      rw [rdF_no (by rw [h2]; exact he'), h2] at h
      simp only [Prod.mk.injEq] at h
      rw [h.2.1] at he'
      cases he'
theorem st_back {zs : List Int} (hw : ∀ n ∈ zs, (Lit.int .u8 n).wf = true) {u : Nat} (hu : u ≤ zs.length) : ∀ k, (st zs u k).2.1 = 0 →
    (st zs u k).2.2 ≤ zs.length ∧ (st zs u k).1.length = k ∧ zs.drop u = encN (st zs u k).1 ++ zs.drop (st zs u k).2.2
  | 0, _ => ⟨hu, rfl, rfl⟩
  | k + 1, h => by
    cases hs : ((st zs u k).2.1 == 0) with
    | false =>
      have h' : st zs u (k + 1) = st zs u k := st_stop hs 1
      rw [h'] at h
      rw [h] at hs; cases hs
    | true =>
      obtain ⟨i1, i2, i3⟩ := st_back hw hu k (by simpa using hs)
      have h' : st zs u (k + 1) = ((st zs u k).1 ++ [(nx zs (st zs u k).2.2 65535).1], (nx zs (st zs u k).2.2 65535).2.1, (nx zs (st zs u k).2.2 65535).2.2) := by
        show (if ((st zs u k).2.1 == 0) = true then _ else _) = _
        rw [hs]; rfl
      rw [h'] at h ⊢
      rcases hx : nx zs (st zs u k).2.2 65535 with ⟨n, e, u1⟩
      rw [hx] at h
      have he : e = 0 := h
      subst he
      have hb := nx_back hw i1 hx (by omega)
      refine ⟨hb.2.2.2.1, by simp [i2], ?_⟩
      rw [i3, hb.2.2.2.2, encN_snoc, List.append_assoc]
theorem li_back {zs : List Int} (hw : ∀ n ∈ zs, (Lit.int .u8 n).wf = true) {u : Nat} (hu : u ≤ zs.length) (h : (li zs u).2.1 = 0) :
    (li zs u).2.2 ≤ zs.length ∧ zs.drop u = numI ((li zs u).1.length : Int) ++ (encN (li zs u).1 ++ zs.drop (li zs u).2.2) := by
  rcases hx : nx zs u 7 with ⟨n, e, u1⟩
  by_cases he : (e == 0) = true
  · have he0 : e = 0 := by simpa using he
    subst he0
    have hb := nx_back hw hu hx (by omega)
    have hli : li zs u = st zs u1 n.toNat := by unfold li; rw [hx]; rfl
    rw [hli] at h ⊢
    obtain ⟨i1, i2, i3⟩ := st_back hw hb.2.2.2.1 n.toNat h
    refine ⟨i1, ?_⟩
    rw [i2, show ((n.toNat : Nat) : Int) = n by omega, ← i3]
    exact hb.2.2.2.2
  · have he' : (e == 0) = false := by simpa using he
    have hli : li zs u = ([], e, u1) := by unfold li; rw [hx]; simp only [he', Bool.false_eq_true, if_false]
    rw [hli] at h
    have : e = 0 := h
    subst this
    cases he'
theorem fieldsL_nodup (k : Int) : (fieldsL k).Nodup := by
  unfold fieldsL
  repeat' split
  all_goals decide
theorem dec_back {zs : List Int} (hw : ∀ n ∈ zs, (Lit.int .u8 n).wf = true) {c : Cmd} {k : Nat} (h : decL zs = (c, k, 0)) : chkC c = true ∧ k ≤ zs.length ∧ encL c = zs.take k := by
  rcases hx : nx zs 0 18446744073709551615 with ⟨n, e, u⟩
  cases he : (e == 0) with
  | false =>
    rw [dec_err (by rw [hx]; exact he), hx] at h
    simp only [Prod.mk.injEq] at h
    rw [h.2.2] at he; cases he
  | true =>
    have he0 : e = 0 := by simpa using he
    subst he0
    cases hk : kindB n with
    | false =>
      rw [dec_form (by rw [hx]; rfl) (by rw [hx]; exact hk)] at h
      simp only [Prod.mk.injEq] at h
      omega
    | true =>
      have hb := nx_back hw (Nat.zero_le _) hx (by omega)
      rw [List.drop_zero] at hb
      have hk6 : 1 ≤ n ∧ n ≤ 6 := of_decide_eq_true hk
      rcases hr : rdC zs n u with ⟨d, er, u2⟩
      cases her : (er == 0) with
      | false =>
        rw [dec_read hx hk (by rw [hr]) her] at h
        simp only [Prod.mk.injEq] at h
        rw [h.2.2] at her; cases her
      | true =>
        have her0 : er = 0 := by simpa using her
        subst her0
        cases hc : chkC d with
        | false =>
          rw [dec_cmd hx hk hr hc] at h
          simp only [Prod.mk.injEq] at h
          omega
        | true =>
          rw [dec_yes hx hk hr hc] at h
          simp only [Prod.mk.injEq, and_true] at h
          obtain ⟨rfl, rfl⟩ := h
          refine ⟨hc, ?_⟩
          have fin : u2 ≤ zs.length → zs = encL d ++ zs.drop u2 → u2 ≤ zs.length ∧ encL d = zs.take u2 := fun hl hz => by
            refine ⟨hl, ?_⟩
            have h1 : (encL d ++ zs.drop u2).length = zs.length := by rw [← hz]
            rw [List.length_append, List.length_drop] at h1
            have h2 : (encL d).length = u2 := by omega
            have h3 := List.take_left (l₁ := encL d) (l₂ := zs.drop u2)
            rw [← hz, h2] at h3
            exact h3.symm
          by_cases h2 : n = 2
          · subst h2
            have hfl : fieldsL 2 = [6] := rfl
            unfold rdC at hr
            rw [hfl] at hr
            have h1 : rd1 zs (kindC 2) (6 : Int).toNat u = ({ kindC 2 with nodes := (li zs u).1 }, (li zs u).2.1, (li zs u).2.2) := rd1_six
            cases hl : ((li zs u).2.1 == 0) with
            | false =>
              rw [rdF_no (by rw [h1]; exact hl), h1] at hr
              simp only [Prod.mk.injEq] at hr
              rw [hr.2.1] at hl; cases hl
            | true =>
              rw [rdF_ok (by rw [h1]; exact hl), h1] at hr
              have hr' : (({ kindC 2 with nodes := (li zs u).1 } : Cmd), (0 : Int), (li zs u).2.2) = (d, 0, u2) := hr
              simp only [Prod.mk.injEq, true_and] at hr'
              obtain ⟨hd, hu2⟩ := hr'
              have hlb := li_back hw hb.2.2.2.1 (by simpa using hl)
              rw [hu2] at hlb
              have hdn : d.nodes = (li zs u).1 := by rw [← hd]
              have hdk : d.kind = 2 := by rw [← hd]; rfl
              refine fin hlb.1 ?_
              unfold encL
              rw [hdk, hfl, encF_cons, show numF d (6 : Int).toNat = (d.nodes.length : Int) from rfl, hdn, show encF d [] = [] from rfl, List.append_nil, List.append_assoc, List.append_assoc, ← hlb.2]
              exact hb.2.2.2.2
          · have hs := six_mem hk6 h2
            have hbk := rdF_back hw (fieldsL n) (kindC n) u hs.2 (fieldsL_nodup n) hb.2.2.2.1 hr
            have hdk : d.kind = n := hbk.2.2.1
            have hdn : d.nodes = [] := hbk.2.2.2.1
            refine fin hbk.1 ?_
            unfold encL
            rw [hdk, hdn, show encN [] = [] from rfl, List.append_nil, List.append_assoc, ← hbk.2.1]
            exact hb.2.2.2.2
end Cm
end Go.Proofs.YtlfaiemebfkajaaGreatDoor
