/- Numbers written one behind the other, and read: both packages of octets. No condition. -/
import Derived.Test.YtlfaiemebfkajaaGreatDoorOctR
import Derived.Test.YtlfaiemebfkajaaGreatDoorBse
import Derived.Test.YtlfaiemebfkajaaGreatDoorApp
import Derived.Deep.QuietTactic
import Derived.BigQuiet
namespace Go.Proofs.YtlfaiemebfkajaaGreatDoor
open Go.ChangeShapes Go.WideShapes Go.ChangeAt Go.RowKit
set_option linter.unusedVariables false
set_option maxRecDepth 100000

/-- v's elements lie elsewhere than b -/
def Far (w : World) (b v : Value) (zs : List Int) : Prop := zs = [] ∨ ∃ g, v.ownBlock = some g ∧ g < w.heap.size ∧ b.ownBlock ≠ some g
theorem Far.below {w w' : World} {b v : Value} {zs : List Int} {B : Nat} (h : Far w b v zs) (hb : Below B w w') : Far w' b v zs := by
  rcases h with h | ⟨g, h1, h2, h3⟩
  · exact .inl h
  · exact .inr ⟨g, h1, Nat.lt_of_lt_of_le h2 hb.size, h3⟩
theorem Far.step {w w' : World} {b b' v : Value} {zs : List Int} {r : Option Nat} (h : Far w b v zs) (hg : w.grownBy w' r) (hl : Lies w b b') : Far w' b' v zs := by
  rcases h with h | ⟨g, h1, h2, h3⟩
  · exact .inl h
  · refine .inr ⟨g, h1, Nat.lt_of_lt_of_le h2 hg.size, ?_⟩
    rcases hl with hl | hl
    · rw [hl]; exact h3
    · intro h4
      have := hl g h4
      omega
theorem Sl.far {k : IntKind} {w w' : World} {b v : Value} {zs : List Int} (h : Sl k w v zs) (hf : Far w b v zs) (hg : w.grownBy w' b.ownBlock) : Sl k w' v zs := by
  obtain ⟨a, cap, rfl, h1, h2, h3, h4⟩ := h
  refine ⟨a, cap, rfl, h1, h2, h3, ?_⟩
  rcases h4 with h4 | ⟨g, off, sp, rfl, h5⟩
  · exact .inl h4
  · refine .inr ⟨g, off, sp, rfl, ?_⟩
    rcases h5 with h5 | ⟨hs, hlt, hc⟩
    · exact .inl h5
    · rcases hf with hf | ⟨q, e, _, hne⟩
      · exact .inl hf
      · simp only [Value.ownBlock, Option.some.injEq] at e
        subst e
        exact .inr ⟨hs, Nat.lt_of_lt_of_le hlt hg.size, fun i hi => hg.cell (hc i hi) (fun e => hne e.symm)⟩
theorem Far.new {k : IntKind} {e : TypeId} {w w' : World} {b v : Value} {xs zs : List Int} {B N : Nat} (hb : Own w B b xs) (hN : w.heap.size ≤ N) (hv : OwnK k e w' N v zs) : Far w' b v zs := by
  rcases hv.2 with ⟨_, h0⟩ | ⟨g, cap, cur, rfl, hg, hh, _⟩
  · exact .inl (List.eq_nil_of_length_eq_zero h0)
  · refine .inr ⟨g, rfl, (Array.getElem?_eq_some_iff.1 hh).1, ?_⟩
    intro h
    have := (World.ownsRow.lt hb g h).2
    omega
/-- only the blocks of S change -/
def Only (S : Nat → Prop) (w w' : World) : Prop := w'.os = w.os ∧ w'.tape = w.tape ∧ w'.output = w.output ∧ w.heap.size ≤ w'.heap.size ∧ ∀ k, k < w.heap.size → ¬ S k → w'.heap[k]? = w.heap[k]?
theorem Only.refl (S : Nat → Prop) (w : World) : Only S w w := ⟨rfl, rfl, rfl, Nat.le_refl _, fun _ _ _ => rfl⟩
theorem Only.trans {S : Nat → Prop} {a b c : World} (h : Only S a b) (k : Only S b c) : Only S a c :=
  ⟨k.1.trans h.1, k.2.1.trans h.2.1, k.2.2.1.trans h.2.2.1, Nat.le_trans h.2.2.2.1 k.2.2.2.1, fun i hi hs => (k.2.2.2.2 i (Nat.lt_of_lt_of_le hi h.2.2.2.1) hs).trans (h.2.2.2.2 i hi hs)⟩
theorem Only.mono {S T : Nat → Prop} {a b : World} (h : Only S a b) (hs : ∀ k, S k → T k) : Only T a b :=
  ⟨h.1, h.2.1, h.2.2.1, h.2.2.2.1, fun i hi ht => h.2.2.2.2 i hi fun hk => ht (hs i hk)⟩
theorem Below.only {w w' : World} (h : Below w.heap.size w w') (S : Nat → Prop) : Only S w w' := ⟨h.os, h.tape, h.output, h.size, fun k hk _ => h.block k hk⟩
theorem Only.below {S : Nat → Prop} {B : Nat} {a w w' : World} (h : Only S w w') (hb : Below B a w) (hB : B ≤ w.heap.size) (hs : ∀ k, S k → B ≤ k) : Below B a w' :=
  ⟨h.1.trans hb.os, h.2.1.trans hb.tape, h.2.2.1.trans hb.output, Nat.le_trans hb.size h.2.2.2.1, fun k hk => (h.2.2.2.2 k (Nat.lt_of_lt_of_le hk hB) fun hS => Nat.lt_irrefl _ (Nat.lt_of_lt_of_le hk (hs k hS))).trans (hb.block k hk)⟩
theorem Only.setCell {S : Nat → Prop} (w : World) (p : Addr) (u : Value) (hs : S p.block) : Only S w (w.setCell p u) :=
  ⟨rfl, rfl, rfl, by simp, fun k hk hn => Below.heap_setCell w p u k fun e => hn (e ▸ hs)⟩
theorem Only.alloc (S : Nat → Prop) (w : World) (o : Obj) : Only S w (w.alloc o) := Below.only ((Below.refl _ _).alloc (Nat.le_refl _) _) S

namespace Nm
theorem quiet_mine {P : Program} {f : FuncId} {args : Array Value} {w : World} {n : Nat} {v : Value}
    (h : Calls P f args (w.drewN n) fun e w' => e = .returned v ∧ w.drewN n = w') : Calls P f args (w.drewN n) fun e w'' => e = .returned v ∧ ∃ m, w'' = w.drewN m :=
  h.mono fun _ _ ⟨he, hm⟩ => ⟨he, n, hm.symm⟩
theorem sl_nil (k : IntKind) (w : World) : Sl k w (.slice none 0 0) [] := ⟨none, 0, rfl, Nat.le_refl _, Nat.zero_le _, by simp, .inl ⟨rfl, rfl, rfl⟩⟩
end Nm
namespace Cm
def numI (n : Int) : List Int := Oc.numL n.toNat
def encN (l : List Int) : List Int := l.flatMap numI
theorem encN_snoc (l : List Int) (n : Int) : encN (l ++ [n]) = encN l ++ numI n := by simp [encN]
theorem numI_len {n : Int} (h0 : 0 ≤ n) (h1 : n ≤ 18446744073709551615) : (numI n).length ≤ 9 := by
  unfold numI
  have := Oc.bw_le8 (n := n.toNat) (by omega)
  rw [Oc.numL_length]; omega
theorem numI_wf {n : Int} (h0 : 0 ≤ n) (h1 : n ≤ 18446744073709551615) : ∀ x ∈ numI n, (Lit.int .u8 x).wf = true := Oc.numL_wf (by omega)
theorem encN_len : ∀ l : List Int, (∀ n ∈ l, 0 ≤ n ∧ n ≤ 18446744073709551615) → (encN l).length ≤ 9 * l.length ∧ ∀ x ∈ encN l, (Lit.int .u8 x).wf = true
  | [], _ => ⟨Nat.zero_le _, by simp [encN]⟩
  | n :: l, h => by
    have ih := encN_len l fun m hm => h m (by simp [hm])
    have hb := h n (by simp)
    have e : encN (n :: l) = numI n ++ encN l := rfl
    rw [e]
    refine ⟨?_, wf_app (numI_wf hb.1 hb.2) ih.2⟩
    have := numI_len hb.1 hb.2
    rw [List.length_append, List.length_cons]; omega
theorem okFrom_nodes : ∀ (l : List Int) (last : Int), Nd.okFrom last l = true → ∀ n ∈ l, 1 ≤ n ∧ n ≤ 7
  | [], _, _, n, hn => by simp at hn
  | m :: l, last, h, n, hn => by
    simp only [Nd.okFrom, Bool.and_eq_true, decide_eq_true_eq] at h
    rcases List.mem_cons.1 hn with rfl | hn
    · exact ⟨h.1.1, h.1.2.1⟩
    · exact okFrom_nodes l m h.2 n hn
theorem okFrom_len : ∀ (l : List Int) (last : Int), Nd.okFrom last l = true → 0 ≤ last → last ≤ 7 → (l.length : Int) ≤ 7 - last
  | [], _, _, _, h => by simp; omega
  | m :: l, last, h, h0, h1 => by
    simp only [Nd.okFrom, Bool.and_eq_true, decide_eq_true_eq] at h
    have := okFrom_len l m h.2 (by omega) (by omega)
    simp only [List.length_cons]; omega
theorem Sl.at {k : IntKind} {w : World} {a : Option Addr} {n cap : Nat} {zs : List Int} (h : Sl k w (.slice a n cap) zs) {i : Nat} (hi : i < zs.length) :
    ∃ b off, a = some ⟨b, off, none⟩ ∧ n = zs.length ∧ w.cell? ⟨b, off + i, none⟩ = some (.int k (zs.getD i 0)) := by
  rcases Nd.Sl.cases h with ⟨a, cap, e, rfl⟩ | ⟨b, off, cap, e, h0, hlc, hcm, hlt, hc⟩
  · simp at hi
  · cases e
    exact ⟨b, off, rfl, rfl, hc i hi⟩
/-- a number's bytes, the number an integer of the walk's -/
theorem num_int (n : Int) (w : World) (h0 : 0 ≤ n) (h1 : n ≤ 18446744073709551615) :
    Calls Tryz.prog 81 #[.int .u64 n] w (Oc.Made w.heap.size (numI n) w) := by
  have := Oc.num_made n.toNat (by omega) w
  rw [show ((n.toNat : Nat) : Int) = n by omega] at this
  exact this
/-- bytes of the call's own, longer -/
def Longer (B : Nat) (zs : List Int) (w : World) (e : Ending) (w' : World) : Prop := ∃ v, e = .returned v ∧ Own w' B v zs ∧ Below B w w'
/-- reading a number of at most m, u bytes being read: the number, the error, how many bytes are read then -/
def nx (zs : List Int) (u : Nat) (m : Int) : Int × Int × Nat :=
  if ((Oc.rdL (zs.drop u)).2.2 == 0) = false then (0, (Oc.rdL (zs.drop u)).2.2, u)
  else if m < ((Oc.rdL (zs.drop u)).1 : Int) then (0, 11, u) else ((Oc.rdL (zs.drop u)).1, 0, u + (Oc.rdL (zs.drop u)).2.1)
theorem nx_err {zs : List Int} {u n k : Nat} {e m : Int} (h : Oc.rdL (zs.drop u) = (n, k, e)) (he : (e == 0) = false) : nx zs u m = (0, e, u) := by
  unfold nx; rw [h, if_pos he]
theorem nx_form {zs : List Int} {u n k : Nat} {m : Int} (h : Oc.rdL (zs.drop u) = (n, k, 0)) (hm : m < (n : Int)) : nx zs u m = (0, 11, u) := by
  unfold nx; rw [h, if_neg (by simp), if_pos hm]
theorem nx_ok {zs : List Int} {u n k : Nat} {m : Int} (h : Oc.rdL (zs.drop u) = (n, k, 0)) (hm : (n : Int) ≤ m) : nx zs u m = ((n : Int), 0, u + k) := by
  unfold nx; rw [h, if_neg (by simp), if_neg (by show ¬ (m < (n : Int)); omega)]
theorem rd_len {zs : List Int} {n k : Nat} {e : Int} (h : Oc.rdL zs = (n, k, e)) : k ≤ zs.length := by
  unfold Oc.rdL at h
  split at h
  · simp only [Prod.mk.injEq] at h; omega
  · repeat' split at h
    all_goals simp only [Prod.mk.injEq, List.length_cons] at h ⊢; omega
theorem read_q {v : Value} {zs : List Int} {w : World} {n k : Nat} {e : Int} (hr : Oc.rdL zs = (n, k, e)) (hs : Sl .u8 w v zs) :
    Calls Tryz.prog 61 #[v] w fun E w' => E = .returned (.tuple #[.int .u64 n, .int .i64 k, .int .i64 e]) ∧ w = w' := by
  refine (Oc.read_any v zs w hs).mono ?_
  rintro E w' ⟨h1, h2⟩
  unfold Oc.rdEnd at h1
  rw [hr] at h1
  exact ⟨h1, h2⟩
theorem nx_bd {zs : List Int} {u : Nat} {m : Int} (hu : u ≤ zs.length) (h0 : 0 ≤ m) : (nx zs u m).2.2 ≤ zs.length ∧ 0 ≤ (nx zs u m).1 ∧ (nx zs u m).1 ≤ m := by
  rcases hr : Oc.rdL (zs.drop u) with ⟨n, k, e⟩
  have hk := rd_len hr
  rw [List.length_drop] at hk
  rcases Oc.rd_err hr with he | he
  · subst he
    by_cases hm : m < (n : Int)
    · rw [nx_form hr hm]; exact ⟨hu, Int.le_refl _, h0⟩
    · rw [nx_ok hr (by omega)]
      refine ⟨?_, ?_, ?_⟩
      · show u + k ≤ zs.length; omega
      · show (0 : Int) ≤ (n : Int); omega
      · show (n : Int) ≤ m; omega
  · rw [nx_err hr he]; exact ⟨hu, Int.le_refl _, h0⟩
theorem nx_zero {zs : List Int} {u : Nat} {m : Int} (h : ((nx zs u m).2.1 == 0) = false) : (nx zs u m).1 = 0 := by
  unfold nx at *
  split
  · rfl
  · split
    · rfl
    · rename_i h1 h2; rw [if_neg h1, if_neg h2] at h; simp at h
/-- below B, only the blocks of S change -/
def Past (B : Nat) (S : Nat → Prop) (w w' : World) : Prop := w'.os = w.os ∧ w'.tape = w.tape ∧ w'.output = w.output ∧ w.heap.size ≤ w'.heap.size ∧ ∀ k, k < B → ¬ S k → w'.heap[k]? = w.heap[k]?
theorem Past.trans {B : Nat} {S : Nat → Prop} {a b c : World} (h : Past B S a b) (k : Past B S b c) : Past B S a c :=
  ⟨k.1.trans h.1, k.2.1.trans h.2.1, k.2.2.1.trans h.2.2.1, Nat.le_trans h.2.2.2.1 k.2.2.2.1, fun i hi hs => (k.2.2.2.2 i hi hs).trans (h.2.2.2.2 i hi hs)⟩
theorem Past.only {S : Nat → Prop} {w w' : World} (h : Past w.heap.size S w w') : Only S w w' := h
theorem Past.below {B : Nat} {w w' : World} (h : Below B w w') (S : Nat → Prop) : Past B S w w' := ⟨h.os, h.tape, h.output, h.size, fun k hk _ => h.block k hk⟩
theorem Past.setCell {B : Nat} {S : Nat → Prop} (w : World) (p : Addr) (u : Value) (hs : S p.block) : Past B S w (w.setCell p u) :=
  ⟨rfl, rfl, rfl, by simp, fun k hk hn => Below.heap_setCell w p u k fun e => hn (e ▸ hs)⟩
theorem own_set {w : World} {B g i : Nat} {v u : Value} {zs : List Int} (hown : OwnI w B v zs) (hg : g < B) : OwnI (w.setCell ⟨g, i, none⟩ u) B v zs := by
  rcases hown.2 with h | ⟨k, cap, cur, e, hk, hh, hr⟩
  · exact ⟨hown.1, .inl h⟩
  · exact ⟨hown.1, .inr ⟨k, cap, cur, e, hk, (Below.heap_setCell w _ u k (by simp; omega)).trans hh, hr⟩⟩
theorem own_form {w : World} {B : Nat} {v : Value} {zs : List Int} (hown : OwnI w B v zs) : ∃ a n q, v = .slice a n q := by
  rcases hown.2 with ⟨h, _⟩ | ⟨k, cap, cur, e, _⟩
  · exact ⟨_, _, _, h⟩
  · exact ⟨_, _, _, e⟩
theorem Past.mono {B : Nat} {S T : Nat → Prop} {a b : World} (h : Past B S a b) (hs : ∀ k, S k → T k) : Past B T a b :=
  ⟨h.1, h.2.1, h.2.2.1, h.2.2.2.1, fun i hi ht => h.2.2.2.2 i hi fun hk => ht (hs i hk)⟩
theorem Past.of_only2 {B : Nat} {S T : Nat → Prop} {a b : World} (h : Only S a b) (hB : B ≤ a.heap.size) (hs : ∀ k, S k → T k) : Past B T a b :=
  ⟨h.1, h.2.1, h.2.2.1, h.2.2.2.1, fun i hi ht => h.2.2.2.2 i (Nat.lt_of_lt_of_le hi hB) fun hk => ht (hs i hk)⟩
theorem own_only {w w' : World} {B g : Nat} {v : Value} {zs : List Int} (hown : OwnI w B v zs) (h : Only (· = g) w w') (hg : g < B) : OwnI w' B v zs := by
  rcases hown.2 with h2 | ⟨k, cap, cur, e, hk, hh, hr⟩
  · exact ⟨hown.1, .inl h2⟩
  · exact ⟨hown.1, .inr ⟨k, cap, cur, e, hk, (h.2.2.2.2 k (Array.getElem?_eq_some_iff.1 hh).1 (by omega)).trans hh, hr⟩⟩
theorem Past.of_only {S : Nat → Prop} {w w' : World} (h : Only S w w') : Past w.heap.size S w w' := h
/-- what the call reads on from -/
theorem from_k {w : World} {a : Option Addr} {cap u : Nat} {zs : List Int} (hs : Sl .u8 w (.slice a zs.length cap) zs) (hu : u ≤ zs.length) :
    (a = none ∧ cap = 0 ∧ u = 0 ∧ zs = []) ∨ ∃ b off sp, a = some ⟨b, off, sp⟩ ∧ ((cap = u ∧ zs.length = u ∧ Sl .u8 w (.slice (some ⟨b, off, sp⟩) 0 0) (zs.drop u)) ∨ (cap ≠ u ∧ Sl .u8 w (.slice (some ((⟨b, off, sp⟩ : Addr).add u)) (zs.length - u) (cap - u)) (zs.drop u))) := by
  obtain ⟨a', cap', e, h1, h2, h3, h4⟩ := id hs
  simp only [Value.slice.injEq] at e
  obtain ⟨rfl, -, rfl⟩ := e
  rcases h4 with ⟨rfl, rfl, rfl⟩ | ⟨b, off, sp, rfl, -⟩
  · exact .inl ⟨rfl, rfl, by simpa using hu, rfl⟩
  · refine .inr ⟨b, off, sp, rfl, ?_⟩
    by_cases hc : cap = u
    · refine .inl ⟨hc, by omega, ?_⟩
      rw [List.drop_eq_nil_of_le (by omega)]
      exact Sl.empty _ (Nat.zero_le _)
    · refine .inr ⟨hc, ?_⟩
      have := hs.sub u (zs.length - u) (by omega)
      rwa [List.take_of_length_le (by rw [List.length_drop]; omega)] at this
end Cm
end Go.Proofs.YtlfaiemebfkajaaGreatDoor
