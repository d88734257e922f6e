/- A slice of integers that can be read: what it says, and how it stands while worlds grow. No condition. How arguments with parts are opened: sizes, fields, slices of integers within. No condition. A command read as an argument. No condition. Lists of nodes: what nodes.Check, nodes.Has and the document's own answers hand back. No condition. Appends to slices of ints that the call owns. No condition. Lists of nodes: the document's own Check, and whether two lists are the same. No condition. -/
import Derived.Test.YtgbblegcjladaaaRows
import Derived.WalkKit
import Derived.ProofKit
import Derived.OpenShut
import Derived.Outline
import Derived.Lib.Hide
import Derived.Lib.AppendStr
import Derived.WalkSpells
import Derived.Laws.AppendOwnNone
import Derived.SizedLaws
import Derived.ChangeOld
import Derived.Below
import Derived.JoinedCond
import Derived.ShutString
import Derived.Deep.Slices
import Derived.ChangeArms
import Derived.Laws.Tables
import Derived.Deep.QuietTactic
import Derived.BigQuiet
import Derived.WalkSmall
namespace Go.Proofs.Ytgbblegcjladaaa
open Go.ChangeShapes Go.WideShapes Go.ChangeAt Go.RowKit
set_option linter.unusedVariables false
set_option maxRecDepth 100000

theorem ret_bool {a b : Bool} (h : a = b) : Ending.returned (.bool a) = .returned (.bool b) := by rw [h]
theorem ret_int {k : IntKind} {a b : Int} (h : a = b) : Ending.returned (.int k a) = .returned (.int k b) := by rw [h]

theorem add_plain (b off i : Nat) : (⟨b, off, none⟩ : Addr).add i = ⟨b, off + i, none⟩ := by unfold Addr.add; split <;> simp_all

/-- v is a slice whose elements are the integers zs. -/
def Sl (k : IntKind) (w : World) (v : Value) (zs : List Int) : Prop :=
  ∃ a cap, v = .slice a zs.length cap ∧ zs.length ≤ cap ∧ cap ≤ maxLen ∧ (∀ n ∈ zs, (Lit.int k n).wf = true) ∧
    ((a = none ∧ cap = 0 ∧ zs = []) ∨ ∃ b off sp, a = some ⟨b, off, sp⟩ ∧ (zs = [] ∨ (sp = none ∧ b < w.heap.size ∧ ∀ i, i < zs.length → w.cell? ⟨b, off + i, none⟩ = some (.int k (zs.getD i 0)))))

theorem Sl.below {k : IntKind} {w w' : World} {v : Value} {zs : List Int} {B : Nat} (h : Sl k w v zs) (hb : Below B w w') (hB : w.heap.size ≤ B) : Sl k w' v zs := by
  obtain ⟨a, cap, e, h1, h2, h3, h4⟩ := h
  refine ⟨a, cap, e, h1, h2, h3, ?_⟩
  rcases h4 with h4 | ⟨b, off, sp, ha, h5⟩
  · exact .inl h4
  · refine .inr ⟨b, off, sp, ha, ?_⟩
    rcases h5 with h5 | ⟨hs, hlt, hc⟩
    · exact .inl h5
    · exact .inr ⟨hs, Nat.lt_of_lt_of_le hlt hb.size, fun i hi => (hb.cell (p := ⟨b, off + i, none⟩) (by simp; omega)).trans (hc i hi)⟩

theorem Sl.wf {k : IntKind} {w : World} {v : Value} {zs : List Int} (h : Sl k w v zs) : ∀ n ∈ zs, (Lit.int k n).wf = true := by
  obtain ⟨a, cap, e, h1, h2, h3, _⟩ := h
  exact h3
theorem wf_app {k : IntKind} {xs zs : List Int} (h : ∀ n ∈ xs, (Lit.int k n).wf = true) (g : ∀ n ∈ zs, (Lit.int k n).wf = true) : ∀ n ∈ xs ++ zs, (Lit.int k n).wf = true := by
  intro n hn
  rcases List.mem_append.1 hn with hn | hn
  · exact h n hn
  · exact g n hn

/-- a beginning of it -/
theorem Sl.take {k : IntKind} {w : World} {a : Option Addr} {len cap : Nat} {zs : List Int} (h : Sl k w (.slice a len cap) zs) (m : Nat) (hm : m ≤ zs.length) : Sl k w (.slice a m cap) (zs.take m) := by
  obtain ⟨a', cap', e, h1, h2, h3, h4⟩ := h
  simp only [Value.slice.injEq] at e
  obtain ⟨rfl, rfl, rfl⟩ := e
  have hl : (zs.take m).length = m := by rw [List.length_take]; omega
  refine ⟨a, cap, by rw [hl], by omega, h2, fun n hn => h3 n (List.mem_of_mem_take hn), ?_⟩
  rcases h4 with ⟨rfl, rfl, rfl⟩ | ⟨b, off, sp, rfl, h5⟩
  · exact .inl ⟨rfl, rfl, by simp⟩
  · refine .inr ⟨b, off, sp, rfl, ?_⟩
    rcases h5 with rfl | ⟨hs, hlt, hc⟩
    · exact .inl (by simp)
    · refine .inr ⟨hs, hlt, fun i hi => ?_⟩
      rw [hl] at hi
      rw [hc i (by omega)]
      simp [List.getD, hi]

theorem Sl.empty {k : IntKind} {w : World} (ad : Addr) {c : Nat} (hc : c ≤ maxLen) : Sl k w (.slice (some ad) 0 c) [] :=
  ⟨some ad, c, rfl, Nat.zero_le _, hc, by simp, .inr ⟨ad.block, ad.off, ad.spot, rfl, .inl rfl⟩⟩
theorem add_pos (b off : Nat) (sp : Option Nat) (i : Nat) : ∃ b' off' sp', (⟨b, off, sp⟩ : Addr).add i = ⟨b', off', sp'⟩ := ⟨_, _, _, rfl⟩
/-- a piece of it -/
theorem Sl.sub {k : IntKind} {w : World} {b off : Nat} {sp : Option Nat} {len cap : Nat} {zs : List Int} (h : Sl k w (.slice (some ⟨b, off, sp⟩) len cap) zs) (i n : Nat) (hm : i + n ≤ zs.length) :
    Sl k w (.slice (some ((⟨b, off, sp⟩ : Addr).add i)) n (cap - i)) ((zs.drop i).take n) := by
  obtain ⟨a', cap', e, h1, h2, h3, h4⟩ := h
  simp only [Value.slice.injEq] at e
  obtain ⟨rfl, rfl, rfl⟩ := e
  have hl : ((zs.drop i).take n).length = n := by rw [List.length_take, List.length_drop]; omega
  have hsub : ∀ x ∈ (zs.drop i).take n, x ∈ zs := fun x hx => List.mem_of_mem_drop (List.mem_of_mem_take hx)
  obtain ⟨b', off', sp', hadd⟩ := add_pos b off sp i
  refine ⟨_, cap - i, by rw [hl], by omega, by omega, fun x hx => h3 x (hsub x hx), .inr ⟨b', off', sp', by rw [hadd], ?_⟩⟩
  rcases h4 with ⟨h5, _⟩ | ⟨b1, off1, sp1, h5, h6⟩
  · cases h5
  · simp only [Option.some.injEq, Addr.mk.injEq] at h5
    obtain ⟨rfl, rfl, rfl⟩ := h5
    rcases h6 with rfl | ⟨rfl, hlt, hc⟩
    · exact .inl (by simp)
    · rw [add_plain] at hadd
      simp only [Addr.mk.injEq] at hadd
      obtain ⟨rfl, rfl, rfl⟩ := hadd
      refine .inr ⟨rfl, hlt, fun j hj => ?_⟩
      rw [hl] at hj
      rw [Nat.add_assoc, hc (i + j) (by omega)]
      simp [List.getD, hj]

theorem Sl.len {k : IntKind} {w : World} {v : Value} {zs : List Int} (h : Sl k w v zs) : zs.length ≤ maxLen := by
  obtain ⟨a, cap, e, h1, h2, _⟩ := h
  exact Nat.le_trans h1 h2

/-- what a call owns can be read -/
theorem Sl.own {k : IntKind} {w : World} {B e n : Nat} {v : Value} {zs : List Int} (h : w.ownsRow B e 1 v n (zs.map (Value.int k))) (hw : ∀ n ∈ zs, (Lit.int k n).wf = true) : Sl k w v zs := by
  have hn : n = zs.length := by have := h.1; simp at this; omega
  subst hn
  rcases h.2 with ⟨rfl, h0⟩ | ⟨g, cap, cur, rfl, hg, hh, hle, hcm, hsz, htk⟩
  · have : zs = [] := List.eq_nil_of_length_eq_zero h0
    subst this
    exact ⟨none, 0, rfl, Nat.le_refl _, Nat.zero_le _, hw, .inl ⟨rfl, rfl, rfl⟩⟩
  · refine ⟨_, cap, rfl, hle, hcm, hw, .inr ⟨g, 0, none, rfl, .inr ⟨rfl, ?_, ?_⟩⟩⟩
    · exact (Array.getElem?_eq_some_iff.1 hh).1
    · intro i hi
      have hc := h.cells (g := g) rfl i (.int k (zs.getD i 0)) (by simp [List.getElem?_map, List.getElem?_eq_getElem hi, List.getD])
      have hadd : (⟨g, 0, none⟩ : Addr).add i = ⟨g, 0 + i, none⟩ := by unfold Addr.add; split <;> simp_all
      rw [hadd] at hc
      exact hc

/-- an argument that is a slice of integers, opened: what it reads as, and how long it can be -/
theorem open_sl {H : Type} {enc : TypeId × Value → H} {P : Program} {t e : TypeId} {k : IntKind} {W : World} {v : Value} {d : DataW H} {ps : List MemPlace} (ht : P.underlying t = some (.slice e)) (he : P.underlying e = some (.int k)) (hc : P.cellsOf e = 1)
    {a : Option Addr} {len cap : Nat} (hv : v = .slice a len cap)
    (h : DataW.Trod enc P W 0 (fun _ => true) true t v d ps) :
    ∃ zs, Sl k W v zs ∧ zs.length ≤ Rows.uptoBulk d ∧
      ∀ {ts : List TypeId} {ds : List (DataW H)} {j : Nat}, (DataW.weightsEach P ts ds).all (· ≤ reachBytes) = true → ts[j]? = some t → ds[j]? = some d → zs.length * P.bytesOf e ≤ reachBytes := by
  subst hv
  obtain ⟨fuel, hf⟩ := h
  rcases open_ints ht he hc hf with ⟨hcs, hx⟩ | ⟨x, l, c, zs, hcs, _, hl, hm, hz, hx, hcell, hwz⟩
  · simp [Value.cells] at hcs
    obtain ⟨rfl, rfl, rfl⟩ := hcs
    refine ⟨[], ⟨none, 0, rfl, Nat.le_refl _, Nat.zero_le _, by simp, .inl ⟨rfl, rfl, rfl⟩⟩, Nat.zero_le _, ?_⟩
    intro ts ds j _ _ _
    simp
  · simp [Value.cells] at hcs
    obtain ⟨rfl, rfl, rfl⟩ := hcs
    simp only [if_true] at hz
    simp only [Prod.mk.injEq] at hx
    obtain ⟨rfl, _⟩ := hx
    have hlen : (zs.take len).length = len := by simp; omega
    obtain ⟨b, off, sp⟩ := x
    refine ⟨zs.take len, ⟨_, cap, by rw [hlen], by omega, hm, fun n hn => hwz n (List.mem_of_mem_take hn), .inr ⟨b, off, sp, rfl, ?_⟩⟩, ?_, ?_⟩
    · rcases Nat.eq_zero_or_pos len with h0 | h0
      · exact .inl (List.eq_nil_of_length_eq_zero (by omega))
      · refine .inr ?_
        have h1 := hcell 0 (by omega)
        have hsp : sp = none := by simpa [Addr.add] using World.cell?_spot h1
        subst hsp
        refine ⟨rfl, by have := World.block_lt_of_cell? _ _ h1; rwa [add_plain] at this, fun i hi => ?_⟩
        rw [hlen] at hi
        have h2 := hcell i (by omega)
        rw [add_plain] at h2
        rw [h2]
        simp [List.getD, hi]
    · simp only [Rows.uptoBulk]
      have hle : ∀ l : List Int, l.length ≤ Rows.uptoBulkAll (lits (H := H) k l) := by
        intro l
        induction l with
        | nil => exact Nat.zero_le _
        | cons y l ih => simp only [lits, List.map_cons, Rows.uptoBulkAll, Rows.uptoBulk, List.length_cons] at ih ⊢; omega
      have := hle (zs.take len)
      omega
    · intro ts ds j h1 h2 h3
      have := sized_slice h1 h2 h3 ht
      refine Nat.le_trans (Nat.mul_le_mul_right _ ?_) this
      simp [lits]

/-- cells that an append takes: of nil, or behind an address -/
def Src (w : World) (v : Value) (m : Nat) (news : List Value) : Prop :=
  (v = .slice none 0 0 ∧ m = 0 ∧ news = []) ∨ ∃ ad c, v = .slice (some ad) m c ∧ ∀ j u, news[j]? = some u → w.cell? (ad.add j) = some u


theorem Sl.src {k : IntKind} {w : World} {v : Value} {zs : List Int} (h : Sl k w v zs) : Src w v zs.length (zs.map (Value.int k)) := by
  obtain ⟨a, cap, rfl, h1, h2, h3, h4⟩ := h
  rcases h4 with ⟨rfl, rfl, rfl⟩ | ⟨b, off, sp, rfl, h5⟩
  · exact .inl ⟨rfl, rfl, rfl⟩
  · refine .inr ⟨_, _, rfl, ?_⟩
    intro j u hj
    rcases h5 with rfl | ⟨rfl, hlt, hc⟩
    · simp at hj
    · have hl : j < zs.length := by
        rcases Nat.lt_or_ge j zs.length with h | h
        · exact h
        · rw [List.getElem?_eq_none (by simpa using h)] at hj; cases hj
      rw [add_plain, hc j hl]
      rw [List.getElem?_map, List.getElem?_eq_getElem hl] at hj
      simp at hj
      subst hj
      simp [List.getD, List.getElem?_eq_getElem hl]

theorem Src.below {w w' : World} {v : Value} {m : Nat} {news : List Value} {B : Nat} (h : Src w v m news) (hb : Below B w w') (hB : w.heap.size ≤ B) : Src w' v m news := by
  rcases h with h | ⟨ad, c, e, h⟩
  · exact .inl h
  · refine .inr ⟨ad, c, e, fun j u hj => ?_⟩
    have h1 := h j u hj
    have h2 := World.block_lt_of_cell? w _ h1
    exact (hb.cell (by omega)).trans h1

/-- append(what the call owns, whatever can be read) -/
theorem wp_app {P : Program} {w : World} {ops : Array Oper} {rest : List Oper} {o : Oper} {a : Act} {Q : Exit → Act → World → Prop} (hgd : o.guard = none) (s x : Operand) (t : TypeId)
    (ho : o.op = .call { callee := .builtin .append, args := #[s, x], argTypes := #[t, t] })
    (base : Nat) (e : TypeId) (i : TypeInfo) (z : Value) (size bytes : Nat) (ht : P.underlying t = some (.slice e)) (hi : P.info? e = some i) (hz : i.zero = some z)
    (hsize : i.size = size) (hby : i.bytes = bytes) (hzs : z.cells.size = size) (hsz : 0 < size)
    (v : Value) (n : Nat) (xs : List Value) (hs : a.eval s = v) (hown : w.ownsRow base e size v n xs)
    (u : Value) (m : Nat) (news : List Value) (hx : a.eval x = u) (hsrc : Src w u m news) (hl : news.length = m * size) (h1 : ∀ u ∈ news, u.oneCell' = true)
    (h63 : n + m ≤ maxLen) (hbytes : (n + m) * bytes ≤ 140737488355328) (hbase : base ≤ w.heap.size)
    (h : ∀ v' w', w'.ownsRow base e size v' (n + m) (xs ++ news) → w.grownBy w' v.ownBlock → wpList P ops Q rest (a.put o.dst v') w') : wpList P ops Q (o :: rest) a w := by
  rcases hsrc with ⟨rfl, rfl, rfl⟩ | ⟨ad, c, rfl, hc⟩
  · refine wpList_append_own_none hgd s x t ho base e i size ht hi v n xs hs hown hx ?_
    exact h v w (by simpa using hown) (World.grownBy.refl _ _)
  · exact wpList_append_own w hgd s x t ho base e i z size bytes ht hi hz hsize hby hzs hsz v n xs hs hown ad m c news hx hl hc h1 h63 hbytes hbase fun v' w' h2 h3 _ => h v' w' h2 h3

theorem cell_new (w : World) (u : Value) (t : TypeId) : (w.alloc (.cells #[u] t)).cell? ⟨w.heap.size, 0, none⟩ = some u := by
  simp only [World.cell?, heap_alloc_new]; rfl

theorem news_one {w : World} {g : Nat} {u : Value} (h : w.cell? ⟨g, 0, none⟩ = some u) : ∀ j x, [u][j]? = some x → w.cell? ((⟨g, 0, none⟩ : Addr).add j) = some x := by
  intro j x hj
  match j, hj with
  | 0, hj => simp at hj; subst hj; simpa [Addr.add] using h

theorem one_int (k : IntKind) (n : Int) : ∀ u ∈ [Value.int k n], u.oneCell' = true := by
  intro u hu; simp at hu; subst hu; rfl

/-- behind an append to what the call owns, everything below B is as it was -/
theorem Below.own {B : Nat} {a w w' : World} {v : Value} {e s n : Nat} {xs : List Value} (h : Below B a w) (hB : B ≤ w.heap.size) (hown : w.ownsRow B e s v n xs) (hg : w.grownBy w' v.ownBlock) : Below B a w' :=
  h.grown hg hB fun k hk => (hown.lt k hk).1
theorem Below.ownA {B : Nat} {a w w' : World} {v : Value} {e s n : Nat} {xs : List Value} {o : Obj} (h : Below B a w) (hB : B ≤ w.heap.size) (hown : w.ownsRow B e s v n xs) (hg : (w.alloc o).grownBy w' v.ownBlock) : Below B a w' :=
  (h.alloc hB o).grown hg (by simp; omega) fun k hk => (hown.lt k hk).1

theorem str_sized {s : ByteArray} (h : s.data.toList.length ≤ reachBytes) : s.size ≤ 140737488351232 := by
  have e : s.data.toList.length = s.size := by rw [Array.length_toList]; rfl
  rw [e] at h
  simpa [reachBytes] using h
theorem str_upto {H : Type} {s : ByteArray} (h : Rows.uptoBulk (DataW.lit (H := H) (.string s.data.toList)) ≤ 1048576) : s.size ≤ 1048576 := by
  have e : s.data.toList.length = s.size := by rw [Array.length_toList]; rfl
  simp only [Rows.uptoBulk] at h
  omega
theorem bulk_mem {H : Type} {d : DataW H} {l : List (DataW H)} (h : d ∈ l) : Rows.uptoBulk d ≤ Rows.uptoBulkAll l := by
  induction l with
  | nil => cases h
  | cons x r ih =>
    simp only [Rows.uptoBulkAll]
    cases List.mem_cons.1 h with
    | inl e => subst e; omega
    | inr e => have := ih e; omega


/-- a literal's row, marked or not -/
theorem Sl.new {k : IntKind} {e : TypeId} {fr : Nat × Nat} (w : World) (cs : Array Value) (zs : List Int) {n c : Nat} (h : cs = (zs.map (Value.int k)).toArray) (hn : n = zs.length) (hc : n ≤ c) (hm : c ≤ maxLen) (hw : ∀ x ∈ zs, (Lit.int k x).wf = true) :
    Sl k (w.alloc (.cells cs e fr)) (.slice (some ⟨w.heap.size, 0, none⟩) n c) zs := by
  subst h; subst hn
  refine ⟨_, c, rfl, hc, hm, hw, .inr ⟨w.heap.size, 0, none, rfl, .inr ⟨rfl, by simp, fun i hi => ?_⟩⟩⟩
  simp only [World.cell?, heap_alloc_new, Nat.zero_add]
  simp [List.getElem?_eq_getElem hi, List.getD]

/-! ### a slice of integers that the call owns, of any kind -/
def OwnK (k : IntKind) (e : TypeId) (w : World) (B : Nat) (v : Value) (zs : List Int) : Prop := w.ownsRow B e 1 v zs.length (zs.map (Value.int k))
theorem OwnK.nil (k : IntKind) (e : TypeId) (w : World) (B : Nat) : OwnK k e w B (.slice none 0 0) [] := World.ownsRow_nil _ _ _ _
theorem OwnK.sl {k : IntKind} {e : TypeId} {w : World} {B : Nat} {v : Value} {zs : List Int} (h : OwnK k e w B v zs) (hw : ∀ n ∈ zs, (Lit.int k n).wf = true) : Sl k w v zs := Sl.own h hw
theorem OwnK.below {k : IntKind} {e : TypeId} {w w' : World} {B C : Nat} {v : Value} {zs : List Int} (h : OwnK k e w B v zs) (hb : Below C w w') (hC : w.heap.size ≤ C) : OwnK k e w' B v zs := by
  refine ⟨h.1, ?_⟩
  rcases h.2 with h2 | ⟨g, cap, cur, h2, h3, h4, h5⟩
  · exact .inl h2
  · have hlt := (Array.getElem?_eq_some_iff.1 h4).1
    exact .inr ⟨g, cap, cur, h2, h3, by rw [hb.block g (by omega)]; exact h4, h5⟩
theorem OwnK.alloc {k : IntKind} {e : TypeId} {w : World} {B : Nat} {v : Value} {zs : List Int} (h : OwnK k e w B v zs) (o : Obj) : OwnK k e (w.alloc o) B v zs := World.ownsRow.alloc h o

theorem appK {P : Program} {k : IntKind} {t e : TypeId} {bytes : Nat} (ht : P.underlying t = some (.slice e)) (hinfo : (P.info? e).map (fun i => (i.zero, i.size, i.bytes)) = some (some (.int k 0), 1, bytes))
    {w : World} {ops : Array Oper} {rest : List Oper} {o : Oper} {a : Act} {Q : Exit → Act → World → Prop} (hgd : o.guard = none) (s x : Operand)
    (ho : o.op = .call { callee := .builtin .append, args := #[s, x], argTypes := #[t, t] }) (base : Nat)
    (v : Value) (xs : List Int) (hs : a.eval s = v) (hown : OwnK k e w base v xs) (u : Value) (zs : List Int) (hx : a.eval x = u) (hsl : Sl k w u zs)
    (h63 : xs.length + zs.length ≤ maxLen) (hb : (xs.length + zs.length) * bytes ≤ 140737488355328) (hbase : base ≤ w.heap.size)
    (h : ∀ v' w', OwnK k e w' base v' (xs ++ zs) → Below base w w' → wpList P ops Q rest (a.put o.dst v') w') : wpList P ops Q (o :: rest) a w := by
  obtain ⟨i0, hi, hz0, hz1, hz2⟩ := info_parts hinfo
  refine wp_app hgd s x t ho base e i0 (.int k 0) 1 bytes ht hi hz0 hz1 hz2 rfl (by decide) v xs.length _ hs hown u zs.length (zs.map (Value.int k)) hx hsl.src (by simp) (ints_oneCell _ _) h63 hb hbase ?_
  intro v' w' hown' hgrow
  refine h v' w' ?_ (Below.own (Below.refl _ _) hbase hown hgrow)
  unfold OwnK
  rw [List.map_append, List.length_append]
  exact hown'

/-- a literal's row is the call's own -/
theorem OwnK.new {k : IntKind} {e : TypeId} (w : World) {B : Nat} (cs : Array Value) (zs : List Int) {n : Nat} (h : cs = (zs.map (Value.int k)).toArray) (hn : n = zs.length) (hm : n ≤ maxLen) (hB : B ≤ w.heap.size) :
    OwnK k e (w.alloc (.cells cs e)) B (.slice (some ⟨w.heap.size, 0, none⟩) n n) zs := by
  subst h; subst hn
  have h := World.ownsRow_lit (e := e) (size := 1) w (zs.map (Value.int k)).toArray zs.length hB hm (by simp)
  simpa [OwnK] using h
theorem OwnK.newAt {k : IntKind} {e : TypeId} (w : World) (g : Nat) (hg : w.heap.size = g) {B : Nat} (cs : Array Value) (zs : List Int) {n : Nat} (h : cs = (zs.map (Value.int k)).toArray) (hn : n = zs.length) (hm : n ≤ maxLen) (hB : B ≤ w.heap.size) :
    OwnK k e (w.alloc (.cells cs e)) B (.slice (some ⟨g, 0, none⟩) n n) zs := by
  subst hg
  exact OwnK.new w cs zs h hn hm hB
theorem Sl.newAt {k : IntKind} {e : TypeId} {fr : Nat × Nat} (w : World) (g : Nat) (hg : w.heap.size = g) (cs : Array Value) (zs : List Int) {n c : Nat} (h : cs = (zs.map (Value.int k)).toArray) (hn : n = zs.length) (hc : n ≤ c) (hm : c ≤ maxLen) (hw : ∀ x ∈ zs, (Lit.int k x).wf = true) :
    Sl k (w.alloc (.cells cs e fr)) (.slice (some ⟨g, 0, none⟩) n c) zs := by
  subst hg
  exact Sl.new w cs zs h hn hc hm hw
end Go.Proofs.Ytgbblegcjladaaa
namespace Go.Proofs.Ytgbblegcjladaaa
open Go.ChangeShapes Go.WideShapes Go.ChangeAt Go.RowKit Go.Deep
set_option linter.unusedVariables false
set_option maxRecDepth 100000

section
variable {H : Type} {enc : TypeId × Value → H} {P : Program} {W : World}

/-- every string, slice and map in d is within the form's own reach -/
def Wt (P : Program) (t : TypeId) (d : DataW H) : Prop := ∀ n ∈ d.weights P t, n ≤ reachBytes

theorem weights_each_mem : ∀ {ts : List TypeId} {ds : List (DataW H)} {j : Nat} {t : TypeId} {d : DataW H}, ts[j]? = some t → ds[j]? = some d → ∀ n ∈ d.weights P t, n ∈ DataW.weightsEach P ts ds := fun h1 h2 n hn => DataW.weights_mem_each h1 h2 n hn
theorem wt_arg {ts : List TypeId} {ds : List (DataW H)} {j : Nat} {t : TypeId} {d : DataW H} (h : (DataW.weightsEach P ts ds).all (· ≤ reachBytes) = true) (h1 : ts[j]? = some t) (h2 : ds[j]? = some d) : Wt P t d := by
  intro n hn
  simpa using List.all_eq_true.1 h n (weights_each_mem h1 h2 n hn)
theorem wt_field {t : TypeId} {fs : Array Field} {parts : List (DataW H)} (hu : P.underlying t = some (.struct fs)) (h : Wt P t (.agg parts)) {j : Nat} {f : Field} {d : DataW H} (h1 : fs[j]? = some f) (h2 : parts[j]? = some d) : Wt P f.type d := by
  intro n hn
  apply h
  simp only [DataW.weights, hu]
  exact weights_each_mem (j := j) (by simp [h1]) h2 n hn
theorem weights_all_mem : ∀ {l : List (DataW H)} {e : TypeId} {d : DataW H}, d ∈ l → ∀ n ∈ d.weights P e, n ∈ DataW.weightsAll P e l
  | d0 :: l, e, d, hd, n, hn => by
    simp only [DataW.weightsAll, List.mem_append]
    rcases List.mem_cons.1 hd with rfl | hd
    · exact .inl hn
    · exact .inr (weights_all_mem hd n hn)
theorem wt_slice {t e : TypeId} {es sp : List (DataW H)} (hu : P.underlying t = some (.slice e)) (h : Wt P t (.slice es sp)) : (es.length + sp.length) * P.bytesOf e ≤ reachBytes ∧ ∀ d ∈ es, Wt P e d := by
  refine ⟨h _ (by simp [DataW.weights, hu]), fun d hd n hn => h n ?_⟩
  simp only [DataW.weights, hu, List.mem_cons, List.mem_append]
  exact .inr (.inl (weights_all_mem hd n hn))
theorem wt_string {t : TypeId} {s : ByteArray} (h : Wt (H := H) P t (.lit (.string s.data.toList))) : s.size ≤ 140737488351232 := str_sized (h _ (by simp [DataW.weights]))
theorem bulk_field {parts : List (DataW H)} {d : DataW H} (h : d ∈ parts) : Rows.uptoBulk d ≤ Rows.uptoBulk (.agg parts) := by
  have := bulk_mem h
  simp only [Rows.uptoBulk]
  omega
theorem bulk_slice {es sp : List (DataW H)} : es.length ≤ Rows.uptoBulk (.slice es sp) ∧ ∀ d ∈ es, Rows.uptoBulk d ≤ Rows.uptoBulk (.slice es sp) := by
  have hle : ∀ l : List (DataW H), l.length ≤ Rows.uptoBulkAll l := by
    intro l
    induction l with
    | nil => exact Nat.zero_le _
    | cons x r ih =>
      have h1 : 1 ≤ Rows.uptoBulk x := by
        cases x with
        | lit l => cases l <;> simp [Rows.uptoBulk]
        | _ => simp [Rows.uptoBulk]
      simp only [Rows.uptoBulkAll, List.length_cons]; omega
  refine ⟨?_, fun d hd => ?_⟩
  · have := hle es
    simp only [Rows.uptoBulk]; omega
  · have := bulk_mem hd
    simp only [Rows.uptoBulk]; omega

/-- a slice of integers in a cell -/
theorem sl_cell {t e : TypeId} {k : IntKind} {n : Nat} {v : Value} {y : DataW H × List MemPlace} (ht : P.underlying t = some (.slice e)) (he : P.underlying e = some (.int k)) (hc : P.cellsOf e = 1)
    (h : DataW.trod enc P W 0 (fun _ => true) true n t [v] = some y) :
    ∃ zs, Sl k W v zs ∧ zs.length ≤ Rows.uptoBulk y.1 ∧ (Wt P t y.1 → zs.length * P.bytesOf e ≤ reachBytes) := by
  have hv : ∃ a len cap, v = .slice a len cap := by
    rcases open_ints ht he hc h with ⟨hcs, _⟩ | ⟨x, l, c, zs, hcs, _⟩
    · simp only [List.cons.injEq, and_true] at hcs; exact ⟨_, _, _, hcs⟩
    · simp only [List.cons.injEq, and_true] at hcs; exact ⟨_, _, _, hcs⟩
  obtain ⟨a, len, cap, rfl⟩ := hv
  obtain ⟨zs, h1, h2, h3⟩ := open_sl (enc := enc) (d := y.1) (ps := y.2) ht he hc rfl ⟨n, h⟩
  refine ⟨zs, h1, h2, fun hw => ?_⟩
  refine h3 (ts := [t]) (ds := [y.1]) (j := 0) ?_ rfl rfl
  simp only [DataW.weightsEach, List.append_nil, List.all_eq_true, decide_eq_true_eq]
  exact hw
theorem int_cell {t : TypeId} {k : IntKind} {n : Nat} {v : Value} {y : DataW H × List MemPlace} (ht : P.underlying t = some (.int k)) (h : DataW.trod enc P W 0 (fun _ => true) true n t [v] = some y) :
    ∃ z, v = .int k z ∧ (Lit.int k z).wf = true := by
  obtain ⟨z, h1, _, h2⟩ := DataW.trod_int ht h
  simp only [List.cons.injEq, and_true] at h1
  exact ⟨z, h1, h2⟩
end

/-- a whole struct or array read out of a variable, behind a guard or not -/
theorem wpList_load_rowG {P : Program} {ops : Array Oper} {rest : List Oper} {o : Oper} {a : Act} {w : World} {Q : Exit → Act → World → Prop} (hw : Region.wanted o (yielded ops a.tmps) = true) (ty : TypeId) (x : Operand) (ho : o.op = .load ty x)
    (g : Nat) (hx : a.eval x = .pointer (some ⟨g, 0, none⟩)) (t : TypeId) (cs : Array Value) (fr : Nat × Nat) (d : TypeDesc) (hg : w.heap[g]? = some (.cells cs t fr))
    (hu : P.underlying ty = some d) (hd : (match d with | .struct _ | .array _ _ => true | _ => false) = true) (hi : (P.info? ty).map (·.size) = some cs.size)
    (h : wpList P ops Q rest (a.put o.dst (.agg cs)) w) : wpList P ops Q (o :: rest) a w :=
  BigFrame.wpList_want hw fun _ hK => wp_load_row ty x ho g hx t cs fr d hg hu hd hi (hK _ _ h)
end Go.Proofs.Ytgbblegcjladaaa
namespace Go.Proofs.Ytgbblegcjladaaa
open Go.ChangeShapes Go.WideShapes Go.ChangeAt Go.RowKit Go.Deep
set_option linter.unusedVariables false
set_option maxRecDepth 100000

structure Cmd where
  kind : Int
  node : Int
  token : Int
  nodes : List Int
  boot : Int
  seq : Int
  serial : Int
  stamp : Int

def Cmd.wf (c : Cmd) : Prop := (Lit.int .i64 c.kind).wf = true ∧ (Lit.int .i64 c.node).wf = true ∧ (Lit.int .i64 c.token).wf = true ∧ (Lit.int .u64 c.boot).wf = true ∧ (Lit.int .u64 c.seq).wf = true ∧ (Lit.int .u64 c.serial).wf = true ∧ (Lit.int .u64 c.stamp).wf = true

/-- a command in cells -/
def CmdCells (w : World) (cs : List Value) (c : Cmd) : Prop :=
  ∃ vn, cs = [.int .i64 c.kind, .int .i64 c.node, .int .i64 c.token, vn, .int .u64 c.boot, .int .u64 c.seq, .int .u64 c.serial, .int .u64 c.stamp] ∧ Sl .i64 w vn c.nodes ∧ c.wf
/-- a command's value -/
def IsCmd (w : World) (v : Value) (c : Cmd) : Prop :=
  ∃ vn, v = .agg #[.int .i64 c.kind, .int .i64 c.node, .int .i64 c.token, vn, .int .u64 c.boot, .int .u64 c.seq, .int .u64 c.serial, .int .u64 c.stamp] ∧ Sl .i64 w vn c.nodes ∧ c.wf
def IsCmd.size (c : Cmd) : Nat := c.nodes.length
def IsCmd.fits (c : Cmd) : Prop := c.nodes.length * 8 ≤ 140737488351232
theorem IsCmd.below {w w' : World} {v : Value} {c : Cmd} {B : Nat} (h : IsCmd w v c) (hb : Below B w w') (hB : w.heap.size ≤ B) : IsCmd w' v c := by
  obtain ⟨vn, e, h1, h2⟩ := h
  exact ⟨vn, e, h1.below hb hB, h2⟩
theorem CmdCells.below {w w' : World} {cs : List Value} {c : Cmd} {B : Nat} (h : CmdCells w cs c) (hb : Below B w w') (hB : w.heap.size ≤ B) : CmdCells w' cs c := by
  obtain ⟨vn, e, h1, h2⟩ := h
  exact ⟨vn, e, h1.below hb hB, h2⟩

theorem trod_cmd {H : Type} {enc : TypeId × Value → H} {W : World} {n : Nat} {cs : List Value} {y : DataW H × List MemPlace} (h : DataW.trod enc Try.prog W 0 (fun _ => true) true n 58 cs = some y) :
    ∃ c, CmdCells W cs c ∧ c.nodes.length ≤ Rows.uptoBulk y.1 ∧ (Wt Try.prog 58 y.1 → IsCmd.fits c) := by
  obtain ⟨xs, m, _, rfl, hlen, hxl, hf⟩ := DataW.trod_struct Try.underlying58 h
  have hl8 : cs.length = 8 := hlen.trans (by kernel_rfl)
  match cs, hl8, xs, hxl with
  | [c0, c1, c2, c3, c4, c5, c6, c7], _, [y0, y1, y2, y3, y4, y5, y6, y7], _ =>
    have k1 : Try.prog.cellsOf 3 = 1 := by kernel_rfl
    have k2 : Try.prog.cellsOf 56 = 1 := by kernel_rfl
    have k3 : Try.prog.cellsOf 31 = 1 := by kernel_rfl
    obtain ⟨z0, rfl, w0⟩ := int_cell (P := Try.prog) Try.underlying3 (by simpa [k1] using hf 0 _ rfl)
    obtain ⟨z1, rfl, w1⟩ := int_cell (P := Try.prog) Try.underlying3 (by simpa [k1] using hf 1 _ rfl)
    obtain ⟨z2, rfl, w2⟩ := int_cell (P := Try.prog) Try.underlying3 (by simpa [k1] using hf 2 _ rfl)
    obtain ⟨zs, w3, b3, s3⟩ := sl_cell (P := Try.prog) Try.underlying56 Try.underlying3 k1 (by simpa [k2] using hf 3 _ rfl)
    obtain ⟨z4, rfl, w4⟩ := int_cell (P := Try.prog) Try.underlying31 (by simpa [k3] using hf 4 _ rfl)
    obtain ⟨z5, rfl, w5⟩ := int_cell (P := Try.prog) Try.underlying31 (by simpa [k3] using hf 5 _ rfl)
    obtain ⟨z6, rfl, w6⟩ := int_cell (P := Try.prog) Try.underlying31 (by simpa [k3] using hf 6 _ rfl)
    obtain ⟨z7, rfl, w7⟩ := int_cell (P := Try.prog) Try.underlying31 (by simpa [k3] using hf 7 _ rfl)
    refine ⟨⟨z0, z1, z2, zs, z4, z5, z6, z7⟩, ⟨c3, rfl, w3, w0, w1, w2, w4, w5, w6, w7⟩, Nat.le_trans b3 (bulk_field (by simp)), fun hw => ?_⟩
    have := s3 (wt_field Try.underlying58 hw (j := 3) rfl rfl)
    rw [show Try.prog.bytesOf 3 = 8 from by kernel_rfl] at this
    simpa [IsCmd.fits, reachBytes] using this

theorem open_cmd {H : Type} {enc : TypeId × Value → H} {W : World} {base : Nat} {v : Value} {d : DataW H} {ps : List MemPlace}
    (hok : Value.okWide Try.prog W .any base 58 v) (h : DataW.Trod enc Try.prog W 0 (fun _ => true) true 58 v d ps) : ∃ c, IsCmd W v c ∧ IsCmd.size c ≤ Rows.uptoBulk d ∧ (Wt Try.prog 58 d → IsCmd.fits c) := by
  obtain ⟨cs, rfl, hsz⟩ := okWide_struct Try.underlying58 hok
  obtain ⟨fuel, hf⟩ := h
  obtain ⟨c, ⟨vn, hcs, h1, h2⟩, h3, h4⟩ := trod_cmd hf
  refine ⟨c, ⟨vn, ?_, h1, h2⟩, h3, h4⟩
  obtain ⟨l⟩ := cs
  simp only [Value.cells] at hcs
  subst hcs
  rfl
end Go.Proofs.Ytgbblegcjladaaa
namespace Go.Proofs.Ytgbblegcjladaaa
open Go.ChangeShapes Go.WideShapes Go.ChangeAt Go.RowKit
set_option linter.unusedVariables false
set_option maxRecDepth 100000
namespace Nd

def okFrom (last : Int) : List Int → Bool
  | [] => true
  | n :: l => decide (1 ≤ n ∧ n ≤ 7 ∧ last < n) && okFrom n l
def chk (l : List Int) : Bool := !l.isEmpty && okFrom 0 l
def errOf (b : Bool) : Int := if b then 0 else 1

theorem getD_get {l : List Int} {k : Nat} (h : k < l.length) : l.getD k 0 = l[k] := by simp [List.getD, List.getElem?_eq_getElem h]
theorem drop_get {l : List Int} {k : Nat} (h : k < l.length) : l.drop k = l.getD k 0 :: l.drop (k + 1) := by
  rw [getD_get h]; exact List.drop_eq_getElem_cons h
theorem take_get {l : List Int} {k : Nat} (h : k < l.length) : l.take (k + 1) = l.take k ++ [l.getD k 0] := by
  rw [getD_get h]; exact List.take_succ_eq_append_getElem h
theorem mem_get {l : List Int} {k : Nat} (h : k < l.length) : l.getD k 0 ∈ l := by rw [getD_get h]; exact List.getElem_mem h

/-- a slice of ints, opened for a loop over it: empty, or its cells -/
theorem Sl.cases {k : IntKind} {w : World} {v : Value} {zs : List Int} (h : Sl k w v zs) :
    (∃ a cap, v = .slice a 0 cap ∧ zs = []) ∨ ∃ b off cap, v = .slice (some ⟨b, off, none⟩) zs.length cap ∧ 0 < zs.length ∧ zs.length ≤ cap ∧ cap ≤ 9223372036854775807 ∧ b < w.heap.size ∧
      ∀ i, i < zs.length → w.cell? ⟨b, off + i, none⟩ = some (.int k (zs.getD i 0)) := by
  obtain ⟨a, cap, rfl, h1, h2, h3, h4⟩ := h
  unfold maxLen at h2
  rcases h4 with ⟨rfl, rfl, rfl⟩ | ⟨b, off, sp, rfl, rfl | ⟨rfl, hlt, hc⟩⟩
  · exact .inl ⟨_, _, rfl, rfl⟩
  · exact .inl ⟨_, _, rfl, rfl⟩
  · rcases Nat.eq_zero_or_pos zs.length with h0 | h0
    · have : zs = [] := List.eq_nil_of_length_eq_zero h0
      subst this
      exact .inl ⟨_, _, rfl, rfl⟩
    · exact .inr ⟨b, off, cap, rfl, h0, h1, h2, hlt, hc⟩

def nodeB (n : Int) : Bool := decide (1 ≤ n ∧ n ≤ 7)

set_option maxHeartbeats 400000 in
theorem isNode_any (n : Int) (w : World) :
    Calls Try.prog 85 #[.int .i64 n] w fun e w' => e = .returned (.bool (nodeB n)) ∧ w = w' := by
  go_enter Try.func85, Try.ntmps85
  go_wp2
  all_goals (go_ret; exact ⟨ret_bool (by unfold nodeB; first | exact decide_eq_decide.2 (by omega) | exact (decide_eq_false (by omega)).symm), rfl⟩)

theorem okFrom_bad {last n : Int} {l : List Int} (h : ¬ (1 ≤ n ∧ n ≤ 7 ∧ last < n)) : okFrom last (n :: l) = false := by simp [okFrom, h]
theorem okFrom_good {last n : Int} {l : List Int} (h : 1 ≤ n ∧ n ≤ 7 ∧ last < n) : okFrom last (n :: l) = okFrom n l := by simp [okFrom, h]
theorem chk_of {l : List Int} (h : 0 < l.length) : chk l = okFrom 0 l := by
  cases l with
  | nil => simp at h
  | cons a l => rfl

set_option maxHeartbeats 400000 in
theorem check_any (v : Value) (zs : List Int) (w : World) (hs : Sl .i64 w v zs) :
    Calls Try.prog 80 #[v] w fun e w' => e = .returned (.int .i64 (errOf (chk zs))) ∧ w = w' := by
  rcases Sl.cases hs with ⟨a, cap, rfl, rfl⟩ | ⟨b, off, cap, rfl, h0, hlc, hcm, hlt, hc⟩
  · clear hs
    go_enter Try.func80, Try.ntmps80
    go_wp2
    go_ret
    exact ⟨rfl, rfl⟩
  · have HK := Lib.hid (chk_of h0)
    have HC := Lib.hid hc
    have hne : ((zs.length : Int) == 0) = false := beq_eq_false_iff_ne.2 (by omega)
    clear hs hc
    go_enter Try.func80, Try.ntmps80
    go_wp2
    go_loop [3, 11] (fun t i => ∃ k : Nat, ∃ last : Int, k ≤ zs.length ∧ i = .int .i64 k ∧ t = .int .i64 last ∧ Hid (okFrom 0 zs = okFrom last (zs.drop k)) ∧ 0 ≤ last) (fun _ i => zs.length - (intOf i).toNat)
    case atStart => exact ⟨0, 0, Nat.zero_le _, rfl, rfl, Lib.hid rfl, Int.le_refl _⟩
    case round =>
      obtain ⟨k, last, hk, rfl, rfl, HO, hl0⟩ := hrel
      by_cases hlt2 : k < zs.length
      · have hcx := HC.out k hlt2
        have HD := Lib.hid (drop_get hlt2)
        generalize hz : zs.getD k 0 = z at *
        have HZ := Lib.hid hz
        clear hz
        by_cases hg : 1 ≤ z ∧ z ≤ 7 ∧ last < z
        · have hO2 := HO.out
          rw [HD.out, okFrom_good hg] at hO2
          have HO2 := Lib.hid hO2
          have hn : nodeB z = true := decide_eq_true ⟨hg.1, hg.2.1⟩
          obtain ⟨hg1, hg2, hg3⟩ := hg
          clear hO2
          go_wp2_with (go_at_call 85; refine (isNode_any _ _).mono ?_; rintro e w' ⟨rfl, rfl⟩; rw [hn])
          go_round
          case rel => exact ⟨k + 1, z, by omega, by go_num, rfl, HO2, by omega⟩
          case measure => simp [intOf]; omega
        · have hO2 := HO.out
          rw [HD.out, okFrom_bad hg] at hO2
          have hE : errOf (chk zs) = 1 := by rw [HK.out, hO2]; rfl
          have HE := Lib.hid hE
          clear hO2 hE
          by_cases hn' : 1 ≤ z ∧ z ≤ 7
          · have hn : nodeB z = true := decide_eq_true hn'
            have h3 : z ≤ last := by omega
            clear hg hn'
            go_wp2_with (go_at_call 85; refine (isNode_any _ _).mono ?_; rintro e w' ⟨rfl, rfl⟩; rw [hn])
            go_ret
            exact ⟨by rw [HE.out]; rfl, rfl⟩
          · have hn : nodeB z = false := decide_eq_false hn'
            clear hg hn'
            go_wp2_with (go_at_call 85; refine (isNode_any _ _).mono ?_; rintro e w' ⟨rfl, rfl⟩; rw [hn])
            go_ret
            exact ⟨by rw [HE.out]; rfl, rfl⟩
      · obtain rfl : k = zs.length := by omega
        have hO2 := HO.out
        rw [List.drop_length] at hO2
        have hE : errOf (chk zs) = 0 := by rw [HK.out, hO2]; rfl
        have HE := Lib.hid hE
        clear hO2 hE
        go_wp2
        go_ret
        exact ⟨by rw [HE.out]; rfl, rfl⟩


end Nd
end Go.Proofs.Ytgbblegcjladaaa
namespace Go.Proofs.Ytgbblegcjladaaa
open Go.ChangeShapes Go.WideShapes Go.ChangeAt Go.RowKit
set_option linter.unusedVariables false
set_option maxRecDepth 100000
theorem info_int : (Try.prog.info? 3).map (fun i => (i.zero, i.size, i.bytes)) = some (some (.int .i64 0), 1, 8) := by kernel_rfl
abbrev OwnI := OwnK .i64 3
/-- append(nil, l...) -/
theorem copyI {w : World} {ops : Array Oper} {rest : List Oper} {o : Oper} {a : Act} {Q : Exit → Act → World → Prop} (hgd : o.guard = none) (x : Operand)
    (ho : o.op = .call { callee := .builtin .append, args := #[.const (.slice none 0 0), x], argTypes := #[56, 56] }) (base : Nat)
    (u : Value) (zs : List Int) (hx : a.eval x = u) (hsl : Sl .i64 w u zs) (hb : zs.length * 8 ≤ 140737488351232) (hbase : base ≤ w.heap.size)
    (h : ∀ v' w', OwnI w' base v' zs → Sl .i64 w' v' zs → Below base w w' → wpList Try.prog ops Q rest (a.put o.dst v') w') : wpList Try.prog ops Q (o :: rest) a w := by
  refine appK Try.underlying56 info_int hgd _ x ho base _ _ rfl (OwnK.nil _ _ _ _) u zs hx hsl (by have := hsl.len; simpa using this) (by simp; omega) hbase ?_
  intro v' w' h1 h2
  rw [List.nil_append] at h1
  exact h v' w' h1 (h1.sl hsl.wf) h2
theorem appI {w : World} {ops : Array Oper} {rest : List Oper} {o : Oper} {a : Act} {Q : Exit → Act → World → Prop} (hgd : o.guard = none) (s x : Operand)
    (ho : o.op = .call { callee := .builtin .append, args := #[s, x], argTypes := #[56, 56] }) (base : Nat)
    (v : Value) (xs : List Int) (hs : a.eval s = v) (hown : OwnI w base v xs) (u : Value) (zs : List Int) (hx : a.eval x = u) (hsl : Sl .i64 w u zs)
    (hb : (xs.length + zs.length) * 8 ≤ 140737488355328) (hbase : base ≤ w.heap.size)
    (h : ∀ v' w', OwnI w' base v' (xs ++ zs) → Below base w w' → wpList Try.prog ops Q rest (a.put o.dst v') w') : wpList Try.prog ops Q (o :: rest) a w :=
  appK Try.underlying56 info_int hgd s x ho base v xs hs hown u zs hx hsl (by unfold maxLen; omega) hb hbase h
end Go.Proofs.Ytgbblegcjladaaa
namespace Go.Proofs.Ytgbblegcjladaaa
open Go.ChangeShapes Go.WideShapes Go.ChangeAt Go.RowKit
set_option linter.unusedVariables false
set_option maxRecDepth 100000
namespace Nd

set_option maxHeartbeats 400000 in
theorem rcheck_any (v : Value) (zs : List Int) (w : World) (hs : Sl .i64 w v zs) :
    Calls Try.prog 74 #[v] w fun e w' => e = .returned (.int .i64 (errOf (chk zs))) ∧ w = w' := by
  rcases Sl.cases hs with ⟨a, cap, rfl, rfl⟩ | ⟨b, off, cap, rfl, h0, hlc, hcm, hlt, hc⟩
  · clear hs
    go_enter Try.func74, Try.ntmps74
    go_wp2
    go_ret
    exact ⟨rfl, rfl⟩
  · have HK := Lib.hid (chk_of h0)
    have HC := Lib.hid hc
    have hne : ((zs.length : Int) == 0) = false := beq_eq_false_iff_ne.2 (by omega)
    clear hs hc
    go_enter Try.func74, Try.ntmps74
    go_wp2
    go_loop [10] (fun i => ∃ k : Nat, ∃ last : Int, k ≤ zs.length ∧ i = .int .i64 k ∧ Hid (okFrom 0 zs = okFrom last (zs.drop k)) ∧ 0 ≤ last ∧ Hid ((k = 0 → last = 0) ∧ (0 < k → last = zs.getD (k - 1) 0))) (fun i => zs.length - (intOf i).toNat)
    case atStart => exact ⟨0, 0, Nat.zero_le _, rfl, Lib.hid rfl, Int.le_refl _, Lib.hid ⟨fun _ => rfl, fun h => absurd h (by omega)⟩⟩
    case round =>
      obtain ⟨k, last, hk, rfl, HO, hl0, HP⟩ := hrel
      by_cases hlt2 : k < zs.length
      · have hcx := HC.out k hlt2
        have HD := Lib.hid (drop_get hlt2)
        obtain ⟨z, hz⟩ : ∃ z, z = zs.getD k 0 := ⟨_, rfl⟩
        rw [← hz] at hcx HD
        have HZ := Lib.hid hz
        clear hz
        have hgood : ∀ (h : 1 ≤ z ∧ z ≤ 7 ∧ last < z), okFrom 0 zs = okFrom z (zs.drop (k + 1)) := fun h => by rw [HO.out, HD.out, okFrom_good h]
        have hbad : ∀ (h : ¬ (1 ≤ z ∧ z ≤ 7 ∧ last < z)), errOf (chk zs) = 1 := fun h => by rw [HK.out, HO.out, HD.out, okFrom_bad h]; rfl
        have HG := Lib.hid hgood
        have HB := Lib.hid hbad
        clear hgood hbad
        by_cases h1 : z < 1
        · have HE := Lib.hid (HB.out (by omega))
          go_wp2
          go_ret
          exact ⟨by rw [HE.out]; rfl, rfl⟩
        by_cases h7 : 7 < z
        · have HE := Lib.hid (HB.out (by omega))
          go_wp2
          go_ret
          exact ⟨by rw [HE.out]; rfl, rfl⟩
        rcases Nat.eq_zero_or_pos k with hk0 | hk0
        · subst hk0
          have HO2 := Lib.hid (HG.out ⟨by omega, by omega, by have := HP.out.1 rfl; omega⟩)
          rw [Nat.add_zero] at hcx
          go_wp2
          go_round
          case rel => exact ⟨1, z, by omega, by go_num, HO2, by omega, Lib.hid ⟨fun h => absurd h (by omega), fun _ => HZ.out⟩⟩
          case measure => simp [intOf]; omega
        · have hl := HP.out.2 hk0
          have hcp := HC.out (k - 1) (by omega)
          rw [← hl] at hcp
          have hpos : (0 : Int) < (k : Int) := by omega
          obtain ⟨j, rfl⟩ : ∃ j, k = j + 1 := ⟨k - 1, by omega⟩
          rw [Nat.add_sub_cancel] at hcp
          clear hl
          by_cases hg : last < z
          · have HO2 := Lib.hid (HG.out ⟨by omega, by omega, hg⟩)
            go_wp2
            go_round
            case rel => exact ⟨j + 1 + 1, z, by omega, by go_num, HO2, by omega, Lib.hid ⟨fun h => absurd h (by omega), fun _ => HZ.out⟩⟩
            case measure => simp [intOf]; omega
          · have HE := Lib.hid (HB.out (by omega))
            have hge : z ≤ last := by omega
            clear hg
            go_wp2
            go_ret
            exact ⟨by rw [HE.out]; rfl, rfl⟩
      · obtain rfl : k = zs.length := by omega
        have hO2 := HO.out
        rw [List.drop_length] at hO2
        have hE : errOf (chk zs) = 0 := by rw [HK.out, hO2]; rfl
        have HE := Lib.hid hE
        clear hO2 hE
        go_wp2
        go_ret
        exact ⟨by rw [HE.out]; rfl, rfl⟩

theorem below_drewN {B : Nat} (w : World) (n : Nat) : Below B w (w.drewN n) := ⟨rfl, rfl, rfl, Nat.le_refl _, fun _ _ => rfl⟩

set_option maxHeartbeats 400000 in
theorem same_any (v u : Value) (xs zs : List Int) (w : World) (hx : Sl .i64 w v xs) (hz : Sl .i64 w u zs) :
    Calls Try.prog 63 #[v, u] w fun e w' => e = .returned (.bool (decide (xs = zs))) ∧ Below w.heap.size w w' := by
  by_cases hl : xs.length = zs.length
  · rcases Sl.cases hx with ⟨a, cap, rfl, rfl⟩ | ⟨b, off, cap, rfl, h0, hlc, hcm, hlt, hc⟩
    · have : zs = [] := List.eq_nil_of_length_eq_zero (by simpa using hl.symm)
      subst this
      obtain ⟨a2, cap2, rfl, -⟩ := hz
      clear hx
      go_enter Try.func63, Try.ntmps63
      go_wp2
      refine wp_loop_rounds 1 ?_
      rw [rounds_succ]
      go_wp2
      go_ret
      exact ⟨rfl, Below.refl _ _⟩
    · rcases Sl.cases hz with ⟨a, cap, rfl, rfl⟩ | ⟨b2, off2, cap2, rfl, h02, hlc2, hcm2, hlt2, hc2⟩
      · exact absurd hl (by simp only [List.length_nil]; omega)
      have HX := Lib.hid hc
      have HZ := Lib.hid hc2
      have HL := Lib.hid hl
      rw [← hl] at hlc2 ⊢
      clear hx hz hc hc2 hl
      go_enter Try.func63, Try.ntmps63
      go_wp2
      go_loopw [13] (fun i wr => ∃ k : Nat, k ≤ xs.length ∧ i = .int .i64 k ∧ Hid (xs.take k = zs.take k) ∧ Below w.heap.size w wr) (fun i _ => xs.length - (intOf i).toNat)
      case atStart => exact ⟨0, Nat.zero_le _, rfl, Lib.hid rfl, Below.refl _ _⟩
      case round =>
        obtain ⟨k, hk, rfl, HO, hb⟩ := hrel
        by_cases hlt3 : k < xs.length
        · have hcx := (hb.cell (p := ⟨b, off + k, none⟩) hlt).trans (HX.out k hlt3)
          have hcz := (hb.cell (p := ⟨b2, off2 + k, none⟩) hlt2).trans (HZ.out k (by have := HL.out; omega))
          have HTX := Lib.hid (take_get hlt3)
          have HTZ := Lib.hid (take_get (l := zs) (k := k) (by have := HL.out; omega))
          have HGX := Lib.hid (getD_get hlt3)
          have HGZ := Lib.hid (getD_get (l := zs) (k := k) (by have := HL.out; omega))
          generalize hx : xs.getD k 0 = x at *
          generalize hz : zs.getD k 0 = z at *
          have HEX := Lib.hid hx
          have HEZ := Lib.hid hz
          clear hx hz
          have hkz : (k : Int) < (xs.length : Int) := by omega
          by_cases hxz : x = z
          · subst hxz
            have HO2 : Hid (xs.take (k + 1) = zs.take (k + 1)) := Lib.hid (by rw [HTX.out, HTZ.out, HO.out])
            go_wp2
            go_quiet (fail)
            go_wp2
            go_roundw
            case rel => exact ⟨k + 1, by omega, by go_num, HO2, hb.trans (below_drewN _ _)⟩
            case measure => simp [intOf]; omega
          · have hB : decide (xs = zs) = false := decide_eq_false fun h => hxz (by rw [← HEX.out, ← HEZ.out, h])
            have HB := Lib.hid hB
            have hxz2 : (x != z) = true := by rw [bne_iff_ne]; exact hxz
            clear hxz hB
            go_wp2
            go_quiet (fail)
            go_wp2
            go_ret
            exact ⟨ret_bool HB.out.symm, hb.trans (below_drewN _ _)⟩
        · obtain rfl : k = xs.length := by omega
          have hE : xs = zs := by
            have := HO.out
            rwa [List.take_length, HL.out, List.take_length] at this
          have HB := Lib.hid (decide_eq_true hE)
          clear hE
          go_wp2
          go_ret
          exact ⟨ret_bool HB.out.symm, hb⟩
  · have HB := Lib.hid (decide_eq_false (fun h : xs = zs => hl (by rw [h])))
    have hne : ((xs.length : Int) == (zs.length : Int)) = false := beq_eq_false_iff_ne.2 (by omega)
    have hne2 : ((xs.length : Int) != (zs.length : Int)) = true := by rw [bne_iff_ne]; omega
    obtain ⟨a, cap, rfl, -⟩ := hx
    obtain ⟨a2, cap2, rfl, -⟩ := hz
    clear hl
    go_enter Try.func63, Try.ntmps63
    go_wp2
    go_ret
    exact ⟨ret_bool HB.out.symm, Below.refl _ _⟩
end Nd
end Go.Proofs.Ytgbblegcjladaaa
