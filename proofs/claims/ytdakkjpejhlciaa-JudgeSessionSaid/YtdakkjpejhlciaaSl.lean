/- A slice of integers that can be read: what it says, and how it stands while worlds grow. No condition. -/
import Derived.Test.YtdakkjpejhlciaaRows
import Derived.WalkKit
import Derived.ProofKit
import Derived.OpenShut
import Derived.Outline
import Derived.Lib.Hide
import Derived.Lib.AppendStr
import Derived.WalkSpells
import Derived.Laws.AppendOwnNone
import Derived.SizedLaws
import Derived.ChangeOld
import Derived.Below
import Derived.JoinedCond
import Derived.ShutString
namespace Go.Proofs.Ytdakkjpejhlciaa
open Go.ChangeShapes Go.WideShapes Go.ChangeAt Go.RowKit
set_option linter.unusedVariables false
set_option maxRecDepth 100000

theorem ret_bool {a b : Bool} (h : a = b) : Ending.returned (.bool a) = .returned (.bool b) := by rw [h]
theorem ret_int {k : IntKind} {a b : Int} (h : a = b) : Ending.returned (.int k a) = .returned (.int k b) := by rw [h]

theorem add_plain (b off i : Nat) : (⟨b, off, none⟩ : Addr).add i = ⟨b, off + i, none⟩ := by unfold Addr.add; split <;> simp_all

/-- v is a slice whose elements are the integers zs. -/
def Sl (k : IntKind) (w : World) (v : Value) (zs : List Int) : Prop :=
  ∃ a cap, v = .slice a zs.length cap ∧ zs.length ≤ cap ∧ cap ≤ maxLen ∧ (∀ n ∈ zs, (Lit.int k n).wf = true) ∧
    ((a = none ∧ cap = 0 ∧ zs = []) ∨ ∃ b off sp, a = some ⟨b, off, sp⟩ ∧ (zs = [] ∨ (sp = none ∧ b < w.heap.size ∧ ∀ i, i < zs.length → w.cell? ⟨b, off + i, none⟩ = some (.int k (zs.getD i 0)))))

theorem Sl.below {k : IntKind} {w w' : World} {v : Value} {zs : List Int} {B : Nat} (h : Sl k w v zs) (hb : Below B w w') (hB : w.heap.size ≤ B) : Sl k w' v zs := by
  obtain ⟨a, cap, e, h1, h2, h3, h4⟩ := h
  refine ⟨a, cap, e, h1, h2, h3, ?_⟩
  rcases h4 with h4 | ⟨b, off, sp, ha, h5⟩
  · exact .inl h4
  · refine .inr ⟨b, off, sp, ha, ?_⟩
    rcases h5 with h5 | ⟨hs, hlt, hc⟩
    · exact .inl h5
    · exact .inr ⟨hs, Nat.lt_of_lt_of_le hlt hb.size, fun i hi => (hb.cell (p := ⟨b, off + i, none⟩) (by simp; omega)).trans (hc i hi)⟩

theorem Sl.wf {k : IntKind} {w : World} {v : Value} {zs : List Int} (h : Sl k w v zs) : ∀ n ∈ zs, (Lit.int k n).wf = true := by
  obtain ⟨a, cap, e, h1, h2, h3, _⟩ := h
  exact h3
theorem wf_app {k : IntKind} {xs zs : List Int} (h : ∀ n ∈ xs, (Lit.int k n).wf = true) (g : ∀ n ∈ zs, (Lit.int k n).wf = true) : ∀ n ∈ xs ++ zs, (Lit.int k n).wf = true := by
  intro n hn
  rcases List.mem_append.1 hn with hn | hn
  · exact h n hn
  · exact g n hn

/-- a beginning of it -/
theorem Sl.take {k : IntKind} {w : World} {a : Option Addr} {len cap : Nat} {zs : List Int} (h : Sl k w (.slice a len cap) zs) (m : Nat) (hm : m ≤ zs.length) : Sl k w (.slice a m cap) (zs.take m) := by
  obtain ⟨a', cap', e, h1, h2, h3, h4⟩ := h
  simp only [Value.slice.injEq] at e
  obtain ⟨rfl, rfl, rfl⟩ := e
  have hl : (zs.take m).length = m := by rw [List.length_take]; omega
  refine ⟨a, cap, by rw [hl], by omega, h2, fun n hn => h3 n (List.mem_of_mem_take hn), ?_⟩
  rcases h4 with ⟨rfl, rfl, rfl⟩ | ⟨b, off, sp, rfl, h5⟩
  · exact .inl ⟨rfl, rfl, by simp⟩
  · refine .inr ⟨b, off, sp, rfl, ?_⟩
    rcases h5 with rfl | ⟨hs, hlt, hc⟩
    · exact .inl (by simp)
    · refine .inr ⟨hs, hlt, fun i hi => ?_⟩
      rw [hl] at hi
      rw [hc i (by omega)]
      simp [List.getD, hi]

theorem Sl.empty {k : IntKind} {w : World} (ad : Addr) {c : Nat} (hc : c ≤ maxLen) : Sl k w (.slice (some ad) 0 c) [] :=
  ⟨some ad, c, rfl, Nat.zero_le _, hc, by simp, .inr ⟨ad.block, ad.off, ad.spot, rfl, .inl rfl⟩⟩
theorem add_pos (b off : Nat) (sp : Option Nat) (i : Nat) : ∃ b' off' sp', (⟨b, off, sp⟩ : Addr).add i = ⟨b', off', sp'⟩ := ⟨_, _, _, rfl⟩
/-- a piece of it -/
theorem Sl.sub {k : IntKind} {w : World} {b off : Nat} {sp : Option Nat} {len cap : Nat} {zs : List Int} (h : Sl k w (.slice (some ⟨b, off, sp⟩) len cap) zs) (i n : Nat) (hm : i + n ≤ zs.length) :
    Sl k w (.slice (some ((⟨b, off, sp⟩ : Addr).add i)) n (cap - i)) ((zs.drop i).take n) := by
  obtain ⟨a', cap', e, h1, h2, h3, h4⟩ := h
  simp only [Value.slice.injEq] at e
  obtain ⟨rfl, rfl, rfl⟩ := e
  have hl : ((zs.drop i).take n).length = n := by rw [List.length_take, List.length_drop]; omega
  have hsub : ∀ x ∈ (zs.drop i).take n, x ∈ zs := fun x hx => List.mem_of_mem_drop (List.mem_of_mem_take hx)
  obtain ⟨b', off', sp', hadd⟩ := add_pos b off sp i
  refine ⟨_, cap - i, by rw [hl], by omega, by omega, fun x hx => h3 x (hsub x hx), .inr ⟨b', off', sp', by rw [hadd], ?_⟩⟩
  rcases h4 with ⟨h5, _⟩ | ⟨b1, off1, sp1, h5, h6⟩
  · cases h5
  · simp only [Option.some.injEq, Addr.mk.injEq] at h5
    obtain ⟨rfl, rfl, rfl⟩ := h5
    rcases h6 with rfl | ⟨rfl, hlt, hc⟩
    · exact .inl (by simp)
    · rw [add_plain] at hadd
      simp only [Addr.mk.injEq] at hadd
      obtain ⟨rfl, rfl, rfl⟩ := hadd
      refine .inr ⟨rfl, hlt, fun j hj => ?_⟩
      rw [hl] at hj
      rw [Nat.add_assoc, hc (i + j) (by omega)]
      simp [List.getD, hj]

theorem Sl.len {k : IntKind} {w : World} {v : Value} {zs : List Int} (h : Sl k w v zs) : zs.length ≤ maxLen := by
  obtain ⟨a, cap, e, h1, h2, _⟩ := h
  exact Nat.le_trans h1 h2

/-- what a call owns can be read -/
theorem Sl.own {k : IntKind} {w : World} {B e n : Nat} {v : Value} {zs : List Int} (h : w.ownsRow B e 1 v n (zs.map (Value.int k))) (hw : ∀ n ∈ zs, (Lit.int k n).wf = true) : Sl k w v zs := by
  have hn : n = zs.length := by have := h.1; simp at this; omega
  subst hn
  rcases h.2 with ⟨rfl, h0⟩ | ⟨g, cap, cur, rfl, hg, hh, hle, hcm, hsz, htk⟩
  · have : zs = [] := List.eq_nil_of_length_eq_zero h0
    subst this
    exact ⟨none, 0, rfl, Nat.le_refl _, Nat.zero_le _, hw, .inl ⟨rfl, rfl, rfl⟩⟩
  · refine ⟨_, cap, rfl, hle, hcm, hw, .inr ⟨g, 0, none, rfl, .inr ⟨rfl, ?_, ?_⟩⟩⟩
    · exact (Array.getElem?_eq_some_iff.1 hh).1
    · intro i hi
      have hc := h.cells (g := g) rfl i (.int k (zs.getD i 0)) (by simp [List.getElem?_map, List.getElem?_eq_getElem hi, List.getD])
      have hadd : (⟨g, 0, none⟩ : Addr).add i = ⟨g, 0 + i, none⟩ := by unfold Addr.add; split <;> simp_all
      rw [hadd] at hc
      exact hc

/-- an argument that is a slice of integers, opened: what it reads as, and how long it can be -/
theorem open_sl {H : Type} {enc : TypeId × Value → H} {P : Program} {t e : TypeId} {k : IntKind} {W : World} {v : Value} {d : DataW H} {ps : List MemPlace} (ht : P.underlying t = some (.slice e)) (he : P.underlying e = some (.int k)) (hc : P.cellsOf e = 1)
    {a : Option Addr} {len cap : Nat} (hv : v = .slice a len cap)
    (h : DataW.Trod enc P W 0 (fun _ => true) true t v d ps) :
    ∃ zs, Sl k W v zs ∧ zs.length ≤ Rows.uptoBulk d ∧
      ∀ {ts : List TypeId} {ds : List (DataW H)} {j : Nat}, (DataW.weightsEach P ts ds).all (· ≤ reachBytes) = true → ts[j]? = some t → ds[j]? = some d → zs.length * P.bytesOf e ≤ reachBytes := by
  subst hv
  obtain ⟨fuel, hf⟩ := h
  rcases open_ints ht he hc hf with ⟨hcs, hx⟩ | ⟨x, l, c, zs, hcs, _, hl, hm, hz, hx, hcell, hwz⟩
  · simp [Value.cells] at hcs
    obtain ⟨rfl, rfl, rfl⟩ := hcs
    refine ⟨[], ⟨none, 0, rfl, Nat.le_refl _, Nat.zero_le _, by simp, .inl ⟨rfl, rfl, rfl⟩⟩, Nat.zero_le _, ?_⟩
    intro ts ds j _ _ _
    simp
  · simp [Value.cells] at hcs
    obtain ⟨rfl, rfl, rfl⟩ := hcs
    simp only [if_true] at hz
    simp only [Prod.mk.injEq] at hx
    obtain ⟨rfl, _⟩ := hx
    have hlen : (zs.take len).length = len := by simp; omega
    obtain ⟨b, off, sp⟩ := x
    refine ⟨zs.take len, ⟨_, cap, by rw [hlen], by omega, hm, fun n hn => hwz n (List.mem_of_mem_take hn), .inr ⟨b, off, sp, rfl, ?_⟩⟩, ?_, ?_⟩
    · rcases Nat.eq_zero_or_pos len with h0 | h0
      · exact .inl (List.eq_nil_of_length_eq_zero (by omega))
      · refine .inr ?_
        have h1 := hcell 0 (by omega)
        have hsp : sp = none := by simpa [Addr.add] using World.cell?_spot h1
        subst hsp
        refine ⟨rfl, by have := World.block_lt_of_cell? _ _ h1; rwa [add_plain] at this, fun i hi => ?_⟩
        rw [hlen] at hi
        have h2 := hcell i (by omega)
        rw [add_plain] at h2
        rw [h2]
        simp [List.getD, hi]
    · simp only [Rows.uptoBulk]
      have hle : ∀ l : List Int, l.length ≤ Rows.uptoBulkAll (lits (H := H) k l) := by
        intro l
        induction l with
        | nil => exact Nat.zero_le _
        | cons y l ih => simp only [lits, List.map_cons, Rows.uptoBulkAll, Rows.uptoBulk, List.length_cons] at ih ⊢; omega
      have := hle (zs.take len)
      omega
    · intro ts ds j h1 h2 h3
      have := sized_slice h1 h2 h3 ht
      refine Nat.le_trans (Nat.mul_le_mul_right _ ?_) this
      simp [lits]

/-- cells that an append takes: of nil, or behind an address -/
def Src (w : World) (v : Value) (m : Nat) (news : List Value) : Prop :=
  (v = .slice none 0 0 ∧ m = 0 ∧ news = []) ∨ ∃ ad c, v = .slice (some ad) m c ∧ ∀ j u, news[j]? = some u → w.cell? (ad.add j) = some u


theorem Sl.src {k : IntKind} {w : World} {v : Value} {zs : List Int} (h : Sl k w v zs) : Src w v zs.length (zs.map (Value.int k)) := by
  obtain ⟨a, cap, rfl, h1, h2, h3, h4⟩ := h
  rcases h4 with ⟨rfl, rfl, rfl⟩ | ⟨b, off, sp, rfl, h5⟩
  · exact .inl ⟨rfl, rfl, rfl⟩
  · refine .inr ⟨_, _, rfl, ?_⟩
    intro j u hj
    rcases h5 with rfl | ⟨rfl, hlt, hc⟩
    · simp at hj
    · have hl : j < zs.length := by
        rcases Nat.lt_or_ge j zs.length with h | h
        · exact h
        · rw [List.getElem?_eq_none (by simpa using h)] at hj; cases hj
      rw [add_plain, hc j hl]
      rw [List.getElem?_map, List.getElem?_eq_getElem hl] at hj
      simp at hj
      subst hj
      simp [List.getD, List.getElem?_eq_getElem hl]

theorem Src.below {w w' : World} {v : Value} {m : Nat} {news : List Value} {B : Nat} (h : Src w v m news) (hb : Below B w w') (hB : w.heap.size ≤ B) : Src w' v m news := by
  rcases h with h | ⟨ad, c, e, h⟩
  · exact .inl h
  · refine .inr ⟨ad, c, e, fun j u hj => ?_⟩
    have h1 := h j u hj
    have h2 := World.block_lt_of_cell? w _ h1
    exact (hb.cell (by omega)).trans h1

/-- append(what the call owns, whatever can be read) -/
theorem wp_app {P : Program} {w : World} {ops : Array Oper} {rest : List Oper} {o : Oper} {a : Act} {Q : Exit → Act → World → Prop} (hgd : o.guard = none) (s x : Operand) (t : TypeId)
    (ho : o.op = .call { callee := .builtin .append, args := #[s, x], argTypes := #[t, t] })
    (base : Nat) (e : TypeId) (i : TypeInfo) (z : Value) (size bytes : Nat) (ht : P.underlying t = some (.slice e)) (hi : P.info? e = some i) (hz : i.zero = some z)
    (hsize : i.size = size) (hby : i.bytes = bytes) (hzs : z.cells.size = size) (hsz : 0 < size)
    (v : Value) (n : Nat) (xs : List Value) (hs : a.eval s = v) (hown : w.ownsRow base e size v n xs)
    (u : Value) (m : Nat) (news : List Value) (hx : a.eval x = u) (hsrc : Src w u m news) (hl : news.length = m * size) (h1 : ∀ u ∈ news, u.oneCell' = true)
    (h63 : n + m ≤ maxLen) (hbytes : (n + m) * bytes ≤ 140737488355328) (hbase : base ≤ w.heap.size)
    (h : ∀ v' w', w'.ownsRow base e size v' (n + m) (xs ++ news) → w.grownBy w' v.ownBlock → wpList P ops Q rest (a.put o.dst v') w') : wpList P ops Q (o :: rest) a w := by
  rcases hsrc with ⟨rfl, rfl, rfl⟩ | ⟨ad, c, rfl, hc⟩
  · refine wpList_append_own_none hgd s x t ho base e i size ht hi v n xs hs hown hx ?_
    exact h v w (by simpa using hown) (World.grownBy.refl _ _)
  · exact wpList_append_own w hgd s x t ho base e i z size bytes ht hi hz hsize hby hzs hsz v n xs hs hown ad m c news hx hl hc h1 h63 hbytes hbase fun v' w' h2 h3 _ => h v' w' h2 h3

theorem cell_new (w : World) (u : Value) (t : TypeId) : (w.alloc (.cells #[u] t)).cell? ⟨w.heap.size, 0, none⟩ = some u := by
  simp only [World.cell?, heap_alloc_new]; rfl

theorem news_one {w : World} {g : Nat} {u : Value} (h : w.cell? ⟨g, 0, none⟩ = some u) : ∀ j x, [u][j]? = some x → w.cell? ((⟨g, 0, none⟩ : Addr).add j) = some x := by
  intro j x hj
  match j, hj with
  | 0, hj => simp at hj; subst hj; simpa [Addr.add] using h

theorem one_int (k : IntKind) (n : Int) : ∀ u ∈ [Value.int k n], u.oneCell' = true := by
  intro u hu; simp at hu; subst hu; rfl

/-- behind an append to what the call owns, everything below B is as it was -/
theorem Below.own {B : Nat} {a w w' : World} {v : Value} {e s n : Nat} {xs : List Value} (h : Below B a w) (hB : B ≤ w.heap.size) (hown : w.ownsRow B e s v n xs) (hg : w.grownBy w' v.ownBlock) : Below B a w' :=
  h.grown hg hB fun k hk => (hown.lt k hk).1
theorem Below.ownA {B : Nat} {a w w' : World} {v : Value} {e s n : Nat} {xs : List Value} {o : Obj} (h : Below B a w) (hB : B ≤ w.heap.size) (hown : w.ownsRow B e s v n xs) (hg : (w.alloc o).grownBy w' v.ownBlock) : Below B a w' :=
  (h.alloc hB o).grown hg (by simp; omega) fun k hk => (hown.lt k hk).1

theorem str_sized {s : ByteArray} (h : s.data.toList.length ≤ reachBytes) : s.size ≤ 140737488351232 := by
  have e : s.data.toList.length = s.size := by rw [Array.length_toList]; rfl
  rw [e] at h
  simpa [reachBytes] using h
theorem str_upto {H : Type} {s : ByteArray} (h : Rows.uptoBulk (DataW.lit (H := H) (.string s.data.toList)) ≤ 1048576) : s.size ≤ 1048576 := by
  have e : s.data.toList.length = s.size := by rw [Array.length_toList]; rfl
  simp only [Rows.uptoBulk] at h
  omega
theorem bulk_mem {H : Type} {d : DataW H} {l : List (DataW H)} (h : d ∈ l) : Rows.uptoBulk d ≤ Rows.uptoBulkAll l := by
  induction l with
  | nil => cases h
  | cons x r ih =>
    simp only [Rows.uptoBulkAll]
    cases List.mem_cons.1 h with
    | inl e => subst e; omega
    | inr e => have := ih e; omega


/-- a literal's row, marked or not -/
theorem Sl.new {k : IntKind} {e : TypeId} {fr : Nat × Nat} (w : World) (cs : Array Value) (zs : List Int) {n c : Nat} (h : cs = (zs.map (Value.int k)).toArray) (hn : n = zs.length) (hc : n ≤ c) (hm : c ≤ maxLen) (hw : ∀ x ∈ zs, (Lit.int k x).wf = true) :
    Sl k (w.alloc (.cells cs e fr)) (.slice (some ⟨w.heap.size, 0, none⟩) n c) zs := by
  subst h; subst hn
  refine ⟨_, c, rfl, hc, hm, hw, .inr ⟨w.heap.size, 0, none, rfl, .inr ⟨rfl, by simp, fun i hi => ?_⟩⟩⟩
  simp only [World.cell?, heap_alloc_new, Nat.zero_add]
  simp [List.getElem?_eq_getElem hi, List.getD]

/-! ### a slice of integers that the call owns, of any kind -/
def OwnK (k : IntKind) (e : TypeId) (w : World) (B : Nat) (v : Value) (zs : List Int) : Prop := w.ownsRow B e 1 v zs.length (zs.map (Value.int k))
theorem OwnK.nil (k : IntKind) (e : TypeId) (w : World) (B : Nat) : OwnK k e w B (.slice none 0 0) [] := World.ownsRow_nil _ _ _ _
theorem OwnK.sl {k : IntKind} {e : TypeId} {w : World} {B : Nat} {v : Value} {zs : List Int} (h : OwnK k e w B v zs) (hw : ∀ n ∈ zs, (Lit.int k n).wf = true) : Sl k w v zs := Sl.own h hw
theorem OwnK.below {k : IntKind} {e : TypeId} {w w' : World} {B C : Nat} {v : Value} {zs : List Int} (h : OwnK k e w B v zs) (hb : Below C w w') (hC : w.heap.size ≤ C) : OwnK k e w' B v zs := by
  refine ⟨h.1, ?_⟩
  rcases h.2 with h2 | ⟨g, cap, cur, h2, h3, h4, h5⟩
  · exact .inl h2
  · have hlt := (Array.getElem?_eq_some_iff.1 h4).1
    exact .inr ⟨g, cap, cur, h2, h3, by rw [hb.block g (by omega)]; exact h4, h5⟩
theorem OwnK.alloc {k : IntKind} {e : TypeId} {w : World} {B : Nat} {v : Value} {zs : List Int} (h : OwnK k e w B v zs) (o : Obj) : OwnK k e (w.alloc o) B v zs := World.ownsRow.alloc h o

theorem appK {P : Program} {k : IntKind} {t e : TypeId} {bytes : Nat} (ht : P.underlying t = some (.slice e)) (hinfo : (P.info? e).map (fun i => (i.zero, i.size, i.bytes)) = some (some (.int k 0), 1, bytes))
    {w : World} {ops : Array Oper} {rest : List Oper} {o : Oper} {a : Act} {Q : Exit → Act → World → Prop} (hgd : o.guard = none) (s x : Operand)
    (ho : o.op = .call { callee := .builtin .append, args := #[s, x], argTypes := #[t, t] }) (base : Nat)
    (v : Value) (xs : List Int) (hs : a.eval s = v) (hown : OwnK k e w base v xs) (u : Value) (zs : List Int) (hx : a.eval x = u) (hsl : Sl k w u zs)
    (h63 : xs.length + zs.length ≤ maxLen) (hb : (xs.length + zs.length) * bytes ≤ 140737488355328) (hbase : base ≤ w.heap.size)
    (h : ∀ v' w', OwnK k e w' base v' (xs ++ zs) → Below base w w' → wpList P ops Q rest (a.put o.dst v') w') : wpList P ops Q (o :: rest) a w := by
  obtain ⟨i0, hi, hz0, hz1, hz2⟩ := info_parts hinfo
  refine wp_app hgd s x t ho base e i0 (.int k 0) 1 bytes ht hi hz0 hz1 hz2 rfl (by decide) v xs.length _ hs hown u zs.length (zs.map (Value.int k)) hx hsl.src (by simp) (ints_oneCell _ _) h63 hb hbase ?_
  intro v' w' hown' hgrow
  refine h v' w' ?_ (Below.own (Below.refl _ _) hbase hown hgrow)
  unfold OwnK
  rw [List.map_append, List.length_append]
  exact hown'

/-- a literal's row is the call's own -/
theorem OwnK.new {k : IntKind} {e : TypeId} (w : World) {B : Nat} (cs : Array Value) (zs : List Int) {n : Nat} (h : cs = (zs.map (Value.int k)).toArray) (hn : n = zs.length) (hm : n ≤ maxLen) (hB : B ≤ w.heap.size) :
    OwnK k e (w.alloc (.cells cs e)) B (.slice (some ⟨w.heap.size, 0, none⟩) n n) zs := by
  subst h; subst hn
  have h := World.ownsRow_lit (e := e) (size := 1) w (zs.map (Value.int k)).toArray zs.length hB hm (by simp)
  simpa [OwnK] using h
theorem OwnK.newAt {k : IntKind} {e : TypeId} (w : World) (g : Nat) (hg : w.heap.size = g) {B : Nat} (cs : Array Value) (zs : List Int) {n : Nat} (h : cs = (zs.map (Value.int k)).toArray) (hn : n = zs.length) (hm : n ≤ maxLen) (hB : B ≤ w.heap.size) :
    OwnK k e (w.alloc (.cells cs e)) B (.slice (some ⟨g, 0, none⟩) n n) zs := by
  subst hg
  exact OwnK.new w cs zs h hn hm hB
theorem Sl.newAt {k : IntKind} {e : TypeId} {fr : Nat × Nat} (w : World) (g : Nat) (hg : w.heap.size = g) (cs : Array Value) (zs : List Int) {n c : Nat} (h : cs = (zs.map (Value.int k)).toArray) (hn : n = zs.length) (hc : n ≤ c) (hm : c ≤ maxLen) (hw : ∀ x ∈ zs, (Lit.int k x).wf = true) :
    Sl k (w.alloc (.cells cs e fr)) (.slice (some ⟨g, 0, none⟩) n c) zs := by
  subst hg
  exact Sl.new w cs zs h hn hc hm hw
end Go.Proofs.Ytdakkjpejhlciaa
