/- A wallet in memory, as landed: NewWallet, All. No condition. -/
import Derived.Test.YtgbblegcjladaaaLtC
import Derived.Test.YtgbblegcjladaaaMch
namespace Go.Proofs.Ytgbblegcjladaaa
open Go.ChangeShapes Go.WideShapes Go.ChangeAt Go.RowKit Go.Deep Go.Maps Go.ChangeMaps Go.MapKept
set_option linter.unusedVariables false
set_option maxRecDepth 100000
set_option linter.unusedSimpArgs false
namespace Lt
open Mp Mc
abbrev TW : TypeId := 118
/-- what a wallet knows: the time, when was asked and what (its kind is 0: nothing), what is trusted -/
structure Wa where
  now : Int
  made : Int
  c : Cmd
  L : List Tr
abbrev zCm : Cmd := ⟨0, 0, 0, [], 0, 0, 0, 0⟩
abbrev cmA (c : Cmd) : Array Value := #[.int .i64 c.kind, .int .i64 c.node, .int .i64 c.token, .slice none 0 0, .int .u64 c.boot, .int .u64 c.seq, .int .u64 c.serial, .int .u64 c.stamp]
abbrev waA (n : Int) (s : Wa) (g : Nat) : Array Value := #[.int .i64 n, .int .i64 s.now, .int .i64 s.c.kind, .int .i64 s.c.node, .int .i64 s.c.token, .slice none 0 0, .int .u64 s.c.boot, .int .u64 s.c.seq, .int .u64 s.c.serial, .int .u64 s.c.stamp, .int .i64 s.made, .map (some g)]
structure WaG (p : Nat) (n : Int) (s : Wa) (g : Nat) (w : World) (S : Nat → Prop) : Prop where
  row : w.heap[p]? = some (.cells (waA n s g) TW (0, 0))
  sp : S p
  sg : S g
  m : TrM w g s.L
  low : ∀ k, S k → k < w.heap.size
def WaX (p : Nat) (n : Int) (s : Wa) (w : World) (S : Nat → Prop) : Prop := ∃ g, WaG p n s g w S
variable {w w' : World} {S : Nat → Prop} {p g : Nat} {n : Int} {s : Wa}
theorem WaG.keep (h : WaG p n s g w S) (hb : ∀ k, S k → w'.heap[k]? = w.heap[k]?) (hz : w.heap.size ≤ w'.heap.size) : WaG p n s g w' S :=
  ⟨(hb p h.sp).trans h.row, h.sp, h.sg, h.m.block (hb g h.sg), fun k hk => Nat.lt_of_lt_of_le (h.low k hk) hz⟩
theorem goodW (p : Nat) (n : Int) (s : Wa) : Mc.Good (WaX p n s) :=
  ⟨fun ⟨_, h⟩ => h.low, fun ⟨g, h⟩ hb hz => ⟨g, h.keep hb hz⟩⟩
def newW : Wa := ⟨0, 0, zCm, []⟩
/-- what New answers -/
def NewW (n : Int) (w : World) (e : Ending) (w' : World) : Prop :=
  (0 ≤ n ∧ n ≤ 1073741824 ∧ (∃ p, e = .returned (.tuple #[.pointer (some ⟨p, 0, none⟩), .int .i64 0]) ∧ WaX p n newW w' (fun k => w.heap.size ≤ k ∧ k < w'.heap.size)) ∧ Below w.heap.size w w') ∨ (¬ (0 ≤ n ∧ n ≤ 1073741824) ∧ e = .returned (.tuple #[.pointer none, .int .i64 1]) ∧ w' = w)
theorem TrM.made (w : World) : TrM (w.alloc (.map #[] 0)) w.heap.size [] := ⟨Srt.nil, ⟨fun _ h => absurd h List.not_mem_nil, (Mp.made _ _ _ _ w).congr (fun _ _ => rfl)⟩⟩
set_option maxHeartbeats 4000000 in
theorem new_any (n : Int) (w : World) : Calls Try.prog 22 #[.int .i64 n] w (NewW n w) := by
  by_cases h1 : n < 0
  · have HF : Hid (¬ (0 ≤ n ∧ n ≤ 1073741824)) := Lib.hid (by omega)
    go_enter Try.func22, Try.ntmps22
    go_wp2
    go_ret2
    exact .inr ⟨HF.out, rfl, rfl⟩
  by_cases h2 : 1073741824 < n
  · have HF : Hid (¬ (0 ≤ n ∧ n ≤ 1073741824)) := Lib.hid (by omega)
    go_enter Try.func22, Try.ntmps22
    go_wp2
    go_ret2
    exact .inr ⟨HF.out, rfl, rfl⟩
  obtain ⟨g, hg⟩ : ∃ q, w.heap.size = q := ⟨_, rfl⟩
  obtain ⟨W1, hW1⟩ : ∃ q, w.alloc (.map #[] 0) = q := ⟨_, rfl⟩
  have hm1 : TrM W1 g [] := by rw [← hW1, ← hg]; exact TrM.made w
  have hb1 : Below w.heap.size w W1 := by rw [← hW1]; exact (Below.refl _ _).alloc (Nat.le_refl _) _
  obtain ⟨p, hp⟩ : ∃ q, W1.heap.size = q := ⟨_, rfl⟩
  obtain ⟨W2, hW2⟩ : ∃ q, W1.alloc (.cells (waA n newW g) TW) = q := ⟨_, rfl⟩
  have hb2 : Below W1.heap.size W1 W2 := by rw [← hW2]; exact (Below.refl _ _).alloc (Nat.le_refl _) _
  have hr : W2.heap[p]? = some (.cells (waA n newW g) TW (0, 0)) := by rw [← hW2, ← hp]; exact heap_alloc_new _ _
  have hm2 : TrM W2 g [] := hm1.block (hb2.block g hm1.2.2.lt)
  have HF : Hid (WaX p n newW W2 (fun k => w.heap.size ≤ k ∧ k < W2.heap.size) ∧ Below w.heap.size w W2) := Lib.hid
    ⟨⟨g, hr, ⟨by have := hb1.size; omega, row_lt hr⟩, ⟨by omega, hm2.2.2.lt⟩, hm2, fun k hk => hk.2⟩, hb1.trans (hb2.mono hb1.size)⟩
  have HN : Hid (0 ≤ n ∧ n ≤ 1073741824) := Lib.hid (by omega)
  have hmm := @run_makeMap Try.prog
  unfold newW at hW2
  clear hr hm1 hm2 hb1 hb2
  go_enter Try.func22, Try.ntmps22
  go_wp2_with (first | rw [hW1, hg] | rw [hW2, hp])
  go_ret2
  exact .inl ⟨HN.out.1, HN.out.2, ⟨p, rfl, HF.out.1⟩, HF.out.2⟩
set_option maxHeartbeats 4000000 in
theorem all_any (w : World) (h : WaX p n s w S) (hn : s.L.length ≤ 1000) :
    Calls Try.prog 49 #[.pointer (some ⟨p, 0, none⟩)] w fun e w' => ∃ v, e = .returned v ∧ OwnR 3 trC 115 w' w.heap.size v s.L ∧ Below w.heap.size w w' := by
  obtain ⟨g, h⟩ := h
  have c11 : w.cell? ⟨p, 11, none⟩ = some (.map (some g)) := (cell_of_row _ _ 11 _ _ _ h.row).trans rfl
  have HI := Lib.hid (inorder_any w h.m hn)
  clear h
  go_enter Try.func49, Try.ntmps49
  go_wp2_with (first | ((with_reducible refine HI.out.mono ?_); rintro e w1 ⟨v, rfl, o1, b1⟩; have H1 := Lib.hid (And.intro o1 b1); clear o1 b1))
  go_ret
  exact ⟨v, rfl, H1.out⟩
end Lt
end Go.Proofs.Ytgbblegcjladaaa
