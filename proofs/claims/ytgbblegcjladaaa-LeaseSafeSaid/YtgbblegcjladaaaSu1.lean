/- A holder, a ledger, a keeper, on lists: no token is taken back while its holder trusts it. No condition. A holder, a ledger, a keeper, on lists: what asks, answers and takings back leave. No condition. -/
import Derived.Test.YtgbblegcjladaaaLv
import Derived.Test.YtgbblegcjladaaaRpG
import Derived.Test.YtgbblegcjladaaaLsa
import Derived.Test.YtgbblegcjladaaaDrX
namespace Go.Proofs.Ytgbblegcjladaaa
open Go.ChangeShapes Go.WideShapes Go.ChangeAt Go.RowKit Go.Deep
set_option linter.unusedVariables false
set_option maxRecDepth 100000
set_option linter.unusedSimpArgs false
namespace Sf
open Lt Ls La Ld Cm
/-! ### two clocks -/
/-- how far the clocks are: it never falls -/
def phi (rho a b : Int) : Int := (1000 + rho) * a - (1000 - rho) * b
/-- a moment m of the holder's clock is not behind a moment t of the keeper's -/
def Rn (rho p m t : Int) : Prop := (1000 + rho) * m - (1000 - rho) * t ≤ p
variable {rho short n p p' m m' t t' a b A B : Int}
theorem Rn.up (h : Rn rho p m t) (hr : 0 ≤ rho ∧ rho ≤ 500) (hp : p ≤ p') (hm : m' ≤ m) (ht : t ≤ t') : Rn rho p' m' t' := by
  unfold Rn at *
  have h1 : (1000 + rho) * m' ≤ (1000 + rho) * m := Int.mul_le_mul_of_nonneg_left hm (by omega)
  have h2 : (1000 - rho) * t ≤ (1000 - rho) * t' := Int.mul_le_mul_of_nonneg_left ht (by omega)
  omega
theorem Rn.here (hr : 0 ≤ rho ∧ rho ≤ 500) (hm : m ≤ a) : Rn rho (phi rho a b) m b := by
  have h1 : (1000 + rho) * m ≤ (1000 + rho) * a := Int.mul_le_mul_of_nonneg_left hm (by omega)
  unfold Rn phi
  omega
theorem phi_up (hr : 0 ≤ rho ∧ rho ≤ 500) {r : Int} (h1 : Dr.mayB rho r A = true) (h2 : Dr.mayB rho r B = true) : phi rho a b ≤ phi rho (a + A) (b + B) ∧ 0 ≤ A ∧ 0 ≤ B ∧ A ≤ 1099511627776 ∧ B ≤ 1099511627776 := by
  unfold Dr.mayB at h1 h2
  have h1 := of_decide_eq_true h1
  have h2 := of_decide_eq_true h2
  refine ⟨?_, h1.2.2.2.2.1, h2.2.2.2.2.1, h1.2.2.2.2.2.1, h2.2.2.2.2.2.1⟩
  have e1 : (1000 + rho) * ((1000 - rho) * r) ≤ (1000 + rho) * (1000 * A) := Int.mul_le_mul_of_nonneg_left h1.2.2.2.2.2.2.1 (by omega)
  have e2 : (1000 - rho) * (1000 * B) ≤ (1000 - rho) * ((1000 + rho) * r) := Int.mul_le_mul_of_nonneg_left h2.2.2.2.2.2.2.2 (by omega)
  have e3 : (1000 + rho) * ((1000 - rho) * r) = (1000 - rho) * ((1000 + rho) * r) := by rw [← Int.mul_assoc, ← Int.mul_assoc, Int.mul_comm (1000 + rho)]
  have e4 : (1000 + rho) * (1000 * A) = 1000 * ((1000 + rho) * A) := by rw [← Int.mul_assoc, Int.mul_comm (1000 + rho), Int.mul_assoc]
  have e5 : (1000 - rho) * (1000 * B) = 1000 * ((1000 - rho) * B) := by rw [← Int.mul_assoc, Int.mul_comm (1000 - rho), Int.mul_assoc]
  unfold phi
  rw [Int.mul_add, Int.mul_add]
  omega
/-- what was trusted from m on is not trusted any more when a lease is over since t -/
theorem over (hr : 0 ≤ rho ∧ rho ≤ 500) (hs : (1000 + rho) * short ≤ (1000 - rho) * n) (h : Rn rho (phi rho a b) m t) (hb : n ≤ b - t) : m + short ≤ a := by
  unfold Rn phi at h
  have h1 : (1000 - rho) * n ≤ (1000 - rho) * (b - t) := Int.mul_le_mul_of_nonneg_left hb (by omega)
  rw [Int.mul_sub] at h1
  have h2 : (1000 + rho) * (m + short) ≤ (1000 + rho) * a := by rw [Int.mul_add]; omega
  exact Int.le_of_mul_le_mul_left h2 (by omega)
theorem short_le (hr : 0 ≤ rho ∧ rho ≤ 500) (hn : 1 ≤ n ∧ n ≤ 1073741824) : (1000 + rho) * Dr.sh rho n ≤ (1000 - rho) * n ∧ 0 ≤ Dr.sh rho n ∧ Dr.sh rho n ≤ n := by
  have h0 : 0 ≤ n * (1000 - rho) := Int.mul_nonneg (by omega) (by omega)
  have h1 := Int.mul_ediv_self_le (x := n * (1000 - rho)) (k := 1000 + rho) (by omega)
  have h2 : 0 ≤ n * (1000 - rho) / (1000 + rho) := Int.ediv_nonneg h0 (by omega)
  unfold Dr.sh
  refine ⟨by rw [Int.mul_comm (1000 - rho) n]; exact h1, h2, ?_⟩
  have h3 : n * (1000 - rho) ≤ n * (1000 + rho) := Int.mul_le_mul_of_nonneg_left (by omega) (by omega)
  exact Int.ediv_le_of_le_mul (by omega) h3
/-! ### since when the rows of a token are known -/
variable {R : Int → Prop} {tk sr : Int} {K : List Row} {H : List Held}
def Sc (R : Int → Prop) (tk sr : Int) (K : List Row) : Prop := ∀ k ∈ K, k.h.token = tk → k.h.serial = sr → R k.since
theorem Sc.sees (h : Sc R tk sr K) {now : Int} (hb : R (timeV now)) : Sc R tk sr (seesV now K H) := by
  intro k hk h1 h2
  obtain ⟨x, hx, rfl⟩ := List.mem_map.1 hk
  show R (sinceOf K (keyR x) (timeV now))
  unfold sinceOf
  cases hf : findX K (keyR x) with
  | none => exact hb
  | some y =>
    obtain ⟨hy, e⟩ := find_mem hf
    have e1 : y.h.token = x.token := congrArg KR.token e
    have e2 : y.h.serial = x.serial := congrArg KR.serial e
    exact h y hy (e1.trans h1) (e2.trans h2)
theorem Sc.done (h : Sc R tk sr K) {now : Int} (hb : R (timeV now)) : Sc R tk sr (doneV n now K) := by
  intro k hk h1 h2
  obtain ⟨x, hx, rfl⟩ := List.mem_map.1 hk
  rw [anew_h] at h1 h2
  unfold anew
  split
  · exact hb
  · exact h x hx h1 h2
theorem Sc.fresh {now : Int} (hb : R (timeV now)) (hf : ∀ x ∈ H, x.token = tk → x.serial = sr → keyR x ∉ K.map keyX) : Sc R tk sr (seesV now K H) := by
  intro k hk h1 h2
  obtain ⟨x, hx, rfl⟩ := List.mem_map.1 hk
  show R (sinceOf K (keyR x) (timeV now))
  unfold sinceOf
  rw [Ls.find_none (hf x hx h1 h2)]
  exact hb
theorem Sc.mono {R' : Int → Prop} (h : Sc R tk sr K) (hR : ∀ t, R t → R' t) : Sc R' tk sr K := fun k hk h1 h2 => hR _ (h k hk h1 h2)
theorem sees_h (now : Int) (K : List Row) (H : List Held) : (seesV now K H).map Row.h = H := by unfold seesV; rw [List.map_map]; exact List.map_id _
theorem done_h (n now : Int) (K : List Row) : (doneV n now K).map Row.h = K.map Row.h := by unfold doneV; rw [List.map_map]; exact List.map_congr_left (fun x _ => anew_h n now x)
/-! ### the play -/
structure Pl where
  s : Wa
  K : List Row
  l : Led
  a : Int
  b : Int
  idx : Int
  seq : Int
  asked : List Cmd
  ans : Int → Option La.Ans
/-- a request that was asked -/
structure AskOk (x : Pl) (c : Cmd) : Prop where
  node : c.node = 1
  boot : c.boot = 1
  seq : 1 ≤ c.seq ∧ c.seq ≤ x.seq
  kind : c.kind = 3 ∨ c.kind = 4
  chk : chkC c = true
  wf : c.wf
  it : x.s.c.kind ≠ 0 → c.seq = x.s.c.seq → c = x.s.c
structure Inv (rho short : Int) (j m : Nat) (x : Pl) : Prop where
  ra : 0 ≤ x.a ∧ x.a ≤ 1125899906842624
  rb : 0 ≤ x.b ∧ x.b ≤ 1125899906842624
  now : x.s.now = x.a
  ok : OkW x.s
  made : x.s.made ≤ x.a
  til : ∀ t ∈ x.s.L, x.a < t.til ∧ t.til ≤ x.a + short
  tr : ∀ t ∈ x.s.L, Sc (Rn rho (phi rho x.a x.b) (t.til - short)) t.tok t.ser x.K
  kh : x.K.map Row.h = x.l.held
  kok : OkL x.K
  led : LedP x.l ∧ x.l.wf
  st : ∀ h ∈ x.l.held, h.stamp ≤ x.idx
  last : ∀ r ∈ x.l.last, r.node = 1 → r.boot = 1 ∧ r.seq ≤ x.seq ∧ (x.ans r.seq).isSome
  keys : ∀ q a, x.ans q = some a → q ≤ x.seq ∧ a.wf
  ask : ∀ c ∈ x.asked, AskOk x c
  pend : x.s.c.kind ≠ 0 → x.s.c.seq = x.seq ∧ ∀ a, x.ans x.s.c.seq = some a →
    (x.s.c.kind = 3 → a.code = 1 → Sc (Rn rho (phi rho x.a x.b) x.s.made) a.token a.serial x.K) ∧
    (x.s.c.kind = 4 → a.code = 3 → Sc (Rn rho (phi rho x.a x.b) x.s.made) x.s.c.token x.s.c.serial x.K)
  len : x.s.L.length ≤ j ∧ x.asked.length ≤ j ∧ 0 ≤ x.seq ∧ x.seq ≤ j ∧ 0 ≤ x.idx ∧ x.idx ≤ m
variable {j m : Nat} {x : Pl}
theorem Inv.tb (h : Inv rho short j m x) : timeV x.b = x.b := time_id h.rb.1 (by have := h.rb.2; omega)
theorem Inv.more {k k' : Nat} (h : Inv rho short j m x) (hk : j ≤ k) (hm : m ≤ k') : Inv rho short k k' x :=
  ⟨h.ra, h.rb, h.now, h.ok, h.made, h.til, h.tr, h.kh, h.kok, h.led, h.st, h.last, h.keys, h.ask, h.pend, by have := h.len; omega⟩
def led0 : Led := ⟨3, 1, [], []⟩
theorem led0_ok : LedP led0 ∧ led0.wf := ⟨⟨by decide, by decide, by decide, by decide, ⟨.nil, by simp [led0]⟩, .nil, by simp [led0]⟩, rfl, rfl, by simp [led0], by simp [led0]⟩
def pl0 : Pl := ⟨newW, [], led0, 0, 0, 0, 0, [], fun _ => none⟩
theorem inv0 (rho short : Int) : Inv rho short 0 0 pl0 :=
  ⟨by simp [pl0], by simp [pl0], rfl, okW_new, Int.le_refl 0, fun t ht => absurd ht List.not_mem_nil, fun t ht => absurd ht List.not_mem_nil, rfl, OkL.nil, led0_ok, fun h hh => absurd hh List.not_mem_nil, fun h hh => absurd hh List.not_mem_nil, fun q a e => (by cases e), fun h hh => absurd hh List.not_mem_nil, fun h => absurd rfl h, by simp [pl0, newW]⟩
/-- time goes by -/
theorem Inv.time (h : Inv rho short j m x) (hr : 0 ≤ rho ∧ rho ≤ 500) (h1 : phi rho x.a x.b ≤ phi rho (x.a + A) (x.b + B)) (hA : 0 ≤ A) (hB : 0 ≤ B) (ha : x.a + A ≤ 1125899906842624) (hb : x.b + B ≤ 1125899906842624) :
    Inv rho short j m { x with a := x.a + A, b := x.b + B, s := atW (x.a + A) x.s } := by
  have hra := h.ra
  have hrb := h.rb
  have e : timeV (x.a + A) = x.a + A := time_id (by omega) (by omega)
  have hnow : (atW (x.a + A) x.s).now = x.a + A := by
    unfold atW
    dsimp only
    rw [e, h.now]
    omega
  have hL : ∀ t ∈ (atW (x.a + A) x.s).L, t ∈ x.s.L ∧ x.a + A < t.til := by
    intro t ht
    have h2 := List.mem_filter.1 ht
    refine ⟨h2.1, ?_⟩
    have h3 := h2.2
    rw [e, h.now] at h3
    simp only [Bool.not_eq_true', decide_eq_false_iff_not] at h3
    omega
  refine ⟨⟨by dsimp only; omega, ha⟩, ⟨by dsimp only; omega, hb⟩, hnow, h.ok.at _, by have := h.made; show x.s.made ≤ x.a + A; omega, fun t ht => ⟨(hL t ht).2, by have := (h.til t (hL t ht).1).2; dsimp only; omega⟩, fun t ht => (h.tr t (hL t ht).1).mono (fun q hq => hq.up hr h1 (Int.le_refl _) (Int.le_refl _)), h.kh, h.kok, h.led, h.st, h.last, h.keys, fun c hc => ⟨(h.ask c hc).node, (h.ask c hc).boot, (h.ask c hc).seq, (h.ask c hc).kind, (h.ask c hc).chk, (h.ask c hc).wf, (h.ask c hc).it⟩, fun hk => ⟨(h.pend hk).1, fun a ha => ⟨fun h3 h4 => (((h.pend hk).2 a ha).1 h3 h4).mono (fun q hq => hq.up hr h1 (Int.le_refl _) (Int.le_refl _)), fun h3 h4 => (((h.pend hk).2 a ha).2 h3 h4).mono (fun q hq => hq.up hr h1 (Int.le_refl _) (Int.le_refl _))⟩⟩, ?_⟩
  have := h.len
  have h9 := at_len (x.a + A) x.s
  dsimp only at *
  omega
/-- the keeper sees a ledger: whatever the ledger, what is known of the trusts stays so -/
theorem Inv.leads (h : Inv rho short j m x) (hr : 0 ≤ rho ∧ rho ≤ 500) {K : List Row} (hk : K = []) : Inv rho short j m { x with K := seesV x.b K x.l.held } := by
  subst hk
  have tb := h.tb
  have hm : ∀ {m : Int}, m ≤ x.a → Rn rho (phi rho x.a x.b) m (timeV x.b) := fun hm => by rw [tb]; exact Rn.here hr hm
  have hz : ∀ (R : Int → Prop) (tk sr : Int), Sc R tk sr [] := fun R tk sr k hk => absurd hk List.not_mem_nil
  refine ⟨h.ra, h.rb, h.now, h.ok, h.made, h.til, fun t ht => (hz _ _ _).sees (hm (by have := (h.til t ht).2; omega)), sees_h _ _ _, OkL.nil.sees _ h.led.2.2.2.1 (held_nd h.led.1), h.led, h.st, h.last, h.keys, fun c hc => ⟨(h.ask c hc).node, (h.ask c hc).boot, (h.ask c hc).seq, (h.ask c hc).kind, (h.ask c hc).chk, (h.ask c hc).wf, (h.ask c hc).it⟩, fun hk => ⟨(h.pend hk).1, fun a ha => ⟨fun _ _ => (hz _ _ _).sees (hm h.made), fun _ _ => (hz _ _ _).sees (hm h.made)⟩⟩, h.len⟩
/-- what is due counts anew -/
theorem Inv.done (h : Inv rho short j m x) (hr : 0 ≤ rho ∧ rho ≤ 500) (n : Int) : Inv rho short j m { x with K := doneV n x.b x.K } := by
  have tb := h.tb
  have hm : ∀ {m : Int}, m ≤ x.a → Rn rho (phi rho x.a x.b) m (timeV x.b) := fun hm => by rw [tb]; exact Rn.here hr hm
  exact ⟨h.ra, h.rb, h.now, h.ok, h.made, h.til, fun t ht => (h.tr t ht).done (hm (by have := (h.til t ht).2; omega)), (done_h _ _ _).trans h.kh, h.kok.done _ _, h.led, h.st, h.last, h.keys, fun c hc => ⟨(h.ask c hc).node, (h.ask c hc).boot, (h.ask c hc).seq, (h.ask c hc).kind, (h.ask c hc).chk, (h.ask c hc).wf, (h.ask c hc).it⟩, fun hk => ⟨(h.pend hk).1, fun a ha => ⟨fun h3 h4 => (((h.pend hk).2 a ha).1 h3 h4).done (hm h.made), fun h3 h4 => (((h.pend hk).2 a ha).2 h3 h4).done (hm h.made)⟩⟩, h.len⟩
/-- THE SAFETY: what is due is not trusted -/
theorem Inv.safe (h : Inv rho short j m x) (hr : 0 ≤ rho ∧ rho ≤ 500) (hs : (1000 + rho) * short ≤ (1000 - rho) * n) {z : KR} (hz : z ∈ dueK n x.b x.K) {t : Tr} (ht : t ∈ x.s.L) : ¬ (t.tok = z.token ∧ t.ser = z.serial) := by
  rintro ⟨h1, h2⟩
  obtain ⟨k, hk, rfl⟩ := List.mem_map.1 hz
  obtain ⟨hk, hd⟩ := List.mem_filter.1 hk
  have hd : n ≤ timeV x.b - k.since := of_decide_eq_true hd
  rw [h.tb] at hd
  have := over hr hs (h.tr t ht k hk h1.symm h2.symm) hd
  have := (h.til t ht).1
  omega
end Sf
end Go.Proofs.Ytgbblegcjladaaa
namespace Go.Proofs.Ytgbblegcjladaaa
open Go.ChangeShapes Go.WideShapes Go.ChangeAt Go.RowKit Go.Deep
set_option linter.unusedVariables false
set_option maxRecDepth 100000
set_option linter.unusedSimpArgs false
namespace Sf
open Lt Ls La Ld Cm
variable {rho short n : Int} {j m : Nat} {x : Pl}
theorem AskOk.same {c : Cmd} {y : Pl} (h : AskOk x c) (hs : x.seq ≤ y.seq) (hc : y.s.c = x.s.c) : AskOk y c :=
  ⟨h.node, h.boot, by have := h.seq; omega, h.kind, h.chk, h.wf, by rw [hc]; exact h.it⟩
theorem ask_same {s : Wa} {c : Cmd} (h : askE s c ≠ 0) : askV s c = s := by
  unfold askE at h
  unfold askV
  split
  · rename_i h2
    rw [if_pos h2.1, if_pos h2.2] at h
    exact absurd rfl h
  · rfl
theorem reqK {c : Cmd} (h : reqB c = true) : c.kind = 3 ∨ c.kind = 4 ∨ c.kind = 5 := by
  unfold reqB at h
  simp only [Bool.and_eq_true, Bool.or_eq_true, beq_iff_eq] at h
  omega
theorem reqN {c : Cmd} (h : reqB c = true) : c.nodes = [] := by
  have hk := reqK h
  unfold reqB at h
  exact La.req_nodes (Bool.and_eq_true _ _ ▸ h).2 hk
theorem ask_yes {s : Wa} {c : Cmd} (h : askE s c = 0) : reqB c = true ∧ s.c.kind = 0 ∧ askV s c = ⟨s.now, s.now, c, s.L⟩ := by
  unfold askE at h
  split at h
  · rename_i h1
    split at h
    · rename_i h2
      refine ⟨h1, h2, ?_⟩
      unfold askV
      rw [if_pos ⟨h1, h2⟩]
      unfold bare
      rw [← reqN h1]
    · cases h
  · cases h
/-- the holder asks -/
theorem Inv.asks (h : Inv rho short j m x) {c : Cmd} (he : askE x.s c = 0) (h1 : c.node = 1) (h2 : c.boot = 1) (h3 : c.seq = x.seq + 1) (h4 : c.kind = 3 ∨ c.kind = 4) (hw : c.wf) :
    Inv rho short (j + 1) m { x with s := askV x.s c, seq := x.seq + 1, asked := x.asked ++ [c] } := by
  obtain ⟨e1, e2, e3⟩ := ask_yes he
  have hl := h.len
  have hok := h.ok.ask hw
  rw [e3] at hok ⊢
  have hchk : chkC c = true := by
    unfold reqB at e1
    exact (Bool.and_eq_true _ _ ▸ e1).2
  refine ⟨h.ra, h.rb, h.now, hok, Int.le_of_eq h.now, h.til, h.tr, h.kh, h.kok, h.led, h.st, fun r hr hn => ?_, fun q a ha => ?_, fun d hd => ?_, fun hk => ⟨h3, fun a ha => ?_⟩, ?_⟩
  · have := h.last r hr hn
    exact ⟨this.1, by dsimp only; omega, this.2.2⟩
  · have := h.keys q a ha
    exact ⟨by dsimp only; omega, this.2⟩
  · rcases List.mem_append.1 hd with hd | hd
    · have g := h.ask d hd
      exact ⟨g.node, g.boot, by have := g.seq; dsimp only; omega, g.kind, g.chk, g.wf, fun _ hq => by have := g.seq; dsimp only at hq; omega⟩
    · rw [List.mem_singleton.1 hd]
      exact ⟨h1, h2, by dsimp only; omega, h4, hchk, hw, fun _ _ => rfl⟩
  · have := h.keys _ a ha
    dsimp only at this
    omega
  · simp only [List.length_append, List.length_singleton]
    omega
/-- what the holder is told -/
theorem Inv.told (h : Inv rho short j m x) {a : La.Ans} (hk : x.s.c.kind ≠ 0) (ha : x.ans x.s.c.seq = some a) (hs : 0 ≤ short) : Inv rho short (j + 1) m { x with s := toldV short x.s a } := by
  have hpd := (h.pend hk).2 a ha
  have hl := h.len
  have hok := h.ok.told short a
  have hlen := told_len short x.s a
  have hnow : (toldV short x.s a).now = x.s.now := by unfold toldV; rw [if_neg hk]
  have hmade : (toldV short x.s a).made = 0 := by unfold toldV; rw [if_neg hk]
  have hc : (toldV short x.s a).c = zCm := by unfold toldV; rw [if_neg hk]
  have hL : (toldV short x.s a).L = toldL short x.s a := by unfold toldV; rw [if_neg hk]
  have hmd := h.made
  have hra := h.ra
  have hnw := h.now
  have hall : ∀ t ∈ toldL short x.s a, (x.a < t.til ∧ t.til ≤ x.a + short) ∧ Sc (Rn rho (phi rho x.a x.b) (t.til - short)) t.tok t.ser x.K := by
    have old : ∀ t ∈ x.s.L, (x.a < t.til ∧ t.til ≤ x.a + short) ∧ Sc (Rn rho (phi rho x.a x.b) (t.til - short)) t.tok t.ser x.K := fun t ht => ⟨h.til t ht, h.tr t ht⟩
    unfold toldL
    split
    · rename_i h3
      split
      · rename_i h4
        intro t ht
        rcases mem_wi.1 ht with rfl | ht
        · have hq := hpd.1 h3 h4.1
          have hu := h4.2
          unfold untilV at hu ⊢
          refine ⟨⟨by dsimp only; omega, by dsimp only; omega⟩, hq.mono (fun q hq => ?_)⟩
          have : x.s.made + short - short = x.s.made := by omega
          dsimp only
          rw [this]
          exact hq
        · exact old t ht.1
      · exact old
    · split
      · exact old
      · rename_i y hy
        split
        · rename_i hsr
          have hym : y ∈ x.s.L := List.mem_of_find?_eq_some hy
          have hyt : y.tok = x.s.c.token := by simpa using List.find?_some hy
          split
          · rename_i h4
            intro t ht
            rcases mem_wi.1 ht with rfl | ht
            · have hq := hpd.2 h4.1 h4.2
              have ho := old y hym
              unfold untilV
              rcases Int.lt_or_le y.til (x.s.made + short) with hlt | hle
              · have e : max y.til (x.s.made + short) = x.s.made + short := by omega
                rw [e]
                refine ⟨⟨by have := ho.1; dsimp only; omega, by dsimp only; omega⟩, ?_⟩
                have : x.s.made + short - short = x.s.made := by omega
                dsimp only
                rw [this, hyt, hsr]
                exact hq
              · have e : max y.til (x.s.made + short) = y.til := by omega
                rw [e]
                exact ho
            · exact old t ht.1
          · split
            · exact fun t ht => old t (mem_wo.1 ht).1
            · exact old
        · exact old
  refine ⟨h.ra, h.rb, hnow.trans h.now, hok, by dsimp only; rw [hmade]; omega, fun t ht => ?_, fun t ht => ?_, h.kh, h.kok, h.led, h.st, h.last, h.keys, fun d hd => ?_, fun hk2 => ?_, ?_⟩
  · dsimp only at ht
    rw [hL] at ht
    exact (hall t ht).1
  · dsimp only at ht
    rw [hL] at ht
    exact (hall t ht).2
  · have g := h.ask d hd
    exact ⟨g.node, g.boot, g.seq, g.kind, g.chk, g.wf, fun hq => by dsimp only at hq; rw [hc] at hq; exact absurd rfl hq⟩
  · dsimp only at hk2
    rw [hc] at hk2
    exact absurd rfl hk2
  · dsimp only
    omega
/-! ### the ledger turns, the keeper sees it -/
theorem Inv.turn (h : Inv rho short j m x) (hr : 0 ≤ rho ∧ rho ≤ 500) {l' : Led} {ans' : Int → Option La.Ans} (hl : LedP l' ∧ l'.wf) (hst : ∀ y ∈ l'.held, y.stamp ≤ x.idx + 1)
    (hlast : ∀ r ∈ l'.last, r.node = 1 → r.boot = 1 ∧ r.seq ≤ x.seq ∧ (ans' r.seq).isSome) (hkeys : ∀ q a, ans' q = some a → q ≤ x.seq ∧ a.wf)
    (hp : x.s.c.kind ≠ 0 → ∀ a, ans' x.s.c.seq = some a → x.ans x.s.c.seq = some a ∨
      ((x.s.c.kind = 3 → a.code = 1 → Sc (Rn rho (phi rho x.a x.b) x.s.made) a.token a.serial (seesV x.b x.K l'.held)) ∧
       (x.s.c.kind = 4 → a.code = 3 → Sc (Rn rho (phi rho x.a x.b) x.s.made) x.s.c.token x.s.c.serial (seesV x.b x.K l'.held)))) :
    Inv rho short j (m + 1) { x with idx := x.idx + 1, l := l', K := seesV x.b x.K l'.held, ans := ans' } := by
  have tb := h.tb
  have hm : ∀ {m : Int}, m ≤ x.a → Rn rho (phi rho x.a x.b) m (timeV x.b) := fun hm => by rw [tb]; exact Rn.here hr hm
  refine ⟨h.ra, h.rb, h.now, h.ok, h.made, h.til, fun t ht => (h.tr t ht).sees (hm (by have := (h.til t ht).2; omega)), sees_h _ _ _, h.kok.sees _ hl.2.2.2.1 (held_nd hl.1), hl, hst, hlast, hkeys, fun c hc => (h.ask c hc).same (Int.le_refl _) rfl, fun hk => ⟨(h.pend hk).1, fun a ha => ?_⟩, ?_⟩
  · rcases hp hk a ha with hq | hq
    · exact ⟨fun h3 h4 => (((h.pend hk).2 a hq).1 h3 h4).sees (hm h.made), fun h3 h4 => (((h.pend hk).2 a hq).2 h3 h4).sees (hm h.made)⟩
    · exact hq
  · have := h.len
    dsimp only
    omega
theorem exec_stamp {l : Led} {i k : Int} {c : Cmd} (hst : ∀ y ∈ l.held, y.stamp ≤ k) (hk : k ≤ i) : ∀ y ∈ (execL l i c).1.held, y.stamp ≤ i := by
  have old : ∀ y ∈ l.held, y.stamp ≤ i := fun y hy => Int.le_trans (hst y hy) hk
  unfold execL
  split
  · unfold grantL
    split
    · exact old
    · intro y hy
      rcases mem_put.1 hy with rfl | hy
      · exact Int.le_refl i
      · exact old y hy
  · split
    · exact old
    · split
      · intro y hy
        rcases List.mem_or_eq_of_mem_set hy with hy | rfl
        · exact old y hy
        · exact Int.le_refl i
      · exact fun y hy => old y ((cut_sub _ _).subset hy)
/-- a row is taken back -/
theorem Inv.back (h : Inv rho short j m x) (hr : 0 ≤ rho ∧ rho ≤ 500) {y : Held} (hy : y ∈ x.l.held) (hm : m < 100000) :
    errL x.l (x.idx + 1) (recK (keyR y)) = 0 ∧ Inv rho short j (m + 1) { x with idx := x.idx + 1, l := (doL x.l (x.idx + 1) (recK (keyR y))).1, K := seesV x.b x.K (doL x.l (x.idx + 1) (recK (keyR y))).1.held } := by
  have hl := h.len
  have hck := rec_chk h.led.1 (h.led.2.2.2.1 y hy) hy
  have hw := h.led.2.2.2.1 y hy
  have hcw : (recK (keyR y)).wf := ⟨rfl, rfl, hw.1, rfl, rfl, hw.2.2.2.1, hw.2.2.2.2⟩
  have hi : x.idx + 1 ≠ 0 := by omega
  have hiw : (Lit.int .u64 (x.idx + 1)).wf = true := wf_u64 (by omega) (by omega)
  have e : doL x.l (x.idx + 1) (recK (keyR y)) = execL x.l (x.idx + 1) (recK (keyR y)) := rfl
  refine ⟨err_zero.2 ⟨led_iff.2 h.led.1, hck, hi⟩, h.turn (ans' := x.ans) hr ⟨(do_ok h.led.1 h.led.2 hcw hck hi).1, (do_wf h.led.1 h.led.2 hcw hiw).1⟩ ?_ ?_ h.keys (fun hk a ha => .inl ha)⟩
  · rw [e]
    exact exec_stamp h.st (by omega)
  · rw [e, exec_last]
    exact h.last
theorem mem_lastPut {y z : LastR} {xs : List LastR} (h : y ∈ Lr.lastPut z xs) : y = z ∨ y ∈ xs := by
  unfold Lr.lastPut at h
  rcases List.mem_append.1 h with h | h
  · exact .inr (List.mem_of_mem_take h)
  · rcases List.mem_cons.1 h with h | h
    · exact .inl h
    · unfold Lr.neN at h
      exact .inr (List.mem_of_mem_drop (List.mem_filter.1 h).1)
def recA (x : Pl) (c : Cmd) (a : La.Ans) : Int → Option La.Ans := if x.ans c.seq = none ∧ a.code ≠ 6 then fun q => if q = c.seq then some a else x.ans q else x.ans
/-- a new row's name is new -/
theorem fresh_grant {l : Led} {i : Int} {c : Cmd} (hL : LedP l) (h3 : c.kind = 3) (h1 : (execL l i c).2.code = 1) {K : List Row} (hk : K.map Row.h = l.held) : ∀ y ∈ (execL l i c).1.held, y.token = (execL l i c).2.token → y.serial = (execL l i c).2.serial → keyR y ∉ K.map keyX := by
  unfold execL at h1 ⊢
  rw [if_pos h3] at h1 ⊢
  unfold grantL at h1 ⊢
  split at h1
  · cases h1
  · rename_i hf
    rw [if_neg hf]
    intro y hy _ e2 hin
    obtain ⟨k, hkm, e⟩ := List.mem_map.1 hin
    have hm : k.h ∈ l.held := by rw [← hk]; exact List.mem_map_of_mem hkm
    have e3 : k.h.serial = y.serial := congrArg KR.serial e
    have := (hL.2.2.2.2.1.2 k.h hm).2.2.2.2.2.2.2
    dsimp only at e2
    omega
theorem fresh_renew {l : Led} {i : Int} {c : Cmd} (hL : LedP l) (h4 : c.kind = 4) (h3 : (execL l i c).2.code = 3) {K : List Row} (hk : K.map Row.h = l.held) (hst : ∀ y ∈ l.held, y.stamp < i) : ∀ y ∈ (execL l i c).1.held, y.token = c.token → y.serial = c.serial → keyR y ∉ K.map keyX := by
  unfold execL at h3 ⊢
  rw [if_neg (by omega)] at h3 ⊢
  cases hx : l.held[fitAt c l.held]? with
  | none => rw [hx] at h3; cases h3
  | some z =>
    rw [hx] at h3
    simp only [h4, if_true] at h3 ⊢
    have hnm : named c z = true := by
      have hlt := (List.getElem?_eq_some_iff.1 hx).1
      have := List.findIdx_getElem (p := named c) (xs := l.held) (w := hlt)
      have this : named c (l.held[fitAt c l.held]) = true := this
      rw [(List.getElem?_eq_some_iff.1 hx).2] at this
      exact this
    have hzt : z.token = c.token := by
      unfold named at hnm
      rw [if_neg (by omega)] at hnm
      exact (of_decide_eq_true hnm).1
    intro y hy e1 e2 hin
    obtain ⟨k, hkm, e⟩ := List.mem_map.1 hin
    have hm : k.h ∈ l.held := by rw [← hk]; exact List.mem_map_of_mem hkm
    have e3 : k.h.stamp = y.stamp := congrArg KR.stamp e
    have := hst k.h hm
    obtain ⟨q, hq⟩ := List.mem_iff_getElem?.1 hy
    rw [List.getElem?_set] at hq
    split at hq
    · split at hq
      · cases hq
        have : (restamp i z).stamp = i := rfl
        omega
      · cases hq
    · rename_i hne
      have hz := (List.getElem?_eq_some_iff.1 hx)
      have hy2 := (List.getElem?_eq_some_iff.1 hq)
      have hp := List.pairwise_iff_getElem.1 hL.2.2.2.2.1.1
      rcases Nat.lt_or_gt_of_ne hne with hlt | hgt
      · have := (hp _ _ hz.1 hy2.1 hlt).1
        rw [hz.2, hy2.2] at this
        omega
      · have := (hp _ _ hy2.1 hz.1 hgt).1
        rw [hz.2, hy2.2] at this
        omega
theorem exec_code {l : Led} {i : Int} {c : Cmd} : (execL l i c).2.code ≠ 6 := by
  unfold execL
  split
  · unfold grantL
    split
    · show (2 : Int) ≠ 6; decide
    · show (1 : Int) ≠ 6; decide
  · split
    · show (4 : Int) ≠ 6; decide
    · split
      · show (3 : Int) ≠ 6; decide
      · show (5 : Int) ≠ 6; decide
theorem rec_old {x : Pl} {c : Cmd} {a : La.Ans} {q : Int} (h : (x.ans q).isSome = true) : (recA x c a q).isSome = true := by
  unfold recA
  split
  · dsimp only
    split
    · rfl
    · exact h
  · exact h
theorem rec_keys {x : Pl} {c : Cmd} {a : La.Ans} (h : ∀ q b, x.ans q = some b → q ≤ x.seq ∧ b.wf) (hc : c.seq ≤ x.seq) (ha : a.wf) : ∀ q b, recA x c a q = some b → q ≤ x.seq ∧ b.wf := by
  intro q b hq
  unfold recA at hq
  split at hq
  · dsimp only at hq
    split at hq
    · rename_i e
      cases hq
      exact ⟨by omega, ha⟩
    · exact h q b hq
  · exact h q b hq
/-- what was asked is applied, and the answer noted -/
theorem Inv.does (h : Inv rho short j m x) (hr : 0 ≤ rho ∧ rho ≤ 500) {c : Cmd} (hc : c ∈ x.asked) (hm : m < 100000) :
    errL x.l (x.idx + 1) c = 0 ∧ (doL x.l (x.idx + 1) c).2.wf ∧ Inv rho short j (m + 1) { x with idx := x.idx + 1, l := (doL x.l (x.idx + 1) c).1, K := seesV x.b x.K (doL x.l (x.idx + 1) c).1.held, ans := recA x c (doL x.l (x.idx + 1) c).2 } := by
  have hl := h.len
  have g := h.ask c hc
  have hi : x.idx + 1 ≠ 0 := by omega
  have hiw : (Lit.int .u64 (x.idx + 1)).wf = true := wf_u64 (by omega) (by omega)
  have tb := h.tb
  have hmm : Rn rho (phi rho x.a x.b) x.s.made (timeV x.b) := by rw [tb]; exact Rn.here hr h.made
  have hwf := do_wf h.led.1 h.led.2 g.wf hiw
  have e : doL x.l (x.idx + 1) c = onceL x.l (x.idx + 1) c := by
    unfold doL
    rw [if_neg (by have := g.kind; omega), if_neg (by have := g.kind; omega)]
  have hold : ¬ (∀ y ∈ x.l.last, y.node = c.node → older c y = false ∧ again c y = false) → (onceL x.l (x.idx + 1) c).1 = x.l ∧ recA x c (onceL x.l (x.idx + 1) c).2 = x.ans := by
    intro hno
    have ⟨y, hy⟩ := Classical.not_forall.1 hno
    have ⟨hm1, hy2⟩ := Classical.not_imp.1 hy
    have ⟨hn, hy3⟩ := Classical.not_imp.1 hy2
    cases ho : older c y
    · have ha : again c y = true := by
        cases ha : again c y
        · exact absurd ⟨ho, ha⟩ hy3
        · rfl
      rw [Lr.once_again h.led.1 hm1 hn ho ha]
      refine ⟨rfl, ?_⟩
      have hq := h.last y hm1 (hn.trans g.node)
      have hsq : y.seq = c.seq := by unfold again at ha; exact (of_decide_eq_true ha).2
      unfold recA
      rw [if_neg]
      rintro ⟨hn0, -⟩
      rw [hsq, hn0] at hq
      cases hq.2.2
    · rw [Lr.once_old h.led.1 hm1 hn ho]
      refine ⟨rfl, ?_⟩
      unfold recA
      rw [if_neg (fun h => h.2 rfl)]
  refine ⟨err_zero.2 ⟨led_iff.2 h.led.1, g.chk, hi⟩, hwf.2, h.turn hr ⟨(do_ok h.led.1 h.led.2 g.wf g.chk hi).1, hwf.1⟩ ?_ ?_ (rec_keys h.keys g.seq.2 hwf.2) ?_⟩
  all_goals rw [e]
  all_goals by_cases hno : ∀ y ∈ x.l.last, y.node = c.node → older c y = false ∧ again c y = false
  · rw [Lr.once_new h.led.1 hno]
    exact exec_stamp h.st (by omega)
  · rw [(hold hno).1]
    exact fun y hy => by have := h.st y hy; omega
  · rw [Lr.once_new h.led.1 hno]
    intro r hr1 hr2
    rcases mem_lastPut hr1 with rfl | hr1
    · refine ⟨g.boot, g.seq.2, ?_⟩
      show (recA x c (execL x.l (x.idx + 1) c).2 c.seq).isSome = true
      unfold recA
      split
      · simp
      · rename_i hn
        cases ha : x.ans c.seq with
        | none => exact absurd ⟨ha, exec_code⟩ hn
        | some b => rfl
    · rw [exec_last] at hr1
      have := h.last r hr1 hr2
      exact ⟨this.1, this.2.1, rec_old this.2.2⟩
  · rw [(hold hno).1, (hold hno).2]
    exact h.last
  · rw [Lr.once_new h.led.1 hno]
    intro hk a ha
    unfold recA at ha
    split at ha
    · rename_i hn
      dsimp only at ha
      split at ha
      · rename_i hq
        have hcs := g.it hk hq.symm
        cases ha
        refine .inr ⟨fun h3 h1 => ?_, fun h4 h3 => ?_⟩
        · exact Sc.fresh hmm (fresh_grant h.led.1 (by rw [hcs]; exact h3) h1 h.kh)
        · rw [← hcs]
          exact Sc.fresh hmm (fresh_renew h.led.1 (by rw [hcs]; exact h4) h3 h.kh (fun y hy => by have := h.st y hy; omega))
      · exact .inl ha
    · exact .inl ha
  · rw [(hold hno).2]
    exact fun _ a ha => .inl ha
end Sf
end Go.Proofs.Ytgbblegcjladaaa
