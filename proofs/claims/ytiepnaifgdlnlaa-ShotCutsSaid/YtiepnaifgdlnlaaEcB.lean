/- A snapshot's bytes: shot.Encode. No condition. -/
import Derived.Test.YtiepnaifgdlnlaaEcA
import Derived.Deep.MidRow
namespace Go.Proofs.Ytiepnaifgdlnlaa
open Go.ChangeShapes Go.WideShapes Go.ChangeAt Go.RowKit Go.Deep
set_option linter.unusedVariables false
set_option maxRecDepth 100000
namespace Sc
open Cm Nm Sh
abbrev zLE : Array Value := #[.int .i64 0, .int .u64 0, .slice none 0 0, .slice none 0 0]
abbrev zHE : Array Value := #[.int .i64 0, .int .i64 0, .int .u64 0, .int .u64 0, .int .u64 0]
abbrev zLA : Array Value := #[.int .i64 0, .int .u64 0, .int .u64 0, .int .i64 0, .int .i64 0, .int .u64 0]
theorem heldA_one (x : Held) : (heldC x).toArray.all (·.oneCell') = true := by simp [heldC, Value.oneCell']
theorem lastA_one (x : LastR) : (lastC x).toArray.all (·.oneCell') = true := by simp [lastC, Value.oneCell']
theorem lArr_one (l : Led) (a : Option Addr) (i j : Nat) (b : Option Addr) (k m : Nat) : (lArr l (.slice a i j) (.slice b k m)).all (·.oneCell') = true := by simp [Value.oneCell']
theorem heldsNs_take {l : List Held} {k : Nat} {n : Int} (h : n ∈ heldsNs (l.take k)) : n ∈ heldsNs l := by
  obtain ⟨x, hx, hm⟩ := List.mem_flatMap.1 h
  exact List.mem_flatMap.2 ⟨x, List.mem_of_mem_take hx, hm⟩
theorem lastsNs_take {l : List LastR} {k : Nat} {n : Int} (h : n ∈ lastsNs (l.take k)) : n ∈ lastsNs l := by
  obtain ⟨x, hx, hm⟩ := List.mem_flatMap.1 h
  exact List.mem_flatMap.2 ⟨x, List.mem_of_mem_take hx, hm⟩
theorem led_range {w : World} {g : Nat} {s : Sho} {vn vh vl : Value} (h : w.heap[g]? = some (.cells (sArr s vn vh vl) 29 (0, 0))) : w.rangeAt g 3 (lArr s.led vh vl).toList := fun j v hv => by
  rw [cell_of_row w g (3 + j) _ _ _ h, ← hv]
  match j with
  | 0 => rfl
  | 1 => rfl
  | 2 => rfl
  | 3 => rfl
  | j + 4 => simp; omega
/-- what Encode answers: bytes of the call's own, or none -/
def GivesB (s : Sho) (w : World) (e : Ending) (w' : World) : Prop := ∃ v z bs, e = .returned (.tuple #[v, .int .i64 z]) ∧ ((z = 0 ∧ shotOk s ∧ bs = shotB s) ∨ (z = 60 ∧ ¬ shotOk s ∧ bs = [])) ∧ Own w' w.heap.size v bs ∧ Below w.heap.size w w'
set_option maxHeartbeats 8000000 in
theorem enc_any (s : Sho) (v : Value) (w : World) (h : IsShot w v s) : Calls Try.prog 5 #[v] w (GivesB s w) := by
  obtain ⟨vn, vh, vl, rfl, hn, hh, hl, hwf⟩ := id h
  obtain ⟨a1, b1, rfl, -⟩ := id hn
  obtain ⟨a2, b2, rfl, h21, h22, h23⟩ := id hh
  obtain ⟨a3, b3, rfl, h31, h32, h33⟩ := id hl
  unfold maxLen at h22 h32
  obtain ⟨W0, hW0⟩ : ∃ q, w.alloc (.cells (sArr s (.slice a1 s.nodes.length b1) (.slice a2 s.led.held.length b2) (.slice a3 s.led.last.length b3)) 29) = q := ⟨_, rfl⟩
  have hb0 : Below w.heap.size w W0 := by rw [← hW0]; exact (Below.refl _ _).alloc (Nat.le_refl _) _
  have HS0 : Hid (W0.heap[w.heap.size]? = some (.cells (sArr s (.slice a1 s.nodes.length b1) (.slice a2 s.led.held.length b2) (.slice a3 s.led.last.length b3)) 29 (0, 0))) := Lib.hid (by rw [← hW0]; exact heap_alloc_new _ _)
  have HB0 := Lib.hid hb0
  have HI0 := Lib.hid (h.below hb0 (Nat.le_refl _))
  have HWF := Lib.hid hwf
  have HN := Lib.hid hn
  have HH := Lib.hid h23
  have HL := Lib.hid h33
  have HWH := Lib.hid hwf.2.2
  clear h hn hh hl hwf hb0 h23 h33
  go_enter Try.func5, Try.ntmps5
  go_wp2_with (first | (with_reducible refine wpList_load_row rfl 29 (.tmp 1) rfl w.heap.size rfl 29 (sArr s (.slice a1 s.nodes.length b1) (.slice a2 s.led.held.length b2) (.slice a3 s.led.last.length b3)) (0, 0) _ HS0.out Try.underlying29 rfl (by kernel_rfl) ?_) | fail)
  refine (Sh.check_any s _ _ HI0.out).mono ?_
  rintro e w1 ⟨z, rfl, hz, hb1⟩
  have HB1 := Lib.hid (HB0.out.trans (hb1.mono HB0.out.size))
  have HT1 : Hid (ByT W0 w1) := Lib.hid (ByT.of hb1)
  clear hb1
  rcases hz with ⟨rfl, ok⟩ | ⟨rfl, no⟩
  case inr =>
    have NO := Lib.hid no
    clear no
    go_wp2_with fail
    go_ret2
    exact ⟨_, 60, [], rfl, .inr ⟨rfl, NO.out, rfl⟩, Own.nil _ _, HB1.out⟩
  obtain ⟨q1, q2, ⟨q3, q4⟩, q5, q6, q7, q8, q9, q10⟩ := nums_of HWF.out ok
  have OK := Lib.hid ok
  have Q4 := Lib.hid q4
  have Q8 := Lib.hid q8
  have Q10 := Lib.hid q10
  clear ok q4 q8 q10
  have p1 : IntKind.u64.wrap (s.nodes.length : Int) = (s.nodes.length : Int) := by (unfold IntKind.wrap; simp [IntKind.signed, IntKind.bits]; omega)
  have p2 : IntKind.u64.wrap s.led.limit = s.led.limit := by (unfold IntKind.wrap; simp [IntKind.signed, IntKind.bits]; omega)
  have p3 : IntKind.u64.wrap (s.led.held.length : Int) = (s.led.held.length : Int) := by (unfold IntKind.wrap; simp [IntKind.signed, IntKind.bits]; omega)
  have p4 : IntKind.u64.wrap (s.led.last.length : Int) = (s.led.last.length : Int) := by (unfold IntKind.wrap; simp [IntKind.signed, IntKind.bits]; omega)
  have HO1 : Hid (Own (w1.alloc (.cells #[.int .u8 83] 5)) w.heap.size (.slice (some ⟨w1.heap.size, 0, none⟩) 1 1) [83]) := Lib.hid (Own.lit w1 [83] HB1.out.size (by decide))
  have HB2 : Hid (Below w.heap.size w (w1.alloc (.cells #[.int .u8 83] 5))) := Lib.hid (HB1.out.alloc HB1.out.size _)
  have HT2 : Hid (ByT W0 (w1.alloc (.cells #[.int .u8 83] 5))) := Lib.hid (HT1.out.trans (ByT.alloc _ _))
  have hS2 := HT2.out _ _ _ _ HS0.out (by decide)
  have s0 := (cell_of_row _ _ 0 _ _ _ hS2).trans rfl
  have s1 := (cell_of_row _ _ 1 _ _ _ hS2).trans rfl
  have s2 := (cell_of_row _ _ 2 _ _ _ hS2).trans rfl
  have s3 := (cell_of_row _ _ 3 _ _ _ hS2).trans rfl
  have s4 := (cell_of_row _ _ 4 _ _ _ hS2).trans rfl
  have s5 := (cell_of_row _ _ 5 _ _ _ hS2).trans rfl
  have s6 := (cell_of_row _ _ 6 _ _ _ hS2).trans rfl
  clear hS2
  have hg1 : (w1.alloc (.cells #[.int .u8 83] 5)).heap.size = w1.heap.size + 1 := by simp
  go_wp2_with fail
  refine (put_lit w.heap.size _ [83] (ns1 s) _ _ _ _ HO1.out HB2.out.size hg1 rfl rfl (fun n hn => ?_) (by decide) (by simp [ns1])).mono ?_
  · simp only [ns1, List.mem_cons, List.not_mem_nil, or_false] at hn
    rcases hn with rfl | rfl | rfl
    · exact q1
    · exact q2
    · omega
  rintro e w3 ⟨v3, rfl, ho3, hb3, ht3⟩
  have HB3 := Lib.hid (HB2.out.trans (hb3.mono (Nat.le_refl _)))
  have HT3 := Lib.hid (HT2.out.trans ht3)
  have HO3 := Lib.hid ho3
  clear ho3 hb3 ht3 HO1 HB2 HT2
  clear s0 s1 s2 s3 s4 s5 s6
  have hS3 := HT3.out _ _ _ _ HS0.out (by decide)
  have s0 := (cell_of_row _ _ 0 _ _ _ hS3).trans rfl
  have s1 := (cell_of_row _ _ 1 _ _ _ hS3).trans rfl
  have s2 := (cell_of_row _ _ 2 _ _ _ hS3).trans rfl
  have s3 := (cell_of_row _ _ 3 _ _ _ hS3).trans rfl
  have s4 := (cell_of_row _ _ 4 _ _ _ hS3).trans rfl
  have s5 := (cell_of_row _ _ 5 _ _ _ hS3).trans rfl
  have s6 := (cell_of_row _ _ 6 _ _ _ hS3).trans rfl
  clear hS3
  go_wp2_with fail
  clear s0 s1 s2 s3 s4 s5 s6
  go_loopw [5, 32] (fun sv i wr => ∃ (k : Nat) (bv : Value), bv = sv ∧ k ≤ s.nodes.length ∧ i = .int .i64 k ∧ Hid (Own wr w.heap.size bv ([83] ++ encN (ns1 s) ++ encN (s.nodes.take k))) ∧ Hid (Below w.heap.size w wr) ∧ Hid (ByT W0 wr)) (fun _ i _ => s.nodes.length - (intOf i).toNat)
  case atStart => exact ⟨0, _, rfl, Nat.zero_le _, rfl, Lib.hid (by rw [show encN (s.nodes.take 0) = [] from rfl, List.append_nil]; exact HO3.out), HB3, HT3⟩
  case round =>
    clear HO3 HB3 HT3
    obtain ⟨k, bv, rfl, hk, rfl, HO, HB, HT⟩ := hrel
    by_cases hlt : k < s.nodes.length
    · have hS := HN.out.below HB.out (Nat.le_refl _)
      obtain ⟨b, off, rfl, -, hcx⟩ := Sl.at hS hlt
      have HTK := Lib.hid (Nd.take_get hlt)
      obtain ⟨hv0, hv1⟩ := Q4.out _ (Nd.mem_get hlt)
      have hl3 := (encN_len (s.nodes.take k) fun n hn => by have := Q4.out n (List.mem_of_mem_take hn); omega).1
      rw [List.length_take, Nat.min_eq_left hk] at hl3
      generalize s.nodes.getD k 0 = z at *
      have p5 : IntKind.u64.wrap z = z := by (unfold IntKind.wrap; simp [IntKind.signed, IntKind.bits]; omega)
      have hl1 := (encN_len (ns1 s) fun n hn => by
        simp only [ns1, List.mem_cons, List.not_mem_nil, or_false] at hn
        rcases hn with rfl | rfl | rfl <;> omega).1
      have hl1' : (ns1 s).length = 3 := rfl
      have hle : ([83] ++ encN (ns1 s) ++ encN (s.nodes.take k)).length ≤ 100000000 := by
        simp only [List.length_append, List.length_cons, List.length_nil]
        omega
      clear hS hl3 hl1 hl1'
      go_wp2_with fail
      refine (put_lit w.heap.size _ ([83] ++ encN (ns1 s) ++ encN (s.nodes.take k)) [z] _ _ _ _ HO.out HB.out.size rfl rfl rfl (fun n hn => by simp only [List.mem_cons, List.not_mem_nil, or_false] at hn; subst hn; omega) hle (by simp)).mono ?_
      rintro e w7 ⟨v7, rfl, ho7, hb7, ht7⟩
      have HB7 := Lib.hid (HB.out.trans hb7)
      have HT7 := Lib.hid (HT.out.trans ht7)
      have HO7 := Lib.hid ho7
      clear ho7 hb7 ht7
      have HO8 : Hid (Own w7 w.heap.size v7 ([83] ++ encN (ns1 s) ++ encN (s.nodes.take (k + 1)))) := Lib.hid (by rw [HTK.out, encN_app, ← List.append_assoc]; exact HO7.out)
      go_wp2_with fail
      go_roundw
      case rel => exact ⟨k + 1, _, rfl, by omega, by go_num, HO8, HB7, HT7⟩
      case measure => simp [intOf]; omega
    · obtain rfl : k = s.nodes.length := by omega
      have HO4 : Hid (Own wr w.heap.size bv ([83] ++ encN (ns1 s) ++ encN s.nodes)) := Lib.hid (by have q := HO.out; rwa [List.take_length] at q)
      obtain ⟨w4, hw4⟩ : ∃ q, q = wr := ⟨_, rfl⟩
      rw [← hw4] at HO4 HB HT ⊢
      have HB4 := HB
      have HT4 := HT
      clear HO HB HT hw4 hlt
      have hS4 := HT4.out _ _ _ _ HS0.out (by decide)
      have hrgl : w4.rangeAt w.heap.size 3 (lArr s.led (.slice a2 s.led.held.length b2) (.slice a3 s.led.last.length b3)).toList := led_range hS4
      have hsL : (w4.alloc (.cells zLE 27)).heap[w4.heap.size]? = some (.cells zLE 27 (0, 0)) := heap_alloc_new _ _
      obtain ⟨W5, hW5⟩ : ∃ q, (w4.alloc (.cells zLE 27)).setRow w4.heap.size (lArr s.led (.slice a2 s.led.held.length b2) (.slice a3 s.led.last.length b3)) = q := ⟨_, rfl⟩
      have hb5 : Below w4.heap.size w4 W5 := by rw [← hW5]; exact Ld.below_row ((Below.refl _ _).alloc (Nat.le_refl _) _) (Nat.le_refl _) _
      have HL5 : Hid (W5.heap[w4.heap.size]? = some (.cells (lArr s.led (.slice a2 s.led.held.length b2) (.slice a3 s.led.last.length b3)) 27 (0, 0))) := Lib.hid (by rw [← hW5]; exact setRow_heap _ _ _ _ _ _ hsL)
      have HB5 := Lib.hid (HB4.out.trans (hb5.mono HB4.out.size))
      have HT5 := Lib.hid (HT4.out.trans (ByT.of hb5))
      have HO5 : Hid (Own W5 w.heap.size _ _) := Lib.hid (HO4.out.below hb5 (Nat.le_refl _))
      have l0 := (cell_of_row _ _ 0 _ _ _ HL5.out).trans rfl
      have l1 := (cell_of_row _ _ 1 _ _ _ HL5.out).trans rfl
      have l2 := (cell_of_row _ _ 2 _ _ _ HL5.out).trans rfl
      have l3 := (cell_of_row _ _ 3 _ _ _ HL5.out).trans rfl
      have HNS : Hid (∀ n ∈ heldsNs s.led.held, 0 ≤ n ∧ n ≤ 18446744073709551615) := Lib.hid (fun n hn => by
        obtain ⟨x, hx, hm⟩ := List.mem_flatMap.1 hn
        obtain ⟨q1, q2, q3, q4, q5⟩ := Q8.out x hx
        simp only [heldNs, List.mem_cons, List.not_mem_nil, or_false] at hm
        rcases hm with rfl | rfl | rfl | rfl | rfl <;> omega)
      have LNS : Hid (∀ n ∈ lastsNs s.led.last, 0 ≤ n ∧ n ≤ 18446744073709551615) := Lib.hid (fun n hn => by
        obtain ⟨x, hx, hm⟩ := List.mem_flatMap.1 hn
        obtain ⟨q1, q2, q3, q4, q5, q6⟩ := Q10.out x hx
        simp only [lastNs, List.mem_cons, List.not_mem_nil, or_false] at hm
        rcases hm with rfl | rfl | rfl | rfl | rfl | rfl <;> omega)
      have hl1 := (encN_len (ns1 s) fun n hn => by
        simp only [ns1, List.mem_cons, List.not_mem_nil, or_false] at hn
        rcases hn with rfl | rfl | rfl <;> omega).1
      have hl1' : (ns1 s).length = 3 := rfl
      have hlhd := (encN_len s.nodes fun n hn => by have := Q4.out n hn; omega).1
      have hle : ([83] ++ encN (ns1 s) ++ encN s.nodes).length ≤ 100000000 := by
        simp only [List.length_append, List.length_cons, List.length_nil]
        omega
      clear hS4 hl1 hl1' hlhd hb5 HO4
      go_wp2_with (first
        | (with_reducible refine wpList_load_mid rfl 27 (.tmp 42) rfl w.heap.size 3 rfl (lArr s.led (.slice a2 s.led.held.length b2) (.slice a3 s.led.last.length b3)).toList _ hrgl Try.underlying27 rfl (by kernel_rfl) ?_)
        | (with_reducible refine wpList_store_row rfl 27 (.tmp 8) (.tmp 43) rfl w4.heap.size (lArr s.led (.slice a2 s.led.held.length b2) (.slice a3 s.led.last.length b3)) rfl rfl 27 _ hsL (by kernel_rfl) rfl (lArr_one _ _ _ _ _ _ _) ?_; rw [hW5]; clear hW5 hsL))
      obtain ⟨gl, hgl⟩ : ∃ q, q = w4.heap.size := ⟨_, rfl⟩
      refine (put_lit w.heap.size _ ([83] ++ encN (ns1 s) ++ encN s.nodes) (ns3 s) W5 _ _ _ HO5.out HB5.out.size rfl rfl rfl (fun n hn => by simp only [ns3, List.mem_cons, List.not_mem_nil, or_false] at hn; rcases hn with rfl | rfl | rfl <;> omega) hle (by simp [ns3])).mono ?_
      rintro e w6 ⟨v6, rfl, ho6, hb6, ht6⟩
      have HB6 := Lib.hid (HB5.out.trans hb6)
      have HT6 := Lib.hid (HT5.out.trans ht6)
      have HO6 := Lib.hid ho6
      have HL6 := Lib.hid (ht6 _ _ _ _ HL5.out (by decide))
      rw [← hgl] at HL6 ⊢
      clear ho6 hb6 ht6 hle hgl l0 l1 l2 l3 HL5 HB4 HT4 HB5 HT5 HO5
      have l0 := (cell_of_row _ _ 0 _ _ _ HL6.out).trans rfl
      have l1 := (cell_of_row _ _ 1 _ _ _ HL6.out).trans rfl
      have l2 := (cell_of_row _ _ 2 _ _ _ HL6.out).trans rfl
      have l3 := (cell_of_row _ _ 3 _ _ _ HL6.out).trans rfl
      go_wp2_with fail
      clear l0 l1 l2 l3
      go_loopw [5, 59] (fun sv i wr => ∃ (k : Nat) (bv : Value), bv = sv ∧ k ≤ s.led.held.length ∧ i = .int .i64 k ∧ Hid (Own wr w.heap.size bv ([83] ++ encN (ns1 s) ++ encN s.nodes ++ encN (ns3 s) ++ encN (heldsNs (s.led.held.take k)))) ∧ Hid (Below w.heap.size w wr) ∧ Hid (ByT w6 wr)) (fun _ i _ => s.led.held.length - (intOf i).toNat)
      case atStart => exact ⟨0, _, rfl, Nat.zero_le _, rfl, Lib.hid (by rw [show encN (heldsNs (s.led.held.take 0)) = [] from rfl, List.append_nil]; exact HO6.out), HB6, Lib.hid (ByT.refl _)⟩
      case round =>
        clear HO6 HB6
        obtain ⟨k, bv, rfl, hk, rfl, HO, HB, HT⟩ := hrel
        by_cases hlt : k < s.led.held.length
        · obtain ⟨b, off, hab, hbl, hcc⟩ := Ld.rows_open hlt HH.out
          subst hab
          have hrg : wr.rangeAt b (off + k * 5) (heldC s.led.held[k]) := fun jj u hu => by
            have q := (HB.out.cell (p := ⟨b, off + (k * 5 + jj), none⟩) hbl).trans (hcc k _ (List.getElem?_eq_getElem hlt) jj u hu)
            rw [Nat.add_assoc]
            exact q
          have HMEM := Lib.hid (List.getElem_mem hlt)
          have HTK : Hid (s.led.held.take (k + 1) = s.led.held.take k ++ [s.led.held[k]]) := Lib.hid (by rw [List.take_add_one, List.getElem?_eq_getElem hlt]; rfl)
          clear hcc hbl
          generalize s.led.held[k] = x at hrg HMEM HTK
          have hsE : (wr.alloc (.cells zHE 41)).heap[wr.heap.size]? = some (.cells zHE 41 (0, 0)) := heap_alloc_new _ _
          obtain ⟨W1, hW1⟩ : ∃ q, (wr.alloc (.cells zHE 41)).setRow wr.heap.size (heldC x).toArray = q := ⟨_, rfl⟩
          have hbE : Below wr.heap.size wr W1 := by rw [← hW1]; exact Ld.below_row ((Below.refl _ _).alloc (Nat.le_refl _) _) (Nat.le_refl _) _
          have HE1 : Hid (W1.heap[wr.heap.size]? = some (.cells (heldC x).toArray 41 (0, 0))) := Lib.hid (by rw [← hW1]; exact setRow_heap _ _ _ _ _ _ hsE)
          have HB1 := Lib.hid (HB.out.trans (hbE.mono HB.out.size))
          have HT1 := Lib.hid (HT.out.trans (ByT.of hbE))
          have HO1 : Hid (Own W1 w.heap.size bv _) := Lib.hid (HO.out.below hbE (Nat.le_refl _))
          obtain ⟨⟨t1, t2⟩, ⟨t3, t4⟩, ⟨t5, t6⟩, ⟨t7, t8⟩, ⟨t9, t10⟩⟩ := Q8.out x HMEM.out
          have x0 : W1.cell? ⟨wr.heap.size, 0, none⟩ = some (.int .i64 x.token) := (cell_of_row _ _ 0 _ _ _ HE1.out).trans rfl
          have x1 : W1.cell? ⟨wr.heap.size, 1, none⟩ = some (.int .i64 x.node) := (cell_of_row _ _ 1 _ _ _ HE1.out).trans rfl
          have x2 : W1.cell? ⟨wr.heap.size, 2, none⟩ = some (.int .u64 x.boot) := (cell_of_row _ _ 2 _ _ _ HE1.out).trans rfl
          have x3 : W1.cell? ⟨wr.heap.size, 3, none⟩ = some (.int .u64 x.serial) := (cell_of_row _ _ 3 _ _ _ HE1.out).trans rfl
          have x4 : W1.cell? ⟨wr.heap.size, 4, none⟩ = some (.int .u64 x.stamp) := (cell_of_row _ _ 4 _ _ _ HE1.out).trans rfl
          have p5 : IntKind.u64.wrap x.token = x.token := by (unfold IntKind.wrap; simp [IntKind.signed, IntKind.bits]; omega)
          have p6 : IntKind.u64.wrap x.node = x.node := by (unfold IntKind.wrap; simp [IntKind.signed, IntKind.bits]; omega)
          have hl1 := (encN_len (ns1 s) fun n hn => by
            simp only [ns1, List.mem_cons, List.not_mem_nil, or_false] at hn
            rcases hn with rfl | rfl | rfl <;> omega).1
          have hl1' : (ns1 s).length = 3 := rfl
          have hlhd := (encN_len s.nodes fun n hn => by have := Q4.out n hn; omega).1
          have hl3 := (encN_len (ns3 s) fun n hn => by
            simp only [ns3, List.mem_cons, List.not_mem_nil, or_false] at hn
            rcases hn with rfl | rfl | rfl <;> omega).1
          have hl3' : (ns3 s).length = 3 := rfl
          have hl4 := (encN_len (heldsNs (s.led.held.take k)) fun n hn => HNS.out n (heldsNs_take hn)).1
          rw [heldsNs_len, List.length_take, Nat.min_eq_left hk] at hl4
          have hle : ([83] ++ encN (ns1 s) ++ encN s.nodes ++ encN (ns3 s) ++ encN (heldsNs (s.led.held.take k))).length ≤ 100000000 := by
            simp only [List.length_append, List.length_cons, List.length_nil]
            omega
          have hkz : (k : Int) < (s.led.held.length : Int) := by omega
          clear hbE hl1 hl1' hlhd hl3 hl3' hl4
          go_wp2_with (first
            | (with_reducible refine wpList_load_mid rfl 41 (.tmp 61) rfl b (off + k * 5) rfl (heldC x) _ hrg Try.underlying41 rfl (by kernel_rfl) ?_)
            | (with_reducible refine wpList_store_row rfl 41 (.tmp 10) (.tmp 62) rfl wr.heap.size (heldC x).toArray rfl rfl 41 _ hsE (by kernel_rfl) rfl (heldA_one _) ?_; rw [hW1]; clear hW1 hsE))
          refine (put_lit w.heap.size _ ([83] ++ encN (ns1 s) ++ encN s.nodes ++ encN (ns3 s) ++ encN (heldsNs (s.led.held.take k))) (heldNs x) W1 _ _ _ HO1.out HB1.out.size rfl rfl rfl (fun n hn => by simp only [heldNs, List.mem_cons, List.not_mem_nil, or_false] at hn; rcases hn with rfl | rfl | rfl | rfl | rfl <;> omega) hle (by simp [heldNs])).mono ?_
          rintro e w7 ⟨v7, rfl, ho7, hb7, ht7⟩
          have HB7 := Lib.hid (HB1.out.trans hb7)
          have HT7 := Lib.hid (HT1.out.trans ht7)
          have HO7 := Lib.hid ho7
          clear ho7 hb7 ht7
          have HO8 : Hid (Own w7 w.heap.size v7 ([83] ++ encN (ns1 s) ++ encN s.nodes ++ encN (ns3 s) ++ encN (heldsNs (s.led.held.take (k + 1))))) := Lib.hid (by rw [HTK.out, heldsNs_snoc, encN_app, ← List.append_assoc]; exact HO7.out)
          clear hrg
          go_wp2_with fail
          go_roundw
          case rel => exact ⟨k + 1, _, rfl, by omega, by go_num, HO8, HB7, HT7⟩
          case measure => simp [intOf]; omega
        · obtain rfl : k = s.led.held.length := by omega
          have HO9 : Hid (Own wr w.heap.size bv ([83] ++ encN (ns1 s) ++ encN s.nodes ++ encN (ns3 s) ++ encN (heldsNs s.led.held))) := Lib.hid (by have q := HO.out; rwa [List.take_length] at q)
          obtain ⟨w9, hw9⟩ : ∃ q, q = wr := ⟨_, rfl⟩
          rw [← hw9] at HO9 HB HT ⊢
          have HB9 := HB
          have HL9 := Lib.hid (HT.out _ _ _ _ HL6.out (by decide))
          clear HO HB HT hw9 hlt HL6
          have l0 := (cell_of_row _ _ 0 _ _ _ HL9.out).trans rfl
          have l1 := (cell_of_row _ _ 1 _ _ _ HL9.out).trans rfl
          have l2 := (cell_of_row _ _ 2 _ _ _ HL9.out).trans rfl
          have l3 := (cell_of_row _ _ 3 _ _ _ HL9.out).trans rfl
          have hl1 := (encN_len (ns1 s) fun n hn => by
            simp only [ns1, List.mem_cons, List.not_mem_nil, or_false] at hn
            rcases hn with rfl | rfl | rfl <;> omega).1
          have hl1' : (ns1 s).length = 3 := rfl
          have hlhd := (encN_len s.nodes fun n hn => by have := Q4.out n hn; omega).1
          have hl3 := (encN_len (ns3 s) fun n hn => by
            simp only [ns3, List.mem_cons, List.not_mem_nil, or_false] at hn
            rcases hn with rfl | rfl | rfl <;> omega).1
          have hl3' : (ns3 s).length = 3 := rfl
          have hl4 := (encN_len (heldsNs s.led.held) fun n hn => HNS.out n hn).1
          rw [heldsNs_len] at hl4
          have hle : ([83] ++ encN (ns1 s) ++ encN s.nodes ++ encN (ns3 s) ++ encN (heldsNs s.led.held)).length ≤ 100000000 := by
            simp only [List.length_append, List.length_cons, List.length_nil]
            omega
          clear hl1 hl1' hlhd hl3 hl3' hl4
          go_wp2_with fail
          refine (put_lit w.heap.size _ ([83] ++ encN (ns1 s) ++ encN s.nodes ++ encN (ns3 s) ++ encN (heldsNs s.led.held)) [(s.led.last.length : Int)] w9 _ _ _ HO9.out HB9.out.size rfl rfl rfl (fun n hn => by simp only [List.mem_cons, List.not_mem_nil, or_false] at hn; subst hn; omega) hle (by simp)).mono ?_
          rintro e w10 ⟨v10, rfl, ho10, hb10, ht10⟩
          have HB10 := Lib.hid (HB9.out.trans hb10)
          have HO10 := Lib.hid ho10
          have HL10 := Lib.hid (ht10 _ _ _ _ HL9.out (by decide))
          clear ho10 hb10 ht10 hle l0 l1 l2 l3 HL9 HB9 HO9
          have l0 := (cell_of_row _ _ 0 _ _ _ HL10.out).trans rfl
          have l1 := (cell_of_row _ _ 1 _ _ _ HL10.out).trans rfl
          have l2 := (cell_of_row _ _ 2 _ _ _ HL10.out).trans rfl
          have l3 := (cell_of_row _ _ 3 _ _ _ HL10.out).trans rfl
          go_wp2_with fail
          clear l0 l1 l2 l3
          go_loopw [5, 89] (fun sv i wr => ∃ (k : Nat) (bv : Value), bv = sv ∧ k ≤ s.led.last.length ∧ i = .int .i64 k ∧ Hid (Own wr w.heap.size bv ([83] ++ encN (ns1 s) ++ encN s.nodes ++ encN (ns3 s) ++ encN (heldsNs s.led.held) ++ encN [(s.led.last.length : Int)] ++ encN (lastsNs (s.led.last.take k)))) ∧ Hid (Below w.heap.size w wr) ∧ Hid (ByT w10 wr)) (fun _ i _ => s.led.last.length - (intOf i).toNat)
          case atStart => exact ⟨0, _, rfl, Nat.zero_le _, rfl, Lib.hid (by rw [show encN (lastsNs (s.led.last.take 0)) = [] from rfl, List.append_nil]; exact HO10.out), HB10, Lib.hid (ByT.refl _)⟩
          case round =>
            clear HO10 HB10
            obtain ⟨k, bv, rfl, hk, rfl, HO, HB, HT⟩ := hrel
            by_cases hlt : k < s.led.last.length
            · obtain ⟨b, off, hab, hbl, hcc⟩ := Ld.rows_open hlt HL.out
              subst hab
              have hrg : wr.rangeAt b (off + k * 6) (lastC s.led.last[k]) := fun jj u hu => by
                have q := (HB.out.cell (p := ⟨b, off + (k * 6 + jj), none⟩) hbl).trans (hcc k _ (List.getElem?_eq_getElem hlt) jj u hu)
                rw [Nat.add_assoc]
                exact q
              have HMEM := Lib.hid (List.getElem_mem hlt)
              have HTK : Hid (s.led.last.take (k + 1) = s.led.last.take k ++ [s.led.last[k]]) := Lib.hid (by rw [List.take_add_one, List.getElem?_eq_getElem hlt]; rfl)
              clear hcc hbl
              generalize s.led.last[k] = x at hrg HMEM HTK
              have hsE : (wr.alloc (.cells zLA 45)).heap[wr.heap.size]? = some (.cells zLA 45 (0, 0)) := heap_alloc_new _ _
              obtain ⟨W1, hW1⟩ : ∃ q, (wr.alloc (.cells zLA 45)).setRow wr.heap.size (lastC x).toArray = q := ⟨_, rfl⟩
              have hbE : Below wr.heap.size wr W1 := by rw [← hW1]; exact Ld.below_row ((Below.refl _ _).alloc (Nat.le_refl _) _) (Nat.le_refl _) _
              have HE1 : Hid (W1.heap[wr.heap.size]? = some (.cells (lastC x).toArray 45 (0, 0))) := Lib.hid (by rw [← hW1]; exact setRow_heap _ _ _ _ _ _ hsE)
              have HB1 := Lib.hid (HB.out.trans (hbE.mono HB.out.size))
              have HT1 := Lib.hid (HT.out.trans (ByT.of hbE))
              have HO1 : Hid (Own W1 w.heap.size bv _) := Lib.hid (HO.out.below hbE (Nat.le_refl _))
              obtain ⟨⟨t1, t2⟩, ⟨t3, t4⟩, ⟨t5, t6⟩, ⟨t7, t8⟩, ⟨t9, t10⟩, ⟨t11, t12⟩⟩ := Q10.out x HMEM.out
              have x0 : W1.cell? ⟨wr.heap.size, 0, none⟩ = some (.int .i64 x.node) := (cell_of_row _ _ 0 _ _ _ HE1.out).trans rfl
              have x1 : W1.cell? ⟨wr.heap.size, 1, none⟩ = some (.int .u64 x.boot) := (cell_of_row _ _ 1 _ _ _ HE1.out).trans rfl
              have x2 : W1.cell? ⟨wr.heap.size, 2, none⟩ = some (.int .u64 x.seq) := (cell_of_row _ _ 2 _ _ _ HE1.out).trans rfl
              have x3 : W1.cell? ⟨wr.heap.size, 3, none⟩ = some (.int .i64 x.code) := (cell_of_row _ _ 3 _ _ _ HE1.out).trans rfl
              have x4 : W1.cell? ⟨wr.heap.size, 4, none⟩ = some (.int .i64 x.token) := (cell_of_row _ _ 4 _ _ _ HE1.out).trans rfl
              have x5 : W1.cell? ⟨wr.heap.size, 5, none⟩ = some (.int .u64 x.serial) := (cell_of_row _ _ 5 _ _ _ HE1.out).trans rfl
              have p5 : IntKind.u64.wrap x.node = x.node := by (unfold IntKind.wrap; simp [IntKind.signed, IntKind.bits]; omega)
              have p6 : IntKind.u64.wrap x.code = x.code := by (unfold IntKind.wrap; simp [IntKind.signed, IntKind.bits]; omega)
              have p7 : IntKind.u64.wrap x.token = x.token := by (unfold IntKind.wrap; simp [IntKind.signed, IntKind.bits]; omega)
              have hl1 := (encN_len (ns1 s) fun n hn => by
                simp only [ns1, List.mem_cons, List.not_mem_nil, or_false] at hn
                rcases hn with rfl | rfl | rfl <;> omega).1
              have hl1' : (ns1 s).length = 3 := rfl
              have hlhd := (encN_len s.nodes fun n hn => by have := Q4.out n hn; omega).1
              have hl3 := (encN_len (ns3 s) fun n hn => by
                simp only [ns3, List.mem_cons, List.not_mem_nil, or_false] at hn
                rcases hn with rfl | rfl | rfl <;> omega).1
              have hl3' : (ns3 s).length = 3 := rfl
              have hl4 := (encN_len (heldsNs s.led.held) fun n hn => HNS.out n hn).1
              rw [heldsNs_len] at hl4
              have hl45 := (encN_len [(s.led.last.length : Int)] fun n hn => by simp only [List.mem_cons, List.not_mem_nil, or_false] at hn; subst hn; omega).1
              rw [show [(s.led.last.length : Int)].length = 1 from rfl] at hl45
              have hl5 := (encN_len (lastsNs (s.led.last.take k)) fun n hn => LNS.out n (lastsNs_take hn)).1
              rw [lastsNs_len, List.length_take, Nat.min_eq_left hk] at hl5
              have hle : ([83] ++ encN (ns1 s) ++ encN s.nodes ++ encN (ns3 s) ++ encN (heldsNs s.led.held) ++ encN [(s.led.last.length : Int)] ++ encN (lastsNs (s.led.last.take k))).length ≤ 100000000 := by
                simp only [List.length_append, List.length_cons, List.length_nil]
                omega
              have hl6 := (encN_len [x.node, x.boot, x.seq] fun n hn => by simp only [List.mem_cons, List.not_mem_nil, or_false] at hn; rcases hn with rfl | rfl | rfl <;> omega).1
              rw [show [x.node, x.boot, x.seq].length = 3 from rfl] at hl6
              have hle2 : ([83] ++ encN (ns1 s) ++ encN s.nodes ++ encN (ns3 s) ++ encN (heldsNs s.led.held) ++ encN [(s.led.last.length : Int)] ++ encN (lastsNs (s.led.last.take k)) ++ encN [x.node, x.boot, x.seq]).length ≤ 100000000 := by
                simp only [List.length_append, List.length_cons, List.length_nil]
                omega
              have hkz : (k : Int) < (s.led.last.length : Int) := by omega
              clear hbE hl1 hl1' hlhd hl3 hl3' hl4 hl45 hl5 hl6
              go_wp2_with (first
                | (with_reducible refine wpList_load_mid rfl 45 (.tmp 91) rfl b (off + k * 6) rfl (lastC x) _ hrg Try.underlying45 rfl (by kernel_rfl) ?_)
                | (with_reducible refine wpList_store_row rfl 45 (.tmp 12) (.tmp 92) rfl wr.heap.size (lastC x).toArray rfl rfl 45 _ hsE (by kernel_rfl) rfl (lastA_one _) ?_; rw [hW1]; clear hW1 hsE))
              refine (put_lit w.heap.size _ ([83] ++ encN (ns1 s) ++ encN s.nodes ++ encN (ns3 s) ++ encN (heldsNs s.led.held) ++ encN [(s.led.last.length : Int)] ++ encN (lastsNs (s.led.last.take k))) [x.node, x.boot, x.seq] W1 _ _ _ HO1.out HB1.out.size rfl rfl rfl (fun n hn => by simp only [List.mem_cons, List.not_mem_nil, or_false] at hn; rcases hn with rfl | rfl | rfl <;> omega) hle (by simp)).mono ?_
              rintro e w7 ⟨v7, rfl, ho7, hb7, ht7⟩
              have HB7 := Lib.hid (HB1.out.trans hb7)
              have HT7 := Lib.hid (HT1.out.trans ht7)
              have HO7 := Lib.hid ho7
              have HE7 := Lib.hid (ht7 _ _ _ _ HE1.out (by decide))
              clear ho7 hb7 ht7 x0 x1 x2 x3 x4 x5 hrg HO1 HE1
              have x0 : w7.cell? ⟨wr.heap.size, 0, none⟩ = some (.int .i64 x.node) := (cell_of_row _ _ 0 _ _ _ HE7.out).trans rfl
              have x1 : w7.cell? ⟨wr.heap.size, 1, none⟩ = some (.int .u64 x.boot) := (cell_of_row _ _ 1 _ _ _ HE7.out).trans rfl
              have x2 : w7.cell? ⟨wr.heap.size, 2, none⟩ = some (.int .u64 x.seq) := (cell_of_row _ _ 2 _ _ _ HE7.out).trans rfl
              have x3 : w7.cell? ⟨wr.heap.size, 3, none⟩ = some (.int .i64 x.code) := (cell_of_row _ _ 3 _ _ _ HE7.out).trans rfl
              have x4 : w7.cell? ⟨wr.heap.size, 4, none⟩ = some (.int .i64 x.token) := (cell_of_row _ _ 4 _ _ _ HE7.out).trans rfl
              have x5 : w7.cell? ⟨wr.heap.size, 5, none⟩ = some (.int .u64 x.serial) := (cell_of_row _ _ 5 _ _ _ HE7.out).trans rfl
              go_wp2_with fail
              refine (put_lit w.heap.size _ ([83] ++ encN (ns1 s) ++ encN s.nodes ++ encN (ns3 s) ++ encN (heldsNs s.led.held) ++ encN [(s.led.last.length : Int)] ++ encN (lastsNs (s.led.last.take k)) ++ encN [x.node, x.boot, x.seq]) [x.code, x.token, x.serial] w7 _ _ _ HO7.out HB7.out.size rfl rfl rfl (fun n hn => by simp only [List.mem_cons, List.not_mem_nil, or_false] at hn; rcases hn with rfl | rfl | rfl <;> omega) hle2 (by simp)).mono ?_
              rintro e w8 ⟨v8, rfl, ho8, hb8, ht8⟩
              have HB8 := Lib.hid (HB7.out.trans hb8)
              have HT8 := Lib.hid (HT7.out.trans ht8)
              have HO8 : Hid (Own w8 w.heap.size v8 ([83] ++ encN (ns1 s) ++ encN s.nodes ++ encN (ns3 s) ++ encN (heldsNs s.led.held) ++ encN [(s.led.last.length : Int)] ++ encN (lastsNs (s.led.last.take (k + 1))))) := Lib.hid (by
                rw [HTK.out, lastsNs_snoc, encN_app, ← List.append_assoc, show lastNs x = [x.node, x.boot, x.seq] ++ [x.code, x.token, x.serial] from rfl, encN_app, ← List.append_assoc]
                exact ho8)
              clear ho8 hb8 ht8 x0 x1 x2 x3 x4 x5 HO7 HE7
              go_wp2_with fail
              go_roundw
              case rel => exact ⟨k + 1, _, rfl, by omega, by go_num, HO8, HB8, HT8⟩
              case measure => simp [intOf]; omega
            · obtain rfl : k = s.led.last.length := by omega
              have HOE : Hid (Own wr w.heap.size bv (shotB s)) := Lib.hid (by
                have q := HO.out
                rw [List.take_length] at q
                have e : [83] ++ encN (ns1 s) ++ encN s.nodes ++ encN (ns3 s) ++ encN (heldsNs s.led.held) ++ encN [(s.led.last.length : Int)] ++ encN (lastsNs s.led.last) = shotB s := by
                  unfold shotB shotNs
                  rw [encN_app, encN_app, encN_app, encN_app, encN_app]
                  simp only [List.append_assoc, List.singleton_append]
                  rfl
                rw [e] at q
                exact q)
              have HBE := Lib.hid HB.out
              have hkz : ¬ ((s.led.last.length : Int) < (s.led.last.length : Int)) := by omega
              clear HO HB HT
              go_wp2_with fail
              go_ret2
              exact ⟨_, 0, _, rfl, .inl ⟨rfl, OK.out, rfl⟩, HOE.out, HBE.out⟩
end Sc
end Go.Proofs.Ytiepnaifgdlnlaa
