/- The document's Feed. No condition. -/
import Derived.Test.YtdakkjpejhlciaaStJ
import Derived.Test.YtdakkjpejhlciaaStH
import Derived.IntWalk
namespace Go.Proofs.Ytdakkjpejhlciaa
open Go.ChangeShapes Go.WideShapes Go.ChangeAt Go.RowKit
set_option linter.unusedVariables false
set_option maxRecDepth 100000
namespace St
def RFeedR (B g : Nat) (s : Rst) (bs : List Int) (w : World) (e : Ending) (w' : World) : Prop :=
  ∃ v, e = .returned v ∧ XRd w' g (runV s bs).2 ∧ FarR B g none w w' ∧ OwnR 2 frmC 57 w' w.heap.size v (runV s bs).1
theorem sb_app (a b : ByteArray) : sb (a ++ b) = sb a ++ sb b := by
  unfold sb
  rw [ByteArray.data_append, Array.toList_append, List.map_append]
theorem sb_head {s : ByteArray} (h : 0 < s.size) : sb s = (s[0].toNat : Int) :: (sb s).drop 1 := by
  have hl : 0 < (sb s).length := by rw [sb_length]; exact h
  have h1 := List.drop_eq_getElem_cons hl
  rw [List.drop_zero] at h1
  conv => lhs; rw [h1]
  simp [sb]
  rfl
theorem sb_second {s : ByteArray} (h : 1 < s.size) : (sb s).drop 1 = (s[1].toNat : Int) :: (sb s).drop 2 := by
  have hl : 1 < (sb s).length := by rw [sb_length]; exact h
  have h1 := List.drop_eq_getElem_cons hl
  rw [h1]
  simp [sb]
  rfl
theorem sb_rest (q : ByteArray) (k : Nat) (h : k ≤ q.size) : sb (q.extract k q.size) = (sb q).drop k := by
  have e := sb_extract q k (q.size - k)
  rw [show k + (q.size - k) = q.size by omega] at e
  rw [e]
  exact List.take_of_length_le (by rw [List.length_drop, sb_length]; omega)
theorem rest_size (q : ByteArray) (k : Nat) (h : k ≤ q.size) : (q.extract k q.size).size = q.size - k := by
  rw [← sb_length, sb_rest q k h, List.length_drop, sb_length]
theorem bad_end {B g : Nat} {s : Rst} {bs : List Int} {q : ByteArray} {O : List Frm} {v : Value} {w wr : World} (hq : wr.heap[g]? = some (.cells #[.string q, .bool false] 28 (0, 0))) (how : OwnR 2 frmC 57 wr w.heap.size v O) (hf : FarR B g none w wr) (hB : B ≤ g) (hg : g < w.heap.size)
    (he : O ++ (runV zero (sb q)).1 = (runV s bs).1 ∧ (runV zero (sb q)).2 = (runV s bs).2) (hr : runV zero (sb q) = ([], ⟨3, 0, []⟩)) : RFeedR B g s bs w (.returned v) ((wr.setCell ⟨g, 1, none⟩ (.bool true)).setCell ⟨g, 0, none⟩ (.string ⟨#[]⟩)) := by
  rw [hr] at he
  refine ⟨v, rfl, ?_, (hf.setCell hB 1 _).setCell hB 0 _, ?_⟩
  · rw [← he.2]; exact ⟨⟨#[]⟩, two0 (two1 hq), rfl⟩
  · rw [← he.1, List.append_nil]
    exact ownR_same how fun r hr => (heap_setCell_other _ _ _ _ (by show r ≠ g; have := (World.ownsRow.lt how r hr).1; omega)).trans (heap_setCell_other _ _ _ _ (by show r ≠ g; have := (World.ownsRow.lt how r hr).1; omega))
theorem keep_end {B g : Nat} {s s' : Rst} {bs : List Int} {q : ByteArray} {O : List Frm} {v : Value} {w wr : World} (hq : wr.heap[g]? = some (.cells #[.string q, .bool false] 28 (0, 0))) (how : OwnR 2 frmC 57 wr w.heap.size v O) (hf : FarR B g none w wr)
    (he : O ++ (runV zero (sb q)).1 = (runV s bs).1 ∧ (runV zero (sb q)).2 = (runV s bs).2) (hr : runV zero (sb q) = ([], s')) (hp : sb q = pend s') (h3 : s'.st ≠ 3) (n : Nat) : RFeedR B g s bs w (.returned v) (wr.drewN n) := by
  rw [hr] at he
  refine ⟨v, rfl, ?_, hf.drewN n, ?_⟩
  · rw [← he.2]; exact ⟨q, by show wr.heap[g]? = _; rw [hq]; simp [h3], hp⟩
  · rw [← he.1, List.append_nil]
    exact ownR_same how fun r hr => rfl
set_option maxHeartbeats 16000000 in
theorem rfeed_any (B g : Nat) (s : Rst) (b : ByteArray) (w : World) (h : XRd w g s) (hok : okR s) (hB : B ≤ g) (hl : b.size ≤ 1000000) :
    Calls Try.prog 29 #[.pointer (some ⟨g, 0, none⟩), .string b] w (RFeedR B g s (sb b) w) := by
  obtain ⟨p, hg, hp⟩ := h
  have hgl := (Array.getElem?_eq_some_iff.1 hg).1
  obtain ⟨c0, c1, f0, f1⟩ := cells2 hg
  have HG := Lib.hid hg
  have HP := Lib.hid hp
  have HOK := Lib.hid hok
  have HB := Lib.hid hB
  have HPS : Hid (p.size ≤ 50) := Lib.hid (by
    have := congrArg List.length hp
    rw [sb_length] at this
    obtain ⟨-, -, -, h5, -⟩ := hok
    unfold pend at this
    split at this
    · simp at this; omega
    · split at this
      · rw [List.length_append] at this; simp only [List.length_cons, List.length_nil] at this; omega
      · simp only [List.length_nil] at this; omega)
  clear hg hp hok
  by_cases h3 : s.st = 3
  · have HE : Hid (RFeedR B g s (sb b) w (.returned (.slice none 0 0)) w) := Lib.hid (by
      obtain ⟨st, want, text⟩ := s
      simp only [] at h3
      subst h3
      refine ⟨_, rfl, ?_, FarR.refl _, ?_⟩
      · rw [run_bad]; exact ⟨p, HG.out, HP.out⟩
      · rw [run_bad]; exact OwnR.nil _ _ _)
    have c1' : w.cell? ⟨g, 1, none⟩ = some (.bool true) := by rw [c1]; simp [h3]
    clear c1 h3
    go_enter Try.func29, Try.ntmps29
    go_wp2
    go_ret
    exact HE.out
  · have HRUN := Lib.hid (run_pend HOK.out h3 (sb b))
    have c1' : w.cell? ⟨g, 1, none⟩ = some (.bool false) := by rw [c1]; simp [h3]
    have HG' : Hid (w.heap[g]? = some (.cells #[.string p, .bool false] 28 (0, 0))) := Lib.hid (by have := HG.out; simpa [h3] using this)
    have hn : ¬ 9223372036854775807 < p.size + b.size := by have := HPS.out; omega
    have HT : Hid (sb (p ++ b) = pend s ++ sb b) := Lib.hid (by rw [sb_app, HP.out])
    have HG1 := Lib.hid (two0 (v := .string (p ++ b)) HG'.out)
    have HPB : Hid ((p ++ b).size ≤ 1000050) := Lib.hid (by rw [ByteArray.size_append]; have := HPS.out; omega)
    have HF1 : Hid (FarR B g none w (w.setCell ⟨g, 0, none⟩ (.string (p ++ b)))) := Lib.hid ((FarR.refl w).setCell hB 0 _)
    clear c1 h3
    go_enter Try.func29, Try.ntmps29
    go_wp2
    go_loopw [5] (fun out wr => ∃ (q : ByteArray) (O : List Frm) (vO : Value), vO = out ∧ wr.cell? ⟨g, 0, none⟩ = some (.string q) ∧ Hid (wr.heap[g]? = some (.cells #[.string q, .bool false] 28 (0, 0))) ∧ Hid (OwnR 2 frmC 57 wr w.heap.size vO O) ∧ Hid (FarR B g none w wr) ∧ Hid (O.length + q.size ≤ 1000050) ∧ Hid (O ++ (runV zero (sb q)).1 = (runV s (sb b)).1 ∧ (runV zero (sb q)).2 = (runV s (sb b)).2)) (fun _ wr => match wr.cell? ⟨g, 0, none⟩ with | some (.string q) => q.size | _ => 0)
    case atStart => exact ⟨p ++ b, [], _, rfl, (cells2 HG1.out).1, HG1, Lib.hid (OwnR.nil _ _ _), HF1, Lib.hid (by have := HPB.out; simpa using this), Lib.hid (by rw [HT.out, HRUN.out]; simp)⟩
    case round =>
      obtain ⟨q, O, vO, rfl, hq0, HQ, HOW, HF, HLN, HEQ⟩ := hrel
      obtain ⟨-, x1, y0, y1⟩ := cells2 HQ.out
      by_cases hz : q = emp
      · have HE : Hid (RFeedR B g s (sb b) w (.returned vO) wr) := Lib.hid (by
          have e := HEQ.out
          rw [hz] at e
          have e0 : runV zero (sb emp) = ([], zero) := rfl
          rw [e0] at e
          refine ⟨_, rfl, ?_, HF.out, ?_⟩
          · rw [← e.2]; exact ⟨q, HQ.out, by rw [hz]; rfl⟩
          · rw [← e.1]; simpa using HOW.out)
        subst hz
        unfold emp at hq0
        go_wp2
        go_ret
        exact HE.out
      · have hqs : 0 < q.size := by
          rcases Nat.eq_zero_or_pos q.size with q0 | q0
          · exfalso
            apply hz
            apply ByteArray.ext
            apply Array.eq_empty_of_size_eq_zero
            exact q0
          · exact q0
        have hqe : q.toList.isEmpty = false := by have := (ne_emp hz).2; simpa using this
        clear hz
        have HBg := Lib.hid hgl
        have HHEAD := Lib.hid (sb_head hqs)
        obtain ⟨sO, cO, hvO, -⟩ := HOW.out.sl frmC_len
        subst hvO
        have HON : Hid (∀ r, (Value.slice sO O.length cO).ownBlock = some r → r ≠ g ∧ r < wr.heap.size ∧ w.heap.size ≤ r) := Lib.hid (fun r hr => by
          have := World.ownsRow.lt HOW.out r hr
          exact ⟨by omega, this.2, this.1⟩)
        have hqz : (0 : Int) < (q.size : Int) := by omega
        obtain ⟨c, hc⟩ : ∃ c : Int, (q[0].toNat : Int) = c := ⟨_, rfl⟩
        have hcb : 0 ≤ c ∧ c ≤ 255 := by have := q[0].toNat_lt; omega
        have HCC := Lib.hid hc
        rw [hc] at HHEAD
        by_cases hc1 : c = 66 ∨ c = 69
        · have HGO := Lib.hid (go_one hc1 ((sb q).drop 1))
          have HLIT : Hid (SlR 2 frmC (wr.alloc (.cells #[.int .u8 c, .string ⟨#[]⟩] 57)) (.slice (some ⟨wr.heap.size, 0, none⟩) 1 1) [⟨c, emp⟩]) := Lib.hid (SlR.one frmC_len wr wr.heap.size rfl _ ⟨c, emp⟩ rfl)
          have HOW1 := Lib.hid (HOW.out.alloc (.cells #[.int .u8 c, .string ⟨#[]⟩] 57))
          have HBW : Hid (B ≤ w.heap.size) := Lib.hid (by have := HBg.out; omega)
          have HF1' := Lib.hid (HF.out.alloc HBW.out (.cells #[.int .u8 c, .string ⟨#[]⟩] 57))
          have HROW : Hid (∀ w', (wr.alloc (.cells #[.int .u8 c, .string ⟨#[]⟩] 57)).grownBy w' (Value.slice sO O.length cO).ownBlock → w'.heap[g]? = some (.cells #[.string q, .bool false] 28 (0, 0))) := Lib.hid (fun w' hgw => (hgw.block g (by have := (Array.getElem?_eq_some_iff.1 HQ.out).1; simp; omega) (fun e => (HON.out g e.symm).1 rfl)).trans (arow HQ.out))
          have HWW : Hid (w.heap.size ≤ wr.heap.size) := Lib.hid HF.out.1.size
          have HRS := Lib.hid (sb_rest q 1 hqs)
          have HRZ := Lib.hid (rest_size q 1 hqs)
          have HMEM : Hid (O.length ≤ 1000050) := Lib.hid (by have := HLN.out; omega)
          rcases hc1 with rfl | rfl
          all_goals
            go_wp2_with (at_builtin; refine appRz frmC_len frmC_one Try.underlying29 rfl (by decide) info_frm (by decide) rfl (.tmp 36) (.tmp 39) rfl w.heap.size (.slice sO O.length cO) O rfl HOW1.out (.slice (some ⟨wr.heap.size, 0, none⟩) 1 1) [⟨_, emp⟩] rfl HLIT.out (by have := HMEM.out; unfold maxLen; simp; omega) (by have := HMEM.out; simp; omega) (by have := HWW.out; simp; omega) ?_; intro v5 w5 hown5 hgr5 hli5; have hrow5 := HROW.out w5 hgr5; have HROW5 := Lib.hid hrow5; have HOWN5 := Lib.hid hown5; have HGR5 := Lib.hid hgr5; have HLI5 := Lib.hid hli5; obtain ⟨t0, t1, t2, t3⟩ := cells2 hrow5; clear hown5 hgr5 hli5 hrow5)
            have HF5 : Hid (FarR B g none w w5) := Lib.hid ⟨HF1'.out.1.grown HGR5.out (Nat.le_trans HBW.out HF1'.out.1.size) (fun r hr => Nat.le_trans HBW.out (HON.out r hr).2.2), fun r hr hn hS => (HGR5.out.block r (Nat.lt_of_lt_of_le hr HF1'.out.1.size) (fun e => by have := (HON.out r e.symm).2.2; omega)).trans (HF1'.out.2 r hr hn hS)⟩
            have HNE5 : Hid (∀ r, v5.ownBlock = some r → r ≠ g) := Lib.hid (fun r hr => by
              rcases HLI5.out with e | e
              · exact (HON.out r (e ▸ hr)).1
              · have e1 := e r hr; have e2 := (Array.getElem?_eq_some_iff.1 HQ.out).1; simp at e1; intro e3; omega)
            go_roundw
            case rel => exact ⟨q.extract 1 q.size, O ++ [⟨_, emp⟩], v5, rfl, (cells2 (two0 HROW5.out)).1, Lib.hid (two0 HROW5.out), Lib.hid (ownR_same HOWN5.out fun r hr => heap_setCell_other _ _ _ _ (HNE5.out r hr)), Lib.hid (HF5.out.setCell HB.out 0 _), Lib.hid (by rw [HRZ.out, List.length_append]; have := HLN.out; simp; omega), Lib.hid (by have e := HEQ.out; rw [HHEAD.out, HGO.out] at e; rw [HRS.out, ← e.1, ← e.2]; simp)⟩
            case measure => (have e1 := (cells2 (two0 (v := .string (q.extract 1 q.size)) HROW5.out)).1; rw [e1, hq0]; simp only []; rw [HRZ.out]; omega)
        · have e66 : (c == 66) = false := beq_eq_false_iff_ne.2 (by omega)
          have e69 : (c == 69) = false := beq_eq_false_iff_ne.2 (by omega)
          by_cases h81 : c = 81
          · subst h81
            clear hc1 e66 e69
            by_cases hs1 : q.size < 2
            · have hs1z : (q.size : Int) < 2 := by omega
              have HSB : Hid (sb q = [81]) := Lib.hid (by
                have hl : (sb q).length = 1 := by rw [sb_length]; omega
                rw [HHEAD.out] at hl ⊢
                simp only [List.length_cons] at hl
                rw [List.eq_nil_of_length_eq_zero (l := (sb q).drop 1) (by omega)])
              have HE : Hid (∀ n, RFeedR B g s (sb b) w (.returned (.slice sO O.length cO)) (wr.drewN n)) := Lib.hid (fun n => keep_end (s' := ⟨1, 0, []⟩) HQ.out HOW.out HF.out HEQ.out (by rw [HSB.out]; rfl) (by rw [HSB.out]; rfl) (by decide) n)
              clear hs1
              go_wp2
              go_quiet (fail)
              go_wp2
              go_ret
              exact HE.out _
            · have hs2z : (2 : Int) ≤ (q.size : Int) := by omega
              have hqs1 : 1 < q.size := by omega
              have HSEC := Lib.hid (sb_second hqs1)
              obtain ⟨d, hd⟩ : ∃ d : Int, (q[1].toNat : Int) = d := ⟨_, rfl⟩
              have hdb : 0 ≤ d ∧ d ≤ 255 := by have := q[1].toNat_lt; omega
              rw [hd] at HSEC
              have HSB : Hid (sb q = 81 :: d :: (sb q).drop 2) := Lib.hid (HHEAD.out.trans (by rw [HSEC.out]))
              clear hs1
              by_cases hd48 : 48 < d
              · have HE : Hid (RFeedR B g s (sb b) w (.returned (.slice sO O.length cO)) ((wr.setCell ⟨g, 1, none⟩ (.bool true)).setCell ⟨g, 0, none⟩ (.string ⟨#[]⟩))) := Lib.hid (bad_end HQ.out HOW.out HF.out HB.out HBg.out HEQ.out (by rw [HSB.out]; exact go_long hd48 _))
                go_wp2
                go_ret
                exact HE.out
              · have hd48' : d ≤ 48 := by omega
                by_cases hfull : (q.size : Int) < 2 + d
                · have HE : Hid (∀ n, RFeedR B g s (sb b) w (.returned (.slice sO O.length cO)) (wr.drewN n)) := Lib.hid (fun n => keep_end (s' := ⟨2, d, (sb q).drop 2⟩) HQ.out HOW.out HF.out HEQ.out (by
                    conv => lhs; rw [HSB.out]
                    exact go_part hdb.1 hd48' _ (by rw [List.length_drop, sb_length]; omega)) HSB.out (by show (2 : Int) ≠ 3; decide) n)
                  have hw0 : IntKind.i64.wrap d = d := IntWalk.i64_in _ (by omega)
                  have hw1 : IntKind.i64.wrap (2 + d) = 2 + d := IntWalk.i64_in _ (by omega)
                  go_wp2
                  go_quiet (fail)
                  go_wp2
                  go_ret
                  exact HE.out _
                · have hfull' : 2 + d ≤ (q.size : Int) := by omega
                  have HDN : Hid (2 + d.toNat ≤ q.size ∧ (d.toNat : Int) = d) := Lib.hid ⟨by omega, by omega⟩
                  obtain ⟨tx, hE1⟩ : ∃ tx : ByteArray, q.extract 2 (2 + d).toNat = tx := ⟨_, rfl⟩
                  obtain ⟨rx, hE2⟩ : ∃ rx : ByteArray, q.extract (2 + d).toNat q.size = rx := ⟨_, rfl⟩
                  have HTX : Hid (sb tx = ((sb q).drop 2).take d.toNat) := Lib.hid (by rw [← hE1, show (2 + d).toNat = 2 + d.toNat by omega]; exact sb_extract _ _ _)
                  have HRX : Hid (sb rx = (sb q).drop (2 + d.toNat)) := Lib.hid (by rw [← hE2, show (2 + d).toNat = 2 + d.toNat by omega]; exact sb_rest _ _ (by omega))
                  have HRZ : Hid (rx.size = q.size - (2 + d.toNat)) := Lib.hid (by rw [← sb_length, HRX.out, List.length_drop, sb_length])
                  have HGO : Hid (runV zero (sb q) = (⟨81, tx⟩ :: (runV zero (sb rx)).1, (runV zero (sb rx)).2)) := Lib.hid (by
                    have e : (sb q).drop 2 = sb tx ++ sb rx := by
                      rw [HTX.out, HRX.out, ← List.drop_drop, List.take_append_drop]
                    conv => lhs; rw [HSB.out, e]
                    rw [go_full hdb.1 hd48' (sb tx) (sb rx) (by rw [HTX.out, List.length_take, List.length_drop, sb_length]; omega)]
                    unfold mkQ
                    rw [sb_str])
                  have HLIT : Hid (∀ n, SlR 2 frmC ((wr.drewN n).alloc (.cells #[.int .u8 81, .string tx] 57)) (.slice (some ⟨wr.heap.size, 0, none⟩) 1 1) [⟨81, tx⟩]) := Lib.hid (fun n => SlR.one frmC_len (wr.drewN n) wr.heap.size rfl _ ⟨81, tx⟩ rfl)
                  have HOW1 : Hid (∀ n, OwnR 2 frmC 57 ((wr.drewN n).alloc (.cells #[.int .u8 81, .string tx] 57)) w.heap.size (.slice sO O.length cO) O) := Lib.hid (fun n => OwnR.alloc (ownR_same (w' := wr.drewN n) HOW.out fun _ _ => rfl) _)
                  have HBW : Hid (B ≤ w.heap.size) := Lib.hid (by have := HBg.out; omega)
                  have HF1' : Hid (∀ n, FarR B g none w ((wr.drewN n).alloc (.cells #[.int .u8 81, .string tx] 57))) := Lib.hid (fun n => (HF.out.drewN n).alloc HBW.out _)
                  have HROW : Hid (∀ n w', ((wr.drewN n).alloc (.cells #[.int .u8 81, .string tx] 57)).grownBy w' (Value.slice sO O.length cO).ownBlock → w'.heap[g]? = some (.cells #[.string q, .bool false] 28 (0, 0))) := Lib.hid (fun n w' hgw => (hgw.block g (by have := (Array.getElem?_eq_some_iff.1 HQ.out).1; show g < (wr.heap.push _).size; simp; omega) (fun e => (HON.out g e.symm).1 rfl)).trans (arow (drow n HQ.out)))
                  have HWW : Hid (∀ n, w.heap.size ≤ ((wr.drewN n).alloc (.cells #[.int .u8 81, .string tx] 57)).heap.size) := Lib.hid (fun n => by have := HF.out.1.size; show w.heap.size ≤ (wr.heap.push _).size; simp; omega)
                  have HNEF : Hid (∀ n v5, Lies ((wr.drewN n).alloc (.cells #[.int .u8 81, .string tx] 57)) (.slice sO O.length cO) v5 → ∀ r, v5.ownBlock = some r → r ≠ g) := Lib.hid (fun n v5 hl r hr => by
                    rcases hl with e | e
                    · exact (HON.out r (e ▸ hr)).1
                    · have e1 : (wr.heap.push _).size ≤ r := e r hr
                      have e2 := (Array.getElem?_eq_some_iff.1 HQ.out).1
                      simp at e1; intro e3; omega)
                  have HMEM : Hid (O.length ≤ 1000050) := Lib.hid (by have := HLN.out; omega)
                  have hw0 : IntKind.i64.wrap d = d := IntWalk.i64_in _ (by omega)
                  have hw1 : IntKind.i64.wrap (2 + d) = 2 + d := IntWalk.i64_in _ (by omega)
                  go_wp2
                  go_quiet (fail)
                  clear hw0 hw1
                  go_wp2_with (at_builtin; refine appRz frmC_len frmC_one Try.underlying29 rfl (by decide) info_frm (by decide) rfl (.tmp 103) (.tmp 111) rfl w.heap.size (.slice sO O.length cO) O rfl (HOW1.out _) (.slice (some ⟨wr.heap.size, 0, none⟩) 1 1) [⟨81, tx⟩] rfl (HLIT.out _) (by have := HMEM.out; unfold maxLen; simp; omega) (by have := HMEM.out; simp; omega) (HWW.out _) ?_; intro v5 w5 hown5 hgr5 hli5; have hrow5 := HROW.out _ w5 hgr5; have HROW5 := Lib.hid hrow5; have HOWN5 := Lib.hid hown5; have HGR5 := Lib.hid hgr5; have HLI5 := Lib.hid hli5; obtain ⟨t0, t1, t2, t3⟩ := cells2 hrow5; clear hown5 hgr5 hli5 hrow5)
                  have HNE5 := Lib.hid (HNEF.out _ v5 HLI5.out)
                  have HF5 : Hid (FarR B g none w w5) := Lib.hid ⟨(HF1'.out _).1.grown HGR5.out (Nat.le_trans HBW.out (HF1'.out _).1.size) (fun r hr => Nat.le_trans HBW.out (HON.out r hr).2.2), fun r hr hn hS => (HGR5.out.block r (Nat.lt_of_lt_of_le hr (HF1'.out _).1.size) (fun e => by have := (HON.out r e.symm).2.2; omega)).trans ((HF1'.out _).2 r hr hn hS)⟩
                  go_roundw
                  case rel => exact ⟨rx, O ++ [⟨81, tx⟩], v5, rfl, (cells2 (two0 HROW5.out)).1, Lib.hid (two0 HROW5.out), Lib.hid (ownR_same HOWN5.out fun r hr => heap_setCell_other _ _ _ _ (HNE5.out r hr)), Lib.hid (HF5.out.setCell HB.out 0 _), Lib.hid (by rw [HRZ.out, List.length_append]; have := HLN.out; simp; omega), Lib.hid (by have e := HEQ.out; rw [HGO.out] at e; rw [← e.1, ← e.2]; simp)⟩
                  case measure => (have e1 := (cells2 (two0 (v := .string rx) HROW5.out)).1; rw [e1, hq0]; simp only []; rw [HRZ.out]; omega)
          · have n81 : (c != 81) = true := by simpa using h81
            have HE : Hid (RFeedR B g s (sb b) w (.returned (.slice sO O.length cO)) ((wr.setCell ⟨g, 1, none⟩ (.bool true)).setCell ⟨g, 0, none⟩ (.string ⟨#[]⟩))) := Lib.hid (bad_end HQ.out HOW.out HF.out HB.out HBg.out HEQ.out (by rw [HHEAD.out]; exact go_bad hc1 h81 _))
            clear hc1 h81
            go_wp2
            go_ret
            exact HE.out
end St
end Go.Proofs.Ytdakkjpejhlciaa
