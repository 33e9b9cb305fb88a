import Derived.Test.YtellilpeakpbfaaGreatDoorRefCToo
import Derived.Test.YtellilpeakpbfaaGreatDoorInsPToo
import Derived.Test.YtellilpeakpbfaaGreatDoorSummToo
section
/-
  The walks of cellarkeep's sameCells and sameProcs.
-/
namespace Go.Proofs.YtellilpeakpbfaaGreatDoor
open Go.RowKit

set_option maxHeartbeats 2000000 in
set_option maxRecDepth 100000 in
theorem ksameCells_any (a b : Nat) (va vb : Value) (la lb : List (Int × Int)) (w : World) (ha : CRow w a va la) (hb : CRow w b vb lb) (hl : la.length ≤ 1000) :
    Calls Tryz.prog 16 #[va, vb] w fun e w' => e = .returned (.bool (decide (la = lb))) ∧ Below w.heap.size w w' := by
  obtain ⟨ao, ac, rfl, hA⟩ := ha.shape
  obtain ⟨bo, bc, rfl, hB⟩ := hb.shape
  have HA := hide hA
  have HB := hide hB
  clear hA hB ha hb
  by_cases hln : la.length = lb.length
  · have t0 : ((la.length : Int) != (lb.length : Int)) = false := by simp; omega
    have HLN := hide hln
    have hln2 : lb.length ≤ 1000 := by omega
    clear hln
    go_enter Tryz.func16, Tryz.ntmps16
    go_wp2
    go_loopw [5] (fun i wr => SmCRel la lb w i wr) (fun i _ => la.length - (intOf i).toNat)
    case atStart => exact ⟨0, Nat.zero_le _, rfl, rfl, Below.refl _ _⟩
    case round =>
    obtain ⟨k, hk, rfl, heq, hbel⟩ := hrel
    have HE := hide heq
    have HBL := hide hbel
    clear heq hbel
    by_cases hlt : k < la.length
    · have hlt2 : k < lb.length := by rw [← HLN.out]; exact hlt
      obtain ⟨g, cur, rfl, -, -, hcs⟩ := HA.out (by omega)
      obtain ⟨g', cur', rfl, -, -, hcs'⟩ := HB.out (by omega)
      obtain ⟨p, hp⟩ : ∃ p, la[k]? = some p := ⟨la[k], by simp [hlt]⟩
      obtain ⟨r, hr⟩ : ∃ p, lb[k]? = some p := ⟨lb[k], by simp [hlt2]⟩
      obtain ⟨c1, c2⟩ := hcs k p hp
      obtain ⟨b1, b2⟩ := hcs' k r hr
      have d1 := at_old HBL.out c1
      have d2 := at_old HBL.out c2
      have e1 := at_old HBL.out b1
      have e2 := at_old HBL.out b2
      have HS1 : Hid (la.take (k + 1) = la.take k ++ [p]) := by
        show _ = _
        rw [List.take_succ_eq_append_getElem hlt]; congr 2; exact (List.getElem?_eq_some_iff.1 hp).2
      have HS2 : Hid (lb.take (k + 1) = lb.take k ++ [r]) := by
        show _ = _
        rw [List.take_succ_eq_append_getElem hlt2]; congr 2; exact (List.getElem?_eq_some_iff.1 hr).2
      have HNE : Hid (p ≠ r → la ≠ lb) := by
        intro h e
        rw [e, hr] at hp
        exact h (Option.some.inj hp).symm
      clear hcs hcs' c1 c2 b1 b2 hp hr
      obtain ⟨p1, p2⟩ := p
      obtain ⟨r1, r2⟩ := r
      cases t1 : (p1 == r1) with
      | true =>
        have q1 : p1 = r1 := by simpa using t1
        cases t2 : (p2 == r2) with
        | true =>
          have q2 : p2 = r2 := by simpa using t2
          have HQ : Hid (la.take (k + 1) = lb.take (k + 1)) := by show _ = _; rw [HS1.out, HS2.out, HE.out, q1, q2]
          clear q1 q2
          go_wp2
          go_quiet (fail)
          go_wp2
          go_roundw
          case rel => exact ⟨k + 1, by omega, by go_num, HQ.out, below_drewN HBL.out _⟩
          case measure => simp [intOf]; omega
        | false =>
          have q2 : ¬ p2 = r2 := by simpa using t2
          have HF : Hid (decide (la = lb) = false) := decide_eq_false (HNE.out (by simp only [ne_eq, Prod.mk.injEq, not_and]; exact fun _ => q2))
          clear q1 q2
          go_wp2
          go_quiet (fail)
          go_wp2
          go_ret
          exact ⟨ret_bool HF.out.symm, below_drewN HBL.out _⟩
      | false =>
        have q1 : ¬ p1 = r1 := by simpa using t1
        have HF : Hid (decide (la = lb) = false) := decide_eq_false (HNE.out (by simp only [ne_eq, Prod.mk.injEq, not_and]; exact fun h => absurd h q1))
        clear q1
        cases t2 : (p2 == r2) with
        | true =>
          go_wp2
          go_quiet (fail)
          go_wp2
          go_ret
          exact ⟨ret_bool HF.out.symm, below_drewN HBL.out _⟩
        | false =>
          go_wp2
          go_quiet (fail)
          go_wp2
          go_ret
          exact ⟨ret_bool HF.out.symm, below_drewN HBL.out _⟩
    · have HT : Hid (decide (la = lb) = true) := by
        show _ = _
        have h := HE.out
        have h2 := HLN.out
        rw [List.take_of_length_le (by omega), List.take_of_length_le (by omega)] at h
        exact decide_eq_true h
      go_wp2
      go_ret
      exact ⟨ret_bool HT.out.symm, HBL.out⟩
  · have t0 : ((la.length : Int) != (lb.length : Int)) = true := by simp; omega
    have HF : Hid (decide (la = lb) = false) := decide_eq_false (fun e => hln (by rw [e]))
    go_enter Tryz.func16, Tryz.ntmps16
    go_wp2
    go_ret
    exact ⟨ret_bool HF.out.symm, Below.refl _ _⟩

set_option maxHeartbeats 2000000 in
set_option maxRecDepth 100000 in
theorem ksameProcs_any (a b : Nat) (va vb : Value) (la lb : List (List UInt8 × List UInt8)) (w : World) (ha : PRow w a va la) (hb : PRow w b vb lb) (hl : la.length ≤ 1000) :
    Calls Tryz.prog 18 #[va, vb] w fun e w' => e = .returned (.bool (decide (la = lb))) ∧ Below w.heap.size w w' := by
  obtain ⟨ao, ac, rfl, hA⟩ := ha.shape
  obtain ⟨bo, bc, rfl, hB⟩ := hb.shape
  have HA := hide hA
  have HB := hide hB
  clear hA hB ha hb
  by_cases hln : la.length = lb.length
  · have t0 : ((la.length : Int) != (lb.length : Int)) = false := by simp; omega
    have HLN := hide hln
    have hln2 : lb.length ≤ 1000 := by omega
    clear hln
    go_enter Tryz.func18, Tryz.ntmps18
    go_wp2
    go_loopw [5] (fun i wr => SmPRel la lb w i wr) (fun i _ => la.length - (intOf i).toNat)
    case atStart => exact ⟨0, Nat.zero_le _, rfl, rfl, Below.refl _ _⟩
    case round =>
    obtain ⟨k, hk, rfl, heq, hbel⟩ := hrel
    have HE := hide heq
    have HBL := hide hbel
    clear heq hbel
    by_cases hlt : k < la.length
    · have hlt2 : k < lb.length := by rw [← HLN.out]; exact hlt
      obtain ⟨g, cur, rfl, -, -, hcs⟩ := HA.out (by omega)
      obtain ⟨g', cur', rfl, -, -, hcs'⟩ := HB.out (by omega)
      obtain ⟨p, hp⟩ : ∃ p, la[k]? = some p := ⟨la[k], by simp [hlt]⟩
      obtain ⟨r, hr⟩ : ∃ p, lb[k]? = some p := ⟨lb[k], by simp [hlt2]⟩
      obtain ⟨c1, c2⟩ := hcs k p hp
      obtain ⟨b1, b2⟩ := hcs' k r hr
      have d1 := at_old HBL.out c1
      have d2 := at_old HBL.out c2
      have e1 := at_old HBL.out b1
      have e2 := at_old HBL.out b2
      have HS1 : Hid (la.take (k + 1) = la.take k ++ [p]) := by
        show _ = _
        rw [List.take_succ_eq_append_getElem hlt]; congr 2; exact (List.getElem?_eq_some_iff.1 hp).2
      have HS2 : Hid (lb.take (k + 1) = lb.take k ++ [r]) := by
        show _ = _
        rw [List.take_succ_eq_append_getElem hlt2]; congr 2; exact (List.getElem?_eq_some_iff.1 hr).2
      have HNE : Hid (p ≠ r → la ≠ lb) := by
        intro h e
        rw [e, hr] at hp
        exact h (Option.some.inj hp).symm
      clear hcs hcs' c1 c2 b1 b2 hp hr
      obtain ⟨p1, p2⟩ := p
      obtain ⟨r1, r2⟩ := r
      simp only [T] at d1 d2 e1 e2
      obtain ⟨x1, hx1⟩ : ∃ x : ByteArray, x = ⟨p1.toArray⟩ := ⟨_, rfl⟩
      obtain ⟨x2, hx2⟩ : ∃ x : ByteArray, x = ⟨p2.toArray⟩ := ⟨_, rfl⟩
      obtain ⟨y1, hy1⟩ : ∃ x : ByteArray, x = ⟨r1.toArray⟩ := ⟨_, rfl⟩
      obtain ⟨y2, hy2⟩ : ∃ x : ByteArray, x = ⟨r2.toArray⟩ := ⟨_, rfl⟩
      rw [← hx1] at d1
      rw [← hx2] at d2
      rw [← hy1] at e1
      rw [← hy2] at e2
      have HX1 := hide hx1
      have HX2 := hide hx2
      have HY1 := hide hy1
      have HY2 := hide hy2
      clear hx1 hx2 hy1 hy2
      cases t1 : (x1.toList == y1.toList) with
      | true =>
        have q1 : p1 = r1 := by rw [ByteArray.toList_eq, ByteArray.toList_eq, HX1.out, HY1.out] at t1; simpa using t1
        cases t2 : (x2.toList == y2.toList) with
        | true =>
          have q2 : p2 = r2 := by rw [ByteArray.toList_eq, ByteArray.toList_eq, HX2.out, HY2.out] at t2; simpa using t2
          have HQ : Hid (la.take (k + 1) = lb.take (k + 1)) := by show _ = _; rw [HS1.out, HS2.out, HE.out, q1, q2]
          clear q1 q2
          go_wp2
          go_quiet (fail)
          go_wp2
          go_roundw
          case rel => exact ⟨k + 1, by omega, by go_num, HQ.out, below_drewN HBL.out _⟩
          case measure => simp [intOf]; omega
        | false =>
          have q2 : ¬ p2 = r2 := by rw [ByteArray.toList_eq, ByteArray.toList_eq, HX2.out, HY2.out] at t2; simpa using t2
          have HF : Hid (decide (la = lb) = false) := decide_eq_false (HNE.out (by simp only [ne_eq, Prod.mk.injEq, not_and]; exact fun _ => q2))
          clear q1 q2
          go_wp2
          go_quiet (fail)
          go_wp2
          go_ret
          exact ⟨ret_bool HF.out.symm, below_drewN HBL.out _⟩
      | false =>
        have q1 : ¬ p1 = r1 := by rw [ByteArray.toList_eq, ByteArray.toList_eq, HX1.out, HY1.out] at t1; simpa using t1
        have HF : Hid (decide (la = lb) = false) := decide_eq_false (HNE.out (by simp only [ne_eq, Prod.mk.injEq, not_and]; exact fun h => absurd h q1))
        clear q1
        cases t2 : (x2.toList == y2.toList) with
        | true =>
          go_wp2
          go_quiet (fail)
          go_wp2
          go_ret
          exact ⟨ret_bool HF.out.symm, below_drewN HBL.out _⟩
        | false =>
          go_wp2
          go_quiet (fail)
          go_wp2
          go_ret
          exact ⟨ret_bool HF.out.symm, below_drewN HBL.out _⟩
    · have HT : Hid (decide (la = lb) = true) := by
        show _ = _
        have h := HE.out
        have h2 := HLN.out
        rw [List.take_of_length_le (by omega), List.take_of_length_le (by omega)] at h
        exact decide_eq_true h
      go_wp2
      go_ret
      exact ⟨ret_bool HT.out.symm, HBL.out⟩
  · have t0 : ((la.length : Int) != (lb.length : Int)) = true := by simp; omega
    have HF : Hid (decide (la = lb) = false) := decide_eq_false (fun e => hln (by rw [e]))
    go_enter Tryz.func18, Tryz.ntmps18
    go_wp2
    go_ret
    exact ⟨ret_bool HF.out.symm, Below.refl _ _⟩
theorem ksameC (a b : Nat) (va vb : Value) (C : Jn.Con) (w : World) (ha : CRow w a va C.list) (hb : CRow w b vb C.list) (hok : Jn.Ok C) :
    Calls Tryz.prog 16 #[va, vb] w fun e w' => e = .returned (.bool true) ∧ Below w.heap.size w w' := by
  have := ksameCells_any a b va vb C.list C.list w ha hb (by have := list_bound hok; omega)
  simpa using this
theorem ksameP (a b : Nat) (va vb : Value) (C : Jn.Con) (w : World) (ha : PRow w a va C.procs) (hb : PRow w b vb C.procs) (hok : Jn.Ok C) :
    Calls Tryz.prog 18 #[va, vb] w fun e w' => e = .returned (.bool true) ∧ Below w.heap.size w w' := by
  have := ksameProcs_any a b va vb C.procs C.procs w ha hb (by have := hok.cnt; omega)
  simpa using this

end Go.Proofs.YtellilpeakpbfaaGreatDoor

end

section
/-
  What is refused: in plain words, and as the store answers it.
-/
set_option linter.unusedVariables false
namespace Go.Proofs.YtellilpeakpbfaaGreatDoor
open Go.RowKit
namespace Kp
open Tr (Tok Ex Sm Sms kind acc)

def rfSrc : List UInt8 := [112, 117, 116, 32, 49, 32, 53, 32, 112, 117, 116, 32, 50, 32, 64, 32, 97, 48, 32, 102, 97, 105, 108]
def rfTree : Sms := .cons (.put (.leaf [49]) (.leaf [53])) (.cons (.put (.leaf [50]) (.un [64] (.leaf [97, 48]))) (.cons .fail .nil))
theorem rf_toks : Ck.toks rfSrc = rfTree.flat := by decide +kernel
theorem rf_ok : rfTree.Ok := by
  have a : kind [49] = 1 := by decide
  have b : kind [53] = 1 := by decide
  have c : kind [50] = 1 := by decide
  have d : kind [64] = 9 := by decide
  have e : kind [97, 48] = 2 := by decide
  exact ⟨⟨.inl a, .inl b⟩, ⟨.inl c, .inl d, .inr (.inl e)⟩, trivial, trivial⟩
theorem rf_read : Ck.read rfSrc = (0, 0) := read_tree _ rfTree rf_ok rf_toks (by decide)
theorem tx_dig (E : Rn.En) (s : Rn.St) (c : UInt8) (n : Nat) (hn : n ≤ 9) (hc : Lib.decDigits n = [c]) (hu : s.used < E.fuel) : Rn.texpr E (.leaf [c]) s = ((n : Int), 0, Rn.use s) := by
  rw [← hc]; exact tx_num E s n (by omega) hu
theorem dig_one (n : Nat) (h : n < 10) : Lib.decDigits n = [UInt8.ofNat (48 + n)] := by rw [Lib.decDigits, dif_pos h]
theorem get_err (E : Rn.En) (s : Rn.St) (k : Int) (hk : Jn.isKey k = true) : (Rn.get E s k).2.2 = 0 := by
  unfold Rn.get
  split
  · rfl
  · unfold Rn.held; rw [if_pos hk]
set_option maxRecDepth 100000 in
theorem rf_run (C : Jn.Con) (hok : Jn.Ok C) (k : Nat) (hk : k ≤ 99) (p : Nat) (hp : p < 1000) : Rn.run C rfSrc [(k : Int)] ((8 + p : Nat) : Int) = (0, 8, [], 9) := by
  have hmay : Rn.may [(k : Int)] ((8 + p : Nat) : Int) = true := by unfold Rn.may Rn.inb; simp; omega
  have hr : (Ck.read rfSrc).2 = 0 := by rw [rf_read]
  have htree := Rn.run_tree C rfSrc [(k : Int)] ((8 + p : Nat) : Int) hok hr hmay rfTree rf_ok rf_toks
  have hrun := Rn.run_ok C rfSrc [(k : Int)] ((8 + p : Nat) : Int) hr hmay
  have key : ∀ E : Rn.En, 8 ≤ E.fuel → E.a0 = (k : Int) → ∀ g, ∃ z : Rn.St, Rn.tstmts E (g + 6) rfTree (sst 0 0 0) = (9, z) ∧ z.used = 8 := by
    intro E hE ha g
    have hkey : Jn.isKey (k : Int) = true := by unfold Jn.isKey; simp; omega
    have p1 := tx_dig E (Rn.use (sst 0 0 0)) 49 1 (by omega) (dig_one 1 (by omega)) (by show 1 < E.fuel; omega)
    have p2 := tx_dig E (Rn.use (Rn.use (sst 0 0 0))) 53 5 (by omega) (dig_one 5 (by omega)) (by show 2 < E.fuel; omega)
    obtain ⟨z1, hz1⟩ : ∃ z1 : Rn.St, z1 = ⟨0, 0, 0, 0, 0, [(1, true, 5)], 3, false, 0⟩ := ⟨_, rfl⟩
    have s1 : Rn.tstmt E (g + 5) (.put (.leaf [49]) (.leaf [53])) (sst 0 0 0) = (0, z1) := by
      rw [show g + 5 = (g + 4) + 1 from rfl, Rn.tstmt, if_neg (by show ¬ E.fuel ≤ 0; omega), p1]
      simp only
      rw [p2, hz1]
      rfl
    have q1 := tx_dig E (Rn.use z1) 50 2 (by omega) (dig_one 2 (by omega)) (by rw [hz1]; show 4 < E.fuel; omega)
    have q2 := tx_arg E (Rn.use (Rn.use (Rn.use z1))) [97, 48] 0 (by decide) (by rw [hz1]; show 6 < E.fuel; omega)
    have ha0 : Rn.arg E 0 = (k : Int) := by unfold Rn.arg; rw [if_pos rfl, ha]
    rw [ha0] at q2
    obtain ⟨x, bb, hg⟩ : ∃ x bb, Rn.get E (Rn.use (Rn.use (Rn.use (Rn.use z1)))) (k : Int) = (x, bb, 0) := by
      have := get_err E (Rn.use (Rn.use (Rn.use (Rn.use z1)))) (k : Int) hkey
      exact ⟨_, _, by rw [← this]⟩
    have q3 := tx_at E (Rn.use (Rn.use z1)) _ _ _ _ _ q2 hg (by rw [hz1]; show 5 < E.fuel; omega)
    obtain ⟨z2, hz2⟩ : ∃ z2 : Rn.St, z2 = ⟨0, 0, 0, 0, 0, [(1, true, 5), (2, true, x)], 7, false, 0⟩ := ⟨_, rfl⟩
    have s2 : Rn.tstmt E (g + 4) (.put (.leaf [50]) (.un [64] (.leaf [97, 48]))) z1 = (0, z2) := by
      rw [show g + 4 = (g + 3) + 1 from rfl, Rn.tstmt, if_neg (by rw [hz1]; show ¬ E.fuel ≤ 3; omega), q1]
      simp only
      rw [q3, hz2, hz1]
      rfl
    have s3 : Rn.tstmt E (g + 3) .fail z2 = (9, Rn.use z2) := by
      rw [show g + 3 = (g + 2) + 1 from rfl, Rn.tstmt, if_neg (by rw [hz2]; show ¬ E.fuel ≤ 7; omega)]
    refine ⟨Rn.use z2, ?_, by rw [hz2]; rfl⟩
    unfold rfTree
    rw [show g + 6 = (g + 5) + 1 from rfl, Rn.tstmts, if_neg (by simp [sst]), s1, if_neg (by simp)]
    simp only
    rw [show g + 5 = (g + 4) + 1 from rfl, Rn.tstmts, if_neg (by rw [hz1]; simp), s2, if_neg (by simp)]
    simp only
    rw [show g + 4 = (g + 3) + 1 from rfl, Rn.tstmts, if_neg (by rw [hz2]; simp), s3, if_pos (by simp)]
  have hf : (Rn.env C rfSrc [(k : Int)] ((8 + p : Nat) : Int)).fuel = 8 + p := by show (((8 + p : Nat) : Int)).toNat = _; omega
  obtain ⟨z, h9, hz⟩ := key (Rn.env C rfSrc [(k : Int)] ((8 + p : Nat) : Int)) (by rw [hf]; omega) rfl (3 * p + 21)
  have e0 : Rn.start = sst 0 0 0 := rfl
  have eg : 3 * (((8 + p : Nat) : Int)).toNat + 3 = 3 * p + 21 + 6 := by omega
  rw [hrun]
  rw [eg, e0, h9] at htree
  rw [eg, e0]
  have h1 : (Rn.stmts (Rn.env C rfSrc [(k : Int)] ((8 + p : Nat) : Int)) (3 * p + 21 + 6) (sst 0 0 0)).1 = 9 := (congrArg Prod.fst htree).symm
  have h2 := congrArg Prod.snd htree
  generalize Rn.stmts (Rn.env C rfSrc [(k : Int)] ((8 + p : Nat) : Int)) (3 * p + 21 + 6) (sst 0 0 0) = q at h1 h2
  rw [if_pos (by rw [h1]; simp), h1]
  have h3 : z = Rn.N q.2 := h2
  have r2 : q.2.used = 8 := by
    have : (Rn.N q.2).used = q.2.used := rfl
    rw [← this, ← h3, hz]
  rw [r2]
  rfl
end Kp

/-- refused: the answer; the site is as it was. -/
def StayPost (L s S B D : Nat) (C : Jn.Con) (f : Int) (d : DS) (v : Value) (w : World) (e : Ending) (w' : World) : Prop := e = .returned v ∧ SiteAt L w' s S B D C f d ∧ FrX L [B] w w'
theorem put_stay {L s S B D : Nat} {C : Jn.Con} {f : Int} {d : DS} {w : World} (h : SiteAt L w s S B D C f d) (k x er : Int) (he : (Jn.put C k x).2 = er) (hn : er ≠ 0) (hP : PowAt w) (hpL : 1 < L) :
    Calls Tryz.prog 32 #[.pointer (some ⟨S, 0, none⟩), .int .i64 k, .int .i64 x] w (StayPost L s S B D C f d (.tuple #[.slice none 0 0, .int .i64 er]) w) := by
  have hs := put_same C k x (by rw [he]; exact hn)
  refine (putS_own L S B C f k x w h.st hP hpL).mono ?_
  rw [hs, he]
  rintro e w' ⟨v, rfl, hst, hfr, ⟨-, rfl⟩ | ⟨h0, -⟩⟩
  · exact ⟨rfl, site_store h hst hfr, FrX.one hfr⟩
  · exact absurd h0 hn
theorem del_stay {L s S B D : Nat} {C : Jn.Con} {f : Int} {d : DS} {w : World} (h : SiteAt L w s S B D C f d) (k er : Int) (he : (Jn.del C k).2 = er) (hn : er ≠ 0) (hP : PowAt w) (hpL : 1 < L) :
    Calls Tryz.prog 34 #[.pointer (some ⟨S, 0, none⟩), .int .i64 k] w (StayPost L s S B D C f d (.tuple #[.slice none 0 0, .int .i64 er]) w) := by
  have hs := del_same C k (by rw [he]; exact hn)
  refine (delS_own L S B C f k w h.st hP hpL).mono ?_
  rw [hs, he]
  rintro e w' ⟨v, rfl, hst, hfr, ⟨-, rfl⟩ | ⟨h0, -⟩⟩
  · exact ⟨rfl, site_store h hst hfr, FrX.one hfr⟩
  · exact absurd h0 hn
theorem drop_stay {L s S B D : Nat} {C : Jn.Con} {f : Int} {d : DS} {w : World} (h : SiteAt L w s S B D C f d) (n : ByteArray) (er : Int) (he : (Jn.drop C n.data.toList).2 = er) (hn : er ≠ 0) :
    Calls Tryz.prog 35 #[.pointer (some ⟨S, 0, none⟩), .string n] w (StayPost L s S B D C f d (.tuple #[.slice none 0 0, .int .i64 er]) w) := by
  have hs := drop_same C n.data.toList (by rw [he]; exact hn)
  refine (dropS_own L S B C f n w h.st).mono ?_
  rw [hs, he]
  rintro e w' ⟨v, rfl, hst, hfr, ⟨-, rfl⟩ | ⟨h0, -⟩⟩
  · exact ⟨rfl, site_store h hst hfr, FrX.one hfr⟩
  · exact absurd h0 hn
theorem install_stay {L s S B D : Nat} {C : Jn.Con} {f : Int} {d : DS} {w : World} (h : SiteAt L w s S B D C f d) (n sr : ByteArray) (a er : Int) (ha : (Jn.install C n.data.toList sr.data.toList).2.1 = a) (he : (Jn.install C n.data.toList sr.data.toList).2.2 = er) (hn : er ≠ 0) (hW : WordsAt w) :
    Calls Tryz.prog 29 #[.pointer (some ⟨S, 0, none⟩), .string n, .string sr] w (StayPost L s S B D C f d (.tuple #[.int .i64 a, .slice none 0 0, .int .i64 er]) w) := by
  have hs := install_same C n.data.toList sr.data.toList (by rw [he]; exact hn)
  refine (installS_own L S B C f n sr w h.st hW).mono ?_
  rw [hs, he, ha]
  rintro e w' ⟨v, rfl, hst, hfr, ⟨-, rfl⟩ | ⟨h0, -⟩⟩
  · exact ⟨rfl, site_store h hst hfr, FrX.one hfr⟩
  · exact absurd h0 hn
theorem call_stay {L s S B D : Nat} {C : Jn.Con} {f : Int} {d : DS} {w : World} (h : SiteAt L w s S B D C f d) (n : ByteArray) (v : Value) (args : List Int) (fuel val used er : Int) (hr : (Rn.call C n.data.toList args fuel).2.1 = val ∧ (Rn.call C n.data.toList args fuel).2.2.1 = used ∧ (Rn.call C n.data.toList args fuel).2.2.2.2 = er) (hn : er ≠ 0) (hW : WordsAt w) (hv : IntsAt w v args) (hP : PowAt w) (hpL : 1 < L) :
    Calls Tryz.prog 27 #[.pointer (some ⟨S, 0, none⟩), .string n, v, .int .i64 fuel] w (StayPost L s S B D C f d (.tuple #[.agg #[.int .i64 val, .int .i64 used], .slice none 0 0, .int .i64 er]) w) := by
  obtain ⟨f1, f2, f3, f4, fe, f0, fn, fp⟩ := Rn.call_facts C n.data.toList args fuel h.st.con.ok
  obtain ⟨r1, r2, r3⟩ := hr
  obtain ⟨e1, e2⟩ := fe (by rw [r3]; exact hn)
  refine (callS_any L S B C f n v args fuel w h.st hW hv hP hpL).mono ?_
  rintro e w' ⟨va, rfl, hst, hfr, ⟨-, rfl⟩ | ⟨h0, -⟩⟩
  · rw [r1, r2, r3]
    rw [e1] at hst
    exact ⟨rfl, site_store h hst hfr, FrX.one hfr⟩
  · exact absurd e2 h0
end Go.Proofs.YtellilpeakpbfaaGreatDoor

end
