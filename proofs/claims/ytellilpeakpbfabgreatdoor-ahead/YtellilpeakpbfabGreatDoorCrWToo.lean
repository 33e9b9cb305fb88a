import Derived.Test.YtellilpeakpbfabGreatDoorRefCToo
import Derived.Test.YtellilpeakpbfabGreatDoorInsPToo
import Derived.Test.YtellilpeakpbfabGreatDoorCrshToo
import Derived.BigQuiet
import Derived.Deep.RegionHeld3
section
/-
  The walks of cellarkeep's sameCells and sameProcs.
-/
namespace Go.Proofs.YtellilpeakpbfabGreatDoor
open Go.RowKit

set_option maxHeartbeats 2000000 in
set_option maxRecDepth 100000 in
theorem ksameCells_any (a b : Nat) (va vb : Value) (la lb : List (Int × Int)) (w : World) (ha : CRow w a va la) (hb : CRow w b vb lb) (hl : la.length ≤ 1000) :
    Calls Tryz.prog 28 #[va, vb] w fun e w' => e = .returned (.bool (decide (la = lb))) ∧ Below w.heap.size w w' := by
  obtain ⟨ao, ac, rfl, hA⟩ := ha.shape
  obtain ⟨bo, bc, rfl, hB⟩ := hb.shape
  have HA := hide hA
  have HB := hide hB
  clear hA hB ha hb
  by_cases hln : la.length = lb.length
  · have t0 : ((la.length : Int) != (lb.length : Int)) = false := by simp; omega
    have HLN := hide hln
    have hln2 : lb.length ≤ 1000 := by omega
    clear hln
    go_enter Tryz.func28, Tryz.ntmps28
    go_wp2
    go_loopw [5] (fun i wr => SmCRel la lb w i wr) (fun i _ => la.length - (intOf i).toNat)
    case atStart => exact ⟨0, Nat.zero_le _, rfl, rfl, Below.refl _ _⟩
    case round =>
    obtain ⟨k, hk, rfl, heq, hbel⟩ := hrel
    have HE := hide heq
    have HBL := hide hbel
    clear heq hbel
    by_cases hlt : k < la.length
    · have hlt2 : k < lb.length := by rw [← HLN.out]; exact hlt
      obtain ⟨g, cur, rfl, -, -, hcs⟩ := HA.out (by omega)
      obtain ⟨g', cur', rfl, -, -, hcs'⟩ := HB.out (by omega)
      obtain ⟨p, hp⟩ : ∃ p, la[k]? = some p := ⟨la[k], by simp [hlt]⟩
      obtain ⟨r, hr⟩ : ∃ p, lb[k]? = some p := ⟨lb[k], by simp [hlt2]⟩
      obtain ⟨c1, c2⟩ := hcs k p hp
      obtain ⟨b1, b2⟩ := hcs' k r hr
      have d1 := at_old HBL.out c1
      have d2 := at_old HBL.out c2
      have e1 := at_old HBL.out b1
      have e2 := at_old HBL.out b2
      have HS1 : Hid (la.take (k + 1) = la.take k ++ [p]) := by
        show _ = _
        rw [List.take_succ_eq_append_getElem hlt]; congr 2; exact (List.getElem?_eq_some_iff.1 hp).2
      have HS2 : Hid (lb.take (k + 1) = lb.take k ++ [r]) := by
        show _ = _
        rw [List.take_succ_eq_append_getElem hlt2]; congr 2; exact (List.getElem?_eq_some_iff.1 hr).2
      have HNE : Hid (p ≠ r → la ≠ lb) := by
        intro h e
        rw [e, hr] at hp
        exact h (Option.some.inj hp).symm
      clear hcs hcs' c1 c2 b1 b2 hp hr
      obtain ⟨p1, p2⟩ := p
      obtain ⟨r1, r2⟩ := r
      cases t1 : (p1 == r1) with
      | true =>
        have q1 : p1 = r1 := by simpa using t1
        cases t2 : (p2 == r2) with
        | true =>
          have q2 : p2 = r2 := by simpa using t2
          have HQ : Hid (la.take (k + 1) = lb.take (k + 1)) := by show _ = _; rw [HS1.out, HS2.out, HE.out, q1, q2]
          clear q1 q2
          go_wp2
          go_quiet (fail)
          go_wp2
          go_roundw
          case rel => exact ⟨k + 1, by omega, by go_num, HQ.out, below_drewN HBL.out _⟩
          case measure => simp [intOf]; omega
        | false =>
          have q2 : ¬ p2 = r2 := by simpa using t2
          have HF : Hid (decide (la = lb) = false) := decide_eq_false (HNE.out (by simp only [ne_eq, Prod.mk.injEq, not_and]; exact fun _ => q2))
          clear q1 q2
          go_wp2
          go_quiet (fail)
          go_wp2
          go_ret
          exact ⟨ret_bool HF.out.symm, below_drewN HBL.out _⟩
      | false =>
        have q1 : ¬ p1 = r1 := by simpa using t1
        have HF : Hid (decide (la = lb) = false) := decide_eq_false (HNE.out (by simp only [ne_eq, Prod.mk.injEq, not_and]; exact fun h => absurd h q1))
        clear q1
        cases t2 : (p2 == r2) with
        | true =>
          go_wp2
          go_quiet (fail)
          go_wp2
          go_ret
          exact ⟨ret_bool HF.out.symm, below_drewN HBL.out _⟩
        | false =>
          go_wp2
          go_quiet (fail)
          go_wp2
          go_ret
          exact ⟨ret_bool HF.out.symm, below_drewN HBL.out _⟩
    · have HT : Hid (decide (la = lb) = true) := by
        show _ = _
        have h := HE.out
        have h2 := HLN.out
        rw [List.take_of_length_le (by omega), List.take_of_length_le (by omega)] at h
        exact decide_eq_true h
      go_wp2
      go_ret
      exact ⟨ret_bool HT.out.symm, HBL.out⟩
  · have t0 : ((la.length : Int) != (lb.length : Int)) = true := by simp; omega
    have HF : Hid (decide (la = lb) = false) := decide_eq_false (fun e => hln (by rw [e]))
    go_enter Tryz.func28, Tryz.ntmps28
    go_wp2
    go_ret
    exact ⟨ret_bool HF.out.symm, Below.refl _ _⟩

set_option maxHeartbeats 2000000 in
set_option maxRecDepth 100000 in
theorem ksameProcs_any (a b : Nat) (va vb : Value) (la lb : List (List UInt8 × List UInt8)) (w : World) (ha : PRow w a va la) (hb : PRow w b vb lb) (hl : la.length ≤ 1000) :
    Calls Tryz.prog 29 #[va, vb] w fun e w' => e = .returned (.bool (decide (la = lb))) ∧ Below w.heap.size w w' := by
  obtain ⟨ao, ac, rfl, hA⟩ := ha.shape
  obtain ⟨bo, bc, rfl, hB⟩ := hb.shape
  have HA := hide hA
  have HB := hide hB
  clear hA hB ha hb
  by_cases hln : la.length = lb.length
  · have t0 : ((la.length : Int) != (lb.length : Int)) = false := by simp; omega
    have HLN := hide hln
    have hln2 : lb.length ≤ 1000 := by omega
    clear hln
    go_enter Tryz.func29, Tryz.ntmps29
    go_wp2
    go_loopw [5] (fun i wr => SmPRel la lb w i wr) (fun i _ => la.length - (intOf i).toNat)
    case atStart => exact ⟨0, Nat.zero_le _, rfl, rfl, Below.refl _ _⟩
    case round =>
    obtain ⟨k, hk, rfl, heq, hbel⟩ := hrel
    have HE := hide heq
    have HBL := hide hbel
    clear heq hbel
    by_cases hlt : k < la.length
    · have hlt2 : k < lb.length := by rw [← HLN.out]; exact hlt
      obtain ⟨g, cur, rfl, -, -, hcs⟩ := HA.out (by omega)
      obtain ⟨g', cur', rfl, -, -, hcs'⟩ := HB.out (by omega)
      obtain ⟨p, hp⟩ : ∃ p, la[k]? = some p := ⟨la[k], by simp [hlt]⟩
      obtain ⟨r, hr⟩ : ∃ p, lb[k]? = some p := ⟨lb[k], by simp [hlt2]⟩
      obtain ⟨c1, c2⟩ := hcs k p hp
      obtain ⟨b1, b2⟩ := hcs' k r hr
      have d1 := at_old HBL.out c1
      have d2 := at_old HBL.out c2
      have e1 := at_old HBL.out b1
      have e2 := at_old HBL.out b2
      have HS1 : Hid (la.take (k + 1) = la.take k ++ [p]) := by
        show _ = _
        rw [List.take_succ_eq_append_getElem hlt]; congr 2; exact (List.getElem?_eq_some_iff.1 hp).2
      have HS2 : Hid (lb.take (k + 1) = lb.take k ++ [r]) := by
        show _ = _
        rw [List.take_succ_eq_append_getElem hlt2]; congr 2; exact (List.getElem?_eq_some_iff.1 hr).2
      have HNE : Hid (p ≠ r → la ≠ lb) := by
        intro h e
        rw [e, hr] at hp
        exact h (Option.some.inj hp).symm
      clear hcs hcs' c1 c2 b1 b2 hp hr
      obtain ⟨p1, p2⟩ := p
      obtain ⟨r1, r2⟩ := r
      simp only [T] at d1 d2 e1 e2
      obtain ⟨x1, hx1⟩ : ∃ x : ByteArray, x = ⟨p1.toArray⟩ := ⟨_, rfl⟩
      obtain ⟨x2, hx2⟩ : ∃ x : ByteArray, x = ⟨p2.toArray⟩ := ⟨_, rfl⟩
      obtain ⟨y1, hy1⟩ : ∃ x : ByteArray, x = ⟨r1.toArray⟩ := ⟨_, rfl⟩
      obtain ⟨y2, hy2⟩ : ∃ x : ByteArray, x = ⟨r2.toArray⟩ := ⟨_, rfl⟩
      rw [← hx1] at d1
      rw [← hx2] at d2
      rw [← hy1] at e1
      rw [← hy2] at e2
      have HX1 := hide hx1
      have HX2 := hide hx2
      have HY1 := hide hy1
      have HY2 := hide hy2
      clear hx1 hx2 hy1 hy2
      cases t1 : (x1.toList == y1.toList) with
      | true =>
        have q1 : p1 = r1 := by rw [ByteArray.toList_eq, ByteArray.toList_eq, HX1.out, HY1.out] at t1; simpa using t1
        cases t2 : (x2.toList == y2.toList) with
        | true =>
          have q2 : p2 = r2 := by rw [ByteArray.toList_eq, ByteArray.toList_eq, HX2.out, HY2.out] at t2; simpa using t2
          have HQ : Hid (la.take (k + 1) = lb.take (k + 1)) := by show _ = _; rw [HS1.out, HS2.out, HE.out, q1, q2]
          clear q1 q2
          go_wp2
          go_quiet (fail)
          go_wp2
          go_roundw
          case rel => exact ⟨k + 1, by omega, by go_num, HQ.out, below_drewN HBL.out _⟩
          case measure => simp [intOf]; omega
        | false =>
          have q2 : ¬ p2 = r2 := by rw [ByteArray.toList_eq, ByteArray.toList_eq, HX2.out, HY2.out] at t2; simpa using t2
          have HF : Hid (decide (la = lb) = false) := decide_eq_false (HNE.out (by simp only [ne_eq, Prod.mk.injEq, not_and]; exact fun _ => q2))
          clear q1 q2
          go_wp2
          go_quiet (fail)
          go_wp2
          go_ret
          exact ⟨ret_bool HF.out.symm, below_drewN HBL.out _⟩
      | false =>
        have q1 : ¬ p1 = r1 := by rw [ByteArray.toList_eq, ByteArray.toList_eq, HX1.out, HY1.out] at t1; simpa using t1
        have HF : Hid (decide (la = lb) = false) := decide_eq_false (HNE.out (by simp only [ne_eq, Prod.mk.injEq, not_and]; exact fun h => absurd h q1))
        clear q1
        cases t2 : (x2.toList == y2.toList) with
        | true =>
          go_wp2
          go_quiet (fail)
          go_wp2
          go_ret
          exact ⟨ret_bool HF.out.symm, below_drewN HBL.out _⟩
        | false =>
          go_wp2
          go_quiet (fail)
          go_wp2
          go_ret
          exact ⟨ret_bool HF.out.symm, below_drewN HBL.out _⟩
    · have HT : Hid (decide (la = lb) = true) := by
        show _ = _
        have h := HE.out
        have h2 := HLN.out
        rw [List.take_of_length_le (by omega), List.take_of_length_le (by omega)] at h
        exact decide_eq_true h
      go_wp2
      go_ret
      exact ⟨ret_bool HT.out.symm, HBL.out⟩
  · have t0 : ((la.length : Int) != (lb.length : Int)) = true := by simp; omega
    have HF : Hid (decide (la = lb) = false) := decide_eq_false (fun e => hln (by rw [e]))
    go_enter Tryz.func29, Tryz.ntmps29
    go_wp2
    go_ret
    exact ⟨ret_bool HF.out.symm, Below.refl _ _⟩
theorem ksameC (a b : Nat) (va vb : Value) (C : Jn.Con) (w : World) (ha : CRow w a va C.list) (hb : CRow w b vb C.list) (hok : Jn.Ok C) :
    Calls Tryz.prog 28 #[va, vb] w fun e w' => e = .returned (.bool true) ∧ Below w.heap.size w w' := by
  have := ksameCells_any a b va vb C.list C.list w ha hb (by have := list_bound hok; omega)
  simpa using this
theorem ksameP (a b : Nat) (va vb : Value) (C : Jn.Con) (w : World) (ha : PRow w a va C.procs) (hb : PRow w b vb C.procs) (hok : Jn.Ok C) :
    Calls Tryz.prog 29 #[va, vb] w fun e w' => e = .returned (.bool true) ∧ Below w.heap.size w w' := by
  have := ksameProcs_any a b va vb C.procs C.procs w ha hb (by have := hok.cnt; omega)
  simpa using this

end Go.Proofs.YtellilpeakpbfabGreatDoor

end

section
/-
  The walk of Crash; what a store is, that is opened behind one.
-/
set_option linter.unusedVariables false
namespace Go.Proofs.YtellilpeakpbfabGreatDoor
open Go.RowKit

namespace Cr
def raw (c : Int) : Int := if c < 0 then -(c + 1) else c
def pick (c n : Int) : Int := raw c % n
theorem pick_bd (c n : Int) (h : 0 < n) : 0 ≤ pick c n ∧ pick c n < n := ⟨Int.emod_nonneg _ (by omega), Int.emod_lt_of_pos _ h⟩
end Cr

set_option maxHeartbeats 1000000 in
set_option maxRecDepth 100000 in
theorem dpick_any (c : Int) (n : Nat) (h0 : 0 < n) (h1 : n ≤ 2305843009213693952) (c0 : -9223372036854775808 ≤ c) (c1 : c ≤ 9223372036854775807) (w : World) :
    Calls Tryz.prog 39 #[.int .i64 c, .int .i64 n] w fun e w' => e = .returned (.int .i64 (Cr.pick c n)) ∧ w' = w := by
  obtain ⟨r, hr⟩ : ∃ r, r = Cr.pick c n := ⟨_, rfl⟩
  rw [← hr]
  by_cases hc : c < 0
  · obtain ⟨k, hk⟩ : ∃ k : Nat, (k : Int) = -(c + 1) := ⟨(-(c + 1)).toNat, by omega⟩
    obtain rfl : c = -(k : Int) - 1 := by omega
    have t1 : decide (-(k : Int) - 1 < 0) = true := decide_eq_true hc
    have hr2 : r = (k : Int) % n := by rw [hr]; unfold Cr.pick Cr.raw; rw [if_pos hc]; congr 1; omega
    clear hr hk hc
    go_enter Tryz.func39, Tryz.ntmps39
    go_wp2
    go_ret
    exact ⟨by rw [hr2]; rfl, rfl⟩
  · obtain ⟨k, rfl⟩ : ∃ k : Nat, c = (k : Int) := ⟨c.toNat, by omega⟩
    have t1 : decide ((k : Int) < 0) = false := decide_eq_false hc
    have hr2 : r = (k : Int) % n := by rw [hr]; unfold Cr.pick Cr.raw; rw [if_neg hc]
    clear hr hc
    go_enter Tryz.func39, Tryz.ntmps39
    go_wp2
    go_ret
    exact ⟨by rw [hr2]; rfl, rfl⟩


def CrRel (L D : Nat) (w : World) (a b : ByteArray) (la lb : Nat) (i : Value) (wr : World) : Prop :=
  Fr L [] (some D) w wr ∧ ((i = .int .i64 0 ∧ DAt wr D a b la lb) ∨ (i = .int .i64 1 ∧ ∃ n : Nat, la ≤ n ∧ n ≤ a.size ∧ DAt wr D (a.extract 0 n) b n lb) ∨
    (i = .int .i64 2 ∧ ∃ n m : Nat, la ≤ n ∧ n ≤ a.size ∧ lb ≤ m ∧ m ≤ b.size ∧ DAt wr D (a.extract 0 n) (b.extract 0 m) n m))

theorem pick_part (x : Int) (la : Nat) (a : ByteArray) (h : la ≤ a.size) (hz : a.size ≤ 1152921504606846976) (x0 : -9223372036854775808 ≤ x) (x1 : x ≤ 9223372036854775807) :
    ∃ p : Nat, la + p ≤ a.size ∧ ∀ w, Calls Tryz.prog 39 #[.int .i64 x, .int .i64 ((a.size : Int) - (la : Int) + 1)] w fun e w' => e = .returned (.int .i64 (p : Int)) ∧ w' = w := by
  have hb := Cr.pick_bd x ((a.size - la + 1 : Nat) : Int) (by omega)
  refine ⟨(Cr.pick x ((a.size - la + 1 : Nat) : Int)).toNat, by omega, fun w => ?_⟩
  have h := dpick_any x (a.size - la + 1) (by omega) (by omega) x0 x1 w
  rw [show ((a.size - la + 1 : Nat) : Int) = (a.size : Int) - (la : Int) + 1 by omega] at h hb ⊢
  refine h.mono ?_
  rintro e w' ⟨rfl, rfl⟩
  exact ⟨by rw [Int.toNat_of_nonneg hb.1], rfl⟩

set_option maxHeartbeats 4000000 in
set_option maxRecDepth 100000 in
theorem crash_any (L D : Nat) (w : World) (d : DS) (x y : Int) (h : DsAt w D d) (hL : L ≤ D) (hk : LastOk d) (h1 : d.1.size ≤ 1152921504606846976) (h2 : d.2.1.size ≤ 1152921504606846976)
    (x0 : -9223372036854775808 ≤ x) (x1 : x ≤ 9223372036854775807) (y0 : -9223372036854775808 ≤ y) (y1 : y ≤ 9223372036854775807) :
    Calls Tryz.prog 16 #[.pointer (some ⟨D, 0, none⟩), .int .i64 x, .int .i64 y] w fun e w' => e = .returned (.tuple #[]) ∧ ∃ n m : Nat, d.2.2.1 ≤ n ∧ n ≤ d.1.size ∧ d.2.2.2 ≤ m ∧ m ≤ d.2.1.size ∧ DsAt w' D (cutDS d n m) ∧ Fr L [] (some D) w w' := by
  obtain ⟨a, b, la, lb⟩ := d
  obtain ⟨k1, k2, k3, k4⟩ := hk
  simp only at k1 k2 k3 k4 h1 h2 h
  obtain ⟨la, rfl⟩ : ∃ k : Nat, la = (k : Int) := ⟨la.toNat, by omega⟩
  obtain ⟨lb, rfl⟩ : ∃ k : Nat, lb = (k : Int) := ⟨lb.toNat, by omega⟩
  obtain ⟨p, hp1, hp2⟩ := pick_part x la a (by omega) h1 x0 x1
  obtain ⟨q, hq1, hq2⟩ := pick_part y lb b (by omega) h2 y0 y1
  have HP := hide hp2
  have HQ := hide hq2
  have hla : la ≤ a.size := by omega
  have hlb : lb ≤ b.size := by omega
  have HR0 : Hid (CrRel L D w a b la lb (.int .i64 (0 : Int)) w) := ⟨Fr.refl _ _ _ _, .inl ⟨rfl, h⟩⟩
  clear hp2 hq2 h k1 k2 k3 k4
  go_enter Tryz.func16, Tryz.ntmps16
  go_wp2_with fail
  go_loopw [6] (fun i wr => CrRel L D w a b la lb i wr) (fun i _ => 2 - (intOf i).toNat)
  case atStart => exact HR0.out
  case round =>
    clear HR0
    obtain ⟨hfr, hor⟩ := hrel
    rcases hor with ⟨rfl, hD⟩ | ⟨rfl, n, n1, n2, hD⟩ | ⟨rfl, n, m, n1, n2, m1, m2, hD⟩
    · obtain ⟨c0, c1, c2, c3⟩ := hD.cell
      have z0 := hD.fz 0
      have z2 := hD.fz 2
      have HFR := hide hfr
      have HD := hide hD
      have w1 : IntKind.i64.wrap ((a.size : Int) - (la : Int)) = (a.size : Int) - (la : Int) := by simp only [IntKind.wrap_i64]; omega
      have w2 : IntKind.i64.wrap ((a.size : Int) - (la : Int) + 1) = (a.size : Int) - (la : Int) + 1 := by simp only [IntKind.wrap_i64]; omega
      have w3 : IntKind.i64.wrap ((la : Int) + (p : Int)) = (la : Int) + (p : Int) := by simp only [IntKind.wrap_i64]; omega
      have w5 : (0 : Int) ≤ (la : Int) + (p : Int) := by omega
      have w6 : (la : Int) + (p : Int) ≤ (a.size : Int) := by omega
      clear hfr hD
      go_wp2_with fail
      go_region_held3 (fun w' => w'.cell? ⟨D, 0, none⟩ = some (.string a) ∧ w'.cell? ⟨D, 2, none⟩ = some (.int .i64 (la : Int)))
        (first | with_reducible exact ⟨c0, c2⟩ | go_keep)
        (first | (go_at_call 39; refine (HP.out _).mono ?_; rintro e wx ⟨rfl, rfl⟩))
      go_wp2_with fail
      go_region
      all_goals go_wp2
      all_goals go_roundw
      case rel =>
        have hs := HD.out.set (L := L) (w1 := wr) hL rfl rfl rfl rfl 0 (.string (a.extract 0 (la + p)))
        have hd : DAt (wr.setCell ⟨D, 0, none⟩ (.string (a.extract 0 (la + p)))) D (a.extract 0 (la + p)) b la lb := hs.1
        have hs2 := hd.set (L := L) (w1 := (wr.setCell ⟨D, 0, none⟩ (.string (a.extract 0 (la + p))))) hL rfl rfl rfl rfl 2 (.int .i64 ((la : Int) + (p : Int)))
        have hd2 : DAt ((wr.setCell ⟨D, 0, none⟩ (.string (a.extract 0 (la + p)))).setCell ⟨D, 2, none⟩ (.int .i64 ((la : Int) + (p : Int)))) D (a.extract 0 (la + p)) b ((la + p : Nat) : Int) lb := hs2.1
        have hb := Below.drew (Below.drew (Below.refl ((wr.setCell ⟨D, 0, none⟩ (.string (a.extract 0 (la + p)))).setCell ⟨D, 2, none⟩ (.int .i64 ((la : Int) + (p : Int)))).heap.size ((wr.setCell ⟨D, 0, none⟩ (.string (a.extract 0 (la + p)))).setCell ⟨D, 2, none⟩ (.int .i64 ((la : Int) + (p : Int))))))
        have hlt := HD.out.lt
        exact ⟨(HFR.out.trans (hs.2.trans hs2.2)).trans (Fr.of hb (by rw [World.size_setCell, World.size_setCell]; omega)), .inr (.inl ⟨rfl, la + p, by omega, by omega, hd2.fr (Fr.of (L := 0) (T := []) (X := none) hb (Nat.zero_le _)) (by simp) (by simp)⟩)⟩
      case measure => simp [intOf]
    · obtain ⟨c0, c1, c2, c3⟩ := hD.cell
      obtain ⟨A, hA⟩ : ∃ A, A = a.extract 0 n := ⟨_, rfl⟩
      rw [← hA] at hD
      have z0 := hD.fz 1
      have z2 := hD.fz 3
      have HFR := hide hfr
      have HD := hide hD
      have w1 : IntKind.i64.wrap ((b.size : Int) - (lb : Int)) = (b.size : Int) - (lb : Int) := by simp only [IntKind.wrap_i64]; omega
      have w2 : IntKind.i64.wrap ((b.size : Int) - (lb : Int) + 1) = (b.size : Int) - (lb : Int) + 1 := by simp only [IntKind.wrap_i64]; omega
      have w3 : IntKind.i64.wrap ((lb : Int) + (q : Int)) = (lb : Int) + (q : Int) := by simp only [IntKind.wrap_i64]; omega
      have w5 : (0 : Int) ≤ (lb : Int) + (q : Int) := by omega
      have w6 : (lb : Int) + (q : Int) ≤ (b.size : Int) := by omega
      clear hfr hD
      go_wp2_with fail
      go_region_held3 (fun w' => w'.cell? ⟨D, 1, none⟩ = some (.string b) ∧ w'.cell? ⟨D, 3, none⟩ = some (.int .i64 (lb : Int)))
        (first | with_reducible exact ⟨c1, c3⟩ | go_keep)
        (first | (go_at_call 39; refine (HQ.out _).mono ?_; rintro e wx ⟨rfl, rfl⟩))
      go_wp2_with fail
      go_region
      all_goals go_wp2
      all_goals go_roundw
      case rel =>
        have hs := HD.out.set (L := L) (w1 := wr) hL rfl rfl rfl rfl 1 (.string (b.extract 0 (lb + q)))
        have hd : DAt (wr.setCell ⟨D, 1, none⟩ (.string (b.extract 0 (lb + q)))) D A (b.extract 0 (lb + q)) n lb := hs.1
        have hs2 := hd.set (L := L) (w1 := (wr.setCell ⟨D, 1, none⟩ (.string (b.extract 0 (lb + q))))) hL rfl rfl rfl rfl 3 (.int .i64 ((lb : Int) + (q : Int)))
        have hd2 : DAt ((wr.setCell ⟨D, 1, none⟩ (.string (b.extract 0 (lb + q)))).setCell ⟨D, 3, none⟩ (.int .i64 ((lb : Int) + (q : Int)))) D A (b.extract 0 (lb + q)) n ((lb + q : Nat) : Int) := hs2.1
        have hb := Below.drew (Below.drew (Below.refl ((wr.setCell ⟨D, 1, none⟩ (.string (b.extract 0 (lb + q)))).setCell ⟨D, 3, none⟩ (.int .i64 ((lb : Int) + (q : Int)))).heap.size ((wr.setCell ⟨D, 1, none⟩ (.string (b.extract 0 (lb + q)))).setCell ⟨D, 3, none⟩ (.int .i64 ((lb : Int) + (q : Int))))))
        have hlt := HD.out.lt
        exact ⟨(HFR.out.trans (hs.2.trans hs2.2)).trans (Fr.of hb (by rw [World.size_setCell, World.size_setCell]; omega)), .inr (.inr ⟨rfl, n, lb + q, n1, n2, by omega, by omega, hA ▸ hd2.fr (Fr.of (L := 0) (T := []) (X := none) hb (Nat.zero_le _)) (by simp) (by simp)⟩)⟩
      case measure => simp [intOf]
    · have HFIN : Hid (∃ n m : Nat, (la : Int) ≤ n ∧ n ≤ a.size ∧ (lb : Int) ≤ m ∧ m ≤ b.size ∧ DsAt wr D (cutDS (a, b, (la : Int), (lb : Int)) n m) ∧ Fr L [] (some D) w wr) := ⟨n, m, by omega, n2, by omega, m2, hD, hfr⟩
      clear hD hfr
      go_wp2_with fail
      go_end0
      exact ⟨rfl, HFIN.out⟩
end Go.Proofs.YtellilpeakpbfabGreatDoor

end
