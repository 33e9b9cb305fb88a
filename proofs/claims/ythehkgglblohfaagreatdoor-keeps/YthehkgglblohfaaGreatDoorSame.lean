/-
  The walks of sameCells and sameProcs.
-/
import Derived.Test.YthehkgglblohfaaGreatDoorOpen
namespace Go.Proofs.YthehkgglblohfaaGreatDoor
open Go.RowKit

def SmCRel (la lb : List (Int × Int)) (w : World) (i : Value) (wr : World) : Prop := ∃ k : Nat, k ≤ la.length ∧ i = .int .i64 k ∧ la.take k = lb.take k ∧ Below w.heap.size w wr
set_option maxHeartbeats 2000000 in
set_option maxRecDepth 100000 in
theorem sameCells_any (a b : Nat) (va vb : Value) (la lb : List (Int × Int)) (w : World) (ha : CRow w a va la) (hb : CRow w b vb lb) (hl : la.length ≤ 1000) :
    Calls Tryz.prog 23 #[va, vb] w fun e w' => e = .returned (.bool (decide (la = lb))) ∧ Below w.heap.size w w' := by
  obtain ⟨ao, ac, rfl, hA⟩ := ha.shape
  obtain ⟨bo, bc, rfl, hB⟩ := hb.shape
  have HA := hide hA
  have HB := hide hB
  clear hA hB ha hb
  by_cases hln : la.length = lb.length
  · have t0 : ((la.length : Int) != (lb.length : Int)) = false := by simp; omega
    have HLN := hide hln
    have hln2 : lb.length ≤ 1000 := by omega
    clear hln
    go_enter Tryz.func23, Tryz.ntmps23
    go_wp2
    go_loopw [5] (fun i wr => SmCRel la lb w i wr) (fun i _ => la.length - (intOf i).toNat)
    case atStart => exact ⟨0, Nat.zero_le _, rfl, rfl, Below.refl _ _⟩
    case round =>
    obtain ⟨k, hk, rfl, heq, hbel⟩ := hrel
    have HE := hide heq
    have HBL := hide hbel
    clear heq hbel
    by_cases hlt : k < la.length
    · have hlt2 : k < lb.length := by rw [← HLN.out]; exact hlt
      obtain ⟨g, cur, rfl, -, -, hcs⟩ := HA.out (by omega)
      obtain ⟨g', cur', rfl, -, -, hcs'⟩ := HB.out (by omega)
      obtain ⟨p, hp⟩ : ∃ p, la[k]? = some p := ⟨la[k], by simp [hlt]⟩
      obtain ⟨r, hr⟩ : ∃ p, lb[k]? = some p := ⟨lb[k], by simp [hlt2]⟩
      obtain ⟨c1, c2⟩ := hcs k p hp
      obtain ⟨b1, b2⟩ := hcs' k r hr
      have d1 := at_old HBL.out c1
      have d2 := at_old HBL.out c2
      have e1 := at_old HBL.out b1
      have e2 := at_old HBL.out b2
      have HS1 : Hid (la.take (k + 1) = la.take k ++ [p]) := by
        show _ = _
        rw [List.take_succ_eq_append_getElem hlt]; congr 2; exact (List.getElem?_eq_some_iff.1 hp).2
      have HS2 : Hid (lb.take (k + 1) = lb.take k ++ [r]) := by
        show _ = _
        rw [List.take_succ_eq_append_getElem hlt2]; congr 2; exact (List.getElem?_eq_some_iff.1 hr).2
      have HNE : Hid (p ≠ r → la ≠ lb) := by
        intro h e
        rw [e, hr] at hp
        exact h (Option.some.inj hp).symm
      clear hcs hcs' c1 c2 b1 b2 hp hr
      obtain ⟨p1, p2⟩ := p
      obtain ⟨r1, r2⟩ := r
      cases t1 : (p1 == r1) with
      | true =>
        have q1 : p1 = r1 := by simpa using t1
        cases t2 : (p2 == r2) with
        | true =>
          have q2 : p2 = r2 := by simpa using t2
          have HQ : Hid (la.take (k + 1) = lb.take (k + 1)) := by show _ = _; rw [HS1.out, HS2.out, HE.out, q1, q2]
          clear q1 q2
          go_wp2
          go_quiet (fail)
          go_wp2
          go_roundw
          case rel => exact ⟨k + 1, by omega, by go_num, HQ.out, below_drewN HBL.out _⟩
          case measure => simp [intOf]; omega
        | false =>
          have q2 : ¬ p2 = r2 := by simpa using t2
          have HF : Hid (decide (la = lb) = false) := decide_eq_false (HNE.out (by simp only [ne_eq, Prod.mk.injEq, not_and]; exact fun _ => q2))
          clear q1 q2
          go_wp2
          go_quiet (fail)
          go_wp2
          go_ret
          exact ⟨ret_bool HF.out.symm, below_drewN HBL.out _⟩
      | false =>
        have q1 : ¬ p1 = r1 := by simpa using t1
        have HF : Hid (decide (la = lb) = false) := decide_eq_false (HNE.out (by simp only [ne_eq, Prod.mk.injEq, not_and]; exact fun h => absurd h q1))
        clear q1
        cases t2 : (p2 == r2) with
        | true =>
          go_wp2
          go_quiet (fail)
          go_wp2
          go_ret
          exact ⟨ret_bool HF.out.symm, below_drewN HBL.out _⟩
        | false =>
          go_wp2
          go_quiet (fail)
          go_wp2
          go_ret
          exact ⟨ret_bool HF.out.symm, below_drewN HBL.out _⟩
    · have HT : Hid (decide (la = lb) = true) := by
        show _ = _
        have h := HE.out
        have h2 := HLN.out
        rw [List.take_of_length_le (by omega), List.take_of_length_le (by omega)] at h
        exact decide_eq_true h
      go_wp2
      go_ret
      exact ⟨ret_bool HT.out.symm, HBL.out⟩
  · have t0 : ((la.length : Int) != (lb.length : Int)) = true := by simp; omega
    have HF : Hid (decide (la = lb) = false) := decide_eq_false (fun e => hln (by rw [e]))
    go_enter Tryz.func23, Tryz.ntmps23
    go_wp2
    go_ret
    exact ⟨ret_bool HF.out.symm, Below.refl _ _⟩

def SmPRel (la lb : List (List UInt8 × List UInt8)) (w : World) (i : Value) (wr : World) : Prop := ∃ k : Nat, k ≤ la.length ∧ i = .int .i64 k ∧ la.take k = lb.take k ∧ Below w.heap.size w wr
set_option maxHeartbeats 2000000 in
set_option maxRecDepth 100000 in
theorem sameProcs_any (a b : Nat) (va vb : Value) (la lb : List (List UInt8 × List UInt8)) (w : World) (ha : PRow w a va la) (hb : PRow w b vb lb) (hl : la.length ≤ 1000) :
    Calls Tryz.prog 24 #[va, vb] w fun e w' => e = .returned (.bool (decide (la = lb))) ∧ Below w.heap.size w w' := by
  obtain ⟨ao, ac, rfl, hA⟩ := ha.shape
  obtain ⟨bo, bc, rfl, hB⟩ := hb.shape
  have HA := hide hA
  have HB := hide hB
  clear hA hB ha hb
  by_cases hln : la.length = lb.length
  · have t0 : ((la.length : Int) != (lb.length : Int)) = false := by simp; omega
    have HLN := hide hln
    have hln2 : lb.length ≤ 1000 := by omega
    clear hln
    go_enter Tryz.func24, Tryz.ntmps24
    go_wp2
    go_loopw [5] (fun i wr => SmPRel la lb w i wr) (fun i _ => la.length - (intOf i).toNat)
    case atStart => exact ⟨0, Nat.zero_le _, rfl, rfl, Below.refl _ _⟩
    case round =>
    obtain ⟨k, hk, rfl, heq, hbel⟩ := hrel
    have HE := hide heq
    have HBL := hide hbel
    clear heq hbel
    by_cases hlt : k < la.length
    · have hlt2 : k < lb.length := by rw [← HLN.out]; exact hlt
      obtain ⟨g, cur, rfl, -, -, hcs⟩ := HA.out (by omega)
      obtain ⟨g', cur', rfl, -, -, hcs'⟩ := HB.out (by omega)
      obtain ⟨p, hp⟩ : ∃ p, la[k]? = some p := ⟨la[k], by simp [hlt]⟩
      obtain ⟨r, hr⟩ : ∃ p, lb[k]? = some p := ⟨lb[k], by simp [hlt2]⟩
      obtain ⟨c1, c2⟩ := hcs k p hp
      obtain ⟨b1, b2⟩ := hcs' k r hr
      have d1 := at_old HBL.out c1
      have d2 := at_old HBL.out c2
      have e1 := at_old HBL.out b1
      have e2 := at_old HBL.out b2
      have HS1 : Hid (la.take (k + 1) = la.take k ++ [p]) := by
        show _ = _
        rw [List.take_succ_eq_append_getElem hlt]; congr 2; exact (List.getElem?_eq_some_iff.1 hp).2
      have HS2 : Hid (lb.take (k + 1) = lb.take k ++ [r]) := by
        show _ = _
        rw [List.take_succ_eq_append_getElem hlt2]; congr 2; exact (List.getElem?_eq_some_iff.1 hr).2
      have HNE : Hid (p ≠ r → la ≠ lb) := by
        intro h e
        rw [e, hr] at hp
        exact h (Option.some.inj hp).symm
      clear hcs hcs' c1 c2 b1 b2 hp hr
      obtain ⟨p1, p2⟩ := p
      obtain ⟨r1, r2⟩ := r
      simp only [T] at d1 d2 e1 e2
      obtain ⟨x1, hx1⟩ : ∃ x : ByteArray, x = ⟨p1.toArray⟩ := ⟨_, rfl⟩
      obtain ⟨x2, hx2⟩ : ∃ x : ByteArray, x = ⟨p2.toArray⟩ := ⟨_, rfl⟩
      obtain ⟨y1, hy1⟩ : ∃ x : ByteArray, x = ⟨r1.toArray⟩ := ⟨_, rfl⟩
      obtain ⟨y2, hy2⟩ : ∃ x : ByteArray, x = ⟨r2.toArray⟩ := ⟨_, rfl⟩
      rw [← hx1] at d1
      rw [← hx2] at d2
      rw [← hy1] at e1
      rw [← hy2] at e2
      have HX1 := hide hx1
      have HX2 := hide hx2
      have HY1 := hide hy1
      have HY2 := hide hy2
      clear hx1 hx2 hy1 hy2
      cases t1 : (x1.toList == y1.toList) with
      | true =>
        have q1 : p1 = r1 := by rw [ByteArray.toList_eq, ByteArray.toList_eq, HX1.out, HY1.out] at t1; simpa using t1
        cases t2 : (x2.toList == y2.toList) with
        | true =>
          have q2 : p2 = r2 := by rw [ByteArray.toList_eq, ByteArray.toList_eq, HX2.out, HY2.out] at t2; simpa using t2
          have HQ : Hid (la.take (k + 1) = lb.take (k + 1)) := by show _ = _; rw [HS1.out, HS2.out, HE.out, q1, q2]
          clear q1 q2
          go_wp2
          go_quiet (fail)
          go_wp2
          go_roundw
          case rel => exact ⟨k + 1, by omega, by go_num, HQ.out, below_drewN HBL.out _⟩
          case measure => simp [intOf]; omega
        | false =>
          have q2 : ¬ p2 = r2 := by rw [ByteArray.toList_eq, ByteArray.toList_eq, HX2.out, HY2.out] at t2; simpa using t2
          have HF : Hid (decide (la = lb) = false) := decide_eq_false (HNE.out (by simp only [ne_eq, Prod.mk.injEq, not_and]; exact fun _ => q2))
          clear q1 q2
          go_wp2
          go_quiet (fail)
          go_wp2
          go_ret
          exact ⟨ret_bool HF.out.symm, below_drewN HBL.out _⟩
      | false =>
        have q1 : ¬ p1 = r1 := by rw [ByteArray.toList_eq, ByteArray.toList_eq, HX1.out, HY1.out] at t1; simpa using t1
        have HF : Hid (decide (la = lb) = false) := decide_eq_false (HNE.out (by simp only [ne_eq, Prod.mk.injEq, not_and]; exact fun h => absurd h q1))
        clear q1
        cases t2 : (x2.toList == y2.toList) with
        | true =>
          go_wp2
          go_quiet (fail)
          go_wp2
          go_ret
          exact ⟨ret_bool HF.out.symm, below_drewN HBL.out _⟩
        | false =>
          go_wp2
          go_quiet (fail)
          go_wp2
          go_ret
          exact ⟨ret_bool HF.out.symm, below_drewN HBL.out _⟩
    · have HT : Hid (decide (la = lb) = true) := by
        show _ = _
        have h := HE.out
        have h2 := HLN.out
        rw [List.take_of_length_le (by omega), List.take_of_length_le (by omega)] at h
        exact decide_eq_true h
      go_wp2
      go_ret
      exact ⟨ret_bool HT.out.symm, HBL.out⟩
  · have t0 : ((la.length : Int) != (lb.length : Int)) = true := by simp; omega
    have HF : Hid (decide (la = lb) = false) := decide_eq_false (fun e => hln (by rw [e]))
    go_enter Tryz.func24, Tryz.ntmps24
    go_wp2
    go_ret
    exact ⟨ret_bool HF.out.symm, Below.refl _ _⟩
end Go.Proofs.YthehkgglblohfaaGreatDoor
