import Derived.Test.YtellilpeakpbfaaGreatDoorMarkToo
import Derived.Test.YtellilpeakpbfaaGreatDoorKeepPToo
import Derived.Test.YtellilpeakpbfaaGreatDoorKeepAToo
import Derived.Test.YtellilpeakpbfaaGreatDoorHoldPToo
section
/-
  The walk of Hold.still.
-/
namespace Go.Proofs.YtellilpeakpbfaaGreatDoor
open Go.RowKit

theorem hold_shape {L N : Nat} {w : World} {e sl : TypeId} {mk : Nat → List Value} {vs : Value} {ls : List Value} {s : Nat} (h : HoldRow L N w e sl mk vs ls) (hs : ∀ i, (mk i).length = s) :
    ∃ ao cap, vs = .slice ao ls.length cap ∧ (0 < ls.length → ∃ g0, ao = some ⟨g0, 0, none⟩ ∧ g0 < w.heap.size ∧ ∀ i, i < ls.length → ∃ uo n ucap, w.cell? ⟨g0, i, none⟩ = some (.slice uo n ucap) ∧ n ≤ maxLen ∧
      (0 < n → ∃ g, uo = some ⟨g, 0, none⟩ ∧ g < w.heap.size ∧ ∀ j, j < n * s → w.cell? ⟨g, j, none⟩ = (mk (i / 3 + 1))[j % s]?)) := by
  obtain ⟨ao, cap, hv, -, hg⟩ := own_slice h.row
  refine ⟨ao, cap, hv, fun hp => ?_⟩
  obtain ⟨g0, hao, -⟩ := hg hp
  subst hao
  refine ⟨g0, rfl, (h.row.lt g0 (by rw [hv]; rfl)).2, fun i hi => ?_⟩
  obtain ⟨n, hf, -⟩ := h.full i ls[i] (by simp [hi])
  obtain ⟨uo, ucap, hu, hm, hgu⟩ := own_slice hf
  refine ⟨uo, n, ucap, ?_, hm, fun hn => ?_⟩
  · have := h.row.cells (g := g0) (by rw [hv]; rfl) i ls[i] (by simp [hi])
    simp only [Addr.add_lit, Nat.zero_add] at this
    rw [this, hu]
  · obtain ⟨g, hgo, -⟩ := hgu hn
    subst hgo
    refine ⟨g, rfl, (hf.lt g (by rw [hu]; rfl)).2, fun j hj => ?_⟩
    have hr := rep_at (mk (i / 3 + 1)) n j (by rw [hs]; exact hj)
    rw [hs] at hr
    have hjl : j < (rep (mk (i / 3 + 1)) n).length := by rw [rep_len, hs]; exact hj
    have := hf.cells (g := g) (by rw [hu]; rfl) j _ (List.getElem?_eq_getElem hjl)
    simp only [Addr.add_lit, Nat.zero_add] at this
    rw [this, ← hr, List.getElem?_eq_getElem hjl]

def StlRel (n : Nat) (w : World) (i : Value) (wr : World) : Prop := ∃ k : Nat, k ≤ n ∧ i = .int .i64 k ∧ Below w.heap.size w wr

set_option maxHeartbeats 8000000 in
set_option maxRecDepth 100000 in
theorem still_any (L N W : Nat) (w : World) (vx vd vp vc vq va : Value) (lc lq la : List Value)
    (hW : WAt w W vx vd vp vc vq va) (hc : HoldRow L N w 102 35 mkC vc lc) (hq : HoldRow L N w 62 42 mkP vq lq) (ha : HoldRow L N w 136 58 mkA va la)
    (bc : lc.length ≤ 9000000000000) (bq : lq.length ≤ 9000000000000) (ba : la.length ≤ 9000000000000) :
    Calls Tryz.prog 40 #[.pointer (some ⟨W, 3, none⟩)] w fun e w' => e = .returned (.bool true) ∧ Below w.heap.size w w' := by
  obtain ⟨co, ccap, rfl, hC⟩ := hold_shape (s := 2) hc (fun _ => rfl)
  obtain ⟨qo, qcap, rfl, hQ⟩ := hold_shape (s := 2) hq (fun _ => rfl)
  obtain ⟨aao, acap, rfl, hA⟩ := hold_shape (s := 3) ha (fun _ => rfl)
  obtain ⟨-, -, -, c3, c4, c5⟩ := hW.cell
  have hlt := hW.lt
  have HC := hide hC
  have HQ := hide hQ
  have HA := hide hA
  clear hC hQ hA hc hq ha hW
  go_enter Tryz.func40, Tryz.ntmps40
  go_wp2
  go_loop [3] (fun i => ∃ k : Nat, k ≤ lc.length ∧ i = .int .i64 k) (fun i => lc.length - (intOf i).toNat)
  case atStart => exact ⟨0, Nat.zero_le _, rfl⟩
  case round =>
    obtain ⟨i, hi, rfl⟩ := hrel
    by_cases hil : i < lc.length
    · obtain ⟨g0, rfl, hg0, hrow⟩ := HC.out (by omega)
      obtain ⟨uo, n, ucap, hcell, hnm, hin⟩ := hrow i hil
      obtain ⟨q, hq⟩ : ∃ q : Nat, q = i / 3 + 1 := ⟨_, rfl⟩
      have hqz : ((i : Int) / 3 + 1) = (q : Int) := by rw [hq]; omega
      rw [← hq] at hin
      have HI := hide hin
      unfold maxLen at hnm
      clear hrow hin hq
      go_wp2
      go_loop [4] (fun i => ∃ k : Nat, k ≤ n ∧ i = .int .i64 k) (fun i => n - (intOf i).toNat)
      case atStart => exact ⟨0, Nat.zero_le _, rfl⟩
      case round =>
        obtain ⟨k, hk, rfl⟩ := hrel
        by_cases hkl : k < n
        · obtain ⟨g, rfl, hg, hcs⟩ := HI.out (by omega)
          have d0 : w.cell? ⟨g, k * 2, none⟩ = some (.int .i64 (q : Int)) := by rw [hcs (k * 2) (by omega), show k * 2 % 2 = 0 by omega]; rfl
          have d1 : w.cell? ⟨g, k * 2 + 1, none⟩ = some (.int .i64 0) := by rw [hcs (k * 2 + 1) (by omega), show (k * 2 + 1) % 2 = 1 by omega]; rfl
          clear hcs
          go_wp2
          go_round
          case rel => exact ⟨k + 1, by omega, by go_num⟩
          case measure => simp [intOf]; omega
        · go_wp2
          go_round
          case rel => exact ⟨i + 1, by omega, by go_num⟩
          case measure => simp [intOf]; omega
    · clear HC
      go_wp2
      go_loopw [5] (fun i wr => StlRel lq.length w i wr) (fun i _ => lq.length - (intOf i).toNat)
      case atStart => exact ⟨0, Nat.zero_le _, rfl, Below.refl _ _⟩
      case round =>
        obtain ⟨i2, hi2, rfl, hbel⟩ := hrel
        have e3 := at_old hbel c3
        have e4 := at_old hbel c4
        have e5 := at_old hbel c5
        have HB := hide hbel
        have hz := hbel.size
        clear hbel
        by_cases hil2 : i2 < lq.length
        · obtain ⟨g0, rfl, hg0, hrow⟩ := HQ.out (by omega)
          obtain ⟨uo, n, ucap, hcell, hnm, hin⟩ := hrow i2 hil2
          obtain ⟨q, hq⟩ : ∃ q : Nat, q = i2 / 3 + 1 := ⟨_, rfl⟩
          have hqz : ((i2 : Int) / 3 + 1) = (q : Int) := by rw [hq]; omega
          have hq9 : q ≤ 9000000000000 := by omega
          rw [← hq] at hin
          have HI := hide hin
          have HMK := hide (fun w => mark_any q hq9 w)
          have hcw := at_old HB.out hcell
          unfold maxLen at hnm
          clear hrow hin hq hcell
          go_wp2_with fail
          refine (HMK.out _).mono ?_
          rintro e w1 ⟨X, rfl, hX, hXs, hb1⟩
          obtain ⟨w2, hw2⟩ : ∃ w2, w2 = w1.alloc (.cells #[.string X, .string ⟨#[]⟩] 62) := ⟨_, rfl⟩
          obtain ⟨B0, hB0⟩ : ∃ B0, B0 = w1.heap.size := ⟨_, rfl⟩
          have HB2 : Hid (Below w.heap.size w w2) := by
            show Below _ _ _
            rw [hw2]
            exact (HB.out.trans (hb1.mono HB.out.size)).alloc (by have := hb1.size; omega) _
          have k3 := at_old HB2.out c3
          have k4 := at_old HB2.out c4
          have k5 := at_old HB2.out c5
          have n0 : w2.cell? ⟨B0, 0, none⟩ = some (.string X) := by rw [hw2, hB0]; simp
          have n1 : w2.cell? ⟨B0, 1, none⟩ = some (.string ⟨#[]⟩) := by rw [hw2, hB0]; simp
          have hcw2 : w2.cell? ⟨g0, i2, none⟩ = some (.slice uo n ucap) := by
            rw [hw2]
            exact at_old ((Below.refl _ _).alloc (Nat.le_refl _) _) (at_old hb1 hcw)
          have HX := hide hX
          clear hX hb1 hcw e3 e4 e5
          go_wp2
          rw [← hw2, ← hB0]
          have HW2 := hide hw2
          have HB0 := hide hB0
          clear hw2 hB0
          go_loopw [7] (fun i wr => StlRel n w2 i wr) (fun i _ => n - (intOf i).toNat)
          case atStart => exact ⟨0, Nat.zero_le _, rfl, Below.refl _ _⟩
          case round =>
            obtain ⟨k, hk, rfl, hbel3⟩ := hrel
            have l3 := at_old hbel3 k3
            have l4 := at_old hbel3 k4
            have l5 := at_old hbel3 k5
            have p0 := at_old hbel3 n0
            have p1 := at_old hbel3 n1
            have hcw3 := at_old hbel3 hcw2
            have HB3 := hide hbel3
            clear hbel3
            by_cases hkl : k < n
            · obtain ⟨g, rfl, hg, hcs⟩ := HI.out (by omega)
              have d0 : w.cell? ⟨g, k * 2, none⟩ = some (.string X) := by rw [hcs (k * 2) (by omega), show k * 2 % 2 = 0 by omega, ← mkP_of HX.out]; rfl
              have d1 : w.cell? ⟨g, k * 2 + 1, none⟩ = some (.string ⟨#[]⟩) := by rw [hcs (k * 2 + 1) (by omega), show (k * 2 + 1) % 2 = 1 by omega, ← mkP_of HX.out]; rfl
              have d0' := at_old HB3.out (at_old HB2.out d0)
              have d1' := at_old HB3.out (at_old HB2.out d1)
              clear hcs d0 d1
              go_wp2
              go_quiet (fail)
              go_wp2
              go_roundw
              case rel => exact ⟨k + 1, by omega, by go_num, below_drewN HB3.out _⟩
              case measure => simp [intOf]; omega
            · have HB4 : Hid (Below w.heap.size w wr) := HB2.out.trans (HB3.out.mono HB2.out.size)
              go_wp2
              go_roundw
              case rel => exact ⟨i2 + 1, by omega, by go_num, HB4.out⟩
              case measure => simp [intOf]; omega
        · clear HQ c3 c4 c5
          go_wp2
          go_loop [8] (fun i => ∃ k : Nat, k ≤ la.length ∧ i = .int .i64 k) (fun i => la.length - (intOf i).toNat)
          case atStart => exact ⟨0, Nat.zero_le _, rfl⟩
          case round =>
            obtain ⟨i3, hi3, rfl⟩ := hrel
            by_cases hil3 : i3 < la.length
            · obtain ⟨g0, rfl, hg0, hrow⟩ := HA.out (by omega)
              obtain ⟨uo, n, ucap, hcell, hnm, hin⟩ := hrow i3 hil3
              obtain ⟨q, hq⟩ : ∃ q : Nat, q = i3 / 3 + 1 := ⟨_, rfl⟩
              have hqz : ((i3 : Int) / 3 + 1) = (q : Int) := by rw [hq]; omega
              rw [← hq] at hin
              have HI := hide hin
              have hcw := at_old HB.out hcell
              unfold maxLen at hnm
              clear hrow hin hq hcell
              go_wp2
              go_loop [9] (fun i => ∃ k : Nat, k ≤ n ∧ i = .int .i64 k) (fun i => n - (intOf i).toNat)
              case atStart => exact ⟨0, Nat.zero_le _, rfl⟩
              case round =>
                obtain ⟨k, hk, rfl⟩ := hrel
                by_cases hkl : k < n
                · obtain ⟨g, rfl, hg, hcs⟩ := HI.out (by omega)
                  have d0 : w.cell? ⟨g, k * 3, none⟩ = some (.int .i64 (q : Int)) := by rw [hcs (k * 3) (by omega), show k * 3 % 3 = 0 by omega]; rfl
                  have d1 : w.cell? ⟨g, k * 3 + 1, none⟩ = some (.int .i64 0) := by rw [hcs (k * 3 + 1) (by omega), show (k * 3 + 1) % 3 = 1 by omega]; rfl
                  have d2 : w.cell? ⟨g, k * 3 + 2, none⟩ = some (.string ⟨#[]⟩) := by rw [hcs (k * 3 + 2) (by omega), show (k * 3 + 2) % 3 = 2 by omega]; rfl
                  have f0 := at_old HB.out d0
                  have f1 := at_old HB.out d1
                  have f2 := at_old HB.out d2
                  clear hcs d0 d1 d2
                  go_wp2
                  go_round
                  case rel => exact ⟨k + 1, by omega, by go_num⟩
                  case measure => simp [intOf]; omega
                · go_wp2
                  go_round
                  case rel => exact ⟨i3 + 1, by omega, by go_num⟩
                  case measure => simp [intOf]; omega
            · go_wp2
              go_ret
              exact ⟨rfl, HB.out⟩
end Go.Proofs.YtellilpeakpbfaaGreatDoor

end

section
/-
  The walks of sameCells and sameProcs.
-/
namespace Go.Proofs.YtellilpeakpbfaaGreatDoor
open Go.RowKit

def SmCRel (la lb : List (Int × Int)) (w : World) (i : Value) (wr : World) : Prop := ∃ k : Nat, k ≤ la.length ∧ i = .int .i64 k ∧ la.take k = lb.take k ∧ Below w.heap.size w wr
set_option maxHeartbeats 2000000 in
set_option maxRecDepth 100000 in
theorem sameCells_any (a b : Nat) (va vb : Value) (la lb : List (Int × Int)) (w : World) (ha : CRow w a va la) (hb : CRow w b vb lb) (hl : la.length ≤ 1000) :
    Calls Tryz.prog 97 #[va, vb] w fun e w' => e = .returned (.bool (decide (la = lb))) ∧ Below w.heap.size w w' := by
  obtain ⟨ao, ac, rfl, hA⟩ := ha.shape
  obtain ⟨bo, bc, rfl, hB⟩ := hb.shape
  have HA := hide hA
  have HB := hide hB
  clear hA hB ha hb
  by_cases hln : la.length = lb.length
  · have t0 : ((la.length : Int) != (lb.length : Int)) = false := by simp; omega
    have HLN := hide hln
    have hln2 : lb.length ≤ 1000 := by omega
    clear hln
    go_enter Tryz.func97, Tryz.ntmps97
    go_wp2
    go_loopw [5] (fun i wr => SmCRel la lb w i wr) (fun i _ => la.length - (intOf i).toNat)
    case atStart => exact ⟨0, Nat.zero_le _, rfl, rfl, Below.refl _ _⟩
    case round =>
    obtain ⟨k, hk, rfl, heq, hbel⟩ := hrel
    have HE := hide heq
    have HBL := hide hbel
    clear heq hbel
    by_cases hlt : k < la.length
    · have hlt2 : k < lb.length := by rw [← HLN.out]; exact hlt
      obtain ⟨g, cur, rfl, -, -, hcs⟩ := HA.out (by omega)
      obtain ⟨g', cur', rfl, -, -, hcs'⟩ := HB.out (by omega)
      obtain ⟨p, hp⟩ : ∃ p, la[k]? = some p := ⟨la[k], by simp [hlt]⟩
      obtain ⟨r, hr⟩ : ∃ p, lb[k]? = some p := ⟨lb[k], by simp [hlt2]⟩
      obtain ⟨c1, c2⟩ := hcs k p hp
      obtain ⟨b1, b2⟩ := hcs' k r hr
      have d1 := at_old HBL.out c1
      have d2 := at_old HBL.out c2
      have e1 := at_old HBL.out b1
      have e2 := at_old HBL.out b2
      have HS1 : Hid (la.take (k + 1) = la.take k ++ [p]) := by
        show _ = _
        rw [List.take_succ_eq_append_getElem hlt]; congr 2; exact (List.getElem?_eq_some_iff.1 hp).2
      have HS2 : Hid (lb.take (k + 1) = lb.take k ++ [r]) := by
        show _ = _
        rw [List.take_succ_eq_append_getElem hlt2]; congr 2; exact (List.getElem?_eq_some_iff.1 hr).2
      have HNE : Hid (p ≠ r → la ≠ lb) := by
        intro h e
        rw [e, hr] at hp
        exact h (Option.some.inj hp).symm
      clear hcs hcs' c1 c2 b1 b2 hp hr
      obtain ⟨p1, p2⟩ := p
      obtain ⟨r1, r2⟩ := r
      cases t1 : (p1 == r1) with
      | true =>
        have q1 : p1 = r1 := by simpa using t1
        cases t2 : (p2 == r2) with
        | true =>
          have q2 : p2 = r2 := by simpa using t2
          have HQ : Hid (la.take (k + 1) = lb.take (k + 1)) := by show _ = _; rw [HS1.out, HS2.out, HE.out, q1, q2]
          clear q1 q2
          go_wp2
          go_quiet (fail)
          go_wp2
          go_roundw
          case rel => exact ⟨k + 1, by omega, by go_num, HQ.out, below_drewN HBL.out _⟩
          case measure => simp [intOf]; omega
        | false =>
          have q2 : ¬ p2 = r2 := by simpa using t2
          have HF : Hid (decide (la = lb) = false) := decide_eq_false (HNE.out (by simp only [ne_eq, Prod.mk.injEq, not_and]; exact fun _ => q2))
          clear q1 q2
          go_wp2
          go_quiet (fail)
          go_wp2
          go_ret
          exact ⟨ret_bool HF.out.symm, below_drewN HBL.out _⟩
      | false =>
        have q1 : ¬ p1 = r1 := by simpa using t1
        have HF : Hid (decide (la = lb) = false) := decide_eq_false (HNE.out (by simp only [ne_eq, Prod.mk.injEq, not_and]; exact fun h => absurd h q1))
        clear q1
        cases t2 : (p2 == r2) with
        | true =>
          go_wp2
          go_quiet (fail)
          go_wp2
          go_ret
          exact ⟨ret_bool HF.out.symm, below_drewN HBL.out _⟩
        | false =>
          go_wp2
          go_quiet (fail)
          go_wp2
          go_ret
          exact ⟨ret_bool HF.out.symm, below_drewN HBL.out _⟩
    · have HT : Hid (decide (la = lb) = true) := by
        show _ = _
        have h := HE.out
        have h2 := HLN.out
        rw [List.take_of_length_le (by omega), List.take_of_length_le (by omega)] at h
        exact decide_eq_true h
      go_wp2
      go_ret
      exact ⟨ret_bool HT.out.symm, HBL.out⟩
  · have t0 : ((la.length : Int) != (lb.length : Int)) = true := by simp; omega
    have HF : Hid (decide (la = lb) = false) := decide_eq_false (fun e => hln (by rw [e]))
    go_enter Tryz.func97, Tryz.ntmps97
    go_wp2
    go_ret
    exact ⟨ret_bool HF.out.symm, Below.refl _ _⟩

def SmPRel (la lb : List (List UInt8 × List UInt8)) (w : World) (i : Value) (wr : World) : Prop := ∃ k : Nat, k ≤ la.length ∧ i = .int .i64 k ∧ la.take k = lb.take k ∧ Below w.heap.size w wr
set_option maxHeartbeats 2000000 in
set_option maxRecDepth 100000 in
theorem sameProcs_any (a b : Nat) (va vb : Value) (la lb : List (List UInt8 × List UInt8)) (w : World) (ha : PRow w a va la) (hb : PRow w b vb lb) (hl : la.length ≤ 1000) :
    Calls Tryz.prog 98 #[va, vb] w fun e w' => e = .returned (.bool (decide (la = lb))) ∧ Below w.heap.size w w' := by
  obtain ⟨ao, ac, rfl, hA⟩ := ha.shape
  obtain ⟨bo, bc, rfl, hB⟩ := hb.shape
  have HA := hide hA
  have HB := hide hB
  clear hA hB ha hb
  by_cases hln : la.length = lb.length
  · have t0 : ((la.length : Int) != (lb.length : Int)) = false := by simp; omega
    have HLN := hide hln
    have hln2 : lb.length ≤ 1000 := by omega
    clear hln
    go_enter Tryz.func98, Tryz.ntmps98
    go_wp2
    go_loopw [5] (fun i wr => SmPRel la lb w i wr) (fun i _ => la.length - (intOf i).toNat)
    case atStart => exact ⟨0, Nat.zero_le _, rfl, rfl, Below.refl _ _⟩
    case round =>
    obtain ⟨k, hk, rfl, heq, hbel⟩ := hrel
    have HE := hide heq
    have HBL := hide hbel
    clear heq hbel
    by_cases hlt : k < la.length
    · have hlt2 : k < lb.length := by rw [← HLN.out]; exact hlt
      obtain ⟨g, cur, rfl, -, -, hcs⟩ := HA.out (by omega)
      obtain ⟨g', cur', rfl, -, -, hcs'⟩ := HB.out (by omega)
      obtain ⟨p, hp⟩ : ∃ p, la[k]? = some p := ⟨la[k], by simp [hlt]⟩
      obtain ⟨r, hr⟩ : ∃ p, lb[k]? = some p := ⟨lb[k], by simp [hlt2]⟩
      obtain ⟨c1, c2⟩ := hcs k p hp
      obtain ⟨b1, b2⟩ := hcs' k r hr
      have d1 := at_old HBL.out c1
      have d2 := at_old HBL.out c2
      have e1 := at_old HBL.out b1
      have e2 := at_old HBL.out b2
      have HS1 : Hid (la.take (k + 1) = la.take k ++ [p]) := by
        show _ = _
        rw [List.take_succ_eq_append_getElem hlt]; congr 2; exact (List.getElem?_eq_some_iff.1 hp).2
      have HS2 : Hid (lb.take (k + 1) = lb.take k ++ [r]) := by
        show _ = _
        rw [List.take_succ_eq_append_getElem hlt2]; congr 2; exact (List.getElem?_eq_some_iff.1 hr).2
      have HNE : Hid (p ≠ r → la ≠ lb) := by
        intro h e
        rw [e, hr] at hp
        exact h (Option.some.inj hp).symm
      clear hcs hcs' c1 c2 b1 b2 hp hr
      obtain ⟨p1, p2⟩ := p
      obtain ⟨r1, r2⟩ := r
      simp only [T] at d1 d2 e1 e2
      obtain ⟨x1, hx1⟩ : ∃ x : ByteArray, x = ⟨p1.toArray⟩ := ⟨_, rfl⟩
      obtain ⟨x2, hx2⟩ : ∃ x : ByteArray, x = ⟨p2.toArray⟩ := ⟨_, rfl⟩
      obtain ⟨y1, hy1⟩ : ∃ x : ByteArray, x = ⟨r1.toArray⟩ := ⟨_, rfl⟩
      obtain ⟨y2, hy2⟩ : ∃ x : ByteArray, x = ⟨r2.toArray⟩ := ⟨_, rfl⟩
      rw [← hx1] at d1
      rw [← hx2] at d2
      rw [← hy1] at e1
      rw [← hy2] at e2
      have HX1 := hide hx1
      have HX2 := hide hx2
      have HY1 := hide hy1
      have HY2 := hide hy2
      clear hx1 hx2 hy1 hy2
      cases t1 : (x1.toList == y1.toList) with
      | true =>
        have q1 : p1 = r1 := by rw [ByteArray.toList_eq, ByteArray.toList_eq, HX1.out, HY1.out] at t1; simpa using t1
        cases t2 : (x2.toList == y2.toList) with
        | true =>
          have q2 : p2 = r2 := by rw [ByteArray.toList_eq, ByteArray.toList_eq, HX2.out, HY2.out] at t2; simpa using t2
          have HQ : Hid (la.take (k + 1) = lb.take (k + 1)) := by show _ = _; rw [HS1.out, HS2.out, HE.out, q1, q2]
          clear q1 q2
          go_wp2
          go_quiet (fail)
          go_wp2
          go_roundw
          case rel => exact ⟨k + 1, by omega, by go_num, HQ.out, below_drewN HBL.out _⟩
          case measure => simp [intOf]; omega
        | false =>
          have q2 : ¬ p2 = r2 := by rw [ByteArray.toList_eq, ByteArray.toList_eq, HX2.out, HY2.out] at t2; simpa using t2
          have HF : Hid (decide (la = lb) = false) := decide_eq_false (HNE.out (by simp only [ne_eq, Prod.mk.injEq, not_and]; exact fun _ => q2))
          clear q1 q2
          go_wp2
          go_quiet (fail)
          go_wp2
          go_ret
          exact ⟨ret_bool HF.out.symm, below_drewN HBL.out _⟩
      | false =>
        have q1 : ¬ p1 = r1 := by rw [ByteArray.toList_eq, ByteArray.toList_eq, HX1.out, HY1.out] at t1; simpa using t1
        have HF : Hid (decide (la = lb) = false) := decide_eq_false (HNE.out (by simp only [ne_eq, Prod.mk.injEq, not_and]; exact fun h => absurd h q1))
        clear q1
        cases t2 : (x2.toList == y2.toList) with
        | true =>
          go_wp2
          go_quiet (fail)
          go_wp2
          go_ret
          exact ⟨ret_bool HF.out.symm, below_drewN HBL.out _⟩
        | false =>
          go_wp2
          go_quiet (fail)
          go_wp2
          go_ret
          exact ⟨ret_bool HF.out.symm, below_drewN HBL.out _⟩
    · have HT : Hid (decide (la = lb) = true) := by
        show _ = _
        have h := HE.out
        have h2 := HLN.out
        rw [List.take_of_length_le (by omega), List.take_of_length_le (by omega)] at h
        exact decide_eq_true h
      go_wp2
      go_ret
      exact ⟨ret_bool HT.out.symm, HBL.out⟩
  · have t0 : ((la.length : Int) != (lb.length : Int)) = true := by simp; omega
    have HF : Hid (decide (la = lb) = false) := decide_eq_false (fun e => hln (by rw [e]))
    go_enter Tryz.func98, Tryz.ntmps98
    go_wp2
    go_ret
    exact ⟨ret_bool HF.out.symm, Below.refl _ _⟩
end Go.Proofs.YtellilpeakpbfaaGreatDoor

end
