import Derived.Test.YtellilpeakpbfabGreatDoorOpenToo
import Derived.Test.YtellilpeakpbfabGreatDoorMarkToo
section
/-
  The walks of sameCells and sameProcs.
-/
namespace Go.Proofs.YtellilpeakpbfabGreatDoor
open Go.RowKit

def SmCRel (la lb : List (Int × Int)) (w : World) (i : Value) (wr : World) : Prop := ∃ k : Nat, k ≤ la.length ∧ i = .int .i64 k ∧ la.take k = lb.take k ∧ Below w.heap.size w wr
set_option maxHeartbeats 2000000 in
set_option maxRecDepth 100000 in
theorem sameCells_any (a b : Nat) (va vb : Value) (la lb : List (Int × Int)) (w : World) (ha : CRow w a va la) (hb : CRow w b vb lb) (hl : la.length ≤ 1000) :
    Calls Tryz.prog 99 #[va, vb] w fun e w' => e = .returned (.bool (decide (la = lb))) ∧ Below w.heap.size w w' := by
  obtain ⟨ao, ac, rfl, hA⟩ := ha.shape
  obtain ⟨bo, bc, rfl, hB⟩ := hb.shape
  have HA := hide hA
  have HB := hide hB
  clear hA hB ha hb
  by_cases hln : la.length = lb.length
  · have t0 : ((la.length : Int) != (lb.length : Int)) = false := by simp; omega
    have HLN := hide hln
    have hln2 : lb.length ≤ 1000 := by omega
    clear hln
    go_enter Tryz.func99, Tryz.ntmps99
    go_wp2
    go_loopw [5] (fun i wr => SmCRel la lb w i wr) (fun i _ => la.length - (intOf i).toNat)
    case atStart => exact ⟨0, Nat.zero_le _, rfl, rfl, Below.refl _ _⟩
    case round =>
    obtain ⟨k, hk, rfl, heq, hbel⟩ := hrel
    have HE := hide heq
    have HBL := hide hbel
    clear heq hbel
    by_cases hlt : k < la.length
    · have hlt2 : k < lb.length := by rw [← HLN.out]; exact hlt
      obtain ⟨g, cur, rfl, -, -, hcs⟩ := HA.out (by omega)
      obtain ⟨g', cur', rfl, -, -, hcs'⟩ := HB.out (by omega)
      obtain ⟨p, hp⟩ : ∃ p, la[k]? = some p := ⟨la[k], by simp [hlt]⟩
      obtain ⟨r, hr⟩ : ∃ p, lb[k]? = some p := ⟨lb[k], by simp [hlt2]⟩
      obtain ⟨c1, c2⟩ := hcs k p hp
      obtain ⟨b1, b2⟩ := hcs' k r hr
      have d1 := at_old HBL.out c1
      have d2 := at_old HBL.out c2
      have e1 := at_old HBL.out b1
      have e2 := at_old HBL.out b2
      have HS1 : Hid (la.take (k + 1) = la.take k ++ [p]) := by
        show _ = _
        rw [List.take_succ_eq_append_getElem hlt]; congr 2; exact (List.getElem?_eq_some_iff.1 hp).2
      have HS2 : Hid (lb.take (k + 1) = lb.take k ++ [r]) := by
        show _ = _
        rw [List.take_succ_eq_append_getElem hlt2]; congr 2; exact (List.getElem?_eq_some_iff.1 hr).2
      have HNE : Hid (p ≠ r → la ≠ lb) := by
        intro h e
        rw [e, hr] at hp
        exact h (Option.some.inj hp).symm
      clear hcs hcs' c1 c2 b1 b2 hp hr
      obtain ⟨p1, p2⟩ := p
      obtain ⟨r1, r2⟩ := r
      cases t1 : (p1 == r1) with
      | true =>
        have q1 : p1 = r1 := by simpa using t1
        cases t2 : (p2 == r2) with
        | true =>
          have q2 : p2 = r2 := by simpa using t2
          have HQ : Hid (la.take (k + 1) = lb.take (k + 1)) := by show _ = _; rw [HS1.out, HS2.out, HE.out, q1, q2]
          clear q1 q2
          go_wp2
          go_quiet (fail)
          go_wp2
          go_roundw
          case rel => exact ⟨k + 1, by omega, by go_num, HQ.out, below_drewN HBL.out _⟩
          case measure => simp [intOf]; omega
        | false =>
          have q2 : ¬ p2 = r2 := by simpa using t2
          have HF : Hid (decide (la = lb) = false) := decide_eq_false (HNE.out (by simp only [ne_eq, Prod.mk.injEq, not_and]; exact fun _ => q2))
          clear q1 q2
          go_wp2
          go_quiet (fail)
          go_wp2
          go_ret
          exact ⟨ret_bool HF.out.symm, below_drewN HBL.out _⟩
      | false =>
        have q1 : ¬ p1 = r1 := by simpa using t1
        have HF : Hid (decide (la = lb) = false) := decide_eq_false (HNE.out (by simp only [ne_eq, Prod.mk.injEq, not_and]; exact fun h => absurd h q1))
        clear q1
        cases t2 : (p2 == r2) with
        | true =>
          go_wp2
          go_quiet (fail)
          go_wp2
          go_ret
          exact ⟨ret_bool HF.out.symm, below_drewN HBL.out _⟩
        | false =>
          go_wp2
          go_quiet (fail)
          go_wp2
          go_ret
          exact ⟨ret_bool HF.out.symm, below_drewN HBL.out _⟩
    · have HT : Hid (decide (la = lb) = true) := by
        show _ = _
        have h := HE.out
        have h2 := HLN.out
        rw [List.take_of_length_le (by omega), List.take_of_length_le (by omega)] at h
        exact decide_eq_true h
      go_wp2
      go_ret
      exact ⟨ret_bool HT.out.symm, HBL.out⟩
  · have t0 : ((la.length : Int) != (lb.length : Int)) = true := by simp; omega
    have HF : Hid (decide (la = lb) = false) := decide_eq_false (fun e => hln (by rw [e]))
    go_enter Tryz.func99, Tryz.ntmps99
    go_wp2
    go_ret
    exact ⟨ret_bool HF.out.symm, Below.refl _ _⟩

def SmPRel (la lb : List (List UInt8 × List UInt8)) (w : World) (i : Value) (wr : World) : Prop := ∃ k : Nat, k ≤ la.length ∧ i = .int .i64 k ∧ la.take k = lb.take k ∧ Below w.heap.size w wr
set_option maxHeartbeats 2000000 in
set_option maxRecDepth 100000 in
theorem sameProcs_any (a b : Nat) (va vb : Value) (la lb : List (List UInt8 × List UInt8)) (w : World) (ha : PRow w a va la) (hb : PRow w b vb lb) (hl : la.length ≤ 1000) :
    Calls Tryz.prog 100 #[va, vb] w fun e w' => e = .returned (.bool (decide (la = lb))) ∧ Below w.heap.size w w' := by
  obtain ⟨ao, ac, rfl, hA⟩ := ha.shape
  obtain ⟨bo, bc, rfl, hB⟩ := hb.shape
  have HA := hide hA
  have HB := hide hB
  clear hA hB ha hb
  by_cases hln : la.length = lb.length
  · have t0 : ((la.length : Int) != (lb.length : Int)) = false := by simp; omega
    have HLN := hide hln
    have hln2 : lb.length ≤ 1000 := by omega
    clear hln
    go_enter Tryz.func100, Tryz.ntmps100
    go_wp2
    go_loopw [5] (fun i wr => SmPRel la lb w i wr) (fun i _ => la.length - (intOf i).toNat)
    case atStart => exact ⟨0, Nat.zero_le _, rfl, rfl, Below.refl _ _⟩
    case round =>
    obtain ⟨k, hk, rfl, heq, hbel⟩ := hrel
    have HE := hide heq
    have HBL := hide hbel
    clear heq hbel
    by_cases hlt : k < la.length
    · have hlt2 : k < lb.length := by rw [← HLN.out]; exact hlt
      obtain ⟨g, cur, rfl, -, -, hcs⟩ := HA.out (by omega)
      obtain ⟨g', cur', rfl, -, -, hcs'⟩ := HB.out (by omega)
      obtain ⟨p, hp⟩ : ∃ p, la[k]? = some p := ⟨la[k], by simp [hlt]⟩
      obtain ⟨r, hr⟩ : ∃ p, lb[k]? = some p := ⟨lb[k], by simp [hlt2]⟩
      obtain ⟨c1, c2⟩ := hcs k p hp
      obtain ⟨b1, b2⟩ := hcs' k r hr
      have d1 := at_old HBL.out c1
      have d2 := at_old HBL.out c2
      have e1 := at_old HBL.out b1
      have e2 := at_old HBL.out b2
      have HS1 : Hid (la.take (k + 1) = la.take k ++ [p]) := by
        show _ = _
        rw [List.take_succ_eq_append_getElem hlt]; congr 2; exact (List.getElem?_eq_some_iff.1 hp).2
      have HS2 : Hid (lb.take (k + 1) = lb.take k ++ [r]) := by
        show _ = _
        rw [List.take_succ_eq_append_getElem hlt2]; congr 2; exact (List.getElem?_eq_some_iff.1 hr).2
      have HNE : Hid (p ≠ r → la ≠ lb) := by
        intro h e
        rw [e, hr] at hp
        exact h (Option.some.inj hp).symm
      clear hcs hcs' c1 c2 b1 b2 hp hr
      obtain ⟨p1, p2⟩ := p
      obtain ⟨r1, r2⟩ := r
      simp only [T] at d1 d2 e1 e2
      obtain ⟨x1, hx1⟩ : ∃ x : ByteArray, x = ⟨p1.toArray⟩ := ⟨_, rfl⟩
      obtain ⟨x2, hx2⟩ : ∃ x : ByteArray, x = ⟨p2.toArray⟩ := ⟨_, rfl⟩
      obtain ⟨y1, hy1⟩ : ∃ x : ByteArray, x = ⟨r1.toArray⟩ := ⟨_, rfl⟩
      obtain ⟨y2, hy2⟩ : ∃ x : ByteArray, x = ⟨r2.toArray⟩ := ⟨_, rfl⟩
      rw [← hx1] at d1
      rw [← hx2] at d2
      rw [← hy1] at e1
      rw [← hy2] at e2
      have HX1 := hide hx1
      have HX2 := hide hx2
      have HY1 := hide hy1
      have HY2 := hide hy2
      clear hx1 hx2 hy1 hy2
      cases t1 : (x1.toList == y1.toList) with
      | true =>
        have q1 : p1 = r1 := by rw [ByteArray.toList_eq, ByteArray.toList_eq, HX1.out, HY1.out] at t1; simpa using t1
        cases t2 : (x2.toList == y2.toList) with
        | true =>
          have q2 : p2 = r2 := by rw [ByteArray.toList_eq, ByteArray.toList_eq, HX2.out, HY2.out] at t2; simpa using t2
          have HQ : Hid (la.take (k + 1) = lb.take (k + 1)) := by show _ = _; rw [HS1.out, HS2.out, HE.out, q1, q2]
          clear q1 q2
          go_wp2
          go_quiet (fail)
          go_wp2
          go_roundw
          case rel => exact ⟨k + 1, by omega, by go_num, HQ.out, below_drewN HBL.out _⟩
          case measure => simp [intOf]; omega
        | false =>
          have q2 : ¬ p2 = r2 := by rw [ByteArray.toList_eq, ByteArray.toList_eq, HX2.out, HY2.out] at t2; simpa using t2
          have HF : Hid (decide (la = lb) = false) := decide_eq_false (HNE.out (by simp only [ne_eq, Prod.mk.injEq, not_and]; exact fun _ => q2))
          clear q1 q2
          go_wp2
          go_quiet (fail)
          go_wp2
          go_ret
          exact ⟨ret_bool HF.out.symm, below_drewN HBL.out _⟩
      | false =>
        have q1 : ¬ p1 = r1 := by rw [ByteArray.toList_eq, ByteArray.toList_eq, HX1.out, HY1.out] at t1; simpa using t1
        have HF : Hid (decide (la = lb) = false) := decide_eq_false (HNE.out (by simp only [ne_eq, Prod.mk.injEq, not_and]; exact fun h => absurd h q1))
        clear q1
        cases t2 : (x2.toList == y2.toList) with
        | true =>
          go_wp2
          go_quiet (fail)
          go_wp2
          go_ret
          exact ⟨ret_bool HF.out.symm, below_drewN HBL.out _⟩
        | false =>
          go_wp2
          go_quiet (fail)
          go_wp2
          go_ret
          exact ⟨ret_bool HF.out.symm, below_drewN HBL.out _⟩
    · have HT : Hid (decide (la = lb) = true) := by
        show _ = _
        have h := HE.out
        have h2 := HLN.out
        rw [List.take_of_length_le (by omega), List.take_of_length_le (by omega)] at h
        exact decide_eq_true h
      go_wp2
      go_ret
      exact ⟨ret_bool HT.out.symm, HBL.out⟩
  · have t0 : ((la.length : Int) != (lb.length : Int)) = true := by simp; omega
    have HF : Hid (decide (la = lb) = false) := decide_eq_false (fun e => hln (by rw [e]))
    go_enter Tryz.func100, Tryz.ntmps100
    go_wp2
    go_ret
    exact ⟨ret_bool HF.out.symm, Below.refl _ _⟩
end Go.Proofs.YtellilpeakpbfabGreatDoor

end

section
/-
  The walks of the two files: Play, All, Size.
-/
namespace Go.Proofs.YtellilpeakpbfabGreatDoor
open Go.RowKit

/-- The two files at block D: what they hold, how much is lasting. -/
def DAt (w : World) (D : Nat) (a b : ByteArray) (la lb : Int) : Prop := w.heap[D]? = some (.cells #[.string a, .string b, .int .i64 la, .int .i64 lb] 67 (0, 0))
theorem DAt.lt {w : World} {D : Nat} {a b : ByteArray} {la lb : Int} (h : DAt w D a b la lb) : D < w.heap.size := (Array.getElem?_eq_some_iff.1 h).1
theorem DAt.cell {w : World} {D : Nat} {a b : ByteArray} {la lb : Int} (h : DAt w D a b la lb) : w.cell? ⟨D, 0, none⟩ = some (.string a) ∧ w.cell? ⟨D, 1, none⟩ = some (.string b) ∧ w.cell? ⟨D, 2, none⟩ = some (.int .i64 la) ∧ w.cell? ⟨D, 3, none⟩ = some (.int .i64 lb) :=
  ⟨(cell_of_row w D 0 _ _ _ h).trans rfl, (cell_of_row w D 1 _ _ _ h).trans rfl, (cell_of_row w D 2 _ _ _ h).trans rfl, (cell_of_row w D 3 _ _ _ h).trans rfl⟩
theorem DAt.fz {w : World} {D : Nat} {a b : ByteArray} {la lb : Int} (h : DAt w D a b la lb) (j : Nat) : w.frozen? ⟨D, j, none⟩ = false := frozen_of_row w D j _ _ h
theorem DAt.fr {L : Nat} {T : List TypeId} {X : Option Nat} {w w' : World} {D : Nat} {a b : ByteArray} {la lb : Int} (h : DAt w D a b la lb) (f : Fr L T X w w') (ht : 67 ∉ T) (hX : X ≠ some D) : DAt w' D a b la lb := f.block D _ _ _ h ht hX
theorem DAt.set {L : Nat} {w w1 : World} {D : Nat} {a b : ByteArray} {la lb : Int} (h : DAt w D a b la lb) (hL : L ≤ D) (h1 : w1.heap = w.heap) (hos : w1.os = w.os) (htp : w1.tape = w.tape) (hou : w1.output = w.output) (j : Nat) (u : Value) :
    (w1.setCell ⟨D, j, none⟩ u).heap[D]? = some (.cells (#[.string a, .string b, .int .i64 la, .int .i64 lb].setIfInBounds j u) 67 (0, 0)) ∧ Fr L [] (some D) w (w1.setCell ⟨D, j, none⟩ u) := by
  have h' : w1.heap[D]? = some (.cells #[.string a, .string b, .int .i64 la, .int .i64 lb] 67 (0, 0)) := by rw [h1]; exact h
  refine ⟨heap_setCell_same w1 D j _ _ u h', ?_⟩
  have f1 : Fr L [] (some D) w w1 := ⟨⟨hos, htp, hou, by rw [h1]; exact Nat.le_refl _, fun k _ => by rw [h1]⟩, fun k cur t z hk _ _ => by rw [h1]; exact hk⟩
  exact f1.trans (fr_setCell w1 D j u hL)

set_option maxHeartbeats 2000000 in
set_option maxRecDepth 100000 in
theorem play_app0 (L D : Nat) (w : World) (a b s : ByteArray) (la lb : Int) (h : DAt w D a b la lb) (hL : L ≤ D) (hs : a.size + s.size ≤ 1152921504606846976) :
    Calls Tryz.prog 38 #[.pointer (some ⟨D, 0, none⟩), .agg #[.int .i64 1, .int .i64 0, .string s]] w fun e w' => e = .returned (.bool true) ∧ DAt w' D (a ++ s) b la lb ∧ Fr L [] (some D) w w' := by
  obtain ⟨c0, c1, c2, c3⟩ := h.cell
  have z0 := h.fz 0
  have z1 := h.fz 1
  have z2 := h.fz 2
  have z3 := h.fz 3
  have hlt := h.lt
  have HD := hide h
  clear h
  go_enter Tryz.func38, Tryz.ntmps38
  go_wp2
  go_region
  all_goals go_wp2
  all_goals go_ret
  all_goals
    have hs := HD.out.set (L := L) (w1 := w) hL rfl rfl rfl rfl 0 (.string (a ++ s))
    have hb := Below.drew ((Below.refl (w.setCell ⟨D, 0, none⟩ (.string (a ++ s))).heap.size (w.setCell ⟨D, 0, none⟩ (.string (a ++ s)))).alloc (Nat.le_refl _) (.cells #[.int .i64 1, .int .i64 0, .string s] 84))
    have hd : DAt (w.setCell ⟨D, 0, none⟩ (.string (a ++ s))) D (a ++ s) b la lb := hs.1
    exact ⟨rfl, hd.fr (Fr.of (L := 0) (T := []) (X := none) hb (Nat.zero_le _)) (by simp) (by simp), hs.2.trans (Fr.of hb (by rw [World.size_setCell]; omega))⟩

set_option maxHeartbeats 2000000 in
set_option maxRecDepth 100000 in
theorem play_app1 (L D : Nat) (w : World) (a b s : ByteArray) (la lb : Int) (h : DAt w D a b la lb) (hL : L ≤ D) (hs : b.size + s.size ≤ 1152921504606846976) :
    Calls Tryz.prog 38 #[.pointer (some ⟨D, 0, none⟩), .agg #[.int .i64 1, .int .i64 1, .string s]] w fun e w' => e = .returned (.bool true) ∧ DAt w' D a (b ++ s) la lb ∧ Fr L [] (some D) w w' := by
  obtain ⟨c0, c1, c2, c3⟩ := h.cell
  have z0 := h.fz 0
  have z1 := h.fz 1
  have z2 := h.fz 2
  have z3 := h.fz 3
  have hlt := h.lt
  have HD := hide h
  clear h
  go_enter Tryz.func38, Tryz.ntmps38
  go_wp2
  go_region
  all_goals go_wp2
  all_goals go_ret
  all_goals
    have hs := HD.out.set (L := L) (w1 := w) hL rfl rfl rfl rfl 1 (.string (b ++ s))
    have hb := Below.drew ((Below.refl (w.setCell ⟨D, 1, none⟩ (.string (b ++ s))).heap.size (w.setCell ⟨D, 1, none⟩ (.string (b ++ s)))).alloc (Nat.le_refl _) (.cells #[.int .i64 1, .int .i64 1, .string s] 84))
    have hd : DAt (w.setCell ⟨D, 1, none⟩ (.string (b ++ s))) D a (b ++ s) la lb := hs.1
    exact ⟨rfl, hd.fr (Fr.of (L := 0) (T := []) (X := none) hb (Nat.zero_le _)) (by simp) (by simp), hs.2.trans (Fr.of hb (by rw [World.size_setCell]; omega))⟩

set_option maxHeartbeats 2000000 in
set_option maxRecDepth 100000 in
theorem play_syn0 (L D : Nat) (w : World) (a b : ByteArray) (la lb : Int) (h : DAt w D a b la lb) (hL : L ≤ D) :
    Calls Tryz.prog 38 #[.pointer (some ⟨D, 0, none⟩), .agg #[.int .i64 2, .int .i64 0, .string ⟨#[]⟩]] w fun e w' => e = .returned (.bool true) ∧ DAt w' D a b a.size lb ∧ Fr L [] (some D) w w' := by
  obtain ⟨c0, c1, c2, c3⟩ := h.cell
  have z0 := h.fz 0
  have z1 := h.fz 1
  have z2 := h.fz 2
  have z3 := h.fz 3
  have hlt := h.lt
  have HD := hide h
  clear h
  go_enter Tryz.func38, Tryz.ntmps38
  go_wp2
  go_region
  all_goals go_wp2
  all_goals go_ret
  all_goals
    have hs := HD.out.set (L := L) (w1 := w) hL rfl rfl rfl rfl 2 (.int .i64 a.size)
    have hb := Below.drew ((Below.refl (w.setCell ⟨D, 2, none⟩ (.int .i64 a.size)).heap.size (w.setCell ⟨D, 2, none⟩ (.int .i64 a.size))).alloc (Nat.le_refl _) (.cells #[.int .i64 2, .int .i64 0, .string ⟨#[]⟩] 84))
    have hd : DAt (w.setCell ⟨D, 2, none⟩ (.int .i64 a.size)) D a b a.size lb := hs.1
    exact ⟨rfl, hd.fr (Fr.of (L := 0) (T := []) (X := none) hb (Nat.zero_le _)) (by simp) (by simp), hs.2.trans (Fr.of hb (by rw [World.size_setCell]; omega))⟩

set_option maxHeartbeats 2000000 in
set_option maxRecDepth 100000 in
theorem play_syn1 (L D : Nat) (w : World) (a b : ByteArray) (la lb : Int) (h : DAt w D a b la lb) (hL : L ≤ D) :
    Calls Tryz.prog 38 #[.pointer (some ⟨D, 0, none⟩), .agg #[.int .i64 2, .int .i64 1, .string ⟨#[]⟩]] w fun e w' => e = .returned (.bool true) ∧ DAt w' D a b la b.size ∧ Fr L [] (some D) w w' := by
  obtain ⟨c0, c1, c2, c3⟩ := h.cell
  have z0 := h.fz 0
  have z1 := h.fz 1
  have z2 := h.fz 2
  have z3 := h.fz 3
  have hlt := h.lt
  have HD := hide h
  clear h
  go_enter Tryz.func38, Tryz.ntmps38
  go_wp2
  go_region
  all_goals go_wp2
  all_goals go_ret
  all_goals
    have hs := HD.out.set (L := L) (w1 := w) hL rfl rfl rfl rfl 3 (.int .i64 b.size)
    have hb := Below.drew ((Below.refl (w.setCell ⟨D, 3, none⟩ (.int .i64 b.size)).heap.size (w.setCell ⟨D, 3, none⟩ (.int .i64 b.size))).alloc (Nat.le_refl _) (.cells #[.int .i64 2, .int .i64 1, .string ⟨#[]⟩] 84))
    have hd : DAt (w.setCell ⟨D, 3, none⟩ (.int .i64 b.size)) D a b la b.size := hs.1
    exact ⟨rfl, hd.fr (Fr.of (L := 0) (T := []) (X := none) hb (Nat.zero_le _)) (by simp) (by simp), hs.2.trans (Fr.of hb (by rw [World.size_setCell]; omega))⟩

set_option maxHeartbeats 2000000 in
set_option maxRecDepth 100000 in
theorem play_era0 (L D : Nat) (w : World) (a b : ByteArray) (la lb : Int) (h : DAt w D a b la lb) (hL : L ≤ D) :
    Calls Tryz.prog 38 #[.pointer (some ⟨D, 0, none⟩), .agg #[.int .i64 3, .int .i64 0, .string ⟨#[]⟩]] w fun e w' => e = .returned (.bool true) ∧ DAt w' D ⟨#[]⟩ b 0 lb ∧ Fr L [] (some D) w w' := by
  obtain ⟨c0, c1, c2, c3⟩ := h.cell
  have z0 := h.fz 0
  have z1 := h.fz 1
  have z2 := h.fz 2
  have z3 := h.fz 3
  have hlt := h.lt
  have HD := hide h
  clear h
  go_enter Tryz.func38, Tryz.ntmps38
  go_wp2
  go_region
  all_goals go_wp2
  all_goals go_region
  all_goals go_wp2
  all_goals go_ret
  all_goals
    have hs := HD.out.set (L := L) (w1 := w) hL rfl rfl rfl rfl 0 (.string ⟨#[]⟩)
    have hd : DAt (w.setCell ⟨D, 0, none⟩ (.string ⟨#[]⟩)) D ⟨#[]⟩ b la lb := hs.1
    have hs2 := hd.set (L := L) (w1 := (w.setCell ⟨D, 0, none⟩ (.string ⟨#[]⟩))) hL rfl rfl rfl rfl 2 (.int .i64 0)
    have hd2 : DAt ((w.setCell ⟨D, 0, none⟩ (.string ⟨#[]⟩)).setCell ⟨D, 2, none⟩ (.int .i64 0)) D ⟨#[]⟩ b 0 lb := hs2.1
    have hb := Below.drew (Below.drew ((Below.refl ((w.setCell ⟨D, 0, none⟩ (.string ⟨#[]⟩)).setCell ⟨D, 2, none⟩ (.int .i64 0)).heap.size ((w.setCell ⟨D, 0, none⟩ (.string ⟨#[]⟩)).setCell ⟨D, 2, none⟩ (.int .i64 0))).alloc (Nat.le_refl _) (.cells #[.int .i64 3, .int .i64 0, .string ⟨#[]⟩] 84)))
    exact ⟨rfl, hd2.fr (Fr.of (L := 0) (T := []) (X := none) hb (Nat.zero_le _)) (by simp) (by simp), (hs.2.trans hs2.2).trans (Fr.of hb (by rw [World.size_setCell, World.size_setCell]; omega))⟩

set_option maxHeartbeats 2000000 in
set_option maxRecDepth 100000 in
theorem play_era1 (L D : Nat) (w : World) (a b : ByteArray) (la lb : Int) (h : DAt w D a b la lb) (hL : L ≤ D) :
    Calls Tryz.prog 38 #[.pointer (some ⟨D, 0, none⟩), .agg #[.int .i64 3, .int .i64 1, .string ⟨#[]⟩]] w fun e w' => e = .returned (.bool true) ∧ DAt w' D a ⟨#[]⟩ la 0 ∧ Fr L [] (some D) w w' := by
  obtain ⟨c0, c1, c2, c3⟩ := h.cell
  have z0 := h.fz 0
  have z1 := h.fz 1
  have z2 := h.fz 2
  have z3 := h.fz 3
  have hlt := h.lt
  have HD := hide h
  clear h
  go_enter Tryz.func38, Tryz.ntmps38
  go_wp2
  go_region
  all_goals go_wp2
  all_goals go_region
  all_goals go_wp2
  all_goals go_ret
  all_goals
    have hs := HD.out.set (L := L) (w1 := w) hL rfl rfl rfl rfl 1 (.string ⟨#[]⟩)
    have hd : DAt (w.setCell ⟨D, 1, none⟩ (.string ⟨#[]⟩)) D a ⟨#[]⟩ la lb := hs.1
    have hs2 := hd.set (L := L) (w1 := (w.setCell ⟨D, 1, none⟩ (.string ⟨#[]⟩))) hL rfl rfl rfl rfl 3 (.int .i64 0)
    have hd2 : DAt ((w.setCell ⟨D, 1, none⟩ (.string ⟨#[]⟩)).setCell ⟨D, 3, none⟩ (.int .i64 0)) D a ⟨#[]⟩ la 0 := hs2.1
    have hb := Below.drew (Below.drew ((Below.refl ((w.setCell ⟨D, 1, none⟩ (.string ⟨#[]⟩)).setCell ⟨D, 3, none⟩ (.int .i64 0)).heap.size ((w.setCell ⟨D, 1, none⟩ (.string ⟨#[]⟩)).setCell ⟨D, 3, none⟩ (.int .i64 0))).alloc (Nat.le_refl _) (.cells #[.int .i64 3, .int .i64 1, .string ⟨#[]⟩] 84)))
    exact ⟨rfl, hd2.fr (Fr.of (L := 0) (T := []) (X := none) hb (Nat.zero_le _)) (by simp) (by simp), (hs.2.trans hs2.2).trans (Fr.of hb (by rw [World.size_setCell, World.size_setCell]; omega))⟩
end Go.Proofs.YtellilpeakpbfabGreatDoor

end

section
/-
  The walks of the document's cells: Within, Cell, Without.
-/
namespace Go.Proofs.YtellilpeakpbfabGreatDoor
open Go.RowKit

set_option maxHeartbeats 1000000 in
theorem within_any (n : Int) (w : World) (h0 : -9223372036854775808 ≤ n) (h1 : n ≤ 9223372036854775807) :
    Calls Tryz.prog 145 #[.int .i64 n] w fun e w' => e = .returned (.bool (Jn.isVal n)) ∧ w' = w := by
  by_cases a : n ≤ 1000000000
  · by_cases b : -1000000000 ≤ n
    · have HE : Hid (Jn.isVal n = true) := by show _ = _; unfold Jn.isVal; simp; omega
      have t1 : decide (n ≤ 1000000000) = true := decide_eq_true a
      have t2 : decide (-n ≤ 1000000000) = true := decide_eq_true (by omega)
      have t3 : decide (-1000000000 ≤ n) = true := decide_eq_true b
      go_enter Tryz.func145, Tryz.ntmps145
      go_wp2
      all_goals go_ret
      all_goals exact ⟨ret_bool (by rw [HE.out]; try (simp; omega)), rfl⟩
    · have HE : Hid (Jn.isVal n = false) := by show _ = _; unfold Jn.isVal; simp; omega
      have t1 : decide (n ≤ 1000000000) = true := decide_eq_true a
      have t3 : decide (-1000000000 ≤ n) = false := decide_eq_false b
      by_cases c : n = -9223372036854775808
      · subst c
        go_enter Tryz.func145, Tryz.ntmps145
        go_wp2
        all_goals go_ret
        all_goals exact ⟨ret_bool (by rw [HE.out]), rfl⟩
      · have t2 : decide (-n ≤ 1000000000) = false := decide_eq_false (by omega)
        go_enter Tryz.func145, Tryz.ntmps145
        go_wp2
        all_goals go_ret
        all_goals exact ⟨ret_bool (by rw [HE.out]), rfl⟩
  · have HE : Hid (Jn.isVal n = false) := by show _ = _; unfold Jn.isVal; simp; omega
    have t1 : decide (n ≤ 1000000000) = false := decide_eq_false a
    go_enter Tryz.func145, Tryz.ntmps145
    go_wp2
    all_goals go_ret
    all_goals exact ⟨ret_bool (by rw [HE.out]), rfl⟩

/-- the value of a cell in a list. -/
def cellL : List (Int × Int) → Int → Option Int
  | [], _ => none
  | p :: r, k => if p.1 = k then some p.2 else cellL r k
def CfRel (l : List (Int × Int)) (k : Int) (i : Value) : Prop := ∃ j : Nat, j ≤ l.length ∧ i = .int .i64 j ∧ cellL (l.drop j) k = cellL l k

set_option maxHeartbeats 1000000 in
theorem cellR_any (b : Nat) (v : Value) (l : List (Int × Int)) (k : Int) (w : World) (h : CRow w b v l) (hl : l.length ≤ 1000) :
    Calls Tryz.prog 116 #[v, .int .i64 k] w fun e w' => e = .returned (.tuple #[.int .i64 ((cellL l k).getD 0), .bool (cellL l k).isSome]) ∧ w' = w := by
  obtain ⟨ao, cap, rfl, hcs⟩ := h.shape
  have HC := hide hcs
  clear h hcs
  go_enter Tryz.func116, Tryz.ntmps116
  go_wp2
  go_loop [6] (fun i => CfRel l k i) (fun i => l.length - (intOf i).toNat)
  case atStart => exact ⟨0, Nat.zero_le _, rfl, rfl⟩
  case round =>
    obtain ⟨j, hj, rfl, heq⟩ := hrel
    have HE := hide heq
    clear heq
    by_cases hlt : j < l.length
    · obtain ⟨g, cur, rfl, -, -, hcs⟩ := HC.out (by omega)
      obtain ⟨p, hp⟩ : ∃ p, l[j]? = some p := ⟨l[j], by simp [hlt]⟩
      obtain ⟨c1, c2⟩ := hcs j p hp
      have HD : Hid (l.drop j = p :: l.drop (j + 1)) := by
        show _ = _
        rw [List.drop_eq_getElem_cons hlt, (List.getElem?_eq_some_iff.1 hp).2]
      clear hcs hp
      obtain ⟨p1, p2⟩ := p
      cases ht : (p1 == k) with
      | true =>
        have HR : Hid (cellL l k = some p2) := by
          show _ = _
          rw [← HE.out, HD.out, cellL, if_pos (by simpa using ht)]
        go_wp2
        go_ret2
        rw [HR.out]
        exact ⟨rfl, rfl⟩
      | false =>
        have HR : Hid (cellL (l.drop (j + 1)) k = cellL l k) := by
          show _ = _
          rw [← HE.out, HD.out, cellL, if_neg (by simpa using ht)]
        go_wp2
        go_round
        case rel => exact ⟨j + 1, by omega, by go_num, HR.out⟩
        case measure => simp [intOf]; omega
    · have HR : Hid (cellL l k = none) := by
        show _ = _
        rw [← HE.out, List.drop_eq_nil_of_le (by omega)]; rfl
      go_wp2
      go_ret2
      rw [HR.out]
      exact ⟨rfl, rfl⟩

def withoutL (l : List (Int × Int)) (k : Int) : List (Int × Int) := l.filter fun p => decide (p.1 ≠ k)
def WoRel (w : World) (l : List (Int × Int)) (k : Int) (v i : Value) (wr : World) : Prop :=
  ∃ j : Nat, j ≤ l.length ∧ i = .int .i64 j ∧ CRow wr w.heap.size v (withoutL (l.take j) k) ∧ Below w.heap.size w wr
theorem filter_take {α : Type} (f : α → Bool) (l : List α) (j : Nat) (p : α) (h : l[j]? = some p) : (l.take (j + 1)).filter f = (l.take j).filter f ++ (if f p then [p] else []) := by
  have hk : j < l.length := (List.getElem?_eq_some_iff.1 h).1
  have e : l[j] = p := (List.getElem?_eq_some_iff.1 h).2
  rw [List.take_succ_eq_append_getElem hk, List.filter_append, e]
  congr 1
  cases hf : f p <;> simp [hf]

set_option maxHeartbeats 2000000 in
set_option maxRecDepth 100000 in
theorem without_any (b : Nat) (v : Value) (l : List (Int × Int)) (k : Int) (w : World) (h : CRow w b v l) (hl : l.length ≤ 1000) :
    Calls Tryz.prog 147 #[v, .int .i64 k] w fun e w' => ∃ v', e = .returned v' ∧ CRow w' w.heap.size v' (withoutL l k) ∧ Below w.heap.size w w' := by
  obtain ⟨ao, cap, rfl, hcs⟩ := h.shape
  have HC := hide hcs
  clear h hcs
  obtain ⟨i0, hi, hz0, hz1, hz2⟩ := info_parts Tryz.infoCell
  go_enter Tryz.func147, Tryz.ntmps147
  go_wp2
  go_loopw [5, 6] (fun v i wr => WoRel w l k v i wr) (fun _ i _ => l.length - (intOf i).toNat)
  case atStart => exact ⟨0, Nat.zero_le _, rfl, World.ownsRow_nil _ _ _ _, Below.refl _ _⟩
  case round =>
    obtain ⟨j, hj, rfl, hown, hbel⟩ := hrel
    have hln : (withoutL (l.take j) k).length ≤ j := Nat.le_trans (List.length_filter_le _ _) (by simp; omega)
    have HO := hide hown
    have HB := hide hbel
    have hwz := hbel.size
    clear hown hbel
    by_cases hlt : j < l.length
    · obtain ⟨g, cur, rfl, -, -, hcs⟩ := HC.out (by omega)
      obtain ⟨p, hp⟩ : ∃ p, l[j]? = some p := ⟨l[j], by simp [hlt]⟩
      obtain ⟨c1, c2⟩ := hcs j p hp
      have d1 := at_old HB.out c1
      have d2 := at_old HB.out c2
      have HK : Hid (withoutL (l.take (j + 1)) k = withoutL (l.take j) k ++ (if decide (p.1 ≠ k) then [p] else [])) := filter_take _ l j p hp
      clear hcs c1 c2 hp
      obtain ⟨p1, p2⟩ := p
      cases ht : (p1 != k) with
      | false =>
        have HR : Hid (withoutL (l.take (j + 1)) k = withoutL (l.take j) k) := by
          show _ = _
          rw [HK.out, if_neg (by simpa using ht), List.append_nil]
        go_wp2
        go_roundw
        case rel => exact ⟨j + 1, by omega, by go_num, by rw [HR.out]; exact HO.out, HB.out⟩
        case measure => simp [intOf]; omega
      | true =>
        have HR : Hid (withoutL (l.take (j + 1)) k = withoutL (l.take j) k ++ [(p1, p2)]) := by
          show _ = _
          rw [HK.out, if_pos (by simpa using ht)]
        go_wp2_with (at_builtin; refine wpList_append_own _ rfl (.tmp 20) (.tmp 25) 52 rfl w.heap.size 99 i0 (.agg #[.int .i64 0, .int .i64 0]) 2 16 Tryz.underlying52 hi hz0 hz1 hz2 rfl (by decide) _ _ _ rfl (HO.out.alloc _) ⟨_, 0, none⟩ 1 1 [.int .i64 p1, .int .i64 p2] rfl rfl ?c1 ?c2 ?c3 ?c4 ?c5 ?_)
        try (case c1 => exact cell_two_new _ _ _ _)
        case c2 => first | exact ⟨rfl, rfl⟩ | (intro u hu; simp at hu; rcases hu with rfl | rfl <;> rfl)
        case c3 => unfold maxLen; omega
        case c4 => omega
        case c5 => first | omega | (simp; omega)
        intro v' w7 hown' hgrow _
        have HRR : Hid (WoRel w l k v' (.int .i64 ((j : Int) + 1)) w7) := by
          refine ⟨j + 1, by omega, by go_num, ?_, grow_below HB.out (by omega) HO.out hgrow⟩
          rw [HR.out]
          exact CRow.snoc hown'
        clear hown' hgrow
        go_wp2
        go_roundw
        case rel => exact HRR.out
        case measure => simp [intOf]; omega
    · go_wp2
      go_ret
      have e := HO.out
      rw [List.take_of_length_le (by omega)] at e
      exact ⟨_, rfl, e, HB.out⟩
end Go.Proofs.YtellilpeakpbfabGreatDoor

end
