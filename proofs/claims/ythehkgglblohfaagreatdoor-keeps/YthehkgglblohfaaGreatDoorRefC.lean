/-
  The walks of the document's cells: Within, Cell, Without.
-/
import Derived.Test.YthehkgglblohfaaGreatDoorOpen
namespace Go.Proofs.YthehkgglblohfaaGreatDoor
open Go.RowKit

set_option maxHeartbeats 1000000 in
theorem within_any (n : Int) (w : World) (h0 : -9223372036854775808 ≤ n) (h1 : n ≤ 9223372036854775807) :
    Calls Tryz.prog 72 #[.int .i64 n] w fun e w' => e = .returned (.bool (Jn.isVal n)) ∧ w' = w := by
  by_cases a : n ≤ 1000000000
  · by_cases b : -1000000000 ≤ n
    · have HE : Hid (Jn.isVal n = true) := by show _ = _; unfold Jn.isVal; simp; omega
      have t1 : decide (n ≤ 1000000000) = true := decide_eq_true a
      have t2 : decide (-n ≤ 1000000000) = true := decide_eq_true (by omega)
      have t3 : decide (-1000000000 ≤ n) = true := decide_eq_true b
      go_enter Tryz.func72, Tryz.ntmps72
      go_wp2
      all_goals go_ret
      all_goals exact ⟨ret_bool (by rw [HE.out]; try (simp; omega)), rfl⟩
    · have HE : Hid (Jn.isVal n = false) := by show _ = _; unfold Jn.isVal; simp; omega
      have t1 : decide (n ≤ 1000000000) = true := decide_eq_true a
      have t3 : decide (-1000000000 ≤ n) = false := decide_eq_false b
      by_cases c : n = -9223372036854775808
      · subst c
        go_enter Tryz.func72, Tryz.ntmps72
        go_wp2
        all_goals go_ret
        all_goals exact ⟨ret_bool (by rw [HE.out]), rfl⟩
      · have t2 : decide (-n ≤ 1000000000) = false := decide_eq_false (by omega)
        go_enter Tryz.func72, Tryz.ntmps72
        go_wp2
        all_goals go_ret
        all_goals exact ⟨ret_bool (by rw [HE.out]), rfl⟩
  · have HE : Hid (Jn.isVal n = false) := by show _ = _; unfold Jn.isVal; simp; omega
    have t1 : decide (n ≤ 1000000000) = false := decide_eq_false a
    go_enter Tryz.func72, Tryz.ntmps72
    go_wp2
    all_goals go_ret
    all_goals exact ⟨ret_bool (by rw [HE.out]), rfl⟩

/-- the value of a cell in a list. -/
def cellL : List (Int × Int) → Int → Option Int
  | [], _ => none
  | p :: r, k => if p.1 = k then some p.2 else cellL r k
def CfRel (l : List (Int × Int)) (k : Int) (i : Value) : Prop := ∃ j : Nat, j ≤ l.length ∧ i = .int .i64 j ∧ cellL (l.drop j) k = cellL l k

set_option maxHeartbeats 1000000 in
theorem cellR_any (b : Nat) (v : Value) (l : List (Int × Int)) (k : Int) (w : World) (h : CRow w b v l) (hl : l.length ≤ 1000) :
    Calls Tryz.prog 45 #[v, .int .i64 k] w fun e w' => e = .returned (.tuple #[.int .i64 ((cellL l k).getD 0), .bool (cellL l k).isSome]) ∧ w' = w := by
  obtain ⟨ao, cap, rfl, hcs⟩ := h.shape
  have HC := hide hcs
  clear h hcs
  go_enter Tryz.func45, Tryz.ntmps45
  go_wp2
  go_loop [6] (fun i => CfRel l k i) (fun i => l.length - (intOf i).toNat)
  case atStart => exact ⟨0, Nat.zero_le _, rfl, rfl⟩
  case round =>
    obtain ⟨j, hj, rfl, heq⟩ := hrel
    have HE := hide heq
    clear heq
    by_cases hlt : j < l.length
    · obtain ⟨g, cur, rfl, -, -, hcs⟩ := HC.out (by omega)
      obtain ⟨p, hp⟩ : ∃ p, l[j]? = some p := ⟨l[j], by simp [hlt]⟩
      obtain ⟨c1, c2⟩ := hcs j p hp
      have HD : Hid (l.drop j = p :: l.drop (j + 1)) := by
        show _ = _
        rw [List.drop_eq_getElem_cons hlt, (List.getElem?_eq_some_iff.1 hp).2]
      clear hcs hp
      obtain ⟨p1, p2⟩ := p
      cases ht : (p1 == k) with
      | true =>
        have HR : Hid (cellL l k = some p2) := by
          show _ = _
          rw [← HE.out, HD.out, cellL, if_pos (by simpa using ht)]
        go_wp2
        go_ret2
        rw [HR.out]
        exact ⟨rfl, rfl⟩
      | false =>
        have HR : Hid (cellL (l.drop (j + 1)) k = cellL l k) := by
          show _ = _
          rw [← HE.out, HD.out, cellL, if_neg (by simpa using ht)]
        go_wp2
        go_round
        case rel => exact ⟨j + 1, by omega, by go_num, HR.out⟩
        case measure => simp [intOf]; omega
    · have HR : Hid (cellL l k = none) := by
        show _ = _
        rw [← HE.out, List.drop_eq_nil_of_le (by omega)]; rfl
      go_wp2
      go_ret2
      rw [HR.out]
      exact ⟨rfl, rfl⟩

def withoutL (l : List (Int × Int)) (k : Int) : List (Int × Int) := l.filter fun p => decide (p.1 ≠ k)
def WoRel (w : World) (l : List (Int × Int)) (k : Int) (v i : Value) (wr : World) : Prop :=
  ∃ j : Nat, j ≤ l.length ∧ i = .int .i64 j ∧ CRow wr w.heap.size v (withoutL (l.take j) k) ∧ Below w.heap.size w wr
theorem filter_take {α : Type} (f : α → Bool) (l : List α) (j : Nat) (p : α) (h : l[j]? = some p) : (l.take (j + 1)).filter f = (l.take j).filter f ++ (if f p then [p] else []) := by
  have hk : j < l.length := (List.getElem?_eq_some_iff.1 h).1
  have e : l[j] = p := (List.getElem?_eq_some_iff.1 h).2
  rw [List.take_succ_eq_append_getElem hk, List.filter_append, e]
  congr 1
  cases hf : f p <;> simp [hf]

set_option maxHeartbeats 2000000 in
set_option maxRecDepth 100000 in
theorem without_any (b : Nat) (v : Value) (l : List (Int × Int)) (k : Int) (w : World) (h : CRow w b v l) (hl : l.length ≤ 1000) :
    Calls Tryz.prog 77 #[v, .int .i64 k] w fun e w' => ∃ v', e = .returned v' ∧ CRow w' w.heap.size v' (withoutL l k) ∧ Below w.heap.size w w' := by
  obtain ⟨ao, cap, rfl, hcs⟩ := h.shape
  have HC := hide hcs
  clear h hcs
  obtain ⟨i0, hi, hz0, hz1, hz2⟩ := info_parts Tryz.infoCell
  go_enter Tryz.func77, Tryz.ntmps77
  go_wp2
  go_loopw [5, 6] (fun v i wr => WoRel w l k v i wr) (fun _ i _ => l.length - (intOf i).toNat)
  case atStart => exact ⟨0, Nat.zero_le _, rfl, World.ownsRow_nil _ _ _ _, Below.refl _ _⟩
  case round =>
    obtain ⟨j, hj, rfl, hown, hbel⟩ := hrel
    have hln : (withoutL (l.take j) k).length ≤ j := Nat.le_trans (List.length_filter_le _ _) (by simp; omega)
    have HO := hide hown
    have HB := hide hbel
    have hwz := hbel.size
    clear hown hbel
    by_cases hlt : j < l.length
    · obtain ⟨g, cur, rfl, -, -, hcs⟩ := HC.out (by omega)
      obtain ⟨p, hp⟩ : ∃ p, l[j]? = some p := ⟨l[j], by simp [hlt]⟩
      obtain ⟨c1, c2⟩ := hcs j p hp
      have d1 := at_old HB.out c1
      have d2 := at_old HB.out c2
      have HK : Hid (withoutL (l.take (j + 1)) k = withoutL (l.take j) k ++ (if decide (p.1 ≠ k) then [p] else [])) := filter_take _ l j p hp
      clear hcs c1 c2 hp
      obtain ⟨p1, p2⟩ := p
      cases ht : (p1 != k) with
      | false =>
        have HR : Hid (withoutL (l.take (j + 1)) k = withoutL (l.take j) k) := by
          show _ = _
          rw [HK.out, if_neg (by simpa using ht), List.append_nil]
        go_wp2
        go_roundw
        case rel => exact ⟨j + 1, by omega, by go_num, by rw [HR.out]; exact HO.out, HB.out⟩
        case measure => simp [intOf]; omega
      | true =>
        have HR : Hid (withoutL (l.take (j + 1)) k = withoutL (l.take j) k ++ [(p1, p2)]) := by
          show _ = _
          rw [HK.out, if_pos (by simpa using ht)]
        go_wp2_with (at_builtin; refine wpList_append_own _ rfl (.tmp 20) (.tmp 25) 47 rfl w.heap.size 59 i0 (.agg #[.int .i64 0, .int .i64 0]) 2 16 Tryz.underlying47 hi hz0 hz1 hz2 rfl (by decide) _ _ _ rfl (HO.out.alloc _) ⟨_, 0, none⟩ 1 1 [.int .i64 p1, .int .i64 p2] rfl rfl ?c1 ?c2 ?c3 ?c4 ?c5 ?_)
        try (case c1 => exact cell_two_new _ _ _ _)
        case c2 => first | exact ⟨rfl, rfl⟩ | (intro u hu; simp at hu; rcases hu with rfl | rfl <;> rfl)
        case c3 => unfold maxLen; omega
        case c4 => omega
        case c5 => first | omega | (simp; omega)
        intro v' w7 hown' hgrow _
        have HRR : Hid (WoRel w l k v' (.int .i64 ((j : Int) + 1)) w7) := by
          refine ⟨j + 1, by omega, by go_num, ?_, grow_below HB.out (by omega) HO.out hgrow⟩
          rw [HR.out]
          exact CRow.snoc hown'
        clear hown' hgrow
        go_wp2
        go_roundw
        case rel => exact HRR.out
        case measure => simp [intOf]; omega
    · go_wp2
      go_ret
      have e := HO.out
      rw [List.take_of_length_le (by omega)] at e
      exact ⟨_, rfl, e, HB.out⟩
end Go.Proofs.YthehkgglblohfaaGreatDoor
