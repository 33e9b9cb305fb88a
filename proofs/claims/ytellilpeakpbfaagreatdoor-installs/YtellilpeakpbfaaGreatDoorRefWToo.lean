import Derived.Test.YtellilpeakpbfaaGreatDoorRefCToo
/-
  The walk of the document's With.
-/
namespace Go.Proofs.YtellilpeakpbfaaGreatDoor
open Go.RowKit

def withL (l : List (Int × Int)) (k x : Int) : List (Int × Int) := l.takeWhile (fun p => decide (p.1 < k)) ++ [(k, x)] ++ l.filter (fun p => decide (k < p.1))
theorem takeWhile_at {α : Type} (f : α → Bool) (l : List α) : ∀ j, j ≤ l.length → (∀ p ∈ l.take j, f p = true) → (∀ p, l[j]? = some p → f p = false) → l.takeWhile f = l.take j := by
  induction l with
  | nil => intro j _ _ _; simp
  | cons a r ih =>
    intro j hj h1 h2
    cases j with
    | zero => simp [h2 a rfl]
    | succ j =>
      rw [List.takeWhile_cons, if_pos (h1 a (by simp)), List.take_succ_cons, ih j (by simpa using hj) (fun p hp => h1 p (by simp [hp])) (fun p hp => h2 p (by simpa using hp))]
def W1Rel (w : World) (l : List (Int × Int)) (k : Int) (v i : Value) (wr : World) : Prop :=
  ∃ j : Nat, j ≤ l.length ∧ i = .int .i64 j ∧ CRow wr w.heap.size v (l.take j) ∧ Below w.heap.size w wr ∧ (∀ p ∈ l.take j, decide (p.1 < k) = true)
def W2Rel (w : World) (l A : List (Int × Int)) (k x : Int) (v i : Value) (wr : World) : Prop :=
  ∃ j : Nat, j ≤ l.length ∧ i = .int .i64 j ∧ CRow wr w.heap.size v (A ++ [(k, x)] ++ (l.take j).filter (fun p => decide (k < p.1))) ∧ Below w.heap.size w wr

set_option maxHeartbeats 4000000 in
set_option maxRecDepth 100000 in
theorem with_any (b : Nat) (v : Value) (l : List (Int × Int)) (k x : Int) (w : World) (h : CRow w b v l) (hl : l.length ≤ 1000) :
    Calls Tryz.prog 142 #[v, .int .i64 k, .int .i64 x] w fun e w' => ∃ v', e = .returned v' ∧ CRow w' w.heap.size v' (withL l k x) ∧ Below w.heap.size w w' := by
  obtain ⟨ao, cap, rfl, hcs⟩ := h.shape
  have HC := hide hcs
  clear h hcs
  obtain ⟨i0, hi, hz0, hz1, hz2⟩ := info_parts Tryz.infoCell
  unfold withL
  obtain ⟨A, hA⟩ : ∃ A, A = l.takeWhile (fun p => decide (p.1 < k)) := ⟨_, rfl⟩
  rw [← hA]
  have HA := hide hA
  clear hA
  go_enter Tryz.func142, Tryz.ntmps142
  go_wp2
  go_loopw [7, 8] (fun v i wr => W1Rel w l k v i wr) (fun _ i _ => l.length - (intOf i).toNat)
  case atStart => exact ⟨0, Nat.zero_le _, rfl, World.ownsRow_nil _ _ _ _, Below.refl _ _, by simp⟩
  case round =>
    obtain ⟨j, hj, rfl, hown, hbel, hall⟩ := hrel
    have HAL := hide hall
    have HO := hide hown
    have HB := hide hbel
    have hwz := hbel.size
    clear hown hbel hall
    by_cases hlt : j < l.length
    · have tj : decide ((j : Int) < (l.length : Int)) = true := decide_eq_true (by omega)
      obtain ⟨g, cur, rfl, -, -, hcs⟩ := HC.out (by omega)
      obtain ⟨p, hp⟩ : ∃ p, l[j]? = some p := ⟨l[j], by simp [hlt]⟩
      obtain ⟨c1, c2⟩ := hcs j p hp
      have d1 := at_old HB.out c1
      have d2 := at_old HB.out c2
      have HP := hide hp
      clear hcs c1 c2 hp
      obtain ⟨p1, p2⟩ := p
      by_cases hkp : p1 < k
      · have t1 : decide (p1 < k) = true := decide_eq_true hkp
        have HK : Hid (l.take (j + 1) = l.take j ++ [(p1, p2)]) := by
          show _ = _
          rw [List.take_succ_eq_append_getElem hlt]; congr 2; exact (List.getElem?_eq_some_iff.1 HP.out).2
        have hln : (l.take j).length = j := by simp; omega
        go_wp2_with (at_builtin; refine wpList_append_own _ rfl (.tmp 25) (.tmp 30) 35 rfl w.heap.size 102 i0 (.agg #[.int .i64 0, .int .i64 0]) 2 16 Tryz.underlying35 hi hz0 hz1 hz2 rfl (by decide) _ _ _ rfl (HO.out.alloc _) ⟨_, 0, none⟩ 1 1 [.int .i64 p1, .int .i64 p2] rfl rfl ?c1 ?c2 ?c3 ?c4 ?c5 ?_)
        try (case c1 => exact cell_two_new _ _ _ _)
        case c2 => first | exact ⟨rfl, rfl⟩ | (intro u hu; simp at hu; rcases hu with rfl | rfl <;> rfl)
        case c3 => unfold maxLen; omega
        case c4 => omega
        case c5 => first | omega | (simp; omega)
        intro v' w7 hown' hgrow _
        have HRR : Hid (W1Rel w l k v' (.int .i64 ((j : Int) + 1)) w7) := by
          refine ⟨j + 1, by omega, by go_num, ?_, grow_below HB.out (by omega) HO.out hgrow, ?_⟩
          · rw [HK.out]
            refine CRow.snoc ?_
            rw [← List.map_take] at hown'
            rw [hln]
            exact hown'
          · rw [HK.out]
            intro p hp
            rcases List.mem_append.1 hp with h | h
            · exact HAL.out p h
            · simp at h; rw [h]; exact t1
        clear hown' hgrow
        go_wp2
        go_roundw
        case rel => exact HRR.out
        case measure => simp [intOf]; omega
      · have t1 : decide (p1 < k) = false := decide_eq_false hkp
        have hAe : A = l.take j := by rw [HA.out]; exact takeWhile_at _ l j hj HAL.out (fun p hp => by rw [HP.out] at hp; cases hp; exact t1)
        have hAl : A.length ≤ j := by rw [hAe]; simp; omega
        rw [← hAe] at HO
        clear HP HAL hAe
        go_wp2_with (at_builtin; refine wpList_append_own _ rfl (.tmp 32) (.tmp 36) 35 rfl w.heap.size 102 i0 (.agg #[.int .i64 0, .int .i64 0]) 2 16 Tryz.underlying35 hi hz0 hz1 hz2 rfl (by decide) _ _ _ rfl (HO.out.alloc _) ⟨_, 0, none⟩ 1 1 [.int .i64 k, .int .i64 x] rfl rfl ?ae1 ?ae2 ?ae3 ?ae4 ?ae5 ?_)
        try (case ae1 => exact cell_two_new _ _ _ _)
        case ae2 => first | exact ⟨rfl, rfl⟩ | (intro u hu; simp at hu; rcases hu with rfl | rfl <;> rfl)
        case ae3 => unfold maxLen; omega
        case ae4 => omega
        case ae5 => first | omega | (simp; omega)
        intro v' w7 hown' hgrow _
        have HR : Hid (W2Rel w l A k x v' (.int .i64 (0 : Int)) w7) := by
          refine ⟨0, Nat.zero_le _, rfl, ?_, grow_below HB.out (by omega) HO.out hgrow⟩
          rw [List.take_zero, List.filter_nil, List.append_nil]
          exact CRow.snoc hown'
        clear hown' hgrow HO HB
        go_wp2
        go_loopw [7, 9] (fun v i wr => W2Rel w l A k x v i wr) (fun _ i _ => l.length - (intOf i).toNat)
        case atStart => exact HR.out
        case round =>
          obtain ⟨i, hi2, rfl, hown, hbel⟩ := hrel
          obtain ⟨m, hm⟩ : ∃ m, m = A ++ [(k, x)] ++ (l.take i).filter (fun p => decide (k < p.1)) := ⟨_, rfl⟩
          rw [← hm] at hown
          have hln2 : m.length ≤ A.length + 1 + i := by
            rw [hm]
            have := List.length_filter_le (fun p : Int × Int => decide (k < p.1)) (l.take i)
            simp only [List.length_append, List.length_cons, List.length_nil, List.length_take] at this ⊢
            omega
          have HM := hide hm
          have HO := hide hown
          have HB := hide hbel
          have hwz2 := hbel.size
          clear hown hbel HR hm
          by_cases hlj : i < l.length
          · obtain ⟨g2, cur2, hg2, -, -, hcs⟩ := HC.out (by omega)
            try (cases hg2)
            try (subst hg2)
            obtain ⟨p, hp⟩ : ∃ p, l[i]? = some p := ⟨l[i], by simp [hlj]⟩
            obtain ⟨c1, c2⟩ := hcs i p hp
            have d1 := at_old HB.out c1
            have d2 := at_old HB.out c2
            have HK := hide (filter_take (fun p : Int × Int => decide (k < p.1)) l i p hp)
            clear hcs c1 c2 hp
            obtain ⟨p1, p2⟩ := p
            by_cases hkp : k < p1
            · have t1 : decide (k < p1) = true := decide_eq_true hkp
              have HR : Hid (A ++ [(k, x)] ++ (l.take (i + 1)).filter (fun p => decide (k < p.1)) = m ++ [(p1, p2)]) := by
                show _ = _
                rw [HK.out, if_pos (by simpa using hkp), ← List.append_assoc, ← HM.out]
              go_wp2_with (at_builtin; refine wpList_append_own _ rfl (.tmp 51) (.tmp 56) 35 rfl w.heap.size 102 i0 (.agg #[.int .i64 0, .int .i64 0]) 2 16 Tryz.underlying35 hi hz0 hz1 hz2 rfl (by decide) _ _ _ rfl (HO.out.alloc _) ⟨_, 0, none⟩ 1 1 [.int .i64 p1, .int .i64 p2] rfl rfl ?ag1 ?ag2 ?ag3 ?ag4 ?ag5 ?_)
              try (case ag1 => exact cell_two_new _ _ _ _)
              case ag2 => first | exact ⟨rfl, rfl⟩ | (intro u hu; simp at hu; rcases hu with rfl | rfl <;> rfl)
              case ag3 => unfold maxLen; omega
              case ag4 => omega
              case ag5 => first | omega | (simp; omega)
              intro v' w8 hown' hgrow _
              have HRR : Hid (W2Rel w l A k x v' (.int .i64 ((i : Int) + 1)) w8) := by
                refine ⟨i + 1, by omega, by go_num, ?_, grow_below HB.out (by omega) HO.out hgrow⟩
                rw [HR.out]
                exact CRow.snoc hown'
              clear hown' hgrow
              go_wp2
              go_roundw
              case rel => exact HRR.out
              case measure => simp [intOf]; omega
            · have t1 : decide (k < p1) = false := decide_eq_false hkp
              have HR : Hid (A ++ [(k, x)] ++ (l.take (i + 1)).filter (fun p => decide (k < p.1)) = m) := by
                show _ = _
                rw [HK.out, if_neg (by simpa using hkp), List.append_nil, ← HM.out]
              go_wp2
              go_roundw
              case rel => exact ⟨i + 1, by omega, by go_num, by rw [HR.out]; exact HO.out, HB.out⟩
              case measure => simp [intOf]; omega
          · go_wp2
            go_ret
            have e := HO.out
            rw [HM.out, List.take_of_length_le (by omega)] at e
            exact ⟨_, rfl, e, HB.out⟩
    · have tj : decide ((j : Int) < (l.length : Int)) = false := decide_eq_false (by omega)
      have tjN : decide (j < l.length) = false := decide_eq_false (by omega)
      have hAe : A = l.take j := by rw [HA.out]; exact takeWhile_at _ l j hj HAL.out (fun p hp => by have := (List.getElem?_eq_some_iff.1 hp).1; omega)
      have hAl : A.length ≤ j := by rw [hAe]; simp; omega
      rw [← hAe] at HO
      clear HAL hAe
      go_wp2_with (at_builtin; refine wpList_append_own _ rfl (.tmp 32) (.tmp 36) 35 rfl w.heap.size 102 i0 (.agg #[.int .i64 0, .int .i64 0]) 2 16 Tryz.underlying35 hi hz0 hz1 hz2 rfl (by decide) _ _ _ rfl (HO.out.alloc _) ⟨_, 0, none⟩ 1 1 [.int .i64 k, .int .i64 x] rfl rfl ?be1 ?be2 ?be3 ?be4 ?be5 ?_)
      try (case be1 => exact cell_two_new _ _ _ _)
      case be2 => first | exact ⟨rfl, rfl⟩ | (intro u hu; simp at hu; rcases hu with rfl | rfl <;> rfl)
      case be3 => unfold maxLen; omega
      case be4 => omega
      case be5 => first | omega | (simp; omega)
      intro v' w7 hown' hgrow _
      have HR : Hid (W2Rel w l A k x v' (.int .i64 (0 : Int)) w7) := by
        refine ⟨0, Nat.zero_le _, rfl, ?_, grow_below HB.out (by omega) HO.out hgrow⟩
        rw [List.take_zero, List.filter_nil, List.append_nil]
        exact CRow.snoc hown'
      clear hown' hgrow HO HB
      go_wp2
      go_loopw [7, 9] (fun v i wr => W2Rel w l A k x v i wr) (fun _ i _ => l.length - (intOf i).toNat)
      case atStart => exact HR.out
      case round =>
        obtain ⟨i, hi2, rfl, hown, hbel⟩ := hrel
        obtain ⟨m, hm⟩ : ∃ m, m = A ++ [(k, x)] ++ (l.take i).filter (fun p => decide (k < p.1)) := ⟨_, rfl⟩
        rw [← hm] at hown
        have hln2 : m.length ≤ A.length + 1 + i := by
          rw [hm]
          have := List.length_filter_le (fun p : Int × Int => decide (k < p.1)) (l.take i)
          simp only [List.length_append, List.length_cons, List.length_nil, List.length_take] at this ⊢
          omega
        have HM := hide hm
        have HO := hide hown
        have HB := hide hbel
        have hwz2 := hbel.size
        clear hown hbel HR hm
        by_cases hlj : i < l.length
        · obtain ⟨g2, cur2, hg2, -, -, hcs⟩ := HC.out (by omega)
          try (cases hg2)
          try (subst hg2)
          obtain ⟨p, hp⟩ : ∃ p, l[i]? = some p := ⟨l[i], by simp [hlj]⟩
          obtain ⟨c1, c2⟩ := hcs i p hp
          have d1 := at_old HB.out c1
          have d2 := at_old HB.out c2
          have HK := hide (filter_take (fun p : Int × Int => decide (k < p.1)) l i p hp)
          clear hcs c1 c2 hp
          obtain ⟨p1, p2⟩ := p
          by_cases hkp : k < p1
          · have t1 : decide (k < p1) = true := decide_eq_true hkp
            have HR : Hid (A ++ [(k, x)] ++ (l.take (i + 1)).filter (fun p => decide (k < p.1)) = m ++ [(p1, p2)]) := by
              show _ = _
              rw [HK.out, if_pos (by simpa using hkp), ← List.append_assoc, ← HM.out]
            go_wp2_with (at_builtin; refine wpList_append_own _ rfl (.tmp 51) (.tmp 56) 35 rfl w.heap.size 102 i0 (.agg #[.int .i64 0, .int .i64 0]) 2 16 Tryz.underlying35 hi hz0 hz1 hz2 rfl (by decide) _ _ _ rfl (HO.out.alloc _) ⟨_, 0, none⟩ 1 1 [.int .i64 p1, .int .i64 p2] rfl rfl ?bg1 ?bg2 ?bg3 ?bg4 ?bg5 ?_)
            try (case bg1 => exact cell_two_new _ _ _ _)
            case bg2 => first | exact ⟨rfl, rfl⟩ | (intro u hu; simp at hu; rcases hu with rfl | rfl <;> rfl)
            case bg3 => unfold maxLen; omega
            case bg4 => omega
            case bg5 => first | omega | (simp; omega)
            intro v' w8 hown' hgrow _
            have HRR : Hid (W2Rel w l A k x v' (.int .i64 ((i : Int) + 1)) w8) := by
              refine ⟨i + 1, by omega, by go_num, ?_, grow_below HB.out (by omega) HO.out hgrow⟩
              rw [HR.out]
              exact CRow.snoc hown'
            clear hown' hgrow
            go_wp2
            go_roundw
            case rel => exact HRR.out
            case measure => simp [intOf]; omega
          · have t1 : decide (k < p1) = false := decide_eq_false hkp
            have HR : Hid (A ++ [(k, x)] ++ (l.take (i + 1)).filter (fun p => decide (k < p.1)) = m) := by
              show _ = _
              rw [HK.out, if_neg (by simpa using hkp), List.append_nil, ← HM.out]
            go_wp2
            go_roundw
            case rel => exact ⟨i + 1, by omega, by go_num, by rw [HR.out]; exact HO.out, HB.out⟩
            case measure => simp [intOf]; omega
        · go_wp2
          go_ret
          have e := HO.out
          rw [HM.out, List.take_of_length_le (by omega)] at e
          exact ⟨_, rfl, e, HB.out⟩
end Go.Proofs.YtellilpeakpbfaaGreatDoor
