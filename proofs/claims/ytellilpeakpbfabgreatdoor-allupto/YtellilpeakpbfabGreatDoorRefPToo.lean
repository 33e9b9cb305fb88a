import Derived.Test.YtellilpeakpbfabGreatDoorRefCToo
section
/-
  The walk of the document's With.
-/
namespace Go.Proofs.YtellilpeakpbfabGreatDoor
open Go.RowKit

def withL (l : List (Int × Int)) (k x : Int) : List (Int × Int) := l.takeWhile (fun p => decide (p.1 < k)) ++ [(k, x)] ++ l.filter (fun p => decide (k < p.1))
theorem takeWhile_at {α : Type} (f : α → Bool) (l : List α) : ∀ j, j ≤ l.length → (∀ p ∈ l.take j, f p = true) → (∀ p, l[j]? = some p → f p = false) → l.takeWhile f = l.take j := by
  induction l with
  | nil => intro j _ _ _; simp
  | cons a r ih =>
    intro j hj h1 h2
    cases j with
    | zero => simp [h2 a rfl]
    | succ j =>
      rw [List.takeWhile_cons, if_pos (h1 a (by simp)), List.take_succ_cons, ih j (by simpa using hj) (fun p hp => h1 p (by simp [hp])) (fun p hp => h2 p (by simpa using hp))]
def W1Rel (w : World) (l : List (Int × Int)) (k : Int) (v i : Value) (wr : World) : Prop :=
  ∃ j : Nat, j ≤ l.length ∧ i = .int .i64 j ∧ CRow wr w.heap.size v (l.take j) ∧ Below w.heap.size w wr ∧ (∀ p ∈ l.take j, decide (p.1 < k) = true)
def W2Rel (w : World) (l A : List (Int × Int)) (k x : Int) (v i : Value) (wr : World) : Prop :=
  ∃ j : Nat, j ≤ l.length ∧ i = .int .i64 j ∧ CRow wr w.heap.size v (A ++ [(k, x)] ++ (l.take j).filter (fun p => decide (k < p.1))) ∧ Below w.heap.size w wr

set_option maxHeartbeats 4000000 in
set_option maxRecDepth 100000 in
theorem with_any (b : Nat) (v : Value) (l : List (Int × Int)) (k x : Int) (w : World) (h : CRow w b v l) (hl : l.length ≤ 1000) :
    Calls Tryz.prog 146 #[v, .int .i64 k, .int .i64 x] w fun e w' => ∃ v', e = .returned v' ∧ CRow w' w.heap.size v' (withL l k x) ∧ Below w.heap.size w w' := by
  obtain ⟨ao, cap, rfl, hcs⟩ := h.shape
  have HC := hide hcs
  clear h hcs
  obtain ⟨i0, hi, hz0, hz1, hz2⟩ := info_parts Tryz.infoCell
  unfold withL
  obtain ⟨A, hA⟩ : ∃ A, A = l.takeWhile (fun p => decide (p.1 < k)) := ⟨_, rfl⟩
  rw [← hA]
  have HA := hide hA
  clear hA
  go_enter Tryz.func146, Tryz.ntmps146
  go_wp2
  go_loopw [7, 8] (fun v i wr => W1Rel w l k v i wr) (fun _ i _ => l.length - (intOf i).toNat)
  case atStart => exact ⟨0, Nat.zero_le _, rfl, World.ownsRow_nil _ _ _ _, Below.refl _ _, by simp⟩
  case round =>
    obtain ⟨j, hj, rfl, hown, hbel, hall⟩ := hrel
    have HAL := hide hall
    have HO := hide hown
    have HB := hide hbel
    have hwz := hbel.size
    clear hown hbel hall
    by_cases hlt : j < l.length
    · have tj : decide ((j : Int) < (l.length : Int)) = true := decide_eq_true (by omega)
      obtain ⟨g, cur, rfl, -, -, hcs⟩ := HC.out (by omega)
      obtain ⟨p, hp⟩ : ∃ p, l[j]? = some p := ⟨l[j], by simp [hlt]⟩
      obtain ⟨c1, c2⟩ := hcs j p hp
      have d1 := at_old HB.out c1
      have d2 := at_old HB.out c2
      have HP := hide hp
      clear hcs c1 c2 hp
      obtain ⟨p1, p2⟩ := p
      by_cases hkp : p1 < k
      · have t1 : decide (p1 < k) = true := decide_eq_true hkp
        have HK : Hid (l.take (j + 1) = l.take j ++ [(p1, p2)]) := by
          show _ = _
          rw [List.take_succ_eq_append_getElem hlt]; congr 2; exact (List.getElem?_eq_some_iff.1 HP.out).2
        have hln : (l.take j).length = j := by simp; omega
        go_wp2_with (at_builtin; refine wpList_append_own _ rfl (.tmp 25) (.tmp 30) 52 rfl w.heap.size 99 i0 (.agg #[.int .i64 0, .int .i64 0]) 2 16 Tryz.underlying52 hi hz0 hz1 hz2 rfl (by decide) _ _ _ rfl (HO.out.alloc _) ⟨_, 0, none⟩ 1 1 [.int .i64 p1, .int .i64 p2] rfl rfl ?c1 ?c2 ?c3 ?c4 ?c5 ?_)
        try (case c1 => exact cell_two_new _ _ _ _)
        case c2 => first | exact ⟨rfl, rfl⟩ | (intro u hu; simp at hu; rcases hu with rfl | rfl <;> rfl)
        case c3 => unfold maxLen; omega
        case c4 => omega
        case c5 => first | omega | (simp; omega)
        intro v' w7 hown' hgrow _
        have HRR : Hid (W1Rel w l k v' (.int .i64 ((j : Int) + 1)) w7) := by
          refine ⟨j + 1, by omega, by go_num, ?_, grow_below HB.out (by omega) HO.out hgrow, ?_⟩
          · rw [HK.out]
            refine CRow.snoc ?_
            rw [← List.map_take] at hown'
            rw [hln]
            exact hown'
          · rw [HK.out]
            intro p hp
            rcases List.mem_append.1 hp with h | h
            · exact HAL.out p h
            · simp at h; rw [h]; exact t1
        clear hown' hgrow
        go_wp2
        go_roundw
        case rel => exact HRR.out
        case measure => simp [intOf]; omega
      · have t1 : decide (p1 < k) = false := decide_eq_false hkp
        have hAe : A = l.take j := by rw [HA.out]; exact takeWhile_at _ l j hj HAL.out (fun p hp => by rw [HP.out] at hp; cases hp; exact t1)
        have hAl : A.length ≤ j := by rw [hAe]; simp; omega
        rw [← hAe] at HO
        clear HP HAL hAe
        go_wp2_with (at_builtin; refine wpList_append_own _ rfl (.tmp 32) (.tmp 36) 52 rfl w.heap.size 99 i0 (.agg #[.int .i64 0, .int .i64 0]) 2 16 Tryz.underlying52 hi hz0 hz1 hz2 rfl (by decide) _ _ _ rfl (HO.out.alloc _) ⟨_, 0, none⟩ 1 1 [.int .i64 k, .int .i64 x] rfl rfl ?ae1 ?ae2 ?ae3 ?ae4 ?ae5 ?_)
        try (case ae1 => exact cell_two_new _ _ _ _)
        case ae2 => first | exact ⟨rfl, rfl⟩ | (intro u hu; simp at hu; rcases hu with rfl | rfl <;> rfl)
        case ae3 => unfold maxLen; omega
        case ae4 => omega
        case ae5 => first | omega | (simp; omega)
        intro v' w7 hown' hgrow _
        have HR : Hid (W2Rel w l A k x v' (.int .i64 (0 : Int)) w7) := by
          refine ⟨0, Nat.zero_le _, rfl, ?_, grow_below HB.out (by omega) HO.out hgrow⟩
          rw [List.take_zero, List.filter_nil, List.append_nil]
          exact CRow.snoc hown'
        clear hown' hgrow HO HB
        go_wp2
        go_loopw [7, 9] (fun v i wr => W2Rel w l A k x v i wr) (fun _ i _ => l.length - (intOf i).toNat)
        case atStart => exact HR.out
        case round =>
          obtain ⟨i, hi2, rfl, hown, hbel⟩ := hrel
          obtain ⟨m, hm⟩ : ∃ m, m = A ++ [(k, x)] ++ (l.take i).filter (fun p => decide (k < p.1)) := ⟨_, rfl⟩
          rw [← hm] at hown
          have hln2 : m.length ≤ A.length + 1 + i := by
            rw [hm]
            have := List.length_filter_le (fun p : Int × Int => decide (k < p.1)) (l.take i)
            simp only [List.length_append, List.length_cons, List.length_nil, List.length_take] at this ⊢
            omega
          have HM := hide hm
          have HO := hide hown
          have HB := hide hbel
          have hwz2 := hbel.size
          clear hown hbel HR hm
          by_cases hlj : i < l.length
          · obtain ⟨g2, cur2, hg2, -, -, hcs⟩ := HC.out (by omega)
            try (cases hg2)
            try (subst hg2)
            obtain ⟨p, hp⟩ : ∃ p, l[i]? = some p := ⟨l[i], by simp [hlj]⟩
            obtain ⟨c1, c2⟩ := hcs i p hp
            have d1 := at_old HB.out c1
            have d2 := at_old HB.out c2
            have HK := hide (filter_take (fun p : Int × Int => decide (k < p.1)) l i p hp)
            clear hcs c1 c2 hp
            obtain ⟨p1, p2⟩ := p
            by_cases hkp : k < p1
            · have t1 : decide (k < p1) = true := decide_eq_true hkp
              have HR : Hid (A ++ [(k, x)] ++ (l.take (i + 1)).filter (fun p => decide (k < p.1)) = m ++ [(p1, p2)]) := by
                show _ = _
                rw [HK.out, if_pos (by simpa using hkp), ← List.append_assoc, ← HM.out]
              go_wp2_with (at_builtin; refine wpList_append_own _ rfl (.tmp 51) (.tmp 56) 52 rfl w.heap.size 99 i0 (.agg #[.int .i64 0, .int .i64 0]) 2 16 Tryz.underlying52 hi hz0 hz1 hz2 rfl (by decide) _ _ _ rfl (HO.out.alloc _) ⟨_, 0, none⟩ 1 1 [.int .i64 p1, .int .i64 p2] rfl rfl ?ag1 ?ag2 ?ag3 ?ag4 ?ag5 ?_)
              try (case ag1 => exact cell_two_new _ _ _ _)
              case ag2 => first | exact ⟨rfl, rfl⟩ | (intro u hu; simp at hu; rcases hu with rfl | rfl <;> rfl)
              case ag3 => unfold maxLen; omega
              case ag4 => omega
              case ag5 => first | omega | (simp; omega)
              intro v' w8 hown' hgrow _
              have HRR : Hid (W2Rel w l A k x v' (.int .i64 ((i : Int) + 1)) w8) := by
                refine ⟨i + 1, by omega, by go_num, ?_, grow_below HB.out (by omega) HO.out hgrow⟩
                rw [HR.out]
                exact CRow.snoc hown'
              clear hown' hgrow
              go_wp2
              go_roundw
              case rel => exact HRR.out
              case measure => simp [intOf]; omega
            · have t1 : decide (k < p1) = false := decide_eq_false hkp
              have HR : Hid (A ++ [(k, x)] ++ (l.take (i + 1)).filter (fun p => decide (k < p.1)) = m) := by
                show _ = _
                rw [HK.out, if_neg (by simpa using hkp), List.append_nil, ← HM.out]
              go_wp2
              go_roundw
              case rel => exact ⟨i + 1, by omega, by go_num, by rw [HR.out]; exact HO.out, HB.out⟩
              case measure => simp [intOf]; omega
          · go_wp2
            go_ret
            have e := HO.out
            rw [HM.out, List.take_of_length_le (by omega)] at e
            exact ⟨_, rfl, e, HB.out⟩
    · have tj : decide ((j : Int) < (l.length : Int)) = false := decide_eq_false (by omega)
      have tjN : decide (j < l.length) = false := decide_eq_false (by omega)
      have hAe : A = l.take j := by rw [HA.out]; exact takeWhile_at _ l j hj HAL.out (fun p hp => by have := (List.getElem?_eq_some_iff.1 hp).1; omega)
      have hAl : A.length ≤ j := by rw [hAe]; simp; omega
      rw [← hAe] at HO
      clear HAL hAe
      go_wp2_with (at_builtin; refine wpList_append_own _ rfl (.tmp 32) (.tmp 36) 52 rfl w.heap.size 99 i0 (.agg #[.int .i64 0, .int .i64 0]) 2 16 Tryz.underlying52 hi hz0 hz1 hz2 rfl (by decide) _ _ _ rfl (HO.out.alloc _) ⟨_, 0, none⟩ 1 1 [.int .i64 k, .int .i64 x] rfl rfl ?be1 ?be2 ?be3 ?be4 ?be5 ?_)
      try (case be1 => exact cell_two_new _ _ _ _)
      case be2 => first | exact ⟨rfl, rfl⟩ | (intro u hu; simp at hu; rcases hu with rfl | rfl <;> rfl)
      case be3 => unfold maxLen; omega
      case be4 => omega
      case be5 => first | omega | (simp; omega)
      intro v' w7 hown' hgrow _
      have HR : Hid (W2Rel w l A k x v' (.int .i64 (0 : Int)) w7) := by
        refine ⟨0, Nat.zero_le _, rfl, ?_, grow_below HB.out (by omega) HO.out hgrow⟩
        rw [List.take_zero, List.filter_nil, List.append_nil]
        exact CRow.snoc hown'
      clear hown' hgrow HO HB
      go_wp2
      go_loopw [7, 9] (fun v i wr => W2Rel w l A k x v i wr) (fun _ i _ => l.length - (intOf i).toNat)
      case atStart => exact HR.out
      case round =>
        obtain ⟨i, hi2, rfl, hown, hbel⟩ := hrel
        obtain ⟨m, hm⟩ : ∃ m, m = A ++ [(k, x)] ++ (l.take i).filter (fun p => decide (k < p.1)) := ⟨_, rfl⟩
        rw [← hm] at hown
        have hln2 : m.length ≤ A.length + 1 + i := by
          rw [hm]
          have := List.length_filter_le (fun p : Int × Int => decide (k < p.1)) (l.take i)
          simp only [List.length_append, List.length_cons, List.length_nil, List.length_take] at this ⊢
          omega
        have HM := hide hm
        have HO := hide hown
        have HB := hide hbel
        have hwz2 := hbel.size
        clear hown hbel HR hm
        by_cases hlj : i < l.length
        · obtain ⟨g2, cur2, hg2, -, -, hcs⟩ := HC.out (by omega)
          try (cases hg2)
          try (subst hg2)
          obtain ⟨p, hp⟩ : ∃ p, l[i]? = some p := ⟨l[i], by simp [hlj]⟩
          obtain ⟨c1, c2⟩ := hcs i p hp
          have d1 := at_old HB.out c1
          have d2 := at_old HB.out c2
          have HK := hide (filter_take (fun p : Int × Int => decide (k < p.1)) l i p hp)
          clear hcs c1 c2 hp
          obtain ⟨p1, p2⟩ := p
          by_cases hkp : k < p1
          · have t1 : decide (k < p1) = true := decide_eq_true hkp
            have HR : Hid (A ++ [(k, x)] ++ (l.take (i + 1)).filter (fun p => decide (k < p.1)) = m ++ [(p1, p2)]) := by
              show _ = _
              rw [HK.out, if_pos (by simpa using hkp), ← List.append_assoc, ← HM.out]
            go_wp2_with (at_builtin; refine wpList_append_own _ rfl (.tmp 51) (.tmp 56) 52 rfl w.heap.size 99 i0 (.agg #[.int .i64 0, .int .i64 0]) 2 16 Tryz.underlying52 hi hz0 hz1 hz2 rfl (by decide) _ _ _ rfl (HO.out.alloc _) ⟨_, 0, none⟩ 1 1 [.int .i64 p1, .int .i64 p2] rfl rfl ?bg1 ?bg2 ?bg3 ?bg4 ?bg5 ?_)
            try (case bg1 => exact cell_two_new _ _ _ _)
            case bg2 => first | exact ⟨rfl, rfl⟩ | (intro u hu; simp at hu; rcases hu with rfl | rfl <;> rfl)
            case bg3 => unfold maxLen; omega
            case bg4 => omega
            case bg5 => first | omega | (simp; omega)
            intro v' w8 hown' hgrow _
            have HRR : Hid (W2Rel w l A k x v' (.int .i64 ((i : Int) + 1)) w8) := by
              refine ⟨i + 1, by omega, by go_num, ?_, grow_below HB.out (by omega) HO.out hgrow⟩
              rw [HR.out]
              exact CRow.snoc hown'
            clear hown' hgrow
            go_wp2
            go_roundw
            case rel => exact HRR.out
            case measure => simp [intOf]; omega
          · have t1 : decide (k < p1) = false := decide_eq_false hkp
            have HR : Hid (A ++ [(k, x)] ++ (l.take (i + 1)).filter (fun p => decide (k < p.1)) = m) := by
              show _ = _
              rw [HK.out, if_neg (by simpa using hkp), List.append_nil, ← HM.out]
            go_wp2
            go_roundw
            case rel => exact ⟨i + 1, by omega, by go_num, by rw [HR.out]; exact HO.out, HB.out⟩
            case measure => simp [intOf]; omega
        · go_wp2
          go_ret
          have e := HO.out
          rw [HM.out, List.take_of_length_le (by omega)] at e
          exact ⟨_, rfl, e, HB.out⟩
end Go.Proofs.YtellilpeakpbfabGreatDoor

end

section
/-
  The walks of the document's Put and Del.
-/
namespace Go.Proofs.YtellilpeakpbfabGreatDoor
open Go.RowKit

/-- what the document's Put and Del answer: the list of cells behind, the error. -/
def RefPost (sp : Value) (l : List (Int × Int)) (er : Int) (w : World) (e : Ending) (w' : World) : Prop :=
  ∃ sc', e = .returned (.tuple #[.agg #[sc', sp], .int .i64 er]) ∧ CRow w' 0 sc' l ∧ Below w.heap.size w w'

theorem blk1 (w : World) (o1 o2 : Obj) : ((w.alloc o1).alloc o2).heap[w.heap.size]? = some o1 := by
  rw [Below.heap_alloc _ _ _ (by simp)]; exact heap_alloc_new w o1
theorem blk2 (w : World) (o1 o2 : Obj) : ((w.alloc o1).alloc o2).heap[w.heap.size + 1]? = some o2 := by
  have := heap_alloc_new (w.alloc o1) o2
  rw [World.size_alloc] at this
  exact this
theorem crow_slice {w : World} {b : Nat} {v : Value} {l : List (Int × Int)} (h : CRow w b v l) : ∃ ao cap, v = .slice ao l.length cap := by
  obtain ⟨ao, cap, hv, -⟩ := h.shape
  exact ⟨ao, cap, hv⟩
theorem CRow.below {w w' : World} {b : Nat} {v : Value} {l : List (Int × Int)} (h : CRow w b v l) (hb : Below w.heap.size w w') : CRow w' b v l := ownsRow_below h hb
theorem PRow.below {w w' : World} {b : Nat} {v : Value} {l : List (List UInt8 × List UInt8)} (h : PRow w b v l) (hb : Below w.heap.size w w') : PRow w' b v l := ownsRow_below h hb

set_option maxHeartbeats 1000000 in
set_option maxRecDepth 100000 in
theorem refPut_key (sc sp : Value) (k x : Int) (w : World) (so po : Option Addr) (sn sk pn pk : Nat) (hsc : sc = .slice so sn sk) (hsp : sp = .slice po pn pk) (hk : Jn.isKey k = false) :
    Calls Tryz.prog 112 #[.agg #[sc, sp], .int .i64 k, .int .i64 x] w fun e w' => e = .returned (.tuple #[.agg #[sc, sp], .int .i64 5]) ∧ Below w.heap.size w w' := by
  subst hsc hsp
  have hk' : k < 0 ∨ 99 < k := by unfold Jn.isKey at hk; simp at hk; omega
  clear hk
  rcases hk' with h | h
  · have t1 : decide (k < 0) = true := decide_eq_true h
    go_enter Tryz.func112, Tryz.ntmps112
    go_wp2
    exact bodyPost_ret (v := .tuple #[.agg #[.slice so sn sk, .slice po pn pk], .int .i64 5]) (by simp [results, Tryz.results112, go_sem]) rfl ⟨rfl, ((Below.refl _ _).alloc (Nat.le_refl _) _).alloc (by simp) _⟩
  · have t1 : decide (k < 0) = false := decide_eq_false (by omega)
    have t2 : decide (99 < k) = true := decide_eq_true h
    go_enter Tryz.func112, Tryz.ntmps112
    go_wp2
    exact bodyPost_ret (v := .tuple #[.agg #[.slice so sn sk, .slice po pn pk], .int .i64 5]) (by simp [results, Tryz.results112, go_sem]) rfl ⟨rfl, ((Below.refl _ _).alloc (Nat.le_refl _) _).alloc (by simp) _⟩

set_option maxHeartbeats 1000000 in
set_option maxRecDepth 100000 in
theorem refPut_val (sc sp : Value) (k x : Int) (w : World) (so po : Option Addr) (sn sk pn pk : Nat) (hsc : sc = .slice so sn sk) (hsp : sp = .slice po pn pk) (hk : Jn.isKey k = true) (hx : Jn.isVal x = false) (x0 : -9223372036854775808 ≤ x) (x1 : x ≤ 9223372036854775807) :
    Calls Tryz.prog 112 #[.agg #[sc, sp], .int .i64 k, .int .i64 x] w fun e w' => e = .returned (.tuple #[.agg #[sc, sp], .int .i64 6]) ∧ Below w.heap.size w w' := by
  subst hsc hsp
  have hk' : 0 ≤ k ∧ k ≤ 99 := by unfold Jn.isKey at hk; simpa using hk
  have t1 : decide (k < 0) = false := decide_eq_false (by omega)
  have t2 : decide (99 < k) = false := decide_eq_false (by omega)
  have hw := fun w => within_any x w x0 x1
  rw [hx] at hw
  have HW := hide hw
  clear hk hx hw hk'
  go_enter Tryz.func112, Tryz.ntmps112
  go_wp2_with fail
  refine (HW.out _).mono ?_
  rintro e w1 ⟨rfl, rfl⟩
  go_wp2
  exact bodyPost_ret (v := .tuple #[.agg #[.slice so sn sk, .slice po pn pk], .int .i64 6]) (by simp [results, Tryz.results112, go_sem]) rfl ⟨rfl, ((Below.refl _ _).alloc (Nat.le_refl _) _).alloc (by simp) _⟩

set_option maxHeartbeats 2000000 in
set_option maxRecDepth 100000 in
theorem refPut_ok (b : Nat) (sc sp : Value) (l : List (Int × Int)) (k x : Int) (w : World) (po : Option Addr) (pn pk : Nat) (h : CRow w b sc l) (hl : l.length ≤ 1000) (hsp : sp = .slice po pn pk) (hk : Jn.isKey k = true) (hx : Jn.isVal x = true) :
    Calls Tryz.prog 112 #[.agg #[sc, sp], .int .i64 k, .int .i64 x] w (RefPost sp (withL l k x) 0 w) := by
  obtain ⟨so, sk, rfl⟩ := crow_slice h
  subst hsp
  have hk' : 0 ≤ k ∧ k ≤ 99 := by unfold Jn.isKey at hk; simpa using hk
  have hx' : -1000000000 ≤ x ∧ x ≤ 1000000000 := by unfold Jn.isVal at hx; simpa using hx
  have t1 : decide (k < 0) = false := decide_eq_false (by omega)
  have t2 : decide (99 < k) = false := decide_eq_false (by omega)
  have hw := fun w => within_any x w (by omega) (by omega)
  rw [hx] at hw
  have HW := hide hw
  have HR := hide h
  have HWI := hide (fun v w h => with_any b v l k x w h hl)
  clear hk hx hw hk' hx' h
  go_enter Tryz.func112, Tryz.ntmps112
  go_wp2_with fail
  refine (HW.out _).mono ?_
  rintro e w1 ⟨rfl, rfl⟩
  have hb0 : ∀ o1 o2 : Obj, Below w.heap.size w ((w.alloc o1).alloc o2) := fun o1 o2 => ((Below.refl _ _).alloc (Nat.le_refl _) o1).alloc (by simp) o2
  have HB0 := hide hb0
  clear hb0
  go_wp2_with fail
  refine (HWI.out _ _ (HR.out.below (HB0.out _ _))).mono ?_
  rintro e w2 ⟨v', rfl, hrow, hb2⟩
  obtain ⟨so', sk', rfl⟩ := crow_slice hrow
  have hz2 := hb2.size
  simp only [World.size_alloc] at hz2
  have g1 := (hb2.block w.heap.size (by simp only [World.size_alloc]; omega)).trans (blk1 w _ _)
  have g2 := (hb2.block (w.heap.size + 1) (by simp only [World.size_alloc]; omega)).trans (blk2 w _ _)
  have q0 : w2.cell? ⟨w.heap.size, 0, none⟩ = some (.slice so l.length sk) := (cell_of_row w2 w.heap.size 0 _ _ _ g1).trans rfl
  have q1 : w2.cell? ⟨w.heap.size, 1, none⟩ = some (.slice po pn pk) := (cell_of_row w2 w.heap.size 1 _ _ _ g1).trans rfl
  have r0 : w2.cell? ⟨w.heap.size + 1, 0, none⟩ = some (.slice none 0 0) := (cell_of_row w2 (w.heap.size + 1) 0 _ _ _ g2).trans rfl
  have r1 : w2.cell? ⟨w.heap.size + 1, 1, none⟩ = some (.slice none 0 0) := (cell_of_row w2 (w.heap.size + 1) 1 _ _ _ g2).trans rfl
  have f0 : w2.frozen? ⟨w.heap.size + 1, 0, none⟩ = false := frozen_of_row w2 (w.heap.size + 1) 0 _ _ g2
  have f1 : w2.frozen? ⟨w.heap.size + 1, 1, none⟩ = false := frozen_of_row w2 (w.heap.size + 1) 1 _ _ g2
  clear g1 g2
  have HB2 : Hid (Below w.heap.size w w2) := by
    have := hb2.mono (B' := w.heap.size) (by simp; omega)
    exact (HB0.out _ _).trans this
  have HRW : Hid (CRow w2 (w.heap.size + 2) (.slice so' (withL l k x).length sk') (withL l k x)) := hrow.base (by simp only [World.size_alloc]; omega)
  clear hrow hb2
  go_wp2
  have s0 := World.cell?_setCell_same w2 ⟨w.heap.size + 1, 0, none⟩ (.slice so' (withL l k x).length sk') r0
  have s1 := World.cell?_setCell_same (w2.setCell ⟨w.heap.size + 1, 0, none⟩ (.slice so' (withL l k x).length sk')) ⟨w.heap.size + 1, 1, none⟩ (.slice po pn pk) ((World.cell?_setCell_other _ _ _ _ (by simp)).trans r1)
  refine bodyPost_ret (v := .tuple #[.agg #[.slice so' (withL l k x).length sk', .slice po pn pk], .int .i64 0]) (by simp [results, Tryz.results112, go_sem, s0, s1]) rfl ⟨_, rfl, ?_, ?_⟩
  · have h1 := ownsRow_setCell_below HRW.out (a := ⟨w.heap.size + 1, 0, none⟩) (by show w.heap.size + 1 < w.heap.size + 2; omega) (.slice so' (withL l k x).length sk')
    have h2 := ownsRow_setCell_below h1 (a := ⟨w.heap.size + 1, 1, none⟩) (by show w.heap.size + 1 < w.heap.size + 2; omega) (.slice po pn pk)
    exact ownsRow_base h2 (Nat.zero_le _)
  · exact (HB2.out.setCell (p := ⟨w.heap.size + 1, 0, none⟩) (by show w.heap.size ≤ w.heap.size + 1; omega) _).setCell (p := ⟨w.heap.size + 1, 1, none⟩) (by show w.heap.size ≤ w.heap.size + 1; omega) _

set_option maxHeartbeats 1000000 in
set_option maxRecDepth 100000 in
theorem refDel_key (sc sp : Value) (k : Int) (w : World) (so po : Option Addr) (sn sk pn pk : Nat) (hsc : sc = .slice so sn sk) (hsp : sp = .slice po pn pk) (hk : Jn.isKey k = false) :
    Calls Tryz.prog 115 #[.agg #[sc, sp], .int .i64 k] w fun e w' => e = .returned (.tuple #[.agg #[sc, sp], .int .i64 5]) ∧ Below w.heap.size w w' := by
  subst hsc hsp
  have hk' : k < 0 ∨ 99 < k := by unfold Jn.isKey at hk; simp at hk; omega
  clear hk
  rcases hk' with h | h
  · have t1 : decide (k < 0) = true := decide_eq_true h
    go_enter Tryz.func115, Tryz.ntmps115
    go_wp2
    exact bodyPost_ret (v := .tuple #[.agg #[.slice so sn sk, .slice po pn pk], .int .i64 5]) (by simp [results, Tryz.results115, go_sem]) rfl ⟨rfl, ((Below.refl _ _).alloc (Nat.le_refl _) _).alloc (by simp) _⟩
  · have t1 : decide (k < 0) = false := decide_eq_false (by omega)
    have t2 : decide (99 < k) = true := decide_eq_true h
    go_enter Tryz.func115, Tryz.ntmps115
    go_wp2
    exact bodyPost_ret (v := .tuple #[.agg #[.slice so sn sk, .slice po pn pk], .int .i64 5]) (by simp [results, Tryz.results115, go_sem]) rfl ⟨rfl, ((Below.refl _ _).alloc (Nat.le_refl _) _).alloc (by simp) _⟩

set_option maxHeartbeats 2000000 in
set_option maxRecDepth 100000 in
theorem refDel_ok (b : Nat) (sc sp : Value) (l : List (Int × Int)) (k : Int) (w : World) (po : Option Addr) (pn pk : Nat) (h : CRow w b sc l) (hl : l.length ≤ 1000) (hsp : sp = .slice po pn pk) (hk : Jn.isKey k = true) :
    Calls Tryz.prog 115 #[.agg #[sc, sp], .int .i64 k] w (RefPost sp (withoutL l k) 0 w) := by
  obtain ⟨so, sk, rfl⟩ := crow_slice h
  subst hsp
  have hk' : 0 ≤ k ∧ k ≤ 99 := by unfold Jn.isKey at hk; simpa using hk
  have t1 : decide (k < 0) = false := decide_eq_false (by omega)
  have t2 : decide (99 < k) = false := decide_eq_false (by omega)
  have HR := hide h
  have HWI := hide (fun v w h => without_any b v l k w h hl)
  clear hk hk' h
  have hb0 : ∀ o1 o2 : Obj, Below w.heap.size w ((w.alloc o1).alloc o2) := fun o1 o2 => ((Below.refl _ _).alloc (Nat.le_refl _) o1).alloc (by simp) o2
  have HB0 := hide hb0
  clear hb0
  go_enter Tryz.func115, Tryz.ntmps115
  go_wp2_with fail
  refine (HWI.out _ _ (HR.out.below (HB0.out _ _))).mono ?_
  rintro e w2 ⟨v', rfl, hrow, hb2⟩
  obtain ⟨so', sk', rfl⟩ := crow_slice hrow
  have hz2 := hb2.size
  simp only [World.size_alloc] at hz2
  have g1 := (hb2.block w.heap.size (by simp only [World.size_alloc]; omega)).trans (blk1 w _ _)
  have g2 := (hb2.block (w.heap.size + 1) (by simp only [World.size_alloc]; omega)).trans (blk2 w _ _)
  have q0 : w2.cell? ⟨w.heap.size, 0, none⟩ = some (.slice so l.length sk) := (cell_of_row w2 w.heap.size 0 _ _ _ g1).trans rfl
  have q1 : w2.cell? ⟨w.heap.size, 1, none⟩ = some (.slice po pn pk) := (cell_of_row w2 w.heap.size 1 _ _ _ g1).trans rfl
  have r0 : w2.cell? ⟨w.heap.size + 1, 0, none⟩ = some (.slice none 0 0) := (cell_of_row w2 (w.heap.size + 1) 0 _ _ _ g2).trans rfl
  have r1 : w2.cell? ⟨w.heap.size + 1, 1, none⟩ = some (.slice none 0 0) := (cell_of_row w2 (w.heap.size + 1) 1 _ _ _ g2).trans rfl
  have f0 : w2.frozen? ⟨w.heap.size + 1, 0, none⟩ = false := frozen_of_row w2 (w.heap.size + 1) 0 _ _ g2
  have f1 : w2.frozen? ⟨w.heap.size + 1, 1, none⟩ = false := frozen_of_row w2 (w.heap.size + 1) 1 _ _ g2
  clear g1 g2
  have HB2 : Hid (Below w.heap.size w w2) := by
    have := hb2.mono (B' := w.heap.size) (by simp; omega)
    exact (HB0.out _ _).trans this
  have HRW : Hid (CRow w2 (w.heap.size + 2) (.slice so' (withoutL l k).length sk') (withoutL l k)) := hrow.base (by simp only [World.size_alloc]; omega)
  clear hrow hb2
  go_wp2
  have s0 := World.cell?_setCell_same w2 ⟨w.heap.size + 1, 0, none⟩ (.slice so' (withoutL l k).length sk') r0
  have s1 := World.cell?_setCell_same (w2.setCell ⟨w.heap.size + 1, 0, none⟩ (.slice so' (withoutL l k).length sk')) ⟨w.heap.size + 1, 1, none⟩ (.slice po pn pk) ((World.cell?_setCell_other _ _ _ _ (by simp)).trans r1)
  refine bodyPost_ret (v := .tuple #[.agg #[.slice so' (withoutL l k).length sk', .slice po pn pk], .int .i64 0]) (by simp [results, Tryz.results115, go_sem, s0, s1]) rfl ⟨_, rfl, ?_, ?_⟩
  · have h1 := ownsRow_setCell_below HRW.out (a := ⟨w.heap.size + 1, 0, none⟩) (by show w.heap.size + 1 < w.heap.size + 2; omega) (.slice so' (withoutL l k).length sk')
    have h2 := ownsRow_setCell_below h1 (a := ⟨w.heap.size + 1, 1, none⟩) (by show w.heap.size + 1 < w.heap.size + 2; omega) (.slice po pn pk)
    exact ownsRow_base h2 (Nat.zero_le _)
  · exact (HB2.out.setCell (p := ⟨w.heap.size + 1, 0, none⟩) (by show w.heap.size ≤ w.heap.size + 1; omega) _).setCell (p := ⟨w.heap.size + 1, 1, none⟩) (by show w.heap.size ≤ w.heap.size + 1; omega) _
end Go.Proofs.YtellilpeakpbfabGreatDoor

end
