import Derived.Test.YtellilpeakpbfabGreatDoorStkToo
import Derived.Test.YtellilpeakpbfabGreatDoorFolToo
section
/-
  The walks of takeStatement, takeExpression, take.
-/
namespace Go.Proofs.YtellilpeakpbfabGreatDoor
open Go.RowKit

set_option maxHeartbeats 400000 in
set_option maxRecDepth 100000 in
theorem takeStatement_11 (B : Nat) (a : Int) (st : List Int) (w wr : World) (h : Inv B w wr st) (hb : st.length ≤ 100000) :
    Calls Tryz.prog 130 #[.pointer (some ⟨B, 0, none⟩), .int .i64 a, .int .i64 11] wr fun e w' => e = .returned (.bool true) ∧ Inv B w w' (4 :: 5 :: a :: st) := by
  go_enter Tryz.func130, Tryz.ntmps130
  go_wp2_with (go_at_call 91; refine (push_inv B _ _ w _ (by assumption) (by first | omega | (simp; omega))).mono ?_; rintro e w' ⟨rfl, hinv'⟩)
  go_ret
  exact ⟨rfl, by assumption⟩
set_option maxHeartbeats 400000 in
set_option maxRecDepth 100000 in
theorem takeStatement_12 (B : Nat) (a : Int) (st : List Int) (w wr : World) (h : Inv B w wr st) (hb : st.length ≤ 100000) :
    Calls Tryz.prog 130 #[.pointer (some ⟨B, 0, none⟩), .int .i64 a, .int .i64 12] wr fun e w' => e = .returned (.bool true) ∧ Inv B w w' (5 :: 5 :: a :: st) := by
  go_enter Tryz.func130, Tryz.ntmps130
  go_wp2_with (go_at_call 91; refine (push_inv B _ _ w _ (by assumption) (by first | omega | (simp; omega))).mono ?_; rintro e w' ⟨rfl, hinv'⟩)
  go_ret
  exact ⟨rfl, by assumption⟩
set_option maxHeartbeats 400000 in
set_option maxRecDepth 100000 in
theorem takeStatement_13 (B : Nat) (a : Int) (st : List Int) (w wr : World) (h : Inv B w wr st) (hb : st.length ≤ 100000) :
    Calls Tryz.prog 130 #[.pointer (some ⟨B, 0, none⟩), .int .i64 a, .int .i64 13] wr fun e w' => e = .returned (.bool true) ∧ Inv B w w' (5 :: a :: st) := by
  go_enter Tryz.func130, Tryz.ntmps130
  go_wp2_with (go_at_call 91; refine (push_inv B _ _ w _ (by assumption) (by first | omega | (simp; omega))).mono ?_; rintro e w' ⟨rfl, hinv'⟩)
  go_ret
  exact ⟨rfl, by assumption⟩
set_option maxHeartbeats 400000 in
set_option maxRecDepth 100000 in
theorem takeStatement_16 (B : Nat) (a : Int) (st : List Int) (w wr : World) (h : Inv B w wr st) (hb : st.length ≤ 100000) :
    Calls Tryz.prog 130 #[.pointer (some ⟨B, 0, none⟩), .int .i64 a, .int .i64 16] wr fun e w' => e = .returned (.bool true) ∧ Inv B w w' (5 :: a :: st) := by
  go_enter Tryz.func130, Tryz.ntmps130
  go_wp2_with (go_at_call 91; refine (push_inv B _ _ w _ (by assumption) (by first | omega | (simp; omega))).mono ?_; rintro e w' ⟨rfl, hinv'⟩)
  go_ret
  exact ⟨rfl, by assumption⟩
set_option maxHeartbeats 400000 in
set_option maxRecDepth 100000 in
theorem takeStatement_14 (B : Nat) (a : Int) (st : List Int) (w wr : World) (h : Inv B w wr st) (hb : st.length ≤ 100000) :
    Calls Tryz.prog 130 #[.pointer (some ⟨B, 0, none⟩), .int .i64 a, .int .i64 14] wr fun e w' => e = .returned (.bool true) ∧ Inv B w w' (5 :: 3 :: 3 :: a :: st) := by
  go_enter Tryz.func130, Tryz.ntmps130
  go_wp2_with (go_at_call 91; refine (push_inv B _ _ w _ (by assumption) (by first | omega | (simp; omega))).mono ?_; rintro e w' ⟨rfl, hinv'⟩)
  go_ret
  exact ⟨rfl, by assumption⟩
set_option maxHeartbeats 400000 in
set_option maxRecDepth 100000 in
theorem takeStatement_15 (B : Nat) (a : Int) (st : List Int) (w wr : World) (h : Inv B w wr st) (hb : st.length ≤ 100000) :
    Calls Tryz.prog 130 #[.pointer (some ⟨B, 0, none⟩), .int .i64 a, .int .i64 15] wr fun e w' => e = .returned (.bool true) ∧ Inv B w w' (5 :: 3 :: a :: st) := by
  go_enter Tryz.func130, Tryz.ntmps130
  go_wp2_with (go_at_call 91; refine (push_inv B _ _ w _ (by assumption) (by first | omega | (simp; omega))).mono ?_; rintro e w' ⟨rfl, hinv'⟩)
  go_ret
  exact ⟨rfl, by assumption⟩
set_option maxHeartbeats 400000 in
set_option maxRecDepth 100000 in
theorem takeStatement_17 (B : Nat) (a : Int) (st : List Int) (w wr : World) (h : Inv B w wr st) (hb : st.length ≤ 100000) :
    Calls Tryz.prog 130 #[.pointer (some ⟨B, 0, none⟩), .int .i64 a, .int .i64 17] wr fun e w' => e = .returned (.bool true) ∧ Inv B w w' (a :: st) := by
  go_enter Tryz.func130, Tryz.ntmps130
  go_wp2_with (go_at_call 91; refine (push_inv B _ _ w _ (by assumption) (by first | omega | (simp; omega))).mono ?_; rintro e w' ⟨rfl, hinv'⟩)
  go_ret
  exact ⟨rfl, by assumption⟩
set_option maxHeartbeats 400000 in
set_option maxRecDepth 100000 in
theorem takeStatement_no (B : Nat) (a k : Int) (st : List Int) (w wr : World) (h : Inv B w wr st) (hb : st.length ≤ 100000) (h11 : (k == 11) = false) (h12 : (k == 12) = false) (h13 : (k == 13) = false) (h16 : (k == 16) = false) (h14 : (k == 14) = false) (h15 : (k == 15) = false) (h17 : (k == 17) = false) :
    Calls Tryz.prog 130 #[.pointer (some ⟨B, 0, none⟩), .int .i64 a, .int .i64 k] wr fun e w' => e = .returned (.bool false) ∧ Inv B w w' (a :: st) := by
  go_enter Tryz.func130, Tryz.ntmps130
  go_wp2_with (go_at_call 91; refine (push_inv B _ _ w _ (by assumption) (by first | omega | (simp; omega))).mono ?_; rintro e w' ⟨rfl, hinv'⟩)
  go_ret
  exact ⟨rfl, by assumption⟩
theorem takeStatement_any (B : Nat) (a k : Int) (st : List Int) (w wr : World) (h : Inv B w wr st) (hb : st.length ≤ 100000) :
    Calls Tryz.prog 130 #[.pointer (some ⟨B, 0, none⟩), .int .i64 a, .int .i64 k] wr fun e w' => e = .returned (.bool (Ck.stmt a st k).1) ∧ Inv B w w' (Ck.stmt a st k).2 := by
  unfold Ck.stmt
  by_cases h11 : k = 11
  · rw [if_pos h11, h11]; exact takeStatement_11 B a st w wr h hb
  rw [if_neg h11]
  by_cases h12 : k = 12
  · rw [if_pos h12, h12]; exact takeStatement_12 B a st w wr h hb
  rw [if_neg h12]
  by_cases h13 : k = 13
  · rw [if_pos h13, h13]; exact takeStatement_13 B a st w wr h hb
  rw [if_neg h13]
  by_cases h16 : k = 16
  · rw [if_pos h16, h16]; exact takeStatement_16 B a st w wr h hb
  rw [if_neg h16]
  by_cases h14 : k = 14
  · rw [if_pos h14, h14]; exact takeStatement_14 B a st w wr h hb
  rw [if_neg h14]
  by_cases h15 : k = 15
  · rw [if_pos h15, h15]; exact takeStatement_15 B a st w wr h hb
  rw [if_neg h15]
  by_cases h17 : k = 17
  · rw [if_pos h17, h17]; exact takeStatement_17 B a st w wr h hb
  rw [if_neg h17]
  exact takeStatement_no B a k st w wr h hb (beq_eq_false_iff_ne.2 h11) (beq_eq_false_iff_ne.2 h12) (beq_eq_false_iff_ne.2 h13) (beq_eq_false_iff_ne.2 h16) (beq_eq_false_iff_ne.2 h14) (beq_eq_false_iff_ne.2 h15) (beq_eq_false_iff_ne.2 h17)

set_option maxHeartbeats 400000 in
set_option maxRecDepth 100000 in
theorem takeExpression_1 (B : Nat) (st : List Int) (w wr : World) (h : Inv B w wr st) (_hb : st.length ≤ 100000) :
    Calls Tryz.prog 131 #[.pointer (some ⟨B, 0, none⟩), .int .i64 1] wr fun e w' => e = .returned (.bool true) ∧ Inv B w w' (st) := by
  go_enter Tryz.func131, Tryz.ntmps131
  go_wp2_with (go_at_call 91; refine (push_inv B _ _ w _ (by assumption) (by first | omega | (simp; omega))).mono ?_; rintro e w' ⟨rfl, hinv'⟩)
  go_ret
  exact ⟨rfl, by assumption⟩
set_option maxHeartbeats 400000 in
set_option maxRecDepth 100000 in
theorem takeExpression_2 (B : Nat) (st : List Int) (w wr : World) (h : Inv B w wr st) (_hb : st.length ≤ 100000) :
    Calls Tryz.prog 131 #[.pointer (some ⟨B, 0, none⟩), .int .i64 2] wr fun e w' => e = .returned (.bool true) ∧ Inv B w w' (st) := by
  go_enter Tryz.func131, Tryz.ntmps131
  go_wp2_with (go_at_call 91; refine (push_inv B _ _ w _ (by assumption) (by first | omega | (simp; omega))).mono ?_; rintro e w' ⟨rfl, hinv'⟩)
  go_ret
  exact ⟨rfl, by assumption⟩
set_option maxHeartbeats 400000 in
set_option maxRecDepth 100000 in
theorem takeExpression_3 (B : Nat) (st : List Int) (w wr : World) (h : Inv B w wr st) (_hb : st.length ≤ 100000) :
    Calls Tryz.prog 131 #[.pointer (some ⟨B, 0, none⟩), .int .i64 3] wr fun e w' => e = .returned (.bool true) ∧ Inv B w w' (st) := by
  go_enter Tryz.func131, Tryz.ntmps131
  go_wp2_with (go_at_call 91; refine (push_inv B _ _ w _ (by assumption) (by first | omega | (simp; omega))).mono ?_; rintro e w' ⟨rfl, hinv'⟩)
  go_ret
  exact ⟨rfl, by assumption⟩
set_option maxHeartbeats 400000 in
set_option maxRecDepth 100000 in
theorem takeExpression_4 (B : Nat) (st : List Int) (w wr : World) (h : Inv B w wr st) (hb : st.length ≤ 100000) :
    Calls Tryz.prog 131 #[.pointer (some ⟨B, 0, none⟩), .int .i64 4] wr fun e w' => e = .returned (.bool true) ∧ Inv B w w' (5 :: 5 :: st) := by
  go_enter Tryz.func131, Tryz.ntmps131
  go_wp2_with (go_at_call 91; refine (push_inv B _ _ w _ (by assumption) (by first | omega | (simp; omega))).mono ?_; rintro e w' ⟨rfl, hinv'⟩)
  go_ret
  exact ⟨rfl, by assumption⟩
set_option maxHeartbeats 400000 in
set_option maxRecDepth 100000 in
theorem takeExpression_5 (B : Nat) (st : List Int) (w wr : World) (h : Inv B w wr st) (hb : st.length ≤ 100000) :
    Calls Tryz.prog 131 #[.pointer (some ⟨B, 0, none⟩), .int .i64 5] wr fun e w' => e = .returned (.bool true) ∧ Inv B w w' (5 :: 5 :: st) := by
  go_enter Tryz.func131, Tryz.ntmps131
  go_wp2_with (go_at_call 91; refine (push_inv B _ _ w _ (by assumption) (by first | omega | (simp; omega))).mono ?_; rintro e w' ⟨rfl, hinv'⟩)
  go_ret
  exact ⟨rfl, by assumption⟩
set_option maxHeartbeats 400000 in
set_option maxRecDepth 100000 in
theorem takeExpression_6 (B : Nat) (st : List Int) (w wr : World) (h : Inv B w wr st) (hb : st.length ≤ 100000) :
    Calls Tryz.prog 131 #[.pointer (some ⟨B, 0, none⟩), .int .i64 6] wr fun e w' => e = .returned (.bool true) ∧ Inv B w w' (5 :: 5 :: st) := by
  go_enter Tryz.func131, Tryz.ntmps131
  go_wp2_with (go_at_call 91; refine (push_inv B _ _ w _ (by assumption) (by first | omega | (simp; omega))).mono ?_; rintro e w' ⟨rfl, hinv'⟩)
  go_ret
  exact ⟨rfl, by assumption⟩
set_option maxHeartbeats 400000 in
set_option maxRecDepth 100000 in
theorem takeExpression_7 (B : Nat) (st : List Int) (w wr : World) (h : Inv B w wr st) (hb : st.length ≤ 100000) :
    Calls Tryz.prog 131 #[.pointer (some ⟨B, 0, none⟩), .int .i64 7] wr fun e w' => e = .returned (.bool true) ∧ Inv B w w' (5 :: 5 :: st) := by
  go_enter Tryz.func131, Tryz.ntmps131
  go_wp2_with (go_at_call 91; refine (push_inv B _ _ w _ (by assumption) (by first | omega | (simp; omega))).mono ?_; rintro e w' ⟨rfl, hinv'⟩)
  go_ret
  exact ⟨rfl, by assumption⟩
set_option maxHeartbeats 400000 in
set_option maxRecDepth 100000 in
theorem takeExpression_8 (B : Nat) (st : List Int) (w wr : World) (h : Inv B w wr st) (hb : st.length ≤ 100000) :
    Calls Tryz.prog 131 #[.pointer (some ⟨B, 0, none⟩), .int .i64 8] wr fun e w' => e = .returned (.bool true) ∧ Inv B w w' (5 :: 5 :: st) := by
  go_enter Tryz.func131, Tryz.ntmps131
  go_wp2_with (go_at_call 91; refine (push_inv B _ _ w _ (by assumption) (by first | omega | (simp; omega))).mono ?_; rintro e w' ⟨rfl, hinv'⟩)
  go_ret
  exact ⟨rfl, by assumption⟩
set_option maxHeartbeats 400000 in
set_option maxRecDepth 100000 in
theorem takeExpression_9 (B : Nat) (st : List Int) (w wr : World) (h : Inv B w wr st) (hb : st.length ≤ 100000) :
    Calls Tryz.prog 131 #[.pointer (some ⟨B, 0, none⟩), .int .i64 9] wr fun e w' => e = .returned (.bool true) ∧ Inv B w w' (5 :: st) := by
  go_enter Tryz.func131, Tryz.ntmps131
  go_wp2_with (go_at_call 91; refine (push_inv B _ _ w _ (by assumption) (by first | omega | (simp; omega))).mono ?_; rintro e w' ⟨rfl, hinv'⟩)
  go_ret
  exact ⟨rfl, by assumption⟩
set_option maxHeartbeats 400000 in
set_option maxRecDepth 100000 in
theorem takeExpression_10 (B : Nat) (st : List Int) (w wr : World) (h : Inv B w wr st) (hb : st.length ≤ 100000) :
    Calls Tryz.prog 131 #[.pointer (some ⟨B, 0, none⟩), .int .i64 10] wr fun e w' => e = .returned (.bool true) ∧ Inv B w w' (5 :: st) := by
  go_enter Tryz.func131, Tryz.ntmps131
  go_wp2_with (go_at_call 91; refine (push_inv B _ _ w _ (by assumption) (by first | omega | (simp; omega))).mono ?_; rintro e w' ⟨rfl, hinv'⟩)
  go_ret
  exact ⟨rfl, by assumption⟩
set_option maxHeartbeats 400000 in
set_option maxRecDepth 100000 in
theorem takeExpression_no (B : Nat) (k : Int) (st : List Int) (w wr : World) (h : Inv B w wr st) (h1 : (k == 1) = false) (h2 : (k == 2) = false) (h3 : (k == 3) = false) (h4 : (k == 4) = false) (h5 : (k == 5) = false) (h6 : (k == 6) = false) (h7 : (k == 7) = false) (h8 : (k == 8) = false) (h9 : (k == 9) = false) (h10 : (k == 10) = false) :
    Calls Tryz.prog 131 #[.pointer (some ⟨B, 0, none⟩), .int .i64 k] wr fun e w' => e = .returned (.bool false) ∧ Inv B w w' st := by
  go_enter Tryz.func131, Tryz.ntmps131
  go_wp2
  go_ret
  exact ⟨rfl, by assumption⟩
theorem takeExpression_any (B : Nat) (k : Int) (st : List Int) (w wr : World) (h : Inv B w wr st) (hb : st.length ≤ 100000) :
    Calls Tryz.prog 131 #[.pointer (some ⟨B, 0, none⟩), .int .i64 k] wr fun e w' => e = .returned (.bool (Ck.expr st k).1) ∧ Inv B w w' (Ck.expr st k).2 := by
  unfold Ck.expr
  by_cases h1 : k = 1
  · subst h1; exact takeExpression_1 B st w wr h hb
  by_cases h2 : k = 2
  · subst h2; exact takeExpression_2 B st w wr h hb
  by_cases h3 : k = 3
  · subst h3; exact takeExpression_3 B st w wr h hb
  by_cases h4 : k = 4
  · subst h4; exact takeExpression_4 B st w wr h hb
  by_cases h5 : k = 5
  · subst h5; exact takeExpression_5 B st w wr h hb
  by_cases h6 : k = 6
  · subst h6; exact takeExpression_6 B st w wr h hb
  by_cases h7 : k = 7
  · subst h7; exact takeExpression_7 B st w wr h hb
  by_cases h8 : k = 8
  · subst h8; exact takeExpression_8 B st w wr h hb
  by_cases h9 : k = 9
  · subst h9; exact takeExpression_9 B st w wr h hb
  by_cases h10 : k = 10
  · subst h10; exact takeExpression_10 B st w wr h hb
  rw [if_neg (by omega), if_neg (by omega), if_neg (by omega)]
  exact takeExpression_no B k st w wr h (beq_eq_false_iff_ne.2 h1) (beq_eq_false_iff_ne.2 h2) (beq_eq_false_iff_ne.2 h3) (beq_eq_false_iff_ne.2 h4) (beq_eq_false_iff_ne.2 h5) (beq_eq_false_iff_ne.2 h6) (beq_eq_false_iff_ne.2 h7) (beq_eq_false_iff_ne.2 h8) (beq_eq_false_iff_ne.2 h9) (beq_eq_false_iff_ne.2 h10)

set_option maxHeartbeats 400000 in
set_option maxRecDepth 100000 in
theorem take_1 (B : Nat) (k : Int) (r : List Int) (w wr : World) (h : Inv B w wr (1 :: r)) (_hb : r.length ≤ 100000) (_hb8 : (r.length + 1) * 8 ≤ 140737488355328) :
    Calls Tryz.prog 93 #[.pointer (some ⟨B, 0, none⟩), .int .i64 k] wr fun e w' => e = .returned (.bool (Ck.stmt 1 r k).1) ∧ Inv B w w' ((Ck.stmt 1 r k).2) := by
  go_enter Tryz.func93, Tryz.ntmps93
  go_wp2_with (first
    | (go_at_call 129; refine (pop_inv B _ w _ (by assumption)).mono ?_; rintro e w' ⟨rfl, hinv'⟩)
    | (go_at_call 130; refine (takeStatement_any B _ _ _ w _ (by assumption) (by assumption)).mono ?_; rintro e w' ⟨rfl, hinv'⟩)
    | (go_at_call 131; refine (takeExpression_any B _ _ w _ (by assumption) (by assumption)).mono ?_; rintro e w' ⟨rfl, hinv'⟩)
    | (go_at_call 91; refine (push_inv B _ _ w _ (by assumption) (by assumption)).mono ?_; rintro e w' ⟨rfl, hinv'⟩))
  go_ret
  exact ⟨rfl, by assumption⟩
set_option maxHeartbeats 400000 in
set_option maxRecDepth 100000 in
theorem take_2c (B : Nat) (k : Int) (r : List Int) (w wr : World) (h : Inv B w wr (2 :: r)) (_hb : r.length ≤ 100000) (_hb8 : (r.length + 1) * 8 ≤ 140737488355328) (hk : (k == 19) = true) :
    Calls Tryz.prog 93 #[.pointer (some ⟨B, 0, none⟩), .int .i64 k] wr fun e w' => e = .returned (.bool true) ∧ Inv B w w' (r) := by
  go_enter Tryz.func93, Tryz.ntmps93
  go_wp2_with (first
    | (go_at_call 129; refine (pop_inv B _ w _ (by assumption)).mono ?_; rintro e w' ⟨rfl, hinv'⟩)
    | (go_at_call 130; refine (takeStatement_any B _ _ _ w _ (by assumption) (by assumption)).mono ?_; rintro e w' ⟨rfl, hinv'⟩)
    | (go_at_call 131; refine (takeExpression_any B _ _ w _ (by assumption) (by assumption)).mono ?_; rintro e w' ⟨rfl, hinv'⟩)
    | (go_at_call 91; refine (push_inv B _ _ w _ (by assumption) (by assumption)).mono ?_; rintro e w' ⟨rfl, hinv'⟩))
  go_ret
  exact ⟨rfl, by assumption⟩
set_option maxHeartbeats 400000 in
set_option maxRecDepth 100000 in
theorem take_2s (B : Nat) (k : Int) (r : List Int) (w wr : World) (h : Inv B w wr (2 :: r)) (_hb : r.length ≤ 100000) (_hb8 : (r.length + 1) * 8 ≤ 140737488355328) (hk : (k == 19) = false) :
    Calls Tryz.prog 93 #[.pointer (some ⟨B, 0, none⟩), .int .i64 k] wr fun e w' => e = .returned (.bool (Ck.stmt 2 r k).1) ∧ Inv B w w' ((Ck.stmt 2 r k).2) := by
  go_enter Tryz.func93, Tryz.ntmps93
  go_wp2_with (first
    | (go_at_call 129; refine (pop_inv B _ w _ (by assumption)).mono ?_; rintro e w' ⟨rfl, hinv'⟩)
    | (go_at_call 130; refine (takeStatement_any B _ _ _ w _ (by assumption) (by assumption)).mono ?_; rintro e w' ⟨rfl, hinv'⟩)
    | (go_at_call 131; refine (takeExpression_any B _ _ w _ (by assumption) (by assumption)).mono ?_; rintro e w' ⟨rfl, hinv'⟩)
    | (go_at_call 91; refine (push_inv B _ _ w _ (by assumption) (by assumption)).mono ?_; rintro e w' ⟨rfl, hinv'⟩))
  go_ret
  exact ⟨rfl, by assumption⟩
set_option maxHeartbeats 400000 in
set_option maxRecDepth 100000 in
theorem take_3 (B : Nat) (k : Int) (r : List Int) (w wr : World) (h : Inv B w wr (3 :: r)) (_hb : r.length ≤ 100000) (_hb8 : (r.length + 1) * 8 ≤ 140737488355328) :
    Calls Tryz.prog 93 #[.pointer (some ⟨B, 0, none⟩), .int .i64 k] wr fun e w' => e = .returned (.bool (k == 18)) ∧ Inv B w w' (2 :: r) := by
  go_enter Tryz.func93, Tryz.ntmps93
  go_wp2_with (first
    | (go_at_call 129; refine (pop_inv B _ w _ (by assumption)).mono ?_; rintro e w' ⟨rfl, hinv'⟩)
    | (go_at_call 130; refine (takeStatement_any B _ _ _ w _ (by assumption) (by assumption)).mono ?_; rintro e w' ⟨rfl, hinv'⟩)
    | (go_at_call 131; refine (takeExpression_any B _ _ w _ (by assumption) (by assumption)).mono ?_; rintro e w' ⟨rfl, hinv'⟩)
    | (go_at_call 91; refine (push_inv B _ _ w _ (by assumption) (by assumption)).mono ?_; rintro e w' ⟨rfl, hinv'⟩))
  go_ret
  exact ⟨rfl, by assumption⟩
set_option maxHeartbeats 400000 in
set_option maxRecDepth 100000 in
theorem take_4 (B : Nat) (k : Int) (r : List Int) (w wr : World) (h : Inv B w wr (4 :: r)) (_hb : r.length ≤ 100000) (_hb8 : (r.length + 1) * 8 ≤ 140737488355328) :
    Calls Tryz.prog 93 #[.pointer (some ⟨B, 0, none⟩), .int .i64 k] wr fun e w' => e = .returned (.bool (k == 3)) ∧ Inv B w w' (r) := by
  go_enter Tryz.func93, Tryz.ntmps93
  go_wp2_with (first
    | (go_at_call 129; refine (pop_inv B _ w _ (by assumption)).mono ?_; rintro e w' ⟨rfl, hinv'⟩)
    | (go_at_call 130; refine (takeStatement_any B _ _ _ w _ (by assumption) (by assumption)).mono ?_; rintro e w' ⟨rfl, hinv'⟩)
    | (go_at_call 131; refine (takeExpression_any B _ _ w _ (by assumption) (by assumption)).mono ?_; rintro e w' ⟨rfl, hinv'⟩)
    | (go_at_call 91; refine (push_inv B _ _ w _ (by assumption) (by assumption)).mono ?_; rintro e w' ⟨rfl, hinv'⟩))
  go_ret
  exact ⟨rfl, by assumption⟩
set_option maxHeartbeats 400000 in
set_option maxRecDepth 100000 in
theorem take_5 (B : Nat) (k : Int) (r : List Int) (w wr : World) (h : Inv B w wr (5 :: r)) (_hb : r.length ≤ 100000) (_hb8 : (r.length + 1) * 8 ≤ 140737488355328) :
    Calls Tryz.prog 93 #[.pointer (some ⟨B, 0, none⟩), .int .i64 k] wr fun e w' => e = .returned (.bool (Ck.expr r k).1) ∧ Inv B w w' ((Ck.expr r k).2) := by
  go_enter Tryz.func93, Tryz.ntmps93
  go_wp2_with (first
    | (go_at_call 129; refine (pop_inv B _ w _ (by assumption)).mono ?_; rintro e w' ⟨rfl, hinv'⟩)
    | (go_at_call 130; refine (takeStatement_any B _ _ _ w _ (by assumption) (by assumption)).mono ?_; rintro e w' ⟨rfl, hinv'⟩)
    | (go_at_call 131; refine (takeExpression_any B _ _ w _ (by assumption) (by assumption)).mono ?_; rintro e w' ⟨rfl, hinv'⟩)
    | (go_at_call 91; refine (push_inv B _ _ w _ (by assumption) (by assumption)).mono ?_; rintro e w' ⟨rfl, hinv'⟩))
  go_ret
  exact ⟨rfl, by assumption⟩
set_option maxHeartbeats 400000 in
set_option maxRecDepth 100000 in
theorem take_nil (B : Nat) (k : Int) (w wr : World) (h : Inv B w wr []) :
    Calls Tryz.prog 93 #[.pointer (some ⟨B, 0, none⟩), .int .i64 k] wr fun e w' => e = .returned (.bool false) ∧ Inv B w w' [] := by
  go_enter Tryz.func93, Tryz.ntmps93
  go_wp2_with (go_at_call 129; refine (pop_inv B _ w _ (by assumption)).mono ?_; rintro e w' ⟨rfl, hinv'⟩)
  go_ret
  exact ⟨rfl, by assumption⟩
set_option maxHeartbeats 400000 in
set_option maxRecDepth 100000 in
theorem take_no (B : Nat) (k x : Int) (r : List Int) (w wr : World) (h : Inv B w wr (x :: r)) (h1 : (x == 1) = false) (h2 : (x == 2) = false) (h3 : (x == 3) = false) (h4 : (x == 4) = false) (h5 : (x == 5) = false) :
    Calls Tryz.prog 93 #[.pointer (some ⟨B, 0, none⟩), .int .i64 k] wr fun e w' => e = .returned (.bool false) ∧ Inv B w w' r := by
  go_enter Tryz.func93, Tryz.ntmps93
  go_wp2_with (go_at_call 129; refine (pop_inv B _ w _ (by assumption)).mono ?_; rintro e w' ⟨rfl, hinv'⟩)
  go_ret
  exact ⟨rfl, by assumption⟩

theorem take_any (B : Nat) (k : Int) (st : List Int) (w wr : World) (h : Inv B w wr st) (hb : st.length ≤ 100000) :
    Calls Tryz.prog 93 #[.pointer (some ⟨B, 0, none⟩), .int .i64 k] wr fun e w' => e = .returned (.bool (Ck.take st k).1) ∧ Inv B w w' (Ck.take st k).2 := by
  match st, h, hb with
  | [], h, _ => exact take_nil B k w wr h
  | x :: r, h, hb =>
    have hb' : r.length ≤ 100000 := by simp at hb; omega
    have h8 : (r.length + 1) * 8 ≤ 140737488355328 := by omega
    rw [Ck.take_cons]
    by_cases h1 : x = 1
    · subst h1; exact take_1 B k r w wr h hb' h8
    rw [if_neg h1]
    by_cases h2 : x = 2
    · subst h2
      rw [if_pos rfl]
      by_cases hk : k = 19
      · rw [if_pos hk]; exact take_2c B k r w wr h hb' h8 (beq_iff_eq.2 hk)
      · rw [if_neg hk]; exact take_2s B k r w wr h hb' h8 (beq_eq_false_iff_ne.2 hk)
    rw [if_neg h2]
    by_cases h3 : x = 3
    · subst h3; exact take_3 B k r w wr h hb' h8
    rw [if_neg h3]
    by_cases h4 : x = 4
    · subst h4; exact take_4 B k r w wr h hb' h8
    rw [if_neg h4]
    by_cases h5 : x = 5
    · subst h5; exact take_5 B k r w wr h hb' h8
    rw [if_neg h5]
    exact take_no B k x r w wr h (beq_eq_false_iff_ne.2 h1) (beq_eq_false_iff_ne.2 h2) (beq_eq_false_iff_ne.2 h3) (beq_eq_false_iff_ne.2 h4) (beq_eq_false_iff_ne.2 h5)
end Go.Proofs.YtellilpeakpbfabGreatDoor

end

section
/-
  The walk of split: the tokens of a source, as package source cuts them.
-/
namespace Go.Proofs.YtellilpeakpbfabGreatDoor
open Go.RowKit

theorem Tryz.infoStr : (Tryz.prog.info? 9).map (fun i => (i.zero, i.size, i.bytes)) = some (some (.string ⟨#[]⟩), 1, 16) := by kernel_rfl

/-- Behind an append to a row of the call's own. -/
theorem below_own {B : Nat} {e : TypeId} {size : Nat} {w w0 w1 : World} {o : Obj} {v : Value} {n : Nat} {xs : List Value} (h : Below B w w0) (hB : B ≤ w0.heap.size) (hown : w0.ownsRow B e size v n xs) (hg : (w0.alloc o).grownBy w1 v.ownBlock) : Below B w w1 :=
  (h.alloc hB o).grown hg (by simp; omega) (fun k hk => (hown.lt k hk).1)

theorem extract_T (s : ByteArray) (b k : Nat) : Value.string (s.extract b k) = T ((s.data.toList.take k).drop b) := by
  unfold T
  congr 1
  apply ByteArray.ext
  apply Array.ext'
  simp [List.drop_take]

set_option maxHeartbeats 1000000 in
set_option maxRecDepth 100000 in
theorem split_any (s : ByteArray) (w : World) (hs : s.size ≤ 400) :
    Calls Tryz.prog 90 #[.string s] w fun e w' => ∃ v, e = .returned v ∧ w'.ownsRow w.heap.size 9 1 v (Ck.toks s.data.toList).length ((Ck.toks s.data.toList).map T) ∧ Below w.heap.size w w' := by
  obtain ⟨i0, hi, hz0, hz1, hz2⟩ := info_parts Tryz.infoStr
  have hl : s.data.toList.length = s.size := by simp
  have HL := hide hl
  clear hl
  go_enter Tryz.func90, Tryz.ntmps90
  go_wp2
  go_loopw [3, 4, 5] (fun v a i wr => ∃ (k b : Nat), k ≤ s.size ∧ b ≤ k ∧ i = .int .i64 k ∧ a = .int .i64 b ∧ (Ck.scan (s.data.toList.take k)).2 = (s.data.toList.take k).drop b ∧
      wr.ownsRow w.heap.size 9 1 v (Ck.scan (s.data.toList.take k)).1.length ((Ck.scan (s.data.toList.take k)).1.map T) ∧ Below w.heap.size w wr)
    (fun _ _ i _ => s.size - (intOf i).toNat)
  case atStart => exact ⟨0, 0, Nat.zero_le _, Nat.le_refl _, rfl, rfl, rfl, World.ownsRow_nil _ _ _ _, Below.refl _ _⟩
  case round =>
    obtain ⟨k, b, hk, hbk, rfl, rfl, hsc, hown, hbel⟩ := hrel
    have HS := hide hsc
    have HO := hide hown
    have HB := hide hbel
    have hn : (Ck.scan (s.data.toList.take k)).1.length ≤ 400 := by
      have h1 := (Ck.scan_len (s.data.toList.take k)).1
      have h2 : (s.data.toList.take k).length ≤ k := by simp; omega
      omega
    have hsz := hbel.size
    clear hsc hown hbel
    by_cases hlt : k < s.size
    · have HT := hide (take_snoc s k hlt)
      by_cases hsp : Ck.isSp s[k] = true
      · by_cases hbk' : b < k
        · go_wp2_with (first
            | (go_at_call 126; refine (isSpace_any _ _).mono ?_; rintro e w' ⟨rfl, rfl⟩)
            | (at_builtin; refine wpList_append_own _ rfl (.tmp 20) (.tmp 25) 159 rfl w.heap.size 9 i0 (.string ⟨#[]⟩) 1 16 Tryz.underlying159 hi hz0 hz1 hz2 rfl (by decide) _ _ _ rfl (HO.out.alloc _) ⟨_, 0, none⟩ 1 1 [.string (s.extract b k)] rfl rfl ?c1 ?c2 ?c3 ?c4 ?c5 ?_))
          case c1 =>
            intro j u hj
            match j, hj with
            | 0, hj => simp at hj; subst hj; simp [Addr.add]
          case c2 => intro u hu; simp at hu; subst hu; rfl
          case c3 => unfold maxLen; omega
          case c4 => omega
          case c5 => simp; omega
          intro v' w1 hown' hgrow _
          have HO' := hide hown'
          have HG := hide hgrow
          clear hown' hgrow
          go_wp2
          go_roundw
          case rel =>
            have e := Ck.scan_done _ _ hsp (by rw [HS.out]; exact Ck.drop_ne _ b k hbk' (by rw [HL.out]; omega))
            rw [← HT.out] at e
            refine ⟨k + 1, k + 1, by omega, Nat.le_refl _, by go_num, by go_num, ?_, ?_, ?_⟩
            · rw [e]; exact (Ck.drop_all _ _).symm
            · rw [e]
              have h := HO'.out
              rw [extract_T, ← HS.out] at h
              simpa using h
            · exact below_own HB.out hsz HO.out HG.out
          case measure => simp [intOf]; omega
        · have hbe : b = k := by omega
          subst hbe
          go_wp2_with (first | (go_at_call 126; refine (isSpace_any _ _).mono ?_; rintro e w' ⟨rfl, rfl⟩))
          go_roundw
          case rel =>
            have e := Ck.scan_gap _ _ hsp (by rw [HS.out]; exact Ck.drop_all _ b)
            rw [← HT.out] at e
            refine ⟨b + 1, b + 1, by omega, Nat.le_refl _, by go_num, by go_num, ?_, ?_, HB.out⟩
            · rw [e]; exact (Ck.drop_all _ _).symm
            · rw [e]; exact HO.out
          case measure => simp [intOf]; omega
      · have hsp' : Ck.isSp s[k] = false := by simpa using hsp
        clear hsp
        go_wp2_with (first | (go_at_call 126; refine (isSpace_any _ _).mono ?_; rintro e w' ⟨rfl, rfl⟩))
        go_roundw
        case rel =>
          have e := Ck.scan_more (s.data.toList.take k) _ hsp'
          rw [← HT.out] at e
          refine ⟨k + 1, b, by omega, by omega, by go_num, by go_num, ?_, ?_, HB.out⟩
          · rw [e, HT.out, List.drop_append_of_le_length (by simp; omega), HS.out]
          · rw [e]; exact HO.out
        case measure => simp [intOf]; omega
    · have HT := hide (take_all s k hlt)
      have hke : k = s.size := by omega
      by_cases hb : b < s.size
      · go_wp2_with (at_builtin; refine wpList_append_own _ rfl (.tmp 33) (.tmp 37) 159 rfl w.heap.size 9 i0 (.string ⟨#[]⟩) 1 16 Tryz.underlying159 hi hz0 hz1 hz2 rfl (by decide) _ _ _ rfl (HO.out.alloc _) ⟨_, 0, none⟩ 1 1 [.string (s.extract b s.size)] rfl rfl ?d1 ?d2 ?d3 ?d4 ?d5 ?_)
        case d1 =>
          intro j u hj
          match j, hj with
          | 0, hj => simp at hj; subst hj; simp [Addr.add]
        case d2 => intro u hu; simp at hu; subst hu; rfl
        case d3 => unfold maxLen; omega
        case d4 => omega
        case d5 => simp; omega
        intro v' w1 hown' hgrow _
        have HO' := hide hown'
        have HG := hide hgrow
        clear hown' hgrow
        go_wp2
        go_ret
        refine ⟨v', rfl, ?_, below_own HB.out hsz HO.out HG.out⟩
        have hs2 := HS.out
        have h := HO'.out
        rw [extract_T, show s.size = k by omega, ← hs2, HT.out] at h
        rw [Ck.toks_end _ (by rw [HT.out] at hs2; rw [hs2, ← HT.out]; exact Ck.drop_ne _ b k (by omega) (by rw [HL.out]; omega))]
        simpa using h
      · go_wp2
        go_ret
        refine ⟨_, rfl, ?_, HB.out⟩
        have hs2 := HS.out
        have h := HO.out
        rw [show b = k by omega, Ck.drop_all] at hs2
        rw [HT.out] at h hs2
        rw [Ck.toks_gap _ hs2]
        exact h
end Go.Proofs.YtellilpeakpbfabGreatDoor

end
