import Derived.Test.YtellilpeakpbfaaDoorNum
/-
  The walks of follows and wants.
-/
namespace Go.Proofs.YtellilpeakpbfaaDoor
open Go.RowKit

/-- a text as a string's value. -/
def T (l : List UInt8) : Value := .string ⟨l.toArray⟩

theorem ret_two {x y : Value} {a b : Bool} (h : x = y) (g : a = b) : Ending.returned (.tuple #[x, .bool a]) = .returned (.tuple #[y, .bool b]) := by rw [h, g]
theorem beq_no {s : ByteArray} {l : List UInt8} (h : ¬ s.data.toList = l) : (s.toList == l) = false := by
  rw [ByteArray.toList_eq]; exact beq_eq_false_iff_ne.2 h
theorem bytes_mk {s : ByteArray} {l : List UInt8} (h : s.data.toList = l) : s = ⟨l.toArray⟩ := by
  obtain ⟨⟨x⟩⟩ := s; simp at h; rw [h]

set_option maxHeartbeats 400000 in
theorem follows_set (w : World) :
    Calls Tryd.prog 36 #[.string ⟨#[115, 101, 116]⟩] w fun e w' => e = .returned (.tuple #[T [118, 101], .bool true]) ∧ w' = w := by
  go_enter Tryd.func36, Tryd.ntmps36
  go_wp2
  go_ret2
  exact ⟨rfl, rfl⟩
set_option maxHeartbeats 400000 in
theorem follows_put (w : World) :
    Calls Tryd.prog 36 #[.string ⟨#[112, 117, 116]⟩] w fun e w' => e = .returned (.tuple #[T [101, 101], .bool true]) ∧ w' = w := by
  go_enter Tryd.func36, Tryd.ntmps36
  go_wp2
  go_ret2
  exact ⟨rfl, rfl⟩
set_option maxHeartbeats 400000 in
theorem follows_del (w : World) :
    Calls Tryd.prog 36 #[.string ⟨#[100, 101, 108]⟩] w fun e w' => e = .returned (.tuple #[T [101], .bool true]) ∧ w' = w := by
  go_enter Tryd.func36, Tryd.ntmps36
  go_wp2
  go_ret2
  exact ⟨rfl, rfl⟩
set_option maxHeartbeats 400000 in
theorem follows_stop (w : World) :
    Calls Tryd.prog 36 #[.string ⟨#[115, 116, 111, 112]⟩] w fun e w' => e = .returned (.tuple #[T [101], .bool true]) ∧ w' = w := by
  go_enter Tryd.func36, Tryd.ntmps36
  go_wp2
  go_ret2
  exact ⟨rfl, rfl⟩
set_option maxHeartbeats 400000 in
theorem follows_if (w : World) :
    Calls Tryd.prog 36 #[.string ⟨#[105, 102]⟩] w fun e w' => e = .returned (.tuple #[T [101, 123, 115, 125, 123, 115, 125], .bool true]) ∧ w' = w := by
  go_enter Tryd.func36, Tryd.ntmps36
  go_wp2
  go_ret2
  exact ⟨rfl, rfl⟩
set_option maxHeartbeats 400000 in
theorem follows_while (w : World) :
    Calls Tryd.prog 36 #[.string ⟨#[119, 104, 105, 108, 101]⟩] w fun e w' => e = .returned (.tuple #[T [101, 123, 115, 125], .bool true]) ∧ w' = w := by
  go_enter Tryd.func36, Tryd.ntmps36
  go_wp2
  go_ret2
  exact ⟨rfl, rfl⟩
set_option maxHeartbeats 400000 in
theorem follows_fail (w : World) :
    Calls Tryd.prog 36 #[.string ⟨#[102, 97, 105, 108]⟩] w fun e w' => e = .returned (.tuple #[T [], .bool true]) ∧ w' = w := by
  go_enter Tryd.func36, Tryd.ntmps36
  go_wp2
  go_ret2
  exact ⟨rfl, rfl⟩
set_option maxHeartbeats 400000 in
theorem follows_none (s : ByteArray) (w : World) (h0 : (s.toList == [115, 101, 116]) = false) (h1 : (s.toList == [112, 117, 116]) = false) (h2 : (s.toList == [100, 101, 108]) = false) (h3 : (s.toList == [115, 116, 111, 112]) = false) (h4 : (s.toList == [105, 102]) = false) (h5 : (s.toList == [119, 104, 105, 108, 101]) = false) (h6 : (s.toList == [102, 97, 105, 108]) = false) :
    Calls Tryd.prog 36 #[.string s] w fun e w' => e = .returned (.tuple #[T [], .bool false]) ∧ w' = w := by
  go_enter Tryd.func36, Tryd.ntmps36
  go_wp2
  go_ret2
  exact ⟨rfl, rfl⟩
theorem follows_any (s : ByteArray) (w : World) :
    Calls Tryd.prog 36 #[.string s] w fun e w' => e = .returned (.tuple #[T ((Ck.follows s.data.toList).getD []), .bool (Ck.follows s.data.toList).isSome]) ∧ w' = w := by
  unfold Ck.follows
  by_cases h0 : s.data.toList = [115, 101, 116]
  · rw [if_pos h0, bytes_mk h0]; exact follows_set w
  rw [if_neg h0]
  by_cases h1 : s.data.toList = [112, 117, 116]
  · rw [if_pos h1, bytes_mk h1]; exact follows_put w
  rw [if_neg h1]
  by_cases h2 : s.data.toList = [100, 101, 108]
  · rw [if_pos h2, bytes_mk h2]; exact follows_del w
  rw [if_neg h2]
  by_cases h3 : s.data.toList = [115, 116, 111, 112]
  · rw [if_pos h3, bytes_mk h3]; exact follows_stop w
  rw [if_neg h3]
  by_cases h4 : s.data.toList = [105, 102]
  · rw [if_pos h4, bytes_mk h4]; exact follows_if w
  rw [if_neg h4]
  by_cases h5 : s.data.toList = [119, 104, 105, 108, 101]
  · rw [if_pos h5, bytes_mk h5]; exact follows_while w
  rw [if_neg h5]
  by_cases h6 : s.data.toList = [102, 97, 105, 108]
  · rw [if_pos h6, bytes_mk h6]; exact follows_fail w
  rw [if_neg h6]
  exact follows_none s w (beq_no h0) (beq_no h1) (beq_no h2) (beq_no h3) (beq_no h4) (beq_no h5) (beq_no h6)

theorem slot_any (s : ByteArray) (c : UInt8) (w : World) :
    Calls Tryd.prog 38 #[.string s, .int .u8 c.toNat] w fun e w' => e = .returned (.int .i64 (Ck.slot s.data.toList c)) ∧ w' = w := by
  by_cases h : s.size = 2
  · obtain ⟨⟨l⟩⟩ := s
    match l, h with
    | [a, b], _ => exact slot_two a b c w
  · rw [Ck.slot_ne s.data.toList c (by simpa using h)]
    exact slot_not s c w h

set_option maxHeartbeats 400000 in
theorem wants_plus (w : World) :
    Calls Tryd.prog 37 #[.string ⟨#[43]⟩] w fun e w' => e = .returned (.tuple #[T [101, 101], .bool true]) ∧ w' = w := by
  go_enter Tryd.func37, Tryd.ntmps37
  go_wp2
  go_ret2
  exact ⟨rfl, rfl⟩
set_option maxHeartbeats 400000 in
theorem wants_minus (w : World) :
    Calls Tryd.prog 37 #[.string ⟨#[45]⟩] w fun e w' => e = .returned (.tuple #[T [101, 101], .bool true]) ∧ w' = w := by
  go_enter Tryd.func37, Tryd.ntmps37
  go_wp2
  go_ret2
  exact ⟨rfl, rfl⟩
set_option maxHeartbeats 400000 in
theorem wants_times (w : World) :
    Calls Tryd.prog 37 #[.string ⟨#[42]⟩] w fun e w' => e = .returned (.tuple #[T [101, 101], .bool true]) ∧ w' = w := by
  go_enter Tryd.func37, Tryd.ntmps37
  go_wp2
  go_ret2
  exact ⟨rfl, rfl⟩
set_option maxHeartbeats 400000 in
theorem wants_less (w : World) :
    Calls Tryd.prog 37 #[.string ⟨#[60]⟩] w fun e w' => e = .returned (.tuple #[T [101, 101], .bool true]) ∧ w' = w := by
  go_enter Tryd.func37, Tryd.ntmps37
  go_wp2
  go_ret2
  exact ⟨rfl, rfl⟩
set_option maxHeartbeats 400000 in
theorem wants_same (w : World) :
    Calls Tryd.prog 37 #[.string ⟨#[61]⟩] w fun e w' => e = .returned (.tuple #[T [101, 101], .bool true]) ∧ w' = w := by
  go_enter Tryd.func37, Tryd.ntmps37
  go_wp2
  go_ret2
  exact ⟨rfl, rfl⟩
set_option maxHeartbeats 400000 in
theorem wants_at (w : World) :
    Calls Tryd.prog 37 #[.string ⟨#[64]⟩] w fun e w' => e = .returned (.tuple #[T [101], .bool true]) ∧ w' = w := by
  go_enter Tryd.func37, Tryd.ntmps37
  go_wp2
  go_ret2
  exact ⟨rfl, rfl⟩
set_option maxHeartbeats 400000 in
theorem wants_there (w : World) :
    Calls Tryd.prog 37 #[.string ⟨#[35]⟩] w fun e w' => e = .returned (.tuple #[T [101], .bool true]) ∧ w' = w := by
  go_enter Tryd.func37, Tryd.ntmps37
  go_wp2
  go_ret2
  exact ⟨rfl, rfl⟩
set_option maxHeartbeats 400000 in
theorem wants_none (s : ByteArray) (n a v : Int) (w : World) (h0 : (s.toList == [43]) = false) (h1 : (s.toList == [45]) = false) (h2 : (s.toList == [42]) = false) (h3 : (s.toList == [60]) = false) (h4 : (s.toList == [61]) = false) (h5 : (s.toList == [64]) = false) (h6 : (s.toList == [35]) = false)
    (HN : Hid (∀ w, Calls Tryd.prog 26 #[.string s] w fun e w' => e = .returned (.int .i64 n) ∧ w' = w))
    (HA : Hid (∀ w, Calls Tryd.prog 38 #[.string s, .int .u8 97] w fun e w' => e = .returned (.int .i64 a) ∧ w' = w))
    (HV : Hid (∀ w, Calls Tryd.prog 38 #[.string s, .int .u8 118] w fun e w' => e = .returned (.int .i64 v) ∧ w' = w)) :
    Calls Tryd.prog 37 #[.string s] w fun e w' => e = .returned (.tuple #[T [], .bool (decide (0 ≤ n ∨ 0 ≤ a ∨ 0 ≤ v))]) ∧ w' = w := by
  go_enter Tryd.func37, Tryd.ntmps37
  go_wp2_with fail
  refine (HN.out _).mono ?_
  rintro e w' ⟨rfl, rfl⟩
  go_wp2_with fail
  refine (HA.out _).mono ?_
  rintro e w' ⟨rfl, rfl⟩
  go_wp2_with fail
  refine (HV.out _).mono ?_
  rintro e w' ⟨rfl, rfl⟩
  go_wp2
  all_goals go_ret2
  all_goals (refine ⟨ret_two rfl ?_, rfl⟩; first | rfl | (rw [Bool.eq_iff_iff]; simp; try omega))
theorem wants_any (s : ByteArray) (w : World) (hs : s.size ≤ 400) :
    Calls Tryd.prog 37 #[.string s] w fun e w' => e = .returned (.tuple #[T ((Ck.wants s.data.toList).getD []), .bool (Ck.wants s.data.toList).isSome]) ∧ w' = w := by
  unfold Ck.wants
  by_cases h0 : s.data.toList = [43]
  · rw [if_pos h0, bytes_mk h0]; exact wants_plus w
  rw [if_neg h0]
  by_cases h1 : s.data.toList = [45]
  · rw [if_pos h1, bytes_mk h1]; exact wants_minus w
  rw [if_neg h1]
  by_cases h2 : s.data.toList = [42]
  · rw [if_pos h2, bytes_mk h2]; exact wants_times w
  rw [if_neg h2]
  by_cases h3 : s.data.toList = [60]
  · rw [if_pos h3, bytes_mk h3]; exact wants_less w
  rw [if_neg h3]
  by_cases h4 : s.data.toList = [61]
  · rw [if_pos h4, bytes_mk h4]; exact wants_same w
  rw [if_neg h4]
  by_cases h5 : s.data.toList = [64]
  · rw [if_pos h5, bytes_mk h5]; exact wants_at w
  rw [if_neg h5]
  by_cases h6 : s.data.toList = [35]
  · rw [if_pos h6, bytes_mk h6]; exact wants_there w
  rw [if_neg h6]
  refine (wants_none s (Ck.numberR s.data.toList) (Ck.slot s.data.toList 97) (Ck.slot s.data.toList 118) w (beq_no h0) (beq_no h1) (beq_no h2) (beq_no h3) (beq_no h4) (beq_no h5) (beq_no h6) (hide fun w => number_any s w hs) (hide fun w => slot_any s 97 w) (hide fun w => slot_any s 118 w)).mono ?_
  rintro e w' ⟨rfl, rfl⟩
  refine ⟨?_, rfl⟩
  split <;> simp_all

end Go.Proofs.YtellilpeakpbfaaDoor
