import Derived.Test.YtellilpeakpbfaaGreatDoorNumToo
section
/-
  The walks of follows and wants.
-/
namespace Go.Proofs.YtellilpeakpbfaaGreatDoor
open Go.RowKit

/-- a text as a string's value. -/
def T (l : List UInt8) : Value := .string ⟨l.toArray⟩

theorem ret_two {x y : Value} {a b : Bool} (h : x = y) (g : a = b) : Ending.returned (.tuple #[x, .bool a]) = .returned (.tuple #[y, .bool b]) := by rw [h, g]
theorem beq_no {s : ByteArray} {l : List UInt8} (h : ¬ s.data.toList = l) : (s.toList == l) = false := by
  rw [ByteArray.toList_eq]; exact beq_eq_false_iff_ne.2 h
theorem bytes_mk {s : ByteArray} {l : List UInt8} (h : s.data.toList = l) : s = ⟨l.toArray⟩ := by
  obtain ⟨⟨x⟩⟩ := s; simp at h; rw [h]

set_option maxHeartbeats 400000 in
theorem follows_set (w : World) :
    Calls Tryz.prog 160 #[.string ⟨#[115, 101, 116]⟩] w fun e w' => e = .returned (.tuple #[T [118, 101], .bool true]) ∧ w' = w := by
  go_enter Tryz.func160, Tryz.ntmps160
  go_wp2
  go_ret2
  exact ⟨rfl, rfl⟩
set_option maxHeartbeats 400000 in
theorem follows_put (w : World) :
    Calls Tryz.prog 160 #[.string ⟨#[112, 117, 116]⟩] w fun e w' => e = .returned (.tuple #[T [101, 101], .bool true]) ∧ w' = w := by
  go_enter Tryz.func160, Tryz.ntmps160
  go_wp2
  go_ret2
  exact ⟨rfl, rfl⟩
set_option maxHeartbeats 400000 in
theorem follows_del (w : World) :
    Calls Tryz.prog 160 #[.string ⟨#[100, 101, 108]⟩] w fun e w' => e = .returned (.tuple #[T [101], .bool true]) ∧ w' = w := by
  go_enter Tryz.func160, Tryz.ntmps160
  go_wp2
  go_ret2
  exact ⟨rfl, rfl⟩
set_option maxHeartbeats 400000 in
theorem follows_stop (w : World) :
    Calls Tryz.prog 160 #[.string ⟨#[115, 116, 111, 112]⟩] w fun e w' => e = .returned (.tuple #[T [101], .bool true]) ∧ w' = w := by
  go_enter Tryz.func160, Tryz.ntmps160
  go_wp2
  go_ret2
  exact ⟨rfl, rfl⟩
set_option maxHeartbeats 400000 in
theorem follows_if (w : World) :
    Calls Tryz.prog 160 #[.string ⟨#[105, 102]⟩] w fun e w' => e = .returned (.tuple #[T [101, 123, 115, 125, 123, 115, 125], .bool true]) ∧ w' = w := by
  go_enter Tryz.func160, Tryz.ntmps160
  go_wp2
  go_ret2
  exact ⟨rfl, rfl⟩
set_option maxHeartbeats 400000 in
theorem follows_while (w : World) :
    Calls Tryz.prog 160 #[.string ⟨#[119, 104, 105, 108, 101]⟩] w fun e w' => e = .returned (.tuple #[T [101, 123, 115, 125], .bool true]) ∧ w' = w := by
  go_enter Tryz.func160, Tryz.ntmps160
  go_wp2
  go_ret2
  exact ⟨rfl, rfl⟩
set_option maxHeartbeats 400000 in
theorem follows_fail (w : World) :
    Calls Tryz.prog 160 #[.string ⟨#[102, 97, 105, 108]⟩] w fun e w' => e = .returned (.tuple #[T [], .bool true]) ∧ w' = w := by
  go_enter Tryz.func160, Tryz.ntmps160
  go_wp2
  go_ret2
  exact ⟨rfl, rfl⟩
set_option maxHeartbeats 400000 in
theorem follows_none (s : ByteArray) (w : World) (h0 : (s.toList == [115, 101, 116]) = false) (h1 : (s.toList == [112, 117, 116]) = false) (h2 : (s.toList == [100, 101, 108]) = false) (h3 : (s.toList == [115, 116, 111, 112]) = false) (h4 : (s.toList == [105, 102]) = false) (h5 : (s.toList == [119, 104, 105, 108, 101]) = false) (h6 : (s.toList == [102, 97, 105, 108]) = false) :
    Calls Tryz.prog 160 #[.string s] w fun e w' => e = .returned (.tuple #[T [], .bool false]) ∧ w' = w := by
  go_enter Tryz.func160, Tryz.ntmps160
  go_wp2
  go_ret2
  exact ⟨rfl, rfl⟩
theorem follows_any (s : ByteArray) (w : World) :
    Calls Tryz.prog 160 #[.string s] w fun e w' => e = .returned (.tuple #[T ((Ck.follows s.data.toList).getD []), .bool (Ck.follows s.data.toList).isSome]) ∧ w' = w := by
  unfold Ck.follows
  by_cases h0 : s.data.toList = [115, 101, 116]
  · rw [if_pos h0, bytes_mk h0]; exact follows_set w
  rw [if_neg h0]
  by_cases h1 : s.data.toList = [112, 117, 116]
  · rw [if_pos h1, bytes_mk h1]; exact follows_put w
  rw [if_neg h1]
  by_cases h2 : s.data.toList = [100, 101, 108]
  · rw [if_pos h2, bytes_mk h2]; exact follows_del w
  rw [if_neg h2]
  by_cases h3 : s.data.toList = [115, 116, 111, 112]
  · rw [if_pos h3, bytes_mk h3]; exact follows_stop w
  rw [if_neg h3]
  by_cases h4 : s.data.toList = [105, 102]
  · rw [if_pos h4, bytes_mk h4]; exact follows_if w
  rw [if_neg h4]
  by_cases h5 : s.data.toList = [119, 104, 105, 108, 101]
  · rw [if_pos h5, bytes_mk h5]; exact follows_while w
  rw [if_neg h5]
  by_cases h6 : s.data.toList = [102, 97, 105, 108]
  · rw [if_pos h6, bytes_mk h6]; exact follows_fail w
  rw [if_neg h6]
  exact follows_none s w (beq_no h0) (beq_no h1) (beq_no h2) (beq_no h3) (beq_no h4) (beq_no h5) (beq_no h6)

theorem slot_any (s : ByteArray) (c : UInt8) (w : World) :
    Calls Tryz.prog 162 #[.string s, .int .u8 c.toNat] w fun e w' => e = .returned (.int .i64 (Ck.slot s.data.toList c)) ∧ w' = w := by
  by_cases h : s.size = 2
  · obtain ⟨⟨l⟩⟩ := s
    match l, h with
    | [a, b], _ => exact slot_two a b c w
  · rw [Ck.slot_ne s.data.toList c (by simpa using h)]
    exact slot_not s c w h

set_option maxHeartbeats 400000 in
theorem wants_plus (w : World) :
    Calls Tryz.prog 161 #[.string ⟨#[43]⟩] w fun e w' => e = .returned (.tuple #[T [101, 101], .bool true]) ∧ w' = w := by
  go_enter Tryz.func161, Tryz.ntmps161
  go_wp2
  go_ret2
  exact ⟨rfl, rfl⟩
set_option maxHeartbeats 400000 in
theorem wants_minus (w : World) :
    Calls Tryz.prog 161 #[.string ⟨#[45]⟩] w fun e w' => e = .returned (.tuple #[T [101, 101], .bool true]) ∧ w' = w := by
  go_enter Tryz.func161, Tryz.ntmps161
  go_wp2
  go_ret2
  exact ⟨rfl, rfl⟩
set_option maxHeartbeats 400000 in
theorem wants_times (w : World) :
    Calls Tryz.prog 161 #[.string ⟨#[42]⟩] w fun e w' => e = .returned (.tuple #[T [101, 101], .bool true]) ∧ w' = w := by
  go_enter Tryz.func161, Tryz.ntmps161
  go_wp2
  go_ret2
  exact ⟨rfl, rfl⟩
set_option maxHeartbeats 400000 in
theorem wants_less (w : World) :
    Calls Tryz.prog 161 #[.string ⟨#[60]⟩] w fun e w' => e = .returned (.tuple #[T [101, 101], .bool true]) ∧ w' = w := by
  go_enter Tryz.func161, Tryz.ntmps161
  go_wp2
  go_ret2
  exact ⟨rfl, rfl⟩
set_option maxHeartbeats 400000 in
theorem wants_same (w : World) :
    Calls Tryz.prog 161 #[.string ⟨#[61]⟩] w fun e w' => e = .returned (.tuple #[T [101, 101], .bool true]) ∧ w' = w := by
  go_enter Tryz.func161, Tryz.ntmps161
  go_wp2
  go_ret2
  exact ⟨rfl, rfl⟩
set_option maxHeartbeats 400000 in
theorem wants_at (w : World) :
    Calls Tryz.prog 161 #[.string ⟨#[64]⟩] w fun e w' => e = .returned (.tuple #[T [101], .bool true]) ∧ w' = w := by
  go_enter Tryz.func161, Tryz.ntmps161
  go_wp2
  go_ret2
  exact ⟨rfl, rfl⟩
set_option maxHeartbeats 400000 in
theorem wants_there (w : World) :
    Calls Tryz.prog 161 #[.string ⟨#[35]⟩] w fun e w' => e = .returned (.tuple #[T [101], .bool true]) ∧ w' = w := by
  go_enter Tryz.func161, Tryz.ntmps161
  go_wp2
  go_ret2
  exact ⟨rfl, rfl⟩
set_option maxHeartbeats 400000 in
theorem wants_none (s : ByteArray) (n a v : Int) (w : World) (h0 : (s.toList == [43]) = false) (h1 : (s.toList == [45]) = false) (h2 : (s.toList == [42]) = false) (h3 : (s.toList == [60]) = false) (h4 : (s.toList == [61]) = false) (h5 : (s.toList == [64]) = false) (h6 : (s.toList == [35]) = false)
    (HN : Hid (∀ w, Calls Tryz.prog 139 #[.string s] w fun e w' => e = .returned (.int .i64 n) ∧ w' = w))
    (HA : Hid (∀ w, Calls Tryz.prog 162 #[.string s, .int .u8 97] w fun e w' => e = .returned (.int .i64 a) ∧ w' = w))
    (HV : Hid (∀ w, Calls Tryz.prog 162 #[.string s, .int .u8 118] w fun e w' => e = .returned (.int .i64 v) ∧ w' = w)) :
    Calls Tryz.prog 161 #[.string s] w fun e w' => e = .returned (.tuple #[T [], .bool (decide (0 ≤ n ∨ 0 ≤ a ∨ 0 ≤ v))]) ∧ w' = w := by
  go_enter Tryz.func161, Tryz.ntmps161
  go_wp2_with fail
  refine (HN.out _).mono ?_
  rintro e w' ⟨rfl, rfl⟩
  go_wp2_with fail
  refine (HA.out _).mono ?_
  rintro e w' ⟨rfl, rfl⟩
  go_wp2_with fail
  refine (HV.out _).mono ?_
  rintro e w' ⟨rfl, rfl⟩
  go_wp2
  all_goals go_ret2
  all_goals (refine ⟨ret_two rfl ?_, rfl⟩; first | rfl | (rw [Bool.eq_iff_iff]; simp; try omega))
theorem wants_any (s : ByteArray) (w : World) (hs : s.size ≤ 400) :
    Calls Tryz.prog 161 #[.string s] w fun e w' => e = .returned (.tuple #[T ((Ck.wants s.data.toList).getD []), .bool (Ck.wants s.data.toList).isSome]) ∧ w' = w := by
  unfold Ck.wants
  by_cases h0 : s.data.toList = [43]
  · rw [if_pos h0, bytes_mk h0]; exact wants_plus w
  rw [if_neg h0]
  by_cases h1 : s.data.toList = [45]
  · rw [if_pos h1, bytes_mk h1]; exact wants_minus w
  rw [if_neg h1]
  by_cases h2 : s.data.toList = [42]
  · rw [if_pos h2, bytes_mk h2]; exact wants_times w
  rw [if_neg h2]
  by_cases h3 : s.data.toList = [60]
  · rw [if_pos h3, bytes_mk h3]; exact wants_less w
  rw [if_neg h3]
  by_cases h4 : s.data.toList = [61]
  · rw [if_pos h4, bytes_mk h4]; exact wants_same w
  rw [if_neg h4]
  by_cases h5 : s.data.toList = [64]
  · rw [if_pos h5, bytes_mk h5]; exact wants_at w
  rw [if_neg h5]
  by_cases h6 : s.data.toList = [35]
  · rw [if_pos h6, bytes_mk h6]; exact wants_there w
  rw [if_neg h6]
  refine (wants_none s (Ck.numberR s.data.toList) (Ck.slot s.data.toList 97) (Ck.slot s.data.toList 118) w (beq_no h0) (beq_no h1) (beq_no h2) (beq_no h3) (beq_no h4) (beq_no h5) (beq_no h6) (hide fun w => number_any s w hs) (hide fun w => slot_any s 97 w) (hide fun w => slot_any s 118 w)).mono ?_
  rintro e w' ⟨rfl, rfl⟩
  refine ⟨?_, rfl⟩
  split <;> simp_all

end Go.Proofs.YtellilpeakpbfaaGreatDoor

end

section
/-
  The walks of namedToken and tokenOf: a token's kind and value.
-/
namespace Go.Proofs.YtellilpeakpbfaaGreatDoor
open Go.RowKit

/-- a token, as a value. -/
abbrev K (p : Int × Int) : Value := .agg #[.int .i64 p.1, .int .i64 p.2]

theorem u8_val (c : UInt8) (n : Nat) (hn : n < 256) : ((c.toNat : Int) == (n : Int)) = true ↔ c = UInt8.ofNat n := by
  constructor
  · intro h
    have h1 : (c.toNat : Int) = n := beq_iff_eq.1 h
    apply UInt8.toNat_inj.1
    simp
    omega
  · intro h
    rw [h, beq_iff_eq]
    simp
    omega
theorem slot_eq (a b c : UInt8) : Ck.slot [a, b] c = if a = c ∧ 48 ≤ b.toNat ∧ b.toNat ≤ 51 then (b.toNat : Int) - 48 else -1 := rfl
theorem named_a (a b : UInt8) (ha : ((a.toNat : Int) == 97) = true) (h1 : (48 : Int) ≤ b.toNat) (h4 : (b.toNat : Int) < 52) : Ck.named [a, b] = (2, (b.toNat : Int) - 48) := by
  have e : a = 97 := (u8_val a 97 (by omega)).1 ha
  have s1 : Ck.slot [a, b] 97 = (b.toNat : Int) - 48 := by rw [slot_eq, if_pos ⟨e, by omega, by omega⟩]
  rw [Ck.named, s1, if_pos (by omega)]
theorem named_v (a b : UInt8) (ha : ((a.toNat : Int) == 118) = true) (h1 : (48 : Int) ≤ b.toNat) (h4 : (b.toNat : Int) < 52) : Ck.named [a, b] = (3, (b.toNat : Int) - 48) := by
  have e : a = 118 := (u8_val a 118 (by omega)).1 ha
  have n : a ≠ 97 := by rw [e]; decide
  have s1 : Ck.slot [a, b] 97 = -1 := by rw [slot_eq, if_neg (fun h => n h.1)]
  have s2 : Ck.slot [a, b] 118 = (b.toNat : Int) - 48 := by rw [slot_eq, if_pos ⟨e, by omega, by omega⟩]
  rw [Ck.named, s1, s2, if_neg (by omega), if_pos (by omega)]
theorem named_far (a b : UInt8) (h : ¬ ((48 : Int) ≤ b.toNat ∧ (b.toNat : Int) < 52)) : Ck.named [a, b] = (0, 0) := by
  have s1 : Ck.slot [a, b] 97 = -1 := by rw [slot_eq, if_neg (fun x => h ⟨by omega, by omega⟩)]
  have s2 : Ck.slot [a, b] 118 = -1 := by rw [slot_eq, if_neg (fun x => h ⟨by omega, by omega⟩)]
  rw [Ck.named, s1, s2, if_neg (by omega), if_neg (by omega)]
theorem named_other (a b : UInt8) (ha : ((a.toNat : Int) == 97) = false) (hv : ((a.toNat : Int) == 118) = false) : Ck.named [a, b] = (0, 0) := by
  have n1 : a ≠ 97 := fun e => by have h := (u8_val a 97 (by omega)).2 e; exact absurd (ha.symm.trans h) (by simp)
  have n2 : a ≠ 118 := fun e => by have h := (u8_val a 118 (by omega)).2 e; exact absurd (hv.symm.trans h) (by simp)
  have s1 : Ck.slot [a, b] 97 = -1 := by rw [slot_eq, if_neg (fun x => n1 x.1)]
  have s2 : Ck.slot [a, b] 118 = -1 := by rw [slot_eq, if_neg (fun x => n2 x.1)]
  rw [Ck.named, s1, s2, if_neg (by omega), if_neg (by omega)]

set_option maxHeartbeats 1000000 in
theorem named_two (a b : UInt8) (w : World) :
    Calls Tryz.prog 128 #[.string ⟨#[a, b]⟩] w fun e w' => e = .returned (K (Ck.named [a, b])) ∧ Below w.heap.size w w' := by
  have ea : ((⟨#[a, b]⟩ : ByteArray)[0]'(by show 0 < 2; decide)) = a := rfl
  have eb : ((⟨#[a, b]⟩ : ByteArray)[1]'(by show 1 < 2; decide)) = b := rfl
  have hb : (0 : Int) ≤ b.toNat ∧ (b.toNat : Int) ≤ 255 := by have := b.toNat_lt; omega
  obtain ⟨hb1, hb2⟩ := hb
  by_cases hd : Ck.isDig b = true
  · have HD := hide ((Ck.isDig_iff b).1 hd)
    have hd1 : (48 : Int) ≤ b.toNat := by have := HD.out; omega
    have hd2 : (b.toNat : Int) ≤ 57 := by have := HD.out; omega
    by_cases h4 : (b.toNat : Int) < 52
    · have h5 : (b.toNat : Int) - 48 < 4 := by omega
      cases g1 : ((a.toNat : Int) == 97) with
      | true =>
        have HN := hide (named_a a b g1 hd1 h4)
        go_enter Tryz.func128, Tryz.ntmps128
        go_wp2_with (go_at_call 151; refine (isDigit_any _ _).mono ?_; rintro e w' ⟨rfl, rfl⟩)
        exact bodyPost_ret (v := .agg #[.int .i64 2, .int .i64 ((b.toNat : Int) - 48)]) (by simp [results, Tryz.results128, go_sem]) rfl ⟨by rw [HN.out], (Below.refl _ _).alloc (Nat.le_refl _) _⟩
      | false =>
        cases g2 : ((a.toNat : Int) == 118) with
        | true =>
          have HN := hide (named_v a b g2 hd1 h4)
          go_enter Tryz.func128, Tryz.ntmps128
          go_wp2_with (go_at_call 151; refine (isDigit_any _ _).mono ?_; rintro e w' ⟨rfl, rfl⟩)
          exact bodyPost_ret (v := .agg #[.int .i64 3, .int .i64 ((b.toNat : Int) - 48)]) (by simp [results, Tryz.results128, go_sem]) rfl ⟨by rw [HN.out], (Below.refl _ _).alloc (Nat.le_refl _) _⟩
        | false =>
          have HN := hide (named_other a b g1 g2)
          go_enter Tryz.func128, Tryz.ntmps128
          go_wp2_with (go_at_call 151; refine (isDigit_any _ _).mono ?_; rintro e w' ⟨rfl, rfl⟩)
          exact bodyPost_ret (v := .agg #[.int .i64 0, .int .i64 0]) (by simp [results, Tryz.results128, go_sem]) rfl ⟨by rw [HN.out], (Below.refl _ _).alloc (Nat.le_refl _) _⟩
    · have HN := hide (named_far a b (by omega))
      have h5 : ¬ (b.toNat : Int) - 48 < 4 := by omega
      cases g1 : ((a.toNat : Int) == 97) with
      | true =>
        have g2 : ((a.toNat : Int) == 118) = false := beq_eq_false_iff_ne.2 (by have : (a.toNat : Int) = 97 := beq_iff_eq.1 g1; omega)
        go_enter Tryz.func128, Tryz.ntmps128
        go_wp2_with (go_at_call 151; refine (isDigit_any _ _).mono ?_; rintro e w' ⟨rfl, rfl⟩)
        exact bodyPost_ret (v := .agg #[.int .i64 0, .int .i64 0]) (by simp [results, Tryz.results128, go_sem]) rfl ⟨by rw [HN.out], (Below.refl _ _).alloc (Nat.le_refl _) _⟩
      | false =>
        cases g2 : ((a.toNat : Int) == 118) with
        | true =>
          go_enter Tryz.func128, Tryz.ntmps128
          go_wp2_with (go_at_call 151; refine (isDigit_any _ _).mono ?_; rintro e w' ⟨rfl, rfl⟩)
          exact bodyPost_ret (v := .agg #[.int .i64 0, .int .i64 0]) (by simp [results, Tryz.results128, go_sem]) rfl ⟨by rw [HN.out], (Below.refl _ _).alloc (Nat.le_refl _) _⟩
        | false =>
          go_enter Tryz.func128, Tryz.ntmps128
          go_wp2_with (go_at_call 151; refine (isDigit_any _ _).mono ?_; rintro e w' ⟨rfl, rfl⟩)
          exact bodyPost_ret (v := .agg #[.int .i64 0, .int .i64 0]) (by simp [results, Tryz.results128, go_sem]) rfl ⟨by rw [HN.out], (Below.refl _ _).alloc (Nat.le_refl _) _⟩
  · have hd' : Ck.isDig b = false := by simpa using hd
    have HN := hide (named_far a b (fun h => hd ((Ck.isDig_iff b).2 ⟨by omega, by omega⟩)))
    clear hd
    go_enter Tryz.func128, Tryz.ntmps128
    go_wp2_with (go_at_call 151; refine (isDigit_any _ _).mono ?_; rintro e w' ⟨rfl, rfl⟩)
    exact bodyPost_ret (v := .agg #[.int .i64 0, .int .i64 0]) (by simp [results, Tryz.results128, go_sem]) rfl ⟨by rw [HN.out], (Below.refl _ _).alloc (Nat.le_refl _) _⟩

set_option maxHeartbeats 400000 in
theorem named_not (s : ByteArray) (w : World) (h : s.size ≠ 2) :
    Calls Tryz.prog 128 #[.string s] w fun e w' => e = .returned (K (0, 0)) ∧ Below w.heap.size w w' := by
  have h2 : ((s.size : Int) != 2) = true := by simp; omega
  go_enter Tryz.func128, Tryz.ntmps128
  go_wp2
  exact bodyPost_ret (v := .agg #[.int .i64 0, .int .i64 0]) (by simp [results, Tryz.results128, go_sem]) rfl ⟨rfl, (Below.refl _ _).alloc (Nat.le_refl _) _⟩

theorem named_any (s : ByteArray) (w : World) :
    Calls Tryz.prog 128 #[.string s] w fun e w' => e = .returned (K (Ck.named s.data.toList)) ∧ Below w.heap.size w w' := by
  by_cases h : s.size = 2
  · obtain ⟨⟨l⟩⟩ := s
    match l, h with
    | [a, b], _ => exact named_two a b w
  · have e : Ck.named s.data.toList = (0, 0) := by
      unfold Ck.named
      rw [Ck.slot_ne s.data.toList 97 (by simpa using h), Ck.slot_ne s.data.toList 118 (by simpa using h)]
      rfl
    rw [e]
    exact named_not s w h

/-- The words of package source, where they lie. -/
def WordsAt (w : World) : Prop := 0 < w.heap.size ∧ ∀ k, k < 16 → w.cell? ⟨0, k, none⟩ = some (.string ⟨(Ck.wordsL.getD k []).toArray⟩)
theorem WordsAt.below {B : Nat} {w w' : World} (h : WordsAt w) (hB : 0 < B) (hb : Below B w w') : WordsAt w' :=
  ⟨Nat.lt_of_lt_of_le h.1 hb.size, fun k hk => (hb.cell (p := ⟨0, k, none⟩) hB).trans (h.2 k hk)⟩

theorem idx_found (l : List UInt8) (k : Nat) (hk : k < 16) (hb : ∀ j, j < k → Ck.wordsL.getD j [] ≠ l) (h : Ck.wordsL.getD k [] = l) : Ck.wordsL.idxOf l = k := by
  have hl : Ck.wordsL.length = 16 := rfl
  have hk' : k < Ck.wordsL.length := by omega
  have e : Ck.wordsL[k] = l := by rw [← h]; simp [List.getD, hk']
  rcases Nat.lt_trichotomy (Ck.wordsL.idxOf l) k with c | c | c
  · exfalso
    apply hb _ c
    have hc : Ck.wordsL.idxOf l < Ck.wordsL.length := by omega
    have := List.getElem_idxOf hc
    simp [List.getD, hc, this]
  · exact c
  · exfalso
    have := List.not_of_lt_findIdx (p := fun x => x == l) (xs := Ck.wordsL) c
    rw [e] at this
    simp at this
theorem idx_none (l : List UInt8) (hb : ∀ j, j < 16 → Ck.wordsL.getD j [] ≠ l) : ¬ Ck.wordsL.idxOf l < 16 := by
  intro c
  apply hb _ c
  have hc : Ck.wordsL.idxOf l < Ck.wordsL.length := c
  have := List.getElem_idxOf hc
  simp [List.getD, hc, this]

set_option maxHeartbeats 1000000 in
set_option maxRecDepth 100000 in
theorem tokenOf_any (s : ByteArray) (w : World) (hs : s.size ≤ 400) (hW : WordsAt w) :
    Calls Tryz.prog 83 #[.string s] w fun e w' => e = .returned (K (Ck.tokenP s.data.toList)) ∧ Below w.heap.size w w' := by
  have HN := hide (numberIn_any s)
  have HM := hide (named_any s)
  obtain ⟨hw0, hwc⟩ := hW
  have HWC := hide hwc
  clear hwc
  go_enter Tryz.func83, Tryz.ntmps83
  go_wp2
  go_loop [3] (fun i => ∃ k : Nat, k ≤ 16 ∧ i = .int .i64 k ∧ ∀ j, j < k → Ck.wordsL.getD j [] ≠ s.data.toList) (fun i => 16 - (intOf i).toNat)
  case atStart => exact ⟨0, by omega, rfl, by intro j hj; omega⟩
  case round =>
    obtain ⟨k, hk, rfl, hall⟩ := hrel
    have HA := hide hall
    clear hall
    by_cases hlt : k < 16
    · have hc := HWC.out k hlt
      obtain ⟨wk, hwk⟩ : ∃ wk : ByteArray, wk = ⟨(Ck.wordsL.getD k []).toArray⟩ := ⟨_, rfl⟩
      rw [← hwk] at hc
      have HWK := hide hwk
      clear hwk
      cases ht : (wk.toList == s.toList) with
      | true =>
        have HX : Hid (Ck.tokenP s.data.toList = (4 + (k : Int), 0)) := by
          show _ = _
          rw [ByteArray.toList_eq, ByteArray.toList_eq, HWK.out] at ht
          have h1 := idx_found s.data.toList k hlt HA.out (by simpa using ht)
          rw [Ck.tokenP, h1, if_pos hlt]
        go_wp2
        exact bodyPost_ret (v := .agg #[.int .i64 (4 + (k : Int)), .int .i64 0]) (by simp [results, Tryz.results83, go_sem]) rfl ⟨by rw [HX.out], (Below.refl _ _).alloc (Nat.le_refl _) _⟩
      | false =>
        go_wp2
        go_round
        case rel =>
          refine ⟨k + 1, by omega, by go_num, fun j hj => ?_⟩
          by_cases hjk : j < k
          · exact HA.out j hjk
          · have : j = k := by omega
            subst this
            rw [ByteArray.toList_eq, ByteArray.toList_eq, HWK.out] at ht
            simpa using ht
        case measure => simp [intOf]; omega
    · have hidx := idx_none s.data.toList (fun j hj => HA.out j (by omega))
      cases hn : Ck.numIn s.data.toList with
      | some n =>
        have HX : Hid (Ck.tokenP s.data.toList = (1, (n : Int))) := by
          show _ = _
          rw [Ck.tokenP, if_neg hidx, hn]
        rw [hn] at HN
        clear hidx hn
        go_wp2_with (go_at_call 127; refine (HN.out _ hs).mono ?_; rintro e w' ⟨rfl, rfl⟩)
        exact bodyPost_ret (v := .agg #[.int .i64 1, .int .i64 (n : Int)]) (by simp [results, Tryz.results83, go_sem]) rfl ⟨by rw [HX.out], (Below.refl _ _).alloc (Nat.le_refl _) _⟩
      | none =>
        have HX : Hid (Ck.tokenP s.data.toList = Ck.named s.data.toList) := by
          show _ = _
          rw [Ck.tokenP, if_neg hidx, hn]
        rw [hn] at HN
        generalize Ck.named s.data.toList = p at *
        obtain ⟨pk, pv⟩ := p
        clear hidx hn
        go_wp2_with (go_at_call 127; refine (HN.out _ hs).mono ?_; rintro e w' ⟨rfl, rfl⟩)
        refine (HM.out _).mono ?_
        rintro e w' ⟨rfl, hb⟩
        have c0 : w'.cell? ⟨w.heap.size, 0, none⟩ = some (.int .i64 0) := (hb.cell (p := ⟨w.heap.size, 0, none⟩) (by simp)).trans (by simp)
        have c1 : w'.cell? ⟨w.heap.size, 1, none⟩ = some (.int .i64 0) := (hb.cell (p := ⟨w.heap.size, 1, none⟩) (by simp)).trans (by simp)
        have f0 : w'.frozen? ⟨w.heap.size, 0, none⟩ = false := (hb.frozen (p := ⟨w.heap.size, 0, none⟩) (by simp)).trans (by simp)
        have f1 : w'.frozen? ⟨w.heap.size, 1, none⟩ = false := (hb.frozen (p := ⟨w.heap.size, 1, none⟩) (by simp)).trans (by simp)
        have HB : Hid (Below w.heap.size w w') := ((Below.refl _ _).alloc (Nat.le_refl _) _).trans (hb.mono (by simp))
        clear hb
        go_wp2
        refine bodyPost_ret (v := .agg #[.int .i64 pk, .int .i64 pv]) (by simp [results, Tryz.results83, go_sem, c0, c1]) rfl ⟨by rw [HX.out], ?_⟩
        exact (HB.out.setCell (p := ⟨w.heap.size, 0, none⟩) (Nat.le_refl _) _).setCell (p := ⟨w.heap.size, 1, none⟩) (Nat.le_refl _) _
end Go.Proofs.YtellilpeakpbfaaGreatDoor

end
