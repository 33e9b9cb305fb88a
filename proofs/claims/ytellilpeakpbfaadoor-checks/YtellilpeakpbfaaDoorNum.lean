import Derived.Test.YtellilpeakpbfaaDoorLeaf
/-
  The walks of Number and numberIn.
-/
namespace Go.Proofs.YtellilpeakpbfaaDoor
open Go.RowKit

theorem take_snoc (s : ByteArray) (k : Nat) (h : k < s.size) : s.data.toList.take (k + 1) = s.data.toList.take k ++ [s[k]] := by
  rw [List.take_succ_eq_append_getElem (by simpa using h)]; rfl
theorem take_all (s : ByteArray) (k : Nat) (h : ¬ k < s.size) : s.data.toList.take k = s.data.toList :=
  List.take_of_length_le (by simp; have : s.data.size = s.size := rfl; omega)
theorem val_bd (s : ByteArray) (k : Nat) (h6 : k ≤ 6) (hd : ∀ c ∈ s.data.toList.take k, Ck.isDig c = true) : (Ck.val (s.data.toList.take k) : Int) ≤ 999999 := by
  have h1 := Ck.val_lt _ hd
  have h2 : 10 ^ (s.data.toList.take k).length ≤ 10 ^ 6 := Nat.pow_le_pow_right (by omega) (by simp; omega)
  omega
theorem numR_not (s : ByteArray) (k : Nat) (hlt : k < s.size) (h : ¬ (s.size ≤ 6) ∨ Ck.isDig s[k] = false) : Ck.numberR s.data.toList = -1 := by
  have hl : s.data.toList.length = s.size := by simp
  unfold Ck.numberR
  rw [if_neg, if_neg]
  · intro h0; rw [h0] at hl; simp at hl; omega
  · rintro ⟨a, b⟩
    rcases h with h | h
    · omega
    · have := b s[k] (by rw [← List.take_append_drop (k + 1) s.data.toList, take_snoc s k hlt]; simp)
      rw [this] at h; cases h

set_option maxHeartbeats 400000 in
theorem number_any (s : ByteArray) (w : World) (hs : s.size ≤ 400) :
    Calls Tryd.prog 26 #[.string s] w fun e w' => e = .returned (.int .i64 (Ck.numberR s.data.toList)) ∧ w' = w := by
  go_enter Tryd.func26, Tryd.ntmps26
  go_wp2
  go_loop [3, 4] (fun n i => ∃ k : Nat, k ≤ s.size ∧ i = .int .i64 k ∧ n = .int .i64 (Ck.val (s.data.toList.take k)) ∧ (k = 0 ∨ s.size ≤ 6) ∧ (∀ c ∈ s.data.toList.take k, Ck.isDig c = true)) (fun _ i => s.size - (intOf i).toNat)
  case atStart => exact ⟨0, Nat.zero_le _, rfl, rfl, Or.inl rfl, by simp⟩
  case round =>
    obtain ⟨k, hk, rfl, rfl, h6, hd⟩ := hrel
    have hv := val_bd s k (by omega) hd
    have hv0 : (0 : Int) ≤ (Ck.val (s.data.toList.take k) : Int) := by omega
    have HD := hide hd
    clear hd
    by_cases hlt : k < s.size
    · have hc : (0 : Int) ≤ s[k].toNat ∧ (s[k].toNat : Int) ≤ 255 := by have := s[k].toNat_lt; omega
      obtain ⟨hc0, hc1⟩ := hc
      by_cases hg : (48 ≤ (s[k].toNat : Int) ∧ (s[k].toNat : Int) ≤ 57) ∧ s.size ≤ 6
      · obtain ⟨⟨g1, g2⟩, g3⟩ := hg
        have HS := hide (take_snoc s k hlt)
        have HI : Hid (Ck.isDig s[k] = true) := (Ck.isDig_iff _).2 ⟨by omega, by omega⟩
        go_wp2
        go_round
        case rel =>
          refine ⟨k + 1, by omega, by go_num, ?_, Or.inr g3, ?_⟩
          · rw [HS.out, Ck.val_snoc]; go_num
          · rw [HS.out]
            intro c hc
            rcases List.mem_append.1 hc with h | h
            · exact HD.out c h
            · simp at h; rw [h]; exact HI.out
        case measure => simp [intOf]; omega
      · have HN : Hid (Ck.numberR s.data.toList = -1) := numR_not s k hlt (by
          by_cases g : s.size ≤ 6
          · right
            have : ¬ (Ck.isDig s[k] = true) := fun h => by have := (Ck.isDig_iff _).1 h; omega
            simpa using this
          · exact Or.inl g)
        go_wp2
        all_goals go_ret
        all_goals exact ⟨ret_int HN.out.symm, rfl⟩
    · have HT := hide (take_all s k hlt)
      go_wp2
      go_ret
      refine ⟨ret_int ?_, rfl⟩
      have hl : s.data.toList.length = s.size := by simp
      show (Ck.val (s.data.toList.take k) : Int) = _
      have hd := HD.out
      rw [HT.out] at hd ⊢
      unfold Ck.numberR
      by_cases g : s.size ≤ 6
      · rw [if_pos ⟨by omega, hd⟩]
      · omega

theorem numIn_not (s : ByteArray) (k : Nat) (hlt : k < s.size) (h : Ck.isDig s[k] = false) : Ck.numIn s.data.toList = none := by
  unfold Ck.numIn
  rw [if_neg]
  rintro ⟨_, _, b⟩
  have := b s[k] (by rw [← List.take_append_drop (k + 1) s.data.toList, take_snoc s k hlt]; simp)
  rw [this] at h; cases h

set_option maxHeartbeats 400000 in
theorem numberIn_any (s : ByteArray) (w : World) (hs : s.size ≤ 400) :
    Calls Tryd.prog 31 #[.string s] w fun e w' => e = .returned (.tuple #[.int .i64 ((Ck.numIn s.data.toList).getD 0 : Nat), .bool (Ck.numIn s.data.toList).isSome]) ∧ w' = w := by
  by_cases hg : 1 ≤ s.size ∧ s.size ≤ 6
  · obtain ⟨g1, g2⟩ := hg
    have hz : ((s.size : Int) == 0) = false := beq_eq_false_iff_ne.2 (by omega)
    go_enter Tryd.func31, Tryd.ntmps31
    go_wp2
    go_loop [4, 5] (fun n i => ∃ k : Nat, k ≤ s.size ∧ i = .int .i64 k ∧ n = .int .i64 (Ck.val (s.data.toList.take k)) ∧ (∀ c ∈ s.data.toList.take k, Ck.isDig c = true)) (fun _ i => s.size - (intOf i).toNat)
    case atStart => exact ⟨0, Nat.zero_le _, rfl, rfl, by simp⟩
    case round =>
      obtain ⟨k, hk, rfl, rfl, hd⟩ := hrel
      have hv := val_bd s k (by omega) hd
      have hv0 : (0 : Int) ≤ (Ck.val (s.data.toList.take k) : Int) := by omega
      have HD := hide hd
      clear hd
      by_cases hlt : k < s.size
      · have hc : (0 : Int) ≤ s[k].toNat ∧ (s[k].toNat : Int) ≤ 255 := by have := s[k].toNat_lt; omega
        obtain ⟨hc0, hc1⟩ := hc
        by_cases hg : Ck.isDig s[k] = true
        · obtain ⟨g1', g2'⟩ := (Ck.isDig_iff _).1 hg
          have e1 : (48 : Int) ≤ (s[k].toNat : Int) := by omega
          have e2 : (s[k].toNat : Int) ≤ 57 := by omega
          have HS := hide (take_snoc s k hlt)
          clear g1' g2'
          go_wp2_with (go_at_call 47; refine (isDigit_any _ _).mono ?_; rintro e w' ⟨rfl, rfl⟩)
          go_round
          case rel =>
            refine ⟨k + 1, by omega, by go_num, ?_, ?_⟩
            · rw [HS.out, Ck.val_snoc]; go_num
            · rw [HS.out]
              intro c hc
              rcases List.mem_append.1 hc with h | h
              · exact HD.out c h
              · simp at h; rw [h]; exact hg
          case measure => simp [intOf]; omega
        · have hg' : Ck.isDig s[k] = false := by simpa using hg
          have HN := hide (numIn_not s k hlt hg')
          clear hg
          go_wp2_with (go_at_call 47; refine (isDigit_any _ _).mono ?_; rintro e w' ⟨rfl, rfl⟩)
          go_ret2
          rw [HN.out]
          exact ⟨rfl, rfl⟩
      · have HT := hide (take_all s k hlt)
        go_wp2
        go_ret2
        have hd := HD.out
        have hl : s.data.toList.length = s.size := by simp
        have hN : Ck.numIn s.data.toList = some (Ck.val (s.data.toList.take k)) := by
          rw [HT.out] at hd ⊢
          unfold Ck.numIn
          rw [if_pos ⟨by omega, by omega, hd⟩]
        rw [hN]
        exact ⟨rfl, rfl⟩
  · have HN : Hid (Ck.numIn s.data.toList = none) := by
      show _ = _
      unfold Ck.numIn
      rw [if_neg]
      have hl : s.data.toList.length = s.size := by simp
      rintro ⟨a, b, _⟩
      omega
    by_cases h0 : s.size = 0
    · have hz : ((s.size : Int) == 0) = true := beq_iff_eq.2 (by omega)
      have H0 := hide h0
      clear h0
      go_enter Tryd.func31, Tryd.ntmps31
      go_wp2
      all_goals go_ret2
      all_goals rw [HN.out]
      all_goals exact ⟨rfl, rfl⟩
    · have hz : ((s.size : Int) == 0) = false := beq_eq_false_iff_ne.2 (by omega)
      have h7 : (6 : Int) < s.size := by omega
      go_enter Tryd.func31, Tryd.ntmps31
      go_wp2
      all_goals go_ret2
      all_goals rw [HN.out]
      all_goals exact ⟨rfl, rfl⟩
end Go.Proofs.YtellilpeakpbfaaDoor
