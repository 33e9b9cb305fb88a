import Derived.Test.YtellilpeakpbfaaDoorContI
/-
  The walks of journal.cut and journal.numberIn.
-/
namespace Go.Proofs.YtellilpeakpbfaaDoor
open Go.RowKit

theorem cut_none_of (m : UInt8) (l : List UInt8) (h : m ∉ l) : Jn.cutAt m l = none := by
  induction l with
  | nil => rfl
  | cons c r ih =>
    simp only [List.mem_cons, not_or] at h
    rw [Jn.cutAt, if_neg (fun e => h.1 e.symm), ih h.2]; rfl
theorem cut_here (m : UInt8) (s : ByteArray) (k : Nat) (hk : k < s.size) (h : m ∉ s.data.toList.take k) (he : s[k] = m) : Jn.cutAt m s.data.toList = some ((s.extract 0 k).data.toList, (s.extract (k + 1) s.size).data.toList) := by
  have e1 : s.data.toList = s.data.toList.take k ++ m :: s.data.toList.drop (k + 1) := by
    rw [← he]
    conv => lhs; rw [← List.take_append_drop (k + 1) s.data.toList, take_snoc s k hk]
    simp
  have e2 : (s.extract 0 k).data.toList = s.data.toList.take k := by simp
  have e3 : (s.extract (k + 1) s.size).data.toList = s.data.toList.drop (k + 1) := by
    simp
    rw [List.take_of_length_le (by simp)]
  rw [e2, e3]
  conv => lhs; rw [e1]
  exact Jn.cut_mk m _ _ h

/-- what cut answers. -/
def CutPost (m : UInt8) (l : List UInt8) (e : Ending) : Prop :=
  ∃ A B b, e = .returned (.tuple #[.string A, .string B, .bool b]) ∧ ((b = true ∧ Jn.cutAt m l = some (A.data.toList, B.data.toList)) ∨ (b = false ∧ Jn.cutAt m l = none))
set_option maxHeartbeats 1000000 in
theorem cut_any (s : ByteArray) (m : UInt8) (w : World) (hs : s.size ≤ 1152921504606846976) :
    Calls Tryd.prog 40 #[.string s, .int .u8 m.toNat] w fun e w' => CutPost m s.data.toList e ∧ Below w.heap.size w w' := by
  go_enter Tryd.func40, Tryd.ntmps40
  go_wp2
  go_loop [7] (fun i => ∃ k : Nat, k ≤ s.size ∧ i = .int .i64 k ∧ m ∉ s.data.toList.take k) (fun i => s.size - (intOf i).toNat)
  case atStart => exact ⟨0, Nat.zero_le _, rfl, by simp⟩
  case round =>
    obtain ⟨k, hk, rfl, hd⟩ := hrel
    have HD := hide hd
    clear hd
    by_cases hlt : k < s.size
    · have hu := u8_eq s[k] m
      have HU := hide hu
      clear hu
      cases ht : ((s[k].toNat : Int) == (m.toNat : Int)) with
      | true =>
        have HC := hide (cut_here m s k hlt HD.out (HU.out.1 (by simpa using ht)))
        go_wp2
        go_quiet (fail)
        go_wp2
        go_ret3
        exact ⟨⟨_, _, _, rfl, .inl ⟨rfl, HC.out⟩⟩, below_drewN (Below.refl _ _) _⟩
      | false =>
        have HS := hide (take_snoc s k hlt)
        have HN : Hid (¬ s[k] = m) := fun e => by rw [HU.out.2 e] at ht; simp at ht
        go_wp2
        go_round
        case rel =>
          refine ⟨k + 1, by omega, by go_num, ?_⟩
          rw [HS.out]
          intro h
          rcases List.mem_append.1 h with h | h
          · exact HD.out h
          · simp at h; exact HN.out h.symm
        case measure => simp [intOf]; omega
    · have HT := hide (take_all s k hlt)
      go_wp2
      go_ret3
      refine ⟨⟨⟨#[]⟩, ⟨#[]⟩, false, rfl, .inr ⟨rfl, cut_none_of m _ ?_⟩⟩, Below.refl _ _⟩
      have := HD.out
      rw [HT.out] at this
      exact this

/-- the value of the first k digits. -/
theorem dv_snoc (l : List UInt8) (c : UInt8) : Jn.digitsVal (l ++ [c]) = Jn.digitsVal l * 10 + (c.toNat - 48) := by simp [Jn.digitsVal]
theorem dv_lt (l : List UInt8) : (∀ c ∈ l, Ck.isDig c = true) → Jn.digitsVal l < 10 ^ l.length := by
  induction l using Ck.snoc_ind with
  | h0 => simp [Jn.digitsVal]
  | h1 l c ih =>
    intro h
    rw [dv_snoc]
    have h1 := ih (fun d hd => h d (by simp [hd]))
    have h2 := (Ck.isDig_iff c).1 (h c (by simp))
    simp only [List.length_append, List.length_cons, List.length_nil, Nat.pow_succ, Nat.zero_add] at h1 ⊢
    omega
theorem dv_bd (s : ByteArray) (k : Nat) (h6 : k ≤ 10) (hd : ∀ c ∈ s.data.toList.take k, Ck.isDig c = true) : (Jn.digitsVal (s.data.toList.take k) : Int) ≤ 9999999999 := by
  have h1 := dv_lt _ hd
  have h2 : 10 ^ (s.data.toList.take k).length ≤ 10 ^ 10 := Nat.pow_le_pow_right (by omega) (by simp; omega)
  omega

/-- The part of numberIn that is the same with and without a sign: 'none', or the value of the digits. -/
def digs (l : List UInt8) : Option Nat := if l = [] ∨ 10 < l.length then none else if l.all Ck.isDig then some (Jn.digitsVal l) else none
theorem digs_all (s : ByteArray) (h1 : 1 ≤ s.size) (h2 : s.size ≤ 10) (h : ∀ c ∈ s.data.toList, Ck.isDig c = true) : digs s.data.toList = some (Jn.digitsVal s.data.toList) := by
  have hl : s.data.toList.length = s.size := by simp
  unfold digs
  rw [if_neg, if_pos (List.all_eq_true.2 h)]
  rintro (h0 | h0)
  · rw [h0] at hl; simp at hl; omega
  · omega
theorem digs_not (s : ByteArray) (k : Nat) (hk : k < s.size) (h : Ck.isDig s[k] = false) : digs s.data.toList = none := by
  unfold digs
  split
  · rfl
  · rw [if_neg]
    intro ha
    rw [all_take Ck.isDig s k hk h] at ha; cases ha
theorem digs_size (s : ByteArray) (h : s.size = 0 ∨ 10 < s.size) : digs s.data.toList = none := by
  have hl : s.data.toList.length = s.size := by simp
  unfold digs
  rw [if_pos]
  rcases h with h | h
  · left; exact List.length_eq_zero_iff.1 (by omega)
  · right; omega
theorem numIn_pos (l : List UInt8) (h : l.head? ≠ some 45) : Jn.numberIn l = (digs l).map fun n => (n : Int) := by
  unfold Jn.numberIn digs
  simp only [decide_eq_false h, Bool.false_eq_true, if_false]
  by_cases h1 : l = [] ∨ 10 < l.length
  · rw [if_pos h1, if_pos h1]; rfl
  · rw [if_neg h1, if_neg h1]
    cases l.all Ck.isDig <;> rfl
theorem numIn_neg (l : List UInt8) : Jn.numberIn (45 :: l) = (digs l).map fun n => -(n : Int) := by
  unfold Jn.numberIn digs
  simp only [List.head?_cons, decide_true, if_true, List.tail_cons]
  by_cases h1 : l = [] ∨ 10 < l.length
  · rw [if_pos h1, if_pos h1]; rfl
  · rw [if_neg h1, if_neg h1]
    cases l.all Ck.isDig <;> rfl

def jn (o : Option Int) : Value := .tuple #[.int .i64 (o.getD 0), .bool o.isSome]


set_option maxHeartbeats 2000000 in
set_option maxRecDepth 100000 in
theorem numJ_pos (s : ByteArray) (w : World) (hs : s.size ≤ 1152921504606846976) (hn : s.data.toList.head? ≠ some 45) :
    Calls Tryd.prog 54 #[.string s] w fun e w' => e = .returned (jn (Jn.numberIn s.data.toList)) ∧ w' = w := by
  rw [numIn_pos _ hn]
  obtain ⟨r, hr⟩ : ∃ r, r = (digs s.data.toList).map fun n => (n : Int) := ⟨_, rfl⟩
  rw [← hr]
  have HR := hide hr
  have hne0 : ∀ h : 0 < s.size, ((s[0].toNat : Int) == 45) = false := by
    intro h0
    rw [head_rest s h0] at hn
    simp at hn
    simp
    intro e
    exact hn (UInt8.toNat_inj.1 (by simp; omega))
  have HNE := hide hne0
  clear hr hn hne0
  by_cases hz : s.size = 0
  · have HN := hide (digs_size s (.inl hz))
    have t1 : decide (0 < (s.size : Int)) = false := decide_eq_false (by omega)
    have t2 : ((s.size : Int) == 0) = true := beq_iff_eq.2 (by omega)
    clear hz
    go_enter Tryd.func54, Tryd.ntmps54
    go_wp2
    go_ret2
    rw [HR.out, HN.out]; exact ⟨rfl, rfl⟩
  have h1 : 0 < s.size := by omega
  have hne := HNE.out h1
  have t1 : decide (0 < (s.size : Int)) = true := decide_eq_true (by omega)
  have t2 : ((s.size : Int) == 0) = false := beq_eq_false_iff_ne.2 (by omega)
  by_cases hb : 10 < s.size
  · have HN := hide (digs_size s (.inr hb))
    have t3 : decide (10 < (s.size : Int)) = true := decide_eq_true (by omega)
    go_enter Tryd.func54, Tryd.ntmps54
    go_wp2
    go_ret2
    rw [HR.out, HN.out]; exact ⟨rfl, rfl⟩
  · have t3 : decide (10 < (s.size : Int)) = false := decide_eq_false (by omega)
    have h2 : s.size ≤ 10 := by omega
    go_enter Tryd.func54, Tryd.ntmps54
    go_wp2
    go_loop [6, 7] (fun n i => ∃ k : Nat, k ≤ s.size ∧ i = .int .i64 k ∧ n = .int .i64 (Jn.digitsVal (s.data.toList.take k)) ∧ (∀ c ∈ s.data.toList.take k, Ck.isDig c = true)) (fun _ i => s.size - (intOf i).toNat)
    case atStart => exact ⟨0, Nat.zero_le _, rfl, rfl, by simp⟩
    case round =>
      obtain ⟨k, hk, rfl, rfl, hd⟩ := hrel
      have hv := dv_bd s k (by omega) hd
      have hv0 : (0 : Int) ≤ (Jn.digitsVal (s.data.toList.take k) : Int) := by omega
      have HD := hide hd
      clear hd
      by_cases hlt : k < s.size
      · have hc : (0 : Int) ≤ s[k].toNat ∧ (s[k].toNat : Int) ≤ 255 := by have := s[k].toNat_lt; omega
        obtain ⟨hc0, hc1⟩ := hc
        by_cases hg : 48 ≤ (s[k].toNat : Int) ∧ (s[k].toNat : Int) ≤ 57
        · obtain ⟨g1, g2⟩ := hg
          have HS := hide (take_snoc s k hlt)
          have HI : Hid (Ck.isDig s[k] = true) := (Ck.isDig_iff _).2 ⟨by omega, by omega⟩
          go_wp2
          go_round
          case rel =>
            refine ⟨k + 1, by omega, by go_num, ?_, ?_⟩
            · rw [HS.out, dv_snoc]; go_num
            · rw [HS.out]
              intro c hc
              rcases List.mem_append.1 hc with h | h
              · exact HD.out c h
              · simp at h; rw [h]; exact HI.out
          case measure => simp [intOf]; omega
        · have HN := hide (digs_not s k hlt (by
            have : ¬ (Ck.isDig s[k] = true) := fun h => by have := (Ck.isDig_iff _).1 h; omega
            simpa using this))
          go_wp2
          all_goals go_ret2
          all_goals (rw [HR.out, HN.out]; exact ⟨rfl, rfl⟩)
      · have HT := hide (take_all s k hlt)
        go_wp2
        go_ret2
        have hd := HD.out
        rw [HT.out] at hd
        rw [HR.out, digs_all s h1 h2 hd, HT.out]
        exact ⟨rfl, rfl⟩
end Go.Proofs.YtellilpeakpbfaaDoor
