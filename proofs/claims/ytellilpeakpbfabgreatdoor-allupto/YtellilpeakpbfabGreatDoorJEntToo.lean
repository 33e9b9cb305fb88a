import Derived.Test.YtellilpeakpbfabGreatDoorContIToo
section
/-
  The walks of journal.cut and journal.numberIn.
-/
namespace Go.Proofs.YtellilpeakpbfabGreatDoor
open Go.RowKit

theorem cut_none_of (m : UInt8) (l : List UInt8) (h : m ∉ l) : Jn.cutAt m l = none := by
  induction l with
  | nil => rfl
  | cons c r ih =>
    simp only [List.mem_cons, not_or] at h
    rw [Jn.cutAt, if_neg (fun e => h.1 e.symm), ih h.2]; rfl
theorem cut_here (m : UInt8) (s : ByteArray) (k : Nat) (hk : k < s.size) (h : m ∉ s.data.toList.take k) (he : s[k] = m) : Jn.cutAt m s.data.toList = some ((s.extract 0 k).data.toList, (s.extract (k + 1) s.size).data.toList) := by
  have e1 : s.data.toList = s.data.toList.take k ++ m :: s.data.toList.drop (k + 1) := by
    rw [← he]
    conv => lhs; rw [← List.take_append_drop (k + 1) s.data.toList, take_snoc s k hk]
    simp
  have e2 : (s.extract 0 k).data.toList = s.data.toList.take k := by simp
  have e3 : (s.extract (k + 1) s.size).data.toList = s.data.toList.drop (k + 1) := by
    simp
    rw [List.take_of_length_le (by simp)]
  rw [e2, e3]
  conv => lhs; rw [e1]
  exact Jn.cut_mk m _ _ h

/-- what cut answers. -/
def CutPost (m : UInt8) (l : List UInt8) (e : Ending) : Prop :=
  ∃ A B b, e = .returned (.tuple #[.string A, .string B, .bool b]) ∧ ((b = true ∧ Jn.cutAt m l = some (A.data.toList, B.data.toList)) ∨ (b = false ∧ Jn.cutAt m l = none))
set_option maxHeartbeats 1000000 in
theorem cut_any (s : ByteArray) (m : UInt8) (w : World) (hs : s.size ≤ 1152921504606846976) :
    Calls Tryz.prog 97 #[.string s, .int .u8 m.toNat] w fun e w' => CutPost m s.data.toList e ∧ Below w.heap.size w w' := by
  go_enter Tryz.func97, Tryz.ntmps97
  go_wp2
  go_loop [7] (fun i => ∃ k : Nat, k ≤ s.size ∧ i = .int .i64 k ∧ m ∉ s.data.toList.take k) (fun i => s.size - (intOf i).toNat)
  case atStart => exact ⟨0, Nat.zero_le _, rfl, by simp⟩
  case round =>
    obtain ⟨k, hk, rfl, hd⟩ := hrel
    have HD := hide hd
    clear hd
    by_cases hlt : k < s.size
    · have hu := u8_eq s[k] m
      have HU := hide hu
      clear hu
      cases ht : ((s[k].toNat : Int) == (m.toNat : Int)) with
      | true =>
        have HC := hide (cut_here m s k hlt HD.out (HU.out.1 (by simpa using ht)))
        go_wp2
        go_quiet (fail)
        go_wp2
        go_ret3
        exact ⟨⟨_, _, _, rfl, .inl ⟨rfl, HC.out⟩⟩, below_drewN (Below.refl _ _) _⟩
      | false =>
        have HS := hide (take_snoc s k hlt)
        have HN : Hid (¬ s[k] = m) := fun e => by rw [HU.out.2 e] at ht; simp at ht
        go_wp2
        go_round
        case rel =>
          refine ⟨k + 1, by omega, by go_num, ?_⟩
          rw [HS.out]
          intro h
          rcases List.mem_append.1 h with h | h
          · exact HD.out h
          · simp at h; exact HN.out h.symm
        case measure => simp [intOf]; omega
    · have HT := hide (take_all s k hlt)
      go_wp2
      go_ret3
      refine ⟨⟨⟨#[]⟩, ⟨#[]⟩, false, rfl, .inr ⟨rfl, cut_none_of m _ ?_⟩⟩, Below.refl _ _⟩
      have := HD.out
      rw [HT.out] at this
      exact this

/-- the value of the first k digits. -/
theorem dv_snoc (l : List UInt8) (c : UInt8) : Jn.digitsVal (l ++ [c]) = Jn.digitsVal l * 10 + (c.toNat - 48) := by simp [Jn.digitsVal]
theorem dv_lt (l : List UInt8) : (∀ c ∈ l, Ck.isDig c = true) → Jn.digitsVal l < 10 ^ l.length := by
  induction l using Ck.snoc_ind with
  | h0 => simp [Jn.digitsVal]
  | h1 l c ih =>
    intro h
    rw [dv_snoc]
    have h1 := ih (fun d hd => h d (by simp [hd]))
    have h2 := (Ck.isDig_iff c).1 (h c (by simp))
    simp only [List.length_append, List.length_cons, List.length_nil, Nat.pow_succ, Nat.zero_add] at h1 ⊢
    omega
theorem dv_bd (s : ByteArray) (k : Nat) (h6 : k ≤ 10) (hd : ∀ c ∈ s.data.toList.take k, Ck.isDig c = true) : (Jn.digitsVal (s.data.toList.take k) : Int) ≤ 9999999999 := by
  have h1 := dv_lt _ hd
  have h2 : 10 ^ (s.data.toList.take k).length ≤ 10 ^ 10 := Nat.pow_le_pow_right (by omega) (by simp; omega)
  omega

/-- The part of numberIn that is the same with and without a sign: 'none', or the value of the digits. -/
def digs (l : List UInt8) : Option Nat := if l = [] ∨ 10 < l.length then none else if l.all Ck.isDig then some (Jn.digitsVal l) else none
theorem digs_all (s : ByteArray) (h1 : 1 ≤ s.size) (h2 : s.size ≤ 10) (h : ∀ c ∈ s.data.toList, Ck.isDig c = true) : digs s.data.toList = some (Jn.digitsVal s.data.toList) := by
  have hl : s.data.toList.length = s.size := by simp
  unfold digs
  rw [if_neg, if_pos (List.all_eq_true.2 h)]
  rintro (h0 | h0)
  · rw [h0] at hl; simp at hl; omega
  · omega
theorem digs_not (s : ByteArray) (k : Nat) (hk : k < s.size) (h : Ck.isDig s[k] = false) : digs s.data.toList = none := by
  unfold digs
  split
  · rfl
  · rw [if_neg]
    intro ha
    rw [all_take Ck.isDig s k hk h] at ha; cases ha
theorem digs_size (s : ByteArray) (h : s.size = 0 ∨ 10 < s.size) : digs s.data.toList = none := by
  have hl : s.data.toList.length = s.size := by simp
  unfold digs
  rw [if_pos]
  rcases h with h | h
  · left; exact List.length_eq_zero_iff.1 (by omega)
  · right; omega
theorem numIn_pos (l : List UInt8) (h : l.head? ≠ some 45) : Jn.numberIn l = (digs l).map fun n => (n : Int) := by
  unfold Jn.numberIn digs
  simp only [decide_eq_false h, Bool.false_eq_true, if_false]
  by_cases h1 : l = [] ∨ 10 < l.length
  · rw [if_pos h1, if_pos h1]; rfl
  · rw [if_neg h1, if_neg h1]
    cases l.all Ck.isDig <;> rfl
theorem numIn_neg (l : List UInt8) : Jn.numberIn (45 :: l) = (digs l).map fun n => -(n : Int) := by
  unfold Jn.numberIn digs
  simp only [List.head?_cons, decide_true, if_true, List.tail_cons]
  by_cases h1 : l = [] ∨ 10 < l.length
  · rw [if_pos h1, if_pos h1]; rfl
  · rw [if_neg h1, if_neg h1]
    cases l.all Ck.isDig <;> rfl

def jn (o : Option Int) : Value := .tuple #[.int .i64 (o.getD 0), .bool o.isSome]


set_option maxHeartbeats 2000000 in
set_option maxRecDepth 100000 in
theorem numJ_pos (s : ByteArray) (w : World) (hs : s.size ≤ 1152921504606846976) (hn : s.data.toList.head? ≠ some 45) :
    Calls Tryz.prog 162 #[.string s] w fun e w' => e = .returned (jn (Jn.numberIn s.data.toList)) ∧ w' = w := by
  rw [numIn_pos _ hn]
  obtain ⟨r, hr⟩ : ∃ r, r = (digs s.data.toList).map fun n => (n : Int) := ⟨_, rfl⟩
  rw [← hr]
  have HR := hide hr
  have hne0 : ∀ h : 0 < s.size, ((s[0].toNat : Int) == 45) = false := by
    intro h0
    rw [head_rest s h0] at hn
    simp at hn
    simp
    intro e
    exact hn (UInt8.toNat_inj.1 (by simp; omega))
  have HNE := hide hne0
  clear hr hn hne0
  by_cases hz : s.size = 0
  · have HN := hide (digs_size s (.inl hz))
    have t1 : decide (0 < (s.size : Int)) = false := decide_eq_false (by omega)
    have t2 : ((s.size : Int) == 0) = true := beq_iff_eq.2 (by omega)
    clear hz
    go_enter Tryz.func162, Tryz.ntmps162
    go_wp2
    go_ret2
    rw [HR.out, HN.out]; exact ⟨rfl, rfl⟩
  have h1 : 0 < s.size := by omega
  have hne := HNE.out h1
  have t1 : decide (0 < (s.size : Int)) = true := decide_eq_true (by omega)
  have t2 : ((s.size : Int) == 0) = false := beq_eq_false_iff_ne.2 (by omega)
  by_cases hb : 10 < s.size
  · have HN := hide (digs_size s (.inr hb))
    have t3 : decide (10 < (s.size : Int)) = true := decide_eq_true (by omega)
    go_enter Tryz.func162, Tryz.ntmps162
    go_wp2
    go_ret2
    rw [HR.out, HN.out]; exact ⟨rfl, rfl⟩
  · have t3 : decide (10 < (s.size : Int)) = false := decide_eq_false (by omega)
    have h2 : s.size ≤ 10 := by omega
    go_enter Tryz.func162, Tryz.ntmps162
    go_wp2
    go_loop [6, 7] (fun n i => ∃ k : Nat, k ≤ s.size ∧ i = .int .i64 k ∧ n = .int .i64 (Jn.digitsVal (s.data.toList.take k)) ∧ (∀ c ∈ s.data.toList.take k, Ck.isDig c = true)) (fun _ i => s.size - (intOf i).toNat)
    case atStart => exact ⟨0, Nat.zero_le _, rfl, rfl, by simp⟩
    case round =>
      obtain ⟨k, hk, rfl, rfl, hd⟩ := hrel
      have hv := dv_bd s k (by omega) hd
      have hv0 : (0 : Int) ≤ (Jn.digitsVal (s.data.toList.take k) : Int) := by omega
      have HD := hide hd
      clear hd
      by_cases hlt : k < s.size
      · have hc : (0 : Int) ≤ s[k].toNat ∧ (s[k].toNat : Int) ≤ 255 := by have := s[k].toNat_lt; omega
        obtain ⟨hc0, hc1⟩ := hc
        by_cases hg : 48 ≤ (s[k].toNat : Int) ∧ (s[k].toNat : Int) ≤ 57
        · obtain ⟨g1, g2⟩ := hg
          have HS := hide (take_snoc s k hlt)
          have HI : Hid (Ck.isDig s[k] = true) := (Ck.isDig_iff _).2 ⟨by omega, by omega⟩
          go_wp2
          go_round
          case rel =>
            refine ⟨k + 1, by omega, by go_num, ?_, ?_⟩
            · rw [HS.out, dv_snoc]; go_num
            · rw [HS.out]
              intro c hc
              rcases List.mem_append.1 hc with h | h
              · exact HD.out c h
              · simp at h; rw [h]; exact HI.out
          case measure => simp [intOf]; omega
        · have HN := hide (digs_not s k hlt (by
            have : ¬ (Ck.isDig s[k] = true) := fun h => by have := (Ck.isDig_iff _).1 h; omega
            simpa using this))
          go_wp2
          all_goals go_ret2
          all_goals (rw [HR.out, HN.out]; exact ⟨rfl, rfl⟩)
      · have HT := hide (take_all s k hlt)
        go_wp2
        go_ret2
        have hd := HD.out
        rw [HT.out] at hd
        rw [HR.out, digs_all s h1 h2 hd, HT.out]
        exact ⟨rfl, rfl⟩
end Go.Proofs.YtellilpeakpbfabGreatDoor

end

section
/-
  The walk of journal.numberIn, with a sign ahead.
-/
namespace Go.Proofs.YtellilpeakpbfabGreatDoor
open Go.RowKit

set_option maxHeartbeats 2000000 in
set_option maxRecDepth 100000 in
theorem numJ_neg (s D : ByteArray) (w : World) (hs : s.size ≤ 1152921504606846976) (h1 : 0 < s.size) (hn : s[0] = 45) (hD : s.extract 1 s.size = D) :
    Calls Tryz.prog 162 #[.string s] w fun e w' => e = .returned (jn (Jn.numberIn s.data.toList)) ∧ w' = w := by
  rw [head_rest s h1, hD, hn, numIn_neg]
  obtain ⟨r, hr⟩ : ∃ r, r = (digs D.data.toList).map fun n => -(n : Int) := ⟨_, rfl⟩
  rw [← hr]
  have HR := hide hr
  have hne : ((s[0].toNat : Int) == 45) = true := by rw [hn]; rfl
  have t0 : decide (0 < (s.size : Int)) = true := decide_eq_true (by omega)
  have hle : (1 : Int) ≤ (s.size : Int) := by omega
  clear hr hn
  by_cases hz : D.size = 0
  · have HN := hide (digs_size D (.inl hz))
    have t2 : ((D.size : Int) == 0) = true := beq_iff_eq.2 (by omega)
    clear hz
    go_enter Tryz.func162, Tryz.ntmps162
    go_wp2
    go_ret2
    rw [HR.out, HN.out]; exact ⟨rfl, rfl⟩
  have hd1 : 0 < D.size := by omega
  have t2 : ((D.size : Int) == 0) = false := beq_eq_false_iff_ne.2 (by omega)
  by_cases hb : 10 < D.size
  · have HN := hide (digs_size D (.inr hb))
    have t3 : decide (10 < (D.size : Int)) = true := decide_eq_true (by omega)
    go_enter Tryz.func162, Tryz.ntmps162
    go_wp2
    go_ret2
    rw [HR.out, HN.out]; exact ⟨rfl, rfl⟩
  · have t3 : decide (10 < (D.size : Int)) = false := decide_eq_false (by omega)
    have h2 : D.size ≤ 10 := by omega
    go_enter Tryz.func162, Tryz.ntmps162
    go_wp2
    clear hD
    go_loop [6, 7] (fun n i => ∃ k : Nat, k ≤ D.size ∧ i = .int .i64 k ∧ n = .int .i64 (Jn.digitsVal (D.data.toList.take k)) ∧ (∀ c ∈ D.data.toList.take k, Ck.isDig c = true)) (fun _ i => D.size - (intOf i).toNat)
    case atStart => exact ⟨0, Nat.zero_le _, rfl, rfl, by simp⟩
    case round =>
      obtain ⟨k, hk, rfl, rfl, hd⟩ := hrel
      have hv := dv_bd D k (by omega) hd
      have hv0 : (0 : Int) ≤ (Jn.digitsVal (D.data.toList.take k) : Int) := by omega
      have HD := hide hd
      clear hd
      by_cases hlt : k < D.size
      · have hc : (0 : Int) ≤ D[k].toNat ∧ (D[k].toNat : Int) ≤ 255 := by have := D[k].toNat_lt; omega
        obtain ⟨hc0, hc1⟩ := hc
        by_cases hg : 48 ≤ (D[k].toNat : Int) ∧ (D[k].toNat : Int) ≤ 57
        · obtain ⟨g1, g2⟩ := hg
          have HS := hide (take_snoc D k hlt)
          have HI : Hid (Ck.isDig D[k] = true) := (Ck.isDig_iff _).2 ⟨by omega, by omega⟩
          go_wp2
          go_round
          case rel =>
            refine ⟨k + 1, by omega, by go_num, ?_, ?_⟩
            · rw [HS.out, dv_snoc]; go_num
            · rw [HS.out]
              intro c hc
              rcases List.mem_append.1 hc with h | h
              · exact HD.out c h
              · simp at h; rw [h]; exact HI.out
          case measure => simp [intOf]; omega
        · have HN := hide (digs_not D k hlt (by
            have : ¬ (Ck.isDig D[k] = true) := fun h => by have := (Ck.isDig_iff _).1 h; omega
            simpa using this))
          go_wp2
          all_goals go_ret2
          all_goals (rw [HR.out, HN.out]; exact ⟨rfl, rfl⟩)
      · have HT := hide (take_all D k hlt)
        go_wp2
        go_ret2
        have hd := HD.out
        rw [HT.out] at hd
        rw [HR.out, digs_all D hd1 h2 hd, HT.out]
        exact ⟨rfl, rfl⟩

theorem numJ_any (s : ByteArray) (w : World) (hs : s.size ≤ 1152921504606846976) :
    Calls Tryz.prog 162 #[.string s] w fun e w' => e = .returned (jn (Jn.numberIn s.data.toList)) ∧ w' = w := by
  by_cases hn : s.data.toList.head? = some 45
  · have h1 : 0 < s.size := by
      have hl : s.data.toList.length = s.size := by simp
      cases h : s.data.toList with
      | nil => rw [h] at hn; cases hn
      | cons c r => rw [h] at hl; simp at hl; omega
    refine numJ_neg s _ w hs h1 ?_ rfl
    rw [head_rest s h1] at hn
    simpa using hn
  · exact numJ_pos s w hs hn
end Go.Proofs.YtellilpeakpbfabGreatDoor

end

section
/-
  The walks of journal: redoPut, redoInstall, redoEntry, redo.
-/
namespace Go.Proofs.YtellilpeakpbfabGreatDoor
open Go.RowKit

theorem cut_size {m : UInt8} {s A B : ByteArray} (h : Jn.cutAt m s.data.toList = some (A.data.toList, B.data.toList)) : A.size + B.size + 1 = s.size := by
  have h1 := congrArg List.length (Jn.cut_some m _ _ _ h).2.1
  have e1 : s.data.toList.length = s.size := by simp
  have e2 : A.data.toList.length = A.size := by simp
  have e3 : B.data.toList.length = B.size := by simp
  rw [List.length_append, List.length_cons, e1, e2, e3] at h1
  omega

theorem WordsAt.fr {L : Nat} {T : List TypeId} {X : Option Nat} {w w' : World} (h : WordsAt w) (hL : 0 < L) (f : Fr L T X w w') : WordsAt w' := h.below hL f.below

/-- what making a change again answers. -/
def RedoPost (L B : Nat) (o : Option Jn.Con) (w : World) (e : Ending) (w' : World) : Prop :=
  ∃ D, ConAt L w' B D ∧ Fr L [123] none w w' ∧ ((o = some D ∧ e = .returned (.bool true)) ∨ (o = none ∧ e = .returned (.bool false)))
theorem RedoPost.from {L B : Nat} {o : Option Jn.Con} {w w1 w' : World} {e : Ending} (f : Fr L [123] none w w1) (h : RedoPost L B o w1 e w') : RedoPost L B o w e w' := by
  obtain ⟨D, h1, h2, h3⟩ := h
  exact ⟨D, h1, f.trans h2, h3⟩

set_option maxHeartbeats 1000000 in
theorem redoPut_any (L B : Nat) (C : Jn.Con) (s : ByteArray) (w : World) (h : ConAt L w B C) (hs : s.size ≤ 1152921504606846976) :
    Calls Tryz.prog 161 #[.pointer (some ⟨B, 0, none⟩), .string s] w (RedoPost L B (Jn.redoPut C s.data.toList) w) := by
  have hc : ∀ w, Calls Tryz.prog 97 #[.string s, .int .u8 61] w fun e w' => CutPost 61 s.data.toList e ∧ Below w.heap.size w w' := fun w => cut_any s 61 w hs
  have HC := hide hc
  have HH := hide h
  have hL : L ≤ w.heap.size := Nat.le_trans h.low (Nat.le_of_lt h.lt)
  obtain ⟨r, hr⟩ : ∃ r, r = Jn.redoPut C s.data.toList := ⟨_, rfl⟩
  rw [← hr]
  have HR := hide hr
  clear hc h hr
  go_enter Tryz.func161, Tryz.ntmps161
  go_wp2_with fail
  refine (HC.out _).mono ?_
  rintro e w1 ⟨⟨A, Z, b, rfl, hcut⟩, hb⟩
  have hcon := HH.out.below hb
  have HF : Hid (Fr L [123] none w w1) := Fr.of hb hL
  have HCON := hide hcon
  clear hb hcon HC
  rcases hcut with ⟨rfl, hcut⟩ | ⟨rfl, hcut⟩
  · have hsz := cut_size hcut
    have HE : Hid (r = match Jn.numberIn A.data.toList, Jn.numberIn Z.data.toList with
        | some k, some v => if (Jn.put C k v).2 = 0 then some (Jn.put C k v).1 else none
        | _, _ => none) := by
      show _ = _
      rw [HR.out, Jn.redoPut, hcut]
      rfl
    have ha := numJ_any A w1 (by omega)
    have hz := numJ_any Z w1 (by omega)
    clear hcut HR
    generalize Jn.numberIn A.data.toList = oa at *
    generalize Jn.numberIn Z.data.toList = oz at *
    have HA := hide ha
    have HZ := hide hz
    clear ha hz
    cases oa with
    | none =>
      go_wp2_with fail
      refine HA.out.mono ?_
      rintro e w2 ⟨rfl, rfl⟩
      simp only [jn, Option.getD_none, Option.isSome_none]
      cases oz with
      | none =>
        go_wp2_with fail
        refine HZ.out.mono ?_
        rintro e w3 ⟨rfl, rfl⟩
        simp only [jn, Option.getD_none, Option.isSome_none]
        go_wp2
        go_ret
        exact ⟨C, HCON.out, HF.out, .inr ⟨HE.out, rfl⟩⟩
      | some v =>
        go_wp2_with fail
        refine HZ.out.mono ?_
        rintro e w3 ⟨rfl, rfl⟩
        simp only [jn, Option.getD_some, Option.isSome_some]
        go_wp2
        go_ret
        exact ⟨C, HCON.out, HF.out, .inr ⟨HE.out, rfl⟩⟩
    | some k =>
      go_wp2_with fail
      refine HA.out.mono ?_
      rintro e w2 ⟨rfl, rfl⟩
      simp only [jn, Option.getD_some, Option.isSome_some]
      cases oz with
      | none =>
        go_wp2_with fail
        refine HZ.out.mono ?_
        rintro e w3 ⟨rfl, rfl⟩
        simp only [jn, Option.getD_none, Option.isSome_none]
        go_wp2
        go_ret
        exact ⟨C, HCON.out, HF.out, .inr ⟨HE.out, rfl⟩⟩
      | some v =>
        go_wp2_with fail
        refine HZ.out.mono ?_
        rintro e w3 ⟨rfl, rfl⟩
        simp only [jn, Option.getD_some, Option.isSome_some]
        have hp := putC_any L B C k v w3 HCON.out
        have HE2 : Hid (r = if (Jn.put C k v).2 = 0 then some (Jn.put C k v).1 else none) := HE.out
        clear HE
        generalize Jn.put C k v = q at *
        obtain ⟨q1, q2⟩ := q
        have HP := hide hp
        clear hp
        go_wp2_with fail
        refine HP.out.mono ?_
        rintro e w4 ⟨rfl, hc4, hf4⟩
        have H4 := hide hc4
        have HF4 := hide (HF.out.trans hf4)
        clear hc4 hf4
        cases ht : (q2 == (0 : Int)) with
        | true =>
          go_wp2
          go_ret
          exact ⟨q1, H4.out, HF4.out, .inl ⟨by rw [HE2.out, if_pos (by simpa using ht)], rfl⟩⟩
        | false =>
          go_wp2
          go_ret
          exact ⟨q1, H4.out, HF4.out, .inr ⟨by rw [HE2.out, if_neg (by simpa using ht)], rfl⟩⟩
  · have HE : Hid (r = none) := by
      show _ = _
      rw [HR.out, Jn.redoPut, hcut]
    go_wp2
    go_ret
    exact ⟨C, HCON.out, HF.out, .inr ⟨HE.out, rfl⟩⟩

set_option maxHeartbeats 1000000 in
theorem redoInstall_any (L B : Nat) (C : Jn.Con) (s : ByteArray) (w : World) (h : ConAt L w B C) (hW : WordsAt w) (hs : s.size ≤ 1152921504606846976) :
    Calls Tryz.prog 163 #[.pointer (some ⟨B, 0, none⟩), .string s] w (RedoPost L B (Jn.redoInstall C s.data.toList) w) := by
  have hc : ∀ w, Calls Tryz.prog 97 #[.string s, .int .u8 58] w fun e w' => CutPost 58 s.data.toList e ∧ Below w.heap.size w w' := fun w => cut_any s 58 w hs
  have HC := hide hc
  have HH := hide h
  have HW := hide hW
  have hL : L ≤ w.heap.size := Nat.le_trans h.low (Nat.le_of_lt h.lt)
  obtain ⟨r, hr⟩ : ∃ r, r = Jn.redoInstall C s.data.toList := ⟨_, rfl⟩
  rw [← hr]
  have HR := hide hr
  clear hc h hr hW
  go_enter Tryz.func163, Tryz.ntmps163
  go_wp2_with fail
  refine (HC.out _).mono ?_
  rintro e w1 ⟨⟨A, Z, b, rfl, hcut⟩, hb⟩
  have hcon := HH.out.below hb
  have hw1 : WordsAt w1 := HW.out.below HW.out.1 hb
  have HF : Hid (Fr L [123] none w w1) := Fr.of hb hL
  have HCON := hide hcon
  have HW1 := hide hw1
  clear hb hcon HC hw1
  rcases hcut with ⟨rfl, hcut⟩ | ⟨rfl, hcut⟩
  · have HE : Hid (r = if (Jn.install C A.data.toList Z.data.toList).2.2 = 0 then some (Jn.install C A.data.toList Z.data.toList).1 else none) := by
      show _ = _
      rw [HR.out, Jn.redoInstall, hcut]
    have hp := installC_any L B C A Z w1 HCON.out HW1.out
    clear hcut HR
    generalize Jn.install C A.data.toList Z.data.toList = q at *
    obtain ⟨q1, q2, q3⟩ := q
    have HP := hide hp
    clear hp
    go_wp2_with fail
    refine HP.out.mono ?_
    rintro e w4 ⟨rfl, hc4, hf4⟩
    have H4 := hide hc4
    have HF4 := hide (HF.out.trans hf4)
    clear hc4 hf4
    cases ht : (q3 == (0 : Int)) with
    | true =>
      go_wp2
      go_ret
      exact ⟨q1, H4.out, HF4.out, .inl ⟨by rw [HE.out, if_pos (by simpa using ht)], rfl⟩⟩
    | false =>
      go_wp2
      go_ret
      exact ⟨q1, H4.out, HF4.out, .inr ⟨by rw [HE.out, if_neg (by simpa using ht)], rfl⟩⟩
  · have HE : Hid (r = none) := by
      show _ = _
      rw [HR.out, Jn.redoInstall, hcut]
    go_wp2
    go_ret
    exact ⟨C, HCON.out, HF.out, .inr ⟨HE.out, rfl⟩⟩
end Go.Proofs.YtellilpeakpbfabGreatDoor

end

section
/-
  The walks of journal: redoEntry, redo.
-/
namespace Go.Proofs.YtellilpeakpbfabGreatDoor
open Go.RowKit

theorem one_eq (c d : UInt8) : (([c] : List UInt8) == [d]) = decide (c = d) := by
  by_cases h : c = d
  · subst h; simp
  · simp [h]

set_option maxHeartbeats 1000000 in
theorem redoEntry_any (L B : Nat) (C : Jn.Con) (s : ByteArray) (w : World) (h : ConAt L w B C) (hW : WordsAt w) (hs : s.size ≤ 1152921504606846976) :
    Calls Tryz.prog 139 #[.pointer (some ⟨B, 0, none⟩), .string s] w (RedoPost L B (Jn.redoEntry C s.data.toList) w) := by
  have hL : L ≤ w.heap.size := Nat.le_trans h.low (Nat.le_of_lt h.lt)
  obtain ⟨r, hr⟩ : ∃ r, r = Jn.redoEntry C s.data.toList := ⟨_, rfl⟩
  rw [← hr]
  by_cases hz : s.size = 0
  · have hl : s.data.toList.length = s.size := by simp
    have HE : Hid (r = none) := by
      show _ = _
      rw [hr, List.length_eq_zero_iff.1 (hl.trans hz)]; rfl
    have t1 : ((s.size : Int) == 0) = true := beq_iff_eq.2 (by omega)
    have HH := hide h
    clear hz hl hr hW h
    go_enter Tryz.func139, Tryz.ntmps139
    go_wp2
    go_ret
    exact ⟨C, HH.out, Fr.refl _ _ _ _, .inr ⟨HE.out, rfl⟩⟩
  have h1 : 0 < s.size := by omega
  have hle : (1 : Int) ≤ (s.size : Int) := by omega
  have t1 : ((s.size : Int) == 0) = false := beq_eq_false_iff_ne.2 (by omega)
  rw [head_rest s h1] at hr
  obtain ⟨D, hD⟩ : ∃ D, s.extract 1 s.size = D := ⟨_, rfl⟩
  obtain ⟨X, hX⟩ : ∃ X, s.extract 0 1 = X := ⟨_, rfl⟩
  have hDs : D.size ≤ 1152921504606846976 := by
    have : D.size ≤ s.size := by rw [← hD]; simp
    omega
  have hXl : X.toList = [s[0]] := by
    rw [ByteArray.toList_eq, ← hX]
    have e := head_rest s h1
    have : (s.extract 0 1).data.toList = s.data.toList.take 1 := by simp
    rw [this, e]; simp
  rw [hD] at hr
  generalize s[0] = c at *
  have heq : ∀ d : UInt8, (X.toList == [d]) = decide (c = d) := fun d => by rw [hXl, one_eq]
  have tp := heq 112
  have td := heq 100
  have ti := heq 105
  have tr := heq 114
  have HR := hide hr
  have HH := hide h
  have HW := hide hW
  clear heq hXl hr h hW hz
  by_cases c1 : c = 112
  · rw [decide_eq_true c1] at tp
    have HE : Hid (r = Jn.redoPut C D.data.toList) := by
      show _ = _
      rw [HR.out, Jn.redoEntry, if_pos c1]
    have HC := hide (redoPut_any L B C D w HH.out hDs)
    rw [← HE.out] at HC
    clear td ti tr c1 HR HE
    go_enter Tryz.func139, Tryz.ntmps139
    go_wp2_with fail
    refine HC.out.mono ?_
    rintro e w1 ⟨E, hE, hf, (⟨ho, rfl⟩ | ⟨ho, rfl⟩)⟩
    · have HP : Hid (RedoPost L B r w (.returned (.bool true)) w1) := ⟨E, hE, hf, .inl ⟨ho, rfl⟩⟩
      clear hE hf ho HC
      go_wp2
      go_ret
      exact HP.out
    · have HP : Hid (RedoPost L B r w (.returned (.bool false)) w1) := ⟨E, hE, hf, .inr ⟨ho, rfl⟩⟩
      clear hE hf ho HC
      go_wp2
      go_ret
      exact HP.out
  rw [decide_eq_false c1] at tp
  by_cases c2 : c = 100
  · rw [decide_eq_true c2] at td
    have HE : Hid (r = match Jn.numberIn D.data.toList with | some k => if (Jn.del C k).2 = 0 then some (Jn.del C k).1 else none | none => none) := by
      show _ = _
      rw [HR.out, Jn.redoEntry, if_neg c1, if_pos c2]
      rfl
    have hn := numJ_any D w hDs
    clear ti tr c1 c2 HR
    generalize Jn.numberIn D.data.toList = o at *
    have HN := hide hn
    clear hn
    cases o with
    | none =>
      go_enter Tryz.func139, Tryz.ntmps139
      go_wp2_with fail
      refine HN.out.mono ?_
      rintro e w1 ⟨rfl, rfl⟩
      simp only [jn, Option.getD_none, Option.isSome_none]
      go_wp2
      go_ret
      exact ⟨C, HH.out, Fr.refl _ _ _ _, .inr ⟨HE.out, rfl⟩⟩
    | some k =>
      have HE2 : Hid (r = if (Jn.del C k).2 = 0 then some (Jn.del C k).1 else none) := HE.out
      have hp := delC_any L B C k w HH.out
      clear HE
      generalize Jn.del C k = q at *
      obtain ⟨q1, q2⟩ := q
      have HP := hide hp
      clear hp
      go_enter Tryz.func139, Tryz.ntmps139
      go_wp2_with fail
      refine HN.out.mono ?_
      rintro e w1 ⟨rfl, rfl⟩
      simp only [jn, Option.getD_some, Option.isSome_some]
      go_wp2_with fail
      refine HP.out.mono ?_
      rintro e w4 ⟨rfl, hc4, hf4⟩
      have H4 := hide hc4
      have HF4 := hide hf4
      clear hc4 hf4 HP
      cases ht : (q2 == (0 : Int)) with
      | true =>
        go_wp2
        go_ret
        exact ⟨q1, H4.out, HF4.out, .inl ⟨by rw [HE2.out, if_pos (by simpa using ht)], rfl⟩⟩
      | false =>
        go_wp2
        go_ret
        exact ⟨q1, H4.out, HF4.out, .inr ⟨by rw [HE2.out, if_neg (by simpa using ht)], rfl⟩⟩
  rw [decide_eq_false c2] at td
  by_cases c3 : c = 105
  · rw [decide_eq_true c3] at ti
    have HE : Hid (r = Jn.redoInstall C D.data.toList) := by
      show _ = _
      rw [HR.out, Jn.redoEntry, if_neg c1, if_neg c2, if_pos c3]
    have HC := hide (redoInstall_any L B C D w HH.out HW.out hDs)
    rw [← HE.out] at HC
    clear tr c1 c2 c3 HR HE
    go_enter Tryz.func139, Tryz.ntmps139
    go_wp2_with fail
    refine HC.out.mono ?_
    rintro e w1 ⟨E, hE, hf, (⟨ho, rfl⟩ | ⟨ho, rfl⟩)⟩
    · have HP : Hid (RedoPost L B r w (.returned (.bool true)) w1) := ⟨E, hE, hf, .inl ⟨ho, rfl⟩⟩
      clear hE hf ho HC
      go_wp2
      go_ret
      exact HP.out
    · have HP : Hid (RedoPost L B r w (.returned (.bool false)) w1) := ⟨E, hE, hf, .inr ⟨ho, rfl⟩⟩
      clear hE hf ho HC
      go_wp2
      go_ret
      exact HP.out
  rw [decide_eq_false c3] at ti
  by_cases c4 : c = 114
  · rw [decide_eq_true c4] at tr
    have HE2 : Hid (r = if (Jn.drop C D.data.toList).2 = 0 then some (Jn.drop C D.data.toList).1 else none) := by
      show _ = _
      rw [HR.out, Jn.redoEntry, if_neg c1, if_neg c2, if_neg c3, if_pos c4]
    have hp := dropC_any L B C D w HH.out
    clear c1 c2 c3 c4 HR
    generalize Jn.drop C D.data.toList = q at *
    obtain ⟨q1, q2⟩ := q
    have HP := hide hp
    clear hp
    go_enter Tryz.func139, Tryz.ntmps139
    go_wp2_with fail
    refine HP.out.mono ?_
    rintro e w4 ⟨rfl, hc4, hf4⟩
    have H4 := hide hc4
    have HF4 := hide hf4
    clear hc4 hf4 HP
    cases ht : (q2 == (0 : Int)) with
    | true =>
      go_wp2
      go_ret
      exact ⟨q1, H4.out, HF4.out, .inl ⟨by rw [HE2.out, if_pos (by simpa using ht)], rfl⟩⟩
    | false =>
      go_wp2
      go_ret
      exact ⟨q1, H4.out, HF4.out, .inr ⟨by rw [HE2.out, if_neg (by simpa using ht)], rfl⟩⟩
  rw [decide_eq_false c4] at tr
  have HE : Hid (r = none) := by
    show _ = _
    rw [HR.out, Jn.redoEntry, if_neg c1, if_neg c2, if_neg c3, if_neg c4]
  clear c1 c2 c3 c4 HR
  go_enter Tryz.func139, Tryz.ntmps139
  go_wp2
  go_ret
  exact ⟨C, HH.out, Fr.refl _ _ _ _, .inr ⟨HE.out, rfl⟩⟩

theorem redo_cut {C : Jn.Con} {l a b : List UInt8} (h : Jn.cutAt 59 l = some (a, b)) : Jn.redo C l = match Jn.redoEntry C a with | some D => Jn.redo D b | none => none := by
  unfold Jn.redo
  rw [(Jn.cut_some 59 l a b h).1]
  show (if (Jn.pieces 59 b).2 = [] then (match Jn.redoEntry C a with | some D => Jn.redoAll D (Jn.pieces 59 b).1 | none => none) else none) = _
  split
  · rfl
  · cases Jn.redoEntry C a <;> rfl
theorem redo_nocut {C : Jn.Con} {l : List UInt8} (h : Jn.cutAt 59 l = none) (hl : l ≠ []) : Jn.redo C l = none := by
  unfold Jn.redo
  rw [Jn.cut_none 59 l h]
  exact if_neg hl

def RdoRel (L B : Nat) (o : Option Jn.Con) (w : World) (n : Nat) (x : Value) (wr : World) : Prop :=
  ∃ (u : ByteArray) (D : Jn.Con), x = .string u ∧ u.size ≤ n ∧ ConAt L wr B D ∧ Fr L [123] none w wr ∧ Jn.redo D u.data.toList = o

set_option maxHeartbeats 1000000 in
set_option maxRecDepth 100000 in
theorem redo_any (L B : Nat) (C : Jn.Con) (s : ByteArray) (w : World) (h : ConAt L w B C) (hW : WordsAt w) (hgL : 0 < L) (hs : s.size ≤ 1152921504606846976) :
    Calls Tryz.prog 98 #[.pointer (some ⟨B, 0, none⟩), .string s] w (RedoPost L B (Jn.redo C s.data.toList) w) := by
  obtain ⟨r, hr⟩ : ∃ r, r = Jn.redo C s.data.toList := ⟨_, rfl⟩
  rw [← hr]
  have HS : Hid (RdoRel L B r w s.size (.string s) w) := ⟨s, C, rfl, Nat.le_refl _, h, Fr.refl _ _ _ _, hr.symm⟩
  have HW := hide hW
  clear hr h hW
  go_enter Tryz.func98, Tryz.ntmps98
  go_wp2
  go_loopw [5] (fun x wr => RdoRel L B r w s.size x wr) (fun x _ => strLen x)
  case atStart => exact HS.out
  case round =>
    obtain ⟨u, D, rfl, hu, hcon, hfr, hgo⟩ := hrel
    have HCON := hide hcon
    have HF := hide hfr
    have HG := hide hgo
    clear hcon hfr hgo HS
    by_cases h0 : u.size = 0
    · have t1 : decide (0 < u.size) = false := decide_eq_false (by omega)
      have HE : Hid (r = some D) := by
        show _ = _
        have hl : u.data.toList.length = u.size := by simp
        rw [← HG.out, List.length_eq_zero_iff.1 (hl.trans h0)]; rfl
      clear h0
      go_wp2
      go_ret
      exact ⟨D, HCON.out, HF.out, .inl ⟨HE.out, rfl⟩⟩
    · have t1 : decide (0 < u.size) = true := decide_eq_true (by omega)
      have hL : L ≤ wr.heap.size := Nat.le_trans HCON.out.low (Nat.le_of_lt HCON.out.lt)
      have hc : ∀ w, Calls Tryz.prog 97 #[.string u, .int .u8 59] w fun e w' => CutPost 59 u.data.toList e ∧ Below w.heap.size w w' := fun w => cut_any u 59 w (by omega)
      have HC := hide hc
      clear hc
      go_wp2_with fail
      refine (HC.out _).mono ?_
      rintro e w1 ⟨⟨A, Z, b, rfl, hcut⟩, hb⟩
      have HCON1 := hide (HCON.out.below hb)
      have HF1 : Hid (Fr L [123] none w w1) := HF.out.trans (Fr.of hb hL)
      clear hb HC HCON HF
      rcases hcut with ⟨rfl, hcut⟩ | ⟨rfl, hcut⟩
      · have hsz := cut_size hcut
        have HX := hide (redo_cut (C := D) hcut)
        have hent := redoEntry_any L B D A w1 HCON1.out (HW.out.fr hgL HF1.out) (by omega)
        clear hcut
        generalize Jn.redoEntry D A.data.toList = o at *
        have HEN := hide hent
        clear hent
        go_wp2_with fail
        refine HEN.out.mono ?_
        rintro e w2 ⟨E, hE, hf, (⟨ho, rfl⟩ | ⟨ho, rfl⟩)⟩
        · have HR2 : Hid (RdoRel L B r w s.size (.string Z) w2) := ⟨Z, E, rfl, by omega, hE, HF1.out.trans hf, by rw [← HG.out, HX.out, ho]⟩
          clear hE hf ho HEN
          go_wp2
          go_roundw
          case rel => exact HR2.out
          case measure => simp [strLen]; omega
        · have HR2 : Hid (RedoPost L B r w (.returned (.bool false)) w2) := ⟨E, hE, HF1.out.trans hf, .inr ⟨by rw [← HG.out, HX.out, ho], rfl⟩⟩
          clear hE hf ho HEN
          go_wp2
          go_ret
          exact HR2.out
      · have HE : Hid (r = none) := by
          show _ = _
          rw [← HG.out]
          refine redo_nocut hcut ?_
          intro e
          have hl : u.data.toList.length = u.size := by simp
          rw [e] at hl; simp at hl; omega
        go_wp2
        go_ret
        exact ⟨D, HCON1.out, HF1.out, .inr ⟨HE.out, rfl⟩⟩
end Go.Proofs.YtellilpeakpbfabGreatDoor

end
