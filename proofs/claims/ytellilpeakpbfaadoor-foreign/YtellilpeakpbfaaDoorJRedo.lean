import Derived.Test.YtellilpeakpbfaaDoorJNum
/-
  The walks of journal: redoPut, redoInstall, redoEntry, redo.
-/
namespace Go.Proofs.YtellilpeakpbfaaDoor
open Go.RowKit

theorem cut_size {m : UInt8} {s A B : ByteArray} (h : Jn.cutAt m s.data.toList = some (A.data.toList, B.data.toList)) : A.size + B.size + 1 = s.size := by
  have h1 := congrArg List.length (Jn.cut_some m _ _ _ h).2.1
  have e1 : s.data.toList.length = s.size := by simp
  have e2 : A.data.toList.length = A.size := by simp
  have e3 : B.data.toList.length = B.size := by simp
  rw [List.length_append, List.length_cons, e1, e2, e3] at h1
  omega

theorem WordsAt.fr {L : Nat} {T : List TypeId} {X : Option Nat} {w w' : World} (h : WordsAt w) (hL : 0 < L) (f : Fr L T X w w') : WordsAt w' := h.below hL f.below

/-- what making a change again answers. -/
def RedoPost (L B : Nat) (o : Option Jn.Con) (w : World) (e : Ending) (w' : World) : Prop :=
  ∃ D, ConAt L w' B D ∧ Fr L [84] none w w' ∧ ((o = some D ∧ e = .returned (.bool true)) ∨ (o = none ∧ e = .returned (.bool false)))
theorem RedoPost.from {L B : Nat} {o : Option Jn.Con} {w w1 w' : World} {e : Ending} (f : Fr L [84] none w w1) (h : RedoPost L B o w1 e w') : RedoPost L B o w e w' := by
  obtain ⟨D, h1, h2, h3⟩ := h
  exact ⟨D, h1, f.trans h2, h3⟩

set_option maxHeartbeats 1000000 in
theorem redoPut_any (L B : Nat) (C : Jn.Con) (s : ByteArray) (w : World) (h : ConAt L w B C) (hs : s.size ≤ 1152921504606846976) :
    Calls Tryd.prog 53 #[.pointer (some ⟨B, 0, none⟩), .string s] w (RedoPost L B (Jn.redoPut C s.data.toList) w) := by
  have hc : ∀ w, Calls Tryd.prog 40 #[.string s, .int .u8 61] w fun e w' => CutPost 61 s.data.toList e ∧ Below w.heap.size w w' := fun w => cut_any s 61 w hs
  have HC := hide hc
  have HH := hide h
  have hL : L ≤ w.heap.size := Nat.le_trans h.low (Nat.le_of_lt h.lt)
  obtain ⟨r, hr⟩ : ∃ r, r = Jn.redoPut C s.data.toList := ⟨_, rfl⟩
  rw [← hr]
  have HR := hide hr
  clear hc h hr
  go_enter Tryd.func53, Tryd.ntmps53
  go_wp2_with fail
  refine (HC.out _).mono ?_
  rintro e w1 ⟨⟨A, Z, b, rfl, hcut⟩, hb⟩
  have hcon := HH.out.below hb
  have HF : Hid (Fr L [84] none w w1) := Fr.of hb hL
  have HCON := hide hcon
  clear hb hcon HC
  rcases hcut with ⟨rfl, hcut⟩ | ⟨rfl, hcut⟩
  · have hsz := cut_size hcut
    have HE : Hid (r = match Jn.numberIn A.data.toList, Jn.numberIn Z.data.toList with
        | some k, some v => if (Jn.put C k v).2 = 0 then some (Jn.put C k v).1 else none
        | _, _ => none) := by
      show _ = _
      rw [HR.out, Jn.redoPut, hcut]
      rfl
    have ha := numJ_any A w1 (by omega)
    have hz := numJ_any Z w1 (by omega)
    clear hcut HR
    generalize Jn.numberIn A.data.toList = oa at *
    generalize Jn.numberIn Z.data.toList = oz at *
    have HA := hide ha
    have HZ := hide hz
    clear ha hz
    cases oa with
    | none =>
      go_wp2_with fail
      refine HA.out.mono ?_
      rintro e w2 ⟨rfl, rfl⟩
      simp only [jn, Option.getD_none, Option.isSome_none]
      cases oz with
      | none =>
        go_wp2_with fail
        refine HZ.out.mono ?_
        rintro e w3 ⟨rfl, rfl⟩
        simp only [jn, Option.getD_none, Option.isSome_none]
        go_wp2
        go_ret
        exact ⟨C, HCON.out, HF.out, .inr ⟨HE.out, rfl⟩⟩
      | some v =>
        go_wp2_with fail
        refine HZ.out.mono ?_
        rintro e w3 ⟨rfl, rfl⟩
        simp only [jn, Option.getD_some, Option.isSome_some]
        go_wp2
        go_ret
        exact ⟨C, HCON.out, HF.out, .inr ⟨HE.out, rfl⟩⟩
    | some k =>
      go_wp2_with fail
      refine HA.out.mono ?_
      rintro e w2 ⟨rfl, rfl⟩
      simp only [jn, Option.getD_some, Option.isSome_some]
      cases oz with
      | none =>
        go_wp2_with fail
        refine HZ.out.mono ?_
        rintro e w3 ⟨rfl, rfl⟩
        simp only [jn, Option.getD_none, Option.isSome_none]
        go_wp2
        go_ret
        exact ⟨C, HCON.out, HF.out, .inr ⟨HE.out, rfl⟩⟩
      | some v =>
        go_wp2_with fail
        refine HZ.out.mono ?_
        rintro e w3 ⟨rfl, rfl⟩
        simp only [jn, Option.getD_some, Option.isSome_some]
        have hp := putC_any L B C k v w3 HCON.out
        have HE2 : Hid (r = if (Jn.put C k v).2 = 0 then some (Jn.put C k v).1 else none) := HE.out
        clear HE
        generalize Jn.put C k v = q at *
        obtain ⟨q1, q2⟩ := q
        have HP := hide hp
        clear hp
        go_wp2_with fail
        refine HP.out.mono ?_
        rintro e w4 ⟨rfl, hc4, hf4⟩
        have H4 := hide hc4
        have HF4 := hide (HF.out.trans hf4)
        clear hc4 hf4
        cases ht : (q2 == (0 : Int)) with
        | true =>
          go_wp2
          go_ret
          exact ⟨q1, H4.out, HF4.out, .inl ⟨by rw [HE2.out, if_pos (by simpa using ht)], rfl⟩⟩
        | false =>
          go_wp2
          go_ret
          exact ⟨q1, H4.out, HF4.out, .inr ⟨by rw [HE2.out, if_neg (by simpa using ht)], rfl⟩⟩
  · have HE : Hid (r = none) := by
      show _ = _
      rw [HR.out, Jn.redoPut, hcut]
    go_wp2
    go_ret
    exact ⟨C, HCON.out, HF.out, .inr ⟨HE.out, rfl⟩⟩

set_option maxHeartbeats 1000000 in
theorem redoInstall_any (L B : Nat) (C : Jn.Con) (s : ByteArray) (w : World) (h : ConAt L w B C) (hW : WordsAt w) (hs : s.size ≤ 1152921504606846976) :
    Calls Tryd.prog 56 #[.pointer (some ⟨B, 0, none⟩), .string s] w (RedoPost L B (Jn.redoInstall C s.data.toList) w) := by
  have hc : ∀ w, Calls Tryd.prog 40 #[.string s, .int .u8 58] w fun e w' => CutPost 58 s.data.toList e ∧ Below w.heap.size w w' := fun w => cut_any s 58 w hs
  have HC := hide hc
  have HH := hide h
  have HW := hide hW
  have hL : L ≤ w.heap.size := Nat.le_trans h.low (Nat.le_of_lt h.lt)
  obtain ⟨r, hr⟩ : ∃ r, r = Jn.redoInstall C s.data.toList := ⟨_, rfl⟩
  rw [← hr]
  have HR := hide hr
  clear hc h hr hW
  go_enter Tryd.func56, Tryd.ntmps56
  go_wp2_with fail
  refine (HC.out _).mono ?_
  rintro e w1 ⟨⟨A, Z, b, rfl, hcut⟩, hb⟩
  have hcon := HH.out.below hb
  have hw1 : WordsAt w1 := HW.out.below HW.out.1 hb
  have HF : Hid (Fr L [84] none w w1) := Fr.of hb hL
  have HCON := hide hcon
  have HW1 := hide hw1
  clear hb hcon HC hw1
  rcases hcut with ⟨rfl, hcut⟩ | ⟨rfl, hcut⟩
  · have HE : Hid (r = if (Jn.install C A.data.toList Z.data.toList).2.2 = 0 then some (Jn.install C A.data.toList Z.data.toList).1 else none) := by
      show _ = _
      rw [HR.out, Jn.redoInstall, hcut]
    have hp := installC_any L B C A Z w1 HCON.out HW1.out
    clear hcut HR
    generalize Jn.install C A.data.toList Z.data.toList = q at *
    obtain ⟨q1, q2, q3⟩ := q
    have HP := hide hp
    clear hp
    go_wp2_with fail
    refine HP.out.mono ?_
    rintro e w4 ⟨rfl, hc4, hf4⟩
    have H4 := hide hc4
    have HF4 := hide (HF.out.trans hf4)
    clear hc4 hf4
    cases ht : (q3 == (0 : Int)) with
    | true =>
      go_wp2
      go_ret
      exact ⟨q1, H4.out, HF4.out, .inl ⟨by rw [HE.out, if_pos (by simpa using ht)], rfl⟩⟩
    | false =>
      go_wp2
      go_ret
      exact ⟨q1, H4.out, HF4.out, .inr ⟨by rw [HE.out, if_neg (by simpa using ht)], rfl⟩⟩
  · have HE : Hid (r = none) := by
      show _ = _
      rw [HR.out, Jn.redoInstall, hcut]
    go_wp2
    go_ret
    exact ⟨C, HCON.out, HF.out, .inr ⟨HE.out, rfl⟩⟩
end Go.Proofs.YtellilpeakpbfaaDoor
