import Derived.Test.YtellilpeakpbfaaDoorJRedo
/-
  The walks of journal: redoEntry, redo.
-/
namespace Go.Proofs.YtellilpeakpbfaaDoor
open Go.RowKit

theorem one_eq (c d : UInt8) : (([c] : List UInt8) == [d]) = decide (c = d) := by
  by_cases h : c = d
  · subst h; simp
  · simp [h]

set_option maxHeartbeats 1000000 in
theorem redoEntry_any (L B : Nat) (C : Jn.Con) (s : ByteArray) (w : World) (h : ConAt L w B C) (hW : WordsAt w) (hs : s.size ≤ 1152921504606846976) :
    Calls Tryd.prog 49 #[.pointer (some ⟨B, 0, none⟩), .string s] w (RedoPost L B (Jn.redoEntry C s.data.toList) w) := by
  have hL : L ≤ w.heap.size := Nat.le_trans h.low (Nat.le_of_lt h.lt)
  obtain ⟨r, hr⟩ : ∃ r, r = Jn.redoEntry C s.data.toList := ⟨_, rfl⟩
  rw [← hr]
  by_cases hz : s.size = 0
  · have hl : s.data.toList.length = s.size := by simp
    have HE : Hid (r = none) := by
      show _ = _
      rw [hr, List.length_eq_zero_iff.1 (hl.trans hz)]; rfl
    have t1 : ((s.size : Int) == 0) = true := beq_iff_eq.2 (by omega)
    have HH := hide h
    clear hz hl hr hW h
    go_enter Tryd.func49, Tryd.ntmps49
    go_wp2
    go_ret
    exact ⟨C, HH.out, Fr.refl _ _ _ _, .inr ⟨HE.out, rfl⟩⟩
  have h1 : 0 < s.size := by omega
  have hle : (1 : Int) ≤ (s.size : Int) := by omega
  have t1 : ((s.size : Int) == 0) = false := beq_eq_false_iff_ne.2 (by omega)
  rw [head_rest s h1] at hr
  obtain ⟨D, hD⟩ : ∃ D, s.extract 1 s.size = D := ⟨_, rfl⟩
  obtain ⟨X, hX⟩ : ∃ X, s.extract 0 1 = X := ⟨_, rfl⟩
  have hDs : D.size ≤ 1152921504606846976 := by
    have : D.size ≤ s.size := by rw [← hD]; simp
    omega
  have hXl : X.toList = [s[0]] := by
    rw [ByteArray.toList_eq, ← hX]
    have e := head_rest s h1
    have : (s.extract 0 1).data.toList = s.data.toList.take 1 := by simp
    rw [this, e]; simp
  rw [hD] at hr
  generalize s[0] = c at *
  have heq : ∀ d : UInt8, (X.toList == [d]) = decide (c = d) := fun d => by rw [hXl, one_eq]
  have tp := heq 112
  have td := heq 100
  have ti := heq 105
  have tr := heq 114
  have HR := hide hr
  have HH := hide h
  have HW := hide hW
  clear heq hXl hr h hW hz
  by_cases c1 : c = 112
  · rw [decide_eq_true c1] at tp
    have HE : Hid (r = Jn.redoPut C D.data.toList) := by
      show _ = _
      rw [HR.out, Jn.redoEntry, if_pos c1]
    have HC := hide (redoPut_any L B C D w HH.out hDs)
    rw [← HE.out] at HC
    clear td ti tr c1 HR HE
    go_enter Tryd.func49, Tryd.ntmps49
    go_wp2_with fail
    refine HC.out.mono ?_
    rintro e w1 ⟨E, hE, hf, (⟨ho, rfl⟩ | ⟨ho, rfl⟩)⟩
    · have HP : Hid (RedoPost L B r w (.returned (.bool true)) w1) := ⟨E, hE, hf, .inl ⟨ho, rfl⟩⟩
      clear hE hf ho HC
      go_wp2
      go_ret
      exact HP.out
    · have HP : Hid (RedoPost L B r w (.returned (.bool false)) w1) := ⟨E, hE, hf, .inr ⟨ho, rfl⟩⟩
      clear hE hf ho HC
      go_wp2
      go_ret
      exact HP.out
  rw [decide_eq_false c1] at tp
  by_cases c2 : c = 100
  · rw [decide_eq_true c2] at td
    have HE : Hid (r = match Jn.numberIn D.data.toList with | some k => if (Jn.del C k).2 = 0 then some (Jn.del C k).1 else none | none => none) := by
      show _ = _
      rw [HR.out, Jn.redoEntry, if_neg c1, if_pos c2]
      rfl
    have hn := numJ_any D w hDs
    clear ti tr c1 c2 HR
    generalize Jn.numberIn D.data.toList = o at *
    have HN := hide hn
    clear hn
    cases o with
    | none =>
      go_enter Tryd.func49, Tryd.ntmps49
      go_wp2_with fail
      refine HN.out.mono ?_
      rintro e w1 ⟨rfl, rfl⟩
      simp only [jn, Option.getD_none, Option.isSome_none]
      go_wp2
      go_ret
      exact ⟨C, HH.out, Fr.refl _ _ _ _, .inr ⟨HE.out, rfl⟩⟩
    | some k =>
      have HE2 : Hid (r = if (Jn.del C k).2 = 0 then some (Jn.del C k).1 else none) := HE.out
      have hp := delC_any L B C k w HH.out
      clear HE
      generalize Jn.del C k = q at *
      obtain ⟨q1, q2⟩ := q
      have HP := hide hp
      clear hp
      go_enter Tryd.func49, Tryd.ntmps49
      go_wp2_with fail
      refine HN.out.mono ?_
      rintro e w1 ⟨rfl, rfl⟩
      simp only [jn, Option.getD_some, Option.isSome_some]
      go_wp2_with fail
      refine HP.out.mono ?_
      rintro e w4 ⟨rfl, hc4, hf4⟩
      have H4 := hide hc4
      have HF4 := hide hf4
      clear hc4 hf4 HP
      cases ht : (q2 == (0 : Int)) with
      | true =>
        go_wp2
        go_ret
        exact ⟨q1, H4.out, HF4.out, .inl ⟨by rw [HE2.out, if_pos (by simpa using ht)], rfl⟩⟩
      | false =>
        go_wp2
        go_ret
        exact ⟨q1, H4.out, HF4.out, .inr ⟨by rw [HE2.out, if_neg (by simpa using ht)], rfl⟩⟩
  rw [decide_eq_false c2] at td
  by_cases c3 : c = 105
  · rw [decide_eq_true c3] at ti
    have HE : Hid (r = Jn.redoInstall C D.data.toList) := by
      show _ = _
      rw [HR.out, Jn.redoEntry, if_neg c1, if_neg c2, if_pos c3]
    have HC := hide (redoInstall_any L B C D w HH.out HW.out hDs)
    rw [← HE.out] at HC
    clear tr c1 c2 c3 HR HE
    go_enter Tryd.func49, Tryd.ntmps49
    go_wp2_with fail
    refine HC.out.mono ?_
    rintro e w1 ⟨E, hE, hf, (⟨ho, rfl⟩ | ⟨ho, rfl⟩)⟩
    · have HP : Hid (RedoPost L B r w (.returned (.bool true)) w1) := ⟨E, hE, hf, .inl ⟨ho, rfl⟩⟩
      clear hE hf ho HC
      go_wp2
      go_ret
      exact HP.out
    · have HP : Hid (RedoPost L B r w (.returned (.bool false)) w1) := ⟨E, hE, hf, .inr ⟨ho, rfl⟩⟩
      clear hE hf ho HC
      go_wp2
      go_ret
      exact HP.out
  rw [decide_eq_false c3] at ti
  by_cases c4 : c = 114
  · rw [decide_eq_true c4] at tr
    have HE2 : Hid (r = if (Jn.drop C D.data.toList).2 = 0 then some (Jn.drop C D.data.toList).1 else none) := by
      show _ = _
      rw [HR.out, Jn.redoEntry, if_neg c1, if_neg c2, if_neg c3, if_pos c4]
    have hp := dropC_any L B C D w HH.out
    clear c1 c2 c3 c4 HR
    generalize Jn.drop C D.data.toList = q at *
    obtain ⟨q1, q2⟩ := q
    have HP := hide hp
    clear hp
    go_enter Tryd.func49, Tryd.ntmps49
    go_wp2_with fail
    refine HP.out.mono ?_
    rintro e w4 ⟨rfl, hc4, hf4⟩
    have H4 := hide hc4
    have HF4 := hide hf4
    clear hc4 hf4 HP
    cases ht : (q2 == (0 : Int)) with
    | true =>
      go_wp2
      go_ret
      exact ⟨q1, H4.out, HF4.out, .inl ⟨by rw [HE2.out, if_pos (by simpa using ht)], rfl⟩⟩
    | false =>
      go_wp2
      go_ret
      exact ⟨q1, H4.out, HF4.out, .inr ⟨by rw [HE2.out, if_neg (by simpa using ht)], rfl⟩⟩
  rw [decide_eq_false c4] at tr
  have HE : Hid (r = none) := by
    show _ = _
    rw [HR.out, Jn.redoEntry, if_neg c1, if_neg c2, if_neg c3, if_neg c4]
  clear c1 c2 c3 c4 HR
  go_enter Tryd.func49, Tryd.ntmps49
  go_wp2
  go_ret
  exact ⟨C, HH.out, Fr.refl _ _ _ _, .inr ⟨HE.out, rfl⟩⟩

theorem redo_cut {C : Jn.Con} {l a b : List UInt8} (h : Jn.cutAt 59 l = some (a, b)) : Jn.redo C l = match Jn.redoEntry C a with | some D => Jn.redo D b | none => none := by
  unfold Jn.redo
  rw [(Jn.cut_some 59 l a b h).1]
  show (if (Jn.pieces 59 b).2 = [] then (match Jn.redoEntry C a with | some D => Jn.redoAll D (Jn.pieces 59 b).1 | none => none) else none) = _
  split
  · rfl
  · cases Jn.redoEntry C a <;> rfl
theorem redo_nocut {C : Jn.Con} {l : List UInt8} (h : Jn.cutAt 59 l = none) (hl : l ≠ []) : Jn.redo C l = none := by
  unfold Jn.redo
  rw [Jn.cut_none 59 l h]
  exact if_neg hl

def RdoRel (L B : Nat) (o : Option Jn.Con) (w : World) (n : Nat) (x : Value) (wr : World) : Prop :=
  ∃ (u : ByteArray) (D : Jn.Con), x = .string u ∧ u.size ≤ n ∧ ConAt L wr B D ∧ Fr L [84] none w wr ∧ Jn.redo D u.data.toList = o

set_option maxHeartbeats 1000000 in
set_option maxRecDepth 100000 in
theorem redo_any (L B : Nat) (C : Jn.Con) (s : ByteArray) (w : World) (h : ConAt L w B C) (hW : WordsAt w) (hgL : 0 < L) (hs : s.size ≤ 1152921504606846976) :
    Calls Tryd.prog 41 #[.pointer (some ⟨B, 0, none⟩), .string s] w (RedoPost L B (Jn.redo C s.data.toList) w) := by
  obtain ⟨r, hr⟩ : ∃ r, r = Jn.redo C s.data.toList := ⟨_, rfl⟩
  rw [← hr]
  have HS : Hid (RdoRel L B r w s.size (.string s) w) := ⟨s, C, rfl, Nat.le_refl _, h, Fr.refl _ _ _ _, hr.symm⟩
  have HW := hide hW
  clear hr h hW
  go_enter Tryd.func41, Tryd.ntmps41
  go_wp2
  go_loopw [5] (fun x wr => RdoRel L B r w s.size x wr) (fun x _ => strLen x)
  case atStart => exact HS.out
  case round =>
    obtain ⟨u, D, rfl, hu, hcon, hfr, hgo⟩ := hrel
    have HCON := hide hcon
    have HF := hide hfr
    have HG := hide hgo
    clear hcon hfr hgo HS
    by_cases h0 : u.size = 0
    · have t1 : decide (0 < u.size) = false := decide_eq_false (by omega)
      have HE : Hid (r = some D) := by
        show _ = _
        have hl : u.data.toList.length = u.size := by simp
        rw [← HG.out, List.length_eq_zero_iff.1 (hl.trans h0)]; rfl
      clear h0
      go_wp2
      go_ret
      exact ⟨D, HCON.out, HF.out, .inl ⟨HE.out, rfl⟩⟩
    · have t1 : decide (0 < u.size) = true := decide_eq_true (by omega)
      have hL : L ≤ wr.heap.size := Nat.le_trans HCON.out.low (Nat.le_of_lt HCON.out.lt)
      have hc : ∀ w, Calls Tryd.prog 40 #[.string u, .int .u8 59] w fun e w' => CutPost 59 u.data.toList e ∧ Below w.heap.size w w' := fun w => cut_any u 59 w (by omega)
      have HC := hide hc
      clear hc
      go_wp2_with fail
      refine (HC.out _).mono ?_
      rintro e w1 ⟨⟨A, Z, b, rfl, hcut⟩, hb⟩
      have HCON1 := hide (HCON.out.below hb)
      have HF1 : Hid (Fr L [84] none w w1) := HF.out.trans (Fr.of hb hL)
      clear hb HC HCON HF
      rcases hcut with ⟨rfl, hcut⟩ | ⟨rfl, hcut⟩
      · have hsz := cut_size hcut
        have HX := hide (redo_cut (C := D) hcut)
        have hent := redoEntry_any L B D A w1 HCON1.out (HW.out.fr hgL HF1.out) (by omega)
        clear hcut
        generalize Jn.redoEntry D A.data.toList = o at *
        have HEN := hide hent
        clear hent
        go_wp2_with fail
        refine HEN.out.mono ?_
        rintro e w2 ⟨E, hE, hf, (⟨ho, rfl⟩ | ⟨ho, rfl⟩)⟩
        · have HR2 : Hid (RdoRel L B r w s.size (.string Z) w2) := ⟨Z, E, rfl, by omega, hE, HF1.out.trans hf, by rw [← HG.out, HX.out, ho]⟩
          clear hE hf ho HEN
          go_wp2
          go_roundw
          case rel => exact HR2.out
          case measure => simp [strLen]; omega
        · have HR2 : Hid (RedoPost L B r w (.returned (.bool false)) w2) := ⟨E, hE, HF1.out.trans hf, .inr ⟨by rw [← HG.out, HX.out, ho], rfl⟩⟩
          clear hE hf ho HEN
          go_wp2
          go_ret
          exact HR2.out
      · have HE : Hid (r = none) := by
          show _ = _
          rw [← HG.out]
          refine redo_nocut hcut ?_
          intro e
          have hl : u.data.toList.length = u.size := by simp
          rw [e] at hl; simp at hl; omega
        go_wp2
        go_ret
        exact ⟨D, HCON1.out, HF1.out, .inr ⟨HE.out, rfl⟩⟩
end Go.Proofs.YtellilpeakpbfaaDoor
