import Derived.Test.YtellilpeakpbfaaGreatDoorJRedoToo
section
/-
  The walks of journal: redoEntry, redo.
-/
namespace Go.Proofs.YtellilpeakpbfaaGreatDoor
open Go.RowKit

theorem one_eq (c d : UInt8) : (([c] : List UInt8) == [d]) = decide (c = d) := by
  by_cases h : c = d
  · subst h; simp
  · simp [h]

set_option maxHeartbeats 1000000 in
theorem redoEntry_any (L B : Nat) (C : Jn.Con) (s : ByteArray) (w : World) (h : ConAt L w B C) (hW : WordsAt w) (hs : s.size ≤ 1152921504606846976) :
    Calls Tryz.prog 179 #[.pointer (some ⟨B, 0, none⟩), .string s] w (RedoPost L B (Jn.redoEntry C s.data.toList) w) := by
  have hL : L ≤ w.heap.size := Nat.le_trans h.low (Nat.le_of_lt h.lt)
  obtain ⟨r, hr⟩ : ∃ r, r = Jn.redoEntry C s.data.toList := ⟨_, rfl⟩
  rw [← hr]
  by_cases hz : s.size = 0
  · have hl : s.data.toList.length = s.size := by simp
    have HE : Hid (r = none) := by
      show _ = _
      rw [hr, List.length_eq_zero_iff.1 (hl.trans hz)]; rfl
    have t1 : ((s.size : Int) == 0) = true := beq_iff_eq.2 (by omega)
    have HH := hide h
    clear hz hl hr hW h
    go_enter Tryz.func179, Tryz.ntmps179
    go_wp2
    go_ret
    exact ⟨C, HH.out, Fr.refl _ _ _ _, .inr ⟨HE.out, rfl⟩⟩
  have h1 : 0 < s.size := by omega
  have hle : (1 : Int) ≤ (s.size : Int) := by omega
  have t1 : ((s.size : Int) == 0) = false := beq_eq_false_iff_ne.2 (by omega)
  rw [head_rest s h1] at hr
  obtain ⟨D, hD⟩ : ∃ D, s.extract 1 s.size = D := ⟨_, rfl⟩
  obtain ⟨X, hX⟩ : ∃ X, s.extract 0 1 = X := ⟨_, rfl⟩
  have hDs : D.size ≤ 1152921504606846976 := by
    have : D.size ≤ s.size := by rw [← hD]; simp
    omega
  have hXl : X.toList = [s[0]] := by
    rw [ByteArray.toList_eq, ← hX]
    have e := head_rest s h1
    have : (s.extract 0 1).data.toList = s.data.toList.take 1 := by simp
    rw [this, e]; simp
  rw [hD] at hr
  generalize s[0] = c at *
  have heq : ∀ d : UInt8, (X.toList == [d]) = decide (c = d) := fun d => by rw [hXl, one_eq]
  have tp := heq 112
  have td := heq 100
  have ti := heq 105
  have tr := heq 114
  have HR := hide hr
  have HH := hide h
  have HW := hide hW
  clear heq hXl hr h hW hz
  by_cases c1 : c = 112
  · rw [decide_eq_true c1] at tp
    have HE : Hid (r = Jn.redoPut C D.data.toList) := by
      show _ = _
      rw [HR.out, Jn.redoEntry, if_pos c1]
    have HC := hide (redoPut_any L B C D w HH.out hDs)
    rw [← HE.out] at HC
    clear td ti tr c1 HR HE
    go_enter Tryz.func179, Tryz.ntmps179
    go_wp2_with fail
    refine HC.out.mono ?_
    rintro e w1 ⟨E, hE, hf, (⟨ho, rfl⟩ | ⟨ho, rfl⟩)⟩
    · have HP : Hid (RedoPost L B r w (.returned (.bool true)) w1) := ⟨E, hE, hf, .inl ⟨ho, rfl⟩⟩
      clear hE hf ho HC
      go_wp2
      go_ret
      exact HP.out
    · have HP : Hid (RedoPost L B r w (.returned (.bool false)) w1) := ⟨E, hE, hf, .inr ⟨ho, rfl⟩⟩
      clear hE hf ho HC
      go_wp2
      go_ret
      exact HP.out
  rw [decide_eq_false c1] at tp
  by_cases c2 : c = 100
  · rw [decide_eq_true c2] at td
    have HE : Hid (r = match Jn.numberIn D.data.toList with | some k => if (Jn.del C k).2 = 0 then some (Jn.del C k).1 else none | none => none) := by
      show _ = _
      rw [HR.out, Jn.redoEntry, if_neg c1, if_pos c2]
      rfl
    have hn := numJ_any D w hDs
    clear ti tr c1 c2 HR
    generalize Jn.numberIn D.data.toList = o at *
    have HN := hide hn
    clear hn
    cases o with
    | none =>
      go_enter Tryz.func179, Tryz.ntmps179
      go_wp2_with fail
      refine HN.out.mono ?_
      rintro e w1 ⟨rfl, rfl⟩
      simp only [jn, Option.getD_none, Option.isSome_none]
      go_wp2
      go_ret
      exact ⟨C, HH.out, Fr.refl _ _ _ _, .inr ⟨HE.out, rfl⟩⟩
    | some k =>
      have HE2 : Hid (r = if (Jn.del C k).2 = 0 then some (Jn.del C k).1 else none) := HE.out
      have hp := delC_any L B C k w HH.out
      clear HE
      generalize Jn.del C k = q at *
      obtain ⟨q1, q2⟩ := q
      have HP := hide hp
      clear hp
      go_enter Tryz.func179, Tryz.ntmps179
      go_wp2_with fail
      refine HN.out.mono ?_
      rintro e w1 ⟨rfl, rfl⟩
      simp only [jn, Option.getD_some, Option.isSome_some]
      go_wp2_with fail
      refine HP.out.mono ?_
      rintro e w4 ⟨rfl, hc4, hf4⟩
      have H4 := hide hc4
      have HF4 := hide hf4
      clear hc4 hf4 HP
      cases ht : (q2 == (0 : Int)) with
      | true =>
        go_wp2
        go_ret
        exact ⟨q1, H4.out, HF4.out, .inl ⟨by rw [HE2.out, if_pos (by simpa using ht)], rfl⟩⟩
      | false =>
        go_wp2
        go_ret
        exact ⟨q1, H4.out, HF4.out, .inr ⟨by rw [HE2.out, if_neg (by simpa using ht)], rfl⟩⟩
  rw [decide_eq_false c2] at td
  by_cases c3 : c = 105
  · rw [decide_eq_true c3] at ti
    have HE : Hid (r = Jn.redoInstall C D.data.toList) := by
      show _ = _
      rw [HR.out, Jn.redoEntry, if_neg c1, if_neg c2, if_pos c3]
    have HC := hide (redoInstall_any L B C D w HH.out HW.out hDs)
    rw [← HE.out] at HC
    clear tr c1 c2 c3 HR HE
    go_enter Tryz.func179, Tryz.ntmps179
    go_wp2_with fail
    refine HC.out.mono ?_
    rintro e w1 ⟨E, hE, hf, (⟨ho, rfl⟩ | ⟨ho, rfl⟩)⟩
    · have HP : Hid (RedoPost L B r w (.returned (.bool true)) w1) := ⟨E, hE, hf, .inl ⟨ho, rfl⟩⟩
      clear hE hf ho HC
      go_wp2
      go_ret
      exact HP.out
    · have HP : Hid (RedoPost L B r w (.returned (.bool false)) w1) := ⟨E, hE, hf, .inr ⟨ho, rfl⟩⟩
      clear hE hf ho HC
      go_wp2
      go_ret
      exact HP.out
  rw [decide_eq_false c3] at ti
  by_cases c4 : c = 114
  · rw [decide_eq_true c4] at tr
    have HE2 : Hid (r = if (Jn.drop C D.data.toList).2 = 0 then some (Jn.drop C D.data.toList).1 else none) := by
      show _ = _
      rw [HR.out, Jn.redoEntry, if_neg c1, if_neg c2, if_neg c3, if_pos c4]
    have hp := dropC_any L B C D w HH.out
    clear c1 c2 c3 c4 HR
    generalize Jn.drop C D.data.toList = q at *
    obtain ⟨q1, q2⟩ := q
    have HP := hide hp
    clear hp
    go_enter Tryz.func179, Tryz.ntmps179
    go_wp2_with fail
    refine HP.out.mono ?_
    rintro e w4 ⟨rfl, hc4, hf4⟩
    have H4 := hide hc4
    have HF4 := hide hf4
    clear hc4 hf4 HP
    cases ht : (q2 == (0 : Int)) with
    | true =>
      go_wp2
      go_ret
      exact ⟨q1, H4.out, HF4.out, .inl ⟨by rw [HE2.out, if_pos (by simpa using ht)], rfl⟩⟩
    | false =>
      go_wp2
      go_ret
      exact ⟨q1, H4.out, HF4.out, .inr ⟨by rw [HE2.out, if_neg (by simpa using ht)], rfl⟩⟩
  rw [decide_eq_false c4] at tr
  have HE : Hid (r = none) := by
    show _ = _
    rw [HR.out, Jn.redoEntry, if_neg c1, if_neg c2, if_neg c3, if_neg c4]
  clear c1 c2 c3 c4 HR
  go_enter Tryz.func179, Tryz.ntmps179
  go_wp2
  go_ret
  exact ⟨C, HH.out, Fr.refl _ _ _ _, .inr ⟨HE.out, rfl⟩⟩

theorem redo_cut {C : Jn.Con} {l a b : List UInt8} (h : Jn.cutAt 59 l = some (a, b)) : Jn.redo C l = match Jn.redoEntry C a with | some D => Jn.redo D b | none => none := by
  unfold Jn.redo
  rw [(Jn.cut_some 59 l a b h).1]
  show (if (Jn.pieces 59 b).2 = [] then (match Jn.redoEntry C a with | some D => Jn.redoAll D (Jn.pieces 59 b).1 | none => none) else none) = _
  split
  · rfl
  · cases Jn.redoEntry C a <;> rfl
theorem redo_nocut {C : Jn.Con} {l : List UInt8} (h : Jn.cutAt 59 l = none) (hl : l ≠ []) : Jn.redo C l = none := by
  unfold Jn.redo
  rw [Jn.cut_none 59 l h]
  exact if_neg hl

def RdoRel (L B : Nat) (o : Option Jn.Con) (w : World) (n : Nat) (x : Value) (wr : World) : Prop :=
  ∃ (u : ByteArray) (D : Jn.Con), x = .string u ∧ u.size ≤ n ∧ ConAt L wr B D ∧ Fr L [145] none w wr ∧ Jn.redo D u.data.toList = o

set_option maxHeartbeats 1000000 in
set_option maxRecDepth 100000 in
theorem redo_any (L B : Nat) (C : Jn.Con) (s : ByteArray) (w : World) (h : ConAt L w B C) (hW : WordsAt w) (hgL : 0 < L) (hs : s.size ≤ 1152921504606846976) :
    Calls Tryz.prog 166 #[.pointer (some ⟨B, 0, none⟩), .string s] w (RedoPost L B (Jn.redo C s.data.toList) w) := by
  obtain ⟨r, hr⟩ : ∃ r, r = Jn.redo C s.data.toList := ⟨_, rfl⟩
  rw [← hr]
  have HS : Hid (RdoRel L B r w s.size (.string s) w) := ⟨s, C, rfl, Nat.le_refl _, h, Fr.refl _ _ _ _, hr.symm⟩
  have HW := hide hW
  clear hr h hW
  go_enter Tryz.func166, Tryz.ntmps166
  go_wp2
  go_loopw [5] (fun x wr => RdoRel L B r w s.size x wr) (fun x _ => strLen x)
  case atStart => exact HS.out
  case round =>
    obtain ⟨u, D, rfl, hu, hcon, hfr, hgo⟩ := hrel
    have HCON := hide hcon
    have HF := hide hfr
    have HG := hide hgo
    clear hcon hfr hgo HS
    by_cases h0 : u.size = 0
    · have t1 : decide (0 < u.size) = false := decide_eq_false (by omega)
      have HE : Hid (r = some D) := by
        show _ = _
        have hl : u.data.toList.length = u.size := by simp
        rw [← HG.out, List.length_eq_zero_iff.1 (hl.trans h0)]; rfl
      clear h0
      go_wp2
      go_ret
      exact ⟨D, HCON.out, HF.out, .inl ⟨HE.out, rfl⟩⟩
    · have t1 : decide (0 < u.size) = true := decide_eq_true (by omega)
      have hL : L ≤ wr.heap.size := Nat.le_trans HCON.out.low (Nat.le_of_lt HCON.out.lt)
      have hc : ∀ w, Calls Tryz.prog 165 #[.string u, .int .u8 59] w fun e w' => CutPost 59 u.data.toList e ∧ Below w.heap.size w w' := fun w => cut_any u 59 w (by omega)
      have HC := hide hc
      clear hc
      go_wp2_with fail
      refine (HC.out _).mono ?_
      rintro e w1 ⟨⟨A, Z, b, rfl, hcut⟩, hb⟩
      have HCON1 := hide (HCON.out.below hb)
      have HF1 : Hid (Fr L [145] none w w1) := HF.out.trans (Fr.of hb hL)
      clear hb HC HCON HF
      rcases hcut with ⟨rfl, hcut⟩ | ⟨rfl, hcut⟩
      · have hsz := cut_size hcut
        have HX := hide (redo_cut (C := D) hcut)
        have hent := redoEntry_any L B D A w1 HCON1.out (HW.out.fr hgL HF1.out) (by omega)
        clear hcut
        generalize Jn.redoEntry D A.data.toList = o at *
        have HEN := hide hent
        clear hent
        go_wp2_with fail
        refine HEN.out.mono ?_
        rintro e w2 ⟨E, hE, hf, (⟨ho, rfl⟩ | ⟨ho, rfl⟩)⟩
        · have HR2 : Hid (RdoRel L B r w s.size (.string Z) w2) := ⟨Z, E, rfl, by omega, hE, HF1.out.trans hf, by rw [← HG.out, HX.out, ho]⟩
          clear hE hf ho HEN
          go_wp2
          go_roundw
          case rel => exact HR2.out
          case measure => simp [strLen]; omega
        · have HR2 : Hid (RedoPost L B r w (.returned (.bool false)) w2) := ⟨E, hE, HF1.out.trans hf, .inr ⟨by rw [← HG.out, HX.out, ho], rfl⟩⟩
          clear hE hf ho HEN
          go_wp2
          go_ret
          exact HR2.out
      · have HE : Hid (r = none) := by
          show _ = _
          rw [← HG.out]
          refine redo_nocut hcut ?_
          intro e
          have hl : u.data.toList.length = u.size := by simp
          rw [e] at hl; simp at hl; omega
        go_wp2
        go_ret
        exact ⟨D, HCON1.out, HF1.out, .inr ⟨HE.out, rfl⟩⟩
end Go.Proofs.YtellilpeakpbfaaGreatDoor

end

section
/-
  The walks of journal: readFile, Read.
-/
namespace Go.Proofs.YtellilpeakpbfaaGreatDoor
open Go.RowKit

theorem Tryz.zeroCon : Tryz.zeroCells145 = (pairs (List.replicate 100 (Value.bool false, Value.int .i64 0)) ++ [Value.slice none 0 0]).toArray := by kernel_rfl
/-- new contents hold nothing. -/
theorem con_new (w : World) : ConAt w.heap.size (w.alloc (.cells Tryz.zeroCells145 145)) w.heap.size Jn.none0 := by
  have hl : (pairs (List.replicate 100 (Value.bool false, Value.int .i64 0))).length = 200 := by rw [pairs_len, List.length_replicate]
  refine ⟨Nat.le_refl _, Jn.ok_none, _, .slice none 0 0, heap_alloc_new w _, ?_, ?_, ?_, World.ownsRow_nil _ _ _ _⟩
  · rw [Tryz.zeroCon]
    simp only [List.size_toArray, List.length_append, hl]
    rfl
  · intro k o hk
    have hk' : k < 100 := by have := (List.getElem?_eq_some_iff.1 hk).1; simpa [Jn.none0] using this
    have ho : o = none := by
      simp only [Jn.none0, List.getElem?_replicate] at hk
      rw [if_pos hk'] at hk
      simpa using hk.symm
    subst ho
    obtain ⟨c1, c2⟩ := pairs_at (List.replicate 100 (Value.bool false, Value.int .i64 0)) k (.bool false, .int .i64 0) (by rw [List.getElem?_replicate, if_pos hk'])
    rw [Tryz.zeroCon]
    simp only [List.getElem?_toArray]
    rw [List.getElem?_append_left (by omega), List.getElem?_append_left (by omega)]
    exact ⟨c1, c2⟩
  · rw [Tryz.zeroCon]
    simp only [List.getElem?_toArray]
    rw [List.getElem?_append_right (by omega), hl]
    rfl

theorem ConAt.low' {L L' : Nat} {w : World} {B : Nat} {C : Jn.Con} (h : ConAt L w B C) (hL : L' ≤ B) : ConAt L' w B C := ⟨hL, h.ok, h.mem⟩

/-- what readFile answers: at block B, made by the call. -/
def FilePost (o : Option (Jn.Con × Bool)) (w : World) (e : Ending) (w' : World) : Prop :=
  Below w.heap.size w w' ∧ ((∃ C b B, o = some (C, b) ∧ ConAt w.heap.size w' B C ∧ e = .returned (.tuple #[.pointer (some ⟨B, 0, none⟩), .bool b, .int .i64 0])) ∨
    (o = none ∧ e = .returned (.tuple #[.pointer none, .bool false, .int .i64 11])))

theorem recs_cut {C : Jn.Con} {l a b : List UInt8} (h : Jn.cutAt 46 l = some (a, b)) : Jn.redoRecs C (Jn.pieces 46 l).1 = match Jn.redo C a with | some D => Jn.redoRecs D (Jn.pieces 46 b).1 | none => none := by
  rw [(Jn.cut_some 46 l a b h).1]
  rfl

def FiRel (N B : Nat) (o : Option Jn.Con) (w : World) (s : ByteArray) (x : Value) (wr : World) : Prop :=
  ∃ (u : ByteArray) (D : Jn.Con), x = .string u ∧ u.size ≤ s.size ∧ ConAt N wr B D ∧ Fr N [145] none w wr ∧ Jn.redoRecs D (Jn.pieces 46 u.data.toList).1 = o ∧ (u = s ∨ (u.size < s.size ∧ (Jn.pieces 46 s.data.toList).1 ≠ []))

set_option maxHeartbeats 1000000 in
set_option maxRecDepth 100000 in
theorem readFile_any (s : ByteArray) (w : World) (hW : WordsAt w) (hs : s.size ≤ 1152921504606846976) :
    Calls Tryz.prog 148 #[.string s] w (FilePost (Jn.readFile s.data.toList) w) := by
  obtain ⟨r, hr⟩ : ∃ r, r = Jn.redoRecs Jn.none0 (Jn.pieces 46 s.data.toList).1 := ⟨_, rfl⟩
  unfold Jn.readFile
  rw [← hr]
  obtain ⟨w1, hw1⟩ : ∃ w1, w1 = w.alloc (.cells Tryz.zeroCells145 145) := ⟨_, rfl⟩
  have HB1 : Hid (Below w.heap.size w w1) := by show Below _ _ _; rw [hw1]; exact (Below.refl _ _).alloc (Nat.le_refl _) _
  have hgL : 0 < w.heap.size := hW.1
  have HS : Hid (FiRel w.heap.size w.heap.size r w1 s (.string s) w1) :=
    ⟨s, Jn.none0, rfl, Nat.le_refl _, by rw [hw1]; exact con_new w, Fr.refl _ _ _ _, hr.symm, .inl rfl⟩
  have HW : Hid (WordsAt w1) := by show WordsAt _; exact hW.below hW.1 HB1.out
  clear hr hW
  go_enter Tryz.func148, Tryz.ntmps148
  go_wp2
  rw [← hw1]
  have HW1 := hide hw1
  clear hw1
  go_loopw [6] (fun x wr => FiRel w.heap.size w.heap.size r w1 s x wr) (fun x _ => strLen x)
  case atStart => exact HS.out
  case round =>
    obtain ⟨u, D, rfl, hu, hcon, hfr, hgo, hp1⟩ := hrel
    have HCON := hide hcon
    have HF := hide hfr
    have HG := hide hgo
    have HP1 := hide hp1
    clear hcon hfr hgo HS hp1
    have hend : (Jn.pieces 46 u.data.toList).1 = [] → r = some D ∧ decide (u.size < s.size) = decide ((Jn.pieces 46 s.data.toList).1 ≠ []) := by
      intro hp
      refine ⟨by rw [← HG.out, hp]; rfl, ?_⟩
      rcases HP1.out with e | ⟨h1, h2⟩
      · rw [decide_eq_false (by rw [e]; omega), decide_eq_false]
        rw [← e]; exact fun h => h hp
      · rw [decide_eq_true h1, decide_eq_true h2]
    have HEND := hide hend
    clear hend
    by_cases h0 : u.size = 0
    · have t1 : decide (0 < u.size) = false := decide_eq_false (by omega)
      have hl : u.data.toList.length = u.size := by simp
      have HE := hide (HEND.out (by rw [List.length_eq_zero_iff.1 (hl.trans h0)]; rfl))
      clear h0 hl HEND
      go_wp2
      go_ret3
      refine ⟨HB1.out.trans HF.out.below, .inl ⟨D, decide ((Jn.pieces 46 s.data.toList).1 ≠ []), w.heap.size, by rw [HE.out.1]; rfl, HCON.out, ?_⟩⟩
      rw [← HE.out.2]
      rfl
    · have t1 : decide (0 < u.size) = true := decide_eq_true (by omega)
      have hL : w.heap.size ≤ wr.heap.size := Nat.le_of_lt HCON.out.lt
      have hc : ∀ w, Calls Tryz.prog 165 #[.string u, .int .u8 46] w fun e w' => CutPost 46 u.data.toList e ∧ Below w.heap.size w w' := fun w => cut_any u 46 w (by omega)
      have HC := hide hc
      clear hc
      go_wp2_with fail
      refine (HC.out _).mono ?_
      rintro e w2 ⟨⟨A, Z, b, rfl, hcut⟩, hb⟩
      have HCON1 := hide (HCON.out.below hb)
      have HF1 : Hid (Fr w.heap.size [145] none w1 w2) := HF.out.trans (Fr.of hb hL)
      clear hb HC HCON HF
      rcases hcut with ⟨rfl, hcut⟩ | ⟨rfl, hcut⟩
      · have hsz := cut_size hcut
        have HX := hide (recs_cut (C := D) hcut)
        have hps := (Jn.cut_some 46 _ _ _ hcut).1
        have HN : Hid ((Jn.pieces 46 s.data.toList).1 ≠ [] ) := by
          show _ ≠ _
          rcases HP1.out with e | ⟨_, h2⟩
          · rw [← e, hps]; simp
          · exact h2
        have hent := redo_any w.heap.size w.heap.size D A w2 HCON1.out (HW.out.fr hgL HF1.out) hgL (by omega)
        clear hcut hps
        generalize Jn.redo D A.data.toList = o at *
        have HEN := hide hent
        clear hent HEND
        go_wp2_with fail
        refine HEN.out.mono ?_
        rintro e w3 ⟨E, hE, hf, (⟨ho, rfl⟩ | ⟨ho, rfl⟩)⟩
        · have HR2 : Hid (FiRel w.heap.size w.heap.size r w1 s (.string Z) w3) := ⟨Z, E, rfl, by omega, hE, HF1.out.trans hf, by rw [← HG.out, HX.out, ho], .inr ⟨by omega, HN.out⟩⟩
          clear hE hf ho HEN
          go_wp2
          go_roundw
          case rel => exact HR2.out
          case measure => simp [strLen]; omega
        · have HR2 : Hid (r = none) := by show _ = _; rw [← HG.out, HX.out, ho]
          have HB3 : Hid (Below w.heap.size w w3) := HB1.out.trans (HF1.out.trans hf).below
          clear hE hf ho HEN
          go_wp2
          go_ret3
          exact ⟨HB3.out, .inr ⟨by rw [HR2.out]; rfl, rfl⟩⟩
      · have hps := Jn.cut_none 46 _ hcut
        have HE := hide (HEND.out (by rw [hps]))
        clear hps hcut HEND
        go_wp2
        go_ret3
        refine ⟨HB1.out.trans HF1.out.below, .inl ⟨D, decide ((Jn.pieces 46 s.data.toList).1 ≠ []), w.heap.size, by rw [HE.out.1]; rfl, HCON1.out, ?_⟩⟩
        rw [← HE.out.2]
        rfl

set_option maxHeartbeats 400000 in
theorem file_fail (s : ByteArray) (w : World) (hW : WordsAt w) (hs : s.size ≤ 1152921504606846976) (h : Jn.readFile s.data.toList = none) :
    Calls Tryz.prog 148 #[.string s] w fun e w' => e = .returned (.tuple #[.pointer none, .bool false, .int .i64 11]) ∧ Below w.heap.size w w' := by
  refine (readFile_any s w hW hs).mono ?_
  rintro e w' ⟨hb, (⟨C, b, B, ho, _, _⟩ | ⟨_, he⟩)⟩
  · rw [h] at ho; cases ho
  · exact ⟨he, hb⟩
theorem file_ok (s : ByteArray) (w : World) (hW : WordsAt w) (hs : s.size ≤ 1152921504606846976) (C : Jn.Con) (b : Bool) (h : Jn.readFile s.data.toList = some (C, b)) :
    Calls Tryz.prog 148 #[.string s] w fun e w' => ∃ B, e = .returned (.tuple #[.pointer (some ⟨B, 0, none⟩), .bool b, .int .i64 0]) ∧ ConAt w.heap.size w' B C ∧ Below w.heap.size w w' := by
  refine (readFile_any s w hW hs).mono ?_
  rintro e w' ⟨hb, (⟨C', b', B, ho, hc, he⟩ | ⟨ho, _⟩)⟩
  · rw [h] at ho; cases ho; exact ⟨B, he, hc, hb⟩
  · rw [h] at ho; cases ho

/-- what Read answers. -/
def ReadPost (o : Option (Jn.Con × Int)) (w : World) (e : Ending) (w' : World) : Prop :=
  Below w.heap.size w w' ∧ ((∃ C f B, o = some (C, f) ∧ ConAt w.heap.size w' B C ∧ e = .returned (.tuple #[.pointer (some ⟨B, 0, none⟩), .int .i64 f, .int .i64 0])) ∨
    (o = none ∧ e = .returned (.tuple #[.pointer none, .int .i64 0, .int .i64 11])))

set_option maxHeartbeats 1000000 in
theorem readJ_any (a b : ByteArray) (w : World) (hW : WordsAt w) (ha : a.size ≤ 1152921504606846976) (hb : b.size ≤ 1152921504606846976) :
    Calls Tryz.prog 122 #[.string a, .string b] w (ReadPost (Jn.readTwo a.data.toList b.data.toList) w) := by
  obtain ⟨r, hr⟩ : ∃ r, r = Jn.readTwo a.data.toList b.data.toList := ⟨_, rfl⟩
  rw [← hr]
  have hla : a.data.toList.length = a.size := by simp
  have hlb : b.data.toList.length = b.size := by simp
  unfold Jn.readTwo at hr
  rw [hla, hlb] at hr
  clear hla hlb
  have hok := file_ok a w hW ha
  have hno := file_fail a w hW ha
  have hok2 := fun w hW => file_ok b w hW hb
  have hno2 := fun w hW => file_fail b w hW hb
  generalize Jn.readFile a.data.toList = oa at *
  generalize Jn.readFile b.data.toList = ob at *
  have HOK := hide hok
  have HNO := hide hno
  have HOK2 := hide hok2
  have HNO2 := hide hno2
  have HW := hide hW
  have HR := hide hr
  clear hok hno hok2 hno2 hW hr
  cases oa with
  | none =>
    have HE : Hid (r = none) := HR.out
    go_enter Tryz.func122, Tryz.ntmps122
    go_wp2_with fail
    refine (HNO.out (by trivial)).mono ?_
    rintro e w1 ⟨rfl, hb1⟩
    have HB := hide hb1
    clear hb1
    go_wp2
    go_ret3
    exact ⟨HB.out, .inr ⟨HE.out, rfl⟩⟩
  | some pa =>
    obtain ⟨CA, ia⟩ := pa
    go_enter Tryz.func122, Tryz.ntmps122
    go_wp2_with fail
    refine (HOK.out CA ia rfl).mono ?_
    rintro e w1 ⟨BA, rfl, hca, hb1⟩
    have HB := hide hb1
    have HCA := hide hca
    clear hb1 hca
    have HW1 : Hid (WordsAt w1) := HW.out.below HW.out.1 HB.out
    cases ob with
    | none =>
      have HE : Hid (r = none) := HR.out
      go_wp2_with fail
      refine (HNO2.out _ HW1.out (by trivial)).mono ?_
      rintro e w2 ⟨rfl, hb2⟩
      have HB2 : Hid (Below w.heap.size w w2) := HB.out.trans (hb2.mono HB.out.size)
      clear hb2
      go_wp2
      go_ret3
      exact ⟨HB2.out, .inr ⟨HE.out, rfl⟩⟩
    | some pb =>
      obtain ⟨CB, ib⟩ := pb
      have HE : Hid (r = if ia = true then some (CA, 0) else if ib = false ∧ 0 < a.size + b.size then none else some (CB, 1)) := HR.out
      go_wp2_with fail
      refine (HOK2.out _ HW1.out CB ib rfl).mono ?_
      rintro e w2 ⟨BB, rfl, hcb, hb2⟩
      have HB2 : Hid (Below w.heap.size w w2) := HB.out.trans (hb2.mono HB.out.size)
      have HCA2 := hide (HCA.out.below hb2)
      have HCB2 : Hid (ConAt w.heap.size w2 BB CB) := hcb.low' (Nat.le_trans HB.out.size hcb.low)
      clear hb2 hcb
      cases ia with
      | true =>
        go_wp2
        go_ret3
        exact ⟨HB2.out, .inl ⟨CA, 0, BA, HE.out, HCA2.out, rfl⟩⟩
      | false =>
        cases ib with
        | true =>
          go_wp2
          go_ret3
          exact ⟨HB2.out, .inl ⟨CB, 1, BB, HE.out, HCB2.out, rfl⟩⟩
        | false =>
          by_cases hz : 0 < a.size + b.size
          · have HE2 : Hid (r = none) := by show _ = _; rw [HE.out, if_neg (by simp), if_pos ⟨rfl, hz⟩]
            have t1 : decide ((0 : Int) < (a.size : Int) + (b.size : Int)) = true := decide_eq_true (by omega)
            go_wp2
            go_ret3
            exact ⟨HB2.out, .inr ⟨HE2.out, rfl⟩⟩
          · have HE2 : Hid (r = some (CB, 1)) := by show _ = _; rw [HE.out, if_neg (by simp), if_neg (fun h => hz h.2)]
            have t1 : decide ((0 : Int) < (a.size : Int) + (b.size : Int)) = false := decide_eq_false (by omega)
            go_wp2
            go_ret3
            exact ⟨HB2.out, .inl ⟨CB, 1, BB, HE2.out, HCB2.out, rfl⟩⟩
end Go.Proofs.YtellilpeakpbfaaGreatDoor

end
