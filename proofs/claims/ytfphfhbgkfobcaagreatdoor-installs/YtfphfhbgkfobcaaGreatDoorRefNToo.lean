import Derived.Test.YtfphfhbgkfobcaaGreatDoorInsPToo
/-
  The walks of the document's procedures: Named, Proc, Others.
-/
namespace Go.Proofs.YtfphfhbgkfobcaaGreatDoor
open Go.RowKit

set_option maxHeartbeats 400000 in
theorem namedR_any (s : ByteArray) (w : World) :
    Calls Tryz.prog 143 #[.string s] w fun e w' => e = .returned (.bool (Jn.isName s.data.toList)) ∧ w' = w := by
  have hl : s.data.toList.length = s.size := by simp
  by_cases h0 : 1 ≤ s.size ∧ s.size ≤ 8
  · obtain ⟨h1, h2⟩ := h0
    have HN : Hid (Jn.isName s.data.toList = s.data.toList.all (fun c => decide (97 ≤ c.toNat) && decide (c.toNat ≤ 122))) := by
      show _ = _
      unfold Jn.isName
      rw [hl]
      simp [h1, h2]
    have t1 : (s.toList == []) = false := beq_eq_false_iff_ne.2 (by rw [ByteArray.toList_eq]; intro h; rw [h] at hl; simp at hl; omega)
    have t2 : decide (8 < (s.size : Int)) = false := by simp; omega
    clear hl
    go_enter Tryz.func143, Tryz.ntmps143
    go_wp2
    go_loop [3] (fun i => ∃ k : Nat, k ≤ s.size ∧ i = .int .i64 k ∧ (∀ c ∈ s.data.toList.take k, (decide (97 ≤ c.toNat) && decide (c.toNat ≤ 122)) = true)) (fun i => s.size - (intOf i).toNat)
    case atStart => exact ⟨0, Nat.zero_le _, rfl, by simp⟩
    case round =>
      obtain ⟨k, hk, rfl, hd⟩ := hrel
      have HD := hide hd
      clear hd
      by_cases hlt : k < s.size
      · have hc : (0 : Int) ≤ s[k].toNat ∧ (s[k].toNat : Int) ≤ 255 := by have := s[k].toNat_lt; omega
        obtain ⟨hc0, hc1⟩ := hc
        by_cases hg : 97 ≤ (s[k].toNat : Int) ∧ (s[k].toNat : Int) ≤ 122
        · obtain ⟨g1, g2⟩ := hg
          have HS := hide (take_snoc s k hlt)
          have HI : Hid ((decide (97 ≤ s[k].toNat) && decide (s[k].toNat ≤ 122)) = true) := by show _ = _; simp; omega
          go_wp2
          go_round
          case rel =>
            refine ⟨k + 1, by omega, by go_num, ?_⟩
            rw [HS.out]
            intro c hc
            rcases List.mem_append.1 hc with h | h
            · exact HD.out c h
            · simp at h; rw [h]; exact HI.out
          case measure => simp [intOf]; omega
        · have HF : Hid (Jn.isName s.data.toList = false) := by
            show _ = _
            rw [HN.out]
            exact all_take _ s k hlt (by simp; omega)
          go_wp2
          all_goals go_ret
          all_goals exact ⟨ret_bool HF.out.symm, rfl⟩
      · have HT := hide (take_all s k hlt)
        go_wp2
        go_ret
        refine ⟨ret_bool ?_, rfl⟩
        rw [HN.out, eq_comm, List.all_eq_true]
        have hd := HD.out
        rw [HT.out] at hd
        exact hd
  · have HF : Hid (Jn.isName s.data.toList = false) := by
      show _ = _
      unfold Jn.isName
      rw [hl, Bool.eq_false_iff]
      intro h
      simp at h; omega
    by_cases hz : s.size = 0
    · have t1 : (s.toList == []) = true := by rw [ByteArray.toList_eq, List.eq_nil_of_length_eq_zero (hl.trans hz)]; rfl
      clear hl
      go_enter Tryz.func143, Tryz.ntmps143
      go_wp2
      all_goals go_ret
      all_goals exact ⟨ret_bool HF.out.symm, rfl⟩
    · have t1 : (s.toList == []) = false := beq_eq_false_iff_ne.2 (by rw [ByteArray.toList_eq]; intro h; rw [h] at hl; simp at hl; omega)
      have t2 : decide (8 < (s.size : Int)) = true := by simp; omega
      clear hl
      go_enter Tryz.func143, Tryz.ntmps143
      go_wp2
      all_goals go_ret
      all_goals exact ⟨ret_bool HF.out.symm, rfl⟩

def PfRel (l : List (Jn.Bytes × Jn.Bytes)) (n : Jn.Bytes) (i : Value) : Prop := ∃ j : Nat, j ≤ l.length ∧ i = .int .i64 j ∧ srcL (l.drop j) n = srcL l n

set_option maxHeartbeats 1000000 in
theorem proc_any (b : Nat) (v : Value) (l : List (Jn.Bytes × Jn.Bytes)) (n : ByteArray) (w : World) (h : PRow w b v l) (hl : l.length ≤ 1000) :
    Calls Tryz.prog 145 #[v, .string n] w fun e w' => e = .returned (.tuple #[T ((srcL l n.data.toList).getD []), .bool (srcL l n.data.toList).isSome]) ∧ w' = w := by
  obtain ⟨ao, cap, rfl, hcs⟩ := h.shape
  have HC := hide hcs
  clear h hcs
  go_enter Tryz.func145, Tryz.ntmps145
  go_wp2
  go_loop [6] (fun i => PfRel l n.data.toList i) (fun i => l.length - (intOf i).toNat)
  case atStart => exact ⟨0, Nat.zero_le _, rfl, rfl⟩
  case round =>
    obtain ⟨j, hj, rfl, heq⟩ := hrel
    have HE := hide heq
    clear heq
    by_cases hlt : j < l.length
    · obtain ⟨g, cur, rfl, -, -, hcs⟩ := HC.out (by omega)
      obtain ⟨p, hp⟩ : ∃ p, l[j]? = some p := ⟨l[j], by simp [hlt]⟩
      obtain ⟨d1, d2⟩ := hcs j p hp
      have HD : Hid (l.drop j = p :: l.drop (j + 1)) := by
        show _ = _
        rw [List.drop_eq_getElem_cons hlt, (List.getElem?_eq_some_iff.1 hp).2]
      clear hcs hp
      obtain ⟨p1, p2⟩ := p
      simp only [T] at d1 d2
      obtain ⟨q1, hq1⟩ : ∃ q : ByteArray, q = ⟨p1.toArray⟩ := ⟨_, rfl⟩
      obtain ⟨q2, hq2⟩ : ∃ q : ByteArray, q = ⟨p2.toArray⟩ := ⟨_, rfl⟩
      rw [← hq1] at d1
      rw [← hq2] at d2
      have HQ1 := hide hq1
      have HQ2 := hide hq2
      clear hq1 hq2
      cases ht : (q1.toList == n.toList) with
      | true =>
        have HP : Hid (p1 = n.data.toList) := by
          show _ = _
          rw [ByteArray.toList_eq, ByteArray.toList_eq, HQ1.out] at ht
          simpa using ht
        have HR : Hid (srcL l n.data.toList = some p2) := by
          show _ = _
          rw [← HE.out, HD.out, srcL, if_pos HP.out]
        go_wp2
        go_ret2
        rw [HR.out]
        refine ⟨?_, rfl⟩
        rw [HQ2.out]
        rfl
      | false =>
        have HP : Hid (p1 ≠ n.data.toList) := by
          show _ ≠ _
          rw [ByteArray.toList_eq, ByteArray.toList_eq, HQ1.out] at ht
          simpa using ht
        have HR : Hid (srcL (l.drop (j + 1)) n.data.toList = srcL l n.data.toList) := by
          show _ = _
          rw [← HE.out, HD.out, srcL, if_neg HP.out]
        go_wp2
        go_round
        case rel => exact ⟨j + 1, by omega, by go_num, HR.out⟩
        case measure => simp [intOf]; omega
    · have HR : Hid (srcL l n.data.toList = none) := by
        show _ = _
        rw [← HE.out, List.drop_eq_nil_of_le (by omega)]; rfl
      go_wp2
      go_ret2
      rw [HR.out]
      exact ⟨rfl, rfl⟩

set_option maxHeartbeats 2000000 in
set_option maxRecDepth 100000 in
theorem othersR_any (b : Nat) (v : Value) (ps : List (Jn.Bytes × Jn.Bytes)) (s : ByteArray) (w : World) (h : PRow w b v ps) (hl : ps.length ≤ 1000) :
    Calls Tryz.prog 144 #[v, .string s] w fun e w' => ∃ v', e = .returned v' ∧ PRow w' w.heap.size v' (Jn.others ps s.data.toList) ∧ Below w.heap.size w w' := by
  obtain ⟨ao, cap, rfl, hcs⟩ := h.shape
  have HC := hide hcs
  clear h hcs
  obtain ⟨i0, hi, hz0, hz1, hz2⟩ := info_parts Tryz.infoProc
  go_enter Tryz.func144, Tryz.ntmps144
  go_wp2
  go_loopw [5, 6] (fun v i wr => OtRel w ps s.data.toList v i wr) (fun _ i _ => ps.length - (intOf i).toNat)
  case atStart => exact ⟨0, Nat.zero_le _, rfl, World.ownsRow_nil _ _ _ _, Below.refl _ _⟩
  case round =>
    obtain ⟨k, hk, rfl, hown, hbel⟩ := hrel
    have HO := hide hown
    have HB := hide hbel
    have hln : (Jn.others (List.take k ps) s.data.toList).length ≤ k := Nat.le_trans (Jn.others_sub _ _) (by simp; omega)
    have hwz := hbel.size
    clear hown hbel
    by_cases hlk : k < ps.length
    · obtain ⟨g, cur, rfl, -, -, hcells⟩ := HC.out (by omega)
      obtain ⟨p, hp⟩ : ∃ p, ps[k]? = some p := ⟨ps[k], by simp [hlk]⟩
      obtain ⟨c1, c2⟩ := hcells k p hp
      have d1 := at_old HB.out c1
      have d2 := at_old HB.out c2
      have HK := hide (others_take ps s.data.toList k p hp)
      clear hcells c1 c2 hp
      obtain ⟨p1, p2⟩ := p
      simp only [T] at d1 d2
      obtain ⟨q1, hq1⟩ : ∃ q : ByteArray, q = ⟨p1.toArray⟩ := ⟨_, rfl⟩
      obtain ⟨q2, hq2⟩ : ∃ q : ByteArray, q = ⟨p2.toArray⟩ := ⟨_, rfl⟩
      rw [← hq1] at d1
      rw [← hq2] at d2
      have HQ1 := hide hq1
      have HQ2 := hide hq2
      clear hq1 hq2
      cases ht : (q1.toList == s.toList) with
      | true =>
        have HE : Hid (p1 = s.data.toList) := by
          show _ = _
          rw [ByteArray.toList_eq, ByteArray.toList_eq, HQ1.out] at ht
          simpa using ht
        go_wp2
        go_roundw
        case rel => exact ⟨k + 1, by omega, by go_num, by rw [HK.out, if_pos HE.out, List.append_nil]; exact HO.out, HB.out⟩
        case measure => simp [intOf]; omega
      | false =>
        have HE : Hid (p1 ≠ s.data.toList) := by
          show _ ≠ _
          rw [ByteArray.toList_eq, ByteArray.toList_eq, HQ1.out] at ht
          simpa using ht
        go_wp2_with (at_builtin; refine wpList_append_own _ rfl (.tmp 20) (.tmp 25) 42 rfl w.heap.size 62 i0 (.agg #[.string ⟨#[]⟩, .string ⟨#[]⟩]) 2 32 Tryz.underlying42 hi hz0 hz1 hz2 rfl (by decide) _ _ _ rfl (HO.out.alloc _) ⟨_, 0, none⟩ 1 1 [.string q1, .string q2] rfl rfl ?c1 ?c2 ?c3 ?c4 ?c5 ?_)
        try (case c1 => exact cell_two_new _ _ _ _)
        case c2 => first | exact ⟨rfl, rfl⟩ | (intro u hu; simp at hu; rcases hu with rfl | rfl <;> rfl)
        case c3 => unfold maxLen; omega
        case c4 => omega
        case c5 => first | omega | (simp; omega)
        intro v' w7 hown' hgrow _
        have HR : Hid (OtRel w ps s.data.toList v' (.int .i64 ((k : Int) + 1)) w7) := by
          refine ⟨k + 1, by omega, by go_num, ?_, grow_below HB.out (by omega) HO.out hgrow⟩
          rw [HK.out, if_neg HE.out]
          refine PRow.snoc ?_
          rw [HQ1.out, HQ2.out] at hown'
          exact hown'
        clear hown' hgrow
        go_wp2
        go_roundw
        case rel => exact HR.out
        case measure => simp [intOf]; omega
    · go_wp2
      go_ret
      have e := HO.out
      rw [List.take_of_length_le (by omega)] at e
      exact ⟨_, rfl, e, HB.out⟩
end Go.Proofs.YtfphfhbgkfobcaaGreatDoor
