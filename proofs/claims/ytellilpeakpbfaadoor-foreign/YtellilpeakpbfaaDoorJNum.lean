import Derived.Test.YtellilpeakpbfaaDoorJCut
/-
  The walk of journal.numberIn, with a sign ahead.
-/
namespace Go.Proofs.YtellilpeakpbfaaDoor
open Go.RowKit

set_option maxHeartbeats 2000000 in
set_option maxRecDepth 100000 in
theorem numJ_neg (s D : ByteArray) (w : World) (hs : s.size ≤ 1152921504606846976) (h1 : 0 < s.size) (hn : s[0] = 45) (hD : s.extract 1 s.size = D) :
    Calls Tryd.prog 54 #[.string s] w fun e w' => e = .returned (jn (Jn.numberIn s.data.toList)) ∧ w' = w := by
  rw [head_rest s h1, hD, hn, numIn_neg]
  obtain ⟨r, hr⟩ : ∃ r, r = (digs D.data.toList).map fun n => -(n : Int) := ⟨_, rfl⟩
  rw [← hr]
  have HR := hide hr
  have hne : ((s[0].toNat : Int) == 45) = true := by rw [hn]; rfl
  have t0 : decide (0 < (s.size : Int)) = true := decide_eq_true (by omega)
  have hle : (1 : Int) ≤ (s.size : Int) := by omega
  clear hr hn
  by_cases hz : D.size = 0
  · have HN := hide (digs_size D (.inl hz))
    have t2 : ((D.size : Int) == 0) = true := beq_iff_eq.2 (by omega)
    clear hz
    go_enter Tryd.func54, Tryd.ntmps54
    go_wp2
    go_ret2
    rw [HR.out, HN.out]; exact ⟨rfl, rfl⟩
  have hd1 : 0 < D.size := by omega
  have t2 : ((D.size : Int) == 0) = false := beq_eq_false_iff_ne.2 (by omega)
  by_cases hb : 10 < D.size
  · have HN := hide (digs_size D (.inr hb))
    have t3 : decide (10 < (D.size : Int)) = true := decide_eq_true (by omega)
    go_enter Tryd.func54, Tryd.ntmps54
    go_wp2
    go_ret2
    rw [HR.out, HN.out]; exact ⟨rfl, rfl⟩
  · have t3 : decide (10 < (D.size : Int)) = false := decide_eq_false (by omega)
    have h2 : D.size ≤ 10 := by omega
    go_enter Tryd.func54, Tryd.ntmps54
    go_wp2
    clear hD
    go_loop [6, 7] (fun n i => ∃ k : Nat, k ≤ D.size ∧ i = .int .i64 k ∧ n = .int .i64 (Jn.digitsVal (D.data.toList.take k)) ∧ (∀ c ∈ D.data.toList.take k, Ck.isDig c = true)) (fun _ i => D.size - (intOf i).toNat)
    case atStart => exact ⟨0, Nat.zero_le _, rfl, rfl, by simp⟩
    case round =>
      obtain ⟨k, hk, rfl, rfl, hd⟩ := hrel
      have hv := dv_bd D k (by omega) hd
      have hv0 : (0 : Int) ≤ (Jn.digitsVal (D.data.toList.take k) : Int) := by omega
      have HD := hide hd
      clear hd
      by_cases hlt : k < D.size
      · have hc : (0 : Int) ≤ D[k].toNat ∧ (D[k].toNat : Int) ≤ 255 := by have := D[k].toNat_lt; omega
        obtain ⟨hc0, hc1⟩ := hc
        by_cases hg : 48 ≤ (D[k].toNat : Int) ∧ (D[k].toNat : Int) ≤ 57
        · obtain ⟨g1, g2⟩ := hg
          have HS := hide (take_snoc D k hlt)
          have HI : Hid (Ck.isDig D[k] = true) := (Ck.isDig_iff _).2 ⟨by omega, by omega⟩
          go_wp2
          go_round
          case rel =>
            refine ⟨k + 1, by omega, by go_num, ?_, ?_⟩
            · rw [HS.out, dv_snoc]; go_num
            · rw [HS.out]
              intro c hc
              rcases List.mem_append.1 hc with h | h
              · exact HD.out c h
              · simp at h; rw [h]; exact HI.out
          case measure => simp [intOf]; omega
        · have HN := hide (digs_not D k hlt (by
            have : ¬ (Ck.isDig D[k] = true) := fun h => by have := (Ck.isDig_iff _).1 h; omega
            simpa using this))
          go_wp2
          all_goals go_ret2
          all_goals (rw [HR.out, HN.out]; exact ⟨rfl, rfl⟩)
      · have HT := hide (take_all D k hlt)
        go_wp2
        go_ret2
        have hd := HD.out
        rw [HT.out] at hd
        rw [HR.out, digs_all D hd1 h2 hd, HT.out]
        exact ⟨rfl, rfl⟩

theorem numJ_any (s : ByteArray) (w : World) (hs : s.size ≤ 1152921504606846976) :
    Calls Tryd.prog 54 #[.string s] w fun e w' => e = .returned (jn (Jn.numberIn s.data.toList)) ∧ w' = w := by
  by_cases hn : s.data.toList.head? = some 45
  · have h1 : 0 < s.size := by
      have hl : s.data.toList.length = s.size := by simp
      cases h : s.data.toList with
      | nil => rw [h] at hn; cases hn
      | cons c r => rw [h] at hl; simp at hl; omega
    refine numJ_neg s _ w hs h1 ?_ rfl
    rw [head_rest s h1] at hn
    simpa using hn
  · exact numJ_pos s w hs hn
end Go.Proofs.YtellilpeakpbfaaDoor
