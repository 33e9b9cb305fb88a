import Derived.Test.YtellilpeakpbfaaDoorSplit
/-
  The walk of Tokens: the tokens of a source, as the document's answer cuts them.
-/
namespace Go.Proofs.YtellilpeakpbfaaDoor
open Go.RowKit

theorem sp_iff (c : UInt8) : Ck.isSp c = true ↔ (c.toNat : Int) = 32 ∨ (c.toNat : Int) = 10 := by
  have h1 := u8_eq c 32
  have h2 := u8_eq c 10
  simp only [Ck.isSp, Bool.or_eq_true, beq_iff_eq]
  rw [← h1, ← h2]
  rfl

/-- what stands in 'begun': -1, or where the token that is begun begins. -/
def Beg (l : List UInt8) (k : Nat) (b : Int) : Prop :=
  (b = -1 ∧ (Ck.scan (l.take k)).2 = []) ∨ ∃ j : Nat, j < k ∧ b = j ∧ (Ck.scan (l.take k)).2 = (l.take k).drop j
def TkRel (s : ByteArray) (w : World) (v a i : Value) (wr : World) : Prop :=
  ∃ (k : Nat) (b : Int), k ≤ s.size ∧ -1 ≤ b ∧ b < k ∧ i = .int .i64 k ∧ a = .int .i64 b ∧ Beg s.data.toList k b ∧
      wr.ownsRow w.heap.size 9 1 v (Ck.scan (s.data.toList.take k)).1.length ((Ck.scan (s.data.toList.take k)).1.map T) ∧ Below w.heap.size w wr

theorem beg_done {s : ByteArray} {k j : Nat} (hlt : k < s.size) (hj : j < k) (hsp : Ck.isSp s[k] = true) (h : Beg s.data.toList k j) :
    Ck.scan (s.data.toList.take (k + 1)) = ((Ck.scan (s.data.toList.take k)).1 ++ [(s.data.toList.take k).drop j], []) := by
  have hl : s.data.toList.length = s.size := by simp
  rcases h with ⟨h1, _⟩ | ⟨j', h1, h2, h3⟩
  · omega
  · have : j' = j := by omega
    subst this
    rw [take_snoc s k hlt, Ck.scan_done _ _ hsp (by rw [h3]; exact Ck.drop_ne _ _ k hj (by omega)), h3]
theorem beg_gap {s : ByteArray} {k : Nat} {b : Int} (hlt : k < s.size) (hb : b < 0) (hsp : Ck.isSp s[k] = true) (h : Beg s.data.toList k b) :
    Ck.scan (s.data.toList.take (k + 1)) = ((Ck.scan (s.data.toList.take k)).1, []) := by
  rcases h with ⟨_, h2⟩ | ⟨j', h1, h2, h3⟩
  · rw [take_snoc s k hlt, Ck.scan_gap _ _ hsp h2]
  · omega
theorem beg_first {s : ByteArray} {k : Nat} {b : Int} (hlt : k < s.size) (hb : b < 0) (hsp : Ck.isSp s[k] = false) (h : Beg s.data.toList k b) :
    Ck.scan (s.data.toList.take (k + 1)) = ((Ck.scan (s.data.toList.take k)).1, [s[k]]) ∧ Beg s.data.toList (k + 1) k := by
  have hl : s.data.toList.length = s.size := by simp
  rcases h with ⟨_, h2⟩ | ⟨j', h1, h2, h3⟩
  · have e : Ck.scan (s.data.toList.take (k + 1)) = ((Ck.scan (s.data.toList.take k)).1, [s[k]]) := by
      rw [take_snoc s k hlt, Ck.scan_more _ _ hsp, h2]; rfl
    refine ⟨e, Or.inr ⟨k, by omega, rfl, ?_⟩⟩
    rw [e, take_snoc s k hlt, List.drop_append_of_le_length (by simp; omega), Ck.drop_all]; rfl
  · omega
theorem beg_more {s : ByteArray} {k : Nat} {b : Int} (hlt : k < s.size) (hb : 0 ≤ b) (hsp : Ck.isSp s[k] = false) (h : Beg s.data.toList k b) :
    (Ck.scan (s.data.toList.take (k + 1))).1 = (Ck.scan (s.data.toList.take k)).1 ∧ Beg s.data.toList (k + 1) b := by
  have hl : s.data.toList.length = s.size := by simp
  rcases h with ⟨h1, _⟩ | ⟨j', h1, h2, h3⟩
  · omega
  · rw [take_snoc s k hlt, Ck.scan_more _ _ hsp]
    refine ⟨rfl, Or.inr ⟨j', by omega, h2, ?_⟩⟩
    rw [take_snoc s k hlt, Ck.scan_more _ _ hsp, List.drop_append_of_le_length (by simp; omega), h3]

set_option maxHeartbeats 2000000 in
set_option maxRecDepth 100000 in
theorem tokens_any (s : ByteArray) (w : World) (hs : s.size ≤ 400) :
    Calls Tryd.prog 23 #[.string s] w fun e w' => ∃ v, e = .returned v ∧ w'.ownsRow w.heap.size 9 1 v (Ck.toks s.data.toList).length ((Ck.toks s.data.toList).map T) ∧ Below w.heap.size w w' := by
  obtain ⟨i0, hi, hz0, hz1, hz2⟩ := info_parts Tryd.infoStr
  have hl : s.data.toList.length = s.size := by simp
  have HL := hide hl
  clear hl
  go_enter Tryd.func23, Tryd.ntmps23
  go_wp2
  go_loopw [3, 4, 5] (fun v a i wr => TkRel s w v a i wr) (fun _ _ i _ => s.size - (intOf i).toNat)
  case atStart => exact ⟨0, -1, Nat.zero_le _, by omega, by omega, rfl, rfl, Or.inl ⟨rfl, rfl⟩, World.ownsRow_nil _ _ _ _, Below.refl _ _⟩
  case round =>
    obtain ⟨k, b, hk, hb1, hb2, rfl, rfl, hsc, hown, hbel⟩ := hrel
    have HS := hide hsc
    have HO := hide hown
    have HB := hide hbel
    have hn : (Ck.scan (s.data.toList.take k)).1.length ≤ 400 := by
      have h1 := (Ck.scan_len (s.data.toList.take k)).1
      have h2 : (s.data.toList.take k).length ≤ k := by simp; omega
      omega
    have hsz := hbel.size
    clear hsc hown hbel
    by_cases hlt : k < s.size
    · by_cases hsp : Ck.isSp s[k] = true
      · have HSP := hide hsp
        have hc := (sp_iff _).1 hsp
        clear hsp
        by_cases hb0 : 0 ≤ b
        · obtain ⟨j, rfl⟩ := Int.eq_ofNat_of_zero_le hb0
          have fin : ∀ v' w1, w1.ownsRow w.heap.size 9 1 v' ((Ck.scan (s.data.toList.take k)).1.length + 1) ((Ck.scan (s.data.toList.take k)).1.map T ++ [.string (s.extract j k)]) → Below w.heap.size w w1 → TkRel s w v' (.int .i64 (-1)) (.int .i64 ((k : Int) + 1)) w1 := by
            intro v' w1 h1 h2
            have e := beg_done hlt (by omega) HSP.out HS.out
            refine ⟨k + 1, -1, by omega, by omega, by omega, by go_num, rfl, Or.inl ⟨rfl, by rw [e]⟩, ?_, h2⟩
            rw [e]
            rw [extract_T] at h1
            simpa using h1
          have FIN := hide fin
          clear fin
          rcases hc with hc | hc
          · have g1 : ((s[k].toNat : Int) == 32) = true := beq_iff_eq.2 hc
            clear hc
            go_wp2_with (at_builtin; refine wpList_append_own _ rfl (.tmp 28) (.tmp 33) 48 rfl w.heap.size 9 i0 (.string ⟨#[]⟩) 1 16 Tryd.underlying48 hi hz0 hz1 hz2 rfl (by decide) _ _ _ rfl (HO.out.alloc _) ⟨_, 0, none⟩ 1 1 [.string (s.extract j k)] rfl rfl ?c1 ?c2 ?c3 ?c4 ?c5 ?_)
            case c1 =>
              intro j u hj
              match j, hj with
              | 0, hj => simp at hj; subst hj; simp [Addr.add]
            case c2 => intro u hu; simp at hu; subst hu; rfl
            case c3 => unfold maxLen; omega
            case c4 => omega
            case c5 => simp; omega
            intro v' w1 hown' hgrow _
            have HO' := hide hown'
            have HG := hide hgrow
            clear hown' hgrow
            go_wp2
            go_roundw
            case rel => exact FIN.out _ _ HO'.out (below_own HB.out hsz HO.out HG.out)
            case measure => simp [intOf]; omega
          · have g1 : ((s[k].toNat : Int) == 32) = false := beq_eq_false_iff_ne.2 (by omega)
            have g2 : ((s[k].toNat : Int) == 10) = true := beq_iff_eq.2 hc
            clear hc
            go_wp2_with (at_builtin; refine wpList_append_own _ rfl (.tmp 28) (.tmp 33) 48 rfl w.heap.size 9 i0 (.string ⟨#[]⟩) 1 16 Tryd.underlying48 hi hz0 hz1 hz2 rfl (by decide) _ _ _ rfl (HO.out.alloc _) ⟨_, 0, none⟩ 1 1 [.string (s.extract j k)] rfl rfl ?e1 ?e2 ?e3 ?e4 ?e5 ?_)
            case e1 =>
              intro j u hj
              match j, hj with
              | 0, hj => simp at hj; subst hj; simp [Addr.add]
            case e2 => intro u hu; simp at hu; subst hu; rfl
            case e3 => unfold maxLen; omega
            case e4 => omega
            case e5 => simp; omega
            intro v' w1 hown' hgrow _
            have HO' := hide hown'
            have HG := hide hgrow
            clear hown' hgrow
            go_wp2
            go_roundw
            case rel => exact FIN.out _ _ HO'.out (below_own HB.out hsz HO.out HG.out)
            case measure => simp [intOf]; omega
        · have hb3 : b < 0 := by omega
          have fin : ∀ v w1, w1.ownsRow w.heap.size 9 1 v (Ck.scan (s.data.toList.take k)).1.length ((Ck.scan (s.data.toList.take k)).1.map T) → Below w.heap.size w w1 → TkRel s w v (.int .i64 b) (.int .i64 ((k : Int) + 1)) w1 := by
            intro v w1 h1 h2
            have e := beg_gap hlt (by omega) HSP.out HS.out
            refine ⟨k + 1, b, by omega, by omega, by omega, by go_num, rfl, Or.inl ⟨by omega, by rw [e]⟩, ?_, h2⟩
            rw [e]
            exact h1
          have FIN := hide fin
          clear fin hb0
          rcases hc with hc | hc
          · have g1 : ((s[k].toNat : Int) == 32) = true := beq_iff_eq.2 hc
            clear hc
            go_wp2
            go_roundw
            case rel => exact FIN.out _ _ HO.out HB.out
            case measure => simp [intOf]; omega
          · have g1 : ((s[k].toNat : Int) == 32) = false := beq_eq_false_iff_ne.2 (by omega)
            have g2 : ((s[k].toNat : Int) == 10) = true := beq_iff_eq.2 hc
            clear hc
            go_wp2
            go_roundw
            case rel => exact FIN.out _ _ HO.out HB.out
            case measure => simp [intOf]; omega
      · have hsp' : Ck.isSp s[k] = false := by simpa using hsp
        have HSP := hide hsp'
        have hc : ¬ ((s[k].toNat : Int) = 32 ∨ (s[k].toNat : Int) = 10) := fun h => hsp ((sp_iff _).2 h)
        have g1 : ((s[k].toNat : Int) == 32) = false := beq_eq_false_iff_ne.2 (by omega)
        have g2 : ((s[k].toNat : Int) == 10) = false := beq_eq_false_iff_ne.2 (by omega)
        clear hsp hsp' hc
        by_cases hb0 : 0 ≤ b
        · go_wp2
          go_roundw
          case rel =>
            have e := beg_more hlt hb0 HSP.out HS.out
            refine ⟨k + 1, b, by omega, by omega, by omega, by go_num, rfl, e.2, ?_, HB.out⟩
            rw [e.1]; exact HO.out
          case measure => simp [intOf]; omega
        · have hb3 : b < 0 := by omega
          go_wp2
          go_roundw
          case rel =>
            have e := beg_first hlt hb3 HSP.out HS.out
            refine ⟨k + 1, k, by omega, by omega, by omega, by go_num, rfl, e.2, ?_, HB.out⟩
            rw [e.1]; exact HO.out
          case measure => simp [intOf]; omega
    · have HT := hide (take_all s k hlt)
      by_cases hb0 : 0 ≤ b
      · obtain ⟨j, rfl⟩ := Int.eq_ofNat_of_zero_le hb0
        go_wp2_with (at_builtin; refine wpList_append_own _ rfl (.tmp 44) (.tmp 48) 48 rfl w.heap.size 9 i0 (.string ⟨#[]⟩) 1 16 Tryd.underlying48 hi hz0 hz1 hz2 rfl (by decide) _ _ _ rfl (HO.out.alloc _) ⟨_, 0, none⟩ 1 1 [.string (s.extract j s.size)] rfl rfl ?d1 ?d2 ?d3 ?d4 ?d5 ?_)
        case d1 =>
          intro j u hj
          match j, hj with
          | 0, hj => simp at hj; subst hj; simp [Addr.add]
        case d2 => intro u hu; simp at hu; subst hu; rfl
        case d3 => unfold maxLen; omega
        case d4 => omega
        case d5 => simp; omega
        intro v' w1 hown' hgrow _
        have HO' := hide hown'
        have HG := hide hgrow
        clear hown' hgrow
        go_wp2
        go_ret
        refine ⟨v', rfl, ?_, below_own HB.out hsz HO.out HG.out⟩
        have h := HO'.out
        rcases HS.out with ⟨h1, _⟩ | ⟨j', h1, h2, h3⟩
        · omega
        · have : j' = j := by omega
          subst this
          rw [extract_T, show s.size = k by omega, ← h3, HT.out] at h
          rw [Ck.toks_end _ (by rw [HT.out] at h3; rw [h3, ← HT.out]; exact Ck.drop_ne _ j' k (by omega) (by rw [HL.out]; omega))]
          simpa using h
      · have hb3 : b < 0 := by omega
        go_wp2
        go_ret
        refine ⟨_, rfl, ?_, HB.out⟩
        have h := HO.out
        rcases HS.out with ⟨_, h2⟩ | ⟨j', h1, h2, h3⟩
        · rw [HT.out] at h h2
          rw [Ck.toks_gap _ h2]
          exact h
        · omega
end Go.Proofs.YtellilpeakpbfaaDoor
