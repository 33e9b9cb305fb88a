import Derived.Test.YtellilpeakpbfaaGreatDoorLawQToo
section
/-
  Plain mathematics for Install and Drop: a source that reads is plain; what their entries do when read back.
-/
namespace Go.Proofs.YtellilpeakpbfaaGreatDoor
open Go.RowKit
namespace Ck

theorem take_nought (st : List Int) : (take st 0).1 = false := by
  unfold take
  repeat' split
  all_goals first | rfl | (exfalso; omega)
theorem rd_known (ts : List (List UInt8)) : ∀ (i : Nat) (st : List Int), (rdGo i st ts).2 = 0 → ∀ t ∈ ts, (tokenP t).1 ≠ 0 := by
  induction ts with
  | nil => intro _ _ _ t ht; cases ht
  | cons a r ih =>
    intro i st h t ht
    unfold rdGo at h
    split at h
    · rename_i hk
      rcases List.mem_cons.1 ht with rfl | ht
      · intro h0; rw [h0, take_nought] at hk; cases hk
      · exact ih _ _ h t ht
    · simp at h
theorem idx_mem (l : List UInt8) (h : wordsL.idxOf l < 16) : l ∈ wordsL := List.idxOf_lt_length_iff.1 h
theorem word_plain : ∀ x ∈ wordsL, ∀ c ∈ x, c ≠ 46 ∧ c ≠ 59 := by decide
theorem dig_plain (c : UInt8) (h : isDig c = true) : c ≠ 46 ∧ c ≠ 59 := by
  rw [isDig_iff] at h
  refine ⟨fun e => ?_, fun e => ?_⟩ <;> (subst e; revert h; decide)
theorem slot_plain (t : List UInt8) (c : UInt8) (hc : c ≠ 46 ∧ c ≠ 59) (h : 0 ≤ slot t c) : ∀ x ∈ t, x ≠ 46 ∧ x ≠ 59 := by
  obtain ⟨b, rfl, h1, h2⟩ := (slot_iff t c).1 h
  intro x hx
  simp only [List.mem_cons, List.not_mem_nil, or_false] at hx
  rcases hx with rfl | rfl
  · exact hc
  · exact dig_plain x ((isDig_iff x).2 ⟨h1, by omega⟩)
theorem tok_plain (t : List UInt8) (h : (tokenP t).1 ≠ 0) : ∀ c ∈ t, c ≠ 46 ∧ c ≠ 59 := by
  unfold tokenP at h
  split at h
  · rename_i hi
    exact word_plain t (idx_mem t hi)
  · cases hn : numIn t with
    | some n =>
      unfold numIn at hn
      split at hn
      · rename_i hg
        intro c hc
        exact dig_plain c (hg.2.2 c hc)
      · cases hn
    | none =>
      rw [hn] at h
      have h' : (named t).1 ≠ 0 := h
      unfold named at h'
      by_cases h1 : 0 ≤ slot t 97
      · exact slot_plain t 97 (by decide) h1
      · rw [if_neg h1] at h'
        by_cases h2 : 0 ≤ slot t 118
        · exact slot_plain t 118 (by decide) h2
        · rw [if_neg h2] at h'; simp at h'
theorem scan_has (l : List UInt8) : ∀ c ∈ l, isSp c = true ∨ (∃ t ∈ (scan l).1, c ∈ t) ∨ c ∈ (scan l).2 := by
  induction l using snoc_ind with
  | h0 => intro c hc; cases hc
  | h1 l a ih =>
    intro c hc
    rcases List.mem_append.1 hc with h | h
    · rcases ih c h with h | ⟨t, ht, hct⟩ | h
      · exact .inl h
      · refine .inr (.inl ⟨t, ?_, hct⟩)
        by_cases ha : isSp a = true
        · by_cases hn : (scan l).2 = []
          · rw [scan_gap l a ha hn]; exact ht
          · rw [scan_done l a ha hn]; simp [ht]
        · rw [scan_more l a (by simpa using ha)]; exact ht
      · by_cases ha : isSp a = true
        · by_cases hn : (scan l).2 = []
          · rw [hn] at h; cases h
          · rw [scan_done l a ha hn]
            exact .inr (.inl ⟨(scan l).2, by simp, h⟩)
        · rw [scan_more l a (by simpa using ha)]
          exact .inr (.inr (by simp [h]))
    · simp only [List.mem_cons, List.not_mem_nil, or_false] at h
      subst h
      by_cases ha : isSp c = true
      · exact .inl ha
      · rw [scan_more l c (by simpa using ha)]
        exact .inr (.inr (by simp))
theorem toks_has (l : List UInt8) (c : UInt8) (hc : c ∈ l) : isSp c = true ∨ ∃ t ∈ toks l, c ∈ t := by
  rcases scan_has l c hc with h | ⟨t, ht, h⟩ | h
  · exact .inl h
  · refine .inr ⟨t, ?_, h⟩
    by_cases hn : (scan l).2 = []
    · rw [toks_gap l hn]; exact ht
    · rw [toks_end l hn]; simp [ht]
  · refine .inr ⟨(scan l).2, ?_, h⟩
    have hn : (scan l).2 ≠ [] := fun e => by rw [e] at h; cases h
    rw [toks_end l hn]; simp
theorem read_plain (s : List UInt8) (h : (read s).2 = 0) : Jn.Plain s := by
  unfold read at h
  split at h
  · simp at h
  · have hk := rd_known (toks s) 0 [1] h
    have hb : ∀ c ∈ s, c ≠ 46 ∧ c ≠ 59 := by
      intro c hc
      rcases toks_has s c hc with hs | ⟨t, ht, hct⟩
      · unfold isSp at hs
        simp at hs
        rcases hs with rfl | rfl <;> decide
      · exact tok_plain t (hk t ht) c hct
    exact ⟨fun hm => (hb 46 hm).1 rfl, fun hm => (hb 59 hm).2 rfl⟩
end Ck

/-- the source of a procedure in a list. -/
def srcL : List (Jn.Bytes × Jn.Bytes) → Jn.Bytes → Option Jn.Bytes
  | [], _ => none
  | p :: r, n => if p.1 = n then some p.2 else srcL r n
theorem src_mem (l : List (Jn.Bytes × Jn.Bytes)) (n s : Jn.Bytes) (h : srcL l n = some s) : (n, s) ∈ l := by
  induction l with
  | nil => cases h
  | cons p r ih =>
    unfold srcL at h
    split at h
    · rename_i hp
      cases h
      subst hp
      simp
    · exact List.mem_cons_of_mem _ (ih h)
theorem src_none (l : List (Jn.Bytes × Jn.Bytes)) (n : Jn.Bytes) (h : srcL l n = none) : Jn.others l n = l := by
  induction l with
  | nil => rfl
  | cons p r ih =>
    unfold srcL at h
    split at h
    · cases h
    · rename_i hp
      have := ih h
      unfold Jn.others at this ⊢
      rw [List.filter_cons, if_pos (by simpa using hp), this]
theorem src_some (l : List (Jn.Bytes × Jn.Bytes)) (n : Jn.Bytes) (h : (srcL l n).isSome = true) : (Jn.others l n).length ≠ l.length := by
  cases hs : srcL l n with
  | none => rw [hs] at h; cases h
  | some s =>
    have hm := src_mem l n s hs
    intro hl
    unfold Jn.others at hl
    rw [List.length_filter_eq_length_iff] at hl
    have := hl _ hm
    simp at this
theorem drop_doc (C : Jn.Con) (n : Jn.Bytes) : Jn.drop C n = if (srcL C.procs n).isSome = true then (⟨C.cells, Jn.others C.procs n⟩, 0) else (C, 3) := by
  unfold Jn.drop
  by_cases h : (srcL C.procs n).isSome = true
  · rw [if_pos h, if_neg (src_some _ _ h)]
  · rw [if_neg h, if_pos]
    rw [src_none C.procs n (by simpa using h)]
theorem drop_same (C : Jn.Con) (n : Jn.Bytes) (h : (Jn.drop C n).2 ≠ 0) : (Jn.drop C n).1 = C := by
  unfold Jn.drop at h ⊢
  split
  · rfl
  · rename_i h1; rw [if_neg h1] at h; simp at h
theorem install_same (C : Jn.Con) (n s : Jn.Bytes) (h : (Jn.install C n s).2.2 ≠ 0) : (Jn.install C n s).1 = C := by
  unfold Jn.install at h ⊢
  split
  · rfl
  · split
    · rfl
    · split
      · rfl
      · rename_i h1 h2 h3; rw [if_neg h1, if_neg h2, if_neg h3] at h; simp at h
theorem install_facts (C : Jn.Con) (n s : Jn.Bytes) (h : (Jn.install C n s).2.2 = 0) : Jn.isName n = true ∧ (Ck.read s).2 = 0 ∧ (Jn.install C n s).2.1 = 0 := by
  unfold Jn.install at h ⊢
  split at h
  · simp at h
  · rename_i h1
    rw [if_neg h1]
    split at h
    · rename_i h2; exact absurd h h2
    · rename_i h2
      rw [if_neg h2]
      split at h
      · simp at h
      · rename_i h3
        rw [if_neg h3]
        exact ⟨by simpa using h1, by simpa using h2, rfl⟩
theorem install_redo (C : Jn.Con) (n s : Jn.Bytes) (h : (Jn.install C n s).2.2 = 0) : Jn.redo C (Jn.installE n s) = some (Jn.install C n s).1 ∧ 46 ∉ Jn.installE n s ∧ (Jn.installE n s).length = n.length + s.length + 3 := by
  obtain ⟨hn, hs, -⟩ := install_facts C n s h
  obtain ⟨p1, p2⟩ := Ck.read_plain s hs
  rw [Jn.installE_B]
  refine ⟨by rw [Jn.redo_one C _ (Jn.installB_no n s 59 (.inr rfl) hn p2), Jn.redo_installB C n s hn, if_pos h], ?_, ?_⟩
  · simp only [List.mem_append, not_or]
    exact ⟨Jn.installB_no n s 46 (.inl rfl) hn p1, by simp⟩
  · simp [Jn.installB]; omega
theorem drop_redo {C : Jn.Con} (hok : Jn.Ok C) (n : Jn.Bytes) (h : (Jn.drop C n).2 = 0) : Jn.redo C (Jn.dropE n) = some (Jn.drop C n).1 ∧ 46 ∉ Jn.dropE n ∧ (Jn.dropE n).length ≤ 10 := by
  have hn : Jn.isName n = true := by
    rw [drop_doc] at h
    split at h
    · rename_i hs
      cases ht : srcL C.procs n with
      | none => rw [ht] at hs; cases hs
      | some t => exact (hok.prc _ (src_mem _ _ _ ht)).1
    · simp at h
  have hno : ∀ m : UInt8, (m = 46 ∨ m = 59) → m ∉ Jn.dropB n := by
    intro m hm
    unfold Jn.dropB
    simp only [List.mem_cons, not_or]
    exact ⟨by rcases hm with rfl | rfl <;> decide, Jn.name_no n hn m (by rcases hm with rfl | rfl <;> simp)⟩
  rw [Jn.dropE_B]
  refine ⟨by rw [Jn.redo_one C _ (hno 59 (.inr rfl)), Jn.redo_dropB C n, if_pos h], ?_, ?_⟩
  · simp only [List.mem_append, not_or]
    exact ⟨hno 46 (.inl rfl), by simp⟩
  · have := name_len n hn
    simp [Jn.dropB]; omega

/-- the document's list behind an Install. -/
def procL (l : List (Jn.Bytes × Jn.Bytes)) (n s : Jn.Bytes) : List (Jn.Bytes × Jn.Bytes) := l.takeWhile (fun p => Jn.ltB p.1 n) ++ [(n, s)] ++ l.filter (fun p => Jn.ltB n p.1)
theorem ltB_asym (a b : Jn.Bytes) (h : Jn.ltB a b = true) : Jn.ltB b a = false := by
  cases hb : Jn.ltB b a with
  | false => rfl
  | true => have := Jn.ltB_trans a b a h hb; rw [Jn.ltB_irr] at this; cases this
theorem filter_up (l : List (Jn.Bytes × Jn.Bytes)) (n : Jn.Bytes) (h : ∀ p ∈ l, Jn.ltB n p.1 = true) : l.filter (fun p => Jn.ltB n p.1) = l := List.filter_eq_self.2 h
theorem procL_insert (l : List (Jn.Bytes × Jn.Bytes)) (n s : Jn.Bytes) (h : l.Pairwise (fun p q => Jn.ltB p.1 q.1 = true)) (hn : ∀ p ∈ l, p.1 ≠ n) : procL l n s = Jn.insertP l (n, s) := by
  induction l with
  | nil => rfl
  | cons p r ih =>
    rw [List.pairwise_cons] at h
    have ih' := ih h.2 (fun q hq => hn q (by simp [hq]))
    unfold procL at ih' ⊢
    unfold Jn.insertP
    by_cases hp : Jn.ltB p.1 n = true
    · rw [if_pos hp, List.takeWhile_cons, if_pos hp, List.filter_cons, if_neg (by rw [ltB_asym _ _ hp]; simp), ← ih']
      simp
    · have hp' : Jn.ltB p.1 n = false := by simpa using hp
      have hnp : Jn.ltB n p.1 = true := Jn.ltB_tot p.1 n hp' (hn p (by simp))
      rw [if_neg hp, List.takeWhile_cons, if_neg hp, filter_up (p :: r) n]
      · simp
      · intro q hq
        rcases List.mem_cons.1 hq with rfl | hq
        · exact hnp
        · exact Jn.ltB_trans _ _ _ hnp (h.1 q hq)
theorem install_doc {C : Jn.Con} (hok : Jn.Ok C) (n s : Jn.Bytes) (hn : Jn.isName n = true) (hr : (Ck.read s).2 = 0) (hf : (Jn.others C.procs n).length < 8) : Jn.install C n s = (⟨C.cells, procL (Jn.others C.procs n) n s⟩, 0, 0) := by
  unfold Jn.install
  rw [if_neg (by rw [hn]; simp), if_neg (by simpa using hr), if_neg (by omega), procL_insert (Jn.others C.procs n) n s (hok.srt.filter _) (fun p hp => (Jn.others_mem _ _ _ hp).2)]

theorem ok_plain {C : Jn.Con} (h : Jn.Ok C) : ∀ p ∈ C.procs, Jn.Plain p.2 := fun p hp => Ck.read_plain p.2 (h.prc p hp).2
end Go.Proofs.YtellilpeakpbfaaGreatDoor

end

section
/-
  The walks of the document's procedures: Named, Proc, Others.
-/
namespace Go.Proofs.YtellilpeakpbfaaGreatDoor
open Go.RowKit

set_option maxHeartbeats 400000 in
theorem namedR_any (s : ByteArray) (w : World) :
    Calls Tryz.prog 144 #[.string s] w fun e w' => e = .returned (.bool (Jn.isName s.data.toList)) ∧ w' = w := by
  have hl : s.data.toList.length = s.size := by simp
  by_cases h0 : 1 ≤ s.size ∧ s.size ≤ 8
  · obtain ⟨h1, h2⟩ := h0
    have HN : Hid (Jn.isName s.data.toList = s.data.toList.all (fun c => decide (97 ≤ c.toNat) && decide (c.toNat ≤ 122))) := by
      show _ = _
      unfold Jn.isName
      rw [hl]
      simp [h1, h2]
    have t1 : (s.toList == []) = false := beq_eq_false_iff_ne.2 (by rw [ByteArray.toList_eq]; intro h; rw [h] at hl; simp at hl; omega)
    have t2 : decide (8 < (s.size : Int)) = false := by simp; omega
    clear hl
    go_enter Tryz.func144, Tryz.ntmps144
    go_wp2
    go_loop [3] (fun i => ∃ k : Nat, k ≤ s.size ∧ i = .int .i64 k ∧ (∀ c ∈ s.data.toList.take k, (decide (97 ≤ c.toNat) && decide (c.toNat ≤ 122)) = true)) (fun i => s.size - (intOf i).toNat)
    case atStart => exact ⟨0, Nat.zero_le _, rfl, by simp⟩
    case round =>
      obtain ⟨k, hk, rfl, hd⟩ := hrel
      have HD := hide hd
      clear hd
      by_cases hlt : k < s.size
      · have hc : (0 : Int) ≤ s[k].toNat ∧ (s[k].toNat : Int) ≤ 255 := by have := s[k].toNat_lt; omega
        obtain ⟨hc0, hc1⟩ := hc
        by_cases hg : 97 ≤ (s[k].toNat : Int) ∧ (s[k].toNat : Int) ≤ 122
        · obtain ⟨g1, g2⟩ := hg
          have HS := hide (take_snoc s k hlt)
          have HI : Hid ((decide (97 ≤ s[k].toNat) && decide (s[k].toNat ≤ 122)) = true) := by show _ = _; simp; omega
          go_wp2
          go_round
          case rel =>
            refine ⟨k + 1, by omega, by go_num, ?_⟩
            rw [HS.out]
            intro c hc
            rcases List.mem_append.1 hc with h | h
            · exact HD.out c h
            · simp at h; rw [h]; exact HI.out
          case measure => simp [intOf]; omega
        · have HF : Hid (Jn.isName s.data.toList = false) := by
            show _ = _
            rw [HN.out]
            exact all_take _ s k hlt (by simp; omega)
          go_wp2
          all_goals go_ret
          all_goals exact ⟨ret_bool HF.out.symm, rfl⟩
      · have HT := hide (take_all s k hlt)
        go_wp2
        go_ret
        refine ⟨ret_bool ?_, rfl⟩
        rw [HN.out, eq_comm, List.all_eq_true]
        have hd := HD.out
        rw [HT.out] at hd
        exact hd
  · have HF : Hid (Jn.isName s.data.toList = false) := by
      show _ = _
      unfold Jn.isName
      rw [hl, Bool.eq_false_iff]
      intro h
      simp at h; omega
    by_cases hz : s.size = 0
    · have t1 : (s.toList == []) = true := by rw [ByteArray.toList_eq, List.eq_nil_of_length_eq_zero (hl.trans hz)]; rfl
      clear hl
      go_enter Tryz.func144, Tryz.ntmps144
      go_wp2
      all_goals go_ret
      all_goals exact ⟨ret_bool HF.out.symm, rfl⟩
    · have t1 : (s.toList == []) = false := beq_eq_false_iff_ne.2 (by rw [ByteArray.toList_eq]; intro h; rw [h] at hl; simp at hl; omega)
      have t2 : decide (8 < (s.size : Int)) = true := by simp; omega
      clear hl
      go_enter Tryz.func144, Tryz.ntmps144
      go_wp2
      all_goals go_ret
      all_goals exact ⟨ret_bool HF.out.symm, rfl⟩

def PfRel (l : List (Jn.Bytes × Jn.Bytes)) (n : Jn.Bytes) (i : Value) : Prop := ∃ j : Nat, j ≤ l.length ∧ i = .int .i64 j ∧ srcL (l.drop j) n = srcL l n

set_option maxHeartbeats 1000000 in
theorem proc_any (b : Nat) (v : Value) (l : List (Jn.Bytes × Jn.Bytes)) (n : ByteArray) (w : World) (h : PRow w b v l) (hl : l.length ≤ 1000) :
    Calls Tryz.prog 146 #[v, .string n] w fun e w' => e = .returned (.tuple #[T ((srcL l n.data.toList).getD []), .bool (srcL l n.data.toList).isSome]) ∧ w' = w := by
  obtain ⟨ao, cap, rfl, hcs⟩ := h.shape
  have HC := hide hcs
  clear h hcs
  go_enter Tryz.func146, Tryz.ntmps146
  go_wp2
  go_loop [6] (fun i => PfRel l n.data.toList i) (fun i => l.length - (intOf i).toNat)
  case atStart => exact ⟨0, Nat.zero_le _, rfl, rfl⟩
  case round =>
    obtain ⟨j, hj, rfl, heq⟩ := hrel
    have HE := hide heq
    clear heq
    by_cases hlt : j < l.length
    · obtain ⟨g, cur, rfl, -, -, hcs⟩ := HC.out (by omega)
      obtain ⟨p, hp⟩ : ∃ p, l[j]? = some p := ⟨l[j], by simp [hlt]⟩
      obtain ⟨d1, d2⟩ := hcs j p hp
      have HD : Hid (l.drop j = p :: l.drop (j + 1)) := by
        show _ = _
        rw [List.drop_eq_getElem_cons hlt, (List.getElem?_eq_some_iff.1 hp).2]
      clear hcs hp
      obtain ⟨p1, p2⟩ := p
      simp only [T] at d1 d2
      obtain ⟨q1, hq1⟩ : ∃ q : ByteArray, q = ⟨p1.toArray⟩ := ⟨_, rfl⟩
      obtain ⟨q2, hq2⟩ : ∃ q : ByteArray, q = ⟨p2.toArray⟩ := ⟨_, rfl⟩
      rw [← hq1] at d1
      rw [← hq2] at d2
      have HQ1 := hide hq1
      have HQ2 := hide hq2
      clear hq1 hq2
      cases ht : (q1.toList == n.toList) with
      | true =>
        have HP : Hid (p1 = n.data.toList) := by
          show _ = _
          rw [ByteArray.toList_eq, ByteArray.toList_eq, HQ1.out] at ht
          simpa using ht
        have HR : Hid (srcL l n.data.toList = some p2) := by
          show _ = _
          rw [← HE.out, HD.out, srcL, if_pos HP.out]
        go_wp2
        go_ret2
        rw [HR.out]
        refine ⟨?_, rfl⟩
        rw [HQ2.out]
        rfl
      | false =>
        have HP : Hid (p1 ≠ n.data.toList) := by
          show _ ≠ _
          rw [ByteArray.toList_eq, ByteArray.toList_eq, HQ1.out] at ht
          simpa using ht
        have HR : Hid (srcL (l.drop (j + 1)) n.data.toList = srcL l n.data.toList) := by
          show _ = _
          rw [← HE.out, HD.out, srcL, if_neg HP.out]
        go_wp2
        go_round
        case rel => exact ⟨j + 1, by omega, by go_num, HR.out⟩
        case measure => simp [intOf]; omega
    · have HR : Hid (srcL l n.data.toList = none) := by
        show _ = _
        rw [← HE.out, List.drop_eq_nil_of_le (by omega)]; rfl
      go_wp2
      go_ret2
      rw [HR.out]
      exact ⟨rfl, rfl⟩

set_option maxHeartbeats 2000000 in
set_option maxRecDepth 100000 in
theorem othersR_any (b : Nat) (v : Value) (ps : List (Jn.Bytes × Jn.Bytes)) (s : ByteArray) (w : World) (h : PRow w b v ps) (hl : ps.length ≤ 1000) :
    Calls Tryz.prog 145 #[v, .string s] w fun e w' => ∃ v', e = .returned v' ∧ PRow w' w.heap.size v' (Jn.others ps s.data.toList) ∧ Below w.heap.size w w' := by
  obtain ⟨ao, cap, rfl, hcs⟩ := h.shape
  have HC := hide hcs
  clear h hcs
  obtain ⟨i0, hi, hz0, hz1, hz2⟩ := info_parts Tryz.infoProc
  go_enter Tryz.func145, Tryz.ntmps145
  go_wp2
  go_loopw [5, 6] (fun v i wr => OtRel w ps s.data.toList v i wr) (fun _ i _ => ps.length - (intOf i).toNat)
  case atStart => exact ⟨0, Nat.zero_le _, rfl, World.ownsRow_nil _ _ _ _, Below.refl _ _⟩
  case round =>
    obtain ⟨k, hk, rfl, hown, hbel⟩ := hrel
    have HO := hide hown
    have HB := hide hbel
    have hln : (Jn.others (List.take k ps) s.data.toList).length ≤ k := Nat.le_trans (Jn.others_sub _ _) (by simp; omega)
    have hwz := hbel.size
    clear hown hbel
    by_cases hlk : k < ps.length
    · obtain ⟨g, cur, rfl, -, -, hcells⟩ := HC.out (by omega)
      obtain ⟨p, hp⟩ : ∃ p, ps[k]? = some p := ⟨ps[k], by simp [hlk]⟩
      obtain ⟨c1, c2⟩ := hcells k p hp
      have d1 := at_old HB.out c1
      have d2 := at_old HB.out c2
      have HK := hide (others_take ps s.data.toList k p hp)
      clear hcells c1 c2 hp
      obtain ⟨p1, p2⟩ := p
      simp only [T] at d1 d2
      obtain ⟨q1, hq1⟩ : ∃ q : ByteArray, q = ⟨p1.toArray⟩ := ⟨_, rfl⟩
      obtain ⟨q2, hq2⟩ : ∃ q : ByteArray, q = ⟨p2.toArray⟩ := ⟨_, rfl⟩
      rw [← hq1] at d1
      rw [← hq2] at d2
      have HQ1 := hide hq1
      have HQ2 := hide hq2
      clear hq1 hq2
      cases ht : (q1.toList == s.toList) with
      | true =>
        have HE : Hid (p1 = s.data.toList) := by
          show _ = _
          rw [ByteArray.toList_eq, ByteArray.toList_eq, HQ1.out] at ht
          simpa using ht
        go_wp2
        go_roundw
        case rel => exact ⟨k + 1, by omega, by go_num, by rw [HK.out, if_pos HE.out, List.append_nil]; exact HO.out, HB.out⟩
        case measure => simp [intOf]; omega
      | false =>
        have HE : Hid (p1 ≠ s.data.toList) := by
          show _ ≠ _
          rw [ByteArray.toList_eq, ByteArray.toList_eq, HQ1.out] at ht
          simpa using ht
        go_wp2_with (at_builtin; refine wpList_append_own _ rfl (.tmp 20) (.tmp 25) 42 rfl w.heap.size 62 i0 (.agg #[.string ⟨#[]⟩, .string ⟨#[]⟩]) 2 32 Tryz.underlying42 hi hz0 hz1 hz2 rfl (by decide) _ _ _ rfl (HO.out.alloc _) ⟨_, 0, none⟩ 1 1 [.string q1, .string q2] rfl rfl ?c1 ?c2 ?c3 ?c4 ?c5 ?_)
        try (case c1 => exact cell_two_new _ _ _ _)
        case c2 => first | exact ⟨rfl, rfl⟩ | (intro u hu; simp at hu; rcases hu with rfl | rfl <;> rfl)
        case c3 => unfold maxLen; omega
        case c4 => omega
        case c5 => first | omega | (simp; omega)
        intro v' w7 hown' hgrow _
        have HR : Hid (OtRel w ps s.data.toList v' (.int .i64 ((k : Int) + 1)) w7) := by
          refine ⟨k + 1, by omega, by go_num, ?_, grow_below HB.out (by omega) HO.out hgrow⟩
          rw [HK.out, if_neg HE.out]
          refine PRow.snoc ?_
          rw [HQ1.out, HQ2.out] at hown'
          exact hown'
        clear hown' hgrow
        go_wp2
        go_roundw
        case rel => exact HR.out
        case measure => simp [intOf]; omega
    · go_wp2
      go_ret
      have e := HO.out
      rw [List.take_of_length_le (by omega)] at e
      exact ⟨_, rfl, e, HB.out⟩
end Go.Proofs.YtellilpeakpbfaaGreatDoor

end
