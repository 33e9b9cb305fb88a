import Derived.Test.YtellilpeakpbfaaGreatDoorStoreToo
section
/-
  The document's lists are the places' lists; what the files tell.
-/
namespace Go.Proofs.YtellilpeakpbfaaGreatDoor
open Go.RowKit

theorem keys_ge (cs : List (Option Int)) : ∀ (j : Nat) (p : Int × Int), p ∈ Jn.listFrom j cs → (j : Int) ≤ p.1 := by
  induction cs with
  | nil => intro j p h; simp [Jn.listFrom] at h
  | cons o r ih =>
    intro j p h
    cases o with
    | none => have := ih (j + 1) p (by simpa [Jn.listFrom] using h); omega
    | some v =>
      simp only [Jn.listFrom, List.mem_cons] at h
      rcases h with rfl | h
      · simp
      · have := ih (j + 1) p h; omega
theorem tw_nil (cs : List (Option Int)) (j : Nat) (k : Int) (h : k ≤ j) : (Jn.listFrom j cs).takeWhile (fun p => decide (p.1 < k)) = [] := by
  cases hl : Jn.listFrom j cs with
  | nil => rfl
  | cons p r =>
    have := keys_ge cs j p (by rw [hl]; simp)
    rw [List.takeWhile_cons, if_neg (by simp; omega)]
theorem fl_all (cs : List (Option Int)) (j : Nat) (k : Int) (h : k < j) : (Jn.listFrom j cs).filter (fun p => decide (k < p.1)) = Jn.listFrom j cs := by
  rw [List.filter_eq_self]
  intro p hp
  have := keys_ge cs j p hp
  simp; omega
theorem with_from (cs : List (Option Int)) (x : Int) : ∀ (j k : Nat), k < cs.length → withL (Jn.listFrom j cs) ((j + k : Nat) : Int) x = Jn.listFrom j (cs.set k (some x)) := by
  induction cs with
  | nil => intro j k h; simp at h
  | cons o r ih =>
    intro j k h
    cases k with
    | zero =>
      unfold withL
      cases o with
      | none =>
        simp only [Jn.listFrom, List.set_cons_zero, Nat.add_zero]
        rw [tw_nil r (j + 1) j (by omega), fl_all r (j + 1) j (by omega)]
        rfl
      | some v =>
        simp only [Jn.listFrom, List.set_cons_zero, Nat.add_zero]
        rw [List.takeWhile_cons, if_neg (by simp), List.filter_cons, if_neg (by simp), fl_all r (j + 1) j (by omega)]
        rfl
    | succ k =>
      have ih' := ih (j + 1) k (by simpa using h)
      rw [show j + 1 + k = j + (k + 1) by omega] at ih'
      cases o with
      | none =>
        simp only [Jn.listFrom, List.set_cons_succ]
        exact ih'
      | some v =>
        simp only [Jn.listFrom, List.set_cons_succ]
        rw [← ih']
        unfold withL
        rw [List.takeWhile_cons, if_pos (by simp; omega), List.filter_cons, if_neg (by simp; omega)]
        rfl
theorem without_from (cs : List (Option Int)) : ∀ (j k : Nat), k < cs.length → withoutL (Jn.listFrom j cs) ((j + k : Nat) : Int) = Jn.listFrom j (cs.set k none) := by
  induction cs with
  | nil => intro j k h; simp at h
  | cons o r ih =>
    intro j k h
    have all : ∀ i : Int, i < (j : Int) + 1 → withoutL (Jn.listFrom (j + 1) r) i = Jn.listFrom (j + 1) r := by
      intro i hi
      unfold withoutL
      rw [List.filter_eq_self]
      intro p hp
      have := keys_ge r (j + 1) p hp
      simp; omega
    cases k with
    | zero =>
      cases o with
      | none =>
        simp only [Jn.listFrom, List.set_cons_zero, Nat.add_zero]
        exact all _ (by omega)
      | some v =>
        simp only [Jn.listFrom, List.set_cons_zero, Nat.add_zero]
        have e : withoutL (((j : Int), v) :: Jn.listFrom (j + 1) r) (j : Int) = withoutL (Jn.listFrom (j + 1) r) (j : Int) := by
          unfold withoutL
          rw [List.filter_cons, if_neg (by simp)]
        rw [e]
        exact all _ (by omega)
    | succ k =>
      have ih' := ih (j + 1) k (by simpa using h)
      rw [show j + 1 + k = j + (k + 1) by omega] at ih'
      cases o with
      | none =>
        simp only [Jn.listFrom, List.set_cons_succ]
        exact ih'
      | some v =>
        simp only [Jn.listFrom, List.set_cons_succ]
        rw [← ih']
        unfold withoutL
        rw [List.filter_cons, if_pos (by simp; omega)]
theorem cell_from (cs : List (Option Int)) : ∀ (j k : Nat), k < cs.length → cellL (Jn.listFrom j cs) ((j + k : Nat) : Int) = cs.getD k none := by
  induction cs with
  | nil => intro j k h; simp at h
  | cons o r ih =>
    intro j k h
    cases k with
    | zero =>
      cases o with
      | none =>
        simp only [Jn.listFrom, Nat.add_zero]
        have : ∀ l : List (Int × Int), (∀ p ∈ l, (j : Int) < p.1) → cellL l (j : Int) = none := by
          intro l
          induction l with
          | nil => intro _; rfl
          | cons p t iht =>
            intro hp
            rw [cellL, if_neg (by have := hp p (by simp); omega)]
            exact iht (fun q hq => hp q (by simp [hq]))
        rw [this _ (fun p hp => by have := keys_ge r (j + 1) p hp; omega)]
        rfl
      | some v =>
        simp only [Jn.listFrom, Nat.add_zero]
        rw [cellL, if_pos rfl]
        rfl
    | succ k =>
      have ih' := ih (j + 1) k (by simpa using h)
      rw [show j + 1 + k = j + (k + 1) by omega] at ih'
      cases o with
      | none => simp only [Jn.listFrom]; rw [ih']; rfl
      | some v =>
        simp only [Jn.listFrom]
        rw [cellL, if_neg (by simp; omega), ih']
        rfl

theorem with_con {C : Jn.Con} (h : Jn.Ok C) (n : Nat) (hn : n ≤ 99) (x : Int) : withL C.list (n : Int) x = (Jn.setC C n (some x)).list := by
  have := with_from C.cells x 0 n (by rw [h.len]; omega)
  simp only [Nat.zero_add] at this
  unfold Jn.Con.list
  rw [this]
  simp [Jn.setC]
theorem without_con {C : Jn.Con} (h : Jn.Ok C) (n : Nat) (hn : n ≤ 99) : withoutL C.list (n : Int) = (Jn.setC C n none).list := by
  have := without_from C.cells 0 n (by rw [h.len]; omega)
  simp only [Nat.zero_add] at this
  unfold Jn.Con.list
  rw [this]
  simp [Jn.setC]
theorem cell_con {C : Jn.Con} (h : Jn.Ok C) (n : Nat) (hn : n ≤ 99) : cellL C.list (n : Int) = C.cells.getD n none := by
  have := cell_from C.cells 0 n (by rw [h.len]; omega)
  simp only [Nat.zero_add] at this
  exact this

theorem list_bound {C : Jn.Con} (h : Jn.Ok C) : C.list.length ≤ 1000 := Nat.le_trans (Nat.le_trans (list_len _ _) (Nat.le_of_eq h.len)) (by omega)

/-- the document's Put and Del, by the places. -/
theorem refPut_any (C : Jn.Con) (sc sp : Value) (k x : Int) (w : World) (h : CRow w 0 sc C.list) (hp : PRow w 0 sp C.procs) (hok : Jn.Ok C) (x0 : -9223372036854775808 ≤ x) (x1 : x ≤ 9223372036854775807) :
    Calls Tryz.prog 109 #[.agg #[sc, sp], .int .i64 k, .int .i64 x] w (RefPost sp (Jn.put C k x).1.list (Jn.put C k x).2 w) := by
  obtain ⟨so, sk, hs⟩ := crow_slice h
  obtain ⟨po, pk, hq, -⟩ := hp.shape
  unfold Jn.put
  cases hk : Jn.isKey k with
  | false =>
    rw [if_pos rfl]
    refine (refPut_key sc sp k x w so po _ sk _ pk hs hq hk).mono fun e w' ⟨he, hb⟩ => ⟨sc, he, h.below hb, hb⟩
  | true =>
    rw [if_neg (by simp)]
    cases hx : Jn.isVal x with
    | false =>
      rw [if_pos rfl]
      refine (refPut_val sc sp k x w so po _ sk _ pk hs hq hk hx x0 x1).mono fun e w' ⟨he, hb⟩ => ⟨sc, he, h.below hb, hb⟩
    | true =>
      rw [if_neg (by simp)]
      have h1 : 0 ≤ k ∧ k ≤ 99 := by unfold Jn.isKey at hk; simpa using hk
      obtain ⟨n, rfl⟩ := Int.eq_ofNat_of_zero_le h1.1
      have := refPut_ok 0 sc sp C.list n x w po _ pk h (list_bound hok) hq hk hx
      rw [with_con hok n (by omega)] at this
      exact this
theorem refDel_any (C : Jn.Con) (sc sp : Value) (k : Int) (w : World) (h : CRow w 0 sc C.list) (hp : PRow w 0 sp C.procs) (hok : Jn.Ok C) :
    Calls Tryz.prog 112 #[.agg #[sc, sp], .int .i64 k] w (RefPost sp (Jn.del C k).1.list (Jn.del C k).2 w) := by
  obtain ⟨so, sk, hs⟩ := crow_slice h
  obtain ⟨po, pk, hq, -⟩ := hp.shape
  unfold Jn.del
  cases hk : Jn.isKey k with
  | false =>
    rw [if_pos rfl]
    refine (refDel_key sc sp k w so po _ sk _ pk hs hq hk).mono fun e w' ⟨he, hb⟩ => ⟨sc, he, h.below hb, hb⟩
  | true =>
    rw [if_neg (by simp)]
    have h1 : 0 ≤ k ∧ k ≤ 99 := by unfold Jn.isKey at hk; simpa using hk
    obtain ⟨n, rfl⟩ := Int.eq_ofNat_of_zero_le h1.1
    have := refDel_ok 0 sc sp C.list n w po _ pk h (list_bound hok) hq hk
    rw [without_con hok n (by omega)] at this
    exact this

/-- the file f tells the contents, the other one is empty. -/
def DiskOk (d : DS) (f : Int) (C : Jn.Con) : Prop :=
  (f = 0 ∧ Jn.Tells d.1.data.toList C ∧ d.2.1 = ⟨#[]⟩) ∨ (f = 1 ∧ Jn.Tells d.2.1.data.toList C ∧ d.1 = ⟨#[]⟩)
theorem DiskOk.two {d : DS} {f : Int} {C : Jn.Con} (h : DiskOk d f C) : Jn.readTwo d.1.data.toList d.2.1.data.toList = some (C, f) := by
  rcases h with ⟨rfl, h1, h2⟩ | ⟨rfl, h1, h2⟩
  · rw [h2]; exact h1.two0
  · rw [h2]; exact h1.two1
theorem DiskOk.change {d : DS} {f : Int} {C C' : Jn.Con} {es : List UInt8} (h : DiskOk d f C) (hn : 46 ∉ es) (hr : Jn.redo C es = some C') (hs : d.1.size + d.2.1.size + (es.length + 1) ≤ 1152921504606846976) :
    ∃ d', playL d [(1, f, Jn.record es)] = some d' ∧ DiskOk d' f C' ∧ d'.1.size ≤ d.1.size + (es.length + 1) ∧ d'.2.1.size ≤ d.2.1.size + (es.length + 1) := by
  have hl : (Jn.record es).length = es.length + 1 := by simp [Jn.record]
  have hz : ∀ a : ByteArray, (a ++ ⟨(Jn.record es).toArray⟩).size = a.size + (es.length + 1) := fun a => by
    rw [ByteArray.size_append]
    show a.size + (Jn.record es).length = _
    rw [hl]
  obtain ⟨a, b, la, lb⟩ := d
  simp only at hs
  rcases h with ⟨rfl, h1, h2⟩ | ⟨rfl, h1, h2⟩
  · have e : playA (a, b, la, lb) (1, 0, Jn.record es) = some (a ++ ⟨(Jn.record es).toArray⟩, b, la, lb) := by
      unfold playA
      rw [if_pos ⟨rfl, rfl⟩, if_pos (by show a.size + (Jn.record es).length ≤ _; rw [hl]; omega)]
    refine ⟨(a ++ ⟨(Jn.record es).toArray⟩, b, la, lb), by rw [playL, e]; rfl, .inl ⟨rfl, ?_, h2⟩, Nat.le_of_eq (hz a), Nat.le_add_right _ _⟩
    show Jn.Tells (a ++ ⟨(Jn.record es).toArray⟩).data.toList C'
    rw [app_list]
    exact h1.step hn hr
  · have e : playA (a, b, la, lb) (1, 1, Jn.record es) = some (a, b ++ ⟨(Jn.record es).toArray⟩, la, lb) := by
      unfold playA
      rw [if_neg (by simp), if_pos ⟨rfl, rfl⟩, if_pos (by show b.size + (Jn.record es).length ≤ _; rw [hl]; omega)]
    refine ⟨(a, b ++ ⟨(Jn.record es).toArray⟩, la, lb), by rw [playL, e]; rfl, .inr ⟨rfl, ?_, h2⟩, Nat.le_add_right _ _, Nat.le_of_eq (hz b)⟩
    show Jn.Tells (b ++ ⟨(Jn.record es).toArray⟩).data.toList C'
    rw [app_list]
    exact h1.step hn hr
theorem DiskOk.move {d : DS} {f : Int} {C : Jn.Con} (hf : f = 0 ∨ f = 1) (hok : Jn.Ok C) (hp : ∀ p ∈ C.procs, Jn.Plain p.2) (hl : (Jn.all C).length ≤ 100000) :
    ∃ d', playL d (moveActs C f) = some d' ∧ DiskOk d' (1 - f) C ∧ d'.1.size + d'.2.1.size = (Jn.all C).length := by
  obtain ⟨a, b, la, lb⟩ := d
  have ht := Jn.tells_all C hok hp
  have hz : ((⟨#[]⟩ : ByteArray) ++ ⟨(Jn.all C).toArray⟩).size = (Jn.all C).length := by
    rw [ByteArray.size_append]
    show 0 + (Jn.all C).length = _
    omega
  have hd : ((⟨#[]⟩ : ByteArray) ++ ⟨(Jn.all C).toArray⟩).data.toList = Jn.all C := by rw [app_list]; rfl
  have h0 : (⟨#[]⟩ : ByteArray).size = 0 := rfl
  rcases hf with rfl | rfl
  · refine ⟨(⟨#[]⟩, ⟨#[]⟩ ++ ⟨(Jn.all C).toArray⟩, 0, ((⟨#[]⟩ ++ ⟨(Jn.all C).toArray⟩ : ByteArray).size : Int)), ?_, .inr ⟨rfl, by show Jn.Tells _ C; rw [hd]; exact ht, rfl⟩, by show 0 + _ = _; rw [hz]; omega⟩
    have e1 : playA (a, b, la, lb) (2, 0, []) = some ((a, b, (a.size : Int), lb) : DS) := rfl
    have e2 : playA (a, b, (a.size : Int), lb) (3, 1, []) = some ((a, (⟨#[]⟩ : ByteArray), (a.size : Int), (0 : Int)) : DS) := rfl
    have e3 : playA (a, ⟨#[]⟩, (a.size : Int), 0) (1, 1, Jn.all C) = some ((a, (⟨#[]⟩ : ByteArray) ++ ⟨(Jn.all C).toArray⟩, (a.size : Int), (0 : Int)) : DS) := by
      unfold playA
      rw [if_neg (by simp), if_pos ⟨rfl, rfl⟩, if_pos (by show (⟨#[]⟩ : ByteArray).size + (Jn.all C).length ≤ _; rw [h0]; omega)]
    show playL (a, b, la, lb) [(2, 0, []), (3, 1, []), (1, 1, Jn.all C), (2, 1, []), (3, 0, [])] = _
    rw [playL, e1]
    show playL (a, b, (a.size : Int), lb) [(3, 1, []), (1, 1, Jn.all C), (2, 1, []), (3, 0, [])] = _
    rw [playL, e2]
    show playL (a, ⟨#[]⟩, (a.size : Int), 0) [(1, 1, Jn.all C), (2, 1, []), (3, 0, [])] = _
    rw [playL, e3]
    rfl
  · refine ⟨(⟨#[]⟩ ++ ⟨(Jn.all C).toArray⟩, ⟨#[]⟩, ((⟨#[]⟩ ++ ⟨(Jn.all C).toArray⟩ : ByteArray).size : Int), 0), ?_, .inl ⟨rfl, by show Jn.Tells _ C; rw [hd]; exact ht, rfl⟩, by show _ + 0 = _; rw [hz]; omega⟩
    have e1 : playA (a, b, la, lb) (2, 1, []) = some ((a, b, la, (b.size : Int)) : DS) := rfl
    have e2 : playA (a, b, la, (b.size : Int)) (3, 0, []) = some (((⟨#[]⟩ : ByteArray), b, (0 : Int), (b.size : Int)) : DS) := rfl
    have e3 : playA (⟨#[]⟩, b, 0, (b.size : Int)) (1, 0, Jn.all C) = some (((⟨#[]⟩ : ByteArray) ++ ⟨(Jn.all C).toArray⟩, b, (0 : Int), (b.size : Int)) : DS) := by
      unfold playA
      rw [if_pos ⟨rfl, rfl⟩, if_pos (by show (⟨#[]⟩ : ByteArray).size + (Jn.all C).length ≤ _; rw [h0]; omega)]
    show playL (a, b, la, lb) [(2, 1, []), (3, 0, []), (1, 0, Jn.all C), (2, 0, []), (3, 1, [])] = _
    rw [playL, e1]
    show playL (a, b, la, (b.size : Int)) [(3, 0, []), (1, 0, Jn.all C), (2, 0, []), (3, 1, [])] = _
    rw [playL, e2]
    show playL (⟨#[]⟩, b, 0, (b.size : Int)) [(1, 0, Jn.all C), (2, 0, []), (3, 1, [])] = _
    rw [playL, e3]
    rfl
end Go.Proofs.YtellilpeakpbfaaGreatDoor

end

section
/-
  Plain mathematics for Install and Drop: a source that reads is plain; what their entries do when read back.
-/
namespace Go.Proofs.YtellilpeakpbfaaGreatDoor
open Go.RowKit
namespace Ck

theorem take_nought (st : List Int) : (take st 0).1 = false := by
  unfold take
  repeat' split
  all_goals first | rfl | (exfalso; omega)
theorem rd_known (ts : List (List UInt8)) : ∀ (i : Nat) (st : List Int), (rdGo i st ts).2 = 0 → ∀ t ∈ ts, (tokenP t).1 ≠ 0 := by
  induction ts with
  | nil => intro _ _ _ t ht; cases ht
  | cons a r ih =>
    intro i st h t ht
    unfold rdGo at h
    split at h
    · rename_i hk
      rcases List.mem_cons.1 ht with rfl | ht
      · intro h0; rw [h0, take_nought] at hk; cases hk
      · exact ih _ _ h t ht
    · simp at h
theorem idx_mem (l : List UInt8) (h : wordsL.idxOf l < 16) : l ∈ wordsL := List.idxOf_lt_length_iff.1 h
theorem word_plain : ∀ x ∈ wordsL, ∀ c ∈ x, c ≠ 46 ∧ c ≠ 59 := by decide
theorem dig_plain (c : UInt8) (h : isDig c = true) : c ≠ 46 ∧ c ≠ 59 := by
  rw [isDig_iff] at h
  refine ⟨fun e => ?_, fun e => ?_⟩ <;> (subst e; revert h; decide)
theorem slot_plain (t : List UInt8) (c : UInt8) (hc : c ≠ 46 ∧ c ≠ 59) (h : 0 ≤ slot t c) : ∀ x ∈ t, x ≠ 46 ∧ x ≠ 59 := by
  obtain ⟨b, rfl, h1, h2⟩ := (slot_iff t c).1 h
  intro x hx
  simp only [List.mem_cons, List.not_mem_nil, or_false] at hx
  rcases hx with rfl | rfl
  · exact hc
  · exact dig_plain x ((isDig_iff x).2 ⟨h1, by omega⟩)
theorem tok_plain (t : List UInt8) (h : (tokenP t).1 ≠ 0) : ∀ c ∈ t, c ≠ 46 ∧ c ≠ 59 := by
  unfold tokenP at h
  split at h
  · rename_i hi
    exact word_plain t (idx_mem t hi)
  · cases hn : numIn t with
    | some n =>
      unfold numIn at hn
      split at hn
      · rename_i hg
        intro c hc
        exact dig_plain c (hg.2.2 c hc)
      · cases hn
    | none =>
      rw [hn] at h
      have h' : (named t).1 ≠ 0 := h
      unfold named at h'
      by_cases h1 : 0 ≤ slot t 97
      · exact slot_plain t 97 (by decide) h1
      · rw [if_neg h1] at h'
        by_cases h2 : 0 ≤ slot t 118
        · exact slot_plain t 118 (by decide) h2
        · rw [if_neg h2] at h'; simp at h'
theorem scan_has (l : List UInt8) : ∀ c ∈ l, isSp c = true ∨ (∃ t ∈ (scan l).1, c ∈ t) ∨ c ∈ (scan l).2 := by
  induction l using snoc_ind with
  | h0 => intro c hc; cases hc
  | h1 l a ih =>
    intro c hc
    rcases List.mem_append.1 hc with h | h
    · rcases ih c h with h | ⟨t, ht, hct⟩ | h
      · exact .inl h
      · refine .inr (.inl ⟨t, ?_, hct⟩)
        by_cases ha : isSp a = true
        · by_cases hn : (scan l).2 = []
          · rw [scan_gap l a ha hn]; exact ht
          · rw [scan_done l a ha hn]; simp [ht]
        · rw [scan_more l a (by simpa using ha)]; exact ht
      · by_cases ha : isSp a = true
        · by_cases hn : (scan l).2 = []
          · rw [hn] at h; cases h
          · rw [scan_done l a ha hn]
            exact .inr (.inl ⟨(scan l).2, by simp, h⟩)
        · rw [scan_more l a (by simpa using ha)]
          exact .inr (.inr (by simp [h]))
    · simp only [List.mem_cons, List.not_mem_nil, or_false] at h
      subst h
      by_cases ha : isSp c = true
      · exact .inl ha
      · rw [scan_more l c (by simpa using ha)]
        exact .inr (.inr (by simp))
theorem toks_has (l : List UInt8) (c : UInt8) (hc : c ∈ l) : isSp c = true ∨ ∃ t ∈ toks l, c ∈ t := by
  rcases scan_has l c hc with h | ⟨t, ht, h⟩ | h
  · exact .inl h
  · refine .inr ⟨t, ?_, h⟩
    by_cases hn : (scan l).2 = []
    · rw [toks_gap l hn]; exact ht
    · rw [toks_end l hn]; simp [ht]
  · refine .inr ⟨(scan l).2, ?_, h⟩
    have hn : (scan l).2 ≠ [] := fun e => by rw [e] at h; cases h
    rw [toks_end l hn]; simp
theorem read_plain (s : List UInt8) (h : (read s).2 = 0) : Jn.Plain s := by
  unfold read at h
  split at h
  · simp at h
  · have hk := rd_known (toks s) 0 [1] h
    have hb : ∀ c ∈ s, c ≠ 46 ∧ c ≠ 59 := by
      intro c hc
      rcases toks_has s c hc with hs | ⟨t, ht, hct⟩
      · unfold isSp at hs
        simp at hs
        rcases hs with rfl | rfl <;> decide
      · exact tok_plain t (hk t ht) c hct
    exact ⟨fun hm => (hb 46 hm).1 rfl, fun hm => (hb 59 hm).2 rfl⟩
end Ck

/-- the source of a procedure in a list. -/
def srcL : List (Jn.Bytes × Jn.Bytes) → Jn.Bytes → Option Jn.Bytes
  | [], _ => none
  | p :: r, n => if p.1 = n then some p.2 else srcL r n
theorem src_mem (l : List (Jn.Bytes × Jn.Bytes)) (n s : Jn.Bytes) (h : srcL l n = some s) : (n, s) ∈ l := by
  induction l with
  | nil => cases h
  | cons p r ih =>
    unfold srcL at h
    split at h
    · rename_i hp
      cases h
      subst hp
      simp
    · exact List.mem_cons_of_mem _ (ih h)
theorem src_none (l : List (Jn.Bytes × Jn.Bytes)) (n : Jn.Bytes) (h : srcL l n = none) : Jn.others l n = l := by
  induction l with
  | nil => rfl
  | cons p r ih =>
    unfold srcL at h
    split at h
    · cases h
    · rename_i hp
      have := ih h
      unfold Jn.others at this ⊢
      rw [List.filter_cons, if_pos (by simpa using hp), this]
theorem src_some (l : List (Jn.Bytes × Jn.Bytes)) (n : Jn.Bytes) (h : (srcL l n).isSome = true) : (Jn.others l n).length ≠ l.length := by
  cases hs : srcL l n with
  | none => rw [hs] at h; cases h
  | some s =>
    have hm := src_mem l n s hs
    intro hl
    unfold Jn.others at hl
    rw [List.length_filter_eq_length_iff] at hl
    have := hl _ hm
    simp at this
theorem drop_doc (C : Jn.Con) (n : Jn.Bytes) : Jn.drop C n = if (srcL C.procs n).isSome = true then (⟨C.cells, Jn.others C.procs n⟩, 0) else (C, 3) := by
  unfold Jn.drop
  by_cases h : (srcL C.procs n).isSome = true
  · rw [if_pos h, if_neg (src_some _ _ h)]
  · rw [if_neg h, if_pos]
    rw [src_none C.procs n (by simpa using h)]
theorem drop_same (C : Jn.Con) (n : Jn.Bytes) (h : (Jn.drop C n).2 ≠ 0) : (Jn.drop C n).1 = C := by
  unfold Jn.drop at h ⊢
  split
  · rfl
  · rename_i h1; rw [if_neg h1] at h; simp at h
theorem install_same (C : Jn.Con) (n s : Jn.Bytes) (h : (Jn.install C n s).2.2 ≠ 0) : (Jn.install C n s).1 = C := by
  unfold Jn.install at h ⊢
  split
  · rfl
  · split
    · rfl
    · split
      · rfl
      · rename_i h1 h2 h3; rw [if_neg h1, if_neg h2, if_neg h3] at h; simp at h
theorem install_facts (C : Jn.Con) (n s : Jn.Bytes) (h : (Jn.install C n s).2.2 = 0) : Jn.isName n = true ∧ (Ck.read s).2 = 0 ∧ (Jn.install C n s).2.1 = 0 := by
  unfold Jn.install at h ⊢
  split at h
  · simp at h
  · rename_i h1
    rw [if_neg h1]
    split at h
    · rename_i h2; exact absurd h h2
    · rename_i h2
      rw [if_neg h2]
      split at h
      · simp at h
      · rename_i h3
        rw [if_neg h3]
        exact ⟨by simpa using h1, by simpa using h2, rfl⟩
theorem install_redo (C : Jn.Con) (n s : Jn.Bytes) (h : (Jn.install C n s).2.2 = 0) : Jn.redo C (Jn.installE n s) = some (Jn.install C n s).1 ∧ 46 ∉ Jn.installE n s ∧ (Jn.installE n s).length = n.length + s.length + 3 := by
  obtain ⟨hn, hs, -⟩ := install_facts C n s h
  obtain ⟨p1, p2⟩ := Ck.read_plain s hs
  rw [Jn.installE_B]
  refine ⟨by rw [Jn.redo_one C _ (Jn.installB_no n s 59 (.inr rfl) hn p2), Jn.redo_installB C n s hn, if_pos h], ?_, ?_⟩
  · simp only [List.mem_append, not_or]
    exact ⟨Jn.installB_no n s 46 (.inl rfl) hn p1, by simp⟩
  · simp [Jn.installB]; omega
theorem drop_redo {C : Jn.Con} (hok : Jn.Ok C) (n : Jn.Bytes) (h : (Jn.drop C n).2 = 0) : Jn.redo C (Jn.dropE n) = some (Jn.drop C n).1 ∧ 46 ∉ Jn.dropE n ∧ (Jn.dropE n).length ≤ 10 := by
  have hn : Jn.isName n = true := by
    rw [drop_doc] at h
    split at h
    · rename_i hs
      cases ht : srcL C.procs n with
      | none => rw [ht] at hs; cases hs
      | some t => exact (hok.prc _ (src_mem _ _ _ ht)).1
    · simp at h
  have hno : ∀ m : UInt8, (m = 46 ∨ m = 59) → m ∉ Jn.dropB n := by
    intro m hm
    unfold Jn.dropB
    simp only [List.mem_cons, not_or]
    exact ⟨by rcases hm with rfl | rfl <;> decide, Jn.name_no n hn m (by rcases hm with rfl | rfl <;> simp)⟩
  rw [Jn.dropE_B]
  refine ⟨by rw [Jn.redo_one C _ (hno 59 (.inr rfl)), Jn.redo_dropB C n, if_pos h], ?_, ?_⟩
  · simp only [List.mem_append, not_or]
    exact ⟨hno 46 (.inl rfl), by simp⟩
  · have := name_len n hn
    simp [Jn.dropB]; omega

/-- the document's list behind an Install. -/
def procL (l : List (Jn.Bytes × Jn.Bytes)) (n s : Jn.Bytes) : List (Jn.Bytes × Jn.Bytes) := l.takeWhile (fun p => Jn.ltB p.1 n) ++ [(n, s)] ++ l.filter (fun p => Jn.ltB n p.1)
theorem ltB_asym (a b : Jn.Bytes) (h : Jn.ltB a b = true) : Jn.ltB b a = false := by
  cases hb : Jn.ltB b a with
  | false => rfl
  | true => have := Jn.ltB_trans a b a h hb; rw [Jn.ltB_irr] at this; cases this
theorem filter_up (l : List (Jn.Bytes × Jn.Bytes)) (n : Jn.Bytes) (h : ∀ p ∈ l, Jn.ltB n p.1 = true) : l.filter (fun p => Jn.ltB n p.1) = l := List.filter_eq_self.2 h
theorem procL_insert (l : List (Jn.Bytes × Jn.Bytes)) (n s : Jn.Bytes) (h : l.Pairwise (fun p q => Jn.ltB p.1 q.1 = true)) (hn : ∀ p ∈ l, p.1 ≠ n) : procL l n s = Jn.insertP l (n, s) := by
  induction l with
  | nil => rfl
  | cons p r ih =>
    rw [List.pairwise_cons] at h
    have ih' := ih h.2 (fun q hq => hn q (by simp [hq]))
    unfold procL at ih' ⊢
    unfold Jn.insertP
    by_cases hp : Jn.ltB p.1 n = true
    · rw [if_pos hp, List.takeWhile_cons, if_pos hp, List.filter_cons, if_neg (by rw [ltB_asym _ _ hp]; simp), ← ih']
      simp
    · have hp' : Jn.ltB p.1 n = false := by simpa using hp
      have hnp : Jn.ltB n p.1 = true := Jn.ltB_tot p.1 n hp' (hn p (by simp))
      rw [if_neg hp, List.takeWhile_cons, if_neg hp, filter_up (p :: r) n]
      · simp
      · intro q hq
        rcases List.mem_cons.1 hq with rfl | hq
        · exact hnp
        · exact Jn.ltB_trans _ _ _ hnp (h.1 q hq)
theorem install_doc {C : Jn.Con} (hok : Jn.Ok C) (n s : Jn.Bytes) (hn : Jn.isName n = true) (hr : (Ck.read s).2 = 0) (hf : (Jn.others C.procs n).length < 8) : Jn.install C n s = (⟨C.cells, procL (Jn.others C.procs n) n s⟩, 0, 0) := by
  unfold Jn.install
  rw [if_neg (by rw [hn]; simp), if_neg (by simpa using hr), if_neg (by omega), procL_insert (Jn.others C.procs n) n s (hok.srt.filter _) (fun p hp => (Jn.others_mem _ _ _ hp).2)]

theorem ok_plain {C : Jn.Con} (h : Jn.Ok C) : ∀ p ∈ C.procs, Jn.Plain p.2 := fun p hp => Ck.read_plain p.2 (h.prc p hp).2
end Go.Proofs.YtellilpeakpbfaaGreatDoor

end

section
/-
  The plain mathematics of package run: a source that is worked out over tokens; no Go text.
-/
namespace Go.Proofs.YtellilpeakpbfaaGreatDoor
open Go.RowKit
namespace Rn

/-- What stays while a source is worked out. -/
structure En where
  tk : List (Int × Int)
  a0 : Int
  a1 : Int
  a2 : Int
  a3 : Int
  fuel : Nat
  con : Jn.Con
/-- What turns. -/
structure St where
  pos : Nat
  v0 : Int
  v1 : Int
  v2 : Int
  v3 : Int
  writes : List (Int × Bool × Int)
  used : Nat
  stopped : Bool
  result : Int

def oneIf (b : Bool) : Int := if b then 1 else 0
/-- the next token, and past it. -/
def tok (E : En) (s : St) : Int × Int := (E.tk[s.pos]?).getD (0, 0)
def adv (E : En) (s : St) : St := if s.pos < E.tk.length then { s with pos := s.pos + 1 } else s
def arg (E : En) (k : Int) : Int := if k = 0 then E.a0 else if k = 1 then E.a1 else if k = 2 then E.a2 else if k = 3 then E.a3 else 0
def var (s : St) (k : Int) : Int := if k = 0 then s.v0 else if k = 1 then s.v1 else if k = 2 then s.v2 else if k = 3 then s.v3 else 0
def setV (s : St) (k x : Int) : St := if k = 0 then { s with v0 := x } else if k = 1 then { s with v1 := x } else if k = 2 then { s with v2 := x } else if k = 3 then { s with v3 := x } else s
def find (ws : List (Int × Bool × Int)) (k : Int) : Nat := ws.findIdx (fun p => p.1 == k)
def held (C : Jn.Con) (k : Int) : Int × Bool × Int := if Jn.isKey k = true then ((C.cells.getD k.toNat none).getD 0, (C.cells.getD k.toNat none).isSome, 0) else (0, false, 5)
/-- what a cell holds: the value, whether it is there, the error. -/
def get (E : En) (s : St) (k : Int) : Int × Bool × Int :=
  match s.writes[find s.writes k]? with
  | some p => (p.2.2, p.2.1, 0)
  | none => held E.con k
def put (s : St) (p : Int × Bool × Int) : Int × St :=
  if Jn.isKey p.1 = false then (5, s) else
  if find s.writes p.1 < s.writes.length then (0, { s with writes := s.writes.set (find s.writes p.1) p }) else
  if 8 ≤ find s.writes p.1 then (8, s) else (0, { s with writes := s.writes ++ [p] })
/-- what is made of two numbers. -/
def sum (k a b : Int) : Int := if k = 4 then a + b else if k = 5 then a - b else a * b
def bounded (n : Int) : Int × Int := if Jn.isVal n = true then (n, 0) else (0, 7)
def reckon (k a b : Int) : Int × Int := if k = 7 then (oneIf (decide (a < b)), 0) else if k = 8 then (oneIf (a == b), 0) else bounded (sum k a b)

/-- the value, the error, what is behind it. -/
def expr (E : En) : Nat → St → Int × Int × St
  | 0, s => (0, 10, s)
  | n + 1, s =>
    if E.fuel ≤ s.used then (0, 10, s) else
    let t := tok E s
    let s1 := adv E { s with used := s.used + 1 }
    if t.1 = 1 then (t.2, 0, s1) else if t.1 = 2 then (arg E t.2, 0, s1) else if t.1 = 3 then (var s1 t.2, 0, s1) else
    if t.1 = 9 ∨ t.1 = 10 then
      let r := expr E n s1
      if r.2.1 ≠ 0 then (0, r.2.1, r.2.2) else
      let g := get E r.2.2 r.1
      if g.2.2 ≠ 0 then (0, g.2.2, r.2.2) else (if t.1 = 10 then oneIf g.2.1 else g.1, 0, r.2.2)
    else
      let a := expr E n s1
      if a.2.1 ≠ 0 then (0, a.2.1, a.2.2) else
      let b := expr E n a.2.2
      if b.2.1 ≠ 0 then (0, b.2.1, b.2.2) else ((reckon t.1 a.1 b.1).1, (reckon t.1 a.1 b.1).2, b.2.2)

/-- past statements in braces. -/
def skipGo (E : En) : Nat → Int → St → St
  | 0, _, s => s
  | n + 1, d, s =>
    if s.pos < E.tk.length then
      let d' := if (tok E s).1 = 18 then d + 1 else if (tok E s).1 = 19 then d - 1 else d
      if d' = 0 then adv E s else skipGo E n d' (adv E s)
    else s
def skip (E : En) (s : St) : St := skipGo E (E.tk.length + 1) 0 s

mutual
/-- the error, what is behind it. -/
def stmts (E : En) : Nat → St → Int × St
  | 0, s => (10, s)
  | n + 1, s =>
    if s.stopped = true then (0, s) else
    if (tok E s).1 = 19 ∨ (tok E s).1 = 0 then (0, adv E s) else
    let r := stmt E n (tok E s).1 (adv E s)
    if r.1 ≠ 0 then r else stmts E n r.2
def stmt (E : En) : Nat → Int → St → Int × St
  | 0, _, s => (10, s)
  | n + 1, k, s =>
    if k = 15 then loop E n s.pos s else
    if E.fuel ≤ s.used then (10, s) else
    let s1 := { s with used := s.used + 1 }
    if k = 11 then
      let r := expr E E.fuel (adv E s1)
      if r.2.1 ≠ 0 then (r.2.1, r.2.2) else (0, setV r.2.2 (tok E s1).2 r.1)
    else if k = 12 then
      let a := expr E E.fuel s1
      if a.2.1 ≠ 0 then (a.2.1, a.2.2) else
      let b := expr E E.fuel a.2.2
      if b.2.1 ≠ 0 then (b.2.1, b.2.2) else put b.2.2 (a.1, true, b.1)
    else if k = 13 then
      let a := expr E E.fuel s1
      if a.2.1 ≠ 0 then (a.2.1, a.2.2) else put a.2.2 (a.1, false, 0)
    else if k = 14 then
      let a := expr E E.fuel s1
      if a.2.1 ≠ 0 then (a.2.1, a.2.2) else
      if a.1 = 0 then stmts E n (adv E (skip E a.2.2)) else
      let r := stmts E n (adv E a.2.2)
      (r.1, skip E r.2)
    else if k = 16 then
      let a := expr E E.fuel s1
      if a.2.1 ≠ 0 then (a.2.1, a.2.2) else (0, { a.2.2 with result := a.1, stopped := true })
    else (9, s1)
def loop (E : En) : Nat → Nat → St → Int × St
  | 0, _, s => (10, s)
  | n + 1, p, s =>
    if s.stopped = true then (0, s) else
    if E.fuel ≤ s.used then (10, { s with pos := p }) else
    let a := expr E E.fuel { s with pos := p, used := s.used + 1 }
    if a.2.1 ≠ 0 then (a.2.1, a.2.2) else
    if a.1 = 0 then (0, skip E a.2.2) else
    let r := stmts E n (adv E a.2.2)
    if r.1 ≠ 0 then r else loop E n p r.2
end

/-- what may be: numbers within their bounds, at most eight cells written. -/
structure Fit (E : En) (s : St) : Prop where
  tk : ∀ t ∈ E.tk, (0 ≤ t.1 ∧ t.1 ≤ 19) ∧ 0 ≤ t.2 ∧ t.2 ≤ 999999
  len : E.tk.length ≤ 1000
  arg : ∀ k, -1000000000 ≤ arg E k ∧ arg E k ≤ 1000000000
  con : Jn.Ok E.con
  fuel : E.fuel ≤ 10000
  pos : s.pos ≤ E.tk.length
  var : ∀ k, -1000000000 ≤ var s k ∧ var s k ≤ 1000000000
  wrl : s.writes.length ≤ 8
  wrs : ∀ p ∈ s.writes, Jn.isKey p.1 = true ∧ (-1000000000 ≤ p.2.2 ∧ p.2.2 ≤ 1000000000)
  used : s.used ≤ E.fuel
end Rn
end Go.Proofs.YtellilpeakpbfaaGreatDoor

end
