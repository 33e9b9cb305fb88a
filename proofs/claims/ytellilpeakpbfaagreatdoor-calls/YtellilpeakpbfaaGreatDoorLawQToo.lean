import Derived.Test.YtellilpeakpbfaaGreatDoorStoreToo
/-
  The document's lists are the places' lists; what the files tell.
-/
namespace Go.Proofs.YtellilpeakpbfaaGreatDoor
open Go.RowKit

theorem keys_ge (cs : List (Option Int)) : ∀ (j : Nat) (p : Int × Int), p ∈ Jn.listFrom j cs → (j : Int) ≤ p.1 := by
  induction cs with
  | nil => intro j p h; simp [Jn.listFrom] at h
  | cons o r ih =>
    intro j p h
    cases o with
    | none => have := ih (j + 1) p (by simpa [Jn.listFrom] using h); omega
    | some v =>
      simp only [Jn.listFrom, List.mem_cons] at h
      rcases h with rfl | h
      · simp
      · have := ih (j + 1) p h; omega
theorem tw_nil (cs : List (Option Int)) (j : Nat) (k : Int) (h : k ≤ j) : (Jn.listFrom j cs).takeWhile (fun p => decide (p.1 < k)) = [] := by
  cases hl : Jn.listFrom j cs with
  | nil => rfl
  | cons p r =>
    have := keys_ge cs j p (by rw [hl]; simp)
    rw [List.takeWhile_cons, if_neg (by simp; omega)]
theorem fl_all (cs : List (Option Int)) (j : Nat) (k : Int) (h : k < j) : (Jn.listFrom j cs).filter (fun p => decide (k < p.1)) = Jn.listFrom j cs := by
  rw [List.filter_eq_self]
  intro p hp
  have := keys_ge cs j p hp
  simp; omega
theorem with_from (cs : List (Option Int)) (x : Int) : ∀ (j k : Nat), k < cs.length → withL (Jn.listFrom j cs) ((j + k : Nat) : Int) x = Jn.listFrom j (cs.set k (some x)) := by
  induction cs with
  | nil => intro j k h; simp at h
  | cons o r ih =>
    intro j k h
    cases k with
    | zero =>
      unfold withL
      cases o with
      | none =>
        simp only [Jn.listFrom, List.set_cons_zero, Nat.add_zero]
        rw [tw_nil r (j + 1) j (by omega), fl_all r (j + 1) j (by omega)]
        rfl
      | some v =>
        simp only [Jn.listFrom, List.set_cons_zero, Nat.add_zero]
        rw [List.takeWhile_cons, if_neg (by simp), List.filter_cons, if_neg (by simp), fl_all r (j + 1) j (by omega)]
        rfl
    | succ k =>
      have ih' := ih (j + 1) k (by simpa using h)
      rw [show j + 1 + k = j + (k + 1) by omega] at ih'
      cases o with
      | none =>
        simp only [Jn.listFrom, List.set_cons_succ]
        exact ih'
      | some v =>
        simp only [Jn.listFrom, List.set_cons_succ]
        rw [← ih']
        unfold withL
        rw [List.takeWhile_cons, if_pos (by simp; omega), List.filter_cons, if_neg (by simp; omega)]
        rfl
theorem without_from (cs : List (Option Int)) : ∀ (j k : Nat), k < cs.length → withoutL (Jn.listFrom j cs) ((j + k : Nat) : Int) = Jn.listFrom j (cs.set k none) := by
  induction cs with
  | nil => intro j k h; simp at h
  | cons o r ih =>
    intro j k h
    have all : ∀ i : Int, i < (j : Int) + 1 → withoutL (Jn.listFrom (j + 1) r) i = Jn.listFrom (j + 1) r := by
      intro i hi
      unfold withoutL
      rw [List.filter_eq_self]
      intro p hp
      have := keys_ge r (j + 1) p hp
      simp; omega
    cases k with
    | zero =>
      cases o with
      | none =>
        simp only [Jn.listFrom, List.set_cons_zero, Nat.add_zero]
        exact all _ (by omega)
      | some v =>
        simp only [Jn.listFrom, List.set_cons_zero, Nat.add_zero]
        have e : withoutL (((j : Int), v) :: Jn.listFrom (j + 1) r) (j : Int) = withoutL (Jn.listFrom (j + 1) r) (j : Int) := by
          unfold withoutL
          rw [List.filter_cons, if_neg (by simp)]
        rw [e]
        exact all _ (by omega)
    | succ k =>
      have ih' := ih (j + 1) k (by simpa using h)
      rw [show j + 1 + k = j + (k + 1) by omega] at ih'
      cases o with
      | none =>
        simp only [Jn.listFrom, List.set_cons_succ]
        exact ih'
      | some v =>
        simp only [Jn.listFrom, List.set_cons_succ]
        rw [← ih']
        unfold withoutL
        rw [List.filter_cons, if_pos (by simp; omega)]
theorem cell_from (cs : List (Option Int)) : ∀ (j k : Nat), k < cs.length → cellL (Jn.listFrom j cs) ((j + k : Nat) : Int) = cs.getD k none := by
  induction cs with
  | nil => intro j k h; simp at h
  | cons o r ih =>
    intro j k h
    cases k with
    | zero =>
      cases o with
      | none =>
        simp only [Jn.listFrom, Nat.add_zero]
        have : ∀ l : List (Int × Int), (∀ p ∈ l, (j : Int) < p.1) → cellL l (j : Int) = none := by
          intro l
          induction l with
          | nil => intro _; rfl
          | cons p t iht =>
            intro hp
            rw [cellL, if_neg (by have := hp p (by simp); omega)]
            exact iht (fun q hq => hp q (by simp [hq]))
        rw [this _ (fun p hp => by have := keys_ge r (j + 1) p hp; omega)]
        rfl
      | some v =>
        simp only [Jn.listFrom, Nat.add_zero]
        rw [cellL, if_pos rfl]
        rfl
    | succ k =>
      have ih' := ih (j + 1) k (by simpa using h)
      rw [show j + 1 + k = j + (k + 1) by omega] at ih'
      cases o with
      | none => simp only [Jn.listFrom]; rw [ih']; rfl
      | some v =>
        simp only [Jn.listFrom]
        rw [cellL, if_neg (by simp; omega), ih']
        rfl

theorem with_con {C : Jn.Con} (h : Jn.Ok C) (n : Nat) (hn : n ≤ 99) (x : Int) : withL C.list (n : Int) x = (Jn.setC C n (some x)).list := by
  have := with_from C.cells x 0 n (by rw [h.len]; omega)
  simp only [Nat.zero_add] at this
  unfold Jn.Con.list
  rw [this]
  simp [Jn.setC]
theorem without_con {C : Jn.Con} (h : Jn.Ok C) (n : Nat) (hn : n ≤ 99) : withoutL C.list (n : Int) = (Jn.setC C n none).list := by
  have := without_from C.cells 0 n (by rw [h.len]; omega)
  simp only [Nat.zero_add] at this
  unfold Jn.Con.list
  rw [this]
  simp [Jn.setC]
theorem cell_con {C : Jn.Con} (h : Jn.Ok C) (n : Nat) (hn : n ≤ 99) : cellL C.list (n : Int) = C.cells.getD n none := by
  have := cell_from C.cells 0 n (by rw [h.len]; omega)
  simp only [Nat.zero_add] at this
  exact this

theorem list_bound {C : Jn.Con} (h : Jn.Ok C) : C.list.length ≤ 1000 := Nat.le_trans (Nat.le_trans (list_len _ _) (Nat.le_of_eq h.len)) (by omega)

/-- the document's Put and Del, by the places. -/
theorem refPut_any (C : Jn.Con) (sc sp : Value) (k x : Int) (w : World) (h : CRow w 0 sc C.list) (hp : PRow w 0 sp C.procs) (hok : Jn.Ok C) (x0 : -9223372036854775808 ≤ x) (x1 : x ≤ 9223372036854775807) :
    Calls Tryz.prog 109 #[.agg #[sc, sp], .int .i64 k, .int .i64 x] w (RefPost sp (Jn.put C k x).1.list (Jn.put C k x).2 w) := by
  obtain ⟨so, sk, hs⟩ := crow_slice h
  obtain ⟨po, pk, hq, -⟩ := hp.shape
  unfold Jn.put
  cases hk : Jn.isKey k with
  | false =>
    rw [if_pos rfl]
    refine (refPut_key sc sp k x w so po _ sk _ pk hs hq hk).mono fun e w' ⟨he, hb⟩ => ⟨sc, he, h.below hb, hb⟩
  | true =>
    rw [if_neg (by simp)]
    cases hx : Jn.isVal x with
    | false =>
      rw [if_pos rfl]
      refine (refPut_val sc sp k x w so po _ sk _ pk hs hq hk hx x0 x1).mono fun e w' ⟨he, hb⟩ => ⟨sc, he, h.below hb, hb⟩
    | true =>
      rw [if_neg (by simp)]
      have h1 : 0 ≤ k ∧ k ≤ 99 := by unfold Jn.isKey at hk; simpa using hk
      obtain ⟨n, rfl⟩ := Int.eq_ofNat_of_zero_le h1.1
      have := refPut_ok 0 sc sp C.list n x w po _ pk h (list_bound hok) hq hk hx
      rw [with_con hok n (by omega)] at this
      exact this
theorem refDel_any (C : Jn.Con) (sc sp : Value) (k : Int) (w : World) (h : CRow w 0 sc C.list) (hp : PRow w 0 sp C.procs) (hok : Jn.Ok C) :
    Calls Tryz.prog 112 #[.agg #[sc, sp], .int .i64 k] w (RefPost sp (Jn.del C k).1.list (Jn.del C k).2 w) := by
  obtain ⟨so, sk, hs⟩ := crow_slice h
  obtain ⟨po, pk, hq, -⟩ := hp.shape
  unfold Jn.del
  cases hk : Jn.isKey k with
  | false =>
    rw [if_pos rfl]
    refine (refDel_key sc sp k w so po _ sk _ pk hs hq hk).mono fun e w' ⟨he, hb⟩ => ⟨sc, he, h.below hb, hb⟩
  | true =>
    rw [if_neg (by simp)]
    have h1 : 0 ≤ k ∧ k ≤ 99 := by unfold Jn.isKey at hk; simpa using hk
    obtain ⟨n, rfl⟩ := Int.eq_ofNat_of_zero_le h1.1
    have := refDel_ok 0 sc sp C.list n w po _ pk h (list_bound hok) hq hk
    rw [without_con hok n (by omega)] at this
    exact this

/-- the file f tells the contents, the other one is empty. -/
def DiskOk (d : DS) (f : Int) (C : Jn.Con) : Prop :=
  (f = 0 ∧ Jn.Tells d.1.data.toList C ∧ d.2.1 = ⟨#[]⟩) ∨ (f = 1 ∧ Jn.Tells d.2.1.data.toList C ∧ d.1 = ⟨#[]⟩)
theorem DiskOk.two {d : DS} {f : Int} {C : Jn.Con} (h : DiskOk d f C) : Jn.readTwo d.1.data.toList d.2.1.data.toList = some (C, f) := by
  rcases h with ⟨rfl, h1, h2⟩ | ⟨rfl, h1, h2⟩
  · rw [h2]; exact h1.two0
  · rw [h2]; exact h1.two1
theorem DiskOk.change {d : DS} {f : Int} {C C' : Jn.Con} {es : List UInt8} (h : DiskOk d f C) (hn : 46 ∉ es) (hr : Jn.redo C es = some C') (hs : d.1.size + d.2.1.size + (es.length + 1) ≤ 1152921504606846976) :
    ∃ d', playL d [(1, f, Jn.record es)] = some d' ∧ DiskOk d' f C' ∧ d'.1.size ≤ d.1.size + (es.length + 1) ∧ d'.2.1.size ≤ d.2.1.size + (es.length + 1) := by
  have hl : (Jn.record es).length = es.length + 1 := by simp [Jn.record]
  have hz : ∀ a : ByteArray, (a ++ ⟨(Jn.record es).toArray⟩).size = a.size + (es.length + 1) := fun a => by
    rw [ByteArray.size_append]
    show a.size + (Jn.record es).length = _
    rw [hl]
  obtain ⟨a, b, la, lb⟩ := d
  simp only at hs
  rcases h with ⟨rfl, h1, h2⟩ | ⟨rfl, h1, h2⟩
  · have e : playA (a, b, la, lb) (1, 0, Jn.record es) = some (a ++ ⟨(Jn.record es).toArray⟩, b, la, lb) := by
      unfold playA
      rw [if_pos ⟨rfl, rfl⟩, if_pos (by show a.size + (Jn.record es).length ≤ _; rw [hl]; omega)]
    refine ⟨(a ++ ⟨(Jn.record es).toArray⟩, b, la, lb), by rw [playL, e]; rfl, .inl ⟨rfl, ?_, h2⟩, Nat.le_of_eq (hz a), Nat.le_add_right _ _⟩
    show Jn.Tells (a ++ ⟨(Jn.record es).toArray⟩).data.toList C'
    rw [app_list]
    exact h1.step hn hr
  · have e : playA (a, b, la, lb) (1, 1, Jn.record es) = some (a, b ++ ⟨(Jn.record es).toArray⟩, la, lb) := by
      unfold playA
      rw [if_neg (by simp), if_pos ⟨rfl, rfl⟩, if_pos (by show b.size + (Jn.record es).length ≤ _; rw [hl]; omega)]
    refine ⟨(a, b ++ ⟨(Jn.record es).toArray⟩, la, lb), by rw [playL, e]; rfl, .inr ⟨rfl, ?_, h2⟩, Nat.le_add_right _ _, Nat.le_of_eq (hz b)⟩
    show Jn.Tells (b ++ ⟨(Jn.record es).toArray⟩).data.toList C'
    rw [app_list]
    exact h1.step hn hr
theorem DiskOk.move {d : DS} {f : Int} {C : Jn.Con} (hf : f = 0 ∨ f = 1) (hok : Jn.Ok C) (hp : ∀ p ∈ C.procs, Jn.Plain p.2) (hl : (Jn.all C).length ≤ 100000) :
    ∃ d', playL d (moveActs C f) = some d' ∧ DiskOk d' (1 - f) C ∧ d'.1.size + d'.2.1.size = (Jn.all C).length := by
  obtain ⟨a, b, la, lb⟩ := d
  have ht := Jn.tells_all C hok hp
  have hz : ((⟨#[]⟩ : ByteArray) ++ ⟨(Jn.all C).toArray⟩).size = (Jn.all C).length := by
    rw [ByteArray.size_append]
    show 0 + (Jn.all C).length = _
    omega
  have hd : ((⟨#[]⟩ : ByteArray) ++ ⟨(Jn.all C).toArray⟩).data.toList = Jn.all C := by rw [app_list]; rfl
  have h0 : (⟨#[]⟩ : ByteArray).size = 0 := rfl
  rcases hf with rfl | rfl
  · refine ⟨(⟨#[]⟩, ⟨#[]⟩ ++ ⟨(Jn.all C).toArray⟩, 0, ((⟨#[]⟩ ++ ⟨(Jn.all C).toArray⟩ : ByteArray).size : Int)), ?_, .inr ⟨rfl, by show Jn.Tells _ C; rw [hd]; exact ht, rfl⟩, by show 0 + _ = _; rw [hz]; omega⟩
    have e1 : playA (a, b, la, lb) (2, 0, []) = some ((a, b, (a.size : Int), lb) : DS) := rfl
    have e2 : playA (a, b, (a.size : Int), lb) (3, 1, []) = some ((a, (⟨#[]⟩ : ByteArray), (a.size : Int), (0 : Int)) : DS) := rfl
    have e3 : playA (a, ⟨#[]⟩, (a.size : Int), 0) (1, 1, Jn.all C) = some ((a, (⟨#[]⟩ : ByteArray) ++ ⟨(Jn.all C).toArray⟩, (a.size : Int), (0 : Int)) : DS) := by
      unfold playA
      rw [if_neg (by simp), if_pos ⟨rfl, rfl⟩, if_pos (by show (⟨#[]⟩ : ByteArray).size + (Jn.all C).length ≤ _; rw [h0]; omega)]
    show playL (a, b, la, lb) [(2, 0, []), (3, 1, []), (1, 1, Jn.all C), (2, 1, []), (3, 0, [])] = _
    rw [playL, e1]
    show playL (a, b, (a.size : Int), lb) [(3, 1, []), (1, 1, Jn.all C), (2, 1, []), (3, 0, [])] = _
    rw [playL, e2]
    show playL (a, ⟨#[]⟩, (a.size : Int), 0) [(1, 1, Jn.all C), (2, 1, []), (3, 0, [])] = _
    rw [playL, e3]
    rfl
  · refine ⟨(⟨#[]⟩ ++ ⟨(Jn.all C).toArray⟩, ⟨#[]⟩, ((⟨#[]⟩ ++ ⟨(Jn.all C).toArray⟩ : ByteArray).size : Int), 0), ?_, .inl ⟨rfl, by show Jn.Tells _ C; rw [hd]; exact ht, rfl⟩, by show _ + 0 = _; rw [hz]; omega⟩
    have e1 : playA (a, b, la, lb) (2, 1, []) = some ((a, b, la, (b.size : Int)) : DS) := rfl
    have e2 : playA (a, b, la, (b.size : Int)) (3, 0, []) = some (((⟨#[]⟩ : ByteArray), b, (0 : Int), (b.size : Int)) : DS) := rfl
    have e3 : playA (⟨#[]⟩, b, 0, (b.size : Int)) (1, 0, Jn.all C) = some (((⟨#[]⟩ : ByteArray) ++ ⟨(Jn.all C).toArray⟩, b, (0 : Int), (b.size : Int)) : DS) := by
      unfold playA
      rw [if_pos ⟨rfl, rfl⟩, if_pos (by show (⟨#[]⟩ : ByteArray).size + (Jn.all C).length ≤ _; rw [h0]; omega)]
    show playL (a, b, la, lb) [(2, 1, []), (3, 0, []), (1, 0, Jn.all C), (2, 0, []), (3, 1, [])] = _
    rw [playL, e1]
    show playL (a, b, la, (b.size : Int)) [(3, 0, []), (1, 0, Jn.all C), (2, 0, []), (3, 1, [])] = _
    rw [playL, e2]
    show playL (⟨#[]⟩, b, 0, (b.size : Int)) [(1, 0, Jn.all C), (2, 0, []), (3, 1, [])] = _
    rw [playL, e3]
    rfl
end Go.Proofs.YtellilpeakpbfaaGreatDoor
