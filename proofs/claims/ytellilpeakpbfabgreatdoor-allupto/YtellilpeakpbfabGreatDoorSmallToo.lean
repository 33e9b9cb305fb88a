import Derived.Test.YtellilpeakpbfabGreatDoorStoreToo
import Derived.Deep.DeepCutAuto
section
/-
  The document's lists are the places' lists; what the files tell.
-/
namespace Go.Proofs.YtellilpeakpbfabGreatDoor
open Go.RowKit

theorem keys_ge (cs : List (Option Int)) : ∀ (j : Nat) (p : Int × Int), p ∈ Jn.listFrom j cs → (j : Int) ≤ p.1 := by
  induction cs with
  | nil => intro j p h; simp [Jn.listFrom] at h
  | cons o r ih =>
    intro j p h
    cases o with
    | none => have := ih (j + 1) p (by simpa [Jn.listFrom] using h); omega
    | some v =>
      simp only [Jn.listFrom, List.mem_cons] at h
      rcases h with rfl | h
      · simp
      · have := ih (j + 1) p h; omega
theorem tw_nil (cs : List (Option Int)) (j : Nat) (k : Int) (h : k ≤ j) : (Jn.listFrom j cs).takeWhile (fun p => decide (p.1 < k)) = [] := by
  cases hl : Jn.listFrom j cs with
  | nil => rfl
  | cons p r =>
    have := keys_ge cs j p (by rw [hl]; simp)
    rw [List.takeWhile_cons, if_neg (by simp; omega)]
theorem fl_all (cs : List (Option Int)) (j : Nat) (k : Int) (h : k < j) : (Jn.listFrom j cs).filter (fun p => decide (k < p.1)) = Jn.listFrom j cs := by
  rw [List.filter_eq_self]
  intro p hp
  have := keys_ge cs j p hp
  simp; omega
theorem with_from (cs : List (Option Int)) (x : Int) : ∀ (j k : Nat), k < cs.length → withL (Jn.listFrom j cs) ((j + k : Nat) : Int) x = Jn.listFrom j (cs.set k (some x)) := by
  induction cs with
  | nil => intro j k h; simp at h
  | cons o r ih =>
    intro j k h
    cases k with
    | zero =>
      unfold withL
      cases o with
      | none =>
        simp only [Jn.listFrom, List.set_cons_zero, Nat.add_zero]
        rw [tw_nil r (j + 1) j (by omega), fl_all r (j + 1) j (by omega)]
        rfl
      | some v =>
        simp only [Jn.listFrom, List.set_cons_zero, Nat.add_zero]
        rw [List.takeWhile_cons, if_neg (by simp), List.filter_cons, if_neg (by simp), fl_all r (j + 1) j (by omega)]
        rfl
    | succ k =>
      have ih' := ih (j + 1) k (by simpa using h)
      rw [show j + 1 + k = j + (k + 1) by omega] at ih'
      cases o with
      | none =>
        simp only [Jn.listFrom, List.set_cons_succ]
        exact ih'
      | some v =>
        simp only [Jn.listFrom, List.set_cons_succ]
        rw [← ih']
        unfold withL
        rw [List.takeWhile_cons, if_pos (by simp; omega), List.filter_cons, if_neg (by simp; omega)]
        rfl
theorem without_from (cs : List (Option Int)) : ∀ (j k : Nat), k < cs.length → withoutL (Jn.listFrom j cs) ((j + k : Nat) : Int) = Jn.listFrom j (cs.set k none) := by
  induction cs with
  | nil => intro j k h; simp at h
  | cons o r ih =>
    intro j k h
    have all : ∀ i : Int, i < (j : Int) + 1 → withoutL (Jn.listFrom (j + 1) r) i = Jn.listFrom (j + 1) r := by
      intro i hi
      unfold withoutL
      rw [List.filter_eq_self]
      intro p hp
      have := keys_ge r (j + 1) p hp
      simp; omega
    cases k with
    | zero =>
      cases o with
      | none =>
        simp only [Jn.listFrom, List.set_cons_zero, Nat.add_zero]
        exact all _ (by omega)
      | some v =>
        simp only [Jn.listFrom, List.set_cons_zero, Nat.add_zero]
        have e : withoutL (((j : Int), v) :: Jn.listFrom (j + 1) r) (j : Int) = withoutL (Jn.listFrom (j + 1) r) (j : Int) := by
          unfold withoutL
          rw [List.filter_cons, if_neg (by simp)]
        rw [e]
        exact all _ (by omega)
    | succ k =>
      have ih' := ih (j + 1) k (by simpa using h)
      rw [show j + 1 + k = j + (k + 1) by omega] at ih'
      cases o with
      | none =>
        simp only [Jn.listFrom, List.set_cons_succ]
        exact ih'
      | some v =>
        simp only [Jn.listFrom, List.set_cons_succ]
        rw [← ih']
        unfold withoutL
        rw [List.filter_cons, if_pos (by simp; omega)]
theorem cell_from (cs : List (Option Int)) : ∀ (j k : Nat), k < cs.length → cellL (Jn.listFrom j cs) ((j + k : Nat) : Int) = cs.getD k none := by
  induction cs with
  | nil => intro j k h; simp at h
  | cons o r ih =>
    intro j k h
    cases k with
    | zero =>
      cases o with
      | none =>
        simp only [Jn.listFrom, Nat.add_zero]
        have : ∀ l : List (Int × Int), (∀ p ∈ l, (j : Int) < p.1) → cellL l (j : Int) = none := by
          intro l
          induction l with
          | nil => intro _; rfl
          | cons p t iht =>
            intro hp
            rw [cellL, if_neg (by have := hp p (by simp); omega)]
            exact iht (fun q hq => hp q (by simp [hq]))
        rw [this _ (fun p hp => by have := keys_ge r (j + 1) p hp; omega)]
        rfl
      | some v =>
        simp only [Jn.listFrom, Nat.add_zero]
        rw [cellL, if_pos rfl]
        rfl
    | succ k =>
      have ih' := ih (j + 1) k (by simpa using h)
      rw [show j + 1 + k = j + (k + 1) by omega] at ih'
      cases o with
      | none => simp only [Jn.listFrom]; rw [ih']; rfl
      | some v =>
        simp only [Jn.listFrom]
        rw [cellL, if_neg (by simp; omega), ih']
        rfl

theorem with_con {C : Jn.Con} (h : Jn.Ok C) (n : Nat) (hn : n ≤ 99) (x : Int) : withL C.list (n : Int) x = (Jn.setC C n (some x)).list := by
  have := with_from C.cells x 0 n (by rw [h.len]; omega)
  simp only [Nat.zero_add] at this
  unfold Jn.Con.list
  rw [this]
  simp [Jn.setC]
theorem without_con {C : Jn.Con} (h : Jn.Ok C) (n : Nat) (hn : n ≤ 99) : withoutL C.list (n : Int) = (Jn.setC C n none).list := by
  have := without_from C.cells 0 n (by rw [h.len]; omega)
  simp only [Nat.zero_add] at this
  unfold Jn.Con.list
  rw [this]
  simp [Jn.setC]
theorem cell_con {C : Jn.Con} (h : Jn.Ok C) (n : Nat) (hn : n ≤ 99) : cellL C.list (n : Int) = C.cells.getD n none := by
  have := cell_from C.cells 0 n (by rw [h.len]; omega)
  simp only [Nat.zero_add] at this
  exact this

theorem list_bound {C : Jn.Con} (h : Jn.Ok C) : C.list.length ≤ 1000 := Nat.le_trans (Nat.le_trans (list_len _ _) (Nat.le_of_eq h.len)) (by omega)

/-- the document's Put and Del, by the places. -/
theorem refPut_any (C : Jn.Con) (sc sp : Value) (k x : Int) (w : World) (h : CRow w 0 sc C.list) (hp : PRow w 0 sp C.procs) (hok : Jn.Ok C) (x0 : -9223372036854775808 ≤ x) (x1 : x ≤ 9223372036854775807) :
    Calls Tryz.prog 112 #[.agg #[sc, sp], .int .i64 k, .int .i64 x] w (RefPost sp (Jn.put C k x).1.list (Jn.put C k x).2 w) := by
  obtain ⟨so, sk, hs⟩ := crow_slice h
  obtain ⟨po, pk, hq, -⟩ := hp.shape
  unfold Jn.put
  cases hk : Jn.isKey k with
  | false =>
    rw [if_pos rfl]
    refine (refPut_key sc sp k x w so po _ sk _ pk hs hq hk).mono fun e w' ⟨he, hb⟩ => ⟨sc, he, h.below hb, hb⟩
  | true =>
    rw [if_neg (by simp)]
    cases hx : Jn.isVal x with
    | false =>
      rw [if_pos rfl]
      refine (refPut_val sc sp k x w so po _ sk _ pk hs hq hk hx x0 x1).mono fun e w' ⟨he, hb⟩ => ⟨sc, he, h.below hb, hb⟩
    | true =>
      rw [if_neg (by simp)]
      have h1 : 0 ≤ k ∧ k ≤ 99 := by unfold Jn.isKey at hk; simpa using hk
      obtain ⟨n, rfl⟩ := Int.eq_ofNat_of_zero_le h1.1
      have := refPut_ok 0 sc sp C.list n x w po _ pk h (list_bound hok) hq hk hx
      rw [with_con hok n (by omega)] at this
      exact this
theorem refDel_any (C : Jn.Con) (sc sp : Value) (k : Int) (w : World) (h : CRow w 0 sc C.list) (hp : PRow w 0 sp C.procs) (hok : Jn.Ok C) :
    Calls Tryz.prog 115 #[.agg #[sc, sp], .int .i64 k] w (RefPost sp (Jn.del C k).1.list (Jn.del C k).2 w) := by
  obtain ⟨so, sk, hs⟩ := crow_slice h
  obtain ⟨po, pk, hq, -⟩ := hp.shape
  unfold Jn.del
  cases hk : Jn.isKey k with
  | false =>
    rw [if_pos rfl]
    refine (refDel_key sc sp k w so po _ sk _ pk hs hq hk).mono fun e w' ⟨he, hb⟩ => ⟨sc, he, h.below hb, hb⟩
  | true =>
    rw [if_neg (by simp)]
    have h1 : 0 ≤ k ∧ k ≤ 99 := by unfold Jn.isKey at hk; simpa using hk
    obtain ⟨n, rfl⟩ := Int.eq_ofNat_of_zero_le h1.1
    have := refDel_ok 0 sc sp C.list n w po _ pk h (list_bound hok) hq hk
    rw [without_con hok n (by omega)] at this
    exact this

/-- the file f tells the contents, the other one is empty. -/
def DiskOk (d : DS) (f : Int) (C : Jn.Con) : Prop :=
  (f = 0 ∧ Jn.Tells d.1.data.toList C ∧ d.2.1 = ⟨#[]⟩) ∨ (f = 1 ∧ Jn.Tells d.2.1.data.toList C ∧ d.1 = ⟨#[]⟩)
theorem DiskOk.two {d : DS} {f : Int} {C : Jn.Con} (h : DiskOk d f C) : Jn.readTwo d.1.data.toList d.2.1.data.toList = some (C, f) := by
  rcases h with ⟨rfl, h1, h2⟩ | ⟨rfl, h1, h2⟩
  · rw [h2]; exact h1.two0
  · rw [h2]; exact h1.two1
theorem DiskOk.change {d : DS} {f : Int} {C C' : Jn.Con} {es : List UInt8} (h : DiskOk d f C) (hn : 46 ∉ es) (hr : Jn.redo C es = some C') (hs : d.1.size + d.2.1.size + (es.length + 1) ≤ 1152921504606846976) :
    ∃ d', playL d [(1, f, Jn.record es)] = some d' ∧ DiskOk d' f C' ∧ d'.1.size ≤ d.1.size + (es.length + 1) ∧ d'.2.1.size ≤ d.2.1.size + (es.length + 1) := by
  have hl : (Jn.record es).length = es.length + 1 := by simp [Jn.record]
  have hz : ∀ a : ByteArray, (a ++ ⟨(Jn.record es).toArray⟩).size = a.size + (es.length + 1) := fun a => by
    rw [ByteArray.size_append]
    show a.size + (Jn.record es).length = _
    rw [hl]
  obtain ⟨a, b, la, lb⟩ := d
  simp only at hs
  rcases h with ⟨rfl, h1, h2⟩ | ⟨rfl, h1, h2⟩
  · have e : playA (a, b, la, lb) (1, 0, Jn.record es) = some (a ++ ⟨(Jn.record es).toArray⟩, b, la, lb) := by
      unfold playA
      rw [if_pos ⟨rfl, rfl⟩, if_pos (by show a.size + (Jn.record es).length ≤ _; rw [hl]; omega)]
    refine ⟨(a ++ ⟨(Jn.record es).toArray⟩, b, la, lb), by rw [playL, e]; rfl, .inl ⟨rfl, ?_, h2⟩, Nat.le_of_eq (hz a), Nat.le_add_right _ _⟩
    show Jn.Tells (a ++ ⟨(Jn.record es).toArray⟩).data.toList C'
    rw [app_list]
    exact h1.step hn hr
  · have e : playA (a, b, la, lb) (1, 1, Jn.record es) = some (a, b ++ ⟨(Jn.record es).toArray⟩, la, lb) := by
      unfold playA
      rw [if_neg (by simp), if_pos ⟨rfl, rfl⟩, if_pos (by show b.size + (Jn.record es).length ≤ _; rw [hl]; omega)]
    refine ⟨(a, b ++ ⟨(Jn.record es).toArray⟩, la, lb), by rw [playL, e]; rfl, .inr ⟨rfl, ?_, h2⟩, Nat.le_add_right _ _, Nat.le_of_eq (hz b)⟩
    show Jn.Tells (b ++ ⟨(Jn.record es).toArray⟩).data.toList C'
    rw [app_list]
    exact h1.step hn hr
theorem DiskOk.move {d : DS} {f : Int} {C : Jn.Con} (hf : f = 0 ∨ f = 1) (hok : Jn.Ok C) (hp : ∀ p ∈ C.procs, Jn.Plain p.2) (hl : (Jn.all C).length ≤ 100000) :
    ∃ d', playL d (moveActs C f) = some d' ∧ DiskOk d' (1 - f) C ∧ d'.1.size + d'.2.1.size = (Jn.all C).length := by
  obtain ⟨a, b, la, lb⟩ := d
  have ht := Jn.tells_all C hok hp
  have hz : ((⟨#[]⟩ : ByteArray) ++ ⟨(Jn.all C).toArray⟩).size = (Jn.all C).length := by
    rw [ByteArray.size_append]
    show 0 + (Jn.all C).length = _
    omega
  have hd : ((⟨#[]⟩ : ByteArray) ++ ⟨(Jn.all C).toArray⟩).data.toList = Jn.all C := by rw [app_list]; rfl
  have h0 : (⟨#[]⟩ : ByteArray).size = 0 := rfl
  rcases hf with rfl | rfl
  · refine ⟨(⟨#[]⟩, ⟨#[]⟩ ++ ⟨(Jn.all C).toArray⟩, 0, ((⟨#[]⟩ ++ ⟨(Jn.all C).toArray⟩ : ByteArray).size : Int)), ?_, .inr ⟨rfl, by show Jn.Tells _ C; rw [hd]; exact ht, rfl⟩, by show 0 + _ = _; rw [hz]; omega⟩
    have e1 : playA (a, b, la, lb) (2, 0, []) = some ((a, b, (a.size : Int), lb) : DS) := rfl
    have e2 : playA (a, b, (a.size : Int), lb) (3, 1, []) = some ((a, (⟨#[]⟩ : ByteArray), (a.size : Int), (0 : Int)) : DS) := rfl
    have e3 : playA (a, ⟨#[]⟩, (a.size : Int), 0) (1, 1, Jn.all C) = some ((a, (⟨#[]⟩ : ByteArray) ++ ⟨(Jn.all C).toArray⟩, (a.size : Int), (0 : Int)) : DS) := by
      unfold playA
      rw [if_neg (by simp), if_pos ⟨rfl, rfl⟩, if_pos (by show (⟨#[]⟩ : ByteArray).size + (Jn.all C).length ≤ _; rw [h0]; omega)]
    show playL (a, b, la, lb) [(2, 0, []), (3, 1, []), (1, 1, Jn.all C), (2, 1, []), (3, 0, [])] = _
    rw [playL, e1]
    show playL (a, b, (a.size : Int), lb) [(3, 1, []), (1, 1, Jn.all C), (2, 1, []), (3, 0, [])] = _
    rw [playL, e2]
    show playL (a, ⟨#[]⟩, (a.size : Int), 0) [(1, 1, Jn.all C), (2, 1, []), (3, 0, [])] = _
    rw [playL, e3]
    rfl
  · refine ⟨(⟨#[]⟩ ++ ⟨(Jn.all C).toArray⟩, ⟨#[]⟩, ((⟨#[]⟩ ++ ⟨(Jn.all C).toArray⟩ : ByteArray).size : Int), 0), ?_, .inl ⟨rfl, by show Jn.Tells _ C; rw [hd]; exact ht, rfl⟩, by show _ + 0 = _; rw [hz]; omega⟩
    have e1 : playA (a, b, la, lb) (2, 1, []) = some ((a, b, la, (b.size : Int)) : DS) := rfl
    have e2 : playA (a, b, la, (b.size : Int)) (3, 0, []) = some (((⟨#[]⟩ : ByteArray), b, (0 : Int), (b.size : Int)) : DS) := rfl
    have e3 : playA (⟨#[]⟩, b, 0, (b.size : Int)) (1, 0, Jn.all C) = some (((⟨#[]⟩ : ByteArray) ++ ⟨(Jn.all C).toArray⟩, b, (0 : Int), (b.size : Int)) : DS) := by
      unfold playA
      rw [if_pos ⟨rfl, rfl⟩, if_pos (by show (⟨#[]⟩ : ByteArray).size + (Jn.all C).length ≤ _; rw [h0]; omega)]
    show playL (a, b, la, lb) [(2, 1, []), (3, 0, []), (1, 0, Jn.all C), (2, 0, []), (3, 1, [])] = _
    rw [playL, e1]
    show playL (a, b, la, (b.size : Int)) [(3, 0, []), (1, 0, Jn.all C), (2, 0, []), (3, 1, [])] = _
    rw [playL, e2]
    show playL (⟨#[]⟩, b, 0, (b.size : Int)) [(1, 0, Jn.all C), (2, 0, []), (3, 1, [])] = _
    rw [playL, e3]
    rfl
end Go.Proofs.YtellilpeakpbfabGreatDoor

end

section
/-
  The walk of World.cells: Put, Del (without a crash).
-/
namespace Go.Proofs.YtellilpeakpbfabGreatDoor
open Go.RowKit

/-- All that holds between two steps. -/
def SInv (L W D : Nat) (w : World) (C : Jn.Con) (m : Nat) : Prop :=
  ∃ S B f past d nc nq na, LawAt L W D w.heap.size w.heap.size w (.pointer (some ⟨S, 0, none⟩)) past d nc nq na ∧ StAt L w S B C f ∧ past[past.length - 1]? = some C ∧
    past.length ≤ m ∧ nc ≤ 3 * m ∧ nq ≤ 3 * m ∧ na ≤ 3 * m ∧ DiskOk d f C ∧ d.1.size + d.2.1.size ≤ 30000 + 4000 * m ∧ (∀ p ∈ C.procs, Jn.Plain p.2)

/-- what a step answers. -/
def StepPost (L W D : Nat) (m : Nat) (w : World) (e : Ending) (w' : World) : Prop := e = .returned (.bool true) ∧ (∃ C', SInv L W D w' C' (m + 1)) ∧ Below L w w'

theorem put_redo (C : Jn.Con) (k x : Int) (h : (Jn.put C k x).2 = 0) : Jn.redo C (Jn.putE k x) = some (Jn.put C k x).1 ∧ 46 ∉ Jn.putE k x ∧ (Jn.putE k x).length ≤ 25 := by
  unfold Jn.put at h ⊢
  split at h
  · simp at h
  · rename_i hk
    split at h
    · simp at h
    · rename_i hx
      have hk' : Jn.isKey k = true := by simpa using hk
      have hx' : Jn.isVal x = true := by simpa using hx
      rw [if_neg hk, if_neg hx, Jn.putE_B]
      refine ⟨by rw [Jn.redo_one C _ (Jn.putB_no k x 59 (.inr rfl)), Jn.redo_putB C k x hk' hx'], ?_, ?_⟩
      · simp only [List.mem_append, not_or]
        exact ⟨Jn.putB_no k x 46 (.inl rfl), by simp⟩
      · have h1 := itoa_len k (by have := Jn.isKey_val k hk'; unfold Jn.isVal at this; simp at this; omega) (by have := Jn.isKey_val k hk'; unfold Jn.isVal at this; simp at this; omega)
        have h2 := itoa_len x (by unfold Jn.isVal at hx'; simp at hx'; omega) (by unfold Jn.isVal at hx'; simp at hx'; omega)
        simp [Jn.putB]; omega
theorem del_redo (C : Jn.Con) (k : Int) (h : (Jn.del C k).2 = 0) : Jn.redo C (Jn.delE k) = some (Jn.del C k).1 ∧ 46 ∉ Jn.delE k ∧ (Jn.delE k).length ≤ 25 := by
  unfold Jn.del at h ⊢
  split at h
  · simp at h
  · rename_i hk
    have hk' : Jn.isKey k = true := by simpa using hk
    rw [if_neg hk, Jn.delE_B]
    refine ⟨by rw [Jn.redo_one C _ (Jn.delB_no k 59 (.inr rfl)), Jn.redo_delB C k hk'], ?_, ?_⟩
    · simp only [List.mem_append, not_or]
      exact ⟨Jn.delB_no k 46 (.inl rfl), by simp⟩
    · have h1 := itoa_len k (by have := Jn.isKey_val k hk'; unfold Jn.isVal at this; simp at this; omega) (by have := Jn.isKey_val k hk'; unfold Jn.isVal at this; simp at this; omega)
      simp [Jn.delB]; omega

theorem put_procs (C : Jn.Con) (k x : Int) : (Jn.put C k x).1.procs = C.procs := by
  unfold Jn.put
  split
  · rfl
  · split <;> rfl
theorem del_procs (C : Jn.Con) (k : Int) : (Jn.del C k).1.procs = C.procs := by
  unfold Jn.del
  split <;> rfl
theorem put_same (C : Jn.Con) (k x : Int) (h : (Jn.put C k x).2 ≠ 0) : (Jn.put C k x).1 = C := by
  unfold Jn.put at h ⊢
  split
  · rfl
  · split
    · rfl
    · rename_i h1 h2; rw [if_neg h1, if_neg h2] at h; simp at h
theorem del_same (C : Jn.Con) (k : Int) (h : (Jn.del C k).2 ≠ 0) : (Jn.del C k).1 = C := by
  unfold Jn.del at h ⊢
  split
  · rfl
  · rename_i h1; rw [if_neg h1] at h; simp at h

/-- the variable of contents, behind the document's answer. -/
def CutC (w1 : World) (C' : Jn.Con) (er : Int) (s7 s8 : Value) (wx : World) : Prop :=
  ∃ Bc so sk po pk, s7 = .pointer (some ⟨Bc, 0, none⟩) ∧ s8 = .int .i64 er ∧ wx.heap[Bc]? = some (.cells #[.slice so C'.list.length sk, .slice po C'.procs.length pk] 146 (0, 0)) ∧
    CRow wx 0 (.slice so C'.list.length sk) C'.list ∧ PRow wx 0 (.slice po C'.procs.length pk) C'.procs ∧ Below w1.heap.size w1 wx
/-- the variable is made last. -/
theorem cutc_last {w1 wp : World} {C' : Jn.Con} {Cp : List (Jn.Bytes × Jn.Bytes)} {er : Int} {so po : Option Addr} {sk pk : Nat} (hb : Below w1.heap.size w1 wp) (h1 : CRow wp 0 (.slice so C'.list.length sk) C'.list) (hp : C'.procs = Cp) (h2 : PRow wp 0 (.slice po Cp.length pk) Cp) :
    CutC w1 C' er (.pointer (some ⟨wp.heap.size, 0, none⟩)) (.int .i64 er) (wp.alloc (.cells #[.slice so C'.list.length sk, .slice po Cp.length pk] 146)) := by
  subst hp
  have hh := heap_alloc_new wp (.cells #[.slice so C'.list.length sk, .slice po C'.procs.length pk] 146)
  have hba : Below wp.heap.size wp (wp.alloc (.cells #[.slice so C'.list.length sk, .slice po C'.procs.length pk] 146)) := (Below.refl _ _).alloc (Nat.le_refl _) _
  exact ⟨wp.heap.size, so, sk, po, pk, rfl, rfl, hh, h1.below hba, h2.below hba, hb.alloc hb.size _⟩
/-- the variable was made ahead. -/
theorem cutc_set {w1 wp : World} {C' : Jn.Con} {Cp : List (Jn.Bytes × Jn.Bytes)} {er : Int} {so po : Option Addr} {sk pk Bc : Nat} (hb : Below w1.heap.size w1 wp) (hB : w1.heap.size ≤ Bc) (hcur : wp.heap[Bc]? = some (.cells #[.slice none 0 0, .slice none 0 0] 146 (0, 0)))
    (h1 : CRow wp 0 (.slice so C'.list.length sk) C'.list) (hp : C'.procs = Cp) (h2 : PRow wp 0 (.slice po Cp.length pk) Cp) :
    CutC w1 C' er (.pointer (some ⟨Bc, 0, none⟩)) (.int .i64 er) ((wp.setCell ⟨Bc, 0, none⟩ (.slice so C'.list.length sk)).setCell ⟨Bc, 1, none⟩ (.slice po Cp.length pk)) := by
  subst hp
  have g1 := heap_setCell_same wp Bc 0 _ _ (.slice so C'.list.length sk) hcur
  have g2 := heap_setCell_same (wp.setCell ⟨Bc, 0, none⟩ (.slice so C'.list.length sk)) Bc 1 _ _ (.slice po C'.procs.length pk) g1
  have f1 : Fr 0 [146] none wp ((wp.setCell ⟨Bc, 0, none⟩ (.slice so C'.list.length sk)).setCell ⟨Bc, 1, none⟩ (.slice po C'.procs.length pk)) :=
    ((fr_setCell wp Bc 0 _ (Nat.zero_le _)).typed (fun k hk => by cases hk; exact ⟨_, _, _, hcur, by simp⟩) none).trans ((fr_setCell _ Bc 1 _ (Nat.zero_le _)).typed (fun k hk => by cases hk; exact ⟨_, _, _, g1, by simp⟩) none)
  refine ⟨Bc, so, sk, po, pk, rfl, rfl, ?_, own_fr h1 f1 (by decide) (.inl rfl), own_fr h2 f1 (by decide) (.inl rfl), (hb.setCell (p := ⟨Bc, 0, none⟩) hB _).setCell (p := ⟨Bc, 1, none⟩) hB _⟩
  rw [g2]; simp

end Go.Proofs.YtellilpeakpbfabGreatDoor

end

section
/-
  The walk of World.cells: Get.
-/
namespace Go.Proofs.YtellilpeakpbfabGreatDoor
open Go.RowKit

set_option maxRecDepth 100000 in
theorem field_rc (a b : Value) (w : World) : Sem.run Tryz.prog (Instr.field 146 (.agg #[a, b]) 0) w = .ok a w := by rfl
end Go.Proofs.YtellilpeakpbfabGreatDoor

end

section
/-
  The walk of World.cells: Cells.
-/
namespace Go.Proofs.YtellilpeakpbfabGreatDoor
open Go.RowKit

/-- a row's own block lies where the row lies. -/
theorem own_lies {w : World} {b : Nat} {e : TypeId} {s : Nat} {v : Value} {n : Nat} {xs : List Value} (h : w.ownsRow b e s v n xs) : ∀ k, v.ownBlock = some k → b ≤ k := by
  intro k hk
  rcases h.2 with ⟨rfl, _⟩ | ⟨g, cap, cur, rfl, hb, _⟩
  · simp [Value.ownBlock] at hk
  · simp [Value.ownBlock] at hk
    omega

end Go.Proofs.YtellilpeakpbfabGreatDoor

end

section
/-
  The walks of small and rests.
-/
namespace Go.Proofs.YtellilpeakpbfabGreatDoor
open Go.RowKit

/-- the room that contents may take. -/
def roomP : List (List UInt8 × List UInt8) → Nat
  | [] => 0
  | p :: r => 64 + 2 * p.2.length + roomP r
theorem roomP_app (a b : List (List UInt8 × List UInt8)) : roomP (a ++ b) = roomP a + roomP b := by
  induction a with
  | nil => simp [roomP]
  | cons p r ih => simp only [List.cons_append, roomP, ih]; omega
def room (C : Jn.Con) : Nat := 64 + 32 * C.list.length + roomP C.procs
theorem roomP_take (l : List (List UInt8 × List UInt8)) (k : Nat) (p : List UInt8 × List UInt8) (h : l[k]? = some p) : roomP (l.take (k + 1)) = roomP (l.take k) + (64 + 2 * p.2.length) := by
  have hk := (List.getElem?_eq_some_iff.1 h).1
  have e := (List.getElem?_eq_some_iff.1 h).2
  rw [List.take_succ_eq_append_getElem hk, e, roomP_app]
  simp [roomP]
theorem roomP_le (l : List (List UInt8 × List UInt8)) (h : ∀ p ∈ l, p.2.length ≤ 1000) : roomP l ≤ 2064 * l.length := by
  induction l with
  | nil => simp [roomP]
  | cons p r ih =>
    have h1 := h p (by simp)
    have h2 := ih (fun q hq => h q (by simp [hq]))
    simp only [roomP, List.length_cons]
    omega

theorem cellsE_len (l : List (Int × Int)) (h : ∀ p ∈ l, (0 ≤ p.1 ∧ p.1 ≤ 99) ∧ -1000000000 ≤ p.2 ∧ p.2 ≤ 1000000000) : (Jn.cellsE l).length ≤ 25 * l.length := by
  induction l with
  | nil => simp [Jn.cellsE]
  | cons p r ih =>
    obtain ⟨⟨b1, b2⟩, b3, b4⟩ := h p (by simp)
    have h1 := itoa_len p.1 (by omega) (by omega)
    have h2 := itoa_len p.2 b3 b4
    have h3 := ih (fun q hq => h q (by simp [hq]))
    have e : (Jn.cellsE (p :: r)).length = (Jn.putE p.1 p.2).length + (Jn.cellsE r).length := by simp [Jn.cellsE]
    have e2 : (Jn.putE p.1 p.2).length = (Lib.itoa p.1).length + (Lib.itoa p.2).length + 3 := by simp [Jn.putE]; omega
    rw [e, e2, List.length_cons]
    omega
theorem procsE_len (l : List (List UInt8 × List UInt8)) (h : ∀ p ∈ l, p.1.length ≤ 8) : (Jn.procsE l).length ≤ roomP l := by
  induction l with
  | nil => simp [Jn.procsE, roomP]
  | cons p r ih =>
    have h1 := h p (by simp)
    have h3 := ih (fun q hq => h q (by simp [hq]))
    have e : (Jn.procsE (p :: r)).length = (Jn.installE p.1 p.2).length + (Jn.procsE r).length := by simp [Jn.procsE]
    have e2 : (Jn.installE p.1 p.2).length = p.1.length + p.2.length + 3 := by simp [Jn.installE]; omega
    rw [e, e2, roomP]
    omega
/-- P12: what is written anew fits. -/
theorem all_room {C : Jn.Con} (h : Jn.Ok C) : (Jn.all C).length ≤ room C ∧ room C ≤ 30000 := by
  have h1 := cellsE_len C.list (list_bd C.cells h.val 0 (by have := h.len; omega))
  have h2 := procsE_len C.procs (fun p hp => name_len _ (h.prc p hp).1)
  have h3 := roomP_le C.procs (fun p hp => (proc_bd h p hp).2)
  have h4 : C.list.length ≤ 100 := Nat.le_trans (list_len _ _) (Nat.le_of_eq h.len)
  have h5 := h.cnt
  unfold room
  simp only [Jn.all, Jn.record, List.length_append, List.length_cons, List.length_nil]
  omega

def SmRel (l : List (List UInt8 × List UInt8)) (n0 : Nat) (n i : Value) : Prop := ∃ k : Nat, k ≤ l.length ∧ i = .int .i64 k ∧ n = .int .i64 ((n0 + roomP (l.take k) : Nat) : Int)

set_option maxHeartbeats 2000000 in
set_option maxRecDepth 100000 in
theorem small_any (W D : Nat) (w : World) (vx vp vc vq va s1 s2 : Value) (a b : ByteArray) (la lb : Int) (C : Jn.Con) (hW : WAt w W vx (.pointer (some ⟨D, 0, none⟩)) vp vc vq va) (hD : DAt w D a b la lb)
    (h1 : CRow w 0 s1 C.list) (h2 : PRow w 0 s2 C.procs) (hok : Jn.Ok C) (hs : a.size + b.size ≤ room C) :
    Calls Tryz.prog 106 #[.pointer (some ⟨W, 0, none⟩), .agg #[s1, s2]] w fun e w' => e = .returned (.bool true) ∧ Below w.heap.size w w' := by
  obtain ⟨o1, k1, rfl⟩ := crow_slice h1
  obtain ⟨o2, k2, rfl, hcs⟩ := h2.shape
  obtain ⟨-, c1, -, -, -, -⟩ := hW.cell
  have hcn := hok.cnt
  have hl1 : C.list.length ≤ 100 := Nat.le_trans (list_len _ _) (Nat.le_of_eq hok.len)
  have hpb := fun p hp => (proc_bd hok p hp).2
  have hr3 := (all_room hok).2
  unfold room at hs hr3
  obtain ⟨w1, hw1⟩ : ∃ w1, w1 = w.alloc (.cells #[.slice o1 C.list.length k1, .slice o2 C.procs.length k2] 146) := ⟨_, rfl⟩
  obtain ⟨B0, hB0⟩ : ∃ B0, B0 = w.heap.size := ⟨_, rfl⟩
  have hB1 : Below w.heap.size w w1 := by rw [hw1]; exact (Below.refl _ _).alloc (Nat.le_refl _) _
  have hbo : w1.heap[B0]? = some (.cells #[.slice o1 C.list.length k1, .slice o2 C.procs.length k2] 146 (0, 0)) := by rw [hw1, hB0]; exact heap_alloc_new w _
  have q0 : w1.cell? ⟨B0, 0, none⟩ = some (.slice o1 C.list.length k1) := (cell_of_row w1 B0 0 _ _ _ hbo).trans rfl
  have q1 : w1.cell? ⟨B0, 1, none⟩ = some (.slice o2 C.procs.length k2) := (cell_of_row w1 B0 1 _ _ _ hbo).trans rfl
  have hD1 : DAt w1 D a b la lb := hD.fr (Fr.of (L := 0) (T := []) (X := none) hB1 (Nat.zero_le _)) (by simp) (by simp)
  have e1 := at_old hB1 c1
  have HSZ := hide (size_any D a b la lb w1 hD1 (by omega) (by omega))
  have HC := hide hcs
  have HB1 := hide hB1
  have HPB := hide hpb
  clear hcs hB1 hbo hD1 hD hW h1 h2 hok hpb c1
  generalize C.procs = ps at *
  generalize C.list.length = nl at *
  go_enter Tryz.func106, Tryz.ntmps106
  go_wp2
  rw [← hw1, ← hB0]
  clear hw1 hB0
  go_loop [5, 6] (fun n i => SmRel ps (64 + 32 * nl) n i) (fun _ i => ps.length - (intOf i).toNat)
  case atStart => exact ⟨0, Nat.zero_le _, rfl, by simp [roomP]⟩
  case round =>
    obtain ⟨k, hk, rfl, rfl⟩ := hrel
    have hrk : roomP (ps.take k) ≤ roomP ps := by
      have := roomP_app (ps.take k) (ps.drop k)
      rw [List.take_append_drop] at this
      omega
    by_cases hlt : k < ps.length
    · obtain ⟨g, cur, rfl, -, -, hcc⟩ := HC.out (by omega)
      obtain ⟨p, hp⟩ : ∃ p, ps[k]? = some p := ⟨ps[k], by simp [hlt]⟩
      obtain ⟨-, x2⟩ := hcc k p hp
      have d2 := at_old HB1.out x2
      have hpl := HPB.out p (List.mem_of_getElem? hp)
      have HT := hide (roomP_take ps k p hp)
      clear hcc x2 hp
      obtain ⟨p1, p2⟩ := p
      simp only [T] at d2 hpl
      obtain ⟨q2, hq2⟩ : ∃ q : ByteArray, q = ⟨p2.toArray⟩ := ⟨_, rfl⟩
      have hqs : q2.size = p2.length := by rw [hq2]; rfl
      rw [← hq2] at d2
      have hqb : q2.size ≤ 1000 := by omega
      have HQ := hide hqs
      clear hq2 hqs
      generalize roomP (ps.take k) = z at *
      go_wp2
      go_round
      case rel => exact ⟨k + 1, by omega, by go_num, by rw [HT.out]; simp only; rw [← HQ.out]; go_num⟩
      case measure => simp [intOf]; omega
    · have hkl : ps.take k = ps := List.take_of_length_le (by omega)
      rw [hkl]
      clear hkl hrk
      generalize roomP ps = z at *
      go_wp2_with fail
      refine HSZ.out.mono ?_
      rintro e w2 ⟨rfl, hb2⟩
      have HB2 : Hid (Below w.heap.size w w2) := HB1.out.trans (hb2.mono HB1.out.size)
      clear hb2
      go_wp2
      go_ret
      refine ⟨ret_bool ?_, HB2.out⟩
      simp
      omega

/-- the list of contents is laid anew. -/
theorem past_new {L W : Nat} {w : World} {vx vd vp vc vq va s1 s2 : Value} {C : Jn.Con} (hW : WAt w W vx vd vp vc vq va) (hLW : L ≤ W) (hL : L ≤ w.heap.size) (h1 : CRow w 0 s1 C.list) (h2 : PRow w 0 s2 C.procs) (hok : Jn.Ok C) :
    WAt (w.alloc (.cells #[s1, s2] 146)) W vx vd vp vc vq va ∧
    WAt ((w.alloc (.cells #[s1, s2] 146)).setCell ⟨W, 2, none⟩ (.slice (some ⟨w.heap.size, 0, none⟩) 1 1)) W vx vd (.slice (some ⟨w.heap.size, 0, none⟩) 1 1) vc vq va ∧
    PastAt L ((w.alloc (.cells #[s1, s2] 146)).setCell ⟨W, 2, none⟩ (.slice (some ⟨w.heap.size, 0, none⟩) 1 1)) (.slice (some ⟨w.heap.size, 0, none⟩) 1 1) [C] ∧
    Fr L [115] none w ((w.alloc (.cells #[s1, s2] 146)).setCell ⟨W, 2, none⟩ (.slice (some ⟨w.heap.size, 0, none⟩) 1 1)) := by
  have hb : Below w.heap.size w (w.alloc (.cells #[s1, s2] 146)) := (Below.refl _ _).alloc (Nat.le_refl _) _
  have hW1 : WAt (w.alloc (.cells #[s1, s2] 146)) W vx vd vp vc vq va := hW.fr (Fr.of (L := 0) (T := []) (X := none) hb (Nat.zero_le _)) (by simp) (by simp)
  have f1 : Fr L [115] none w (w.alloc (.cells #[s1, s2] 146)) := Fr.of hb hL
  have f2 : Fr L [115] none (w.alloc (.cells #[s1, s2] 146)) ((w.alloc (.cells #[s1, s2] 146)).setCell ⟨W, 2, none⟩ (.slice (some ⟨w.heap.size, 0, none⟩) 1 1)) :=
    (fr_setCell _ W 2 _ hLW).typed (fun k hk => by cases hk; exact ⟨_, _, _, hW1, by simp⟩) none
  refine ⟨hW1, wat_set hW1 2 _, ⟨[(s1, s2)], ?_, rfl, ?_⟩, f1.trans f2⟩
  · have ho : (w.alloc (.cells #[s1, s2] 146)).ownsRow L 146 2 (.slice (some ⟨w.heap.size, 0, none⟩) 1 1) 1 (pairs [(s1, s2)]) :=
      ⟨rfl, .inr ⟨w.heap.size, 1, #[s1, s2], rfl, hL, heap_alloc_new w _, Nat.le_refl _, by decide, rfl, rfl⟩⟩
    exact own_fr ho f2 (by decide) (.inl rfl)
  · intro i s C' hs hC'
    match i, hs, hC' with
    | 0, hs, hC' =>
      simp at hs hC'
      subst hs hC'
      exact ⟨own_fr h1 (f1.trans f2) (by decide) (.inl rfl), own_fr h2 (f1.trans f2) (by decide) (.inl rfl), hok⟩
    | i + 1, hs, hC' => simp at hs

set_option maxHeartbeats 2000000 in
set_option maxRecDepth 100000 in
theorem rests_any (L W D N M : Nat) (w : World) (vx : Value) (past : List Jn.Con) (d : DS) (nc nq na : Nat) (C : Jn.Con) (hlaw : LawAt L W D N M w vx past d nc nq na) (hC : past[past.length - 1]? = some C) (hok : Jn.Ok C) (hb : past.length ≤ 9000000000000) :
    Calls Tryz.prog 124 #[.pointer (some ⟨W, 0, none⟩)] w fun e w' => e = .returned (.tuple #[]) ∧ LawAt L W D N M w' vx [C] d nc nq na ∧ Fr L [115] none w w' := by
  obtain ⟨vp, vc, vq, va, lcs, lqs, lxs, hW, hpast, hh1, e1, hh2, e2, hh3, e3⟩ := hlaw.rest
  have HN := hide (now_any L W w _ _ vp vc vq va past C hW hpast hC hb)
  have HL := hide hlaw
  have HW := hide hW
  have HH : Hid (HoldRow L N w 99 52 mkC vc lcs ∧ lcs.length = nc ∧ HoldRow L N w 89 54 mkP vq lqs ∧ lqs.length = nq ∧ HoldRow L M w 84 27 mkA va lxs ∧ lxs.length = na) := ⟨hh1, e1, hh2, e2, hh3, e3⟩
  have hLw := hlaw.low
  clear hlaw hW hpast hC hh1 e1 hh2 e2 hh3 e3
  go_enter Tryz.func124, Tryz.ntmps124
  go_wp2_with fail
  refine HN.out.mono ?_
  rintro e w1 ⟨sc, sp, rfl, hcr, hpr, hb1⟩
  obtain ⟨o1, k1, rfl⟩ := crow_slice hcr
  obtain ⟨o2, k2, rfl, -⟩ := hpr.shape
  obtain ⟨w2, hw2⟩ : ∃ w2, w2 = w1.alloc (.cells #[.slice o1 C.list.length k1, .slice o2 C.procs.length k2] 146) := ⟨_, rfl⟩
  have hb2 : Below w1.heap.size w1 w2 := by rw [hw2]; exact (Below.refl _ _).alloc (Nat.le_refl _) _
  have hB : Below w.heap.size w w2 := hb1.trans (hb2.mono hb1.size)
  have hW2 := HW.out.fr (Fr.of (L := 0) (T := []) (X := none) hB (Nat.zero_le _)) (by simp) (by simp)
  have q0 : w2.cell? ⟨w1.heap.size, 0, none⟩ = some (.slice o1 C.list.length k1) := by rw [hw2]; simp
  have q1 : w2.cell? ⟨w1.heap.size, 1, none⟩ = some (.slice o2 C.procs.length k2) := by rw [hw2]; simp
  have hfin := past_new (L := L) hW2 HL.out.lw (Nat.le_trans hLw hB.size) (hcr.below hb2) (hpr.below hb2) hok
  obtain ⟨W3, W4, P4, F4⟩ := hfin
  obtain ⟨-, -, c2, -, -, -⟩ := W3.cell
  have z2 := W3.fz 2
  have HW4 := hide W4
  have HP4 := hide P4
  have HF4 : Hid (Fr L [115] none w ((w2.alloc (.cells #[.slice o1 C.list.length k1, .slice o2 C.procs.length k2] 146)).setCell ⟨W, 2, none⟩ (.slice (some ⟨w2.heap.size, 0, none⟩) 1 1))) := (Fr.of hB hLw).trans F4
  have HE : Hid (w1.alloc (.cells #[.slice o1 C.list.length k1, .slice o2 C.procs.length k2] 146) = w2) := hw2.symm
  clear hcr hpr hb1 hb2 hB hW2 W3 W4 P4 F4 hw2 HN
  go_upto_region 1 with fail
  rw [HE.out]
  go_wp2
  go_end0
  obtain ⟨hh1, e1, hh2, e2, hh3, e3⟩ := HH.out
  refine ⟨rfl, ⟨HL.out.lw, HL.out.ld, HL.out.disk.fr HF4.out (by decide) (by simp), _, vc, vq, va, lcs, lqs, lxs, HW4.out, HP4.out, hh1.fr HF4.out (by decide) (by decide) (by simp) (.inl rfl), e1, hh2.fr HF4.out (by decide) (by decide) (by simp) (.inl rfl), e2, hh3.fr HF4.out (by decide) (by decide) (by simp) (.inl rfl), e3⟩, HF4.out⟩
end Go.Proofs.YtellilpeakpbfabGreatDoor

end
