import Derived.Test.YtellilpeakpbfaaGreatDoorHoldPToo
import Derived.Test.YtellilpeakpbfaaGreatDoorContGToo
import Derived.Deep.RegionHeld3
section
/-
  The walks of the store's calls: tell, Put, Del, Get.
-/
namespace Go.Proofs.YtellilpeakpbfaaGreatDoor
open Go.RowKit

set_option maxHeartbeats 400000 in
set_option maxRecDepth 100000 in
theorem tell_any (L S B : Nat) (C : Jn.Con) (f : Int) (s : ByteArray) (w : World) (h : StAt L w S B C f) (hs : s.size ≤ 100000) :
    Calls Tryz.prog 56 #[.pointer (some ⟨S, 0, none⟩), .string s] w fun e w' => ∃ v, e = .returned v ∧ ARow w' w.heap.size v [(1, f, Jn.record s.data.toList)] ∧ Below w.heap.size w w' := by
  obtain ⟨-, c1, -, -⟩ := h.cells
  have HR := hide (fun w => recordJ_any s w hs)
  clear h
  go_enter Tryz.func56, Tryz.ntmps56
  go_wp2
  go_region_held3 (fun w' => w'.cell? ⟨S, 1, none⟩ = some (.int .i64 f)) (go_keep) (first | (go_at_call 94; refine (HR.out _).mono ?_; rintro e w1 ⟨X, rfl, hX, -, rfl⟩))
  have HX := hide hX
  clear hX
  go_wp2
  go_ret
  refine ⟨_, rfl, arow_new w.drew w.heap.size (Nat.le_refl _) [(1, f, Jn.record s.data.toList)] 1 rfl _ ?_ (by decide), (Below.drew (Below.refl w.heap.size w)).alloc (Nat.le_refl _) _⟩
  simp only [acts3, List.flatMap_cons, List.flatMap_nil, ← HX.out]
  rfl

set_option maxHeartbeats 400000 in
set_option maxRecDepth 100000 in
theorem delJ_any (k : Int) (w : World) (h0 : -1000000000 ≤ k) (h1 : k ≤ 1000000000) (hP : PowAt w) :
    Calls Tryz.prog 62 #[.int .i64 k] w fun e w' => ∃ X : ByteArray, e = .returned (.string X) ∧ X.data.toList = Jn.delE k ∧ X.size ≤ 25 ∧ Below w.heap.size w w' := by
  have HK := hide (itoa_str k h0 h1 w hP)
  clear hP
  go_enter Tryz.func62, Tryz.ntmps62
  go_wp2_with fail
  refine HK.out.mono ?_
  rintro e w1 ⟨A, rfl, hA, hAs, hb⟩
  have HB := hide hb
  have HA := hide hA
  clear hb hA
  go_wp2
  go_ret
  refine ⟨_, rfl, ?_, ?_, HB.out⟩
  · simp only [app_list, HA.out]; rfl
  · simp only [ByteArray.size_append, one_size]; omega

theorem StAt.con' {L : Nat} {w w' : World} {S B : Nat} {C C' : Jn.Con} {f : Int} (h : StAt L w S B C f) (g : Fr L [145] none w w') (hc : ConAt L w' B C') : StAt L w' S B C' f :=
  ⟨h.low, h.file, g.block S _ _ _ h.mem (by decide) (by simp), hc⟩

theorem StAt.weakB {L : Nat} {w w' : World} {S B : Nat} {C : Jn.Con} {f : Int} (h : StAt L w S B C f) (g : Fr L [] (some B) w w') : Fr L [145] none w w' := by
  obtain ⟨cur, v0, hh, -⟩ := h.con.mem
  exact g.weak hh
theorem StAt.conB {L : Nat} {w w' : World} {S B : Nat} {C C' : Jn.Con} {f : Int} (h : StAt L w S B C f) (g : Fr L [] (some B) w w') (hc : ConAt L w' B C') : StAt L w' S B C' f := h.con' (h.weakB g) hc
/-- what a change answers: the contents behind it, the error, what is told; the contents' block alone is turned. -/
def ChgOwn (L S B : Nat) (C' : Jn.Con) (f er : Int) (es : List UInt8) (w : World) (e : Ending) (w' : World) : Prop :=
  ∃ v, e = .returned (.tuple #[v, .int .i64 er]) ∧ StAt L w' S B C' f ∧ Fr L [] (some B) w w' ∧ ((er ≠ 0 ∧ v = .slice none 0 0) ∨ (er = 0 ∧ ARow w' w.heap.size v [(1, f, Jn.record es)]))
/-- what a change answers: the contents behind it, the error, what is told. -/
def ChgPost (L S B : Nat) (C' : Jn.Con) (f er : Int) (es : List UInt8) (w : World) (e : Ending) (w' : World) : Prop :=
  ∃ v, e = .returned (.tuple #[v, .int .i64 er]) ∧ StAt L w' S B C' f ∧ Fr L [145] none w w' ∧ ((er ≠ 0 ∧ v = .slice none 0 0) ∨ (er = 0 ∧ ARow w' w.heap.size v [(1, f, Jn.record es)]))

set_option maxHeartbeats 1000000 in
set_option maxRecDepth 100000 in
theorem putS_own (L S B : Nat) (C : Jn.Con) (f k x : Int) (w : World) (h : StAt L w S B C f) (hP : PowAt w) (hpL : 1 < L) :
    Calls Tryz.prog 32 #[.pointer (some ⟨S, 0, none⟩), .int .i64 k, .int .i64 x] w (ChgOwn L S B (Jn.put C k x).1 f (Jn.put C k x).2 (Jn.putE k x) w) := by
  obtain ⟨c0, -, -, -⟩ := h.cells
  have hp := putC_own L B C k x w h.con
  have hval : (Jn.put C k x).2 = 0 → (0 ≤ k ∧ k ≤ 99) ∧ -1000000000 ≤ x ∧ x ≤ 1000000000 := by
    intro h0
    unfold Jn.put at h0
    split at h0
    · simp at h0
    · rename_i hk
      split at h0
      · simp at h0
      · rename_i hx
        unfold Jn.isKey at hk
        unfold Jn.isVal at hx
        simp at hk hx
        omega
  generalize Jn.put C k x = q at *
  obtain ⟨q1, q2⟩ := q
  have HP := hide hp
  have HH := hide h
  have HPW := hide hP
  have HV := hide hval
  clear hp h hP hval
  go_enter Tryz.func32, Tryz.ntmps32
  go_wp2_with fail
  refine HP.out.mono ?_
  rintro e w1 ⟨rfl, hc1, hf1⟩
  have HS1 := hide (HH.out.conB hf1 hc1)
  have HF1 := hide hf1
  clear hc1 hf1 HP
  cases ht : (q2 != (0 : Int)) with
  | true =>
    have HNE : Hid (q2 ≠ 0) := by show _ ≠ _; simpa using ht
    go_wp2
    go_ret2
    exact ⟨_, rfl, HS1.out, HF1.out, .inl ⟨HNE.out, rfl⟩⟩
  | false =>
    have h0 : q2 = 0 := by simpa using ht
    obtain ⟨⟨k0, k1⟩, x0, x1⟩ := HV.out h0
    have HE0 := hide h0
    have HPJ := hide (putJ_any k x w1 (by omega) (by omega) x0 x1 (HPW.out.below hpL HF1.out.below))
    clear h0
    go_wp2_with fail
    refine HPJ.out.mono ?_
    rintro e w2 ⟨X, rfl, hX, hXs, hb2⟩
    have HB2 := hide hb2
    have HX := hide hX
    have HTL := hide (tell_any L S B q1 f X w2 (HS1.out.below hb2) (by omega))
    clear hX hb2 HPJ
    go_wp2_with fail
    refine HTL.out.mono ?_
    rintro e w3 ⟨v, rfl, hr, hb3⟩
    obtain ⟨ao, cap, rfl, hnn, -⟩ := own_slice hr
    have HFIN : Hid (ChgOwn L S B q1 f 0 (Jn.putE k x) w (.returned (.tuple #[.slice ao 1 cap, .int .i64 0])) w3) := by
      have hL1 : L ≤ w1.heap.size := Nat.le_trans HS1.out.low (Nat.le_of_lt HS1.out.lt)
      refine ⟨_, rfl, (HS1.out.below HB2.out).below hb3, (HF1.out.trans (Fr.of HB2.out hL1)).trans (Fr.of hb3 (Nat.le_trans hL1 HB2.out.size)), .inr ⟨rfl, ?_⟩⟩
      rw [HX.out] at hr
      exact ownsRow_base hr (Nat.le_trans HF1.out.size HB2.out.size)
    clear hr hb3 HTL
    go_wp2
    go_ret2
    rw [HE0.out]
    exact HFIN.out

set_option maxHeartbeats 1000000 in
set_option maxRecDepth 100000 in
theorem delS_own (L S B : Nat) (C : Jn.Con) (f k : Int) (w : World) (h : StAt L w S B C f) (hP : PowAt w) (hpL : 1 < L) :
    Calls Tryz.prog 34 #[.pointer (some ⟨S, 0, none⟩), .int .i64 k] w (ChgOwn L S B (Jn.del C k).1 f (Jn.del C k).2 (Jn.delE k) w) := by
  obtain ⟨c0, -, -, -⟩ := h.cells
  have hp := delC_own L B C k w h.con
  have hval : (Jn.del C k).2 = 0 → 0 ≤ k ∧ k ≤ 99 := by
    intro h0
    unfold Jn.del at h0
    split at h0
    · simp at h0
    · rename_i hk
      unfold Jn.isKey at hk
      simp at hk
      omega
  generalize Jn.del C k = q at *
  obtain ⟨q1, q2⟩ := q
  have HP := hide hp
  have HH := hide h
  have HPW := hide hP
  have HV := hide hval
  clear hp h hP hval
  go_enter Tryz.func34, Tryz.ntmps34
  go_wp2_with fail
  refine HP.out.mono ?_
  rintro e w1 ⟨rfl, hc1, hf1⟩
  have HS1 := hide (HH.out.conB hf1 hc1)
  have HF1 := hide hf1
  clear hc1 hf1 HP
  cases ht : (q2 != (0 : Int)) with
  | true =>
    have HNE : Hid (q2 ≠ 0) := by show _ ≠ _; simpa using ht
    go_wp2
    go_ret2
    exact ⟨_, rfl, HS1.out, HF1.out, .inl ⟨HNE.out, rfl⟩⟩
  | false =>
    have h0 : q2 = 0 := by simpa using ht
    obtain ⟨k0, k1⟩ := HV.out h0
    have HE0 := hide h0
    have HPJ := hide (delJ_any k w1 (by omega) (by omega) (HPW.out.below hpL HF1.out.below))
    clear h0
    go_wp2_with fail
    refine HPJ.out.mono ?_
    rintro e w2 ⟨X, rfl, hX, hXs, hb2⟩
    have HB2 := hide hb2
    have HX := hide hX
    have HTL := hide (tell_any L S B q1 f X w2 (HS1.out.below hb2) (by omega))
    clear hX hb2 HPJ
    go_wp2_with fail
    refine HTL.out.mono ?_
    rintro e w3 ⟨v, rfl, hr, hb3⟩
    obtain ⟨ao, cap, rfl, hnn, -⟩ := own_slice hr
    have HFIN : Hid (ChgOwn L S B q1 f 0 (Jn.delE k) w (.returned (.tuple #[.slice ao 1 cap, .int .i64 0])) w3) := by
      have hL1 : L ≤ w1.heap.size := Nat.le_trans HS1.out.low (Nat.le_of_lt HS1.out.lt)
      refine ⟨_, rfl, (HS1.out.below HB2.out).below hb3, (HF1.out.trans (Fr.of HB2.out hL1)).trans (Fr.of hb3 (Nat.le_trans hL1 HB2.out.size)), .inr ⟨rfl, ?_⟩⟩
      rw [HX.out] at hr
      exact ownsRow_base hr (Nat.le_trans HF1.out.size HB2.out.size)
    clear hr hb3 HTL
    go_wp2
    go_ret2
    rw [HE0.out]
    exact HFIN.out

theorem ChgOwn.weak {L S B : Nat} {C C' : Jn.Con} {f f' er : Int} {es : List UInt8} {w : World} {e : Ending} {w' : World} (hst : StAt L w S B C f') (h : ChgOwn L S B C' f er es w e w') : ChgPost L S B C' f er es w e w' := by
  obtain ⟨v, h1, h2, h3, h4⟩ := h
  exact ⟨v, h1, h2, hst.weakB h3, h4⟩
theorem putS_any (L S B : Nat) (C : Jn.Con) (f k x : Int) (w : World) (h : StAt L w S B C f) (hP : PowAt w) (hpL : 1 < L) :
    Calls Tryz.prog 32 #[.pointer (some ⟨S, 0, none⟩), .int .i64 k, .int .i64 x] w (ChgPost L S B (Jn.put C k x).1 f (Jn.put C k x).2 (Jn.putE k x) w) := (putS_own L S B C f k x w h hP hpL).mono fun _ _ g => g.weak h
theorem delS_any (L S B : Nat) (C : Jn.Con) (f k : Int) (w : World) (h : StAt L w S B C f) (hP : PowAt w) (hpL : 1 < L) :
    Calls Tryz.prog 34 #[.pointer (some ⟨S, 0, none⟩), .int .i64 k] w (ChgPost L S B (Jn.del C k).1 f (Jn.del C k).2 (Jn.delE k) w) := (delS_own L S B C f k w h hP hpL).mono fun _ _ g => g.weak h

set_option maxHeartbeats 400000 in
theorem getS_in (L S B : Nat) (C : Jn.Con) (f : Int) (n : Nat) (w : World) (h : StAt L w S B C f) (hn : n ≤ 99) :
    Calls Tryz.prog 33 #[.pointer (some ⟨S, 0, none⟩), .int .i64 n] w fun e w' => e = .returned (.tuple #[.int .i64 ((C.cells.getD n none).getD 0), .bool (C.cells.getD n none).isSome, .int .i64 0]) ∧ Below w.heap.size w w' := by
  obtain ⟨c0, -, -, -⟩ := h.cells
  have HG := hide (get_in L B C n w h.con hn)
  clear h
  go_enter Tryz.func33, Tryz.ntmps33
  go_wp2_with fail
  refine HG.out.mono ?_
  rintro e w1 ⟨rfl, hb⟩
  have HB := hide hb
  clear hb
  go_wp2
  go_ret3
  exact ⟨rfl, HB.out⟩
set_option maxHeartbeats 400000 in
theorem getS_out (L S B : Nat) (C : Jn.Con) (f k : Int) (w : World) (h : StAt L w S B C f) (hk : Jn.isKey k = false) :
    Calls Tryz.prog 33 #[.pointer (some ⟨S, 0, none⟩), .int .i64 k] w fun e w' => e = .returned (.tuple #[.int .i64 0, .bool false, .int .i64 5]) ∧ Below w.heap.size w w' := by
  obtain ⟨c0, -, -, -⟩ := h.cells
  have HG := hide (get_out B k w hk)
  clear h hk
  go_enter Tryz.func33, Tryz.ntmps33
  go_wp2_with fail
  refine HG.out.mono ?_
  rintro e w1 ⟨rfl, rfl⟩
  go_wp2
  go_ret3
  exact ⟨rfl, Below.refl _ _⟩
end Go.Proofs.YtellilpeakpbfaaGreatDoor

end

section
/-
  The document's lists are the places' lists; what the files tell.
-/
namespace Go.Proofs.YtellilpeakpbfaaGreatDoor
open Go.RowKit

theorem keys_ge (cs : List (Option Int)) : ∀ (j : Nat) (p : Int × Int), p ∈ Jn.listFrom j cs → (j : Int) ≤ p.1 := by
  induction cs with
  | nil => intro j p h; simp [Jn.listFrom] at h
  | cons o r ih =>
    intro j p h
    cases o with
    | none => have := ih (j + 1) p (by simpa [Jn.listFrom] using h); omega
    | some v =>
      simp only [Jn.listFrom, List.mem_cons] at h
      rcases h with rfl | h
      · simp
      · have := ih (j + 1) p h; omega
theorem tw_nil (cs : List (Option Int)) (j : Nat) (k : Int) (h : k ≤ j) : (Jn.listFrom j cs).takeWhile (fun p => decide (p.1 < k)) = [] := by
  cases hl : Jn.listFrom j cs with
  | nil => rfl
  | cons p r =>
    have := keys_ge cs j p (by rw [hl]; simp)
    rw [List.takeWhile_cons, if_neg (by simp; omega)]
theorem fl_all (cs : List (Option Int)) (j : Nat) (k : Int) (h : k < j) : (Jn.listFrom j cs).filter (fun p => decide (k < p.1)) = Jn.listFrom j cs := by
  rw [List.filter_eq_self]
  intro p hp
  have := keys_ge cs j p hp
  simp; omega
theorem with_from (cs : List (Option Int)) (x : Int) : ∀ (j k : Nat), k < cs.length → withL (Jn.listFrom j cs) ((j + k : Nat) : Int) x = Jn.listFrom j (cs.set k (some x)) := by
  induction cs with
  | nil => intro j k h; simp at h
  | cons o r ih =>
    intro j k h
    cases k with
    | zero =>
      unfold withL
      cases o with
      | none =>
        simp only [Jn.listFrom, List.set_cons_zero, Nat.add_zero]
        rw [tw_nil r (j + 1) j (by omega), fl_all r (j + 1) j (by omega)]
        rfl
      | some v =>
        simp only [Jn.listFrom, List.set_cons_zero, Nat.add_zero]
        rw [List.takeWhile_cons, if_neg (by simp), List.filter_cons, if_neg (by simp), fl_all r (j + 1) j (by omega)]
        rfl
    | succ k =>
      have ih' := ih (j + 1) k (by simpa using h)
      rw [show j + 1 + k = j + (k + 1) by omega] at ih'
      cases o with
      | none =>
        simp only [Jn.listFrom, List.set_cons_succ]
        exact ih'
      | some v =>
        simp only [Jn.listFrom, List.set_cons_succ]
        rw [← ih']
        unfold withL
        rw [List.takeWhile_cons, if_pos (by simp; omega), List.filter_cons, if_neg (by simp; omega)]
        rfl
theorem without_from (cs : List (Option Int)) : ∀ (j k : Nat), k < cs.length → withoutL (Jn.listFrom j cs) ((j + k : Nat) : Int) = Jn.listFrom j (cs.set k none) := by
  induction cs with
  | nil => intro j k h; simp at h
  | cons o r ih =>
    intro j k h
    have all : ∀ i : Int, i < (j : Int) + 1 → withoutL (Jn.listFrom (j + 1) r) i = Jn.listFrom (j + 1) r := by
      intro i hi
      unfold withoutL
      rw [List.filter_eq_self]
      intro p hp
      have := keys_ge r (j + 1) p hp
      simp; omega
    cases k with
    | zero =>
      cases o with
      | none =>
        simp only [Jn.listFrom, List.set_cons_zero, Nat.add_zero]
        exact all _ (by omega)
      | some v =>
        simp only [Jn.listFrom, List.set_cons_zero, Nat.add_zero]
        have e : withoutL (((j : Int), v) :: Jn.listFrom (j + 1) r) (j : Int) = withoutL (Jn.listFrom (j + 1) r) (j : Int) := by
          unfold withoutL
          rw [List.filter_cons, if_neg (by simp)]
        rw [e]
        exact all _ (by omega)
    | succ k =>
      have ih' := ih (j + 1) k (by simpa using h)
      rw [show j + 1 + k = j + (k + 1) by omega] at ih'
      cases o with
      | none =>
        simp only [Jn.listFrom, List.set_cons_succ]
        exact ih'
      | some v =>
        simp only [Jn.listFrom, List.set_cons_succ]
        rw [← ih']
        unfold withoutL
        rw [List.filter_cons, if_pos (by simp; omega)]
theorem cell_from (cs : List (Option Int)) : ∀ (j k : Nat), k < cs.length → cellL (Jn.listFrom j cs) ((j + k : Nat) : Int) = cs.getD k none := by
  induction cs with
  | nil => intro j k h; simp at h
  | cons o r ih =>
    intro j k h
    cases k with
    | zero =>
      cases o with
      | none =>
        simp only [Jn.listFrom, Nat.add_zero]
        have : ∀ l : List (Int × Int), (∀ p ∈ l, (j : Int) < p.1) → cellL l (j : Int) = none := by
          intro l
          induction l with
          | nil => intro _; rfl
          | cons p t iht =>
            intro hp
            rw [cellL, if_neg (by have := hp p (by simp); omega)]
            exact iht (fun q hq => hp q (by simp [hq]))
        rw [this _ (fun p hp => by have := keys_ge r (j + 1) p hp; omega)]
        rfl
      | some v =>
        simp only [Jn.listFrom, Nat.add_zero]
        rw [cellL, if_pos rfl]
        rfl
    | succ k =>
      have ih' := ih (j + 1) k (by simpa using h)
      rw [show j + 1 + k = j + (k + 1) by omega] at ih'
      cases o with
      | none => simp only [Jn.listFrom]; rw [ih']; rfl
      | some v =>
        simp only [Jn.listFrom]
        rw [cellL, if_neg (by simp; omega), ih']
        rfl

theorem with_con {C : Jn.Con} (h : Jn.Ok C) (n : Nat) (hn : n ≤ 99) (x : Int) : withL C.list (n : Int) x = (Jn.setC C n (some x)).list := by
  have := with_from C.cells x 0 n (by rw [h.len]; omega)
  simp only [Nat.zero_add] at this
  unfold Jn.Con.list
  rw [this]
  simp [Jn.setC]
theorem without_con {C : Jn.Con} (h : Jn.Ok C) (n : Nat) (hn : n ≤ 99) : withoutL C.list (n : Int) = (Jn.setC C n none).list := by
  have := without_from C.cells 0 n (by rw [h.len]; omega)
  simp only [Nat.zero_add] at this
  unfold Jn.Con.list
  rw [this]
  simp [Jn.setC]
theorem cell_con {C : Jn.Con} (h : Jn.Ok C) (n : Nat) (hn : n ≤ 99) : cellL C.list (n : Int) = C.cells.getD n none := by
  have := cell_from C.cells 0 n (by rw [h.len]; omega)
  simp only [Nat.zero_add] at this
  exact this

theorem list_bound {C : Jn.Con} (h : Jn.Ok C) : C.list.length ≤ 1000 := Nat.le_trans (Nat.le_trans (list_len _ _) (Nat.le_of_eq h.len)) (by omega)

/-- the document's Put and Del, by the places. -/
theorem refPut_any (C : Jn.Con) (sc sp : Value) (k x : Int) (w : World) (h : CRow w 0 sc C.list) (hp : PRow w 0 sp C.procs) (hok : Jn.Ok C) (x0 : -9223372036854775808 ≤ x) (x1 : x ≤ 9223372036854775807) :
    Calls Tryz.prog 109 #[.agg #[sc, sp], .int .i64 k, .int .i64 x] w (RefPost sp (Jn.put C k x).1.list (Jn.put C k x).2 w) := by
  obtain ⟨so, sk, hs⟩ := crow_slice h
  obtain ⟨po, pk, hq, -⟩ := hp.shape
  unfold Jn.put
  cases hk : Jn.isKey k with
  | false =>
    rw [if_pos rfl]
    refine (refPut_key sc sp k x w so po _ sk _ pk hs hq hk).mono fun e w' ⟨he, hb⟩ => ⟨sc, he, h.below hb, hb⟩
  | true =>
    rw [if_neg (by simp)]
    cases hx : Jn.isVal x with
    | false =>
      rw [if_pos rfl]
      refine (refPut_val sc sp k x w so po _ sk _ pk hs hq hk hx x0 x1).mono fun e w' ⟨he, hb⟩ => ⟨sc, he, h.below hb, hb⟩
    | true =>
      rw [if_neg (by simp)]
      have h1 : 0 ≤ k ∧ k ≤ 99 := by unfold Jn.isKey at hk; simpa using hk
      obtain ⟨n, rfl⟩ := Int.eq_ofNat_of_zero_le h1.1
      have := refPut_ok 0 sc sp C.list n x w po _ pk h (list_bound hok) hq hk hx
      rw [with_con hok n (by omega)] at this
      exact this
theorem refDel_any (C : Jn.Con) (sc sp : Value) (k : Int) (w : World) (h : CRow w 0 sc C.list) (hp : PRow w 0 sp C.procs) (hok : Jn.Ok C) :
    Calls Tryz.prog 112 #[.agg #[sc, sp], .int .i64 k] w (RefPost sp (Jn.del C k).1.list (Jn.del C k).2 w) := by
  obtain ⟨so, sk, hs⟩ := crow_slice h
  obtain ⟨po, pk, hq, -⟩ := hp.shape
  unfold Jn.del
  cases hk : Jn.isKey k with
  | false =>
    rw [if_pos rfl]
    refine (refDel_key sc sp k w so po _ sk _ pk hs hq hk).mono fun e w' ⟨he, hb⟩ => ⟨sc, he, h.below hb, hb⟩
  | true =>
    rw [if_neg (by simp)]
    have h1 : 0 ≤ k ∧ k ≤ 99 := by unfold Jn.isKey at hk; simpa using hk
    obtain ⟨n, rfl⟩ := Int.eq_ofNat_of_zero_le h1.1
    have := refDel_ok 0 sc sp C.list n w po _ pk h (list_bound hok) hq hk
    rw [without_con hok n (by omega)] at this
    exact this

/-- the file f tells the contents, the other one is empty. -/
def DiskOk (d : DS) (f : Int) (C : Jn.Con) : Prop :=
  (f = 0 ∧ Jn.Tells d.1.data.toList C ∧ d.2.1 = ⟨#[]⟩) ∨ (f = 1 ∧ Jn.Tells d.2.1.data.toList C ∧ d.1 = ⟨#[]⟩)
theorem DiskOk.two {d : DS} {f : Int} {C : Jn.Con} (h : DiskOk d f C) : Jn.readTwo d.1.data.toList d.2.1.data.toList = some (C, f) := by
  rcases h with ⟨rfl, h1, h2⟩ | ⟨rfl, h1, h2⟩
  · rw [h2]; exact h1.two0
  · rw [h2]; exact h1.two1
theorem DiskOk.change {d : DS} {f : Int} {C C' : Jn.Con} {es : List UInt8} (h : DiskOk d f C) (hn : 46 ∉ es) (hr : Jn.redo C es = some C') (hs : d.1.size + d.2.1.size + (es.length + 1) ≤ 1152921504606846976) :
    ∃ d', playL d [(1, f, Jn.record es)] = some d' ∧ DiskOk d' f C' ∧ d'.1.size ≤ d.1.size + (es.length + 1) ∧ d'.2.1.size ≤ d.2.1.size + (es.length + 1) := by
  have hl : (Jn.record es).length = es.length + 1 := by simp [Jn.record]
  have hz : ∀ a : ByteArray, (a ++ ⟨(Jn.record es).toArray⟩).size = a.size + (es.length + 1) := fun a => by
    rw [ByteArray.size_append]
    show a.size + (Jn.record es).length = _
    rw [hl]
  obtain ⟨a, b, la, lb⟩ := d
  simp only at hs
  rcases h with ⟨rfl, h1, h2⟩ | ⟨rfl, h1, h2⟩
  · have e : playA (a, b, la, lb) (1, 0, Jn.record es) = some (a ++ ⟨(Jn.record es).toArray⟩, b, la, lb) := by
      unfold playA
      rw [if_pos ⟨rfl, rfl⟩, if_pos (by show a.size + (Jn.record es).length ≤ _; rw [hl]; omega)]
    refine ⟨(a ++ ⟨(Jn.record es).toArray⟩, b, la, lb), by rw [playL, e]; rfl, .inl ⟨rfl, ?_, h2⟩, Nat.le_of_eq (hz a), Nat.le_add_right _ _⟩
    show Jn.Tells (a ++ ⟨(Jn.record es).toArray⟩).data.toList C'
    rw [app_list]
    exact h1.step hn hr
  · have e : playA (a, b, la, lb) (1, 1, Jn.record es) = some (a, b ++ ⟨(Jn.record es).toArray⟩, la, lb) := by
      unfold playA
      rw [if_neg (by simp), if_pos ⟨rfl, rfl⟩, if_pos (by show b.size + (Jn.record es).length ≤ _; rw [hl]; omega)]
    refine ⟨(a, b ++ ⟨(Jn.record es).toArray⟩, la, lb), by rw [playL, e]; rfl, .inr ⟨rfl, ?_, h2⟩, Nat.le_add_right _ _, Nat.le_of_eq (hz b)⟩
    show Jn.Tells (b ++ ⟨(Jn.record es).toArray⟩).data.toList C'
    rw [app_list]
    exact h1.step hn hr
theorem DiskOk.move {d : DS} {f : Int} {C : Jn.Con} (hf : f = 0 ∨ f = 1) (hok : Jn.Ok C) (hp : ∀ p ∈ C.procs, Jn.Plain p.2) (hl : (Jn.all C).length ≤ 100000) :
    ∃ d', playL d (moveActs C f) = some d' ∧ DiskOk d' (1 - f) C ∧ d'.1.size + d'.2.1.size = (Jn.all C).length := by
  obtain ⟨a, b, la, lb⟩ := d
  have ht := Jn.tells_all C hok hp
  have hz : ((⟨#[]⟩ : ByteArray) ++ ⟨(Jn.all C).toArray⟩).size = (Jn.all C).length := by
    rw [ByteArray.size_append]
    show 0 + (Jn.all C).length = _
    omega
  have hd : ((⟨#[]⟩ : ByteArray) ++ ⟨(Jn.all C).toArray⟩).data.toList = Jn.all C := by rw [app_list]; rfl
  have h0 : (⟨#[]⟩ : ByteArray).size = 0 := rfl
  rcases hf with rfl | rfl
  · refine ⟨(⟨#[]⟩, ⟨#[]⟩ ++ ⟨(Jn.all C).toArray⟩, 0, ((⟨#[]⟩ ++ ⟨(Jn.all C).toArray⟩ : ByteArray).size : Int)), ?_, .inr ⟨rfl, by show Jn.Tells _ C; rw [hd]; exact ht, rfl⟩, by show 0 + _ = _; rw [hz]; omega⟩
    have e1 : playA (a, b, la, lb) (2, 0, []) = some ((a, b, (a.size : Int), lb) : DS) := rfl
    have e2 : playA (a, b, (a.size : Int), lb) (3, 1, []) = some ((a, (⟨#[]⟩ : ByteArray), (a.size : Int), (0 : Int)) : DS) := rfl
    have e3 : playA (a, ⟨#[]⟩, (a.size : Int), 0) (1, 1, Jn.all C) = some ((a, (⟨#[]⟩ : ByteArray) ++ ⟨(Jn.all C).toArray⟩, (a.size : Int), (0 : Int)) : DS) := by
      unfold playA
      rw [if_neg (by simp), if_pos ⟨rfl, rfl⟩, if_pos (by show (⟨#[]⟩ : ByteArray).size + (Jn.all C).length ≤ _; rw [h0]; omega)]
    show playL (a, b, la, lb) [(2, 0, []), (3, 1, []), (1, 1, Jn.all C), (2, 1, []), (3, 0, [])] = _
    rw [playL, e1]
    show playL (a, b, (a.size : Int), lb) [(3, 1, []), (1, 1, Jn.all C), (2, 1, []), (3, 0, [])] = _
    rw [playL, e2]
    show playL (a, ⟨#[]⟩, (a.size : Int), 0) [(1, 1, Jn.all C), (2, 1, []), (3, 0, [])] = _
    rw [playL, e3]
    rfl
  · refine ⟨(⟨#[]⟩ ++ ⟨(Jn.all C).toArray⟩, ⟨#[]⟩, ((⟨#[]⟩ ++ ⟨(Jn.all C).toArray⟩ : ByteArray).size : Int), 0), ?_, .inl ⟨rfl, by show Jn.Tells _ C; rw [hd]; exact ht, rfl⟩, by show _ + 0 = _; rw [hz]; omega⟩
    have e1 : playA (a, b, la, lb) (2, 1, []) = some ((a, b, la, (b.size : Int)) : DS) := rfl
    have e2 : playA (a, b, la, (b.size : Int)) (3, 0, []) = some (((⟨#[]⟩ : ByteArray), b, (0 : Int), (b.size : Int)) : DS) := rfl
    have e3 : playA (⟨#[]⟩, b, 0, (b.size : Int)) (1, 0, Jn.all C) = some (((⟨#[]⟩ : ByteArray) ++ ⟨(Jn.all C).toArray⟩, b, (0 : Int), (b.size : Int)) : DS) := by
      unfold playA
      rw [if_pos ⟨rfl, rfl⟩, if_pos (by show (⟨#[]⟩ : ByteArray).size + (Jn.all C).length ≤ _; rw [h0]; omega)]
    show playL (a, b, la, lb) [(2, 1, []), (3, 0, []), (1, 0, Jn.all C), (2, 0, []), (3, 1, [])] = _
    rw [playL, e1]
    show playL (a, b, la, (b.size : Int)) [(3, 0, []), (1, 0, Jn.all C), (2, 0, []), (3, 1, [])] = _
    rw [playL, e2]
    show playL (⟨#[]⟩, b, 0, (b.size : Int)) [(1, 0, Jn.all C), (2, 0, []), (3, 1, [])] = _
    rw [playL, e3]
    rfl
end Go.Proofs.YtellilpeakpbfaaGreatDoor

end
