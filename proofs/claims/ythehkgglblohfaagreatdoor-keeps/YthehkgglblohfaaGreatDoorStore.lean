/-
  The walks of the store's calls: tell, Put, Del, Get.
-/
import Derived.Test.YthehkgglblohfaaGreatDoorOpen
import Derived.Test.YthehkgglblohfaaGreatDoorContG
import Derived.Test.YthehkgglblohfaaGreatDoorHoldP
import Derived.Deep.RegionHeld3
namespace Go.Proofs.YthehkgglblohfaaGreatDoor
open Go.RowKit

set_option maxHeartbeats 400000 in
set_option maxRecDepth 100000 in
theorem tell_any (L S B : Nat) (C : Jn.Con) (f : Int) (s : ByteArray) (w : World) (h : StAt L w S B C f) (hs : s.size ≤ 100000) :
    Calls Tryz.prog 75 #[.pointer (some ⟨S, 0, none⟩), .string s] w fun e w' => ∃ v, e = .returned v ∧ ARow w' w.heap.size v [(1, f, Jn.record s.data.toList)] ∧ Below w.heap.size w w' := by
  obtain ⟨-, c1, -, -⟩ := h.cells
  have HR := hide (fun w => recordJ_any s w hs)
  clear h
  go_enter Tryz.func75, Tryz.ntmps75
  go_wp2
  go_region_held3 (fun w' => w'.cell? ⟨S, 1, none⟩ = some (.int .i64 f)) (go_keep) (first | (go_at_call 101; refine (HR.out _).mono ?_; rintro e w1 ⟨X, rfl, hX, -, rfl⟩))
  have HX := hide hX
  clear hX
  go_wp2
  go_ret
  refine ⟨_, rfl, arow_new w.drew w.heap.size (Nat.le_refl _) [(1, f, Jn.record s.data.toList)] 1 rfl _ ?_ (by decide), (Below.drew (Below.refl w.heap.size w)).alloc (Nat.le_refl _) _⟩
  simp only [acts3, List.flatMap_cons, List.flatMap_nil, ← HX.out]
  rfl

set_option maxHeartbeats 400000 in
set_option maxRecDepth 100000 in
theorem delJ_any (k : Int) (w : World) (h0 : -1000000000 ≤ k) (h1 : k ≤ 1000000000) (hP : PowAt w) :
    Calls Tryz.prog 79 #[.int .i64 k] w fun e w' => ∃ X : ByteArray, e = .returned (.string X) ∧ X.data.toList = Jn.delE k ∧ X.size ≤ 25 ∧ Below w.heap.size w w' := by
  have HK := hide (itoa_str k h0 h1 w hP)
  clear hP
  go_enter Tryz.func79, Tryz.ntmps79
  go_wp2_with fail
  refine HK.out.mono ?_
  rintro e w1 ⟨A, rfl, hA, hAs, hb⟩
  have HB := hide hb
  have HA := hide hA
  clear hb hA
  go_wp2
  go_ret
  refine ⟨_, rfl, ?_, ?_, HB.out⟩
  · simp only [app_list, HA.out]; rfl
  · simp only [ByteArray.size_append, one_size]; omega

theorem StAt.con' {L : Nat} {w w' : World} {S B : Nat} {C C' : Jn.Con} {f : Int} (h : StAt L w S B C f) (g : Fr L [159] none w w') (hc : ConAt L w' B C') : StAt L w' S B C' f :=
  ⟨h.low, h.file, g.block S _ _ _ h.mem (by decide) (by simp), hc⟩

/-- what a change answers: the contents behind it, the error, what is told. -/
def ChgPost (L S B : Nat) (C' : Jn.Con) (f er : Int) (es : List UInt8) (w : World) (e : Ending) (w' : World) : Prop :=
  ∃ v, e = .returned (.tuple #[v, .int .i64 er]) ∧ StAt L w' S B C' f ∧ Fr L [159] none w w' ∧ ((er ≠ 0 ∧ v = .slice none 0 0) ∨ (er = 0 ∧ ARow w' w.heap.size v [(1, f, Jn.record es)]))

set_option maxHeartbeats 1000000 in
set_option maxRecDepth 100000 in
theorem putS_any (L S B : Nat) (C : Jn.Con) (f k x : Int) (w : World) (h : StAt L w S B C f) (hP : PowAt w) (hpL : 1 < L) :
    Calls Tryz.prog 40 #[.pointer (some ⟨S, 0, none⟩), .int .i64 k, .int .i64 x] w (ChgPost L S B (Jn.put C k x).1 f (Jn.put C k x).2 (Jn.putE k x) w) := by
  obtain ⟨c0, -, -, -⟩ := h.cells
  have hp := putC_any L B C k x w h.con
  have hval : (Jn.put C k x).2 = 0 → (0 ≤ k ∧ k ≤ 99) ∧ -1000000000 ≤ x ∧ x ≤ 1000000000 := by
    intro h0
    unfold Jn.put at h0
    split at h0
    · simp at h0
    · rename_i hk
      split at h0
      · simp at h0
      · rename_i hx
        unfold Jn.isKey at hk
        unfold Jn.isVal at hx
        simp at hk hx
        omega
  generalize Jn.put C k x = q at *
  obtain ⟨q1, q2⟩ := q
  have HP := hide hp
  have HH := hide h
  have HPW := hide hP
  have HV := hide hval
  clear hp h hP hval
  go_enter Tryz.func40, Tryz.ntmps40
  go_wp2_with fail
  refine HP.out.mono ?_
  rintro e w1 ⟨rfl, hc1, hf1⟩
  have HS1 := hide (HH.out.con' hf1 hc1)
  have HF1 := hide hf1
  clear hc1 hf1 HP
  cases ht : (q2 != (0 : Int)) with
  | true =>
    have HNE : Hid (q2 ≠ 0) := by show _ ≠ _; simpa using ht
    go_wp2
    go_ret2
    exact ⟨_, rfl, HS1.out, HF1.out, .inl ⟨HNE.out, rfl⟩⟩
  | false =>
    have h0 : q2 = 0 := by simpa using ht
    obtain ⟨⟨k0, k1⟩, x0, x1⟩ := HV.out h0
    have HE0 := hide h0
    have HPJ := hide (putJ_any k x w1 (by omega) (by omega) x0 x1 (HPW.out.below hpL HF1.out.below))
    clear h0
    go_wp2_with fail
    refine HPJ.out.mono ?_
    rintro e w2 ⟨X, rfl, hX, hXs, hb2⟩
    have HB2 := hide hb2
    have HX := hide hX
    have HTL := hide (tell_any L S B q1 f X w2 (HS1.out.below hb2) (by omega))
    clear hX hb2 HPJ
    go_wp2_with fail
    refine HTL.out.mono ?_
    rintro e w3 ⟨v, rfl, hr, hb3⟩
    obtain ⟨ao, cap, rfl, hnn, -⟩ := own_slice hr
    have HFIN : Hid (ChgPost L S B q1 f 0 (Jn.putE k x) w (.returned (.tuple #[.slice ao 1 cap, .int .i64 0])) w3) := by
      have hL1 : L ≤ w1.heap.size := Nat.le_trans HS1.out.low (Nat.le_of_lt HS1.out.lt)
      refine ⟨_, rfl, (HS1.out.below HB2.out).below hb3, (HF1.out.trans (Fr.of HB2.out hL1)).trans (Fr.of hb3 (Nat.le_trans hL1 HB2.out.size)), .inr ⟨rfl, ?_⟩⟩
      rw [HX.out] at hr
      exact ownsRow_base hr (Nat.le_trans HF1.out.size HB2.out.size)
    clear hr hb3 HTL
    go_wp2
    go_ret2
    rw [HE0.out]
    exact HFIN.out

set_option maxHeartbeats 1000000 in
set_option maxRecDepth 100000 in
theorem delS_any (L S B : Nat) (C : Jn.Con) (f k : Int) (w : World) (h : StAt L w S B C f) (hP : PowAt w) (hpL : 1 < L) :
    Calls Tryz.prog 43 #[.pointer (some ⟨S, 0, none⟩), .int .i64 k] w (ChgPost L S B (Jn.del C k).1 f (Jn.del C k).2 (Jn.delE k) w) := by
  obtain ⟨c0, -, -, -⟩ := h.cells
  have hp := delC_any L B C k w h.con
  have hval : (Jn.del C k).2 = 0 → 0 ≤ k ∧ k ≤ 99 := by
    intro h0
    unfold Jn.del at h0
    split at h0
    · simp at h0
    · rename_i hk
      unfold Jn.isKey at hk
      simp at hk
      omega
  generalize Jn.del C k = q at *
  obtain ⟨q1, q2⟩ := q
  have HP := hide hp
  have HH := hide h
  have HPW := hide hP
  have HV := hide hval
  clear hp h hP hval
  go_enter Tryz.func43, Tryz.ntmps43
  go_wp2_with fail
  refine HP.out.mono ?_
  rintro e w1 ⟨rfl, hc1, hf1⟩
  have HS1 := hide (HH.out.con' hf1 hc1)
  have HF1 := hide hf1
  clear hc1 hf1 HP
  cases ht : (q2 != (0 : Int)) with
  | true =>
    have HNE : Hid (q2 ≠ 0) := by show _ ≠ _; simpa using ht
    go_wp2
    go_ret2
    exact ⟨_, rfl, HS1.out, HF1.out, .inl ⟨HNE.out, rfl⟩⟩
  | false =>
    have h0 : q2 = 0 := by simpa using ht
    obtain ⟨k0, k1⟩ := HV.out h0
    have HE0 := hide h0
    have HPJ := hide (delJ_any k w1 (by omega) (by omega) (HPW.out.below hpL HF1.out.below))
    clear h0
    go_wp2_with fail
    refine HPJ.out.mono ?_
    rintro e w2 ⟨X, rfl, hX, hXs, hb2⟩
    have HB2 := hide hb2
    have HX := hide hX
    have HTL := hide (tell_any L S B q1 f X w2 (HS1.out.below hb2) (by omega))
    clear hX hb2 HPJ
    go_wp2_with fail
    refine HTL.out.mono ?_
    rintro e w3 ⟨v, rfl, hr, hb3⟩
    obtain ⟨ao, cap, rfl, hnn, -⟩ := own_slice hr
    have HFIN : Hid (ChgPost L S B q1 f 0 (Jn.delE k) w (.returned (.tuple #[.slice ao 1 cap, .int .i64 0])) w3) := by
      have hL1 : L ≤ w1.heap.size := Nat.le_trans HS1.out.low (Nat.le_of_lt HS1.out.lt)
      refine ⟨_, rfl, (HS1.out.below HB2.out).below hb3, (HF1.out.trans (Fr.of HB2.out hL1)).trans (Fr.of hb3 (Nat.le_trans hL1 HB2.out.size)), .inr ⟨rfl, ?_⟩⟩
      rw [HX.out] at hr
      exact ownsRow_base hr (Nat.le_trans HF1.out.size HB2.out.size)
    clear hr hb3 HTL
    go_wp2
    go_ret2
    rw [HE0.out]
    exact HFIN.out

set_option maxHeartbeats 400000 in
theorem getS_in (L S B : Nat) (C : Jn.Con) (f : Int) (n : Nat) (w : World) (h : StAt L w S B C f) (hn : n ≤ 99) :
    Calls Tryz.prog 44 #[.pointer (some ⟨S, 0, none⟩), .int .i64 n] w fun e w' => e = .returned (.tuple #[.int .i64 ((C.cells.getD n none).getD 0), .bool (C.cells.getD n none).isSome, .int .i64 0]) ∧ Below w.heap.size w w' := by
  obtain ⟨c0, -, -, -⟩ := h.cells
  have HG := hide (get_in L B C n w h.con hn)
  clear h
  go_enter Tryz.func44, Tryz.ntmps44
  go_wp2_with fail
  refine HG.out.mono ?_
  rintro e w1 ⟨rfl, hb⟩
  have HB := hide hb
  clear hb
  go_wp2
  go_ret3
  exact ⟨rfl, HB.out⟩
set_option maxHeartbeats 400000 in
theorem getS_out (L S B : Nat) (C : Jn.Con) (f k : Int) (w : World) (h : StAt L w S B C f) (hk : Jn.isKey k = false) :
    Calls Tryz.prog 44 #[.pointer (some ⟨S, 0, none⟩), .int .i64 k] w fun e w' => e = .returned (.tuple #[.int .i64 0, .bool false, .int .i64 5]) ∧ Below w.heap.size w w' := by
  obtain ⟨c0, -, -, -⟩ := h.cells
  have HG := hide (get_out B k w hk)
  clear h hk
  go_enter Tryz.func44, Tryz.ntmps44
  go_wp2_with fail
  refine HG.out.mono ?_
  rintro e w1 ⟨rfl, rfl⟩
  go_wp2
  go_ret3
  exact ⟨rfl, Below.refl _ _⟩
end Go.Proofs.YthehkgglblohfaaGreatDoor
