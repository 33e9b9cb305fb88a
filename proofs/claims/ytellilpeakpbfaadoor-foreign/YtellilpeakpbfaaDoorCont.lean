import Derived.Test.YtellilpeakpbfaaDoorFram
/-
  The walks of package contents: isKey, Put, Del.
-/
namespace Go.Proofs.YtellilpeakpbfaaDoor
open Go.RowKit

set_option maxHeartbeats 400000 in
theorem isKey_any (k : Int) (w : World) :
    Calls Tryd.prog 63 #[.int .i64 k] w fun e w' => e = .returned (.bool (Jn.isKey k)) ∧ w' = w := by
  go_enter Tryd.func63, Tryd.ntmps63
  go_wp2
  all_goals go_ret
  all_goals exact ⟨ret_bool (by unfold Jn.isKey; rw [Bool.eq_iff_iff]; simp; try omega), rfl⟩

theorem con_cell {L : Nat} {w : World} {B : Nat} {C : Jn.Con} (h : ConAt L w B C) (n : Nat) (hn : n < 100) :
    w.cell? ⟨B, n * 2, none⟩ = some (.bool (C.cells.getD n none).isSome) ∧ w.cell? ⟨B, n * 2 + 1, none⟩ = some (.int .i64 ((C.cells.getD n none).getD 0)) ∧ w.frozen? ⟨B, n * 2, none⟩ = false ∧ w.frozen? ⟨B, n * 2 + 1, none⟩ = false := by
  obtain ⟨cur, v, hh, hs, hc, hv, hp⟩ := h.mem
  have hg : C.cells[n]? = some (C.cells.getD n none) := by
    have hl := h.ok.len
    simp [List.getD, show n < C.cells.length by omega]
  obtain ⟨c1, c2⟩ := hc n _ hg
  exact ⟨(cell_of_row w B _ cur _ _ hh).trans c1, (cell_of_row w B _ cur _ _ hh).trans c2, frozen_of_row w B _ cur _ hh, frozen_of_row w B _ cur _ hh⟩
/-- a place is written. -/
theorem con_set {L : Nat} {w : World} {B : Nat} {C : Jn.Con} (h : ConAt L w B C) (n : Nat) (hn : n < 100) (o : Option Int) (ho : ∀ v, o = some v → Jn.isVal v = true) :
    ConAt L ((w.setCell ⟨B, n * 2, none⟩ (.bool o.isSome)).setCell ⟨B, n * 2 + 1, none⟩ (.int .i64 (o.getD 0))) B (Jn.setC C n o) ∧
    Fr L [] (some B) w ((w.setCell ⟨B, n * 2, none⟩ (.bool o.isSome)).setCell ⟨B, n * 2 + 1, none⟩ (.int .i64 (o.getD 0))) := by
  obtain ⟨cur, v, hh, hs, hc, hv, hp⟩ := h.mem
  have h1 := heap_setCell_same w B (n * 2) cur _ (.bool o.isSome) hh
  have h2 := heap_setCell_same (w.setCell ⟨B, n * 2, none⟩ (.bool o.isSome)) B (n * 2 + 1) _ _ (.int .i64 (o.getD 0)) h1
  have hoth : ∀ k, k ≠ B → ((w.setCell ⟨B, n * 2, none⟩ (.bool o.isSome)).setCell ⟨B, n * 2 + 1, none⟩ (.int .i64 (o.getD 0))).heap[k]? = w.heap[k]? := by
    intro k hk
    rw [heap_setCell_other _ _ _ _ (by simpa using hk), heap_setCell_other _ _ _ _ (by simpa using hk)]
  have hfr : Fr L [84] none w ((w.setCell ⟨B, n * 2, none⟩ (.bool o.isSome)).setCell ⟨B, n * 2 + 1, none⟩ (.int .i64 (o.getD 0))) := by
    refine ⟨((Below.refl L w).setCell (p := ⟨B, n * 2, none⟩) h.low _).setCell (p := ⟨B, n * 2 + 1, none⟩) h.low _, ?_⟩
    intro k cur' t z hk ht _
    rw [hoth k (fun e => ?_)]
    · exact hk
    · subst e; rw [hh] at hk; cases hk; simp at ht
  have hfs : Fr L [] (some B) w ((w.setCell ⟨B, n * 2, none⟩ (.bool o.isSome)).setCell ⟨B, n * 2 + 1, none⟩ (.int .i64 (o.getD 0))) :=
    ⟨hfr.below, fun k cur' t z hk _ hX => (hoth k (fun e => hX (by rw [e]))).trans hk⟩
  refine ⟨⟨h.low, ?_, _, v, h2, by simp [hs], ?_, ?_, ?_⟩, hfs⟩
  · exact h.ok.set _ _ ho
  · intro k p hk
    simp only [Jn.setC, Int.toNat_natCast, List.getElem?_set] at hk
    by_cases hkn : n = k
    · subst hkn
      rw [if_pos rfl, h.ok.len, if_pos hn] at hk
      cases hk
      constructor
      · rw [Array.getElem?_setIfInBounds, if_neg (by omega), Array.getElem?_setIfInBounds, if_pos rfl, if_pos (by omega)]
      · rw [Array.getElem?_setIfInBounds, if_pos rfl, if_pos (by simp; omega)]
    · rw [if_neg hkn] at hk
      obtain ⟨c1, c2⟩ := hc k p hk
      constructor
      · rw [Array.getElem?_setIfInBounds, if_neg (by omega), Array.getElem?_setIfInBounds, if_neg (by omega)]; exact c1
      · rw [Array.getElem?_setIfInBounds, if_neg (by omega), Array.getElem?_setIfInBounds, if_neg (by omega)]; exact c2
  · rw [Array.getElem?_setIfInBounds, if_neg (by omega), Array.getElem?_setIfInBounds, if_neg (by omega)]; exact hv
  · exact own_fr hp hfr (by decide) (.inl rfl)

set_option maxHeartbeats 400000 in
theorem putC_key (B : Nat) (k v : Int) (w : World) (hk : Jn.isKey k = false) :
    Calls Tryd.prog 62 #[.pointer (some ⟨B, 0, none⟩), .int .i64 k, .int .i64 v] w fun e w' => e = .returned (.int .i64 5) ∧ w' = w := by
  have hc := isKey_any k
  rw [hk] at hc
  have HC := hide hc
  clear hc hk
  go_enter Tryd.func62, Tryd.ntmps62
  go_wp2_with fail
  refine (HC.out _).mono ?_
  rintro e w1 ⟨rfl, rfl⟩
  go_wp2
  go_ret
  exact ⟨rfl, rfl⟩
set_option maxHeartbeats 400000 in
theorem putC_val (B : Nat) (k v : Int) (w : World) (hk : Jn.isKey k = true) (hv : Jn.isVal v = false) :
    Calls Tryd.prog 62 #[.pointer (some ⟨B, 0, none⟩), .int .i64 k, .int .i64 v] w fun e w' => e = .returned (.int .i64 6) ∧ w' = w := by
  have hc := isKey_any k
  rw [hk] at hc
  have HC := hide hc
  clear hc hk
  have hv' : ¬ (-1000000000 ≤ v ∧ v ≤ 1000000000) := by
    intro h; unfold Jn.isVal at hv; simp at hv; omega
  have HV := hide hv'
  clear hv hv'
  go_enter Tryd.func62, Tryd.ntmps62
  go_wp2_with fail
  refine (HC.out _).mono ?_
  rintro e w1 ⟨rfl, rfl⟩
  by_cases h1 : v < -1000000000
  · have d1 : decide (v < -1000000000) = true := by simpa using h1
    go_wp2
    go_ret
    exact ⟨rfl, rfl⟩
  · have d1 : decide (v < -1000000000) = false := by simpa using h1
    have d2 : decide (1000000000 < v) = true := by have := HV.out; simp; omega
    go_wp2
    go_ret
    exact ⟨rfl, rfl⟩
set_option maxHeartbeats 400000 in
theorem putC_ok (L B : Nat) (C : Jn.Con) (n : Nat) (v : Int) (w : World) (h : ConAt L w B C) (hn : n ≤ 99) (hv : Jn.isVal v = true) :
    Calls Tryd.prog 62 #[.pointer (some ⟨B, 0, none⟩), .int .i64 n, .int .i64 v] w fun e w' => e = .returned (.int .i64 0) ∧ ConAt L w' B (Jn.setC C n (some v)) ∧ Fr L [] (some B) w w' := by
  obtain ⟨c0, c1, f0, f1⟩ := con_cell h n (by omega)
  have hk : Jn.isKey n = true := by unfold Jn.isKey; simp; omega
  have hc := isKey_any n
  rw [hk] at hc
  have HC := hide hc
  have hset := con_set h n (by omega) (some v) (fun u hu => by cases hu; exact hv)
  have HS := hide hset
  have hv' : -1000000000 ≤ v ∧ v ≤ 1000000000 := by unfold Jn.isVal at hv; simpa using hv
  obtain ⟨v1, v2⟩ := hv'
  clear hc hk h hset hv
  generalize (C.cells.getD n none).isSome = b at *
  generalize (C.cells.getD n none).getD 0 = x at *
  go_enter Tryd.func62, Tryd.ntmps62
  go_wp2_with fail
  refine (HC.out _).mono ?_
  rintro e w1 ⟨rfl, rfl⟩
  go_wp2
  go_ret
  exact ⟨rfl, HS.out⟩
theorem putC_own (L B : Nat) (C : Jn.Con) (k v : Int) (w : World) (h : ConAt L w B C) :
    Calls Tryd.prog 62 #[.pointer (some ⟨B, 0, none⟩), .int .i64 k, .int .i64 v] w fun e w' => e = .returned (.int .i64 (Jn.put C k v).2) ∧ ConAt L w' B (Jn.put C k v).1 ∧ Fr L [] (some B) w w' := by
  unfold Jn.put
  cases hk : Jn.isKey k with
  | false =>
    refine (putC_key B k v w hk).mono fun e w' ⟨he, hw⟩ => ?_
    subst hw
    exact ⟨he, h, Fr.refl _ _ _ _⟩
  | true =>
    rw [if_neg (by simp)]
    cases hv : Jn.isVal v with
    | false =>
      refine (putC_val B k v w hk hv).mono fun e w' ⟨he, hw⟩ => ?_
      subst hw
      exact ⟨he, h, Fr.refl _ _ _ _⟩
    | true =>
      have h1 : 0 ≤ k ∧ k ≤ 99 := by unfold Jn.isKey at hk; simpa using hk
      obtain ⟨n, rfl⟩ := Int.eq_ofNat_of_zero_le h1.1
      exact putC_ok L B C n v w h (by omega) hv

set_option maxHeartbeats 400000 in
theorem delC_key (B : Nat) (k : Int) (w : World) (hk : Jn.isKey k = false) :
    Calls Tryd.prog 55 #[.pointer (some ⟨B, 0, none⟩), .int .i64 k] w fun e w' => e = .returned (.int .i64 5) ∧ w' = w := by
  have hc := isKey_any k
  rw [hk] at hc
  have HC := hide hc
  clear hc hk
  go_enter Tryd.func55, Tryd.ntmps55
  go_wp2_with fail
  refine (HC.out _).mono ?_
  rintro e w1 ⟨rfl, rfl⟩
  go_wp2
  go_ret
  exact ⟨rfl, rfl⟩
set_option maxHeartbeats 400000 in
theorem delC_ok (L B : Nat) (C : Jn.Con) (n : Nat) (w : World) (h : ConAt L w B C) (hn : n ≤ 99) :
    Calls Tryd.prog 55 #[.pointer (some ⟨B, 0, none⟩), .int .i64 n] w fun e w' => e = .returned (.int .i64 0) ∧ ConAt L w' B (Jn.setC C n none) ∧ Fr L [] (some B) w w' := by
  obtain ⟨c0, c1, f0, f1⟩ := con_cell h n (by omega)
  have hk : Jn.isKey n = true := by unfold Jn.isKey; simp; omega
  have hc := isKey_any n
  rw [hk] at hc
  have HC := hide hc
  have hset := con_set h n (by omega) none (fun u hu => by cases hu)
  have HS := hide hset
  clear hc hk h hset
  generalize (C.cells.getD n none).isSome = b at *
  generalize (C.cells.getD n none).getD 0 = x at *
  go_enter Tryd.func55, Tryd.ntmps55
  go_wp2_with fail
  refine (HC.out _).mono ?_
  rintro e w1 ⟨rfl, rfl⟩
  go_wp2
  go_ret
  exact ⟨rfl, HS.out⟩
theorem delC_own (L B : Nat) (C : Jn.Con) (k : Int) (w : World) (h : ConAt L w B C) :
    Calls Tryd.prog 55 #[.pointer (some ⟨B, 0, none⟩), .int .i64 k] w fun e w' => e = .returned (.int .i64 (Jn.del C k).2) ∧ ConAt L w' B (Jn.del C k).1 ∧ Fr L [] (some B) w w' := by
  unfold Jn.del
  cases hk : Jn.isKey k with
  | false =>
    refine (delC_key B k w hk).mono fun e w' ⟨he, hw⟩ => ?_
    subst hw
    exact ⟨he, h, Fr.refl _ _ _ _⟩
  | true =>
    have h1 : 0 ≤ k ∧ k ≤ 99 := by unfold Jn.isKey at hk; simpa using hk
    obtain ⟨n, rfl⟩ := Int.eq_ofNat_of_zero_le h1.1
    exact delC_ok L B C n w h (by omega)
theorem putC_any (L B : Nat) (C : Jn.Con) (k v : Int) (w : World) (h : ConAt L w B C) :
    Calls Tryd.prog 62 #[.pointer (some ⟨B, 0, none⟩), .int .i64 k, .int .i64 v] w fun e w' => e = .returned (.int .i64 (Jn.put C k v).2) ∧ ConAt L w' B (Jn.put C k v).1 ∧ Fr L [84] none w w' := by
  obtain ⟨cur, v0, hh, -⟩ := h.mem
  exact (putC_own L B C k v w h).mono fun e w' ⟨h1, h2, h3⟩ => ⟨h1, h2, h3.weak hh⟩
theorem delC_any (L B : Nat) (C : Jn.Con) (k : Int) (w : World) (h : ConAt L w B C) :
    Calls Tryd.prog 55 #[.pointer (some ⟨B, 0, none⟩), .int .i64 k] w fun e w' => e = .returned (.int .i64 (Jn.del C k).2) ∧ ConAt L w' B (Jn.del C k).1 ∧ Fr L [84] none w w' := by
  obtain ⟨cur, v0, hh, -⟩ := h.mem
  exact (delC_own L B C k w h).mono fun e w' ⟨h1, h2, h3⟩ => ⟨h1, h2, h3.weak hh⟩
end Go.Proofs.YtellilpeakpbfaaDoor
