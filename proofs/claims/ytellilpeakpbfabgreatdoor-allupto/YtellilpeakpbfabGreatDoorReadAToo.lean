import Derived.Test.YtellilpeakpbfabGreatDoorMarksToo
import Derived.Laws.IdiomStrings
import Derived.BigQuiet
import Derived.Test.YtellilpeakpbfabGreatDoorShPureToo
section
/-
  The walks of package contents: isKey, Put, Del.
-/
namespace Go.Proofs.YtellilpeakpbfabGreatDoor
open Go.RowKit

set_option maxHeartbeats 400000 in
theorem isKey_any (k : Int) (w : World) :
    Calls Tryz.prog 56 #[.int .i64 k] w fun e w' => e = .returned (.bool (Jn.isKey k)) ∧ w' = w := by
  go_enter Tryz.func56, Tryz.ntmps56
  go_wp2
  all_goals go_ret
  all_goals exact ⟨ret_bool (by unfold Jn.isKey; rw [Bool.eq_iff_iff]; simp; try omega), rfl⟩

theorem con_cell {L : Nat} {w : World} {B : Nat} {C : Jn.Con} (h : ConAt L w B C) (n : Nat) (hn : n < 100) :
    w.cell? ⟨B, n * 2, none⟩ = some (.bool (C.cells.getD n none).isSome) ∧ w.cell? ⟨B, n * 2 + 1, none⟩ = some (.int .i64 ((C.cells.getD n none).getD 0)) ∧ w.frozen? ⟨B, n * 2, none⟩ = false ∧ w.frozen? ⟨B, n * 2 + 1, none⟩ = false := by
  obtain ⟨cur, v, hh, hs, hc, hv, hp⟩ := h.mem
  have hg : C.cells[n]? = some (C.cells.getD n none) := by
    have hl := h.ok.len
    simp [List.getD, show n < C.cells.length by omega]
  obtain ⟨c1, c2⟩ := hc n _ hg
  exact ⟨(cell_of_row w B _ cur _ _ hh).trans c1, (cell_of_row w B _ cur _ _ hh).trans c2, frozen_of_row w B _ cur _ hh, frozen_of_row w B _ cur _ hh⟩
/-- a place is written. -/
theorem con_set {L : Nat} {w : World} {B : Nat} {C : Jn.Con} (h : ConAt L w B C) (n : Nat) (hn : n < 100) (o : Option Int) (ho : ∀ v, o = some v → Jn.isVal v = true) :
    ConAt L ((w.setCell ⟨B, n * 2, none⟩ (.bool o.isSome)).setCell ⟨B, n * 2 + 1, none⟩ (.int .i64 (o.getD 0))) B (Jn.setC C n o) ∧
    Fr L [] (some B) w ((w.setCell ⟨B, n * 2, none⟩ (.bool o.isSome)).setCell ⟨B, n * 2 + 1, none⟩ (.int .i64 (o.getD 0))) := by
  obtain ⟨cur, v, hh, hs, hc, hv, hp⟩ := h.mem
  have h1 := heap_setCell_same w B (n * 2) cur _ (.bool o.isSome) hh
  have h2 := heap_setCell_same (w.setCell ⟨B, n * 2, none⟩ (.bool o.isSome)) B (n * 2 + 1) _ _ (.int .i64 (o.getD 0)) h1
  have hoth : ∀ k, k ≠ B → ((w.setCell ⟨B, n * 2, none⟩ (.bool o.isSome)).setCell ⟨B, n * 2 + 1, none⟩ (.int .i64 (o.getD 0))).heap[k]? = w.heap[k]? := by
    intro k hk
    rw [heap_setCell_other _ _ _ _ (by simpa using hk), heap_setCell_other _ _ _ _ (by simpa using hk)]
  have hfr : Fr L [123] none w ((w.setCell ⟨B, n * 2, none⟩ (.bool o.isSome)).setCell ⟨B, n * 2 + 1, none⟩ (.int .i64 (o.getD 0))) := by
    refine ⟨((Below.refl L w).setCell (p := ⟨B, n * 2, none⟩) h.low _).setCell (p := ⟨B, n * 2 + 1, none⟩) h.low _, ?_⟩
    intro k cur' t z hk ht _
    rw [hoth k (fun e => ?_)]
    · exact hk
    · subst e; rw [hh] at hk; cases hk; simp at ht
  have hfs : Fr L [] (some B) w ((w.setCell ⟨B, n * 2, none⟩ (.bool o.isSome)).setCell ⟨B, n * 2 + 1, none⟩ (.int .i64 (o.getD 0))) :=
    ⟨hfr.below, fun k cur' t z hk _ hX => (hoth k (fun e => hX (by rw [e]))).trans hk⟩
  refine ⟨⟨h.low, ?_, _, v, h2, by simp [hs], ?_, ?_, ?_⟩, hfs⟩
  · exact h.ok.set _ _ ho
  · intro k p hk
    simp only [Jn.setC, Int.toNat_natCast, List.getElem?_set] at hk
    by_cases hkn : n = k
    · subst hkn
      rw [if_pos rfl, h.ok.len, if_pos hn] at hk
      cases hk
      constructor
      · rw [Array.getElem?_setIfInBounds, if_neg (by omega), Array.getElem?_setIfInBounds, if_pos rfl, if_pos (by omega)]
      · rw [Array.getElem?_setIfInBounds, if_pos rfl, if_pos (by simp; omega)]
    · rw [if_neg hkn] at hk
      obtain ⟨c1, c2⟩ := hc k p hk
      constructor
      · rw [Array.getElem?_setIfInBounds, if_neg (by omega), Array.getElem?_setIfInBounds, if_neg (by omega)]; exact c1
      · rw [Array.getElem?_setIfInBounds, if_neg (by omega), Array.getElem?_setIfInBounds, if_neg (by omega)]; exact c2
  · rw [Array.getElem?_setIfInBounds, if_neg (by omega), Array.getElem?_setIfInBounds, if_neg (by omega)]; exact hv
  · exact own_fr hp hfr (by decide) (.inl rfl)

set_option maxHeartbeats 400000 in
theorem putC_key (B : Nat) (k v : Int) (w : World) (hk : Jn.isKey k = false) :
    Calls Tryz.prog 35 #[.pointer (some ⟨B, 0, none⟩), .int .i64 k, .int .i64 v] w fun e w' => e = .returned (.int .i64 5) ∧ w' = w := by
  have hc := isKey_any k
  rw [hk] at hc
  have HC := hide hc
  clear hc hk
  go_enter Tryz.func35, Tryz.ntmps35
  go_wp2_with fail
  refine (HC.out _).mono ?_
  rintro e w1 ⟨rfl, rfl⟩
  go_wp2
  go_ret
  exact ⟨rfl, rfl⟩
set_option maxHeartbeats 400000 in
theorem putC_val (B : Nat) (k v : Int) (w : World) (hk : Jn.isKey k = true) (hv : Jn.isVal v = false) :
    Calls Tryz.prog 35 #[.pointer (some ⟨B, 0, none⟩), .int .i64 k, .int .i64 v] w fun e w' => e = .returned (.int .i64 6) ∧ w' = w := by
  have hc := isKey_any k
  rw [hk] at hc
  have HC := hide hc
  clear hc hk
  have hv' : ¬ (-1000000000 ≤ v ∧ v ≤ 1000000000) := by
    intro h; unfold Jn.isVal at hv; simp at hv; omega
  have HV := hide hv'
  clear hv hv'
  go_enter Tryz.func35, Tryz.ntmps35
  go_wp2_with fail
  refine (HC.out _).mono ?_
  rintro e w1 ⟨rfl, rfl⟩
  by_cases h1 : v < -1000000000
  · have d1 : decide (v < -1000000000) = true := by simpa using h1
    go_wp2
    go_ret
    exact ⟨rfl, rfl⟩
  · have d1 : decide (v < -1000000000) = false := by simpa using h1
    have d2 : decide (1000000000 < v) = true := by have := HV.out; simp; omega
    go_wp2
    go_ret
    exact ⟨rfl, rfl⟩
set_option maxHeartbeats 400000 in
theorem putC_ok (L B : Nat) (C : Jn.Con) (n : Nat) (v : Int) (w : World) (h : ConAt L w B C) (hn : n ≤ 99) (hv : Jn.isVal v = true) :
    Calls Tryz.prog 35 #[.pointer (some ⟨B, 0, none⟩), .int .i64 n, .int .i64 v] w fun e w' => e = .returned (.int .i64 0) ∧ ConAt L w' B (Jn.setC C n (some v)) ∧ Fr L [] (some B) w w' := by
  obtain ⟨c0, c1, f0, f1⟩ := con_cell h n (by omega)
  have hk : Jn.isKey n = true := by unfold Jn.isKey; simp; omega
  have hc := isKey_any n
  rw [hk] at hc
  have HC := hide hc
  have hset := con_set h n (by omega) (some v) (fun u hu => by cases hu; exact hv)
  have HS := hide hset
  have hv' : -1000000000 ≤ v ∧ v ≤ 1000000000 := by unfold Jn.isVal at hv; simpa using hv
  obtain ⟨v1, v2⟩ := hv'
  clear hc hk h hset hv
  generalize (C.cells.getD n none).isSome = b at *
  generalize (C.cells.getD n none).getD 0 = x at *
  go_enter Tryz.func35, Tryz.ntmps35
  go_wp2_with fail
  refine (HC.out _).mono ?_
  rintro e w1 ⟨rfl, rfl⟩
  go_wp2
  go_ret
  exact ⟨rfl, HS.out⟩
theorem putC_own (L B : Nat) (C : Jn.Con) (k v : Int) (w : World) (h : ConAt L w B C) :
    Calls Tryz.prog 35 #[.pointer (some ⟨B, 0, none⟩), .int .i64 k, .int .i64 v] w fun e w' => e = .returned (.int .i64 (Jn.put C k v).2) ∧ ConAt L w' B (Jn.put C k v).1 ∧ Fr L [] (some B) w w' := by
  unfold Jn.put
  cases hk : Jn.isKey k with
  | false =>
    refine (putC_key B k v w hk).mono fun e w' ⟨he, hw⟩ => ?_
    subst hw
    exact ⟨he, h, Fr.refl _ _ _ _⟩
  | true =>
    rw [if_neg (by simp)]
    cases hv : Jn.isVal v with
    | false =>
      refine (putC_val B k v w hk hv).mono fun e w' ⟨he, hw⟩ => ?_
      subst hw
      exact ⟨he, h, Fr.refl _ _ _ _⟩
    | true =>
      have h1 : 0 ≤ k ∧ k ≤ 99 := by unfold Jn.isKey at hk; simpa using hk
      obtain ⟨n, rfl⟩ := Int.eq_ofNat_of_zero_le h1.1
      exact putC_ok L B C n v w h (by omega) hv

set_option maxHeartbeats 400000 in
theorem delC_key (B : Nat) (k : Int) (w : World) (hk : Jn.isKey k = false) :
    Calls Tryz.prog 81 #[.pointer (some ⟨B, 0, none⟩), .int .i64 k] w fun e w' => e = .returned (.int .i64 5) ∧ w' = w := by
  have hc := isKey_any k
  rw [hk] at hc
  have HC := hide hc
  clear hc hk
  go_enter Tryz.func81, Tryz.ntmps81
  go_wp2_with fail
  refine (HC.out _).mono ?_
  rintro e w1 ⟨rfl, rfl⟩
  go_wp2
  go_ret
  exact ⟨rfl, rfl⟩
set_option maxHeartbeats 400000 in
theorem delC_ok (L B : Nat) (C : Jn.Con) (n : Nat) (w : World) (h : ConAt L w B C) (hn : n ≤ 99) :
    Calls Tryz.prog 81 #[.pointer (some ⟨B, 0, none⟩), .int .i64 n] w fun e w' => e = .returned (.int .i64 0) ∧ ConAt L w' B (Jn.setC C n none) ∧ Fr L [] (some B) w w' := by
  obtain ⟨c0, c1, f0, f1⟩ := con_cell h n (by omega)
  have hk : Jn.isKey n = true := by unfold Jn.isKey; simp; omega
  have hc := isKey_any n
  rw [hk] at hc
  have HC := hide hc
  have hset := con_set h n (by omega) none (fun u hu => by cases hu)
  have HS := hide hset
  clear hc hk h hset
  generalize (C.cells.getD n none).isSome = b at *
  generalize (C.cells.getD n none).getD 0 = x at *
  go_enter Tryz.func81, Tryz.ntmps81
  go_wp2_with fail
  refine (HC.out _).mono ?_
  rintro e w1 ⟨rfl, rfl⟩
  go_wp2
  go_ret
  exact ⟨rfl, HS.out⟩
theorem delC_own (L B : Nat) (C : Jn.Con) (k : Int) (w : World) (h : ConAt L w B C) :
    Calls Tryz.prog 81 #[.pointer (some ⟨B, 0, none⟩), .int .i64 k] w fun e w' => e = .returned (.int .i64 (Jn.del C k).2) ∧ ConAt L w' B (Jn.del C k).1 ∧ Fr L [] (some B) w w' := by
  unfold Jn.del
  cases hk : Jn.isKey k with
  | false =>
    refine (delC_key B k w hk).mono fun e w' ⟨he, hw⟩ => ?_
    subst hw
    exact ⟨he, h, Fr.refl _ _ _ _⟩
  | true =>
    have h1 : 0 ≤ k ∧ k ≤ 99 := by unfold Jn.isKey at hk; simpa using hk
    obtain ⟨n, rfl⟩ := Int.eq_ofNat_of_zero_le h1.1
    exact delC_ok L B C n w h (by omega)
theorem putC_any (L B : Nat) (C : Jn.Con) (k v : Int) (w : World) (h : ConAt L w B C) :
    Calls Tryz.prog 35 #[.pointer (some ⟨B, 0, none⟩), .int .i64 k, .int .i64 v] w fun e w' => e = .returned (.int .i64 (Jn.put C k v).2) ∧ ConAt L w' B (Jn.put C k v).1 ∧ Fr L [123] none w w' := by
  obtain ⟨cur, v0, hh, -⟩ := h.mem
  exact (putC_own L B C k v w h).mono fun e w' ⟨h1, h2, h3⟩ => ⟨h1, h2, h3.weak hh⟩
theorem delC_any (L B : Nat) (C : Jn.Con) (k : Int) (w : World) (h : ConAt L w B C) :
    Calls Tryz.prog 81 #[.pointer (some ⟨B, 0, none⟩), .int .i64 k] w fun e w' => e = .returned (.int .i64 (Jn.del C k).2) ∧ ConAt L w' B (Jn.del C k).1 ∧ Fr L [123] none w w' := by
  obtain ⟨cur, v0, hh, -⟩ := h.mem
  exact (delC_own L B C k w h).mono fun e w' ⟨h1, h2, h3⟩ => ⟨h1, h2, h3.weak hh⟩
end Go.Proofs.YtellilpeakpbfabGreatDoor

end

section
/-
  The walks of package contents: isName, copied, others, Procs, Cells.
-/
namespace Go.Proofs.YtellilpeakpbfabGreatDoor
open Go.RowKit

theorem ltB_less (a b : List UInt8) : Jn.ltB a b = Op.bytesLess a b := by
  induction a generalizing b with
  | nil => cases b <;> rfl
  | cons c x ih =>
    cases b with
    | nil => rfl
    | cons d y =>
      unfold Jn.ltB Op.bytesLess
      by_cases h : c = d
      · subst h
        rw [if_pos rfl, ih y]
        simp
      · rw [if_neg h]
        have h1 : (c == d) = false := by simpa using h
        rw [h1]
        simp [UInt8.lt_iff_toNat_lt]

theorem all_take (p : UInt8 → Bool) (s : ByteArray) (k : Nat) (hlt : k < s.size) (h : p s[k] = false) : s.data.toList.all p = false := by
  have h1 : s[k] ∈ s.data.toList := by rw [← List.take_append_drop (k + 1) s.data.toList, take_snoc s k hlt]; simp
  rw [Bool.eq_false_iff]
  intro ha
  rw [List.all_eq_true] at ha
  rw [ha _ h1] at h; cases h

set_option maxHeartbeats 400000 in
theorem isName_any (s : ByteArray) (w : World) :
    Calls Tryz.prog 87 #[.string s] w fun e w' => e = .returned (.bool (Jn.isName s.data.toList)) ∧ w' = w := by
  have hl : s.data.toList.length = s.size := by simp
  by_cases h0 : 1 ≤ s.size ∧ s.size ≤ 8
  · obtain ⟨h1, h2⟩ := h0
    have HN : Hid (Jn.isName s.data.toList = s.data.toList.all (fun c => decide (97 ≤ c.toNat) && decide (c.toNat ≤ 122))) := by
      show _ = _
      unfold Jn.isName
      rw [hl]
      simp [h1, h2]
    have t1 : (((s.size : Int)) == 0) = false := beq_eq_false_iff_ne.2 (by omega)
    have t2 : decide (8 < (s.size : Int)) = false := by simp; omega
    clear hl
    go_enter Tryz.func87, Tryz.ntmps87
    go_wp2
    go_loop [3] (fun i => ∃ k : Nat, k ≤ s.size ∧ i = .int .i64 k ∧ (∀ c ∈ s.data.toList.take k, (decide (97 ≤ c.toNat) && decide (c.toNat ≤ 122)) = true)) (fun i => s.size - (intOf i).toNat)
    case atStart => exact ⟨0, Nat.zero_le _, rfl, by simp⟩
    case round =>
      obtain ⟨k, hk, rfl, hd⟩ := hrel
      have HD := hide hd
      clear hd
      by_cases hlt : k < s.size
      · have hc : (0 : Int) ≤ s[k].toNat ∧ (s[k].toNat : Int) ≤ 255 := by have := s[k].toNat_lt; omega
        obtain ⟨hc0, hc1⟩ := hc
        by_cases hg : 97 ≤ (s[k].toNat : Int) ∧ (s[k].toNat : Int) ≤ 122
        · obtain ⟨g1, g2⟩ := hg
          have HS := hide (take_snoc s k hlt)
          have HI : Hid ((decide (97 ≤ s[k].toNat) && decide (s[k].toNat ≤ 122)) = true) := by show _ = _; simp; omega
          go_wp2
          go_round
          case rel =>
            refine ⟨k + 1, by omega, by go_num, ?_⟩
            rw [HS.out]
            intro c hc
            rcases List.mem_append.1 hc with h | h
            · exact HD.out c h
            · simp at h; rw [h]; exact HI.out
          case measure => simp [intOf]; omega
        · have HF : Hid (Jn.isName s.data.toList = false) := by
            show _ = _
            rw [HN.out]
            exact all_take _ s k hlt (by simp; omega)
          go_wp2
          all_goals go_ret
          all_goals exact ⟨ret_bool HF.out.symm, rfl⟩
      · have HT := hide (take_all s k hlt)
        go_wp2
        go_ret
        refine ⟨ret_bool ?_, rfl⟩
        rw [HN.out, eq_comm, List.all_eq_true]
        have hd := HD.out
        rw [HT.out] at hd
        exact hd
  · have HF : Hid (Jn.isName s.data.toList = false) := by
      show _ = _
      unfold Jn.isName
      rw [hl, Bool.eq_false_iff]
      intro h
      simp at h; omega
    clear hl
    by_cases hz : s.size = 0
    · have t1 : (((s.size : Int)) == 0) = true := beq_iff_eq.2 (by omega)
      go_enter Tryz.func87, Tryz.ntmps87
      go_wp2
      all_goals go_ret
      all_goals exact ⟨ret_bool HF.out.symm, rfl⟩
    · have t1 : (((s.size : Int)) == 0) = false := beq_eq_false_iff_ne.2 (by omega)
      have t2 : decide (8 < (s.size : Int)) = true := by simp; omega
      go_enter Tryz.func87, Tryz.ntmps87
      go_wp2
      all_goals go_ret
      all_goals exact ⟨ret_bool HF.out.symm, rfl⟩

theorem con_procs {L : Nat} {w : World} {B : Nat} {C : Jn.Con} (h : ConAt L w B C) :
    ∃ v, w.cell? ⟨B, 200, none⟩ = some v ∧ w.frozen? ⟨B, 200, none⟩ = false ∧ PRow w 0 v C.procs := by
  obtain ⟨cur, v, hh, hs, hc, hv, hp⟩ := h.mem
  exact ⟨v, (cell_of_row w B _ cur _ _ hh).trans hv, frozen_of_row w B _ cur _ hh, hp⟩
theorem grow_below {w wr w7 : World} {N n size : Nat} {e : TypeId} {v : Value} {xs : List Value} {o : Obj} (hb : Below N w wr) (hN : N ≤ wr.heap.size) (hown : wr.ownsRow N e size v n xs) (hg : (wr.alloc o).grownBy w7 v.ownBlock) : Below N w w7 :=
  (hb.alloc hN o).grown hg (by simp; omega) (fun j hj => (hown.lt j hj).1)
theorem others_take (ps : List (List UInt8 × List UInt8)) (n : List UInt8) (k : Nat) (p : List UInt8 × List UInt8) (h : ps[k]? = some p) : Jn.others (ps.take (k + 1)) n = Jn.others (ps.take k) n ++ (if p.1 = n then [] else [p]) := by
  have hk : k < ps.length := (List.getElem?_eq_some_iff.1 h).1
  have e : ps[k] = p := (List.getElem?_eq_some_iff.1 h).2
  unfold Jn.others
  rw [List.take_succ_eq_append_getElem hk, List.filter_append, e]
  congr 1
  by_cases hp : p.1 = n
  · simp [hp]
  · simp [hp]

def OtRel (w : World) (ps : List (List UInt8 × List UInt8)) (n : List UInt8) (v i : Value) (wr : World) : Prop :=
  ∃ k : Nat, k ≤ ps.length ∧ i = .int .i64 k ∧ PRow wr w.heap.size v (Jn.others (ps.take k) n) ∧ Below w.heap.size w wr
def PrRel (w : World) (ps : List (List UInt8 × List UInt8)) (v i : Value) (wr : World) : Prop :=
  ∃ k : Nat, k ≤ ps.length ∧ i = .int .i64 k ∧ PRow wr w.heap.size v (ps.take k) ∧ Below w.heap.size w wr

set_option maxHeartbeats 1000000 in
set_option maxRecDepth 100000 in
theorem others_any (L B : Nat) (C : Jn.Con) (s : ByteArray) (w : World) (h : ConAt L w B C) :
    Calls Tryz.prog 86 #[.pointer (some ⟨B, 0, none⟩), .string s] w fun e w' => ∃ v, e = .returned v ∧ PRow w' w.heap.size v (Jn.others C.procs s.data.toList) ∧ Below w.heap.size w w' := by
  obtain ⟨v0, hc200, hf200, hrow⟩ := con_procs h
  obtain ⟨ao, cap, rfl, hcells⟩ := hrow.shape
  have hcnt := h.ok.cnt
  have hlt := h.lt
  have HRW := hide hcells
  clear hrow hcells h
  generalize C.procs = ps at *
  obtain ⟨i0, hi, hz0, hz1, hz2⟩ := info_parts Tryz.infoProc
  go_enter Tryz.func86, Tryz.ntmps86
  go_wp2
  go_loopw [5, 6] (fun v i wr => OtRel w ps s.data.toList v i wr) (fun _ i _ => ps.length - (intOf i).toNat)
  case atStart => exact ⟨0, Nat.zero_le _, rfl, World.ownsRow_nil _ _ _ _, Below.refl _ _⟩
  case round =>
    obtain ⟨k, hk, rfl, hown, hbel⟩ := hrel
    have c200 : wr.cell? ⟨B, 200, none⟩ = some (.slice ao ps.length cap) := (hbel.cell (p := ⟨B, 200, none⟩) hlt).trans hc200
    have HO := hide hown
    have HB := hide hbel
    have hln : (Jn.others (List.take k ps) s.data.toList).length ≤ k := Nat.le_trans (Jn.others_sub _ _) (by simp; omega)
    have hwz := hbel.size
    clear hown hbel hc200 hf200
    by_cases hlk : k < ps.length
    · obtain ⟨g, cur, rfl, hg0, hg, hcells⟩ := HRW.out (by omega)
      obtain ⟨p, hp⟩ : ∃ p, ps[k]? = some p := ⟨ps[k], by simp [hlk]⟩
      obtain ⟨c1, c2⟩ := hcells k p hp
      have hgl : g < w.heap.size := (Array.getElem?_eq_some_iff.1 hg).1
      have d1 : wr.cell? ⟨g, k * 2, none⟩ = some (T p.1) := (HB.out.cell (p := ⟨g, k * 2, none⟩) hgl).trans c1
      have d2 : wr.cell? ⟨g, k * 2 + 1, none⟩ = some (T p.2) := (HB.out.cell (p := ⟨g, k * 2 + 1, none⟩) hgl).trans c2
      have HK := hide (others_take ps s.data.toList k p hp)
      clear hcells c1 c2 hp hg hg0
      obtain ⟨p1, p2⟩ := p
      simp only [T] at d1 d2
      obtain ⟨q1, hq1⟩ : ∃ q : ByteArray, q = ⟨p1.toArray⟩ := ⟨_, rfl⟩
      obtain ⟨q2, hq2⟩ : ∃ q : ByteArray, q = ⟨p2.toArray⟩ := ⟨_, rfl⟩
      rw [← hq1] at d1
      rw [← hq2] at d2
      have HQ1 := hide hq1
      have HQ2 := hide hq2
      clear hq1 hq2
      cases ht : (q1.toList == s.toList) with
      | true =>
        have HE : Hid (p1 = s.data.toList) := by
          show _ = _
          rw [ByteArray.toList_eq, ByteArray.toList_eq, HQ1.out] at ht
          simpa using ht
        go_wp2
        go_roundw
        case rel => exact ⟨k + 1, by omega, by go_num, by rw [HK.out, if_pos HE.out, List.append_nil]; exact HO.out, HB.out⟩
        case measure => simp [intOf]; omega
      | false =>
        have HE : Hid (p1 ≠ s.data.toList) := by
          show _ ≠ _
          rw [ByteArray.toList_eq, ByteArray.toList_eq, HQ1.out] at ht
          simpa using ht
        go_wp2_with (at_builtin; refine wpList_append_own _ rfl (.tmp 26) (.tmp 34) 54 rfl w.heap.size 89 i0 (.agg #[.string ⟨#[]⟩, .string ⟨#[]⟩]) 2 32 Tryz.underlying54 hi hz0 hz1 hz2 rfl (by decide) _ _ _ rfl (HO.out.alloc _) ⟨_, 0, none⟩ 1 1 [.string q1, .string q2] rfl rfl ?c1 ?c2 ?c3 ?c4 ?c5 ?_)
        try (case c1 => exact cell_two_new _ _ _ _)
        case c2 => first | exact ⟨rfl, rfl⟩ | (intro u hu; simp at hu; rcases hu with rfl | rfl <;> rfl)
        case c3 => unfold maxLen; omega
        case c4 => omega
        case c5 => first | omega | (simp; omega)
        intro v' w7 hown' hgrow _
        have HR : Hid (OtRel w ps s.data.toList v' (.int .i64 ((k : Int) + 1)) w7) := by
          refine ⟨k + 1, by omega, by go_num, ?_, grow_below HB.out (by omega) HO.out hgrow⟩
          rw [HK.out, if_neg HE.out]
          refine PRow.snoc ?_
          rw [HQ1.out, HQ2.out] at hown'
          exact hown'
        clear hown' hgrow
        go_wp2
        go_roundw
        case rel => exact HR.out
        case measure => simp [intOf]; omega
    · go_wp2
      go_ret
      have e := HO.out
      rw [List.take_of_length_le (by omega)] at e
      exact ⟨_, rfl, e, HB.out⟩

set_option maxHeartbeats 1000000 in
set_option maxRecDepth 100000 in
theorem procsC_any (L B : Nat) (C : Jn.Con) (w : World) (h : ConAt L w B C) :
    Calls Tryz.prog 48 #[.pointer (some ⟨B, 0, none⟩)] w fun e w' => ∃ v, e = .returned v ∧ PRow w' w.heap.size v C.procs ∧ Below w.heap.size w w' := by
  obtain ⟨v0, hc200, hf200, hrow⟩ := con_procs h
  obtain ⟨ao, cap, rfl, hcells⟩ := hrow.shape
  have hcnt := h.ok.cnt
  have hlt := h.lt
  have HRW := hide hcells
  clear hrow hcells h
  generalize C.procs = ps at *
  obtain ⟨i0, hi, hz0, hz1, hz2⟩ := info_parts Tryz.infoProc
  go_enter Tryz.func48, Tryz.ntmps48
  go_wp2
  go_loopw [3, 4] (fun v i wr => PrRel w ps v i wr) (fun _ i _ => ps.length - (intOf i).toNat)
  case atStart => exact ⟨0, Nat.zero_le _, rfl, World.ownsRow_nil _ _ _ _, Below.refl _ _⟩
  case round =>
    obtain ⟨k, hk, rfl, hown, hbel⟩ := hrel
    have c200 : wr.cell? ⟨B, 200, none⟩ = some (.slice ao ps.length cap) := (hbel.cell (p := ⟨B, 200, none⟩) hlt).trans hc200
    have HO := hide hown
    have HB := hide hbel
    have hln : (List.take k ps).length = k := by simp; omega
    have hwz := hbel.size
    clear hown hbel hc200 hf200
    by_cases hlk : k < ps.length
    · obtain ⟨g, cur, rfl, hg0, hg, hcells⟩ := HRW.out (by omega)
      obtain ⟨p, hp⟩ : ∃ p, ps[k]? = some p := ⟨ps[k], by simp [hlk]⟩
      obtain ⟨c1, c2⟩ := hcells k p hp
      have hgl : g < w.heap.size := (Array.getElem?_eq_some_iff.1 hg).1
      have d1 : wr.cell? ⟨g, k * 2, none⟩ = some (T p.1) := (HB.out.cell (p := ⟨g, k * 2, none⟩) hgl).trans c1
      have d2 : wr.cell? ⟨g, k * 2 + 1, none⟩ = some (T p.2) := (HB.out.cell (p := ⟨g, k * 2 + 1, none⟩) hgl).trans c2
      have HK : Hid (ps.take (k + 1) = ps.take k ++ [p]) := by
        show _ = _
        rw [List.take_succ_eq_append_getElem hlk]
        congr 2
        exact (List.getElem?_eq_some_iff.1 hp).2
      clear hcells c1 c2 hp hg hg0
      obtain ⟨p1, p2⟩ := p
      simp only [T] at d1 d2
      obtain ⟨q1, hq1⟩ : ∃ q : ByteArray, q = ⟨p1.toArray⟩ := ⟨_, rfl⟩
      obtain ⟨q2, hq2⟩ : ∃ q : ByteArray, q = ⟨p2.toArray⟩ := ⟨_, rfl⟩
      rw [← hq1] at d1
      rw [← hq2] at d2
      have HQ1 := hide hq1
      have HQ2 := hide hq2
      clear hq1 hq2
      go_wp2_with (at_builtin; refine wpList_append_own _ rfl (.tmp 14) (.tmp 22) 54 rfl w.heap.size 89 i0 (.agg #[.string ⟨#[]⟩, .string ⟨#[]⟩]) 2 32 Tryz.underlying54 hi hz0 hz1 hz2 rfl (by decide) _ _ _ rfl (HO.out.alloc _) ⟨_, 0, none⟩ 1 1 [.string q1, .string q2] rfl rfl ?c1 ?c2 ?c3 ?c4 ?c5 ?_)
      case c1 => exact cell_two_new _ _ _ _
      case c2 => first | exact ⟨rfl, rfl⟩ | (intro u hu; simp at hu; rcases hu with rfl | rfl <;> rfl)
      case c3 => unfold maxLen; omega
      case c4 => omega
      case c5 => first | omega | (simp; omega)
      intro v' w7 hown' hgrow _
      have HR : Hid (PrRel w ps v' (.int .i64 ((k : Int) + 1)) w7) := by
        refine ⟨k + 1, by omega, by go_num, ?_, grow_below HB.out (by omega) HO.out hgrow⟩
        rw [HK.out]
        refine PRow.snoc ?_
        rw [HQ1.out, HQ2.out, ← List.map_take] at hown'
        rw [hln]
        exact hown'
      clear hown' hgrow
      go_wp2
      go_roundw
      case rel => exact HR.out
      case measure => simp [intOf]; omega
    · go_wp2
      go_ret
      have e := HO.out
      rw [List.take_of_length_le (by omega)] at e
      exact ⟨_, rfl, e, HB.out⟩
end Go.Proofs.YtellilpeakpbfabGreatDoor

end

section
/-
  The walks of package contents: Cells, copied, inserted.
-/
namespace Go.Proofs.YtellilpeakpbfabGreatDoor
open Go.RowKit

theorem list_snoc (l : List (Option Int)) (o : Option Int) : ∀ j, Jn.listFrom j (l ++ [o]) = Jn.listFrom j l ++ (match o with | some v => [(((j + l.length : Nat) : Int), v)] | none => []) := by
  induction l with
  | nil => intro j; cases o <;> simp [Jn.listFrom]
  | cons a r ih =>
    intro j
    cases a with
    | none =>
      rw [List.cons_append, Jn.listFrom, Jn.listFrom, ih]
      simp only [List.length_cons]
      rw [show j + 1 + r.length = j + (r.length + 1) by omega]
    | some v =>
      rw [List.cons_append, Jn.listFrom, Jn.listFrom, ih]
      simp only [List.length_cons]
      rw [show j + 1 + r.length = j + (r.length + 1) by omega]
      rfl
theorem list_len (l : List (Option Int)) : ∀ j, (Jn.listFrom j l).length ≤ l.length := by
  induction l with
  | nil => intro j; simp [Jn.listFrom]
  | cons a r ih =>
    intro j
    have := ih (j + 1)
    cases a <;> simp [Jn.listFrom] <;> omega

def CeRel (w : World) (cs : List (Option Int)) (v i : Value) (wr : World) : Prop :=
  ∃ k : Nat, k ≤ 100 ∧ i = .int .i64 k ∧ CRow wr w.heap.size v (Jn.listFrom 0 (cs.take k)) ∧ Below w.heap.size w wr

set_option maxHeartbeats 1000000 in
set_option maxRecDepth 100000 in
theorem cellsC_any (L B : Nat) (C : Jn.Con) (w : World) (h : ConAt L w B C) :
    Calls Tryz.prog 47 #[.pointer (some ⟨B, 0, none⟩)] w fun e w' => ∃ v, e = .returned v ∧ CRow w' w.heap.size v C.list ∧ Below w.heap.size w w' := by
  have hc : ∀ n, n < 100 → w.cell? ⟨B, n * 2, none⟩ = some (.bool (C.cells.getD n none).isSome) ∧ w.cell? ⟨B, n * 2 + 1, none⟩ = some (.int .i64 ((C.cells.getD n none).getD 0)) := fun n hn => ⟨(con_cell h n hn).1, (con_cell h n hn).2.1⟩
  have hlen := h.ok.len
  have hlt := h.lt
  have HC := hide hc
  have HLEN := hide hlen
  unfold Jn.Con.list
  clear hc h hlen
  generalize C.cells = cs at *
  obtain ⟨i0, hi, hz0, hz1, hz2⟩ := info_parts Tryz.infoCell
  go_enter Tryz.func47, Tryz.ntmps47
  go_wp2
  go_loopw [3, 4] (fun v i wr => CeRel w cs v i wr) (fun _ i _ => 100 - (intOf i).toNat)
  case atStart => exact ⟨0, Nat.zero_le _, rfl, World.ownsRow_nil _ _ _ _, Below.refl _ _⟩
  case round =>
    obtain ⟨k, hk, rfl, hown, hbel⟩ := hrel
    have hln : (Jn.listFrom 0 (List.take k cs)).length ≤ k := Nat.le_trans (list_len _ _) (by simp; omega)
    have HO := hide hown
    have HB := hide hbel
    have hwz := hbel.size
    clear hown hbel
    by_cases hlk : k < 100
    · obtain ⟨c0, c1⟩ := HC.out k hlk
      have d0 := (HB.out.cell (p := ⟨B, k * 2, none⟩) hlt).trans c0
      have d1 := (HB.out.cell (p := ⟨B, k * 2 + 1, none⟩) hlt).trans c1
      have hcs := HLEN.out
      have HK : Hid (Jn.listFrom 0 (cs.take (k + 1)) = Jn.listFrom 0 (cs.take k) ++ (match cs.getD k none with | some v => [((k : Int), v)] | none => [])) := by
        show _ = _
        rw [List.take_succ_eq_append_getElem (by omega), list_snoc]
        have e : cs.getD k none = cs[k] := by simp [List.getD, show k < cs.length by omega]
        rw [e]
        have e2 : 0 + (cs.take k).length = k := by simp; omega
        rw [e2]
      clear c0 c1 hcs
      generalize cs.getD k none = o at *
      cases o with
      | none =>
        simp only [Option.isSome_none] at d0
        go_wp2
        go_roundw
        case rel => exact ⟨k + 1, by omega, by go_num, by rw [HK.out]; simpa using HO.out, HB.out⟩
        case measure => simp [intOf]; omega
      | some x =>
        simp only [Option.isSome_some] at d0
        simp only [Option.getD_some] at d1
        go_wp2_with (at_builtin; refine wpList_append_own _ rfl (.tmp 16) (.tmp 26) 52 rfl w.heap.size 99 i0 (.agg #[.int .i64 0, .int .i64 0]) 2 16 Tryz.underlying52 hi hz0 hz1 hz2 rfl (by decide) _ _ _ rfl (HO.out.alloc _) ⟨_, 0, none⟩ 1 1 [.int .i64 k, .int .i64 x] rfl rfl ?c1 ?c2 ?c3 ?c4 ?c5 ?_)
        try (case c1 => exact cell_two_new _ _ _ _)
        case c2 => first | exact ⟨rfl, rfl⟩ | (intro u hu; simp at hu; rcases hu with rfl | rfl <;> rfl)
        case c3 => unfold maxLen; omega
        case c4 => omega
        case c5 => first | omega | (simp; omega)
        intro v' w7 hown' hgrow _
        have HR : Hid (CeRel w cs v' (.int .i64 ((k : Int) + 1)) w7) := by
          refine ⟨k + 1, by omega, by go_num, ?_, grow_below HB.out (by omega) HO.out hgrow⟩
          rw [HK.out]
          refine CRow.snoc ?_
          exact hown'
        clear hown' hgrow
        go_wp2
        go_roundw
        case rel => exact HR.out
        case measure => simp [intOf]; omega
    · have hcs := HLEN.out
      go_wp2
      go_ret
      have e := HO.out
      rw [List.take_of_length_le (by omega)] at e
      exact ⟨_, rfl, e, HB.out⟩

theorem below_drewN {B : Nat} {a w : World} (h : Below B a w) (n : Nat) : Below B a (w.drewN n) := ⟨h.os, h.tape, h.output, h.size, h.block⟩
theorem own_drewN {w : World} {b : Nat} {e : TypeId} {size : Nat} {v : Value} {n : Nat} {xs : List Value} (h : w.ownsRow b e size v n xs) (k : Nat) : (w.drewN k).ownsRow b e size v n xs := h

theorem insert_at (ps : List (List UInt8 × List UInt8)) (q : List UInt8 × List UInt8) : ∀ k, k ≤ ps.length → (∀ p ∈ ps.take k, Jn.ltB p.1 q.1 = true) → (∀ p, ps[k]? = some p → Jn.ltB p.1 q.1 = false) → Jn.insertP ps q = ps.take k ++ [q] ++ ps.drop k := by
  induction ps with
  | nil => intro k hk _ _; simp at hk; subst hk; rfl
  | cons a r ih =>
    intro k hk h1 h2
    cases k with
    | zero =>
      have := h2 a rfl
      unfold Jn.insertP
      rw [this]; rfl
    | succ k =>
      have ha := h1 a (by simp)
      unfold Jn.insertP
      rw [if_pos ha, ih k (by simpa using hk) (fun p hp => h1 p (by simp [hp])) (fun p hp => h2 p (by simpa using hp))]
      simp

def I1Rel (w : World) (ps : List (List UInt8 × List UInt8)) (n : List UInt8) (v i : Value) (wr : World) : Prop :=
  ∃ k : Nat, k ≤ ps.length ∧ i = .int .i64 k ∧ PRow wr w.heap.size v (ps.take k) ∧ Below w.heap.size w wr ∧ (∀ p ∈ ps.take k, Jn.ltB p.1 n = true)
def I2Rel (w : World) (ps : List (List UInt8 × List UInt8)) (q : List UInt8 × List UInt8) (k : Nat) (v i : Value) (wr : World) : Prop :=
  ∃ j : Nat, k ≤ j ∧ j ≤ ps.length ∧ i = .int .i64 j ∧ PRow wr w.heap.size v (ps.take k ++ [q] ++ (ps.drop k).take (j - k)) ∧ Below w.heap.size w wr

theorem rest_snoc (ps : List (List UInt8 × List UInt8)) (k j : Nat) (hk : k ≤ j) (p : List UInt8 × List UInt8) (h : ps[j]? = some p) : (ps.drop k).take (j + 1 - k) = (ps.drop k).take (j - k) ++ [p] := by
  have hj : j < ps.length := (List.getElem?_eq_some_iff.1 h).1
  rw [show j + 1 - k = (j - k) + 1 by omega, List.take_succ_eq_append_getElem (by simp; omega)]
  congr 2
  rw [List.getElem_drop]
  have := (List.getElem?_eq_some_iff.1 h).2
  rw [← this]
  congr 1
  omega
end Go.Proofs.YtellilpeakpbfabGreatDoor

end

section
/-
  The walk of Read, of every text.
-/
namespace Go.Proofs.YtellilpeakpbfabGreatDoor
open Go.RowKit

set_option maxHeartbeats 400000 in
theorem read_long (s : ByteArray) (w : World) (hs : 400 < s.size) :
    Calls Tryz.prog 66 #[.string s] w fun e w' => e = .returned (.tuple #[.slice none 0 0, .int .i64 0, .int .i64 1]) ∧ w' = w := by
  have hd4 : (400 : Int) < (s.size : Int) := by omega
  go_enter Tryz.func66, Tryz.ntmps66
  go_wp2
  go_ret3
  exact ⟨rfl, rfl⟩
theorem read_any (s : ByteArray) (w : World) (hW : WordsAt w) :
    Calls Tryz.prog 66 #[.string s] w fun e w' => ∃ v, e = .returned (.tuple #[v, .int .i64 (Ck.read s.data.toList).1, .int .i64 (Ck.read s.data.toList).2]) ∧ Below w.heap.size w w' ∧
      ((Ck.read s.data.toList).2 = 0 → w'.ownsRow w.heap.size 165 2 v (Ck.toks s.data.toList).length (cellsOf (Ck.toks s.data.toList))) := by
  have hl : s.data.toList.length = s.size := by simp
  by_cases hs : s.size ≤ 400
  · rw [Ck.read, if_neg (by omega)]
    exact read_short s w hs hW
  · rw [Ck.read, if_pos (by omega)]
    exact (read_long s w (by omega)).mono fun e w' ⟨he, hw⟩ => ⟨_, he, by rw [hw]; exact Below.refl _ _, fun h => by simp at h⟩
end Go.Proofs.YtellilpeakpbfabGreatDoor

end
