import Derived.Test.YtellilpeakpbfaaDoorContP
/-
  The walks of package contents: Cells, copied, inserted.
-/
namespace Go.Proofs.YtellilpeakpbfaaDoor
open Go.RowKit

theorem list_snoc (l : List (Option Int)) (o : Option Int) : ∀ j, Jn.listFrom j (l ++ [o]) = Jn.listFrom j l ++ (match o with | some v => [(((j + l.length : Nat) : Int), v)] | none => []) := by
  induction l with
  | nil => intro j; cases o <;> simp [Jn.listFrom]
  | cons a r ih =>
    intro j
    cases a with
    | none =>
      rw [List.cons_append, Jn.listFrom, Jn.listFrom, ih]
      simp only [List.length_cons]
      rw [show j + 1 + r.length = j + (r.length + 1) by omega]
    | some v =>
      rw [List.cons_append, Jn.listFrom, Jn.listFrom, ih]
      simp only [List.length_cons]
      rw [show j + 1 + r.length = j + (r.length + 1) by omega]
      rfl
theorem list_len (l : List (Option Int)) : ∀ j, (Jn.listFrom j l).length ≤ l.length := by
  induction l with
  | nil => intro j; simp [Jn.listFrom]
  | cons a r ih =>
    intro j
    have := ih (j + 1)
    cases a <;> simp [Jn.listFrom] <;> omega

def CeRel (w : World) (cs : List (Option Int)) (v i : Value) (wr : World) : Prop :=
  ∃ k : Nat, k ≤ 100 ∧ i = .int .i64 k ∧ CRow wr w.heap.size v (Jn.listFrom 0 (cs.take k)) ∧ Below w.heap.size w wr

set_option maxHeartbeats 1000000 in
set_option maxRecDepth 100000 in
theorem cellsC_any (L B : Nat) (C : Jn.Con) (w : World) (h : ConAt L w B C) :
    Calls Tryd.prog 43 #[.pointer (some ⟨B, 0, none⟩)] w fun e w' => ∃ v, e = .returned v ∧ CRow w' w.heap.size v C.list ∧ Below w.heap.size w w' := by
  have hc : ∀ n, n < 100 → w.cell? ⟨B, n * 2, none⟩ = some (.bool (C.cells.getD n none).isSome) ∧ w.cell? ⟨B, n * 2 + 1, none⟩ = some (.int .i64 ((C.cells.getD n none).getD 0)) := fun n hn => ⟨(con_cell h n hn).1, (con_cell h n hn).2.1⟩
  have hlen := h.ok.len
  have hlt := h.lt
  have HC := hide hc
  have HLEN := hide hlen
  unfold Jn.Con.list
  clear hc h hlen
  generalize C.cells = cs at *
  obtain ⟨i0, hi, hz0, hz1, hz2⟩ := info_parts Tryd.infoCell
  go_enter Tryd.func43, Tryd.ntmps43
  go_wp2
  go_loopw [3, 4] (fun v i wr => CeRel w cs v i wr) (fun _ i _ => 100 - (intOf i).toNat)
  case atStart => exact ⟨0, Nat.zero_le _, rfl, World.ownsRow_nil _ _ _ _, Below.refl _ _⟩
  case round =>
    obtain ⟨k, hk, rfl, hown, hbel⟩ := hrel
    have hln : (Jn.listFrom 0 (List.take k cs)).length ≤ k := Nat.le_trans (list_len _ _) (by simp; omega)
    have HO := hide hown
    have HB := hide hbel
    have hwz := hbel.size
    clear hown hbel
    by_cases hlk : k < 100
    · obtain ⟨c0, c1⟩ := HC.out k hlk
      have d0 := (HB.out.cell (p := ⟨B, k * 2, none⟩) hlt).trans c0
      have d1 := (HB.out.cell (p := ⟨B, k * 2 + 1, none⟩) hlt).trans c1
      have hcs := HLEN.out
      have HK : Hid (Jn.listFrom 0 (cs.take (k + 1)) = Jn.listFrom 0 (cs.take k) ++ (match cs.getD k none with | some v => [((k : Int), v)] | none => [])) := by
        show _ = _
        rw [List.take_succ_eq_append_getElem (by omega), list_snoc]
        have e : cs.getD k none = cs[k] := by simp [List.getD, show k < cs.length by omega]
        rw [e]
        have e2 : 0 + (cs.take k).length = k := by simp; omega
        rw [e2]
      clear c0 c1 hcs
      generalize cs.getD k none = o at *
      cases o with
      | none =>
        simp only [Option.isSome_none] at d0
        go_wp2
        go_roundw
        case rel => exact ⟨k + 1, by omega, by go_num, by rw [HK.out]; simpa using HO.out, HB.out⟩
        case measure => simp [intOf]; omega
      | some x =>
        simp only [Option.isSome_some] at d0
        simp only [Option.getD_some] at d1
        go_wp2_with (at_builtin; refine wpList_append_own _ rfl (.tmp 16) (.tmp 26) 89 rfl w.heap.size 96 i0 (.agg #[.int .i64 0, .int .i64 0]) 2 16 Tryd.underlying89 hi hz0 hz1 hz2 rfl (by decide) _ _ _ rfl (HO.out.alloc _) ⟨_, 0, none⟩ 1 1 [.int .i64 k, .int .i64 x] rfl rfl ?c1 ?c2 ?c3 ?c4 ?c5 ?_)
        try (case c1 => exact cell_two_new _ _ _ _)
        case c2 => first | exact ⟨rfl, rfl⟩ | (intro u hu; simp at hu; rcases hu with rfl | rfl <;> rfl)
        case c3 => unfold maxLen; omega
        case c4 => omega
        case c5 => first | omega | (simp; omega)
        intro v' w7 hown' hgrow _
        have HR : Hid (CeRel w cs v' (.int .i64 ((k : Int) + 1)) w7) := by
          refine ⟨k + 1, by omega, by go_num, ?_, grow_below HB.out (by omega) HO.out hgrow⟩
          rw [HK.out]
          refine CRow.snoc ?_
          exact hown'
        clear hown' hgrow
        go_wp2
        go_roundw
        case rel => exact HR.out
        case measure => simp [intOf]; omega
    · have hcs := HLEN.out
      go_wp2
      go_ret
      have e := HO.out
      rw [List.take_of_length_le (by omega)] at e
      exact ⟨_, rfl, e, HB.out⟩

theorem below_drewN {B : Nat} {a w : World} (h : Below B a w) (n : Nat) : Below B a (w.drewN n) := ⟨h.os, h.tape, h.output, h.size, h.block⟩
theorem own_drewN {w : World} {b : Nat} {e : TypeId} {size : Nat} {v : Value} {n : Nat} {xs : List Value} (h : w.ownsRow b e size v n xs) (k : Nat) : (w.drewN k).ownsRow b e size v n xs := h

theorem insert_at (ps : List (List UInt8 × List UInt8)) (q : List UInt8 × List UInt8) : ∀ k, k ≤ ps.length → (∀ p ∈ ps.take k, Jn.ltB p.1 q.1 = true) → (∀ p, ps[k]? = some p → Jn.ltB p.1 q.1 = false) → Jn.insertP ps q = ps.take k ++ [q] ++ ps.drop k := by
  induction ps with
  | nil => intro k hk _ _; simp at hk; subst hk; rfl
  | cons a r ih =>
    intro k hk h1 h2
    cases k with
    | zero =>
      have := h2 a rfl
      unfold Jn.insertP
      rw [this]; rfl
    | succ k =>
      have ha := h1 a (by simp)
      unfold Jn.insertP
      rw [if_pos ha, ih k (by simpa using hk) (fun p hp => h1 p (by simp [hp])) (fun p hp => h2 p (by simpa using hp))]
      simp

def I1Rel (w : World) (ps : List (List UInt8 × List UInt8)) (n : List UInt8) (v i : Value) (wr : World) : Prop :=
  ∃ k : Nat, k ≤ ps.length ∧ i = .int .i64 k ∧ PRow wr w.heap.size v (ps.take k) ∧ Below w.heap.size w wr ∧ (∀ p ∈ ps.take k, Jn.ltB p.1 n = true)
def I2Rel (w : World) (ps : List (List UInt8 × List UInt8)) (q : List UInt8 × List UInt8) (k : Nat) (v i : Value) (wr : World) : Prop :=
  ∃ j : Nat, k ≤ j ∧ j ≤ ps.length ∧ i = .int .i64 j ∧ PRow wr w.heap.size v (ps.take k ++ [q] ++ (ps.drop k).take (j - k)) ∧ Below w.heap.size w wr

theorem rest_snoc (ps : List (List UInt8 × List UInt8)) (k j : Nat) (hk : k ≤ j) (p : List UInt8 × List UInt8) (h : ps[j]? = some p) : (ps.drop k).take (j + 1 - k) = (ps.drop k).take (j - k) ++ [p] := by
  have hj : j < ps.length := (List.getElem?_eq_some_iff.1 h).1
  rw [show j + 1 - k = (j - k) + 1 by omega, List.take_succ_eq_append_getElem (by simp; omega)]
  congr 2
  rw [List.getElem_drop]
  have := (List.getElem?_eq_some_iff.1 h).2
  rw [← this]
  congr 1
  omega
end Go.Proofs.YtellilpeakpbfaaDoor
