/-
  The walk of Contents.Get.
-/
import Derived.Test.YthehkgglblohfaaGreatDoorContQ
namespace Go.Proofs.YthehkgglblohfaaGreatDoor
open Go.RowKit

set_option maxHeartbeats 400000 in
theorem get_in (L B : Nat) (C : Jn.Con) (n : Nat) (w : World) (h : ConAt L w B C) (hn : n ≤ 99) :
    Calls Tryz.prog 80 #[.pointer (some ⟨B, 0, none⟩), .int .i64 n] w fun e w' => e = .returned (.tuple #[.int .i64 ((C.cells.getD n none).getD 0), .bool (C.cells.getD n none).isSome, .int .i64 0]) ∧ Below w.heap.size w w' := by
  obtain ⟨c0, c1, f0, f1⟩ := con_cell h n (by omega)
  have hk : Jn.isKey n = true := by unfold Jn.isKey; simp; omega
  have hc := isKey_any n
  rw [hk] at hc
  have HC := hide hc
  clear hc hk h
  generalize (C.cells.getD n none).isSome = b at *
  generalize (C.cells.getD n none).getD 0 = x at *
  go_enter Tryz.func80, Tryz.ntmps80
  go_wp2_with fail
  refine (HC.out _).mono ?_
  rintro e w1 ⟨rfl, rfl⟩
  go_wp2
  go_quiet (fail)
  go_wp2
  go_ret3
  exact ⟨rfl, below_drewN (Below.refl _ _) _⟩
set_option maxHeartbeats 400000 in
theorem get_out (B : Nat) (k : Int) (w : World) (hk : Jn.isKey k = false) :
    Calls Tryz.prog 80 #[.pointer (some ⟨B, 0, none⟩), .int .i64 k] w fun e w' => e = .returned (.tuple #[.int .i64 0, .bool false, .int .i64 5]) ∧ w' = w := by
  have hc := isKey_any k
  rw [hk] at hc
  have HC := hide hc
  clear hc hk
  go_enter Tryz.func80, Tryz.ntmps80
  go_wp2_with fail
  refine (HC.out _).mono ?_
  rintro e w1 ⟨rfl, rfl⟩
  go_wp2
  go_ret3
  exact ⟨rfl, rfl⟩

end Go.Proofs.YthehkgglblohfaaGreatDoor
