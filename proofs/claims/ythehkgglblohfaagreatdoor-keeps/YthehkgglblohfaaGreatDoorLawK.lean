/-
  Keeps.
-/
import Derived.Test.YthehkgglblohfaaGreatDoorPlays
namespace Go.Proofs.YthehkgglblohfaaGreatDoor
open Go.RowKit

set_option maxHeartbeats 4000000 in
set_option maxRecDepth 100000 in
theorem keeps_any (w : World) (ao : Option Addr) (cap : Nat) (ops : List OpD) (hs : 0 < ops.length → ∃ g z, ao = some ⟨g, z, none⟩ ∧ ScrAt w g z ops) (hP : PowAt w) (hWd : WordsAt w) (hn : ops.length ≤ 1299999999999)
    (hm : ∀ o ∈ ops, -9223372036854775808 ≤ o.m ∧ o.m ≤ 9223372036854775807) :
    Calls Tryz.prog 3 #[.slice ao ops.length cap] w fun e w' => e = .returned (.bool true) ∧ Below w.heap.size w w' := by
  obtain ⟨w1, hw1⟩ : ∃ w1, w1 = w.alloc (.cells #[.int .i64 3, .int .i64 4, .int .i64 5, .int .i64 6, .int .i64 11, .int .i64 13] 3) := ⟨_, rfl⟩
  have hB1 : Below w.heap.size w w1 := by rw [hw1]; exact (Below.refl _ _).alloc (Nat.le_refl _) _
  have hbk : w1.heap[w.heap.size]? = some (.cells #[.int .i64 3, .int .i64 4, .int .i64 5, .int .i64 6, .int .i64 11, .int .i64 13] 3 (0, 0)) := by rw [hw1]; exact heap_alloc_new w _
  have hkn : KnAt w1 w.heap.size [3, 4, 5, 6, 11, 13] := by
    refine ⟨(Array.getElem?_eq_some_iff.1 hbk).1, fun k x hx => ?_⟩
    rw [cell_of_row w1 w.heap.size k _ _ _ hbk]
    match k, hx with
    | 0, hx => simp at hx; subst hx; rfl
    | 1, hx => simp at hx; subst hx; rfl
    | 2, hx => simp at hx; subst hx; rfl
    | 3, hx => simp at hx; subst hx; rfl
    | 4, hx => simp at hx; subst hx; rfl
    | 5, hx => simp at hx; subst hx; rfl
    | k + 6, hx => simp at hx
  have hP1 := hP.below hP.1 hB1
  have HPL := hide (plays_any w1 ao cap w.heap.size ops [3, 4, 5, 6, 11, 13] (fun h0 => by obtain ⟨g, z, e, hsc⟩ := hs h0; exact ⟨g, z, e, hsc.below hB1⟩) hkn hP1 (hWd.below hWd.1 hB1) hn (by simp)
    (fun x W D m C o ho hk hi hm' hp hw => step_keeps w1.heap.size W D m x C o hk hi hm' hp hw hP1.1 (hm o ho).1 (hm o ho).2))
  simp only [List.length_cons, List.length_nil] at HPL
  have HB1 := hide hB1
  clear hs hP hWd hm hB1 hbk hkn hP1
  go_enter Tryz.func3, Tryz.ntmps3
  go_wp2_with fail
  rw [← hw1]
  refine HPL.out.mono ?_
  rintro e w9 ⟨rfl, hb9⟩
  have HFIN := hide (HB1.out.trans (hb9.mono HB1.out.size))
  clear hb9 HPL hw1
  go_wp2_with fail
  go_ret
  exact ⟨rfl, HFIN.out⟩
end Go.Proofs.YthehkgglblohfaaGreatDoor
