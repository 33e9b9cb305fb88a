import Derived.Test.YtellilpeakpbfaaDoorRead
/-
  The walk of Read, of every text.
-/
namespace Go.Proofs.YtellilpeakpbfaaDoor
open Go.RowKit

set_option maxHeartbeats 400000 in
theorem read_long (s : ByteArray) (w : World) (hs : 400 < s.size) :
    Calls Tryd.prog 11 #[.string s] w fun e w' => e = .returned (.tuple #[.slice none 0 0, .int .i64 0, .int .i64 1]) ∧ w' = w := by
  have hd4 : (400 : Int) < (s.size : Int) := by omega
  go_enter Tryd.func11, Tryd.ntmps11
  go_wp2
  go_ret3
  exact ⟨rfl, rfl⟩
theorem read_any (s : ByteArray) (w : World) (hW : WordsAt w) :
    Calls Tryd.prog 11 #[.string s] w fun e w' => ∃ v, e = .returned (.tuple #[v, .int .i64 (Ck.read s.data.toList).1, .int .i64 (Ck.read s.data.toList).2]) ∧ Below w.heap.size w w' ∧
      ((Ck.read s.data.toList).2 = 0 → w'.ownsRow w.heap.size 55 2 v (Ck.toks s.data.toList).length (cellsOf (Ck.toks s.data.toList))) := by
  have hl : s.data.toList.length = s.size := by simp
  by_cases hs : s.size ≤ 400
  · rw [Ck.read, if_neg (by omega)]
    exact read_short s w hs hW
  · rw [Ck.read, if_pos (by omega)]
    exact (read_long s w (by omega)).mono fun e w' ⟨he, hw⟩ => ⟨_, he, by rw [hw]; exact Below.refl _ _, fun h => by simp at h⟩
end Go.Proofs.YtellilpeakpbfaaDoor
