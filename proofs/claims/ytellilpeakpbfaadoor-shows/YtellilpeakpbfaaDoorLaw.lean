import Derived.Test.YtellilpeakpbfaaDoorReadA
import Derived.Test.YtellilpeakpbfaaDoorPureC
/-
  The walks of Check, checked and the law Checks.
-/
namespace Go.Proofs.YtellilpeakpbfaaDoor
open Go.RowKit

set_option maxHeartbeats 400000 in
theorem check_any (s : ByteArray) (w : World) (hW : WordsAt w) :
    Calls Tryd.prog 6 #[.string s] w fun e w' => e = .returned (.tuple #[.int .i64 (Ck.read s.data.toList).1, .int .i64 (Ck.read s.data.toList).2]) ∧ Below w.heap.size w w' := by
  have hr := read_any s w hW
  generalize Ck.read s.data.toList = p at *
  obtain ⟨p1, p2⟩ := p
  have HR := hide hr
  clear hr hW
  go_enter Tryd.func6, Tryd.ntmps6
  go_wp2_with fail
  refine HR.out.mono ?_
  rintro e w1 ⟨v, rfl, hb, -⟩
  have HB := hide hb
  clear hb
  go_wp2
  go_ret2
  exact ⟨rfl, HB.out⟩

set_option maxHeartbeats 400000 in
theorem checked_any (s : ByteArray) (w : World) (hW : WordsAt w) :
    Calls Tryd.prog 7 #[.string s] w fun e w' => e = .returned (.bool true) ∧ Below w.heap.size w w' := by
  have hr := check_any s w hW
  have hc := refCheck_any s
  rw [Ck.read_same] at hr
  generalize Ck.refCheck s.data.toList = p at *
  obtain ⟨p1, p2⟩ := p
  have HR := hide hr
  have HC := hide hc
  clear hr hc hW
  go_enter Tryd.func7, Tryd.ntmps7
  go_wp2_with fail
  refine HR.out.mono ?_
  rintro e w1 ⟨rfl, hb⟩
  have HB := hide hb
  clear hb
  go_wp2_with fail
  refine (HC.out _).mono ?_
  rintro e w2 ⟨rfl, hb⟩
  have HB2 := hide hb
  clear hb
  go_wp2
  all_goals go_ret
  all_goals exact ⟨by simp, HB.out.trans (HB2.out.mono HB.out.size)⟩

theorem sample : Ck.read [119, 104, 105, 108, 101, 32, 49, 32, 123, 32, 102, 97, 105, 108, 32, 125, 32, 125] = (5, 2) := by decide +kernel

set_option maxHeartbeats 400000 in
theorem checks_any (s : ByteArray) (w : World) (hW : WordsAt w) :
    Calls Tryd.prog 3 #[.string s] w fun e w' => e = .returned (.bool true) ∧ Below w.heap.size w w' := by
  have hr := check_any ⟨#[119, 104, 105, 108, 101, 32, 49, 32, 123, 32, 102, 97, 105, 108, 32, 125, 32, 125]⟩ w hW
  rw [show Ck.read (ByteArray.data ⟨#[119, 104, 105, 108, 101, 32, 49, 32, 123, 32, 102, 97, 105, 108, 32, 125, 32, 125]⟩).toList = (5, 2) from sample] at hr
  have hc := checked_any s
  have HW := hide hW
  have HR := hide hr
  have HC := hide hc
  clear hr hc hW
  go_enter Tryd.func3, Tryd.ntmps3
  go_wp2_with fail
  refine HR.out.mono ?_
  rintro e w1 ⟨rfl, hb⟩
  have HB := hide hb
  clear hb
  go_wp2_with fail
  refine (HC.out _ (HW.out.below HW.out.1 HB.out)).mono ?_
  rintro e w2 ⟨rfl, hb⟩
  have HB2 := hide hb
  clear hb
  go_wp2
  all_goals go_ret
  all_goals exact ⟨by simp, HB.out.trans (HB2.out.mono HB.out.size)⟩
end Go.Proofs.YtellilpeakpbfaaDoor
