import Derived.Test.YtellilpeakpbfaaDoorOpen
/-
  The walk of the law Foreign.
-/
namespace Go.Proofs.YtellilpeakpbfaaDoor
open Go.RowKit

theorem two_empty : Jn.readTwo [] [] = some (Jn.none0, 1) := rfl
theorem open_empty (w : World) (hW : WordsAt w) (hP : PowAt w) :
    Calls Tryd.prog 10 #[.string ⟨#[]⟩, .string ⟨#[]⟩] w fun e w' => ∃ S B v, e = .returned (.tuple #[.pointer (some ⟨S, 0, none⟩), v, .int .i64 0]) ∧ StAt w.heap.size w' S B Jn.none0 0 ∧ ARow w' w.heap.size v (moveActs Jn.none0 1) ∧ Below w.heap.size w w' := by
  refine (open_any ⟨#[]⟩ ⟨#[]⟩ w hW hP (Nat.zero_le _) (Nat.zero_le _)).mono ?_
  rintro e w' ⟨hb, (⟨C, f, S, B, v, ho, hs, ha, he⟩ | ⟨ho, _⟩)⟩
  · have ho' := (show Jn.readTwo [] [] = some (C, f) from ho)
    rw [two_empty] at ho'
    cases ho'
    exact ⟨S, B, v, he, hs, ha, hb⟩
  · have ho' := (show Jn.readTwo [] [] = none from ho)
    rw [two_empty] at ho'
    cases ho'

set_option maxHeartbeats 1000000 in
set_option maxRecDepth 100000 in
theorem foreign_any (a b : ByteArray) (w : World) (hW : WordsAt w) (hP : PowAt w) (ha : a.size ≤ 1152921504606846976) (hb : b.size ≤ 1152921504606846976) :
    Calls Tryd.prog 5 #[.string a, .string b] w fun e w' => e = .returned (.bool true) ∧ Below w.heap.size w w' := by
  have HE := hide (open_empty w hW hP)
  have HO := hide (fun w hW hP => open_any a b w hW hP ha hb)
  have HW := hide hW
  have HP := hide hP
  clear hW hP
  go_enter Tryd.func5, Tryd.ntmps5
  go_wp2_with fail
  refine HE.out.mono ?_
  rintro e w1 ⟨S, B, v, rfl, -, -, hb1⟩
  have HB1 := hide hb1
  clear hb1 HE
  go_wp2_with fail
  refine (HO.out _ (HW.out.below HW.out.1 HB1.out) (HP.out.below HP.out.1 HB1.out)).mono ?_
  rintro e w2 ⟨hb2, (⟨C, f, S2, B2, v2, -, -, -, rfl⟩ | ⟨-, rfl⟩)⟩
  · have HB2 : Hid (Below w.heap.size w w2) := HB1.out.trans (hb2.mono HB1.out.size)
    clear hb2 HO
    go_wp2
    go_ret
    exact ⟨rfl, HB2.out⟩
  · have HB2 : Hid (Below w.heap.size w w2) := HB1.out.trans (hb2.mono HB1.out.size)
    clear hb2 HO
    go_wp2
    go_ret
    exact ⟨rfl, HB2.out⟩
end Go.Proofs.YtellilpeakpbfaaDoor
