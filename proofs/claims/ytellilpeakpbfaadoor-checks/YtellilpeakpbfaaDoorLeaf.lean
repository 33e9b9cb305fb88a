import Derived.Test.YtellilpeakpbfaaDoorRows
import Derived.Test.YtellilpeakpbfaaDoorPure
import Derived.WalkKit
import Derived.WalkSpells
import Derived.WalkLawsBesides
/-
  The walks of the small functions that only compute: isSpace, isDigit, slot, Number, numberIn, follows, wants.
-/
namespace Go.Proofs.YtellilpeakpbfaaDoor
open Go.RowKit

theorem ret_bool {a b : Bool} (h : a = b) : Ending.returned (.bool a) = .returned (.bool b) := by rw [h]
theorem ret_int {k : IntKind} {a b : Int} (h : a = b) : Ending.returned (.int k a) = .returned (.int k b) := by rw [h]
theorem u8_eq (c d : UInt8) : ((c.toNat : Int) = (d.toNat : Int)) ↔ c = d := by
  constructor
  · intro h; exact UInt8.toNat_inj.1 (by omega)
  · intro h; rw [h]

set_option maxHeartbeats 400000 in
theorem isSpace_any (c : UInt8) (w : World) :
    Calls Tryd.prog 30 #[.int .u8 c.toNat] w fun e w' => e = .returned (.bool (Ck.isSp c)) ∧ w' = w := by
  have e1 : (c == 32) = decide ((c.toNat : Int) = 32) := by
    rw [Bool.eq_iff_iff]; simpa using (u8_eq c 32).symm
  have e2 : (c == 10) = decide ((c.toNat : Int) = 10) := by
    rw [Bool.eq_iff_iff]; simpa using (u8_eq c 10).symm
  have H : Hid (Ck.isSp c = (decide ((c.toNat : Int) = 32) || decide ((c.toNat : Int) = 10))) := by
    show _ = _; rw [Ck.isSp, e1, e2]
  clear e1 e2
  go_enter Tryd.func30, Tryd.ntmps30
  go_wp2
  all_goals go_ret
  all_goals exact ⟨ret_bool (by rw [H.out, Bool.eq_iff_iff]; simp; try omega), rfl⟩

set_option maxHeartbeats 400000 in
theorem isDigit_any (c : UInt8) (w : World) :
    Calls Tryd.prog 47 #[.int .u8 c.toNat] w fun e w' => e = .returned (.bool (Ck.isDig c)) ∧ w' = w := by
  go_enter Tryd.func47, Tryd.ntmps47
  go_wp2
  all_goals go_ret
  all_goals exact ⟨ret_bool (by unfold Ck.isDig; rw [Bool.eq_iff_iff]; simp; omega), rfl⟩

set_option maxHeartbeats 400000 in
theorem slot_two (a b c : UInt8) (w : World) :
    Calls Tryd.prog 38 #[.string ⟨#[a, b]⟩, .int .u8 c.toNat] w fun e w' => e = .returned (.int .i64 (Ck.slot [a, b] c)) ∧ w' = w := by
  have ea : ((⟨#[a, b]⟩ : ByteArray)[0]'(by show 0 < 2; decide)) = a := rfl
  have eb : ((⟨#[a, b]⟩ : ByteArray)[1]'(by show 1 < 2; decide)) = b := rfl
  have hb : (0 : Int) ≤ b.toNat ∧ (b.toNat : Int) ≤ 255 := by have := b.toNat_lt; omega
  have hu := u8_eq a c
  have Hu := hide hu
  clear hu
  go_enter Tryd.func38, Tryd.ntmps38
  go_wp2
  all_goals go_ret
  all_goals refine ⟨ret_int ?_, rfl⟩
  all_goals (simp only [Ck.slot, ← Hu.out]; split <;> (try (simp at *)) <;> (try omega))
set_option maxHeartbeats 400000 in
theorem slot_not (s : ByteArray) (c : UInt8) (w : World) (h : s.size ≠ 2) :
    Calls Tryd.prog 38 #[.string s, .int .u8 c.toNat] w fun e w' => e = .returned (.int .i64 (-1)) ∧ w' = w := by
  have h2 : ((s.size : Int) != 2) = true := by simp; omega
  go_enter Tryd.func38, Tryd.ntmps38
  go_wp2
  all_goals go_ret
  all_goals exact ⟨rfl, rfl⟩

end Go.Proofs.YtellilpeakpbfaaDoor
