import Derived.Test.YtellilpeakpbfaaDoorAfter
import Derived.Test.YtellilpeakpbfaaDoorShPure
import Derived.Laws.IdiomStrings
/-
  The walk of decimal.
-/
namespace Go.Proofs.YtellilpeakpbfaaDoor
open Go.RowKit

theorem conv_one (w : World) (n : Nat) : (convert 78 9 (.slice (some ⟨w.heap.size, 0, none⟩) 1 1)).run Tryd.prog (w.alloc (.cells #[.int .u8 (48 + (n : Int) % 10)] 5)) =
    .ok (.string ⟨#[UInt8.ofNat (48 + n % 10)]⟩) (w.alloc (.cells #[.int .u8 (48 + (n : Int) % 10)] 5)) := by
  refine run_convert_bytes_back (P := Tryd.prog) _ 78 9 5 ⟨w.heap.size, 0, none⟩ 1 [UInt8.ofNat (48 + n % 10)] Tryd.underlying78 Tryd.underlying5 Tryd.underlying9 ?_
  intro j hj
  have : j = 0 := by simp at hj; omega
  subst this
  have e : ((UInt8.ofNat (48 + n % 10)).toNat : Int) = 48 + (n : Int) % 10 := by simp; omega
  simp [Addr.add]
  omega

set_option maxHeartbeats 400000 in
set_option maxRecDepth 100000 in
theorem decimal_any (n : Nat) : ∀ (w : World), n < 1000000 →
    Calls Tryd.prog 27 #[.int .i64 n] w fun e w' => e = .returned (T (Lib.decDigits n)) ∧ Below w.heap.size w w' := by
  induction n using Nat.strongRecOn with
  | ind n ih =>
    intro w hn
    have hrun := conv_one w n
    obtain ⟨c, hc⟩ : ∃ c, c = UInt8.ofNat (48 + n % 10) := ⟨_, rfl⟩
    rw [← hc] at hrun
    have HCC := hide hc
    clear hc
    by_cases h10 : n < 10
    · clear ih
      have HE : Hid (Lib.decDigits n = [UInt8.ofNat (48 + n % 10)]) := by
        show _ = _
        rw [Lib.decDigits, dif_pos h10, Nat.mod_eq_of_lt h10]
      go_enter Tryd.func27, Tryd.ntmps27
      go_wp2
      go_ret
      rw [HE.out, ← HCC.out]
      exact ⟨rfl, (Below.refl _ _).alloc (Nat.le_refl _) _⟩
    · have HE : Hid (Lib.decDigits n = Lib.decDigits (n / 10) ++ [UInt8.ofNat (48 + n % 10)]) := by
        show _ = _
        rw [Lib.decDigits, dif_neg h10]
      have hl := Ck.dec_len (n / 10) (by omega)
      have hih : ∀ w, Calls Tryd.prog 27 #[.int .i64 ((n : Int) / 10)] w fun e w' => e = .returned (.string ⟨(Lib.decDigits (n / 10)).toArray⟩) ∧ Below w.heap.size w w' := by
        intro w
        have := ih (n / 10) (by omega) w (by omega)
        rw [show ((n : Int) / 10) = ((n / 10 : Nat) : Int) from by omega]
        exact this
      have HI := hide hih
      clear hih ih
      generalize hd : Lib.decDigits (n / 10) = d at *
      obtain ⟨D, hD⟩ : ∃ D : ByteArray, D = ⟨d.toArray⟩ := ⟨_, rfl⟩
      have hDs : D.size ≤ 6 := by rw [hD]; exact hl
      rw [← hD] at HI
      have HD := hide hD
      clear hD hd hl
      go_enter Tryd.func27, Tryd.ntmps27
      go_wp2_with fail
      refine (HI.out _).mono ?_
      rintro e w1 ⟨rfl, hb⟩
      have HB := hide hb
      clear hb
      go_wp2
      go_ret
      rw [HE.out, ← HCC.out]
      refine ⟨?_, ((Below.refl _ _).alloc (Nat.le_refl _) _).trans (HB.out.mono (by simp))⟩
      show Ending.returned (.string (D ++ ⟨#[c]⟩)) = _
      rw [append_T, HD.out]
end Go.Proofs.YtellilpeakpbfaaDoor
