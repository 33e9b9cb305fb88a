import Derived.Test.YtellilpeakpbfaaDoorSplit
import Derived.Test.YtellilpeakpbfaaDoorPureB
import Derived.Deep.QuietTactic
import Derived.BigQuiet
/-
  The walk of after: what must still come behind a token, as the document's answer says it.
-/
namespace Go.Proofs.YtellilpeakpbfaaDoor
open Go.RowKit

def strLen : Value → Nat | .string u => u.size | _ => 0
theorem append_T (a b : ByteArray) : Value.string (a ++ b) = T (a.data.toList ++ b.data.toList) := by
  unfold T
  congr 1
theorem head_rest (u : ByteArray) (h : 0 < u.size) : u.data.toList = u[0] :: (u.extract 1 u.size).data.toList := by
  obtain ⟨⟨l⟩⟩ := u
  match l, h with
  | c :: r, _ =>
    have e : (ByteArray.mk ⟨c :: r⟩).size = r.length + 1 := rfl
    simp [ByteArray.data_extract, e]
    rfl
theorem rest_size (u : ByteArray) : (u.extract 1 u.size).size = u.size - 1 := by simp
theorem first_list (u : ByteArray) (h : 0 < u.size) : (u.extract 0 1).data.toList = [u[0]] := by
  obtain ⟨⟨l⟩⟩ := u
  match l, h with
  | c :: r, _ =>
    simp [ByteArray.data_extract]
    rfl
theorem u8_of (c : UInt8) (n : Nat) (hn : n < 256) (h : ((c.toNat : Int) == (n : Int)) = true) : c = UInt8.ofNat n := by
  have h1 : (c.toNat : Int) = n := beq_iff_eq.1 h
  apply UInt8.toNat_inj.1
  simp
  omega
theorem u8_not (c : UInt8) (n : Nat) (hn : n < 256) (h : ((c.toNat : Int) == (n : Int)) = false) : c ≠ UInt8.ofNat n := by
  intro hc
  have h1 : ¬ (c.toNat : Int) = n := by simpa using h
  apply h1
  rw [hc]
  simp
  omega
theorem ret_T2 {l m : List UInt8} {a b : Bool} (h : l = m) (g : a = b) : Ending.returned (.tuple #[T l, .bool a]) = .returned (.tuple #[T m, .bool b]) := by rw [h, g]
theorem ret_T2' {x : Value} {m : List UInt8} {a b : Bool} (h : x = T m) (g : a = b) : Ending.returned (.tuple #[x, .bool a]) = .returned (.tuple #[T m, .bool b]) := by rw [h, g]

theorem follows_len {t f : List UInt8} (hf : Ck.follows t = some f) : f.length ≤ 7 := by
  unfold Ck.follows at hf
  repeat' split at hf
  all_goals (first | (cases hf; done) | (cases hf; simp))
theorem wants_len {t : List UInt8} : ((Ck.wants t).getD []).length ≤ 2 := by
  unfold Ck.wants
  repeat' split
  all_goals simp

set_option maxHeartbeats 1000000 in
set_option maxRecDepth 100000 in
theorem after_any (s t : ByteArray) (w : World) (hs : s.size ≤ 100000) (ht : t.size ≤ 400) :
    Calls Tryd.prog 24 #[.string s, .string t] w fun e w' => e = .returned (.tuple #[T (Ck.after s.data.toList t.data.toList).1, .bool (Ck.after s.data.toList t.data.toList).2]) ∧ ∃ n, w' = w.drewN n := by
  have HV := hide (slot_any t 118)
  go_enter Tryd.func24, Tryd.ntmps24
  go_wp2
  go_loop [0] (fun x => ∃ u : ByteArray, x = .string u ∧ u.size ≤ 100000 ∧ Ck.after u.data.toList t.data.toList = Ck.after s.data.toList t.data.toList) (fun x => strLen x)
  case atStart => exact ⟨s, rfl, hs, rfl⟩
  case round =>
    obtain ⟨u, rfl, hu, ha⟩ := hrel
    have HA := hide ha
    clear ha
    by_cases h0 : 0 < u.size
    · have HH := hide (head_rest u h0)
      have HR := hide (rest_size u)
      cases g1 : ((u[0].toNat : Int) == 115) with
      | true =>
        have e0 : u[0] = 115 := u8_of _ 115 (by omega) g1
        have HE := hide e0
        clear e0
        cases hf : Ck.follows t.data.toList with
        | some f =>
          have hc := follows_any t
          rw [hf] at hc
          obtain ⟨F, hF⟩ : ∃ F : ByteArray, F = ⟨f.toArray⟩ := ⟨_, rfl⟩
          have hc' : ∀ w, Calls Tryd.prog 36 #[.string t] w fun e w' => e = .returned (.tuple #[.string F, .bool true]) ∧ w' = w := by rw [hF]; exact hc
          have HC := hide hc'
          have hFs : F.size ≤ 7 := by rw [hF]; exact follows_len hf
          have HF := hide hF
          have HFO := hide hf
          clear hc hc' hF hf
          go_wp2_with fail
          refine (HC.out _).mono ?_
          rintro e w' ⟨rfl, rfl⟩
          go_wp2
          go_ret2
          refine ⟨ret_T2' ?_ ?_, 0, rfl⟩
          · rw [← HA.out, HH.out, HE.out, Ck.after_s _ _ _ HFO.out]
            show Value.string (F ++ u) = _
            rw [append_T, HH.out, HE.out, HF.out]
          · rw [← HA.out, HH.out, HE.out, Ck.after_s _ _ _ HFO.out]
        | none =>
          have hc := follows_any t
          rw [hf] at hc
          have hc' : ∀ w, Calls Tryd.prog 36 #[.string t] w fun e w' => e = .returned (.tuple #[.string ⟨#[]⟩, .bool false]) ∧ w' = w := hc
          have HC := hide hc'
          have HFO := hide hf
          clear hc hc' hf
          go_wp2_with (go_at_call 36; refine (HC.out _).mono ?_; rintro e w' ⟨rfl, rfl⟩)
          go_round
          case rel =>
            refine ⟨u.extract 1 u.size, rfl, by rw [HR.out]; omega, ?_⟩
            rw [← HA.out, HH.out, HE.out, Ck.after_s' _ _ HFO.out]
          case measure =>
            show (u.extract 1 u.size).size < u.size
            rw [HR.out]; omega
      | false =>
        have n1 : u[0] ≠ 115 := u8_not _ 115 (by omega) g1
        have HN1 := hide n1
        clear n1
        cases g2 : ((u[0].toNat : Int) == 101) with
        | true =>
          have e0 : u[0] = 101 := u8_of _ 101 (by omega) g2
          have HE := hide e0
          clear e0
          have hc := wants_any t
          obtain ⟨F, hF⟩ : ∃ F : ByteArray, F = ⟨((Ck.wants t.data.toList).getD []).toArray⟩ := ⟨_, rfl⟩
          have hc' : ∀ w, Calls Tryd.prog 37 #[.string t] w fun e w' => e = .returned (.tuple #[.string F, .bool (Ck.wants t.data.toList).isSome]) ∧ w' = w := by rw [hF]; exact fun w => hc w ht
          have HC := hide hc'
          have hFs : F.size ≤ 2 := by rw [hF]; exact wants_len
          have HF := hide hF
          clear hc hc' hF
          go_wp2_with fail
          refine (HC.out _).mono ?_
          rintro e w' ⟨rfl, rfl⟩
          go_wp2
          go_ret2
          refine ⟨ret_T2' ?_ ?_, 0, rfl⟩
          · rw [← HA.out, HH.out, HE.out, Ck.after_e]
            show Value.string (F ++ u.extract 1 u.size) = _
            rw [append_T, HF.out]
          · rw [← HA.out, HH.out, HE.out, Ck.after_e]
        | false =>
          have n1 : u[0] ≠ 101 := u8_not _ 101 (by omega) g2
          have HN2 := hide n1
          clear n1
          cases g3 : ((u[0].toNat : Int) == 118) with
          | true =>
            have e0 : u[0] = 118 := u8_of _ 118 (by omega) g3
            have HE := hide e0
            clear e0
            have HT : Hid (∀ b : Bool, b = decide (0 ≤ Ck.slot t.data.toList 118) → Ending.returned (.tuple #[.string (u.extract 1 u.size), .bool b]) = Ending.returned (.tuple #[T (Ck.after s.data.toList t.data.toList).1, .bool (Ck.after s.data.toList t.data.toList).2])) := by
              intro b hb
              refine ret_T2' ?_ ?_
              · rw [← HA.out, HH.out, HE.out, Ck.after_v]; rfl
              · rw [← HA.out, HH.out, HE.out, Ck.after_v, hb]
            generalize Ck.slot t.data.toList 118 = v at *
            go_wp2_with fail
            refine (HV.out _).mono ?_
            rintro e w' ⟨rfl, rfl⟩
            go_wp2
            go_ret2
            exact ⟨HT.out _ rfl, 0, rfl⟩
          | false =>
            have n1 : u[0] ≠ 118 := u8_not _ 118 (by omega) g3
            have HN3 := hide n1
            clear n1
            have HT : Hid (∀ b : Bool, b = (t.toList == (u.extract 0 1).toList) → Ending.returned (.tuple #[.string (u.extract 1 u.size), .bool b]) = Ending.returned (.tuple #[T (Ck.after s.data.toList t.data.toList).1, .bool (Ck.after s.data.toList t.data.toList).2])) := by
              intro b hb
              refine ret_T2' ?_ ?_
              · rw [← HA.out, HH.out, Ck.after_c _ _ _ HN1.out HN2.out HN3.out]; rfl
              · rw [← HA.out, HH.out, Ck.after_c _ _ _ HN1.out HN2.out HN3.out, hb, ByteArray.toList_eq, ByteArray.toList_eq, first_list u h0]
            clear HH HR HN1 HN2 HN3 HA HV
            go_wp2
            go_quiet (fail)
            go_wp2
            go_ret2
            exact ⟨HT.out _ rfl, nq, rfl⟩
    · go_wp2
      go_ret2
      have hE : u.data.toList = [] := by
        apply List.eq_nil_of_length_eq_zero
        have : u.data.toList.length = u.size := by simp
        omega
      refine ⟨?_, 0, rfl⟩
      rw [← HA.out, hE]
      rfl
end Go.Proofs.YtellilpeakpbfaaDoor
