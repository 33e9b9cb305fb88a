import Derived.Test.YtellilpeakpbfaaDoorShelf
import Derived.Test.YtellilpeakpbfaaDoorTok
import Derived.Test.YtellilpeakpbfaaDoorAfter
import Derived.Test.YtellilpeakpbfaaDoorShPure
/-
  The walk of Token.text.
-/
namespace Go.Proofs.YtellilpeakpbfaaDoor
open Go.RowKit

theorem below_grown (w : World) (k : Nat) (os : Array Obj) : Below w.heap.size w (Go.Sort.grow (w.drewN k) os) := by
  refine ⟨rfl, rfl, rfl, ?_, fun j hj => ?_⟩
  · show w.heap.size ≤ (w.heap ++ os).size
    rw [Array.size_append]; omega
  · show (w.heap ++ os)[j]? = _
    rw [Array.getElem?_append_left hj]
theorem itoa_nat (n : Nat) : Lib.itoa (n : Int) = Lib.decDigits n := by
  unfold Lib.itoa
  rw [if_neg (by omega)]
  rfl

set_option maxHeartbeats 400000 in
theorem text_num (n : Nat) (w : World) (hn : n < 1000000) (hP : PowAt w) :
    Calls Tryd.prog 25 #[.agg #[.int .i64 1, .int .i64 n]] w fun e w' => e = .returned (T (Lib.decDigits n)) ∧ Below w.heap.size w w' := by
  have hc : ∀ w, PowAt w → Calls Tryd.prog 39 #[.int .i64 (n : Int)] w fun e w' => e = .returned (T (Lib.decDigits n)) ∧ Below w.heap.size w w' := by
    intro w h
    refine (itoa_any n (by omega) (by omega) w h).mono fun e w' ⟨he, k, os, hw⟩ => ⟨?_, ?_⟩
    · rw [he, itoa_nat]; rfl
    · rw [hw]; exact below_grown _ _ _
  have HC := hide hc
  have HP := hide hP
  clear hc hP
  go_enter Tryd.func25, Tryd.ntmps25
  go_wp2_with fail
  refine (HC.out _ (HP.out.below HP.out.1 ((Below.refl _ _).alloc (Nat.le_refl _) _))).mono ?_
  rintro e w1 ⟨rfl, hb⟩
  have HB := hide hb
  clear hb
  go_wp2
  go_ret
  exact ⟨rfl, ((Below.refl _ _).alloc (Nat.le_refl _) _).trans (HB.out.mono (by simp))⟩

theorem dig_text (b : UInt8) (h1 : 48 ≤ b.toNat) (h2 : b.toNat ≤ 51) : Lib.itoa ((b.toNat : Int) - 48) = [b] := by
  have e : ((b.toNat : Int) - 48) = ((b.toNat - 48 : Nat) : Int) := by omega
  rw [e, itoa_nat, Lib.decDigits, dif_pos (by omega)]
  congr 1
  apply UInt8.toNat_inj.1
  simp
  omega

set_option maxHeartbeats 400000 in
theorem text_a (b : UInt8) (w : World) (h1 : 48 ≤ b.toNat) (h2 : b.toNat ≤ 51) (hP : PowAt w) :
    Calls Tryd.prog 25 #[.agg #[.int .i64 2, .int .i64 ((b.toNat : Int) - 48)]] w fun e w' => e = .returned (T [97, b]) ∧ Below w.heap.size w w' := by
  have hc : ∀ w, PowAt w → Calls Tryd.prog 39 #[.int .i64 ((b.toNat : Int) - 48)] w fun e w' => e = .returned (.string ⟨#[b]⟩) ∧ Below w.heap.size w w' := by
    intro w h
    refine (itoa_any ((b.toNat : Int) - 48) (by omega) (by omega) w h).mono fun e w' ⟨he, k, os, hw⟩ => ⟨?_, ?_⟩
    · rw [he, dig_text b h1 h2]
    · rw [hw]; exact below_grown _ _ _
  have HC := hide hc
  have HP := hide hP
  clear hc hP
  go_enter Tryd.func25, Tryd.ntmps25
  go_wp2_with fail
  refine (HC.out _ (HP.out.below HP.out.1 ((Below.refl _ _).alloc (Nat.le_refl _) _))).mono ?_
  rintro e w1 ⟨rfl, hb⟩
  have HB := hide hb
  clear hb
  go_wp2
  go_ret
  refine ⟨?_, ((Below.refl _ _).alloc (Nat.le_refl _) _).trans (HB.out.mono (by simp))⟩
  first
    | rfl
    | (show Ending.returned (.string (⟨#[97]⟩ ++ ⟨#[b]⟩)) = _; rw [append_T]; rfl)
set_option maxHeartbeats 400000 in
theorem text_v (b : UInt8) (w : World) (h1 : 48 ≤ b.toNat) (h2 : b.toNat ≤ 51) (hP : PowAt w) :
    Calls Tryd.prog 25 #[.agg #[.int .i64 3, .int .i64 ((b.toNat : Int) - 48)]] w fun e w' => e = .returned (T [118, b]) ∧ Below w.heap.size w w' := by
  have hc : ∀ w, PowAt w → Calls Tryd.prog 39 #[.int .i64 ((b.toNat : Int) - 48)] w fun e w' => e = .returned (.string ⟨#[b]⟩) ∧ Below w.heap.size w w' := by
    intro w h
    refine (itoa_any ((b.toNat : Int) - 48) (by omega) (by omega) w h).mono fun e w' ⟨he, k, os, hw⟩ => ⟨?_, ?_⟩
    · rw [he, dig_text b h1 h2]
    · rw [hw]; exact below_grown _ _ _
  have HC := hide hc
  have HP := hide hP
  clear hc hP
  go_enter Tryd.func25, Tryd.ntmps25
  go_wp2_with fail
  refine (HC.out _ (HP.out.below HP.out.1 ((Below.refl _ _).alloc (Nat.le_refl _) _))).mono ?_
  rintro e w1 ⟨rfl, hb⟩
  have HB := hide hb
  clear hb
  go_wp2
  go_ret
  refine ⟨?_, ((Below.refl _ _).alloc (Nat.le_refl _) _).trans (HB.out.mono (by simp))⟩
  first
    | rfl
    | (show Ending.returned (.string (⟨#[118]⟩ ++ ⟨#[b]⟩)) = _; rw [append_T]; rfl)

set_option maxHeartbeats 400000 in
theorem text_word (i : Nat) (w : World) (hi : i < 16) (hW : WordsAt w) :
    Calls Tryd.prog 25 #[.agg #[.int .i64 (4 + (i : Int)), .int .i64 0]] w fun e w' => e = .returned (T (Ck.wordsL.getD i [])) ∧ Below w.heap.size w w' := by
  obtain ⟨wk, hwk⟩ : ∃ wk : ByteArray, wk = ⟨(Ck.wordsL.getD i []).toArray⟩ := ⟨_, rfl⟩
  have hc : w.cell? ⟨0, i, none⟩ = some (.string wk) := by rw [hwk]; exact hW.2 i hi
  have h0 := hW.1
  have HWK := hide hwk
  clear hwk hW
  have g1 : ((4 + (i : Int)) == 1) = false := beq_eq_false_iff_ne.2 (by omega)
  have g2 : ((4 + (i : Int)) == 2) = false := beq_eq_false_iff_ne.2 (by omega)
  have g3 : ((4 + (i : Int)) == 3) = false := beq_eq_false_iff_ne.2 (by omega)
  go_enter Tryd.func25, Tryd.ntmps25
  go_wp2
  go_ret
  refine ⟨?_, (Below.refl _ _).alloc (Nat.le_refl _) _⟩
  show Ending.returned (.string wk) = _
  rw [HWK.out]; rfl

theorem text_any (t : List UInt8) (w : World) (hk : (Ck.tokenP t).1 ≠ 0) (hW : WordsAt w) (hP : PowAt w) :
    Calls Tryd.prog 25 #[K (Ck.tokenP t)] w fun e w' => e = .returned (T (Ck.showTok t)) ∧ Below w.heap.size w w' := by
  by_cases hi : Ck.wordsL.idxOf t < 16
  · have e : Ck.tokenP t = (4 + (Ck.wordsL.idxOf t : Int), 0) := by rw [Ck.tokenP, if_pos hi]
    have hl : Ck.wordsL.idxOf t < Ck.wordsL.length := hi
    have ht : Ck.wordsL.getD (Ck.wordsL.idxOf t) [] = t := by
      have := List.getElem_idxOf hl
      simp [List.getD, hl, this]
    have hs : Ck.showTok t = t := by
      have hm : t ∈ Ck.wordsL := List.idxOf_lt_length_iff.1 hl
      have all : ∀ x ∈ Ck.wordsL, Ck.numIn x = none := by decide +kernel
      rw [Ck.showTok, all t hm]
    rw [e, hs]
    have := text_word (Ck.wordsL.idxOf t) w hi hW
    rw [ht] at this
    exact this
  · cases hn : Ck.numIn t with
    | some n =>
      have e : Ck.tokenP t = (1, (n : Int)) := by rw [Ck.tokenP, if_neg hi, hn]
      rw [e, Ck.showTok, hn]
      exact text_num n w (Ck.numIn_lt t n hn) hP
    | none =>
      obtain ⟨b, h1, h2, h3⟩ := Ck.named_text t hn hi hk
      have hs : Ck.showTok t = t := by rw [Ck.showTok, hn]
      rw [hs]
      rcases h3 with ⟨e1, e2⟩ | ⟨e1, e2⟩
      · rw [e2, e1]; exact text_a b w h1 h2 hP
      · rw [e2, e1]; exact text_v b w h1 h2 hP
end Go.Proofs.YtellilpeakpbfaaDoor
