import Derived.Test.YtellilpeakpbfaaDoorPureC
import Derived.Lib.ItoaNum
/-
  The plain mathematics of Show.
-/
namespace Go.Proofs.YtellilpeakpbfaaDoor
namespace Ck

/-- how a token is shown. -/
def showTok (t : List UInt8) : List UInt8 := match numIn t with | some n => Lib.decDigits n | none => t
/-- the first k tokens, a blank between each two. -/
def lineK (ts : List (List UInt8)) : Nat → List UInt8
  | 0 => []
  | k + 1 => lineK ts k ++ ((if 0 < k then [32] else []) ++ showTok (ts.getD k []))
def showP (l : List UInt8) : List UInt8 × Int := if (refCheck l).2 = 0 then (lineK (toks l) (toks l).length, 0) else ([], (refCheck l).2)

theorem numIn_lt (t : List UInt8) (n : Nat) (h : numIn t = some n) : n < 1000000 := by
  unfold numIn at h
  split at h
  · rename_i g
    have h1 := val_lt t g.2.2
    have h2 : 10 ^ t.length ≤ 10 ^ 6 := Nat.pow_le_pow_right (by omega) g.2.1
    cases h
    omega
  · cases h
theorem dec_len (n : Nat) (h : n < 1000000) : (Lib.decDigits n).length ≤ 6 := by
  have step : ∀ (k : Nat) (u : Nat), u < 10 ^ (k + 1) → (Lib.decDigits u).length ≤ k + 1 := by
    intro k
    induction k with
    | zero => intro u hu; rw [Lib.decDigits, dif_pos (by omega)]; simp
    | succ k ih =>
      intro u hu
      rw [Lib.decDigits]
      split
      · simp
      · have := ih (u / 10) (by rw [Nat.pow_succ] at hu; omega)
        simp; omega
  exact step 5 n (by omega)
theorem showTok_len (t : List UInt8) (h : t.length ≤ 400) : (showTok t).length ≤ 400 := by
  unfold showTok
  cases hn : numIn t with
  | none => exact h
  | some n => have := dec_len n (numIn_lt t n hn); simp only; omega
theorem lineK_len (ts : List (List UInt8)) (h : ∀ t ∈ ts, t.length ≤ 400) (k : Nat) : (lineK ts k).length ≤ 401 * k := by
  induction k with
  | zero => simp [lineK]
  | succ k ih =>
    have h1 : (showTok (ts.getD k [])).length ≤ 400 := by
      apply showTok_len
      by_cases hk : k < ts.length
      · have e : ts.getD k [] = ts[k] := by simp [List.getD, hk]
        rw [e]; exact h _ (List.getElem_mem hk)
      · simp [List.getD, hk]
    unfold lineK
    generalize showTok (ts.getD k []) = q at *
    split <;> simp <;> omega

theorem take_zero (st : List Int) : (take st 0).1 = false := by
  unfold take stmt expr
  repeat' split
  all_goals (first | rfl | simp_all)
/-- where all tokens may stand none of them is unknown. -/
theorem known (ts : List (List UInt8)) : ∀ (i : Nat) (st : List Int), (rdGo i st ts).2 = 0 → ∀ t ∈ ts, (tokenP t).1 ≠ 0 := by
  induction ts with
  | nil => simp
  | cons t ts ih =>
    intro i st h x hx
    unfold rdGo at h
    split at h
    · rename_i g
      rcases List.mem_cons.1 hx with rfl | hx'
      · intro h0
        rw [h0, take_zero] at g
        cases g
      · exact ih _ _ h x hx'
    · simp at h
theorem named_text (t : List UInt8) (h : numIn t = none) (hn : wordsL.idxOf t < 16 → False) (hk : (tokenP t).1 ≠ 0) :
    ∃ b : UInt8, 48 ≤ b.toNat ∧ b.toNat ≤ 51 ∧ ((t = [97, b] ∧ tokenP t = (2, (b.toNat : Int) - 48)) ∨ (t = [118, b] ∧ tokenP t = (3, (b.toNat : Int) - 48))) := by
  have e : tokenP t = named t := by rw [tokenP, if_neg hn, h]
  rw [e] at hk ⊢
  unfold named at hk ⊢
  by_cases sa : 0 ≤ slot t 97
  · rw [if_pos sa]
    obtain ⟨b, rfl, h1, h2⟩ := (slot_iff t 97).1 sa
    refine ⟨b, h1, h2, Or.inl ⟨rfl, ?_⟩⟩
    show (2, if (97 : UInt8) = 97 ∧ 48 ≤ b.toNat ∧ b.toNat ≤ 51 then (b.toNat : Int) - 48 else -1) = _
    rw [if_pos ⟨rfl, h1, h2⟩]
  · rw [if_neg sa] at hk ⊢
    by_cases sv : 0 ≤ slot t 118
    · rw [if_pos sv]
      obtain ⟨b, rfl, h1, h2⟩ := (slot_iff t 118).1 sv
      refine ⟨b, h1, h2, Or.inr ⟨rfl, ?_⟩⟩
      show (3, if (118 : UInt8) = 118 ∧ 48 ≤ b.toNat ∧ b.toNat ≤ 51 then (b.toNat : Int) - 48 else -1) = _
      rw [if_pos ⟨rfl, h1, h2⟩]
    · rw [if_neg sv] at hk
      exact absurd rfl hk
end Ck
end Go.Proofs.YtellilpeakpbfaaDoor
