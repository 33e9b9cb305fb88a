import Derived.Test.YtellilpeakpbfaaDoorPure
/-
  More plain mathematics: what must still come as the document's answer keeps it; that both say the same.
-/
namespace Go.Proofs.YtellilpeakpbfaaDoor
namespace Ck

/-- what must still come behind the token t; false: it cannot stand. -/
def after : List UInt8 → List UInt8 → List UInt8 × Bool
  | [], _ => ([], false)
  | c :: r, t =>
    if c = 115 then match follows t with
      | some f => (f ++ c :: r, true)
      | none => after r t
    else if c = 101 then (((wants t).getD []) ++ r, (wants t).isSome)
    else if c = 118 then (r, decide (0 ≤ slot t 118))
    else (r, t == [c])

theorem after_nil (t : List UInt8) : after [] t = ([], false) := rfl
theorem after_s (r t f : List UInt8) (h : follows t = some f) : after (115 :: r) t = (f ++ 115 :: r, true) := by simp [after, h]
theorem after_s' (r t : List UInt8) (h : follows t = none) : after (115 :: r) t = after r t := by simp [after, h]
theorem after_e (r t : List UInt8) : after (101 :: r) t = (((wants t).getD []) ++ r, (wants t).isSome) := by simp [after]
theorem after_v (r t : List UInt8) : after (118 :: r) t = (r, decide (0 ≤ slot t 118)) := by simp [after]
theorem after_c (c : UInt8) (r t : List UInt8) (h1 : c ≠ 115) (h2 : c ≠ 101) (h3 : c ≠ 118) : after (c :: r) t = (r, t == [c]) := by simp [after, h1, h2, h3]

/-- the document's answer, from the i-th token on. -/
def chkGo (i : Nat) (still : List UInt8) : List (List UInt8) → Int × Int
  | [] => if ∀ c ∈ still, c = 115 then (0, 0) else (i, 2)
  | t :: ts => if (after still t).2 = true then chkGo (i + 1) (after still t).1 ts else (i, 2)
def refCheck (l : List UInt8) : Int × Int := if 400 < l.length then (0, 1) else chkGo 0 [115] (toks l)
/-- the program's, likewise. -/
def rdGo (i : Nat) (st : List Int) : List (List UInt8) → Int × Int
  | [] => if st = [1] then (0, 0) else (i, 2)
  | t :: ts => if (take st (tokenP t).1).1 = true then rdGo (i + 1) (take st (tokenP t).1).2 ts else (i, 2)
def read (l : List UInt8) : Int × Int := if 400 < l.length then (0, 1) else rdGo 0 [1] (toks l)
theorem after_len (s t : List UInt8) : (after s t).1.length ≤ s.length + 7 := by
  induction s with
  | nil => simp [after]
  | cons c r ih =>
    have hw : ((wants t).getD []).length ≤ 2 := by
      unfold wants; repeat' split
      all_goals simp
    by_cases h1 : c = 115
    · subst h1
      cases hf : follows t with
      | none => rw [after_s' _ _ hf]; simp; omega
      | some f =>
        rw [after_s _ _ _ hf]
        have hl : f.length ≤ 7 := by
          unfold follows at hf
          repeat' split at hf
          all_goals (first | (cases hf; done) | (cases hf; simp))
        simp; omega
    by_cases h2 : c = 101
    · subst h2; rw [after_e]; simp; omega
    by_cases h3 : c = 118
    · subst h3; rw [after_v]; simp; omega
    rw [after_c _ _ _ h1 h2 h3]; simp; omega

end Ck
end Go.Proofs.YtellilpeakpbfaaDoor
