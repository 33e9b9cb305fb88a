import Derived.Below
/-
  The plain mathematics of Check: tokens, kinds, what must still come; no Go text.
-/
namespace Go.Proofs.YtellilpeakpbfaaDoor
open Go.RowKit
theorem hide {p : Prop} (h : p) : Hid p := h
namespace Ck

/-- blank or newline. -/
def isSp (c : UInt8) : Bool := c == 32 || c == 10
def isDig (c : UInt8) : Bool := decide (48 ≤ c.toNat) && decide (c.toNat ≤ 57)
theorem isDig_iff (c : UInt8) : isDig c = true ↔ 48 ≤ c.toNat ∧ c.toNat ≤ 57 := by simp [isDig]

/-- One byte more: the tokens that are done, the one that is begun. -/
def stepT (p : List (List UInt8) × List UInt8) (c : UInt8) : List (List UInt8) × List UInt8 :=
  if isSp c then (if p.2.isEmpty then (p.1, []) else (p.1 ++ [p.2], [])) else (p.1, p.2 ++ [c])
def scan (l : List UInt8) : List (List UInt8) × List UInt8 := l.foldl stepT ([], [])
def toks (l : List UInt8) : List (List UInt8) := if (scan l).2.isEmpty then (scan l).1 else (scan l).1 ++ [(scan l).2]

theorem scan_nil : scan [] = ([], []) := rfl
theorem scan_snoc (l : List UInt8) (c : UInt8) : scan (l ++ [c]) = stepT (scan l) c := by simp [scan]

/-- the value of digits. -/
def val (l : List UInt8) : Nat := l.foldl (fun n c => 10 * n + (c.toNat - 48)) 0
theorem val_snoc (l : List UInt8) (c : UInt8) : val (l ++ [c]) = 10 * val l + (c.toNat - 48) := by simp [val]
theorem snoc_ind {α : Type} {P : List α → Prop} (h0 : P []) (h1 : ∀ l c, P l → P (l ++ [c])) (l : List α) : P l := by
  rw [show l = l.reverse.reverse by simp]
  induction l.reverse with
  | nil => exact h0
  | cons c r ih => rw [List.reverse_cons]; exact h1 _ _ ih
theorem val_lt (l : List UInt8) : (∀ c ∈ l, isDig c = true) → val l < 10 ^ l.length := by
  induction l using snoc_ind with
  | h0 => simp [val]
  | h1 l c ih =>
    intro h
    rw [val_snoc]
    have h1 := ih (fun d hd => h d (by simp [hd]))
    have h2 := (isDig_iff c).1 (h c (by simp))
    simp only [List.length_append, List.length_cons, List.length_nil, Nat.pow_succ, Nat.zero_add] at h1 ⊢
    omega

/-- a0 to a3, v0 to v3 (c the letter): the number; -1: none. -/
def slot (l : List UInt8) (c : UInt8) : Int :=
  match l with
  | [a, b] => if a = c ∧ 48 ≤ b.toNat ∧ b.toNat ≤ 51 then (b.toNat : Int) - 48 else -1
  | _ => -1
theorem slot_ne (l : List UInt8) (c : UInt8) (h : l.length ≠ 2) : slot l c = -1 := by
  match l, h with
  | [], _ => rfl
  | [a], _ => rfl
  | [a, b], h => simp at h
  | a :: b :: d :: r, _ => rfl

/-- a number of at most six digits (the empty text too); -1: none. -/
def numberR (l : List UInt8) : Int := if l.length ≤ 6 ∧ ∀ c ∈ l, isDig c = true then (val l : Int) else if l = [] then 0 else -1

/-- a number of one to six digits. -/
def numIn (l : List UInt8) : Option Nat := if 1 ≤ l.length ∧ l.length ≤ 6 ∧ ∀ c ∈ l, isDig c = true then some (val l) else none
theorem numR_iff (l : List UInt8) (h : l ≠ []) : numberR l = match numIn l with | some n => (n : Int) | none => -1 := by
  have h1 : 1 ≤ l.length := by cases l <;> simp_all
  unfold numberR numIn
  by_cases g : l.length ≤ 6 ∧ ∀ c ∈ l, isDig c = true
  · rw [if_pos g, if_pos ⟨h1, g⟩]
  · rw [if_neg g, if_neg h, if_neg (fun x => g x.2)]

/-- the words, as package source lists them. -/
def wordsL : List (List UInt8) := [[43], [45], [42], [60], [61], [64], [35], [115, 101, 116], [112, 117, 116], [100, 101, 108], [105, 102], [119, 104, 105, 108, 101], [115, 116, 111, 112], [102, 97, 105, 108], [123], [125]]
/-- an argument or a variable: the kind and the number. -/
def named (l : List UInt8) : Int × Int :=
  if 0 ≤ slot l 97 then (2, slot l 97) else if 0 ≤ slot l 118 then (3, slot l 118) else (0, 0)
/-- a token's kind and value. -/
def tokenP (l : List UInt8) : Int × Int :=
  if wordsL.idxOf l < 16 then (4 + (wordsL.idxOf l : Int), 0) else
  match numIn l with
  | some n => (1, n)
  | none => named l

/-- what must come behind a word that begins a statement. -/
def follows (t : List UInt8) : Option (List UInt8) :=
  if t = [115, 101, 116] then some [118, 101] else if t = [112, 117, 116] then some [101, 101] else if t = [100, 101, 108] then some [101] else if t = [115, 116, 111, 112] then some [101] else
  if t = [105, 102] then some [101, 123, 115, 125, 123, 115, 125] else if t = [119, 104, 105, 108, 101] then some [101, 123, 115, 125] else if t = [102, 97, 105, 108] then some [] else none
/-- what must come behind a token that begins an expression. -/
def wants (t : List UInt8) : Option (List UInt8) :=
  if t = [43] then some [101, 101] else if t = [45] then some [101, 101] else if t = [42] then some [101, 101] else if t = [60] then some [101, 101] else if t = [61] then some [101, 101] else
  if t = [64] then some [101] else if t = [35] then some [101] else
  if 0 ≤ numberR t ∨ 0 ≤ slot t 97 ∨ 0 ≤ slot t 118 then some [] else none

/-- what must still come behind a statement's first token (a: the body or block around it). -/
def stmt (a : Int) (r : List Int) (k : Int) : Bool × List Int :=
  if k = 11 then (true, 4 :: 5 :: a :: r) else if k = 12 then (true, 5 :: 5 :: a :: r) else if k = 13 then (true, 5 :: a :: r) else if k = 16 then (true, 5 :: a :: r) else
  if k = 14 then (true, 5 :: 3 :: 3 :: a :: r) else if k = 15 then (true, 5 :: 3 :: a :: r) else if k = 17 then (true, a :: r) else (false, a :: r)
/-- .. behind an expression's. -/
def expr (r : List Int) (k : Int) : Bool × List Int :=
  if k = 1 ∨ k = 2 ∨ k = 3 then (true, r) else if k = 4 ∨ k = 5 ∨ k = 6 ∨ k = 7 ∨ k = 8 then (true, 5 :: 5 :: r) else if k = 9 ∨ k = 10 then (true, 5 :: r) else (false, r)
/-- one token of kind k. -/
def take (st : List Int) (k : Int) : Bool × List Int :=
  if st.headD 0 = 1 then stmt 1 st.tail k else
  if st.headD 0 = 2 then (if k = 19 then (true, st.tail) else stmt 2 st.tail k) else
  if st.headD 0 = 3 then (decide (k = 18), 2 :: st.tail) else
  if st.headD 0 = 4 then (decide (k = 3), st.tail) else
  if st.headD 0 = 5 then expr st.tail k else (false, st.tail)
theorem stmt_len (a : Int) (r : List Int) (k : Int) : (stmt a r k).2.length ≤ r.length + 4 := by
  unfold stmt; repeat' split
  all_goals simp
theorem expr_len (r : List Int) (k : Int) : (expr r k).2.length ≤ r.length + 2 := by
  unfold expr; repeat' split
  all_goals simp
theorem take_len (st : List Int) (k : Int) : (take st k).2.length ≤ st.length + 4 := by
  have h1 := stmt_len 1 st.tail k
  have h2 := stmt_len 2 st.tail k
  have h3 := expr_len st.tail k
  have h4 : st.tail.length ≤ st.length := by simp
  unfold take; repeat' split
  all_goals (try simp only [List.length_cons]); omega

theorem take_cons (x : Int) (r : List Int) (k : Int) : take (x :: r) k =
    if x = 1 then stmt 1 r k else if x = 2 then (if k = 19 then (true, r) else stmt 2 r k) else if x = 3 then (decide (k = 18), 2 :: r) else if x = 4 then (decide (k = 3), r) else if x = 5 then expr r k else (false, r) := rfl

theorem scan_done (l : List UInt8) (c : UInt8) (h : isSp c = true) (hn : (scan l).2 ≠ []) : scan (l ++ [c]) = ((scan l).1 ++ [(scan l).2], []) := by
  rw [scan_snoc, stepT, if_pos h, if_neg (by simpa using hn)]
theorem scan_gap (l : List UInt8) (c : UInt8) (h : isSp c = true) (hn : (scan l).2 = []) : scan (l ++ [c]) = ((scan l).1, []) := by
  rw [scan_snoc, stepT, if_pos h, if_pos (by simpa using hn)]
theorem scan_more (l : List UInt8) (c : UInt8) (h : isSp c = false) : scan (l ++ [c]) = ((scan l).1, (scan l).2 ++ [c]) := by
  rw [scan_snoc, stepT, if_neg (by simp [h])]
theorem toks_end (l : List UInt8) (hn : (scan l).2 ≠ []) : toks l = (scan l).1 ++ [(scan l).2] := by
  rw [toks, if_neg (by simpa using hn)]
theorem toks_gap (l : List UInt8) (hn : (scan l).2 = []) : toks l = (scan l).1 := by
  rw [toks, if_pos (by simpa using hn)]
theorem drop_ne (l : List UInt8) (b k : Nat) (h : b < k) (hk : k ≤ l.length) : (l.take k).drop b ≠ [] := by
  intro h0
  have := congrArg List.length h0
  simp at this
  omega
theorem drop_all (l : List UInt8) (k : Nat) : (l.take k).drop k = [] := by
  apply List.drop_eq_nil_of_le; simp; omega
theorem scan_len (l : List UInt8) : (scan l).1.length ≤ l.length ∧ (∀ t ∈ (scan l).1, t ≠ []) ∧ (∀ t ∈ (scan l).1, t.length ≤ l.length) ∧ (scan l).2.length ≤ l.length := by
  induction l using snoc_ind with
  | h0 => simp [scan]
  | h1 l c ih =>
    obtain ⟨h1, h2, h3, h4⟩ := ih
    by_cases hc : isSp c = true
    · by_cases hn : (scan l).2 = []
      · rw [scan_gap l c hc hn]
        refine ⟨by simp; omega, h2, fun t ht => by have := h3 t ht; simp; omega, by simp⟩
      · rw [scan_done l c hc hn]
        refine ⟨by simp; omega, ?_, ?_, by simp⟩
        · intro t ht
          rcases List.mem_append.1 ht with h | h
          · exact h2 t h
          · simp at h; rw [h]; exact hn
        · intro t ht
          rcases List.mem_append.1 ht with h | h
          · have := h3 t h; simp; omega
          · simp at h; rw [h]; simp; omega
    · rw [scan_more l c (by simpa using hc)]
      exact ⟨by simp; omega, h2, fun t ht => by have := h3 t ht; simp; omega, by simp; omega⟩
theorem toks_len (l : List UInt8) : (toks l).length ≤ l.length + 1 ∧ (∀ t ∈ toks l, t ≠ []) ∧ (∀ t ∈ toks l, t.length ≤ l.length) := by
  obtain ⟨h1, h2, h3, h4⟩ := scan_len l
  by_cases hn : (scan l).2 = []
  · rw [toks_gap l hn]; exact ⟨by omega, h2, h3⟩
  · rw [toks_end l hn]
    refine ⟨by simp; omega, ?_, ?_⟩
    · intro t ht
      rcases List.mem_append.1 ht with h | h
      · exact h2 t h
      · simp at h; rw [h]; exact hn
    · intro t ht
      rcases List.mem_append.1 ht with h | h
      · exact h3 t h
      · simp at h; rw [h]; exact h4

end Ck
end Go.Proofs.YtellilpeakpbfaaDoor
