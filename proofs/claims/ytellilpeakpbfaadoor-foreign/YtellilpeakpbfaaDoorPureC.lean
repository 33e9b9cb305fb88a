import Derived.Test.YtellilpeakpbfaaDoorPureB
/-
  Both say the same of every text.
-/
namespace Go.Proofs.YtellilpeakpbfaaDoor
namespace Ck

/-- what a token is to both: its kind; what must come behind it as a statement, as an expression; whether it is a variable, the one brace, the other. -/
def face (t : List UInt8) : Int × Option (List UInt8) × Option (List UInt8) × Bool × Bool × Bool :=
  ((tokenP t).1, follows t, wants t, decide (0 ≤ slot t 118), t == [123], t == [125])
def faces : List (Int × Option (List UInt8) × Option (List UInt8) × Bool × Bool × Bool) :=
  [(0, none, none, false, false, false), (1, none, some [], false, false, false), (2, none, some [], false, false, false), (3, none, some [], true, false, false),
   (4, none, some [101, 101], false, false, false), (5, none, some [101, 101], false, false, false), (6, none, some [101, 101], false, false, false), (7, none, some [101, 101], false, false, false), (8, none, some [101, 101], false, false, false),
   (9, none, some [101], false, false, false), (10, none, some [101], false, false, false),
   (11, some [118, 101], none, false, false, false), (12, some [101, 101], none, false, false, false), (13, some [101], none, false, false, false),
   (14, some [101, 123, 115, 125, 123, 115, 125], none, false, false, false), (15, some [101, 123, 115, 125], none, false, false, false), (16, some [101], none, false, false, false), (17, some [], none, false, false, false),
   (18, none, none, false, true, false), (19, none, none, false, false, true)]

theorem slot_iff (t : List UInt8) (c : UInt8) : 0 ≤ slot t c ↔ ∃ b : UInt8, t = [c, b] ∧ 48 ≤ b.toNat ∧ b.toNat ≤ 51 := by
  constructor
  · intro h
    match t, h with
    | [], h => simp [slot] at h
    | [a], h => simp [slot] at h
    | [a, b], h =>
      unfold slot at h
      simp only at h
      split at h
      · rename_i g
        exact ⟨b, by rw [g.1], g.2.1, g.2.2⟩
      · simp at h
    | a :: b :: d :: r, h => simp [slot] at h
  · rintro ⟨b, rfl, h1, h2⟩
    show (0 : Int) ≤ if c = c ∧ 48 ≤ b.toNat ∧ b.toNat ≤ 51 then (b.toNat : Int) - 48 else -1
    rw [if_pos ⟨rfl, h1, h2⟩]
    omega
theorem num_slot (t : List UInt8) (n : Nat) (h : numIn t = some n) (c : UInt8) (hc : isDig c = false) : ¬ 0 ≤ slot t c := by
  intro hs
  obtain ⟨b, rfl, _⟩ := (slot_iff t c).1 hs
  unfold numIn at h
  split at h
  · rename_i g
    have := g.2.2 c (by simp)
    rw [this] at hc; cases hc
  · cases h
theorem face_other (t : List UInt8) (ht : t ≠ []) (hi : ∀ x ∈ wordsL, t ≠ x) : face t ∈ faces := by
  have hidx : ¬ wordsL.idxOf t < 16 := by
    intro c
    have hc : wordsL.idxOf t < wordsL.length := c
    have := List.getElem_idxOf hc
    exact hi _ (List.getElem_mem hc) this.symm
  have hf : follows t = none := by
    simp only [wordsL, List.mem_cons, List.not_mem_nil, or_false, forall_eq_or_imp, forall_eq] at hi
    simp [follows, hi]
  have hw : wants t = if 0 ≤ numberR t ∨ 0 ≤ slot t 97 ∨ 0 ≤ slot t 118 then some [] else none := by
    simp only [wordsL, List.mem_cons, List.not_mem_nil, or_false, forall_eq_or_imp, forall_eq] at hi
    simp [wants, hi]
  have h1 : (t == [123]) = false := beq_eq_false_iff_ne.2 (hi _ (by simp [wordsL]))
  have h2 : (t == [125]) = false := beq_eq_false_iff_ne.2 (hi _ (by simp [wordsL]))
  have hk : tokenP t = match numIn t with | some n => (1, (n : Int)) | none => named t := by rw [tokenP, if_neg hidx]; cases numIn t <;> rfl
  unfold face
  rw [hf, h1, h2, hw, hk, numR_iff t ht]
  cases hn : numIn t with
  | some n =>
    have s1 := num_slot t n hn 118 (by decide)
    simp [faces, s1]
  | none =>
    simp only [named]
    by_cases sa : 0 ≤ slot t 97
    · have sv : ¬ 0 ≤ slot t 118 := by
        intro hs
        obtain ⟨b, e1, _⟩ := (slot_iff t 97).1 sa
        obtain ⟨b', e2, _⟩ := (slot_iff t 118).1 hs
        rw [e1] at e2; simp at e2
      simp [faces, sa, sv]
    · by_cases sv : 0 ≤ slot t 118
      · simp [faces, sa, sv]
      · simp [faces, sa, sv]
theorem face_word : ∀ x ∈ wordsL, face x ∈ faces := by decide +kernel
theorem face_any (t : List UInt8) (ht : t ≠ []) : face t ∈ faces := by
  by_cases h : t ∈ wordsL
  · exact face_word t h
  · exact face_other t ht (fun x hx e => h (by rw [e]; exact hx))

def enc (x : Int) : List UInt8 := if x = 1 then [115] else if x = 2 then [115, 125] else if x = 3 then [123, 115, 125] else if x = 4 then [118] else [101]
def encS (st : List Int) : List UInt8 := st.flatMap enc
def In (x : Int) : Prop := x = 2 ∨ x = 3 ∨ x = 4 ∨ x = 5
def Valid (st : List Int) : Prop := ∃ r, st = r ++ [1] ∧ ∀ x ∈ r, In x
theorem Valid.body : Valid [1] := ⟨[], rfl, by simp⟩
theorem Valid.cons (x : Int) (r : List Int) (hx : In x) (hr : Valid r) : Valid (x :: r) := by
  obtain ⟨q, rfl, hq⟩ := hr
  refine ⟨x :: q, rfl, fun y hy => ?_⟩
  rcases List.mem_cons.1 hy with h | h
  · rw [h]; exact hx
  · exact hq y h
theorem Valid.ways {st : List Int} (h : Valid st) : st = [1] ∨ ∃ x r, st = x :: r ∧ In x ∧ Valid r := by
  obtain ⟨q, rfl, hq⟩ := h
  cases q with
  | nil => exact Or.inl rfl
  | cons x q => exact Or.inr ⟨x, q ++ [1], rfl, hq x (by simp), q, rfl, fun y hy => hq y (by simp [hy])⟩

theorem step_body (t : List UInt8) (hf : face t ∈ faces) :
    (take [1] (tokenP t).1).1 = (after (encS [1]) t).2 ∧ ((take [1] (tokenP t).1).1 = true → encS (take [1] (tokenP t).1).2 = (after (encS [1]) t).1 ∧ Valid (take [1] (tokenP t).1).2) := by
  have e : encS [1] = [115] := rfl
  rw [e]
  simp only [faces, face, List.mem_cons, List.not_mem_nil, or_false, Prod.mk.injEq] at hf
  rcases hf with ⟨h1, h2, _⟩ | ⟨h1, h2, _⟩ | ⟨h1, h2, _⟩ | ⟨h1, h2, _⟩ | ⟨h1, h2, _⟩ | ⟨h1, h2, _⟩ | ⟨h1, h2, _⟩ | ⟨h1, h2, _⟩ | ⟨h1, h2, _⟩ | ⟨h1, h2, _⟩ | ⟨h1, h2, _⟩ | ⟨h1, h2, _⟩ | ⟨h1, h2, _⟩ | ⟨h1, h2, _⟩ | ⟨h1, h2, _⟩ | ⟨h1, h2, _⟩ | ⟨h1, h2, _⟩ | ⟨h1, h2, _⟩ | ⟨h1, h2, _⟩ | ⟨h1, h2, _⟩
  all_goals rw [h1]
  all_goals first
    | (rw [after_s' _ _ h2, after_nil]; exact ⟨rfl, fun h => by simp [take_cons, stmt] at h⟩)
    | (rw [after_s _ _ _ h2]
       refine ⟨rfl, fun _ => ⟨rfl, ?_⟩⟩
       simp only [take_cons, stmt]
       repeat (first | exact Valid.body | (refine Valid.cons _ _ (by simp [In]) ?_)))
theorem encS_cons (x : Int) (r : List Int) : encS (x :: r) = enc x ++ encS r := by simp [encS]
theorem step_in (x : Int) (r : List Int) (t : List UInt8) (hx : In x) (hr : Valid r) (hf : face t ∈ faces) :
    (take (x :: r) (tokenP t).1).1 = (after (encS (x :: r)) t).2 ∧ ((take (x :: r) (tokenP t).1).1 = true → encS (take (x :: r) (tokenP t).1).2 = (after (encS (x :: r)) t).1 ∧ Valid (take (x :: r) (tokenP t).1).2) := by
  simp only [faces, face, List.mem_cons, List.not_mem_nil, or_false, Prod.mk.injEq] at hf
  rcases hx with rfl | rfl | rfl | rfl
  · have e : encS (2 :: r) = 115 :: 125 :: encS r := rfl
    rw [e]
    rcases hf with ⟨h1, h2, h3, h4, h5, h6⟩ | ⟨h1, h2, h3, h4, h5, h6⟩ | ⟨h1, h2, h3, h4, h5, h6⟩ | ⟨h1, h2, h3, h4, h5, h6⟩ | ⟨h1, h2, h3, h4, h5, h6⟩ | ⟨h1, h2, h3, h4, h5, h6⟩ | ⟨h1, h2, h3, h4, h5, h6⟩ | ⟨h1, h2, h3, h4, h5, h6⟩ | ⟨h1, h2, h3, h4, h5, h6⟩ | ⟨h1, h2, h3, h4, h5, h6⟩ | ⟨h1, h2, h3, h4, h5, h6⟩ | ⟨h1, h2, h3, h4, h5, h6⟩ | ⟨h1, h2, h3, h4, h5, h6⟩ | ⟨h1, h2, h3, h4, h5, h6⟩ | ⟨h1, h2, h3, h4, h5, h6⟩ | ⟨h1, h2, h3, h4, h5, h6⟩ | ⟨h1, h2, h3, h4, h5, h6⟩ | ⟨h1, h2, h3, h4, h5, h6⟩ | ⟨h1, h2, h3, h4, h5, h6⟩ | ⟨h1, h2, h3, h4, h5, h6⟩
    all_goals rw [h1]
    all_goals first
      | (rw [after_s' _ _ h2, after_c _ _ _ (by decide) (by decide) (by decide), h6]
         refine ⟨by simp [take_cons, stmt], fun h => ?_⟩
         first
           | (simp [take_cons, stmt] at h; done)
           | exact ⟨by simp [take_cons], by simpa [take_cons] using hr⟩)
      | (rw [after_s _ _ _ h2]
         refine ⟨by simp [take_cons, stmt], fun _ => ⟨by simp [take_cons, stmt, encS_cons, enc], ?_⟩⟩
         simp only [take_cons, stmt]
         repeat (first | exact hr | (refine Valid.cons _ _ (by simp [In]) ?_)))
  · have e : encS (3 :: r) = 123 :: 115 :: 125 :: encS r := rfl
    rw [e]
    rcases hf with ⟨h1, h2, h3, h4, h5, h6⟩ | ⟨h1, h2, h3, h4, h5, h6⟩ | ⟨h1, h2, h3, h4, h5, h6⟩ | ⟨h1, h2, h3, h4, h5, h6⟩ | ⟨h1, h2, h3, h4, h5, h6⟩ | ⟨h1, h2, h3, h4, h5, h6⟩ | ⟨h1, h2, h3, h4, h5, h6⟩ | ⟨h1, h2, h3, h4, h5, h6⟩ | ⟨h1, h2, h3, h4, h5, h6⟩ | ⟨h1, h2, h3, h4, h5, h6⟩ | ⟨h1, h2, h3, h4, h5, h6⟩ | ⟨h1, h2, h3, h4, h5, h6⟩ | ⟨h1, h2, h3, h4, h5, h6⟩ | ⟨h1, h2, h3, h4, h5, h6⟩ | ⟨h1, h2, h3, h4, h5, h6⟩ | ⟨h1, h2, h3, h4, h5, h6⟩ | ⟨h1, h2, h3, h4, h5, h6⟩ | ⟨h1, h2, h3, h4, h5, h6⟩ | ⟨h1, h2, h3, h4, h5, h6⟩ | ⟨h1, h2, h3, h4, h5, h6⟩
    all_goals rw [h1, after_c _ _ _ (by decide) (by decide) (by decide), h5]
    all_goals
      refine ⟨by simp [take_cons], fun h => ?_⟩
      first
        | (simp [take_cons] at h; done)
        | exact ⟨by simp [take_cons, encS_cons, enc], by simpa [take_cons] using Valid.cons 2 r (by simp [In]) hr⟩
  · have e : encS (4 :: r) = 118 :: encS r := rfl
    rw [e]
    rcases hf with ⟨h1, h2, h3, h4, h5, h6⟩ | ⟨h1, h2, h3, h4, h5, h6⟩ | ⟨h1, h2, h3, h4, h5, h6⟩ | ⟨h1, h2, h3, h4, h5, h6⟩ | ⟨h1, h2, h3, h4, h5, h6⟩ | ⟨h1, h2, h3, h4, h5, h6⟩ | ⟨h1, h2, h3, h4, h5, h6⟩ | ⟨h1, h2, h3, h4, h5, h6⟩ | ⟨h1, h2, h3, h4, h5, h6⟩ | ⟨h1, h2, h3, h4, h5, h6⟩ | ⟨h1, h2, h3, h4, h5, h6⟩ | ⟨h1, h2, h3, h4, h5, h6⟩ | ⟨h1, h2, h3, h4, h5, h6⟩ | ⟨h1, h2, h3, h4, h5, h6⟩ | ⟨h1, h2, h3, h4, h5, h6⟩ | ⟨h1, h2, h3, h4, h5, h6⟩ | ⟨h1, h2, h3, h4, h5, h6⟩ | ⟨h1, h2, h3, h4, h5, h6⟩ | ⟨h1, h2, h3, h4, h5, h6⟩ | ⟨h1, h2, h3, h4, h5, h6⟩
    all_goals rw [h1, after_v, h4]
    all_goals
      refine ⟨by simp [take_cons], fun h => ?_⟩
      first
        | (simp [take_cons] at h; done)
        | exact ⟨by simp [take_cons], by simpa [take_cons] using hr⟩
  · have e : encS (5 :: r) = 101 :: encS r := rfl
    rw [e]
    rcases hf with ⟨h1, h2, h3, h4, h5, h6⟩ | ⟨h1, h2, h3, h4, h5, h6⟩ | ⟨h1, h2, h3, h4, h5, h6⟩ | ⟨h1, h2, h3, h4, h5, h6⟩ | ⟨h1, h2, h3, h4, h5, h6⟩ | ⟨h1, h2, h3, h4, h5, h6⟩ | ⟨h1, h2, h3, h4, h5, h6⟩ | ⟨h1, h2, h3, h4, h5, h6⟩ | ⟨h1, h2, h3, h4, h5, h6⟩ | ⟨h1, h2, h3, h4, h5, h6⟩ | ⟨h1, h2, h3, h4, h5, h6⟩ | ⟨h1, h2, h3, h4, h5, h6⟩ | ⟨h1, h2, h3, h4, h5, h6⟩ | ⟨h1, h2, h3, h4, h5, h6⟩ | ⟨h1, h2, h3, h4, h5, h6⟩ | ⟨h1, h2, h3, h4, h5, h6⟩ | ⟨h1, h2, h3, h4, h5, h6⟩ | ⟨h1, h2, h3, h4, h5, h6⟩ | ⟨h1, h2, h3, h4, h5, h6⟩ | ⟨h1, h2, h3, h4, h5, h6⟩
    all_goals rw [h1, after_e, h3]
    all_goals
      refine ⟨by simp [take_cons, expr], fun h => ?_⟩
      first
        | (simp [take_cons, expr] at h; done)
        | (refine ⟨by simp [take_cons, expr, encS_cons, enc], ?_⟩
           simp only [take_cons, expr]
           repeat (first | exact hr | (refine Valid.cons _ _ (by simp [In]) ?_)))

theorem step_any (st : List Int) (t : List UInt8) (hv : Valid st) (ht : t ≠ []) :
    (take st (tokenP t).1).1 = (after (encS st) t).2 ∧ ((take st (tokenP t).1).1 = true → encS (take st (tokenP t).1).2 = (after (encS st) t).1 ∧ Valid (take st (tokenP t).1).2) := by
  rcases hv.ways with rfl | ⟨x, r, rfl, hx, hr⟩
  · exact step_body t (face_any t ht)
  · exact step_in x r t hx hr (face_any t ht)
theorem end_any (st : List Int) (hv : Valid st) : (∀ c ∈ encS st, c = 115) ↔ st = [1] := by
  rcases hv.ways with rfl | ⟨x, r, rfl, hx, hr⟩
  · simp [encS, enc]
  · constructor
    · intro h
      exfalso
      rw [encS_cons] at h
      rcases hx with rfl | rfl | rfl | rfl
      · have := h 125 (by simp [enc]); revert this; decide
      · have := h 123 (by simp [enc]); revert this; decide
      · have := h 118 (by simp [enc]); revert this; decide
      · have := h 101 (by simp [enc]); revert this; decide
    · intro h
      simp at h
      rcases hx with rfl | rfl | rfl | rfl <;> simp at h
theorem go_same (ts : List (List UInt8)) : ∀ (i : Nat) (st : List Int), Valid st → (∀ t ∈ ts, t ≠ []) → rdGo i st ts = chkGo i (encS st) ts := by
  induction ts with
  | nil =>
    intro i st hv _
    unfold rdGo chkGo
    by_cases h : st = [1]
    · rw [if_pos h, if_pos ((end_any st hv).2 h)]
    · rw [if_neg h, if_neg (fun g => h ((end_any st hv).1 g))]
  | cons t ts ih =>
    intro i st hv ht
    obtain ⟨h1, h2⟩ := step_any st t hv (ht t (by simp))
    unfold rdGo chkGo
    rw [← h1]
    by_cases h : (take st (tokenP t).1).1 = true
    · rw [if_pos h, if_pos h, ih _ _ (h2 h).2 (fun x hx => ht x (by simp [hx])), (h2 h).1]
    · rw [if_neg h, if_neg h]
/-- ████ -/
theorem read_same (l : List UInt8) : read l = refCheck l := by
  unfold read refCheck
  split
  · rfl
  · exact go_same (toks l) 0 [1] Valid.body (toks_len l).2.1

end Ck
end Go.Proofs.YtellilpeakpbfaaDoor
