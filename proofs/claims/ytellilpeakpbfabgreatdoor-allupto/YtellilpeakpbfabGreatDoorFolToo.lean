import Derived.Below
import Derived.Test.YtellilpeakpbfabGreatDoorRows
import Derived.WalkKit
import Derived.WalkSpells
import Derived.WalkLawsBesides
section
/-
  The plain mathematics of Check: tokens, kinds, what must still come; no Go text.
-/
namespace Go.Proofs.YtellilpeakpbfabGreatDoor
open Go.RowKit
theorem hide {p : Prop} (h : p) : Hid p := h
namespace Ck

/-- blank or newline. -/
def isSp (c : UInt8) : Bool := c == 32 || c == 10
def isDig (c : UInt8) : Bool := decide (48 ≤ c.toNat) && decide (c.toNat ≤ 57)
theorem isDig_iff (c : UInt8) : isDig c = true ↔ 48 ≤ c.toNat ∧ c.toNat ≤ 57 := by simp [isDig]

/-- One byte more: the tokens that are done, the one that is begun. -/
def stepT (p : List (List UInt8) × List UInt8) (c : UInt8) : List (List UInt8) × List UInt8 :=
  if isSp c then (if p.2.isEmpty then (p.1, []) else (p.1 ++ [p.2], [])) else (p.1, p.2 ++ [c])
def scan (l : List UInt8) : List (List UInt8) × List UInt8 := l.foldl stepT ([], [])
def toks (l : List UInt8) : List (List UInt8) := if (scan l).2.isEmpty then (scan l).1 else (scan l).1 ++ [(scan l).2]

theorem scan_snoc (l : List UInt8) (c : UInt8) : scan (l ++ [c]) = stepT (scan l) c := by simp [scan]

/-- the value of digits. -/
def val (l : List UInt8) : Nat := l.foldl (fun n c => 10 * n + (c.toNat - 48)) 0
theorem val_snoc (l : List UInt8) (c : UInt8) : val (l ++ [c]) = 10 * val l + (c.toNat - 48) := by simp [val]
theorem snoc_ind {α : Type} {P : List α → Prop} (h0 : P []) (h1 : ∀ l c, P l → P (l ++ [c])) (l : List α) : P l := by
  rw [show l = l.reverse.reverse by simp]
  induction l.reverse with
  | nil => exact h0
  | cons c r ih => rw [List.reverse_cons]; exact h1 _ _ ih
theorem val_lt (l : List UInt8) : (∀ c ∈ l, isDig c = true) → val l < 10 ^ l.length := by
  induction l using snoc_ind with
  | h0 => simp [val]
  | h1 l c ih =>
    intro h
    rw [val_snoc]
    have h1 := ih (fun d hd => h d (by simp [hd]))
    have h2 := (isDig_iff c).1 (h c (by simp))
    simp only [List.length_append, List.length_cons, List.length_nil, Nat.pow_succ, Nat.zero_add] at h1 ⊢
    omega

/-- a0 to a3, v0 to v3 (c the letter): the number; -1: none. -/
def slot (l : List UInt8) (c : UInt8) : Int :=
  match l with
  | [a, b] => if a = c ∧ 48 ≤ b.toNat ∧ b.toNat ≤ 51 then (b.toNat : Int) - 48 else -1
  | _ => -1
theorem slot_ne (l : List UInt8) (c : UInt8) (h : l.length ≠ 2) : slot l c = -1 := by
  match l, h with
  | [], _ => rfl
  | [a], _ => rfl
  | [a, b], h => simp at h
  | a :: b :: d :: r, _ => rfl

/-- a number of at most six digits (the empty text too); -1: none. -/
def numberR (l : List UInt8) : Int := if l.length ≤ 6 ∧ ∀ c ∈ l, isDig c = true then (val l : Int) else if l = [] then 0 else -1

/-- a number of one to six digits. -/
def numIn (l : List UInt8) : Option Nat := if 1 ≤ l.length ∧ l.length ≤ 6 ∧ ∀ c ∈ l, isDig c = true then some (val l) else none
theorem numR_iff (l : List UInt8) (h : l ≠ []) : numberR l = match numIn l with | some n => (n : Int) | none => -1 := by
  have h1 : 1 ≤ l.length := by cases l <;> simp_all
  unfold numberR numIn
  by_cases g : l.length ≤ 6 ∧ ∀ c ∈ l, isDig c = true
  · rw [if_pos g, if_pos ⟨h1, g⟩]
  · rw [if_neg g, if_neg h, if_neg (fun x => g x.2)]

/-- the words, as package source lists them. -/
def wordsL : List (List UInt8) := [[43], [45], [42], [60], [61], [64], [35], [115, 101, 116], [112, 117, 116], [100, 101, 108], [105, 102], [119, 104, 105, 108, 101], [115, 116, 111, 112], [102, 97, 105, 108], [123], [125]]
/-- an argument or a variable: the kind and the number. -/
def named (l : List UInt8) : Int × Int :=
  if 0 ≤ slot l 97 then (2, slot l 97) else if 0 ≤ slot l 118 then (3, slot l 118) else (0, 0)
/-- a token's kind and value. -/
def tokenP (l : List UInt8) : Int × Int :=
  if wordsL.idxOf l < 16 then (4 + (wordsL.idxOf l : Int), 0) else
  match numIn l with
  | some n => (1, n)
  | none => named l

/-- what must come behind a word that begins a statement. -/
def follows (t : List UInt8) : Option (List UInt8) :=
  if t = [115, 101, 116] then some [118, 101] else if t = [112, 117, 116] then some [101, 101] else if t = [100, 101, 108] then some [101] else if t = [115, 116, 111, 112] then some [101] else
  if t = [105, 102] then some [101, 123, 115, 125, 123, 115, 125] else if t = [119, 104, 105, 108, 101] then some [101, 123, 115, 125] else if t = [102, 97, 105, 108] then some [] else none
/-- what must come behind a token that begins an expression. -/
def wants (t : List UInt8) : Option (List UInt8) :=
  if t = [43] then some [101, 101] else if t = [45] then some [101, 101] else if t = [42] then some [101, 101] else if t = [60] then some [101, 101] else if t = [61] then some [101, 101] else
  if t = [64] then some [101] else if t = [35] then some [101] else
  if 0 ≤ numberR t ∨ 0 ≤ slot t 97 ∨ 0 ≤ slot t 118 then some [] else none

/-- what must still come behind a statement's first token (a: the body or block around it). -/
def stmt (a : Int) (r : List Int) (k : Int) : Bool × List Int :=
  if k = 11 then (true, 4 :: 5 :: a :: r) else if k = 12 then (true, 5 :: 5 :: a :: r) else if k = 13 then (true, 5 :: a :: r) else if k = 16 then (true, 5 :: a :: r) else
  if k = 14 then (true, 5 :: 3 :: 3 :: a :: r) else if k = 15 then (true, 5 :: 3 :: a :: r) else if k = 17 then (true, a :: r) else (false, a :: r)
/-- .. behind an expression's. -/
def expr (r : List Int) (k : Int) : Bool × List Int :=
  if k = 1 ∨ k = 2 ∨ k = 3 then (true, r) else if k = 4 ∨ k = 5 ∨ k = 6 ∨ k = 7 ∨ k = 8 then (true, 5 :: 5 :: r) else if k = 9 ∨ k = 10 then (true, 5 :: r) else (false, r)
/-- one token of kind k. -/
def take (st : List Int) (k : Int) : Bool × List Int :=
  if st.headD 0 = 1 then stmt 1 st.tail k else
  if st.headD 0 = 2 then (if k = 19 then (true, st.tail) else stmt 2 st.tail k) else
  if st.headD 0 = 3 then (decide (k = 18), 2 :: st.tail) else
  if st.headD 0 = 4 then (decide (k = 3), st.tail) else
  if st.headD 0 = 5 then expr st.tail k else (false, st.tail)
theorem stmt_len (a : Int) (r : List Int) (k : Int) : (stmt a r k).2.length ≤ r.length + 4 := by
  unfold stmt; repeat' split
  all_goals simp
theorem expr_len (r : List Int) (k : Int) : (expr r k).2.length ≤ r.length + 2 := by
  unfold expr; repeat' split
  all_goals simp
theorem take_len (st : List Int) (k : Int) : (take st k).2.length ≤ st.length + 4 := by
  have h1 := stmt_len 1 st.tail k
  have h2 := stmt_len 2 st.tail k
  have h3 := expr_len st.tail k
  have h4 : st.tail.length ≤ st.length := by simp
  unfold take; repeat' split
  all_goals (try simp only [List.length_cons]); omega

theorem take_cons (x : Int) (r : List Int) (k : Int) : take (x :: r) k =
    if x = 1 then stmt 1 r k else if x = 2 then (if k = 19 then (true, r) else stmt 2 r k) else if x = 3 then (decide (k = 18), 2 :: r) else if x = 4 then (decide (k = 3), r) else if x = 5 then expr r k else (false, r) := rfl

theorem scan_done (l : List UInt8) (c : UInt8) (h : isSp c = true) (hn : (scan l).2 ≠ []) : scan (l ++ [c]) = ((scan l).1 ++ [(scan l).2], []) := by
  rw [scan_snoc, stepT, if_pos h, if_neg (by simpa using hn)]
theorem scan_gap (l : List UInt8) (c : UInt8) (h : isSp c = true) (hn : (scan l).2 = []) : scan (l ++ [c]) = ((scan l).1, []) := by
  rw [scan_snoc, stepT, if_pos h, if_pos (by simpa using hn)]
theorem scan_more (l : List UInt8) (c : UInt8) (h : isSp c = false) : scan (l ++ [c]) = ((scan l).1, (scan l).2 ++ [c]) := by
  rw [scan_snoc, stepT, if_neg (by simp [h])]
theorem toks_end (l : List UInt8) (hn : (scan l).2 ≠ []) : toks l = (scan l).1 ++ [(scan l).2] := by
  rw [toks, if_neg (by simpa using hn)]
theorem toks_gap (l : List UInt8) (hn : (scan l).2 = []) : toks l = (scan l).1 := by
  rw [toks, if_pos (by simpa using hn)]
theorem drop_ne (l : List UInt8) (b k : Nat) (h : b < k) (hk : k ≤ l.length) : (l.take k).drop b ≠ [] := by
  intro h0
  have := congrArg List.length h0
  simp at this
  omega
theorem drop_all (l : List UInt8) (k : Nat) : (l.take k).drop k = [] := by
  apply List.drop_eq_nil_of_le; simp; omega
theorem scan_len (l : List UInt8) : (scan l).1.length ≤ l.length ∧ (∀ t ∈ (scan l).1, t ≠ []) ∧ (∀ t ∈ (scan l).1, t.length ≤ l.length) ∧ (scan l).2.length ≤ l.length := by
  induction l using snoc_ind with
  | h0 => simp [scan]
  | h1 l c ih =>
    obtain ⟨h1, h2, h3, h4⟩ := ih
    by_cases hc : isSp c = true
    · by_cases hn : (scan l).2 = []
      · rw [scan_gap l c hc hn]
        refine ⟨by simp; omega, h2, fun t ht => by have := h3 t ht; simp; omega, by simp⟩
      · rw [scan_done l c hc hn]
        refine ⟨by simp; omega, ?_, ?_, by simp⟩
        · intro t ht
          rcases List.mem_append.1 ht with h | h
          · exact h2 t h
          · simp at h; rw [h]; exact hn
        · intro t ht
          rcases List.mem_append.1 ht with h | h
          · have := h3 t h; simp; omega
          · simp at h; rw [h]; simp; omega
    · rw [scan_more l c (by simpa using hc)]
      exact ⟨by simp; omega, h2, fun t ht => by have := h3 t ht; simp; omega, by simp; omega⟩
theorem toks_len (l : List UInt8) : (toks l).length ≤ l.length + 1 ∧ (∀ t ∈ toks l, t ≠ []) ∧ (∀ t ∈ toks l, t.length ≤ l.length) := by
  obtain ⟨h1, h2, h3, h4⟩ := scan_len l
  by_cases hn : (scan l).2 = []
  · rw [toks_gap l hn]; exact ⟨by omega, h2, h3⟩
  · rw [toks_end l hn]
    refine ⟨by simp; omega, ?_, ?_⟩
    · intro t ht
      rcases List.mem_append.1 ht with h | h
      · exact h2 t h
      · simp at h; rw [h]; exact hn
    · intro t ht
      rcases List.mem_append.1 ht with h | h
      · exact h3 t h
      · simp at h; rw [h]; exact h4

end Ck
end Go.Proofs.YtellilpeakpbfabGreatDoor

end

section
/-
  The walks of the small functions that only compute: isSpace, isDigit, slot, Number, numberIn, follows, wants.
-/
namespace Go.Proofs.YtellilpeakpbfabGreatDoor
open Go.RowKit

theorem ret_bool {a b : Bool} (h : a = b) : Ending.returned (.bool a) = .returned (.bool b) := by rw [h]
theorem ret_int {k : IntKind} {a b : Int} (h : a = b) : Ending.returned (.int k a) = .returned (.int k b) := by rw [h]
theorem u8_eq (c d : UInt8) : ((c.toNat : Int) = (d.toNat : Int)) ↔ c = d := by
  constructor
  · intro h; exact UInt8.toNat_inj.1 (by omega)
  · intro h; rw [h]

set_option maxHeartbeats 400000 in
theorem isSpace_any (c : UInt8) (w : World) :
    Calls Tryz.prog 126 #[.int .u8 c.toNat] w fun e w' => e = .returned (.bool (Ck.isSp c)) ∧ w' = w := by
  have e1 : (c == 32) = decide ((c.toNat : Int) = 32) := by
    rw [Bool.eq_iff_iff]; simpa using (u8_eq c 32).symm
  have e2 : (c == 10) = decide ((c.toNat : Int) = 10) := by
    rw [Bool.eq_iff_iff]; simpa using (u8_eq c 10).symm
  have H : Hid (Ck.isSp c = (decide ((c.toNat : Int) = 32) || decide ((c.toNat : Int) = 10))) := by
    show _ = _; rw [Ck.isSp, e1, e2]
  clear e1 e2
  go_enter Tryz.func126, Tryz.ntmps126
  go_wp2
  all_goals go_ret
  all_goals exact ⟨ret_bool (by rw [H.out, Bool.eq_iff_iff]; simp; try omega), rfl⟩

set_option maxHeartbeats 400000 in
theorem isDigit_any (c : UInt8) (w : World) :
    Calls Tryz.prog 156 #[.int .u8 c.toNat] w fun e w' => e = .returned (.bool (Ck.isDig c)) ∧ w' = w := by
  go_enter Tryz.func156, Tryz.ntmps156
  go_wp2
  all_goals go_ret
  all_goals exact ⟨ret_bool (by unfold Ck.isDig; rw [Bool.eq_iff_iff]; simp; omega), rfl⟩

set_option maxHeartbeats 400000 in
theorem slot_two (a b c : UInt8) (w : World) :
    Calls Tryz.prog 166 #[.string ⟨#[a, b]⟩, .int .u8 c.toNat] w fun e w' => e = .returned (.int .i64 (Ck.slot [a, b] c)) ∧ w' = w := by
  have ea : ((⟨#[a, b]⟩ : ByteArray)[0]'(by show 0 < 2; decide)) = a := rfl
  have eb : ((⟨#[a, b]⟩ : ByteArray)[1]'(by show 1 < 2; decide)) = b := rfl
  have hb : (0 : Int) ≤ b.toNat ∧ (b.toNat : Int) ≤ 255 := by have := b.toNat_lt; omega
  have hu := u8_eq a c
  have Hu := hide hu
  clear hu
  go_enter Tryz.func166, Tryz.ntmps166
  go_wp2
  all_goals go_ret
  all_goals refine ⟨ret_int ?_, rfl⟩
  all_goals (simp only [Ck.slot, ← Hu.out]; split <;> (try (simp at *)) <;> (try omega))
set_option maxHeartbeats 400000 in
theorem slot_not (s : ByteArray) (c : UInt8) (w : World) (h : s.size ≠ 2) :
    Calls Tryz.prog 166 #[.string s, .int .u8 c.toNat] w fun e w' => e = .returned (.int .i64 (-1)) ∧ w' = w := by
  have h2 : ((s.size : Int) != 2) = true := by simp; omega
  go_enter Tryz.func166, Tryz.ntmps166
  go_wp2
  all_goals go_ret
  all_goals exact ⟨rfl, rfl⟩

end Go.Proofs.YtellilpeakpbfabGreatDoor

end

section
/-
  The walks of Number and numberIn.
-/
namespace Go.Proofs.YtellilpeakpbfabGreatDoor
open Go.RowKit

theorem take_snoc (s : ByteArray) (k : Nat) (h : k < s.size) : s.data.toList.take (k + 1) = s.data.toList.take k ++ [s[k]] := by
  rw [List.take_succ_eq_append_getElem (by simpa using h)]; rfl
theorem take_all (s : ByteArray) (k : Nat) (h : ¬ k < s.size) : s.data.toList.take k = s.data.toList :=
  List.take_of_length_le (by simp; have : s.data.size = s.size := rfl; omega)
theorem val_bd (s : ByteArray) (k : Nat) (h6 : k ≤ 6) (hd : ∀ c ∈ s.data.toList.take k, Ck.isDig c = true) : (Ck.val (s.data.toList.take k) : Int) ≤ 999999 := by
  have h1 := Ck.val_lt _ hd
  have h2 : 10 ^ (s.data.toList.take k).length ≤ 10 ^ 6 := Nat.pow_le_pow_right (by omega) (by simp; omega)
  omega
theorem numR_not (s : ByteArray) (k : Nat) (hlt : k < s.size) (h : ¬ (s.size ≤ 6) ∨ Ck.isDig s[k] = false) : Ck.numberR s.data.toList = -1 := by
  have hl : s.data.toList.length = s.size := by simp
  unfold Ck.numberR
  rw [if_neg, if_neg]
  · intro h0; rw [h0] at hl; simp at hl; omega
  · rintro ⟨a, b⟩
    rcases h with h | h
    · omega
    · have := b s[k] (by rw [← List.take_append_drop (k + 1) s.data.toList, take_snoc s k hlt]; simp)
      rw [this] at h; cases h

set_option maxHeartbeats 400000 in
theorem number_any (s : ByteArray) (w : World) (hs : s.size ≤ 400) :
    Calls Tryz.prog 143 #[.string s] w fun e w' => e = .returned (.int .i64 (Ck.numberR s.data.toList)) ∧ w' = w := by
  go_enter Tryz.func143, Tryz.ntmps143
  go_wp2
  go_loop [3, 4] (fun n i => ∃ k : Nat, k ≤ s.size ∧ i = .int .i64 k ∧ n = .int .i64 (Ck.val (s.data.toList.take k)) ∧ (k = 0 ∨ s.size ≤ 6) ∧ (∀ c ∈ s.data.toList.take k, Ck.isDig c = true)) (fun _ i => s.size - (intOf i).toNat)
  case atStart => exact ⟨0, Nat.zero_le _, rfl, rfl, Or.inl rfl, by simp⟩
  case round =>
    obtain ⟨k, hk, rfl, rfl, h6, hd⟩ := hrel
    have hv := val_bd s k (by omega) hd
    have hv0 : (0 : Int) ≤ (Ck.val (s.data.toList.take k) : Int) := by omega
    have HD := hide hd
    clear hd
    by_cases hlt : k < s.size
    · have hc : (0 : Int) ≤ s[k].toNat ∧ (s[k].toNat : Int) ≤ 255 := by have := s[k].toNat_lt; omega
      obtain ⟨hc0, hc1⟩ := hc
      by_cases hg : (48 ≤ (s[k].toNat : Int) ∧ (s[k].toNat : Int) ≤ 57) ∧ s.size ≤ 6
      · obtain ⟨⟨g1, g2⟩, g3⟩ := hg
        have HS := hide (take_snoc s k hlt)
        have HI : Hid (Ck.isDig s[k] = true) := (Ck.isDig_iff _).2 ⟨by omega, by omega⟩
        go_wp2
        go_round
        case rel =>
          refine ⟨k + 1, by omega, by go_num, ?_, Or.inr g3, ?_⟩
          · rw [HS.out, Ck.val_snoc]; go_num
          · rw [HS.out]
            intro c hc
            rcases List.mem_append.1 hc with h | h
            · exact HD.out c h
            · simp at h; rw [h]; exact HI.out
        case measure => simp [intOf]; omega
      · have HN : Hid (Ck.numberR s.data.toList = -1) := numR_not s k hlt (by
          by_cases g : s.size ≤ 6
          · right
            have : ¬ (Ck.isDig s[k] = true) := fun h => by have := (Ck.isDig_iff _).1 h; omega
            simpa using this
          · exact Or.inl g)
        go_wp2
        all_goals go_ret
        all_goals exact ⟨ret_int HN.out.symm, rfl⟩
    · have HT := hide (take_all s k hlt)
      go_wp2
      go_ret
      refine ⟨ret_int ?_, rfl⟩
      have hl : s.data.toList.length = s.size := by simp
      show (Ck.val (s.data.toList.take k) : Int) = _
      have hd := HD.out
      rw [HT.out] at hd ⊢
      unfold Ck.numberR
      by_cases g : s.size ≤ 6
      · rw [if_pos ⟨by omega, hd⟩]
      · omega

theorem numIn_not (s : ByteArray) (k : Nat) (hlt : k < s.size) (h : Ck.isDig s[k] = false) : Ck.numIn s.data.toList = none := by
  unfold Ck.numIn
  rw [if_neg]
  rintro ⟨_, _, b⟩
  have := b s[k] (by rw [← List.take_append_drop (k + 1) s.data.toList, take_snoc s k hlt]; simp)
  rw [this] at h; cases h

set_option maxHeartbeats 400000 in
theorem numberIn_any (s : ByteArray) (w : World) (hs : s.size ≤ 400) :
    Calls Tryz.prog 127 #[.string s] w fun e w' => e = .returned (.tuple #[.int .i64 ((Ck.numIn s.data.toList).getD 0 : Nat), .bool (Ck.numIn s.data.toList).isSome]) ∧ w' = w := by
  by_cases hg : 1 ≤ s.size ∧ s.size ≤ 6
  · obtain ⟨g1, g2⟩ := hg
    have hz : ((s.size : Int) == 0) = false := beq_eq_false_iff_ne.2 (by omega)
    go_enter Tryz.func127, Tryz.ntmps127
    go_wp2
    go_loop [4, 5] (fun n i => ∃ k : Nat, k ≤ s.size ∧ i = .int .i64 k ∧ n = .int .i64 (Ck.val (s.data.toList.take k)) ∧ (∀ c ∈ s.data.toList.take k, Ck.isDig c = true)) (fun _ i => s.size - (intOf i).toNat)
    case atStart => exact ⟨0, Nat.zero_le _, rfl, rfl, by simp⟩
    case round =>
      obtain ⟨k, hk, rfl, rfl, hd⟩ := hrel
      have hv := val_bd s k (by omega) hd
      have hv0 : (0 : Int) ≤ (Ck.val (s.data.toList.take k) : Int) := by omega
      have HD := hide hd
      clear hd
      by_cases hlt : k < s.size
      · have hc : (0 : Int) ≤ s[k].toNat ∧ (s[k].toNat : Int) ≤ 255 := by have := s[k].toNat_lt; omega
        obtain ⟨hc0, hc1⟩ := hc
        by_cases hg : Ck.isDig s[k] = true
        · obtain ⟨g1', g2'⟩ := (Ck.isDig_iff _).1 hg
          have e1 : (48 : Int) ≤ (s[k].toNat : Int) := by omega
          have e2 : (s[k].toNat : Int) ≤ 57 := by omega
          have HS := hide (take_snoc s k hlt)
          clear g1' g2'
          go_wp2_with (go_at_call 156; refine (isDigit_any _ _).mono ?_; rintro e w' ⟨rfl, rfl⟩)
          go_round
          case rel =>
            refine ⟨k + 1, by omega, by go_num, ?_, ?_⟩
            · rw [HS.out, Ck.val_snoc]; go_num
            · rw [HS.out]
              intro c hc
              rcases List.mem_append.1 hc with h | h
              · exact HD.out c h
              · simp at h; rw [h]; exact hg
          case measure => simp [intOf]; omega
        · have hg' : Ck.isDig s[k] = false := by simpa using hg
          have HN := hide (numIn_not s k hlt hg')
          clear hg
          go_wp2_with (go_at_call 156; refine (isDigit_any _ _).mono ?_; rintro e w' ⟨rfl, rfl⟩)
          go_ret2
          rw [HN.out]
          exact ⟨rfl, rfl⟩
      · have HT := hide (take_all s k hlt)
        go_wp2
        go_ret2
        have hd := HD.out
        have hl : s.data.toList.length = s.size := by simp
        have hN : Ck.numIn s.data.toList = some (Ck.val (s.data.toList.take k)) := by
          rw [HT.out] at hd ⊢
          unfold Ck.numIn
          rw [if_pos ⟨by omega, by omega, hd⟩]
        rw [hN]
        exact ⟨rfl, rfl⟩
  · have HN : Hid (Ck.numIn s.data.toList = none) := by
      show _ = _
      unfold Ck.numIn
      rw [if_neg]
      have hl : s.data.toList.length = s.size := by simp
      rintro ⟨a, b, _⟩
      omega
    by_cases h0 : s.size = 0
    · have hz : ((s.size : Int) == 0) = true := beq_iff_eq.2 (by omega)
      have H0 := hide h0
      clear h0
      go_enter Tryz.func127, Tryz.ntmps127
      go_wp2
      all_goals go_ret2
      all_goals rw [HN.out]
      all_goals exact ⟨rfl, rfl⟩
    · have hz : ((s.size : Int) == 0) = false := beq_eq_false_iff_ne.2 (by omega)
      have h7 : (6 : Int) < s.size := by omega
      go_enter Tryz.func127, Tryz.ntmps127
      go_wp2
      all_goals go_ret2
      all_goals rw [HN.out]
      all_goals exact ⟨rfl, rfl⟩
end Go.Proofs.YtellilpeakpbfabGreatDoor

end

section
/-
  The walks of follows and wants.
-/
namespace Go.Proofs.YtellilpeakpbfabGreatDoor
open Go.RowKit

/-- a text as a string's value. -/
def T (l : List UInt8) : Value := .string ⟨l.toArray⟩

theorem ret_two {x y : Value} {a b : Bool} (h : x = y) (g : a = b) : Ending.returned (.tuple #[x, .bool a]) = .returned (.tuple #[y, .bool b]) := by rw [h, g]
theorem beq_no {s : ByteArray} {l : List UInt8} (h : ¬ s.data.toList = l) : (s.toList == l) = false := by
  rw [ByteArray.toList_eq]; exact beq_eq_false_iff_ne.2 h
theorem bytes_mk {s : ByteArray} {l : List UInt8} (h : s.data.toList = l) : s = ⟨l.toArray⟩ := by
  obtain ⟨⟨x⟩⟩ := s; simp at h; rw [h]

set_option maxHeartbeats 400000 in
theorem follows_set (w : World) :
    Calls Tryz.prog 164 #[.string ⟨#[115, 101, 116]⟩] w fun e w' => e = .returned (.tuple #[T [118, 101], .bool true]) ∧ w' = w := by
  go_enter Tryz.func164, Tryz.ntmps164
  go_wp2
  go_ret2
  exact ⟨rfl, rfl⟩
set_option maxHeartbeats 400000 in
theorem follows_put (w : World) :
    Calls Tryz.prog 164 #[.string ⟨#[112, 117, 116]⟩] w fun e w' => e = .returned (.tuple #[T [101, 101], .bool true]) ∧ w' = w := by
  go_enter Tryz.func164, Tryz.ntmps164
  go_wp2
  go_ret2
  exact ⟨rfl, rfl⟩
set_option maxHeartbeats 400000 in
theorem follows_del (w : World) :
    Calls Tryz.prog 164 #[.string ⟨#[100, 101, 108]⟩] w fun e w' => e = .returned (.tuple #[T [101], .bool true]) ∧ w' = w := by
  go_enter Tryz.func164, Tryz.ntmps164
  go_wp2
  go_ret2
  exact ⟨rfl, rfl⟩
set_option maxHeartbeats 400000 in
theorem follows_stop (w : World) :
    Calls Tryz.prog 164 #[.string ⟨#[115, 116, 111, 112]⟩] w fun e w' => e = .returned (.tuple #[T [101], .bool true]) ∧ w' = w := by
  go_enter Tryz.func164, Tryz.ntmps164
  go_wp2
  go_ret2
  exact ⟨rfl, rfl⟩
set_option maxHeartbeats 400000 in
theorem follows_if (w : World) :
    Calls Tryz.prog 164 #[.string ⟨#[105, 102]⟩] w fun e w' => e = .returned (.tuple #[T [101, 123, 115, 125, 123, 115, 125], .bool true]) ∧ w' = w := by
  go_enter Tryz.func164, Tryz.ntmps164
  go_wp2
  go_ret2
  exact ⟨rfl, rfl⟩
set_option maxHeartbeats 400000 in
theorem follows_while (w : World) :
    Calls Tryz.prog 164 #[.string ⟨#[119, 104, 105, 108, 101]⟩] w fun e w' => e = .returned (.tuple #[T [101, 123, 115, 125], .bool true]) ∧ w' = w := by
  go_enter Tryz.func164, Tryz.ntmps164
  go_wp2
  go_ret2
  exact ⟨rfl, rfl⟩
set_option maxHeartbeats 400000 in
theorem follows_fail (w : World) :
    Calls Tryz.prog 164 #[.string ⟨#[102, 97, 105, 108]⟩] w fun e w' => e = .returned (.tuple #[T [], .bool true]) ∧ w' = w := by
  go_enter Tryz.func164, Tryz.ntmps164
  go_wp2
  go_ret2
  exact ⟨rfl, rfl⟩
set_option maxHeartbeats 400000 in
theorem follows_none (s : ByteArray) (w : World) (h0 : (s.toList == [115, 101, 116]) = false) (h1 : (s.toList == [112, 117, 116]) = false) (h2 : (s.toList == [100, 101, 108]) = false) (h3 : (s.toList == [115, 116, 111, 112]) = false) (h4 : (s.toList == [105, 102]) = false) (h5 : (s.toList == [119, 104, 105, 108, 101]) = false) (h6 : (s.toList == [102, 97, 105, 108]) = false) :
    Calls Tryz.prog 164 #[.string s] w fun e w' => e = .returned (.tuple #[T [], .bool false]) ∧ w' = w := by
  go_enter Tryz.func164, Tryz.ntmps164
  go_wp2
  go_ret2
  exact ⟨rfl, rfl⟩
theorem follows_any (s : ByteArray) (w : World) :
    Calls Tryz.prog 164 #[.string s] w fun e w' => e = .returned (.tuple #[T ((Ck.follows s.data.toList).getD []), .bool (Ck.follows s.data.toList).isSome]) ∧ w' = w := by
  unfold Ck.follows
  by_cases h0 : s.data.toList = [115, 101, 116]
  · rw [if_pos h0, bytes_mk h0]; exact follows_set w
  rw [if_neg h0]
  by_cases h1 : s.data.toList = [112, 117, 116]
  · rw [if_pos h1, bytes_mk h1]; exact follows_put w
  rw [if_neg h1]
  by_cases h2 : s.data.toList = [100, 101, 108]
  · rw [if_pos h2, bytes_mk h2]; exact follows_del w
  rw [if_neg h2]
  by_cases h3 : s.data.toList = [115, 116, 111, 112]
  · rw [if_pos h3, bytes_mk h3]; exact follows_stop w
  rw [if_neg h3]
  by_cases h4 : s.data.toList = [105, 102]
  · rw [if_pos h4, bytes_mk h4]; exact follows_if w
  rw [if_neg h4]
  by_cases h5 : s.data.toList = [119, 104, 105, 108, 101]
  · rw [if_pos h5, bytes_mk h5]; exact follows_while w
  rw [if_neg h5]
  by_cases h6 : s.data.toList = [102, 97, 105, 108]
  · rw [if_pos h6, bytes_mk h6]; exact follows_fail w
  rw [if_neg h6]
  exact follows_none s w (beq_no h0) (beq_no h1) (beq_no h2) (beq_no h3) (beq_no h4) (beq_no h5) (beq_no h6)

theorem slot_any (s : ByteArray) (c : UInt8) (w : World) :
    Calls Tryz.prog 166 #[.string s, .int .u8 c.toNat] w fun e w' => e = .returned (.int .i64 (Ck.slot s.data.toList c)) ∧ w' = w := by
  by_cases h : s.size = 2
  · obtain ⟨⟨l⟩⟩ := s
    match l, h with
    | [a, b], _ => exact slot_two a b c w
  · rw [Ck.slot_ne s.data.toList c (by simpa using h)]
    exact slot_not s c w h

set_option maxHeartbeats 400000 in
theorem wants_plus (w : World) :
    Calls Tryz.prog 165 #[.string ⟨#[43]⟩] w fun e w' => e = .returned (.tuple #[T [101, 101], .bool true]) ∧ w' = w := by
  go_enter Tryz.func165, Tryz.ntmps165
  go_wp2
  go_ret2
  exact ⟨rfl, rfl⟩
set_option maxHeartbeats 400000 in
theorem wants_minus (w : World) :
    Calls Tryz.prog 165 #[.string ⟨#[45]⟩] w fun e w' => e = .returned (.tuple #[T [101, 101], .bool true]) ∧ w' = w := by
  go_enter Tryz.func165, Tryz.ntmps165
  go_wp2
  go_ret2
  exact ⟨rfl, rfl⟩
set_option maxHeartbeats 400000 in
theorem wants_times (w : World) :
    Calls Tryz.prog 165 #[.string ⟨#[42]⟩] w fun e w' => e = .returned (.tuple #[T [101, 101], .bool true]) ∧ w' = w := by
  go_enter Tryz.func165, Tryz.ntmps165
  go_wp2
  go_ret2
  exact ⟨rfl, rfl⟩
set_option maxHeartbeats 400000 in
theorem wants_less (w : World) :
    Calls Tryz.prog 165 #[.string ⟨#[60]⟩] w fun e w' => e = .returned (.tuple #[T [101, 101], .bool true]) ∧ w' = w := by
  go_enter Tryz.func165, Tryz.ntmps165
  go_wp2
  go_ret2
  exact ⟨rfl, rfl⟩
set_option maxHeartbeats 400000 in
theorem wants_same (w : World) :
    Calls Tryz.prog 165 #[.string ⟨#[61]⟩] w fun e w' => e = .returned (.tuple #[T [101, 101], .bool true]) ∧ w' = w := by
  go_enter Tryz.func165, Tryz.ntmps165
  go_wp2
  go_ret2
  exact ⟨rfl, rfl⟩
set_option maxHeartbeats 400000 in
theorem wants_at (w : World) :
    Calls Tryz.prog 165 #[.string ⟨#[64]⟩] w fun e w' => e = .returned (.tuple #[T [101], .bool true]) ∧ w' = w := by
  go_enter Tryz.func165, Tryz.ntmps165
  go_wp2
  go_ret2
  exact ⟨rfl, rfl⟩
set_option maxHeartbeats 400000 in
theorem wants_there (w : World) :
    Calls Tryz.prog 165 #[.string ⟨#[35]⟩] w fun e w' => e = .returned (.tuple #[T [101], .bool true]) ∧ w' = w := by
  go_enter Tryz.func165, Tryz.ntmps165
  go_wp2
  go_ret2
  exact ⟨rfl, rfl⟩
set_option maxHeartbeats 400000 in
theorem wants_none (s : ByteArray) (n a v : Int) (w : World) (h0 : (s.toList == [43]) = false) (h1 : (s.toList == [45]) = false) (h2 : (s.toList == [42]) = false) (h3 : (s.toList == [60]) = false) (h4 : (s.toList == [61]) = false) (h5 : (s.toList == [64]) = false) (h6 : (s.toList == [35]) = false)
    (HN : Hid (∀ w, Calls Tryz.prog 143 #[.string s] w fun e w' => e = .returned (.int .i64 n) ∧ w' = w))
    (HA : Hid (∀ w, Calls Tryz.prog 166 #[.string s, .int .u8 97] w fun e w' => e = .returned (.int .i64 a) ∧ w' = w))
    (HV : Hid (∀ w, Calls Tryz.prog 166 #[.string s, .int .u8 118] w fun e w' => e = .returned (.int .i64 v) ∧ w' = w)) :
    Calls Tryz.prog 165 #[.string s] w fun e w' => e = .returned (.tuple #[T [], .bool (decide (0 ≤ n ∨ 0 ≤ a ∨ 0 ≤ v))]) ∧ w' = w := by
  go_enter Tryz.func165, Tryz.ntmps165
  go_wp2_with fail
  refine (HN.out _).mono ?_
  rintro e w' ⟨rfl, rfl⟩
  go_wp2_with fail
  refine (HA.out _).mono ?_
  rintro e w' ⟨rfl, rfl⟩
  go_wp2_with fail
  refine (HV.out _).mono ?_
  rintro e w' ⟨rfl, rfl⟩
  go_wp2
  all_goals go_ret2
  all_goals (refine ⟨ret_two rfl ?_, rfl⟩; first | rfl | (rw [Bool.eq_iff_iff]; simp; try omega))
theorem wants_any (s : ByteArray) (w : World) (hs : s.size ≤ 400) :
    Calls Tryz.prog 165 #[.string s] w fun e w' => e = .returned (.tuple #[T ((Ck.wants s.data.toList).getD []), .bool (Ck.wants s.data.toList).isSome]) ∧ w' = w := by
  unfold Ck.wants
  by_cases h0 : s.data.toList = [43]
  · rw [if_pos h0, bytes_mk h0]; exact wants_plus w
  rw [if_neg h0]
  by_cases h1 : s.data.toList = [45]
  · rw [if_pos h1, bytes_mk h1]; exact wants_minus w
  rw [if_neg h1]
  by_cases h2 : s.data.toList = [42]
  · rw [if_pos h2, bytes_mk h2]; exact wants_times w
  rw [if_neg h2]
  by_cases h3 : s.data.toList = [60]
  · rw [if_pos h3, bytes_mk h3]; exact wants_less w
  rw [if_neg h3]
  by_cases h4 : s.data.toList = [61]
  · rw [if_pos h4, bytes_mk h4]; exact wants_same w
  rw [if_neg h4]
  by_cases h5 : s.data.toList = [64]
  · rw [if_pos h5, bytes_mk h5]; exact wants_at w
  rw [if_neg h5]
  by_cases h6 : s.data.toList = [35]
  · rw [if_pos h6, bytes_mk h6]; exact wants_there w
  rw [if_neg h6]
  refine (wants_none s (Ck.numberR s.data.toList) (Ck.slot s.data.toList 97) (Ck.slot s.data.toList 118) w (beq_no h0) (beq_no h1) (beq_no h2) (beq_no h3) (beq_no h4) (beq_no h5) (beq_no h6) (hide fun w => number_any s w hs) (hide fun w => slot_any s 97 w) (hide fun w => slot_any s 118 w)).mono ?_
  rintro e w' ⟨rfl, rfl⟩
  refine ⟨?_, rfl⟩
  split <;> simp_all

end Go.Proofs.YtellilpeakpbfabGreatDoor

end
