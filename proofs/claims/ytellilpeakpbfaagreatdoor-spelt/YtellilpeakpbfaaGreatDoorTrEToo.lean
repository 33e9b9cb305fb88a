import Derived.Test.YtellilpeakpbfaaGreatDoorRnToo
import Derived.Test.YtellilpeakpbfaaGreatDoorRnIToo
section
/-
  Sources as trees; no Go text.
-/
namespace Go.Proofs.YtellilpeakpbfaaGreatDoor
open Go.RowKit
namespace Tr

abbrev Tok := List UInt8
/-- expressions. -/
inductive Ex where
  | leaf (t : Tok)
  | un (t : Tok) (e : Ex)
  | bin (t : Tok) (a b : Ex)
mutual
/-- statements, and rows of them. -/
inductive Sm where
  | set (v : Tok) (e : Ex)
  | put (a b : Ex)
  | del (a : Ex)
  | stop (a : Ex)
  | fail
  | ite (e : Ex) (a b : Sms)
  | whl (e : Ex) (a : Sms)
inductive Sms where
  | nil
  | cons (s : Sm) (r : Sms)
end

def Ex.flat : Ex → List Tok
  | .leaf t => [t]
  | .un t e => t :: e.flat
  | .bin t a b => t :: (a.flat ++ b.flat)
mutual
def Sm.flat : Sm → List Tok
  | .set v e => [115, 101, 116] :: v :: e.flat
  | .put a b => [112, 117, 116] :: (a.flat ++ b.flat)
  | .del a => [100, 101, 108] :: a.flat
  | .stop a => [115, 116, 111, 112] :: a.flat
  | .fail => [[102, 97, 105, 108]]
  | .ite e a b => [105, 102] :: (e.flat ++ ([123] :: (a.flat ++ ([125] :: [123] :: (b.flat ++ [[125]])))))
  | .whl e a => [119, 104, 105, 108, 101] :: (e.flat ++ ([123] :: (a.flat ++ [[125]])))
def Sms.flat : Sms → List Tok
  | .nil => []
  | .cons s r => s.flat ++ r.flat
end

def kind (t : Tok) : Int := (Ck.tokenP t).1
def Ex.Ok : Ex → Prop
  | .leaf t => kind t = 1 ∨ kind t = 2 ∨ kind t = 3
  | .un t e => (kind t = 9 ∨ kind t = 10) ∧ e.Ok
  | .bin t a b => (4 ≤ kind t ∧ kind t ≤ 8) ∧ a.Ok ∧ b.Ok
mutual
def Sm.Ok : Sm → Prop
  | .set v e => kind v = 3 ∧ e.Ok
  | .put a b => a.Ok ∧ b.Ok
  | .del a => a.Ok
  | .stop a => a.Ok
  | .fail => True
  | .ite e a b => e.Ok ∧ a.Ok ∧ b.Ok
  | .whl e a => e.Ok ∧ a.Ok
def Sms.Ok : Sms → Prop
  | .nil => True
  | .cons s r => s.Ok ∧ r.Ok
end

/-- the tokens are taken, to the last. -/
def acc (st : List Int) : List Tok → Prop
  | [] => st = [1]
  | t :: ts => (Ck.take st (kind t)).1 = true ∧ acc (Ck.take st (kind t)).2 ts
theorem acc_rd (ts : List Tok) : ∀ (i : Nat) (st : List Int), (Ck.rdGo i st ts).2 = 0 → acc st ts := by
  induction ts with
  | nil =>
    intro i st h
    unfold Ck.rdGo at h
    split at h
    · rename_i hs; exact hs
    · simp at h
  | cons t r ih =>
    intro i st h
    unfold Ck.rdGo at h
    split at h
    · rename_i hk; exact ⟨hk, ih _ _ h⟩
    · simp at h

theorem kind_word (t : Tok) (h : 4 ≤ kind t) : Ck.wordsL.idxOf t < 16 ∧ kind t = 4 + (Ck.wordsL.idxOf t : Int) := by
  unfold kind Ck.tokenP at *
  split at h
  · rename_i hi
    rw [if_pos hi]
    exact ⟨hi, rfl⟩
  · cases hn : Ck.numIn t with
    | some n => rw [hn] at h; simp at h
    | none =>
      rw [hn] at h
      have h' : 4 ≤ (Ck.named t).1 := h
      unfold Ck.named at h'
      by_cases h1 : 0 ≤ Ck.slot t 97
      · rw [if_pos h1] at h'; simp at h'
      · rw [if_neg h1] at h'
        by_cases h2 : 0 ≤ Ck.slot t 118
        · rw [if_pos h2] at h'; simp at h'
        · rw [if_neg h2] at h'; simp at h'
theorem word_at (t : Tok) (j : Nat) (hj : j < Ck.wordsL.length) (h : kind t = 4 + (j : Int)) : t = Ck.wordsL[j] := by
  obtain ⟨h1, h2⟩ := kind_word t (by omega)
  have e : Ck.wordsL.idxOf t = j := by omega
  have hm : Ck.wordsL.idxOf t < Ck.wordsL.length := h1
  have := List.getElem_idxOf hm
  subst e
  exact this.symm
theorem w_set (t : Tok) (h : kind t = 11) : t = [115, 101, 116] := word_at t 7 (by decide) h
theorem w_put (t : Tok) (h : kind t = 12) : t = [112, 117, 116] := word_at t 8 (by decide) h
theorem w_del (t : Tok) (h : kind t = 13) : t = [100, 101, 108] := word_at t 9 (by decide) h
theorem w_if (t : Tok) (h : kind t = 14) : t = [105, 102] := word_at t 10 (by decide) h
theorem w_while (t : Tok) (h : kind t = 15) : t = [119, 104, 105, 108, 101] := word_at t 11 (by decide) h
theorem w_stop (t : Tok) (h : kind t = 16) : t = [115, 116, 111, 112] := word_at t 12 (by decide) h
theorem w_fail (t : Tok) (h : kind t = 17) : t = [102, 97, 105, 108] := word_at t 13 (by decide) h
theorem w_open (t : Tok) (h : kind t = 18) : t = [123] := word_at t 14 (by decide) h
theorem w_close (t : Tok) (h : kind t = 19) : t = [125] := word_at t 15 (by decide) h

/-- what an item of the stack yields. -/
theorem parse_ex (n : Nat) : ∀ (ts : List Tok) (r : List Int), ts.length ≤ n → acc (5 :: r) ts → ∃ e rest, Ex.Ok e ∧ ts = e.flat ++ rest ∧ acc r rest ∧ rest.length < ts.length := by
  induction n with
  | zero =>
    intro ts r hl h
    have : ts = [] := List.eq_nil_of_length_eq_zero (by omega)
    subst this
    unfold acc at h
    simp at h
  | succ n ih =>
    intro ts r hl h
    cases ts with
    | nil => unfold acc at h; simp at h
    | cons t ts =>
      obtain ⟨h1, h2⟩ := h
      have hl' : ts.length ≤ n := by simpa using hl
      rw [Ck.take_cons, if_neg (by decide), if_neg (by decide), if_neg (by decide), if_neg (by decide), if_pos rfl] at h1 h2
      unfold Ck.expr at h1 h2
      by_cases k1 : kind t = 1 ∨ kind t = 2 ∨ kind t = 3
      · rw [if_pos k1] at h2
        exact ⟨.leaf t, ts, k1, rfl, h2, by simp⟩
      · rw [if_neg k1] at h1 h2
        by_cases k2 : kind t = 4 ∨ kind t = 5 ∨ kind t = 6 ∨ kind t = 7 ∨ kind t = 8
        · rw [if_pos k2] at h2
          obtain ⟨a, ra, oka, ea, acca, la⟩ := ih ts _ hl' h2
          obtain ⟨b, rb, okb, eb, accb, lb⟩ := ih ra _ (by omega) acca
          refine ⟨.bin t a b, rb, ⟨by omega, oka, okb⟩, ?_, accb, by simp; omega⟩
          rw [ea, eb]
          simp [Ex.flat]
        · rw [if_neg k2] at h1 h2
          by_cases k3 : kind t = 9 ∨ kind t = 10
          · rw [if_pos k3] at h2
            obtain ⟨a, ra, oka, ea, acca, la⟩ := ih ts _ hl' h2
            refine ⟨.un t a, ra, ⟨k3, oka⟩, ?_, acca, by simp; omega⟩
            rw [ea]
            simp [Ex.flat]
          · rw [if_neg k3] at h1
            simp at h1
theorem parse_e {ts : List Tok} {r : List Int} (h : acc (5 :: r) ts) : ∃ e rest, Ex.Ok e ∧ ts = e.flat ++ rest ∧ acc r rest ∧ rest.length < ts.length := parse_ex ts.length ts r (Nat.le_refl _) h
theorem parse_v {ts : List Tok} {r : List Int} (h : acc (4 :: r) ts) : ∃ v rest, kind v = 3 ∧ ts = v :: rest ∧ acc r rest := by
  cases ts with
  | nil => unfold acc at h; simp at h
  | cons t ts =>
    obtain ⟨h1, h2⟩ := h
    rw [Ck.take_cons, if_neg (by decide), if_neg (by decide), if_neg (by decide), if_pos rfl] at h1 h2
    exact ⟨t, ts, by simpa using h1, rfl, h2⟩
theorem parse_o {ts : List Tok} {r : List Int} (h : acc (3 :: r) ts) : ∃ rest, ts = [123] :: rest ∧ acc (2 :: r) rest := by
  cases ts with
  | nil => unfold acc at h; simp at h
  | cons t ts =>
    obtain ⟨h1, h2⟩ := h
    rw [Ck.take_cons, if_neg (by decide), if_neg (by decide), if_pos rfl] at h1 h2
    exact ⟨ts, by rw [w_open t (by simpa using h1)], h2⟩

/-- a statement behind its first token; 'a' the body or block around it. -/
theorem parse_sm (n : Nat) (ihb : ∀ (ts : List Tok) (r : List Int), ts.length ≤ n → acc (2 :: r) ts → ∃ b rest, Sms.Ok b ∧ ts = b.flat ++ [125] :: rest ∧ acc r rest ∧ rest.length < ts.length)
    (t : Tok) (ts : List Tok) (a : Int) (r : List Int) (hl : ts.length ≤ n) (h1 : (Ck.stmt a r (kind t)).1 = true) (h2 : acc (Ck.stmt a r (kind t)).2 ts) :
    ∃ s rest, Sm.Ok s ∧ t :: ts = s.flat ++ rest ∧ acc (a :: r) rest ∧ rest.length < (t :: ts).length := by
  unfold Ck.stmt at h1 h2
  by_cases k : kind t = 11
  · rw [if_pos k] at h2
    obtain ⟨v, rv, kv, ev, av⟩ := parse_v h2
    obtain ⟨e, re, oe, ee, ae, le⟩ := parse_e av
    refine ⟨.set v e, re, ⟨kv, oe⟩, ?_, ae, ?_⟩
    · rw [w_set t k, ev, ee]; simp [Sm.flat]
    · rw [ev]; simp; omega
  rw [if_neg k] at h1 h2
  by_cases k : kind t = 12
  · rw [if_pos k] at h2
    obtain ⟨x, rx, ox, ex, ax, lx⟩ := parse_e h2
    obtain ⟨y, ry, oy, ey, ay, ly⟩ := parse_e ax
    refine ⟨.put x y, ry, ⟨ox, oy⟩, ?_, ay, by simp; omega⟩
    rw [w_put t k, ex, ey]; simp [Sm.flat]
  rw [if_neg k] at h1 h2
  by_cases k : kind t = 13
  · rw [if_pos k] at h2
    obtain ⟨x, rx, ox, ex, ax, lx⟩ := parse_e h2
    refine ⟨.del x, rx, ox, ?_, ax, by simp; omega⟩
    rw [w_del t k, ex]; simp [Sm.flat]
  rw [if_neg k] at h1 h2
  by_cases k : kind t = 16
  · rw [if_pos k] at h2
    obtain ⟨x, rx, ox, ex, ax, lx⟩ := parse_e h2
    refine ⟨.stop x, rx, ox, ?_, ax, by simp; omega⟩
    rw [w_stop t k, ex]; simp [Sm.flat]
  rw [if_neg k] at h1 h2
  by_cases k : kind t = 14
  · rw [if_pos k] at h2
    obtain ⟨x, rx, ox, ex, ax, lx⟩ := parse_e h2
    obtain ⟨r1, e1, a1⟩ := parse_o ax
    have l1 : r1.length < rx.length := by rw [e1]; simp
    obtain ⟨b, rb, ob, eb, ab, lb⟩ := ihb r1 _ (by omega) a1
    obtain ⟨r2, e2, a2⟩ := parse_o ab
    have l2 : r2.length < rb.length := by rw [e2]; simp
    obtain ⟨c, rc, oc, ec, ac, lc⟩ := ihb r2 _ (by omega) a2
    refine ⟨.ite x b c, rc, ⟨ox, ob, oc⟩, ?_, ac, by simp; omega⟩
    rw [w_if t k, ex, e1, eb, e2, ec]; simp [Sm.flat]
  rw [if_neg k] at h1 h2
  by_cases k : kind t = 15
  · rw [if_pos k] at h2
    obtain ⟨x, rx, ox, ex, ax, lx⟩ := parse_e h2
    obtain ⟨r1, e1, a1⟩ := parse_o ax
    have l1 : r1.length < rx.length := by rw [e1]; simp
    obtain ⟨b, rb, ob, eb, ab, lb⟩ := ihb r1 _ (by omega) a1
    refine ⟨.whl x b, rb, ⟨ox, ob⟩, ?_, ab, by simp; omega⟩
    rw [w_while t k, ex, e1, eb]; simp [Sm.flat]
  rw [if_neg k] at h1 h2
  by_cases k : kind t = 17
  · rw [if_pos k] at h2
    exact ⟨.fail, ts, trivial, by rw [w_fail t k]; simp [Sm.flat], h2, by simp⟩
  rw [if_neg k] at h1
  simp at h1
theorem parse_bl (n : Nat) : ∀ (ts : List Tok) (r : List Int), ts.length ≤ n → acc (2 :: r) ts → ∃ b rest, Sms.Ok b ∧ ts = b.flat ++ [125] :: rest ∧ acc r rest ∧ rest.length < ts.length := by
  induction n with
  | zero =>
    intro ts r hl h
    have : ts = [] := List.eq_nil_of_length_eq_zero (by omega)
    subst this
    unfold acc at h
    simp at h
  | succ n ih =>
    intro ts r hl h
    cases ts with
    | nil => unfold acc at h; simp at h
    | cons t ts =>
      obtain ⟨h1, h2⟩ := h
      have hl' : ts.length ≤ n := by simpa using hl
      rw [Ck.take_cons, if_neg (by decide), if_pos rfl] at h1 h2
      by_cases k : kind t = 19
      · rw [if_pos k] at h2
        exact ⟨.nil, ts, trivial, by rw [w_close t k]; simp [Sms.flat], h2, by simp⟩
      · rw [if_neg k] at h1 h2
        obtain ⟨s, rs, os, es, ac, ls⟩ := parse_sm n ih t ts 2 r hl' h1 h2
        obtain ⟨b, rb, ob, eb, ab, lb⟩ := ih rs r (by simp at ls; omega) ac
        refine ⟨.cons s b, rb, ⟨os, ob⟩, ?_, ab, by simp at ls ⊢; omega⟩
        rw [es, eb]; simp [Sms.flat]
theorem parse_body (n : Nat) : ∀ (ts : List Tok), ts.length ≤ n → acc [1] ts → ∃ b, Sms.Ok b ∧ ts = b.flat := by
  induction n with
  | zero =>
    intro ts hl _
    exact ⟨.nil, trivial, List.eq_nil_of_length_eq_zero (by omega)⟩
  | succ n ih =>
    intro ts hl h
    cases ts with
    | nil => exact ⟨.nil, trivial, rfl⟩
    | cons t ts =>
      obtain ⟨h1, h2⟩ := h
      have hl' : ts.length ≤ n := by simpa using hl
      rw [Ck.take_cons, if_pos rfl] at h1 h2
      obtain ⟨s, rs, os, es, ac, ls⟩ := parse_sm n (parse_bl n) t ts 1 [] hl' h1 h2
      obtain ⟨b, ob, eb⟩ := ih rs (by simp at ls; omega) ac
      refine ⟨.cons s b, ⟨os, ob⟩, ?_⟩
      rw [es, eb]; simp [Sms.flat]
/-- A source that reads is a row of statements. -/
theorem parse (src : List UInt8) (h : (Ck.read src).2 = 0) : ∃ b, Sms.Ok b ∧ Ck.toks src = b.flat := by
  unfold Ck.read at h
  split at h
  · simp at h
  · exact parse_body _ _ (Nat.le_refl _) (acc_rd _ 0 [1] h)
end Tr
end Go.Proofs.YtellilpeakpbfaaGreatDoor

end

section
/-
  Trees as texts: a text whose tokens are a tree's reads; no Go text.
-/
namespace Go.Proofs.YtellilpeakpbfaaGreatDoor
open Go.RowKit
namespace Kp
open Tr (Tok Ex Sm Sms kind acc)

theorem rd_acc (ts : List Tok) : ∀ (i : Nat) (st : List Int), acc st ts → Ck.rdGo i st ts = (0, 0) := by
  induction ts with
  | nil => intro i st h; unfold acc at h; unfold Ck.rdGo; rw [if_pos h]
  | cons t r ih =>
    intro i st h
    obtain ⟨h1, h2⟩ := h
    unfold Ck.rdGo
    have h1' : (Ck.take st (Ck.tokenP t).1).1 = true := h1
    rw [if_pos h1']
    exact ih _ _ h2

theorem acc_ex : ∀ (e : Ex), e.Ok → ∀ (r : List Int) (rest : List Tok), acc r rest → acc (5 :: r) (e.flat ++ rest)
  | .leaf t, h, r, rest, hr => by
    have e : Ck.take (5 :: r) (kind t) = (true, r) := by
      rw [Ck.take_cons, if_neg (by decide), if_neg (by decide), if_neg (by decide), if_neg (by decide), if_pos rfl]
      have h' : kind t = 1 ∨ kind t = 2 ∨ kind t = 3 := h
      unfold Ck.expr; rw [if_pos h']
    show acc (5 :: r) (t :: rest)
    unfold acc; rw [e]; exact ⟨rfl, hr⟩
  | .un t a, h, r, rest, hr => by
    have e : Ck.take (5 :: r) (kind t) = (true, 5 :: r) := by
      rw [Ck.take_cons, if_neg (by decide), if_neg (by decide), if_neg (by decide), if_neg (by decide), if_pos rfl]
      have := h.1
      unfold Ck.expr; rw [if_neg (by omega), if_neg (by omega), if_pos this]
    show acc (5 :: r) (t :: (a.flat ++ rest))
    unfold acc; rw [e]; exact ⟨rfl, acc_ex a h.2 r rest hr⟩
  | .bin t a b, h, r, rest, hr => by
    have e : Ck.take (5 :: r) (kind t) = (true, 5 :: 5 :: r) := by
      rw [Ck.take_cons, if_neg (by decide), if_neg (by decide), if_neg (by decide), if_neg (by decide), if_pos rfl]
      have := h.1
      unfold Ck.expr; rw [if_neg (by omega), if_pos (by omega)]
    show acc (5 :: r) (t :: ((a.flat ++ b.flat) ++ rest))
    unfold acc; rw [e, List.append_assoc]; exact ⟨rfl, acc_ex a h.2.1 _ _ (acc_ex b h.2.2 r rest hr)⟩

/-- a body or a block is around. -/
def Around (x : Int) : Prop := x = 1 ∨ x = 2
theorem take_around {x : Int} (hx : Around x) (r : List Int) (k : Int) (hk : k ≠ 19) : Ck.take (x :: r) k = Ck.stmt x r k := by
  rcases hx with rfl | rfl
  · rw [Ck.take_cons, if_pos rfl]
  · rw [Ck.take_cons, if_neg (by decide), if_pos rfl, if_neg hk]
theorem take_open (r : List Int) (k : Int) (hk : k = 18) : Ck.take (3 :: r) k = (true, 2 :: r) := by
  rw [Ck.take_cons, if_neg (by decide), if_neg (by decide), if_pos rfl, hk]; rfl
theorem take_close (r : List Int) (k : Int) (hk : k = 19) : Ck.take (2 :: r) k = (true, r) := by
  rw [Ck.take_cons, if_neg (by decide), if_pos rfl, if_pos hk]
theorem k_set : kind [115, 101, 116] = 11 := by decide
theorem k_put : kind [112, 117, 116] = 12 := by decide
theorem k_del : kind [100, 101, 108] = 13 := by decide
theorem k_if : kind [105, 102] = 14 := by decide
theorem k_while : kind [119, 104, 105, 108, 101] = 15 := by decide
theorem k_stop : kind [115, 116, 111, 112] = 16 := by decide
theorem k_fail : kind [102, 97, 105, 108] = 17 := by decide
theorem k_open : kind [123] = 18 := by decide
theorem k_close : kind [125] = 19 := by decide

theorem acc_go {st st' : List Int} {t : Tok} {rest : List Tok} (e : Ck.take st (kind t) = (true, st')) (h : acc st' rest) : acc st (t :: rest) := by
  unfold acc; rw [e]; exact ⟨rfl, h⟩

mutual
theorem acc_sm : ∀ (s : Sm), s.Ok → ∀ (x : Int), Around x → ∀ (r : List Int) (rest : List Tok), acc (x :: r) rest → acc (x :: r) (s.flat ++ rest)
  | .set v e, h, x, hx, r, rest, hr => by
    have e1 : Ck.take (x :: r) (kind [115, 101, 116]) = (true, 4 :: 5 :: x :: r) := by rw [take_around hx _ _ (by rw [k_set]; decide), k_set]; rfl
    have e2 : Ck.take (4 :: 5 :: x :: r) (kind v) = (true, 5 :: x :: r) := by
      rw [Ck.take_cons, if_neg (by decide), if_neg (by decide), if_neg (by decide), if_pos rfl, h.1]; rfl
    show acc (x :: r) ([115, 101, 116] :: v :: (e.flat ++ rest))
    exact acc_go e1 (acc_go e2 (acc_ex e h.2 _ _ hr))
  | .put a b, h, x, hx, r, rest, hr => by
    have e1 : Ck.take (x :: r) (kind [112, 117, 116]) = (true, 5 :: 5 :: x :: r) := by rw [take_around hx _ _ (by rw [k_put]; decide), k_put]; rfl
    show acc (x :: r) ([112, 117, 116] :: ((a.flat ++ b.flat) ++ rest))
    rw [List.append_assoc]
    exact acc_go e1 (acc_ex a h.1 _ _ (acc_ex b h.2 _ _ hr))
  | .del a, h, x, hx, r, rest, hr => by
    have e1 : Ck.take (x :: r) (kind [100, 101, 108]) = (true, 5 :: x :: r) := by rw [take_around hx _ _ (by rw [k_del]; decide), k_del]; rfl
    show acc (x :: r) ([100, 101, 108] :: (a.flat ++ rest))
    exact acc_go e1 (acc_ex a h _ _ hr)
  | .stop a, h, x, hx, r, rest, hr => by
    have e1 : Ck.take (x :: r) (kind [115, 116, 111, 112]) = (true, 5 :: x :: r) := by rw [take_around hx _ _ (by rw [k_stop]; decide), k_stop]; rfl
    show acc (x :: r) ([115, 116, 111, 112] :: (a.flat ++ rest))
    exact acc_go e1 (acc_ex a h _ _ hr)
  | .fail, h, x, hx, r, rest, hr => by
    have e1 : Ck.take (x :: r) (kind [102, 97, 105, 108]) = (true, x :: r) := by rw [take_around hx _ _ (by rw [k_fail]; decide), k_fail]; rfl
    show acc (x :: r) ([102, 97, 105, 108] :: rest)
    exact acc_go e1 hr
  | .ite e a b, h, x, hx, r, rest, hr => by
    have e1 : Ck.take (x :: r) (kind [105, 102]) = (true, 5 :: 3 :: 3 :: x :: r) := by rw [take_around hx _ _ (by rw [k_if]; decide), k_if]; rfl
    have g : (Sm.ite e a b).flat ++ rest = [105, 102] :: (e.flat ++ ([123] :: (a.flat ++ ([125] :: [123] :: (b.flat ++ ([125] :: rest)))))) := by simp [Sm.flat]
    rw [g]
    exact acc_go e1 (acc_ex e h.1 _ _ (acc_go (take_open _ _ k_open) (acc_sms a h.2.1 2 (.inr rfl) _ _ (acc_go (take_close _ _ k_close) (acc_go (take_open _ _ k_open) (acc_sms b h.2.2 2 (.inr rfl) _ _ (acc_go (take_close _ _ k_close) hr)))))))
  | .whl e a, h, x, hx, r, rest, hr => by
    have e1 : Ck.take (x :: r) (kind [119, 104, 105, 108, 101]) = (true, 5 :: 3 :: x :: r) := by rw [take_around hx _ _ (by rw [k_while]; decide), k_while]; rfl
    have g : (Sm.whl e a).flat ++ rest = [119, 104, 105, 108, 101] :: (e.flat ++ ([123] :: (a.flat ++ ([125] :: rest)))) := by simp [Sm.flat]
    rw [g]
    exact acc_go e1 (acc_ex e h.1 _ _ (acc_go (take_open _ _ k_open) (acc_sms a h.2 2 (.inr rfl) _ _ (acc_go (take_close _ _ k_close) hr))))
theorem acc_sms : ∀ (b : Sms), b.Ok → ∀ (x : Int), Around x → ∀ (r : List Int) (rest : List Tok), acc (x :: r) rest → acc (x :: r) (b.flat ++ rest)
  | .nil, _, x, hx, r, rest, hr => hr
  | .cons s b, h, x, hx, r, rest, hr => by
    show acc (x :: r) ((s.flat ++ b.flat) ++ rest)
    rw [List.append_assoc]
    exact acc_sm s h.1 x hx r _ (acc_sms b h.2 x hx r rest hr)
end

/-- a short text whose tokens are a tree's reads. -/
theorem read_tree (l : List UInt8) (b : Sms) (hb : b.Ok) (ht : Ck.toks l = b.flat) (hl : l.length ≤ 400) : Ck.read l = (0, 0) := by
  unfold Ck.read
  rw [if_neg (by omega), ht]
  refine rd_acc _ _ _ ?_
  have := acc_sms b hb 1 (.inl rfl) [] [] (by unfold acc; rfl)
  simpa using this

/-- a token's bytes: no blank. -/
def Wd (t : Tok) : Prop := t ≠ [] ∧ ∀ c ∈ t, Ck.isSp c = false
theorem scan_app (l m : List UInt8) : Ck.scan (l ++ m) = m.foldl Ck.stepT (Ck.scan l) := by simp [Ck.scan]
theorem fold_word (t : List UInt8) : ∀ (p : List (List UInt8) × List UInt8), (∀ c ∈ t, Ck.isSp c = false) → t.foldl Ck.stepT p = (p.1, p.2 ++ t) := by
  induction t with
  | nil => intro p _; simp
  | cons c r ih =>
    intro p h
    have e : Ck.stepT p c = (p.1, p.2 ++ [c]) := by unfold Ck.stepT; rw [if_neg (by simp [h c (by simp)])]
    rw [List.foldl_cons, e, ih _ (fun x hx => h x (by simp [hx]))]
    simp
/-- a gap: blanks, at least one. -/
def Gap (g : List UInt8) : Prop := g ≠ [] ∧ ∀ c ∈ g, Ck.isSp c = true
theorem fold_gap0 (g : List UInt8) (h : ∀ c ∈ g, Ck.isSp c = true) : ∀ (ts : List (List UInt8)), g.foldl Ck.stepT (ts, []) = (ts, []) := by
  induction g with
  | nil => intro ts; rfl
  | cons c r ih =>
    intro ts
    have e : Ck.stepT (ts, []) c = (ts, []) := by unfold Ck.stepT; rw [if_pos (h c (by simp))]; rfl
    rw [List.foldl_cons, e]
    exact ih (fun x hx => h x (by simp [hx])) ts
theorem fold_gap (g : List UInt8) (h : Gap g) (ts : List (List UInt8)) (t : List UInt8) (ht : t ≠ []) : g.foldl Ck.stepT (ts, t) = (ts ++ [t], []) := by
  obtain ⟨hn, hc⟩ := h
  cases g with
  | nil => exact absurd rfl hn
  | cons c r =>
    have e : Ck.stepT (ts, t) c = (ts ++ [t], []) := by
      unfold Ck.stepT
      rw [if_pos (hc c (by simp)), if_neg (by simpa using ht)]
    rw [List.foldl_cons, e]
    exact fold_gap0 r (fun x hx => hc x (by simp [hx])) _

/-- tokens with one blank between. -/
def join : List Tok → List UInt8
  | [] => []
  | t :: r => t ++ r.flatMap (32 :: ·)
theorem join_snoc (l : List Tok) (t : Tok) : join (l ++ [t]) = if l = [] then t else join l ++ 32 :: t := by
  cases l with
  | nil => simp [join]
  | cons x r => simp [join]
theorem gap1 : Gap [32] := ⟨by decide, by decide⟩
theorem scan_join (l : List Tok) (h : ∀ t ∈ l, Wd t) (t : Tok) (ht : Wd t) : Ck.scan (join (l ++ [t])) = (l, t) := by
  induction l using Ck.snoc_ind generalizing t with
  | h0 => simp [join]; rw [Ck.scan, fold_word t _ ht.2]; simp
  | h1 l u ih =>
    have hl : ∀ t ∈ l, Wd t := fun x hx => h x (by simp [hx])
    have hu : Wd u := h u (by simp)
    rw [join_snoc, if_neg (by simp), scan_app, ih hl u hu]
    have e : (32 : UInt8) :: t = [32] ++ t := rfl
    rw [e, List.foldl_append, fold_gap _ gap1 _ _ hu.1, fold_word t _ ht.2]
    simp
theorem toks_join (l : List Tok) (h : ∀ t ∈ l, Wd t) : Ck.toks (join l) = l := by
  induction l using Ck.snoc_ind with
  | h0 => rfl
  | h1 l t _ =>
    have hs := scan_join l (fun x hx => h x (by simp [hx])) t (h t (by simp))
    unfold Ck.toks
    rw [hs, if_neg (by simpa using (h t (by simp)).1)]

/-- tokens with a gap ahead of all and one behind each. -/
def loose (g : List UInt8) (l : List Tok) : List UInt8 := g ++ l.flatMap (· ++ g)
theorem loose_snoc (g : List UInt8) (l : List Tok) (t : Tok) : loose g (l ++ [t]) = loose g l ++ t ++ g := by simp [loose]
theorem scan_loose (g : List UInt8) (hg : Gap g) (l : List Tok) (h : ∀ t ∈ l, Wd t) : Ck.scan (loose g l) = (l, []) := by
  induction l using Ck.snoc_ind with
  | h0 => simp [loose]; rw [Ck.scan, fold_gap0 g hg.2]
  | h1 l t ih =>
    have ht := h t (by simp)
    rw [loose_snoc, List.append_assoc, scan_app, ih (fun x hx => h x (by simp [hx])), List.foldl_append, fold_word t _ ht.2]
    simp only [List.nil_append]
    exact fold_gap g hg l t ht.1
theorem toks_loose (g : List UInt8) (hg : Gap g) (l : List Tok) (h : ∀ t ∈ l, Wd t) : Ck.toks (loose g l) = l := by
  unfold Ck.toks
  rw [scan_loose g hg l h]
  rfl
end Kp
end Go.Proofs.YtellilpeakpbfaaGreatDoor

end

section
/-
  Trees that are worked out; that the program's way over tokens comes to the same: expressions; no Go text.
-/
namespace Go.Proofs.YtellilpeakpbfaaGreatDoor
open Go.RowKit
namespace Rn
open Tr

/-- a state but for its place. -/
def N (s : St) : St := { s with pos := 0 }
def N3 (r : Int × Int × St) : Int × Int × St := (r.1, r.2.1, N r.2.2)
theorem N_use (s : St) : N (use s) = use (N s) := rfl
theorem N_adv (E : En) (s : St) : N (adv E s) = N s := by unfold adv; split <;> rfl
theorem N_look (E : En) (k : Int) (r : Int × Int × St) : N3 (look E k r) = look E k (N3 r) := by
  unfold look N3
  have e : get E (N r.2.2) r.1 = get E r.2.2 r.1 := rfl
  simp only [e]
  split
  · rfl
  · split <;> rfl
theorem N_two (k : Int) (a b : Int × Int × St) : N3 (two k a b) = two k (N3 a) (N3 b) := by
  unfold two N3
  simp only
  split
  · rfl
  · split <;> rfl

def leafV (E : En) (s : St) (t : Tok) : Int := if kind t = 1 then (Ck.tokenP t).2 else if kind t = 2 then arg E (Ck.tokenP t).2 else var s (Ck.tokenP t).2
/-- an expression: the value, the error, what is behind it. -/
def texpr (E : En) : Ex → St → Int × Int × St
  | .leaf t, s => if E.fuel ≤ s.used then (0, 10, s) else (leafV E s t, 0, use s)
  | .un t e, s => if E.fuel ≤ s.used then (0, 10, s) else look E (kind t) (texpr E e (use s))
  | .bin t a b, s => if E.fuel ≤ s.used then (0, 10, s) else two (kind t) (texpr E a (use s)) (texpr E b (texpr E a (use s)).2.2)

/-- the tokens from a place on. -/
def Here (E : En) (p : Nat) (l : List Tok) : Prop := E.tk.drop p = l.map Ck.tokenP
theorem Here.head {E : En} {s : St} {t : Tok} {l : List Tok} (h : Here E s.pos (t :: l)) : tok E s = Ck.tokenP t ∧ (adv E s).pos = s.pos + 1 ∧ Here E (s.pos + 1) l := by
  unfold Here at h
  have hl : s.pos < E.tk.length := by
    rcases Nat.lt_or_ge s.pos E.tk.length with h1 | h1
    · exact h1
    · rw [List.drop_eq_nil_of_le h1] at h; simp at h
  rw [List.drop_eq_getElem_cons hl, List.map_cons] at h
  injection h with h1 h2
  refine ⟨?_, ?_, h2⟩
  · unfold Rn.tok
    rw [List.getElem?_eq_getElem hl, h1]; rfl
  · unfold adv
    rw [if_pos hl]
theorem Here.app {E : En} {p : Nat} {l r : List Tok} (h : Here E p (l ++ r)) : Here E (p + l.length) r := by
  unfold Here at h ⊢
  rw [← List.drop_drop, h, List.map_append, List.drop_append_of_le_length (by simp), List.drop_eq_nil_of_le (by simp), List.nil_append]
theorem adv_use_pos {E : En} {s : St} {t : Tok} {l : List Tok} (h : Here E s.pos (t :: l)) : (adv E (use s)).pos = s.pos + 1 := (Here.head (s := use s) h).2.1

theorem expr_tree (E : En) (e : Ex) : ∀ (s : St) (rest : List Tok) (n : Nat), e.Ok → Here E s.pos (e.flat ++ rest) → E.fuel - s.used ≤ n → Fit E s →
    texpr E e (N s) = N3 (expr E n s) ∧ ((expr E n s).2.1 = 0 → (expr E n s).2.2.pos = s.pos + e.flat.length) := by
  induction e with
  | leaf t =>
    intro s rest n hok hh hn hf
    by_cases hu : E.fuel ≤ s.used
    · rw [expr_out E n s hu, texpr, if_pos (by exact hu)]
      exact ⟨rfl, fun h => by simp at h⟩
    · obtain ⟨m, rfl⟩ : ∃ m, n = m + 1 := ⟨n - 1, by omega⟩
      have hu' : s.used < E.fuel := by omega
      have hh' : Here E s.pos (t :: rest) := hh
      obtain ⟨ht, -, -⟩ := hh'.head
      have hp := adv_use_pos hh'
      rw [expr_succ E m s hu', ht, texpr, if_neg (by exact hu)]
      unfold leafV
      have hok' : kind t = 1 ∨ kind t = 2 ∨ kind t = 3 := hok
      have hk : (Ck.tokenP t).1 = kind t := rfl
      rw [hk]
      rcases hok' with h | h | h
      · rw [if_pos h, if_pos h]
        exact ⟨by unfold N3; simp only [N_adv, N_use], fun _ => hp⟩
      · have n1 : ¬ kind t = 1 := by omega
        rw [if_neg n1, if_neg n1, if_pos h, if_pos h]
        exact ⟨by unfold N3; simp only [N_adv, N_use], fun _ => hp⟩
      · have n1 : ¬ kind t = 1 := by omega
        have n2 : ¬ kind t = 2 := by omega
        rw [if_neg n1, if_neg n1, if_neg n2, if_neg n2, if_pos h]
        refine ⟨?_, fun _ => hp⟩
        have hv : var (adv E (use s)) (Ck.tokenP t).2 = var (N s) (Ck.tokenP t).2 := by
          unfold adv; split <;> rfl
        unfold N3
        simp only [N_adv, N_use, hv]
  | un t e ih =>
    intro s rest n hok hh hn hf
    by_cases hu : E.fuel ≤ s.used
    · rw [expr_out E n s hu, texpr, if_pos (by exact hu)]
      exact ⟨rfl, fun h => by simp at h⟩
    · obtain ⟨m, rfl⟩ : ∃ m, n = m + 1 := ⟨n - 1, by omega⟩
      have hu' : s.used < E.fuel := by omega
      have hh' : Here E s.pos (t :: (e.flat ++ rest)) := hh
      obtain ⟨ht, -, h1⟩ := hh'.head
      have hp := adv_use_pos hh'
      have hus : (adv E (use s)).used = s.used + 1 := adv_used E (use s)
      obtain ⟨hk, oke⟩ := (hok : (kind t = 9 ∨ kind t = 10) ∧ e.Ok)
      obtain ⟨i1, i2⟩ := ih (adv E (use s)) rest m oke (by rw [hp]; exact h1) (by omega) (hf.use hu').adv
      rw [N_adv, N_use] at i1
      have hkk : (Ck.tokenP t).1 = kind t := rfl
      rw [expr_succ E m s hu', ht, hkk, if_neg (by omega), if_neg (by omega), if_neg (by omega), if_pos hk, texpr, if_neg (by exact hu)]
      refine ⟨by rw [i1, N_look], fun h0 => ?_⟩
      rw [look_snd]
      have he : (expr E m (adv E (use s))).2.1 = 0 := by
        unfold look at h0
        split at h0
        · rename_i hne; exact absurd h0 hne
        · rename_i hne; simpa using hne
      rw [i2 he, hp]
      simp [Ex.flat]; omega
  | bin t a b iha ihb =>
    intro s rest n hok hh hn hf
    by_cases hu : E.fuel ≤ s.used
    · rw [expr_out E n s hu, texpr, if_pos (by exact hu)]
      exact ⟨rfl, fun h => by simp at h⟩
    · obtain ⟨m, rfl⟩ : ∃ m, n = m + 1 := ⟨n - 1, by omega⟩
      have hu' : s.used < E.fuel := by omega
      have hh' : Here E s.pos (t :: (a.flat ++ (b.flat ++ rest))) := by
        have : (Ex.bin t a b).flat ++ rest = t :: (a.flat ++ (b.flat ++ rest)) := by simp [Ex.flat]
        rw [this] at hh; exact hh
      obtain ⟨ht, -, h1⟩ := hh'.head
      have hp := adv_use_pos hh'
      have hus : (adv E (use s)).used = s.used + 1 := adv_used E (use s)
      obtain ⟨hk, oka, okb⟩ := (hok : (4 ≤ kind t ∧ kind t ≤ 8) ∧ a.Ok ∧ b.Ok)
      have f1 := (hf.use hu').adv
      obtain ⟨i1, i2⟩ := iha (adv E (use s)) (b.flat ++ rest) m oka (by rw [hp]; exact h1) (by omega) f1
      rw [N_adv, N_use] at i1
      obtain ⟨g1, g2, -⟩ := expr_fit E m _ f1
      have hkk : (Ck.tokenP t).1 = kind t := rfl
      rw [expr_succ E m s hu', ht, hkk, if_neg (by omega), if_neg (by omega), if_neg (by omega), if_neg (by omega), texpr, if_neg (by exact hu), i1]
      by_cases ha : (expr E m (adv E (use s))).2.1 = 0
      · have hpa := i2 ha
        obtain ⟨j1, j2⟩ := ihb (expr E m (adv E (use s))).2.2 rest m okb (by rw [hpa, hp]; exact h1.app) (by have := g2.used; omega) g1
        have e1 : (N3 (expr E m (adv E (use s)))).2.2 = N (expr E m (adv E (use s))).2.2 := rfl
        rw [e1, j1, ← N_two]
        refine ⟨rfl, fun h0 => ?_⟩
        rw [if_neg (by simpa using ha)] at h0 ⊢
        have hb : (expr E m (expr E m (adv E (use s))).2.2).2.1 = 0 := by
          split at h0
          · rename_i hne; exact absurd h0 hne
          · rename_i hne; simpa using hne
        rw [if_neg (by simpa using hb)]
        show (expr E m (expr E m (adv E (use s))).2.2).2.2.pos = _
        rw [j2 hb, hpa, hp]
        simp [Ex.flat]; omega
      · rw [if_pos ha]
        refine ⟨?_, fun h0 => absurd h0 ha⟩
        unfold two N3
        rw [if_pos ha]
end Rn
end Go.Proofs.YtellilpeakpbfaaGreatDoor

end
