import Derived.Test.YtellilpeakpbfaaGreatDoorKpWToo
import Derived.Test.YtellilpeakpbfaaGreatDoorSiteAToo
import Derived.Test.YtellilpeakpbfaaGreatDoorSiteHToo
section
/-
  A loop that adds up numbers, in plain words; no Go text.
-/
namespace Go.Proofs.YtellilpeakpbfaaGreatDoor
open Go.RowKit
namespace Kp
open Tr (Tok Ex Sm Sms kind acc)

def sumCond : Ex := .bin [60] (.leaf [118, 48]) (.leaf [97, 48])
def sumBody : Sms := .cons (.set [118, 48] (.bin [43] (.leaf [118, 48]) (.leaf [49]))) (.cons (.set [118, 49] (.bin [43] (.leaf [118, 49]) (.leaf [118, 48]))) .nil)
def sumTree : Sms := .cons (.whl sumCond sumBody) (.cons (.put (.leaf [97, 49]) (.leaf [118, 49])) (.cons (.stop (.un [64] (.leaf [97, 49]))) .nil))
def sumSrc : List UInt8 := [119, 104, 105, 108, 101, 32, 60, 32, 118, 48, 32, 97, 48, 32, 123, 32, 115, 101, 116, 32, 118, 48, 32, 43, 32, 118, 48, 32, 49, 32, 115, 101, 116, 32, 118, 49, 32, 43, 32, 118, 49, 32, 118, 48, 32, 125, 32, 112, 117, 116, 32, 97, 49, 32, 118, 49, 32, 115, 116, 111, 112, 32, 64, 32, 97, 49]
theorem sum_toks : Ck.toks sumSrc = sumTree.flat := by decide +kernel
theorem sum_ok : sumTree.Ok := by
  have a : kind [60] = 7 := by decide
  have b : kind [118, 48] = 3 := by decide
  have c : kind [97, 48] = 2 := by decide
  have d : kind [43] = 4 := by decide
  have e : kind [49] = 1 := by decide
  have f : kind [118, 49] = 3 := by decide
  have g : kind [97, 49] = 2 := by decide
  have h : kind [64] = 9 := by decide
  exact ⟨⟨⟨⟨by omega, by omega⟩, .inr (.inr b), .inr (.inl c)⟩, ⟨b, ⟨by omega, by omega⟩, .inr (.inr b), .inl e⟩, ⟨f, ⟨by omega, by omega⟩, .inr (.inr f), .inr (.inr b)⟩, trivial⟩, ⟨.inr (.inl g), .inr (.inr f)⟩, ⟨.inl h, .inr (.inl g)⟩, trivial⟩
theorem sum_read : Ck.read sumSrc = (0, 0) := read_tree _ sumTree sum_ok sum_toks (by decide)

def tri (i : Nat) : Nat := i * (i + 1) / 2
theorem tri_succ (i : Nat) : tri i + (i + 1) = tri (i + 1) := by
  unfold tri
  have h : (i + 1) * (i + 1 + 1) = i * (i + 1) + 2 * (i + 1) := by rw [← Nat.add_mul]; simp [Nat.add_mul, Nat.mul_add]; omega
  rw [h]; omega
theorem tri_le (i : Nat) (h : i ≤ 800) : tri i ≤ 320400 := by
  unfold tri
  have : i * (i + 1) ≤ 800 * 801 := Nat.mul_le_mul h (by omega)
  omega
/-- the variables, and the units that were used. -/
def sst (i : Int) (t : Int) (u : Nat) : Rn.St := ⟨0, i, t, 0, 0, [], u, false, 0⟩
theorem use_sst (i t : Int) (u : Nat) : Rn.use (sst i t u) = sst i t (u + 1) := rfl
theorem sum_cond (E : Rn.En) (n : Nat) (hE : E.fuel = 10000) (ha : E.a0 = (n : Int)) (i : Nat) (t : Int) (u : Nat) (hu : u + 4 ≤ 10000) : Rn.texpr E sumCond (Rn.use (sst i t u)) = (Rn.oneIf (decide ((i : Int) < n)), 0, sst i t (u + 4)) := by
  have e1 := tx_var E (Rn.use (Rn.use (sst i t u))) [118, 48] 0 (by decide) (by rw [hE]; show u + 2 < 10000; omega)
  have e2 := tx_arg E (Rn.use (Rn.use (Rn.use (sst i t u)))) [97, 48] 0 (by decide) (by rw [hE]; show u + 3 < 10000; omega)
  have e3 := tx_bin E (Rn.use (sst i t u)) _ _ [60] _ _ _ _ e1 e2 (by rw [hE]; show u + 1 < 10000; omega)
  have hk : kind [60] = 7 := by decide
  unfold sumCond
  rw [e3, hk]
  have hr : ∀ a b, Rn.reckon 7 a b = (Rn.oneIf (decide (a < b)), 0) := fun a b => by unfold Rn.reckon; rw [if_pos rfl]
  rw [hr]
  show (Rn.oneIf (decide ((i : Int) < E.a0)), 0, _) = _
  rw [ha]
  rfl
theorem isVal_nat (k : Nat) (h : k ≤ 1000000) : Jn.isVal (k : Int) = true := by unfold Jn.isVal; simp; omega
theorem reck_add (a b : Nat) (h : a + b ≤ 1000000) : Rn.reckon 4 (a : Int) (b : Int) = (((a + b : Nat) : Int), 0) := by
  unfold Rn.reckon Rn.sum Rn.bounded
  rw [if_neg (by decide), if_neg (by decide), if_pos rfl]
  have e : (a : Int) + b = ((a + b : Nat) : Int) := by omega
  rw [e, if_pos (isVal_nat _ h)]
theorem sum_body (E : Rn.En) (hE : E.fuel = 10000) (i : Nat) (hi : i < 800) (u g : Nat) (hu : u + 8 ≤ 10000) : Rn.tstmts E (g + 3) sumBody (sst i (tri i) u) = (0, sst (i + 1 : Nat) (tri (i + 1)) (u + 8)) := by
  have ht := tri_le (i + 1) (by omega)
  have hs := tri_succ i
  -- the first
  have a1 := tx_var E (Rn.use (Rn.use (sst i (tri i) u))) [118, 48] 0 (by decide) (by rw [hE]; show u + 2 < 10000; omega)
  have a2 : Rn.texpr E (.leaf [49]) (Rn.use (Rn.use (Rn.use (sst i (tri i) u)))) = (((1 : Nat) : Int), 0, Rn.use (Rn.use (Rn.use (Rn.use (sst i (tri i) u))))) := by
    have := tx_num E (Rn.use (Rn.use (Rn.use (sst i (tri i) u)))) 1 (by decide) (by rw [hE]; show u + 3 < 10000; omega)
    have h1 : Lib.decDigits 1 = [49] := by rw [Lib.decDigits, dif_pos (by decide)]; rfl
    rw [h1] at this
    exact this
  have a3 := tx_bin E (Rn.use (sst i (tri i) u)) _ _ [43] _ _ _ _ a1 a2 (by rw [hE]; show u + 1 < 10000; omega)
  have hk : kind [43] = 4 := by decide
  have hv0 : Rn.var (Rn.use (Rn.use (sst i (tri i) u))) 0 = (i : Int) := rfl
  rw [hk, hv0, reck_add i 1 (by omega)] at a3
  have s1 : ∀ g, Rn.tstmt E (g + 1) (.set [118, 48] (.bin [43] (.leaf [118, 48]) (.leaf [49]))) (sst i (tri i) u) = (0, sst (i + 1 : Nat) (tri i) (u + 4)) := by
    intro g
    rw [Rn.tstmt, if_neg (by rw [hE]; show ¬ 10000 ≤ u; omega), a3]
    have hp : (Ck.tokenP [118, 48]).2 = 0 := by decide
    rw [hp]
    rfl
  -- the second
  have b1 := tx_var E (Rn.use (Rn.use (sst (i + 1 : Nat) (tri i) (u + 4)))) [118, 49] 1 (by decide) (by rw [hE]; show u + 4 + 2 < 10000; omega)
  have b2 := tx_var E (Rn.use (Rn.use (Rn.use (sst (i + 1 : Nat) (tri i) (u + 4))))) [118, 48] 0 (by decide) (by rw [hE]; show u + 4 + 3 < 10000; omega)
  have b3 := tx_bin E (Rn.use (sst (i + 1 : Nat) (tri i) (u + 4))) _ _ [43] _ _ _ _ b1 b2 (by rw [hE]; show u + 4 + 1 < 10000; omega)
  have hw0 : Rn.var (Rn.use (Rn.use (sst (i + 1 : Nat) (tri i) (u + 4)))) 1 = (tri i : Int) := rfl
  have hw1 : Rn.var (Rn.use (Rn.use (Rn.use (sst (i + 1 : Nat) (tri i) (u + 4))))) 0 = ((i + 1 : Nat) : Int) := rfl
  rw [hk, hw0, hw1, reck_add (tri i) (i + 1) (by omega), hs] at b3
  have s2 : ∀ g, Rn.tstmt E (g + 1) (.set [118, 49] (.bin [43] (.leaf [118, 49]) (.leaf [118, 48]))) (sst (i + 1 : Nat) (tri i) (u + 4)) = (0, sst (i + 1 : Nat) (tri (i + 1)) (u + 8)) := by
    intro g
    rw [Rn.tstmt, if_neg (by rw [hE]; show ¬ 10000 ≤ u + 4; omega), b3]
    have hp : (Ck.tokenP [118, 49]).2 = 1 := by decide
    rw [hp]
    rfl
  unfold sumBody
  rw [Rn.tstmts, if_neg (by simp [sst]), s1, if_neg (by simp)]
  simp only
  rw [Rn.tstmts, if_neg (by simp [sst]), s2, if_neg (by simp)]
  simp only
  rw [Rn.tstmts]
theorem sum_loop (E : Rn.En) (n : Nat) (hn : n ≤ 800) (hE : E.fuel = 10000) (ha : E.a0 = (n : Int)) : ∀ (j i u g : Nat), i + j = n → u = 12 * i → Rn.tloop E (g + 4 + j) sumCond sumBody (sst i (tri i) u) = (0, sst n (tri n) (12 * n + 4)) := by
  intro j
  induction j with
  | zero =>
    intro i u g hij hu
    have hin : i = n := by omega
    subst hin hu
    rw [show g + 4 + 0 = (g + 3) + 1 from rfl, Rn.tloop, if_neg (by simp [sst]), if_neg (by rw [hE]; show ¬ 10000 ≤ 12 * i; omega), sum_cond E i hE ha i _ _ (by omega)]
    simp [Rn.oneIf]
  | succ j ih =>
    intro i u g hij hu
    subst hu
    have hlt : decide ((i : Int) < n) = true := decide_eq_true (by omega)
    rw [show g + 4 + (j + 1) = (g + 4 + j) + 1 by omega, Rn.tloop, if_neg (by simp [sst]), if_neg (by rw [hE]; show ¬ 10000 ≤ 12 * i; omega), sum_cond E n hE ha i _ _ (by omega), hlt]
    simp only [Rn.oneIf, if_true, ne_eq, not_true, if_false]
    rw [if_neg (by decide), show g + 4 + j = (g + 1 + j) + 3 by omega, sum_body E hE i (by omega) _ _ (by omega)]
    simp only [not_true, if_false]
    have := ih (i + 1) (12 * i + 4 + 8) g (by omega) (by omega)
    rw [show (g + 1 + j) + 3 = g + 4 + j by omega]
    exact this
set_option maxRecDepth 100000 in
/-- all of it. -/
theorem sum_run (C : Jn.Con) (hok : Jn.Ok C) (n k : Nat) (hn : n ≤ 800) (hk : k ≤ 99) : Rn.run C sumSrc [(n : Int), (k : Int)] 10000 = ((tri n : Int), ((12 * n + 10 : Nat) : Int), [((k : Int), true, (tri n : Int))], 0) := by
  have hmay : Rn.may [(n : Int), (k : Int)] 10000 = true := by unfold Rn.may Rn.inb; simp; omega
  have hr : (Ck.read sumSrc).2 = 0 := by rw [sum_read]
  have htree := Rn.run_tree C sumSrc [(n : Int), (k : Int)] 10000 hok hr hmay sumTree sum_ok sum_toks
  have hrun := Rn.run_ok C sumSrc [(n : Int), (k : Int)] 10000 hr hmay
  have key : ∀ E : Rn.En, E.fuel = 10000 → E.a0 = (n : Int) → E.a1 = (k : Int) → ∀ g, Rn.tstmts E (g + 808) sumTree (sst 0 0 0) = (0, ⟨0, n, tri n, 0, 0, [((k : Int), true, (tri n : Int))], 12 * n + 10, true, (tri n : Int)⟩) := by
    intro E hE ha hb g
    have hkey : Jn.isKey (k : Int) = true := by unfold Jn.isKey; simp; omega
    have hl := sum_loop E n hn hE ha n 0 0 (g + (802 - n)) (by omega) (by omega)
    rw [show g + (802 - n) + 4 + n = g + 806 by omega] at hl
    have hl' : Rn.tstmt E (g + 807) (.whl sumCond sumBody) (sst 0 0 0) = (0, sst n (tri n) (12 * n + 4)) := by rw [show g + 807 = (g + 806) + 1 from rfl, Rn.tstmt]; exact hl
    have p1 := tx_arg E (Rn.use (sst n (tri n) (12 * n + 4))) [97, 49] 1 (by decide) (by rw [hE]; show 12 * n + 5 < 10000; omega)
    have p2 := tx_var E (Rn.use (Rn.use (sst n (tri n) (12 * n + 4)))) [118, 49] 1 (by decide) (by rw [hE]; show 12 * n + 6 < 10000; omega)
    have ha1 : Rn.arg E 1 = (k : Int) := by unfold Rn.arg; rw [if_neg (by decide), if_pos rfl, hb]
    have hs2 : Rn.tstmt E (g + 806) (.put (.leaf [97, 49]) (.leaf [118, 49])) (sst n (tri n) (12 * n + 4)) = (0, ⟨0, n, tri n, 0, 0, [((k : Int), true, (tri n : Int))], 12 * n + 7, false, 0⟩) := by
      rw [show g + 806 = (g + 805) + 1 from rfl, Rn.tstmt, if_neg (by rw [hE]; show ¬ 10000 ≤ 12 * n + 4; omega), p1]
      simp only
      rw [p2, ha1]
      unfold Rn.putS Rn.put
      simp [hkey, Rn.find, Rn.use, sst, Rn.var]
    obtain ⟨z, hz⟩ : ∃ z : Rn.St, z = ⟨0, n, tri n, 0, 0, [((k : Int), true, (tri n : Int))], 12 * n + 7, false, 0⟩ := ⟨_, rfl⟩
    rw [← hz] at hs2
    have q1 := tx_arg E (Rn.use (Rn.use z)) [97, 49] 1 (by decide) (by rw [hE, hz]; show 12 * n + 9 < 10000; omega)
    rw [ha1] at q1
    have hg : Rn.get E (Rn.use (Rn.use (Rn.use z))) (k : Int) = ((tri n : Int), true, 0) := by
      rw [hz]
      unfold Rn.get
      simp [Rn.use, Rn.find]
    have q2 := tx_at E (Rn.use z) _ _ _ _ _ q1 hg (by rw [hE, hz]; show 12 * n + 8 < 10000; omega)
    have hs3 : Rn.tstmt E (g + 805) (.stop (.un [64] (.leaf [97, 49]))) z = (0, ⟨0, n, tri n, 0, 0, [((k : Int), true, (tri n : Int))], 12 * n + 10, true, (tri n : Int)⟩) := by
      rw [show g + 805 = (g + 804) + 1 from rfl, Rn.tstmt, if_neg (by rw [hE, hz]; show ¬ 10000 ≤ 12 * n + 7; omega), q2]
      unfold Rn.stopS
      rw [hz]
      simp [Rn.use]
    unfold sumTree
    rw [show g + 808 = (g + 807) + 1 from rfl, Rn.tstmts, if_neg (by simp [sst]), hl', if_neg (by simp)]
    simp only
    rw [show g + 807 = (g + 806) + 1 from rfl, Rn.tstmts, if_neg (by simp [sst]), hs2, if_neg (by simp)]
    simp only
    rw [show g + 806 = (g + 805) + 1 from rfl, Rn.tstmts, if_neg (by rw [hz]; simp), hs3, if_neg (by simp)]
    simp only
    rw [show g + 805 = (g + 804) + 1 from rfl, Rn.tstmts]
  have h9 := key (Rn.env C sumSrc [(n : Int), (k : Int)] 10000) rfl rfl rfl 29195
  have e0 : Rn.start = sst 0 0 0 := rfl
  have eg : 3 * (10000 : Int).toNat + 3 = 29195 + 808 := by decide
  rw [hrun]
  rw [eg, e0, h9] at htree
  rw [eg, e0]
  have h1 : (Rn.stmts (Rn.env C sumSrc [(n : Int), (k : Int)] 10000) (29195 + 808) (sst 0 0 0)).1 = 0 := by
    have := congrArg Prod.fst htree
    exact this.symm
  have h2 := congrArg Prod.snd htree
  generalize Rn.stmts (Rn.env C sumSrc [(n : Int), (k : Int)] 10000) (29195 + 808) (sst 0 0 0) = q at h1 h2
  rw [if_neg (by rw [h1]; simp)]
  have h3 : Rn.N q.2 = ⟨0, n, tri n, 0, 0, [((k : Int), true, (tri n : Int))], 12 * n + 10, true, (tri n : Int)⟩ := h2.symm
  have r1 : q.2.result = (tri n : Int) := congrArg Rn.St.result h3
  have r2 : q.2.used = 12 * n + 10 := congrArg Rn.St.used h3
  have r3 : q.2.writes = [((k : Int), true, (tri n : Int))] := congrArg Rn.St.writes h3
  rw [r1, r2, r3]
/-- the call: the sum, the units, and the cell behind it. -/
theorem sum_call (C : Jn.Con) (hok : Jn.Ok C) (nm : List UInt8) (hs : srcL C.procs nm = some sumSrc) (n k : Nat) (hn : n ≤ 800) (hk : k ≤ 99) :
    (Rn.call C nm [(n : Int), (k : Int)] 10000).2.1 = (tri n : Int) ∧ (Rn.call C nm [(n : Int), (k : Int)] 10000).2.2.1 = ((12 * n + 10 : Nat) : Int) ∧ (Rn.call C nm [(n : Int), (k : Int)] 10000).2.2.2.2 = 0 ∧ (Rn.call C nm [(n : Int), (k : Int)] 10000).1.cells.getD k none = some (tri n : Int) := by
  have ht := tri_le n hn
  have e : Rn.call C nm [(n : Int), (k : Int)] 10000 = ((Rn.wcells C [((k : Int), true, (tri n : Int))]).1, (tri n : Int), ((12 * n + 10 : Nat) : Int), (Rn.wcells C [((k : Int), true, (tri n : Int))]).2, 0) := by
    unfold Rn.call
    rw [hs]
    simp only
    rw [sum_run C hok n k hn hk]
    simp
  rw [e]
  refine ⟨rfl, rfl, rfl, ?_⟩
  have hw := Rn.wcell_con hok ((k : Int), true, (tri n : Int)) ⟨by unfold Jn.isKey; simp; omega, by simp only; omega⟩ (fun h => by cases h)
  show (Rn.wcell C ((k : Int), true, (tri n : Int))).1.cells.getD k none = _
  rw [hw]
  unfold Jn.setC Rn.opW
  have hl := hok.len
  simp only [Int.toNat_natCast, List.getD_eq_getElem?_getD]
  rw [List.getElem?_set_self (by omega)]
  simp
end Kp
end Go.Proofs.YtellilpeakpbfaaGreatDoor

end

section
/-
  Summed.
-/
set_option linter.unusedVariables false
namespace Go.Proofs.YtellilpeakpbfaaGreatDoor
open Go.RowKit

set_option maxHeartbeats 1000000 in
set_option maxRecDepth 100000 in
theorem holds_any (L s S B D : Nat) (C : Jn.Con) (f : Int) (d : DS) (w : World) (k : Nat) (v : Int) (hk : k ≤ 99) (h : SiteAt L w s S B D C f d) (hc : C.cells.getD k none = some v) :
    Calls Tryz.prog 37 #[.pointer (some ⟨s, 0, none⟩), .int .i64 k, .int .i64 v] w fun e w' => e = .returned (.bool true) ∧ Below w.heap.size w w' := by
  have HG := hide (getS_in L S B C f k w h.st hk)
  rw [hc] at HG
  simp only [Option.getD_some, Option.isSome_some] at HG
  obtain ⟨s0, s1⟩ := h.cells
  have tt : (v == v) = true := by simp
  clear h hc
  go_enter Tryz.func37, Tryz.ntmps37
  go_wp2_with fail
  refine HG.out.mono ?_
  rintro e w1 ⟨rfl, hb⟩
  have HB := hide hb
  clear hb HG
  go_wp2_with fail
  go_ret
  exact ⟨rfl, HB.out⟩

/-- the store has changed, the files have not. -/
theorem site_store {L s S B D : Nat} {C C' : Jn.Con} {f : Int} {d : DS} {w w' : World} (h : SiteAt L w s S B D C f d) (hst : StAt L w' S B C' f) (g : Fr L [] (some B) w w') : SiteAt L w' s S B D C' f d := by
  obtain ⟨cb, vb, hB, -⟩ := h.st.con.mem
  have hm := h.mem
  have hD : w.heap[D]? = _ := h.disk
  exact ⟨g.block s _ _ _ hm (by simp) (by intro e; cases e; rw [hB] at hm; cases hm), hst, g.block D _ _ _ hD (by simp) (by intro e; cases e; rw [hB] at hD; cases hD), h.low⟩
theorem ints_two (w : World) (a b : Int) : IntsAt (w.alloc (.cells #[.int .i64 a, .int .i64 b] 3)) (.slice (some ⟨w.heap.size, 0, none⟩) 2 2) [a, b] :=
  ⟨_, _, rfl, fun _ => ⟨_, 0, rfl, fun i x hx => by
    have hh := heap_alloc_new w (.cells #[.int .i64 a, .int .i64 b] 3)
    match i, hx with
    | 0, hx => simp at hx; subst hx; exact (cell_of_row _ _ 0 _ _ _ hh).trans rfl
    | 1, hx => simp at hx; subst hx; exact (cell_of_row _ _ 1 _ _ _ hh).trans rfl
    | k + 2, hx => simp at hx⟩⟩

set_option maxHeartbeats 8000000 in
set_option maxRecDepth 100000 in
theorem summed_any (w : World) (v : Value) (ps : List (Int × Int × Int)) (n k : Int) (hv : StepsOf w v ps) (hP : PowAt w) (hWd : WordsAt w) (n0 : -9223372036854775808 ≤ n) (n1 : n ≤ 9223372036854775807) (k0 : -9223372036854775808 ≤ k) (k1 : k ≤ 9223372036854775807) :
    Calls Tryz.prog 11 #[v, .int .i64 n, .int .i64 k] w fun e w' => e = .returned (.bool true) ∧ Below w.heap.size w w' := by
  have HLV := hide (live_any w v ps hv hP hWd)
  have hlen : ps.length ≤ 6000000000000 := by obtain ⟨_, _, _, _, _, h⟩ := hv; exact h
  obtain ⟨vo, vcap, hvs, -⟩ := hv
  have hnb := Kp.bent_bd n 0 800 (by decide)
  obtain ⟨nn, hnn⟩ : ∃ nn : Nat, Kp.bent n 0 800 = (nn : Int) := ⟨(Kp.bent n 0 800).toNat, by omega⟩
  have hn8 : nn ≤ 800 := by omega
  obtain ⟨kk, hkk⟩ : ∃ kk : Nat, Kp.key k = (kk : Int) := ⟨(Kp.key k).toNat, by have := Kp.key_bd k; omega⟩
  have hk9 : kk ≤ 99 := by have := Kp.key_bd k; omega
  have HBT : Hid (∀ x, Calls Tryz.prog 28 #[.int .i64 n, .int .i64 0, .int .i64 800] x fun e w' => e = .returned (.int .i64 (nn : Int)) ∧ w' = x) := fun x => by rw [← hnn]; exact kbent_any n 0 800 801 (by decide) (by decide) (by decide) (by decide) (by decide) n0 n1 x
  have HKY : Hid (∀ x, Calls Tryz.prog 30 #[.int .i64 k] x fun e w' => e = .returned (.int .i64 (kk : Int)) ∧ w' = x) := fun x => by rw [← hkk]; exact kkey_any k k0 k1 x
  have hm0 : 0 ≤ (nn : Int) * ((nn : Int) + 1) := Int.mul_nonneg (by omega) (by omega)
  have hm1 : (nn : Int) * ((nn : Int) + 1) ≤ 800 * 801 := Int.mul_le_mul (by omega) (by omega) (by omega) (by omega)
  have htri : (Kp.tri nn : Int) = (nn : Int) * ((nn : Int) + 1) / 2 := by unfold Kp.tri; rfl
  have hus : ((12 * nn + 10 : Nat) : Int) = 12 * (nn : Int) + 10 := by omega
  have HPW := hide (fun x (hx : Below w.heap.size w x) => And.intro (hP.below hP.1 hx) (hWd.below hWd.1 hx))
  have hpL : 1 < w.heap.size := hP.1
  have HT := hide htri
  have HU := hide hus
  clear hnb hnn hkk hP hWd htri hus
  subst hvs
  go_enter Tryz.func11, Tryz.ntmps11
  go_wp2_with fail
  refine HLV.out.mono ?_
  rintro e w1 ⟨s, S, B, D, f, d, rfl, hs, hd, -, hb1⟩
  obtain ⟨C, hC⟩ : ∃ C, C = ps.foldl Kp.play Jn.none0 := ⟨_, rfl⟩
  rw [← hC] at hs hd
  have HKE := hide (kkeeps_any w.heap.size s S B D _ C f d w1 ⟨#[115, 117, 109]⟩ ⟨Kp.sumSrc.toArray⟩ (by decide) (by show (Ck.read Kp.sumSrc).2 = 0; rw [Kp.sum_read]) hs hd (by omega) (HPW.out w1 hb1).1 (HPW.out w1 hb1).2 hpL)
  have HB1 := hide hb1
  clear hs hd hb1 hC HLV
  go_wp2_with fail
  refine HKE.out.mono ?_
  rintro e w2 ⟨rfl, S2, B2, f2, d2, hs2, hd2, hx2, -, -⟩
  obtain ⟨C2, hC2⟩ : ∃ C2 : Jn.Con, C2 = ⟨C.cells, [((⟨#[115, 117, 109]⟩ : ByteArray).data.toList, (⟨Kp.sumSrc.toArray⟩ : ByteArray).data.toList)]⟩ := ⟨_, rfl⟩
  rw [← hC2] at hs2 hd2
  have hsrc : srcL C2.procs [115, 117, 109] = some Kp.sumSrc := by rw [hC2]; rfl
  have hok2 := hs2.st.con.ok
  have hb2 : Below w.heap.size w w2 := HB1.out.trans hx2.below
  obtain ⟨r1, r2, r3, r4⟩ := Kp.sum_call C2 hok2 [115, 117, 109] hsrc nn kk hn8 hk9
  obtain ⟨w3, hw3⟩ : ∃ w3, w3 = w2.alloc (.cells #[.int .i64 (nn : Int), .int .i64 (kk : Int)] 3) := ⟨_, rfl⟩
  have hb3 : Below w2.heap.size w2 w3 := by rw [hw3]; exact (Below.refl _ _).alloc (Nat.le_refl _) _
  have hv3 : IntsAt w3 (.slice (some ⟨w2.heap.size, 0, none⟩) 2 2) [(nn : Int), (kk : Int)] := by rw [hw3]; exact ints_two w2 _ _
  have hbw3 := below_then hb2 hb3
  have HCS := hide (callS_any w.heap.size S2 B2 C2 f2 ⟨#[115, 117, 109]⟩ _ _ 10000 w3 (hs2.below hb3).st (HPW.out w3 hbw3).2 hv3 (HPW.out w3 hbw3).1 hpL)
  have hnm : (⟨#[115, 117, 109]⟩ : ByteArray).data.toList = [115, 117, 109] := rfl
  rw [hnm] at HCS
  obtain ⟨r, hr⟩ : ∃ r, r = Rn.call C2 [115, 117, 109] [(nn : Int), (kk : Int)] 10000 := ⟨_, rfl⟩
  rw [← hr] at HCS r1 r2 r3 r4
  obtain ⟨C3, val, used, es, er⟩ := r
  simp only at r1 r2 r3 r4
  rw [HT.out] at r1
  rw [HU.out] at r2
  subst r1 r2 r3
  obtain ⟨s0, s1⟩ := hs2.cells
  have HS3 := hide (hs2.below hb3)
  have HB3 := hide hbw3
  have HR4 := hide r4
  clear hs2 hd2 hx2 hb2 hb3 hv3 hbw3 r4 hr hok2 hsrc hC2 HKE
  go_wp2_with fail
  refine (HBT.out _).mono ?_
  rintro e wx ⟨rfl, hq⟩
  obtain rfl : w2 = wx := hq.symm
  go_wp2_with fail
  refine (HKY.out _).mono ?_
  rintro e wx ⟨rfl, hq⟩
  obtain rfl : w2 = wx := hq.symm
  clear HBT HKY
  go_wp2_with fail
  rw [← hw3]
  refine HCS.out.mono ?_
  rintro e w4 ⟨va, rfl, hst4, hfr4, hor⟩
  have hs4 := site_store HS3.out hst4 hfr4
  have hb4 : Below w.heap.size w w4 := HB3.out.trans hfr4.below
  obtain ⟨w5, hw5⟩ : ∃ w5, w5 = w4.alloc (.cells #[.int .i64 ((nn : Int) * ((nn : Int) + 1) / 2), .int .i64 (12 * (nn : Int) + 10)] 57) := ⟨_, rfl⟩
  have hb5 : Below w4.heap.size w4 w5 := by rw [hw5]; exact (Below.refl _ _).alloc (Nat.le_refl _) _
  have ho5 : w5.heap[w4.heap.size]? = some (.cells #[.int .i64 ((nn : Int) * ((nn : Int) + 1) / 2), .int .i64 (12 * (nn : Int) + 10)] 57 (0, 0)) := by rw [hw5]; exact heap_alloc_new w4 _
  have HHO := hide (holds_any w.heap.size s S2 B2 D C3 f2 d2 w5 kk ((nn : Int) * ((nn : Int) + 1) / 2) hk9 (hs4.below hb5) (by rw [← HT.out]; exact HR4.out))
  have HB5 := hide (below_then hb4 hb5)
  have HO5 := hide ho5
  obtain ⟨ao, an, ak, rfl⟩ : ∃ ao an ak, va = .slice ao an ak := by
    rcases hor with ⟨-, h⟩ | ⟨-, h⟩
    · exact ⟨_, _, _, h⟩
    · obtain ⟨x, y, e, -⟩ := h.shape; exact ⟨x, _, y, e⟩
  have tt1 : ((nn : Int) * ((nn : Int) + 1) / 2 == (nn : Int) * ((nn : Int) + 1) / 2) = true := by simp
  have tt2 : (12 * (nn : Int) + 10 == 12 * (nn : Int) + 10) = true := by simp
  clear hst4 hfr4 hor hs4 hb4 hb5 ho5 HCS HS3 HB3 HR4 HT HU HPW s0 s1
  go_wp2_with fail
  rw [← hw5]
  have HW5 := hide hw5
  clear hw5
  go_wp2_with fail
  refine HHO.out.mono ?_
  rintro e w6 ⟨rfl, hb6⟩
  have ho6 := (hb6.block _ (Array.getElem?_eq_some_iff.1 HO5.out).1).trans HO5.out
  have g0 := (cell_of_row w6 _ 0 _ _ _ ho6).trans rfl
  have g1 := (cell_of_row w6 _ 1 _ _ _ ho6).trans rfl
  have HFIN := hide (below_then HB5.out hb6)
  clear hb6 ho6 HHO
  go_wp2_with fail
  go_ret
  exact ⟨rfl, HFIN.out⟩
end Go.Proofs.YtellilpeakpbfaaGreatDoor

end
