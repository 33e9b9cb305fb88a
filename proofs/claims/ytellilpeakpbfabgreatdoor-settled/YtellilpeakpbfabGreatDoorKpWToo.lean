import Derived.Test.YtellilpeakpbfabGreatDoorKpTToo
import Derived.Test.YtellilpeakpbfabGreatDoorDnTToo
import Derived.Test.YtellilpeakpbfabGreatDoorStoreDToo
import Derived.Test.YtellilpeakpbfabGreatDoorOpenToo
import Derived.Test.YtellilpeakpbfabGreatDoorKeepPToo
section
/-
  What a step does to a store, in plain words; no Go text.
-/
namespace Go.Proofs.YtellilpeakpbfabGreatDoor
open Go.RowKit
namespace Kp
open Tr (Tok Ex Sm Sms kind acc)

def raw (c : Int) : Int := if c < 0 then -(c + 1) else c
def pick (c n : Int) : Int := raw c % n
def bent (n lo hi : Int) : Int := if lo ≤ n ∧ n ≤ hi then n else lo + raw n % (hi - lo + 1)
def key (n : Int) : Int := bent n 0 99
def value (n : Int) : Int := bent n (-1000000000) 1000000000
theorem raw_nn (c : Int) : 0 ≤ raw c := by unfold raw; split <;> omega
theorem pick_bd (c n : Int) (h : 0 < n) : 0 ≤ pick c n ∧ pick c n < n := ⟨Int.emod_nonneg _ (by omega), Int.emod_lt_of_pos _ h⟩
theorem bent_bd (n lo hi : Int) (h : lo ≤ hi) : lo ≤ bent n lo hi ∧ bent n lo hi ≤ hi := by
  unfold bent
  split
  · assumption
  · have h1 := Int.emod_nonneg (raw n) (b := hi - lo + 1) (by omega)
    have h2 := Int.emod_lt_of_pos (raw n) (b := hi - lo + 1) (by omega)
    omega
theorem key_bd (n : Int) : 0 ≤ key n ∧ key n ≤ 99 := bent_bd n 0 99 (by decide)
theorem value_bd (n : Int) : -1000000000 ≤ value n ∧ value n ≤ 1000000000 := bent_bd n _ _ (by decide)
theorem key_is (n : Int) : Jn.isKey (key n) = true := by have := key_bd n; unfold Jn.isKey; simp; omega
theorem value_is (n : Int) : Jn.isVal (value n) = true := by have := value_bd n; unfold Jn.isVal; simp; omega

theorem dec_valC (u : Nat) : Ck.val (Lib.decDigits u) = u := by
  induction u using Nat.strongRecOn with
  | _ u ih =>
    rw [Lib.decDigits]
    split
    · rename_i h
      have e : (UInt8.ofNat (48 + u)).toNat = 48 + u := by rw [UInt8.toNat_ofNat']; omega
      show 10 * 0 + ((UInt8.ofNat (48 + u)).toNat - 48) = u
      rw [e]; omega
    · rename_i h
      have e : (UInt8.ofNat (48 + u % 10)).toNat = 48 + u % 10 := by rw [UInt8.toNat_ofNat']; omega
      rw [Ck.val_snoc, ih _ (by omega), e]
      omega
/-- digits are a number. -/
theorem tok_num (t : Tok) (h0 : t ≠ []) (h1 : t.length ≤ 6) (hd : ∀ c ∈ t, Ck.isDig c = true) : Ck.tokenP t = (1, (Ck.val t : Int)) := by
  have hw : ∀ w ∈ Ck.wordsL, ∃ c ∈ w, Ck.isDig c = false := by decide
  have hn : t ∉ Ck.wordsL := fun hm => by
    obtain ⟨c, hc, e⟩ := hw t hm
    rw [hd c hc] at e
    cases e
  have hi : Ck.wordsL.idxOf t = 16 := by rw [List.idxOf_eq_length hn]; rfl
  have hl : 1 ≤ t.length := by cases t <;> simp_all
  unfold Ck.tokenP
  rw [if_neg (by omega)]
  have e : Ck.numIn t = some (Ck.val t) := by unfold Ck.numIn; rw [if_pos ⟨hl, h1, hd⟩]
  rw [e]
theorem tok_dec (n : Nat) (h : n ≤ 999999) : Ck.tokenP (Lib.decDigits n) = (1, (n : Int)) := by
  rw [tok_num _ (Jn.dec_ne n) (Ck.dec_len n (by omega)) (Jn.dec_dig n), dec_valC]
theorem dig_sp (c : UInt8) (h : Ck.isDig c = true) : Ck.isSp c = false := by
  rw [Ck.isDig_iff] at h
  unfold Ck.isSp
  have h1 : c ≠ 32 := fun e => by rw [e] at h; simp at h
  have h2 : c ≠ 10 := fun e => by rw [e] at h; simp at h
  simp [h1, h2]
theorem wd_dec (n : Nat) : Wd (Lib.decDigits n) := ⟨Jn.dec_ne n, fun c hc => dig_sp c (Jn.dec_dig n c hc)⟩

/-- the tree of 'put k + a0 @ m'. -/
def tree (k m : Nat) : Sms := .cons (.put (.leaf (Lib.decDigits k)) (.bin [43] (.leaf [97, 48]) (.un [64] (.leaf (Lib.decDigits m))))) .nil
def src (k m : Nat) : List UInt8 := [112, 117, 116, 32] ++ Lib.decDigits k ++ [32, 43, 32, 97, 48, 32, 64, 32] ++ Lib.decDigits m
theorem src_join (k m : Nat) : src k m = join (tree k m).flat := by
  simp [src, tree, Sms.flat, Sm.flat, Ex.flat, join]
theorem tree_ok (k m : Nat) (hk : k ≤ 99) (hm : m ≤ 99) : (tree k m).Ok := by
  have h1 : kind (Lib.decDigits k) = 1 := by unfold kind; rw [tok_dec k (by omega)]
  have h2 : kind (Lib.decDigits m) = 1 := by unfold kind; rw [tok_dec m (by omega)]
  have h3 : kind [43] = 4 := by decide
  have h4 : kind [97, 48] = 2 := by decide
  have h5 : kind [64] = 9 := by decide
  exact ⟨⟨.inl h1, ⟨by omega, by omega⟩, .inr (.inl h4), .inl h5, .inl h2⟩, trivial⟩
theorem src_toks (k m : Nat) : Ck.toks (src k m) = (tree k m).flat := by
  rw [src_join]
  refine toks_join _ fun t ht => ?_
  have e : (tree k m).flat = [[112, 117, 116], Lib.decDigits k, [43], [97, 48], [64], Lib.decDigits m] := by simp [tree, Sms.flat, Sm.flat, Ex.flat]
  rw [e] at ht
  simp only [List.mem_cons, List.not_mem_nil, or_false] at ht
  rcases ht with rfl | rfl | rfl | rfl | rfl | rfl
  · exact ⟨by decide, by decide⟩
  · exact wd_dec k
  · exact ⟨by decide, by decide⟩
  · exact ⟨by decide, by decide⟩
  · exact ⟨by decide, by decide⟩
  · exact wd_dec m
theorem src_len (k m : Nat) (hk : k ≤ 99) (hm : m ≤ 99) : (src k m).length ≤ 24 := by
  have h1 := Ck.dec_len k (by omega)
  have h2 := Ck.dec_len m (by omega)
  simp [src]; omega
theorem src_read (k m : Nat) (hk : k ≤ 99) (hm : m ≤ 99) : Ck.read (src k m) = (0, 0) :=
  read_tree _ (tree k m) (tree_ok k m hk hm) (src_toks k m) (by have := src_len k m hk hm; omega)

/-- what expressions come to, where there is fuel. -/
theorem tx_num (E : Rn.En) (s : Rn.St) (n : Nat) (hn : n ≤ 999999) (hu : s.used < E.fuel) : Rn.texpr E (.leaf (Lib.decDigits n)) s = ((n : Int), 0, Rn.use s) := by
  rw [Rn.texpr, if_neg (by omega), Rn.leafV]
  unfold kind
  rw [tok_dec n hn, if_pos rfl]
theorem tx_arg (E : Rn.En) (s : Rn.St) (t : Tok) (k : Int) (ht : Ck.tokenP t = (2, k)) (hu : s.used < E.fuel) : Rn.texpr E (.leaf t) s = (Rn.arg E k, 0, Rn.use s) := by
  rw [Rn.texpr, if_neg (by omega), Rn.leafV]
  unfold kind
  rw [ht, if_neg (by simp), if_pos rfl]
theorem tx_var (E : Rn.En) (s : Rn.St) (t : Tok) (k : Int) (ht : Ck.tokenP t = (3, k)) (hu : s.used < E.fuel) : Rn.texpr E (.leaf t) s = (Rn.var s k, 0, Rn.use s) := by
  rw [Rn.texpr, if_neg (by omega), Rn.leafV]
  unfold kind
  rw [ht, if_neg (by simp), if_neg (by simp)]
theorem tx_at (E : Rn.En) (s s' : Rn.St) (e : Ex) (k v : Int) (b : Bool) (he : Rn.texpr E e (Rn.use s) = (k, 0, s')) (hg : Rn.get E s' k = (v, b, 0)) (hu : s.used < E.fuel) : Rn.texpr E (.un [64] e) s = (v, 0, s') := by
  rw [Rn.texpr, if_neg (by omega), he, Rn.look]
  simp only [hg, ne_eq, not_true, if_false]
  rw [if_neg (by decide)]
theorem tx_has (E : Rn.En) (s s' : Rn.St) (e : Ex) (k v : Int) (b : Bool) (he : Rn.texpr E e (Rn.use s) = (k, 0, s')) (hg : Rn.get E s' k = (v, b, 0)) (hu : s.used < E.fuel) : Rn.texpr E (.un [35] e) s = (Rn.oneIf b, 0, s') := by
  rw [Rn.texpr, if_neg (by omega), he, Rn.look]
  simp only [hg, ne_eq, not_true, if_false]
  rw [if_pos (by decide)]
theorem tx_bin (E : Rn.En) (s s1 s2 : Rn.St) (t : Tok) (a b : Ex) (x y : Int) (ha : Rn.texpr E a (Rn.use s) = (x, 0, s1)) (hb : Rn.texpr E b s1 = (y, 0, s2)) (hu : s.used < E.fuel) : Rn.texpr E (.bin t a b) s = ((Rn.reckon (kind t) x y).1, (Rn.reckon (kind t) x y).2, s2) := by
  rw [Rn.texpr, if_neg (by omega), ha, hb, Rn.two]
  simp
theorem ts_one (E : Rn.En) (n : Nat) (a : Sm) (s : Rn.St) (h : s.stopped = false) : (Rn.tstmts E (n + 1 + 1) (.cons a .nil) s).1 = (Rn.tstmt E (n + 1) a s).1 := by
  rw [Rn.tstmts, if_neg (by rw [h]; decide)]
  split
  · rfl
  · rename_i hn
    rw [Rn.tstmts]
    simpa using (Classical.not_not.1 hn).symm
theorem get_held (E : Rn.En) (s : Rn.St) (k : Int) (hw : s.writes = []) (hk : Jn.isKey k = true) : Rn.get E s k = ((E.con.cells.getD k.toNat none).getD 0, (E.con.cells.getD k.toNat none).isSome, 0) := by
  unfold Rn.get
  rw [hw]
  simp only [List.getElem?_nil, Rn.held]
  rw [if_pos hk]

/-- a name out of ten. -/
def name (c : Int) : List UInt8 := [UInt8.ofNat (97 + (pick c 10).toNat)]
theorem name_is (c : Int) : Jn.isName (name c) = true := by
  have h := pick_bd c 10 (by decide)
  obtain ⟨k, hk⟩ : ∃ k : Nat, pick c 10 = (k : Int) := ⟨(pick c 10).toNat, by omega⟩
  unfold name
  rw [hk]
  have hk9 : k ≤ 9 := by omega
  have : ∀ k : Fin 10, Jn.isName [UInt8.ofNat (97 + k.val)] = true := by decide
  exact this ⟨k, by omega⟩
/-- the procedures that steps keep. -/
def Kind (s : List UInt8) : Prop := ∃ k m : Nat, k ≤ 99 ∧ m ≤ 99 ∧ s = src k m
/-- a call of one of them: done, or too great. -/
theorem run_kind (C : Jn.Con) (hok : Jn.Ok C) (s : List UInt8) (hs : Kind s) (x : Int) (hx : 0 ≤ x ∧ x ≤ 999) : (Rn.run C s [x] 10000).2.2.2 = 0 ∨ (Rn.run C s [x] 10000).2.2.2 = 7 := by
  obtain ⟨k, m, hk, hm, rfl⟩ := hs
  have hmay : Rn.may [x] 10000 = true := by unfold Rn.may Rn.inb; simp; omega
  have hr : (Ck.read (src k m)).2 = 0 := by rw [src_read k m hk hm]
  have htree := Rn.run_tree C (src k m) [x] 10000 hok hr hmay (tree k m) (tree_ok k m hk hm) (src_toks k m)
  have hrun := Rn.run_ok C (src k m) [x] 10000 hr hmay
  have hN : (Rn.tstmts (Rn.env C (src k m) [x] 10000) (3 * (10000 : Int).toNat + 3) (tree k m) Rn.start).1 = (Rn.stmts (Rn.env C (src k m) [x] 10000) (3 * (10000 : Int).toNat + 3) Rn.start).1 := by rw [htree]; rfl
  have key : (Rn.tstmts (Rn.env C (src k m) [x] 10000) (3 * (10000 : Int).toNat + 3) (tree k m) Rn.start).1 = 0 ∨ (Rn.tstmts (Rn.env C (src k m) [x] 10000) (3 * (10000 : Int).toNat + 3) (tree k m) Rn.start).1 = 7 := by
    obtain ⟨E, hE⟩ : ∃ E, E = Rn.env C (src k m) [x] 10000 := ⟨_, rfl⟩
    have hf : E.fuel = 10000 := by rw [hE]; rfl
    rw [← hE]
    have hg : 3 * (10000 : Int).toNat + 3 = 30000 + 1 + 1 + 1 := by decide
    rw [hg]
    have hkey : Jn.isKey (k : Int) = true := by unfold Jn.isKey; simp; omega
    have hmey : Jn.isKey (m : Int) = true := by unfold Jn.isKey; simp; omega
    obtain ⟨s0, hs0⟩ : ∃ s0 : Rn.St, s0 = Rn.start := ⟨_, rfl⟩
    have hu0 : s0.used = 0 := by rw [hs0]; rfl
    have hw0 : s0.writes = [] := by rw [hs0]; rfl
    have hp0 : s0.stopped = false := by rw [hs0]; rfl
    rw [← hs0]
    have uu : ∀ s : Rn.St, (Rn.use s).used = s.used + 1 := fun s => rfl
    have e1 := tx_num E (Rn.use s0) k (by omega) (by rw [uu]; omega)
    have e2 := tx_arg E (Rn.use (Rn.use (Rn.use s0))) [97, 48] 0 (by decide) (by simp only [uu]; omega)
    have e3 := tx_num E (Rn.use (Rn.use (Rn.use (Rn.use (Rn.use s0))))) m (by omega) (by simp only [uu]; omega)
    have e4 := tx_at E _ _ _ _ _ _ e3 (get_held E _ m (by exact hw0) hmey) (by simp only [uu]; omega)
    have e5 := tx_bin E (Rn.use (Rn.use s0)) _ _ [43] _ _ _ _ e2 e4 (by simp only [uu]; omega)
    have hk4 : kind [43] = 4 := by decide
    have hr4 : ∀ a b, Rn.reckon 4 a b = Rn.bounded (a + b) := fun a b => by unfold Rn.reckon Rn.sum; rw [if_neg (by decide), if_neg (by decide), if_pos rfl]
    rw [hk4, hr4] at e5
    unfold tree
    rw [ts_one E _ _ s0 hp0]
    have hst : ∀ n, Rn.tstmt E (n + 1) (.put (.leaf (Lib.decDigits k)) (.bin [43] (.leaf [97, 48]) (.un [64] (.leaf (Lib.decDigits m))))) s0 = Rn.putS ((k : Int), 0, Rn.use (Rn.use s0)) ((Rn.bounded (Rn.arg E 0 + (E.con.cells.getD ((m : Int)).toNat none).getD 0)).1, (Rn.bounded (Rn.arg E 0 + (E.con.cells.getD ((m : Int)).toNat none).getD 0)).2, Rn.use (Rn.use (Rn.use (Rn.use (Rn.use (Rn.use s0)))))) := by
      intro n
      rw [Rn.tstmt, if_neg (by omega), e1]
      simp only
      rw [e5]
    rw [hst]
    generalize Rn.arg E 0 + (E.con.cells.getD ((m : Int)).toNat none).getD 0 = z
    have hw6 : ∀ s : Rn.St, (Rn.use s).writes = s.writes := fun s => rfl
    by_cases hz : Jn.isVal z = true
    · left
      have hb : Rn.bounded z = (z, 0) := by unfold Rn.bounded; rw [if_pos hz]
      rw [hb]
      unfold Rn.putS
      simp only [ne_eq, not_true, if_false]
      unfold Rn.put
      simp [hkey, hw6, hw0, Rn.find]
    · right
      have hb : Rn.bounded z = (0, 7) := by unfold Rn.bounded; rw [if_neg hz]
      rw [hb]
      unfold Rn.putS
      simp
  rw [hrun]
  rw [hN] at key
  split
  · exact key
  · exact .inl rfl
end Kp
end Go.Proofs.YtellilpeakpbfabGreatDoor

end

section
/-
  The walks of pick, bent, key, value, name, decimal.
-/
namespace Go.Proofs.YtellilpeakpbfabGreatDoor
open Go.RowKit

set_option maxHeartbeats 1000000 in
set_option maxRecDepth 100000 in
theorem kpick_any (c : Int) (n : Nat) (h0 : 0 < n) (h1 : n ≤ 100000) (c0 : -9223372036854775808 ≤ c) (c1 : c ≤ 9223372036854775807) (w : World) :
    Calls Tryz.prog 18 #[.int .i64 c, .int .i64 n] w fun e w' => e = .returned (.int .i64 (Kp.pick c n)) ∧ w' = w := by
  obtain ⟨r, hr⟩ : ∃ r, r = Kp.pick c n := ⟨_, rfl⟩
  rw [← hr]
  by_cases hc : c < 0
  · obtain ⟨k, hk⟩ : ∃ k : Nat, (k : Int) = -(c + 1) := ⟨(-(c + 1)).toNat, by omega⟩
    obtain rfl : c = -(k : Int) - 1 := by omega
    have t1 : decide (-(k : Int) - 1 < 0) = true := decide_eq_true hc
    have hr2 : r = (k : Int) % n := by rw [hr]; unfold Kp.pick Kp.raw; rw [if_pos hc]; congr 1; omega
    clear hr hk hc
    go_enter Tryz.func18, Tryz.ntmps18
    go_wp2
    go_ret
    exact ⟨by rw [hr2]; rfl, rfl⟩
  · obtain ⟨k, rfl⟩ : ∃ k : Nat, c = (k : Int) := ⟨c.toNat, by omega⟩
    have t1 : decide ((k : Int) < 0) = false := decide_eq_false hc
    have hr2 : r = (k : Int) % n := by rw [hr]; unfold Kp.pick Kp.raw; rw [if_neg hc]
    clear hr hc
    go_enter Tryz.func18, Tryz.ntmps18
    go_wp2
    go_ret
    exact ⟨by rw [hr2]; rfl, rfl⟩

set_option maxHeartbeats 1000000 in
set_option maxRecDepth 100000 in
theorem kbent_any (c lo hi : Int) (m : Nat) (hm : hi - lo + 1 = (m : Int)) (m0 : 0 < m) (m1 : m ≤ 4000000000) (l0 : -2000000000 ≤ lo) (l1 : lo ≤ 2000000000) (c0 : -9223372036854775808 ≤ c) (c1 : c ≤ 9223372036854775807) (w : World) :
    Calls Tryz.prog 21 #[.int .i64 c, .int .i64 lo, .int .i64 hi] w fun e w' => e = .returned (.int .i64 (Kp.bent c lo hi)) ∧ w' = w := by
  obtain ⟨r, hr⟩ : ∃ r, r = Kp.bent c lo hi := ⟨_, rfl⟩
  rw [← hr]
  unfold Kp.bent at hr
  have h2 : -2000000000 ≤ hi := by omega
  have h3 : hi ≤ 6000000000 := by omega
  by_cases hc : lo ≤ c ∧ c ≤ hi
  · have t1 : decide (lo ≤ c) = true := decide_eq_true hc.1
    have t2 : decide (c ≤ hi) = true := decide_eq_true hc.2
    rw [if_pos hc] at hr
    subst hr
    clear hc hm
    go_enter Tryz.func21, Tryz.ntmps21
    go_wp2
    go_ret
    exact ⟨rfl, rfl⟩
  · rw [if_neg hc, hm] at hr
    have hand : (decide (lo ≤ c) && decide (c ≤ hi)) = false := by
      rw [← Bool.decide_and]; exact decide_eq_false hc
    clear hc
    by_cases hn : c < 0
    · obtain ⟨k, hk⟩ : ∃ k : Nat, (k : Int) = -(c + 1) := ⟨(-(c + 1)).toNat, by omega⟩
      obtain rfl : c = -(k : Int) - 1 := by omega
      have t1 : decide (-(k : Int) - 1 < 0) = true := decide_eq_true hn
      have hr2 : r = lo + (k : Int) % m := by rw [hr]; unfold Kp.raw; rw [if_pos hn]; congr 2; omega
      have e0 : 0 ≤ (k : Int) % m := Int.emod_nonneg _ (by omega)
      have e1 : (k : Int) % m < 4000000000 := by have := Int.emod_lt_of_pos (k : Int) (b := (m : Int)) (by omega); omega
      have HR := hide hr2
      clear hr hk hr2
      cases ha : decide (lo ≤ -(k : Int) - 1) with
      | true =>
        rw [ha, Bool.true_and] at hand
        clear hn
        go_enter Tryz.func21, Tryz.ntmps21
        go_wp2
        go_ret
        exact ⟨by rw [HR.out]; rfl, rfl⟩
      | false =>
        clear hand hn
        go_enter Tryz.func21, Tryz.ntmps21
        go_wp2
        go_ret
        exact ⟨by rw [HR.out]; rfl, rfl⟩
    · obtain ⟨k, rfl⟩ : ∃ k : Nat, c = (k : Int) := ⟨c.toNat, by omega⟩
      have t1 : decide ((k : Int) < 0) = false := decide_eq_false hn
      have hr2 : r = lo + (k : Int) % m := by rw [hr]; unfold Kp.raw; rw [if_neg hn]
      have e0 : 0 ≤ (k : Int) % m := Int.emod_nonneg _ (by omega)
      have e1 : (k : Int) % m < 4000000000 := by have := Int.emod_lt_of_pos (k : Int) (b := (m : Int)) (by omega); omega
      have HR := hide hr2
      clear hr hr2
      cases ha : decide (lo ≤ (k : Int)) with
      | true =>
        rw [ha, Bool.true_and] at hand
        clear hn
        go_enter Tryz.func21, Tryz.ntmps21
        go_wp2
        go_ret
        exact ⟨by rw [HR.out]; rfl, rfl⟩
      | false =>
        clear hand hn
        go_enter Tryz.func21, Tryz.ntmps21
        go_wp2
        go_ret
        exact ⟨by rw [HR.out]; rfl, rfl⟩

set_option maxHeartbeats 1000000 in
theorem kkey_any (c : Int) (c0 : -9223372036854775808 ≤ c) (c1 : c ≤ 9223372036854775807) (w : World) :
    Calls Tryz.prog 11 #[.int .i64 c] w fun e w' => e = .returned (.int .i64 (Kp.key c)) ∧ w' = w := by
  have HB := hide (kbent_any c 0 99 100 (by decide) (by decide) (by decide) (by decide) (by decide) c0 c1 w)
  obtain ⟨r, hr⟩ : ∃ r, r = Kp.bent c 0 99 := ⟨_, rfl⟩
  unfold Kp.key
  rw [← hr] at HB ⊢
  clear hr
  go_enter Tryz.func11, Tryz.ntmps11
  go_wp2_with fail
  refine HB.out.mono ?_
  rintro e w1 ⟨rfl, rfl⟩
  go_wp2_with fail
  go_ret
  exact ⟨rfl, rfl⟩
set_option maxHeartbeats 1000000 in
theorem kvalue_any (c : Int) (c0 : -9223372036854775808 ≤ c) (c1 : c ≤ 9223372036854775807) (w : World) :
    Calls Tryz.prog 12 #[.int .i64 c] w fun e w' => e = .returned (.int .i64 (Kp.value c)) ∧ w' = w := by
  have HB := hide (kbent_any c (-1000000000) 1000000000 2000000001 (by decide) (by decide) (by decide) (by decide) (by decide) c0 c1 w)
  obtain ⟨r, hr⟩ : ∃ r, r = Kp.bent c (-1000000000) 1000000000 := ⟨_, rfl⟩
  unfold Kp.value
  rw [← hr] at HB ⊢
  clear hr
  go_enter Tryz.func12, Tryz.ntmps12
  go_wp2_with fail
  refine HB.out.mono ?_
  rintro e w1 ⟨rfl, rfl⟩
  go_wp2_with fail
  go_ret
  exact ⟨rfl, rfl⟩

theorem conv_dig (w : World) (n : Nat) : (convert 154 9 (.slice (some ⟨w.heap.size, 0, none⟩) 1 1)).run Tryz.prog (w.alloc (.cells #[.int .u8 (48 + (n : Int) % 10)] 5)) =
    .ok (.string ⟨#[UInt8.ofNat (48 + n % 10)]⟩) (w.alloc (.cells #[.int .u8 (48 + (n : Int) % 10)] 5)) := by
  refine run_convert_bytes_back (P := Tryz.prog) _ 154 9 5 ⟨w.heap.size, 0, none⟩ 1 [UInt8.ofNat (48 + n % 10)] Tryz.underlying154 Tryz.underlying5 Tryz.underlying9 ?_
  intro j hj
  have : j = 0 := by simp at hj; omega
  subst this
  have e : ((UInt8.ofNat (48 + n % 10)).toNat : Int) = 48 + (n : Int) % 10 := by simp; omega
  simp [Addr.add]
  omega

def DcRel (q : Nat) (w : World) (x i : Value) (wr : World) : Prop :=
  ∃ (n : Nat) (u : ByteArray), i = .int .i64 n ∧ x = .string u ∧ Lib.decDigits q = Lib.decDigits n ++ u.data.toList ∧ Below w.heap.size w wr ∧ n ≤ 999999 ∧ u.size ≤ 6

set_option maxHeartbeats 1000000 in
set_option maxRecDepth 100000 in
theorem kdecimal_any (q : Nat) (hq : q ≤ 999999) (w : World) :
    Calls Tryz.prog 55 #[.int .i64 q] w fun e w' => ∃ X : ByteArray, e = .returned (.string X) ∧ X.data.toList = Lib.decDigits q ∧ X.size ≤ 6 ∧ Below w.heap.size w w' := by
  have hs : DcRel q w (.string ⟨#[]⟩) (.int .i64 q) w := ⟨q, ⟨#[]⟩, rfl, rfl, by simp, Below.refl _ _, hq, Nat.zero_le _⟩
  have HS := hide hs
  have hql := Ck.dec_len q (by omega)
  have HQL := hide hql
  clear hs hql
  go_enter Tryz.func55, Tryz.ntmps55
  go_wp2
  go_loopw [0, 3] (fun i x wr => DcRel q w x i wr) (fun i _ _ => (intOf i).toNat)
  case atStart => exact HS.out
  case round =>
    obtain ⟨n, u, rfl, rfl, hl, hb, hn, hu⟩ := hrel
    have HL := hide hl
    have HB := hide hb
    clear hl hb HS
    have hrun := conv_dig wr n
    obtain ⟨c, hc⟩ : ∃ c, c = UInt8.ofNat (48 + n % 10) := ⟨_, rfl⟩
    rw [← hc] at hrun
    have hone : (⟨#[c]⟩ : ByteArray).size = 1 := rfl
    by_cases h0 : n ≤ 9
    · have t1 : decide (9 < (n : Int)) = false := decide_eq_false (by omega)
      have HE : Hid (((⟨#[c]⟩ : ByteArray) ++ u).data.toList = Lib.decDigits q) := by
        show _ = _
        rw [app_list, HL.out, hc]
        conv => rhs; rw [Lib.decDigits, dif_pos (by omega)]
        rw [Nat.mod_eq_of_lt (by omega)]
      clear h0 hc
      go_wp2
      go_ret
      refine ⟨_, rfl, HE.out, ?_, HB.out.alloc HB.out.size _⟩
      have := HQL.out
      rw [size_list, HE.out]; exact this
    · have t1 : decide (9 < (n : Int)) = true := decide_eq_true (by omega)
      have HR2 : Hid (DcRel q w (.string ((⟨#[c]⟩ : ByteArray) ++ u)) (.int .i64 ((n : Int) / 10)) (wr.alloc (.cells #[.int .u8 (48 + (n : Int) % 10)] 5))) := by
        have hl2 : Lib.decDigits q = Lib.decDigits (n / 10) ++ ((⟨#[c]⟩ : ByteArray) ++ u).data.toList := by
          rw [app_list, HL.out, hc]
          conv => lhs; rw [Lib.decDigits, dif_neg (by omega)]
          simp
        refine ⟨n / 10, _, by go_num, rfl, hl2, HB.out.alloc HB.out.size _, by omega, ?_⟩
        have h6 := HQL.out
        rw [hl2, List.length_append, ← size_list] at h6
        omega
      clear hc
      go_wp2
      go_roundw
      case rel => exact HR2.out
      case measure => simp [intOf]; omega

set_option maxHeartbeats 1000000 in
set_option maxRecDepth 100000 in
theorem kname_any (c : Int) (c0 : -9223372036854775808 ≤ c) (c1 : c ≤ 9223372036854775807) (w : World) :
    Calls Tryz.prog 54 #[.int .i64 c] w fun e w' => ∃ X : ByteArray, e = .returned (.string X) ∧ X.data.toList = Kp.name c ∧ X.size = 1 ∧ w' = w := by
  have HP := hide (kpick_any c 10 (by decide) (by decide) c0 c1 w)
  have hb := Kp.pick_bd c 10 (by decide)
  obtain ⟨k, hk⟩ : ∃ k : Nat, Kp.pick c 10 = (k : Int) := ⟨(Kp.pick c 10).toNat, by omega⟩
  have hk9 : k ≤ 9 := by omega
  have hn : Kp.name c = [UInt8.ofNat (97 + k)] := by unfold Kp.name; rw [hk]; rfl
  have HP2 : Hid (Calls Tryz.prog 18 #[.int .i64 c, .int .i64 10] w fun e w' => e = .returned (.int .i64 (k : Int)) ∧ w' = w) := by rw [← hk]; exact HP.out
  have HN := hide hn
  clear HP hb hk hn
  go_enter Tryz.func54, Tryz.ntmps54
  go_wp2_with fail
  refine HP2.out.mono ?_
  rintro e w1 ⟨rfl, rfl⟩
  go_wp2_with fail
  go_ret
  have h1 : ∀ k : Fin 10, ((⟨#[97, 98, 99, 100, 101, 102, 103, 104, 105, 106]⟩ : ByteArray).extract k.val (k.val + 1)).data.toList = [UInt8.ofNat (97 + k.val)] := by decide
  have h2 := h1 ⟨k, by omega⟩
  refine ⟨_, rfl, by rw [HN.out]; exact h2, ?_, rfl⟩
  rw [size_list]
  show (ByteArray.data _).toList.length = 1
  rw [h2]
  rfl
end Go.Proofs.YtellilpeakpbfabGreatDoor

end
