import Derived.Test.YtellilpeakpbfabGreatDoorShelfToo
import Derived.Test.YtellilpeakpbfabGreatDoorStkToo
import Derived.Test.YtellilpeakpbfabGreatDoorRefCkToo
import Derived.Test.YtellilpeakpbfabGreatDoorShPureToo
import Derived.Test.YtellilpeakpbfabGreatDoorJFileToo
import Derived.Deep.RegionWith
section
/-
  The walk of Token.text.
-/
namespace Go.Proofs.YtellilpeakpbfabGreatDoor
open Go.RowKit

theorem below_grown (w : World) (k : Nat) (os : Array Obj) : Below w.heap.size w (Go.Sort.grow (w.drewN k) os) := by
  refine ⟨rfl, rfl, rfl, ?_, fun j hj => ?_⟩
  · show w.heap.size ≤ (w.heap ++ os).size
    rw [Array.size_append]; omega
  · show (w.heap ++ os)[j]? = _
    rw [Array.getElem?_append_left hj]
theorem itoa_nat (n : Nat) : Lib.itoa (n : Int) = Lib.decDigits n := by
  unfold Lib.itoa
  rw [if_neg (by omega)]
  rfl

set_option maxHeartbeats 400000 in
theorem text_num (n : Nat) (w : World) (hn : n < 1000000) (hP : PowAt w) :
    Calls Tryz.prog 167 #[.agg #[.int .i64 1, .int .i64 n]] w fun e w' => e = .returned (T (Lib.decDigits n)) ∧ Below w.heap.size w w' := by
  have hc : ∀ w, PowAt w → Calls Tryz.prog 58 #[.int .i64 (n : Int)] w fun e w' => e = .returned (T (Lib.decDigits n)) ∧ Below w.heap.size w w' := by
    intro w h
    refine (itoa_any n (by omega) (by omega) w h).mono fun e w' ⟨he, k, os, hw⟩ => ⟨?_, ?_⟩
    · rw [he, itoa_nat]; rfl
    · rw [hw]; exact below_grown _ _ _
  have HC := hide hc
  have HP := hide hP
  clear hc hP
  go_enter Tryz.func167, Tryz.ntmps167
  go_wp2_with fail
  refine (HC.out _ (HP.out.below HP.out.1 ((Below.refl _ _).alloc (Nat.le_refl _) _))).mono ?_
  rintro e w1 ⟨rfl, hb⟩
  have HB := hide hb
  clear hb
  go_wp2
  go_ret
  exact ⟨rfl, ((Below.refl _ _).alloc (Nat.le_refl _) _).trans (HB.out.mono (by simp))⟩

theorem dig_text (b : UInt8) (h1 : 48 ≤ b.toNat) (h2 : b.toNat ≤ 51) : Lib.itoa ((b.toNat : Int) - 48) = [b] := by
  have e : ((b.toNat : Int) - 48) = ((b.toNat - 48 : Nat) : Int) := by omega
  rw [e, itoa_nat, Lib.decDigits, dif_pos (by omega)]
  congr 1
  apply UInt8.toNat_inj.1
  simp
  omega

set_option maxHeartbeats 400000 in
theorem text_a (b : UInt8) (w : World) (h1 : 48 ≤ b.toNat) (h2 : b.toNat ≤ 51) (hP : PowAt w) :
    Calls Tryz.prog 167 #[.agg #[.int .i64 2, .int .i64 ((b.toNat : Int) - 48)]] w fun e w' => e = .returned (T [97, b]) ∧ Below w.heap.size w w' := by
  have hc : ∀ w, PowAt w → Calls Tryz.prog 58 #[.int .i64 ((b.toNat : Int) - 48)] w fun e w' => e = .returned (.string ⟨#[b]⟩) ∧ Below w.heap.size w w' := by
    intro w h
    refine (itoa_any ((b.toNat : Int) - 48) (by omega) (by omega) w h).mono fun e w' ⟨he, k, os, hw⟩ => ⟨?_, ?_⟩
    · rw [he, dig_text b h1 h2]
    · rw [hw]; exact below_grown _ _ _
  have HC := hide hc
  have HP := hide hP
  clear hc hP
  go_enter Tryz.func167, Tryz.ntmps167
  go_wp2_with fail
  refine (HC.out _ (HP.out.below HP.out.1 ((Below.refl _ _).alloc (Nat.le_refl _) _))).mono ?_
  rintro e w1 ⟨rfl, hb⟩
  have HB := hide hb
  clear hb
  go_wp2
  go_ret
  refine ⟨?_, ((Below.refl _ _).alloc (Nat.le_refl _) _).trans (HB.out.mono (by simp))⟩
  first
    | rfl
    | (show Ending.returned (.string (⟨#[97]⟩ ++ ⟨#[b]⟩)) = _; rw [append_T]; rfl)
set_option maxHeartbeats 400000 in
theorem text_v (b : UInt8) (w : World) (h1 : 48 ≤ b.toNat) (h2 : b.toNat ≤ 51) (hP : PowAt w) :
    Calls Tryz.prog 167 #[.agg #[.int .i64 3, .int .i64 ((b.toNat : Int) - 48)]] w fun e w' => e = .returned (T [118, b]) ∧ Below w.heap.size w w' := by
  have hc : ∀ w, PowAt w → Calls Tryz.prog 58 #[.int .i64 ((b.toNat : Int) - 48)] w fun e w' => e = .returned (.string ⟨#[b]⟩) ∧ Below w.heap.size w w' := by
    intro w h
    refine (itoa_any ((b.toNat : Int) - 48) (by omega) (by omega) w h).mono fun e w' ⟨he, k, os, hw⟩ => ⟨?_, ?_⟩
    · rw [he, dig_text b h1 h2]
    · rw [hw]; exact below_grown _ _ _
  have HC := hide hc
  have HP := hide hP
  clear hc hP
  go_enter Tryz.func167, Tryz.ntmps167
  go_wp2_with fail
  refine (HC.out _ (HP.out.below HP.out.1 ((Below.refl _ _).alloc (Nat.le_refl _) _))).mono ?_
  rintro e w1 ⟨rfl, hb⟩
  have HB := hide hb
  clear hb
  go_wp2
  go_ret
  refine ⟨?_, ((Below.refl _ _).alloc (Nat.le_refl _) _).trans (HB.out.mono (by simp))⟩
  first
    | rfl
    | (show Ending.returned (.string (⟨#[118]⟩ ++ ⟨#[b]⟩)) = _; rw [append_T]; rfl)

set_option maxHeartbeats 400000 in
theorem text_word (i : Nat) (w : World) (hi : i < 16) (hW : WordsAt w) :
    Calls Tryz.prog 167 #[.agg #[.int .i64 (4 + (i : Int)), .int .i64 0]] w fun e w' => e = .returned (T (Ck.wordsL.getD i [])) ∧ Below w.heap.size w w' := by
  obtain ⟨wk, hwk⟩ : ∃ wk : ByteArray, wk = ⟨(Ck.wordsL.getD i []).toArray⟩ := ⟨_, rfl⟩
  have hc : w.cell? ⟨0, i, none⟩ = some (.string wk) := by rw [hwk]; exact hW.2 i hi
  have h0 := hW.1
  have HWK := hide hwk
  clear hwk hW
  have g1 : ((4 + (i : Int)) == 1) = false := beq_eq_false_iff_ne.2 (by omega)
  have g2 : ((4 + (i : Int)) == 2) = false := beq_eq_false_iff_ne.2 (by omega)
  have g3 : ((4 + (i : Int)) == 3) = false := beq_eq_false_iff_ne.2 (by omega)
  go_enter Tryz.func167, Tryz.ntmps167
  go_wp2
  go_ret
  refine ⟨?_, (Below.refl _ _).alloc (Nat.le_refl _) _⟩
  show Ending.returned (.string wk) = _
  rw [HWK.out]; rfl

theorem text_any (t : List UInt8) (w : World) (hk : (Ck.tokenP t).1 ≠ 0) (hW : WordsAt w) (hP : PowAt w) :
    Calls Tryz.prog 167 #[K (Ck.tokenP t)] w fun e w' => e = .returned (T (Ck.showTok t)) ∧ Below w.heap.size w w' := by
  by_cases hi : Ck.wordsL.idxOf t < 16
  · have e : Ck.tokenP t = (4 + (Ck.wordsL.idxOf t : Int), 0) := by rw [Ck.tokenP, if_pos hi]
    have hl : Ck.wordsL.idxOf t < Ck.wordsL.length := hi
    have ht : Ck.wordsL.getD (Ck.wordsL.idxOf t) [] = t := by
      have := List.getElem_idxOf hl
      simp [List.getD, hl, this]
    have hs : Ck.showTok t = t := by
      have hm : t ∈ Ck.wordsL := List.idxOf_lt_length_iff.1 hl
      have all : ∀ x ∈ Ck.wordsL, Ck.numIn x = none := by decide +kernel
      rw [Ck.showTok, all t hm]
    rw [e, hs]
    have := text_word (Ck.wordsL.idxOf t) w hi hW
    rw [ht] at this
    exact this
  · cases hn : Ck.numIn t with
    | some n =>
      have e : Ck.tokenP t = (1, (n : Int)) := by rw [Ck.tokenP, if_neg hi, hn]
      rw [e, Ck.showTok, hn]
      exact text_num n w (Ck.numIn_lt t n hn) hP
    | none =>
      obtain ⟨b, h1, h2, h3⟩ := Ck.named_text t hn hi hk
      have hs : Ck.showTok t = t := by rw [Ck.showTok, hn]
      rw [hs]
      rcases h3 with ⟨e1, e2⟩ | ⟨e1, e2⟩
      · rw [e2, e1]; exact text_a b w h1 h2 hP
      · rw [e2, e1]; exact text_v b w h1 h2 hP
end Go.Proofs.YtellilpeakpbfabGreatDoor

end

section
/-
  The walks of journal: Put, Install, Record, cellEntries, procEntries, All.
-/
namespace Go.Proofs.YtellilpeakpbfabGreatDoor
open Go.RowKit

theorem app_list (a b : ByteArray) : (a ++ b).data.toList = a.data.toList ++ b.data.toList := by simp
theorem size_list (X : ByteArray) : X.size = X.data.toList.length := by simp
theorem one_size (c : UInt8) : (⟨#[c]⟩ : ByteArray).size = 1 := rfl
theorem dec_le (k : Nat) : ∀ (u : Nat), u < 10 ^ (k + 1) → (Lib.decDigits u).length ≤ k + 1 := by
  induction k with
  | zero => intro u hu; rw [Lib.decDigits, dif_pos (by omega)]; simp
  | succ k ih =>
    intro u hu
    rw [Lib.decDigits]
    split
    · simp
    · have := ih (u / 10) (by rw [Nat.pow_succ] at hu; omega)
      simp; omega
theorem itoa_len (n : Int) (h0 : -1000000000 ≤ n) (h1 : n ≤ 1000000000) : (Lib.itoa n).length ≤ 11 := by
  unfold Lib.itoa
  split
  · have := dec_le 9 n.natAbs (by omega)
    simp; omega
  · have := dec_le 9 n.toNat (by omega)
    omega
theorem itoa_str (n : Int) (h0 : -1000000000 ≤ n) (h1 : n ≤ 1000000000) (w : World) (hP : PowAt w) :
    Calls Tryz.prog 58 #[.int .i64 n] w fun e w' => ∃ X : ByteArray, e = .returned (.string X) ∧ X.data.toList = Lib.itoa n ∧ X.size ≤ 11 ∧ Below w.heap.size w w' := by
  refine (itoa_any n (by omega) (by omega) w hP).mono fun e w' ⟨he, k, os, hw⟩ => ⟨_, he, rfl, itoa_len n h0 h1, ?_⟩
  rw [hw]; exact below_grown _ _ _

set_option maxHeartbeats 400000 in
set_option maxRecDepth 100000 in
theorem putJ_any (k v : Int) (w : World) (h0 : -1000000000 ≤ k) (h1 : k ≤ 1000000000) (h2 : -1000000000 ≤ v) (h3 : v ≤ 1000000000) (hP : PowAt w) :
    Calls Tryz.prog 37 #[.int .i64 k, .int .i64 v] w fun e w' => ∃ X : ByteArray, e = .returned (.string X) ∧ X.data.toList = Jn.putE k v ∧ X.size ≤ 25 ∧ Below w.heap.size w w' := by
  have HK := hide (itoa_str k h0 h1 w hP)
  have HV := hide (itoa_str v h2 h3)
  have HP := hide hP
  clear hP
  go_enter Tryz.func37, Tryz.ntmps37
  go_wp2_with fail
  refine HK.out.mono ?_
  rintro e w1 ⟨A, rfl, hA, hAs, hb⟩
  have HB := hide hb
  have HA := hide hA
  clear hb hA
  go_wp2_with fail
  refine (HV.out _ (HP.out.below HP.out.1 HB.out)).mono ?_
  rintro e w2 ⟨Z, rfl, hZ, hZs, hb⟩
  have HB2 := hide hb
  have HZ := hide hZ
  clear hb hZ
  go_wp2
  go_ret
  refine ⟨_, rfl, ?_, ?_, HB.out.trans (HB2.out.mono HB.out.size)⟩
  · simp only [app_list, HA.out, HZ.out]; rfl
  · simp only [ByteArray.size_append, one_size]; omega

set_option maxHeartbeats 400000 in
theorem installJ_any (n s : ByteArray) (w : World) (hn : n.size ≤ 1000) (hs : s.size ≤ 1000) :
    Calls Tryz.prog 64 #[.string n, .string s] w fun e w' => ∃ X : ByteArray, e = .returned (.string X) ∧ X.data.toList = Jn.installE n.data.toList s.data.toList ∧ X.size = 3 + n.size + s.size ∧ w' = w := by
  go_enter Tryz.func64, Tryz.ntmps64
  go_wp2
  go_ret
  refine ⟨_, rfl, ?_, ?_, rfl⟩
  · simp only [app_list]; rfl
  · simp only [ByteArray.size_append, one_size]; omega

set_option maxHeartbeats 400000 in
theorem recordJ_any (s : ByteArray) (w : World) (hs : s.size ≤ 100000) :
    Calls Tryz.prog 57 #[.string s] w fun e w' => ∃ X : ByteArray, e = .returned (.string X) ∧ X.data.toList = Jn.record s.data.toList ∧ X.size = s.size + 1 ∧ w' = w := by
  go_enter Tryz.func57, Tryz.ntmps57
  go_wp2
  go_ret
  refine ⟨_, rfl, ?_, ?_, rfl⟩
  · simp only [app_list]; rfl
  · simp only [ByteArray.size_append, one_size]

def CEnt (w : World) (l : List (Int × Int)) (x i : Value) (wr : World) : Prop :=
  ∃ (k : Nat) (u : ByteArray), k ≤ l.length ∧ i = .int .i64 k ∧ x = .string u ∧ u.data.toList = Jn.cellsE (l.take k) ∧ u.size ≤ 25 * k ∧ Below w.heap.size w wr
theorem cellsE_take (l : List (Int × Int)) (k : Nat) (p : Int × Int) (h : l[k]? = some p) : Jn.cellsE (l.take (k + 1)) = Jn.cellsE (l.take k) ++ Jn.putE p.1 p.2 := by
  have hk := (List.getElem?_eq_some_iff.1 h).1
  have e := (List.getElem?_eq_some_iff.1 h).2
  rw [List.take_succ_eq_append_getElem hk, e]
  simp [Jn.cellsE]

set_option maxHeartbeats 2000000 in
set_option maxRecDepth 100000 in
theorem cellEntries_any (l : List (Int × Int)) (v : Value) (w : World) (hrow : CRow w 0 v l) (hl : l.length ≤ 100) (hb : ∀ p ∈ l, (0 ≤ p.1 ∧ p.1 ≤ 99) ∧ -1000000000 ≤ p.2 ∧ p.2 ≤ 1000000000) (hP : PowAt w) :
    Calls Tryz.prog 84 #[v] w fun e w' => ∃ X : ByteArray, e = .returned (.string X) ∧ X.data.toList = Jn.cellsE l ∧ X.size ≤ 2500 ∧ Below w.heap.size w w' := by
  obtain ⟨ao, cap, rfl, hcells⟩ := hrow.shape
  have HRW := hide hcells
  have HBD := hide hb
  have HP := hide hP
  clear hcells hrow hb hP
  go_enter Tryz.func84, Tryz.ntmps84
  go_wp2
  go_loopw [3, 4] (fun x i wr => CEnt w l x i wr) (fun _ i _ => l.length - (intOf i).toNat)
  case atStart => exact ⟨0, ⟨#[]⟩, Nat.zero_le _, rfl, rfl, rfl, Nat.zero_le _, Below.refl _ _⟩
  case round =>
    obtain ⟨k, u, hkn, rfl, rfl, hu, hus, hbel⟩ := hrel
    have HU := hide hu
    have HB := hide hbel
    clear hu hbel
    by_cases hlt : k < l.length
    · obtain ⟨g, cur, rfl, hg0, hg, hcells⟩ := HRW.out (by omega)
      obtain ⟨p, hp⟩ : ∃ p, l[k]? = some p := ⟨l[k], by simp [hlt]⟩
      obtain ⟨c1, c2⟩ := hcells k p hp
      have d1 := at_old HB.out c1
      have d2 := at_old HB.out c2
      have hpm : p ∈ l := List.mem_of_getElem? hp
      obtain ⟨⟨b1, b2⟩, b3, b4⟩ := HBD.out p hpm
      have HK := hide (cellsE_take l k p hp)
      have hpow : PowAt wr := HP.out.below HP.out.1 HB.out
      have HPW := hide hpow
      have HPJ := hide (fun w => putJ_any p.1 p.2 w (by omega) (by omega) b3 b4)
      clear hcells c1 c2 hp hpm hg hg0 hpow
      obtain ⟨p1, p2⟩ := p
      go_wp2
      go_region_with (go_at_call 37; refine (HPJ.out _ (HPW.out.below HPW.out.1 (Below.refl _ _).drew)).mono ?_; rintro e w5 ⟨X, rfl, hX, hXs, hb5⟩)
      all_goals
        have HR : Hid (CEnt w l (.string (u ++ X)) (.int .i64 ((k : Int) + 1)) w5) := by
          refine ⟨k + 1, _, by omega, by go_num, rfl, by rw [HK.out, app_list, HU.out, hX], by simp only [ByteArray.size_append]; omega, HB.out.trans (Below.trans (Below.mono (Below.drew (Below.refl _ _)) HB.out.size) (hb5.mono HB.out.size))⟩
        clear hX hXs hb5
        go_wp2
        go_roundw
        case rel => exact HR.out
        case measure => simp [intOf]; omega
    · go_wp2
      go_ret
      refine ⟨_, rfl, ?_, by omega, HB.out⟩
      rw [HU.out, List.take_of_length_le (by omega)]

def PEnt (w : World) (l : List (List UInt8 × List UInt8)) (x i : Value) (wr : World) : Prop :=
  ∃ (k : Nat) (u : ByteArray), k ≤ l.length ∧ i = .int .i64 k ∧ x = .string u ∧ u.data.toList = Jn.procsE (l.take k) ∧ u.size ≤ 2003 * k ∧ Below w.heap.size w wr
theorem procsE_take (l : List (List UInt8 × List UInt8)) (k : Nat) (p : List UInt8 × List UInt8) (h : l[k]? = some p) : Jn.procsE (l.take (k + 1)) = Jn.procsE (l.take k) ++ Jn.installE p.1 p.2 := by
  have hk := (List.getElem?_eq_some_iff.1 h).1
  have e := (List.getElem?_eq_some_iff.1 h).2
  rw [List.take_succ_eq_append_getElem hk, e]
  simp [Jn.procsE]

set_option maxHeartbeats 2000000 in
set_option maxRecDepth 100000 in
theorem procEntries_any (l : List (List UInt8 × List UInt8)) (v : Value) (w : World) (hrow : PRow w 0 v l) (hl : l.length ≤ 8) (hb : ∀ p ∈ l, p.1.length ≤ 1000 ∧ p.2.length ≤ 1000) :
    Calls Tryz.prog 85 #[v] w fun e w' => ∃ X : ByteArray, e = .returned (.string X) ∧ X.data.toList = Jn.procsE l ∧ X.size ≤ 16024 ∧ Below w.heap.size w w' := by
  obtain ⟨ao, cap, rfl, hcells⟩ := hrow.shape
  have HRW := hide hcells
  have HBD := hide hb
  clear hcells hrow hb
  go_enter Tryz.func85, Tryz.ntmps85
  go_wp2
  go_loopw [3, 4] (fun x i wr => PEnt w l x i wr) (fun _ i _ => l.length - (intOf i).toNat)
  case atStart => exact ⟨0, ⟨#[]⟩, Nat.zero_le _, rfl, rfl, rfl, Nat.zero_le _, Below.refl _ _⟩
  case round =>
    obtain ⟨k, u, hkn, rfl, rfl, hu, hus, hbel⟩ := hrel
    have HU := hide hu
    have HB := hide hbel
    clear hu hbel
    by_cases hlt : k < l.length
    · obtain ⟨g, cur, rfl, hg0, hg, hcells⟩ := HRW.out (by omega)
      obtain ⟨p, hp⟩ : ∃ p, l[k]? = some p := ⟨l[k], by simp [hlt]⟩
      obtain ⟨c1, c2⟩ := hcells k p hp
      have d1 := at_old HB.out c1
      have d2 := at_old HB.out c2
      have hpm : p ∈ l := List.mem_of_getElem? hp
      obtain ⟨b1, b2⟩ := HBD.out p hpm
      have HK := hide (procsE_take l k p hp)
      obtain ⟨p1, p2⟩ := p
      simp only [T] at d1 d2
      obtain ⟨q1, hq1⟩ : ∃ q : ByteArray, q = ⟨p1.toArray⟩ := ⟨_, rfl⟩
      obtain ⟨q2, hq2⟩ : ∃ q : ByteArray, q = ⟨p2.toArray⟩ := ⟨_, rfl⟩
      have s1 : q1.size ≤ 1000 := by rw [hq1]; exact b1
      have s2 : q2.size ≤ 1000 := by rw [hq2]; exact b2
      have e1 : q1.data.toList = p1 := by rw [hq1]
      have e2 : q2.data.toList = p2 := by rw [hq2]
      rw [← hq1] at d1
      rw [← hq2] at d2
      have HPJ := hide (fun w => installJ_any q1 q2 w s1 s2)
      have HE1 := hide e1
      have HE2 := hide e2
      clear hcells c1 c2 hp hpm hg hg0 hq1 hq2 e1 e2
      go_wp2
      go_region_with (go_at_call 64; refine (HPJ.out _).mono ?_; rintro e w5 ⟨X, rfl, hX, hXs, rfl⟩)
      all_goals
        have HR : Hid (PEnt w l (.string (u ++ X)) (.int .i64 ((k : Int) + 1)) wr.drew) := by
          refine ⟨k + 1, _, by omega, by go_num, rfl, by rw [HK.out, app_list, HU.out, hX, HE1.out, HE2.out], by simp only [ByteArray.size_append]; omega, Below.drew HB.out⟩
        clear hX
        go_wp2
        go_roundw
        case rel => exact HR.out
        case measure => simp [intOf]; omega
    · go_wp2
      go_ret
      refine ⟨_, rfl, ?_, by omega, HB.out⟩
      rw [HU.out, List.take_of_length_le (by omega)]

theorem list_bd (cs : List (Option Int)) (hv : ∀ o ∈ cs, ∀ v, o = some v → Jn.isVal v = true) : ∀ j, j + cs.length ≤ 100 → ∀ p ∈ Jn.listFrom j cs, (0 ≤ p.1 ∧ p.1 ≤ 99) ∧ -1000000000 ≤ p.2 ∧ p.2 ≤ 1000000000 := by
  induction cs with
  | nil => intro j _ p hp; simp [Jn.listFrom] at hp
  | cons a r ih =>
    intro j hj p hp
    have ih' := ih (fun o ho => hv o (by simp [ho])) (j + 1) (by simp at hj; omega)
    cases a with
    | none => exact ih' p (by simpa [Jn.listFrom] using hp)
    | some v =>
      simp only [Jn.listFrom, List.mem_cons] at hp
      rcases hp with rfl | hp
      · have h1 := hv (some v) (by simp) v rfl
        unfold Jn.isVal at h1
        simp at hj h1 ⊢
        omega
      · exact ih' p hp
theorem read_len (s : List UInt8) (h : (Ck.read s).2 = 0) : s.length ≤ 400 := by
  unfold Ck.read at h
  split at h
  · simp at h
  · omega
theorem name_len (s : List UInt8) (h : Jn.isName s = true) : s.length ≤ 8 := by
  unfold Jn.isName at h
  simp at h
  omega
theorem proc_bd {C : Jn.Con} (h : Jn.Ok C) : ∀ p ∈ C.procs, p.1.length ≤ 1000 ∧ p.2.length ≤ 1000 := by
  intro p hp
  have h1 := name_len _ (h.prc p hp).1
  have h2 := read_len _ (h.prc p hp).2
  omega

set_option maxHeartbeats 400000 in
theorem all_any (L B : Nat) (C : Jn.Con) (w : World) (h : ConAt L w B C) (hP : PowAt w) :
    Calls Tryz.prog 60 #[.pointer (some ⟨B, 0, none⟩)] w fun e w' => ∃ X : ByteArray, e = .returned (.string X) ∧ X.data.toList = Jn.all C ∧ Below w.heap.size w w' := by
  have HC := hide (cellsC_any L B C w h)
  have HPr := hide (fun w h => procsC_any L B C w h)
  have HH := hide h
  have HP := hide hP
  clear h hP
  go_enter Tryz.func60, Tryz.ntmps60
  go_wp2_with fail
  refine HC.out.mono ?_
  rintro e w1 ⟨v1, rfl, hr1, hb1⟩
  have hlen : C.list.length ≤ 100 := Nat.le_trans (list_len _ _) (Nat.le_of_eq HH.out.ok.len)
  have HCE := hide (cellEntries_any C.list v1 w1 (hr1.base (Nat.zero_le _)) hlen (list_bd C.cells HH.out.ok.val 0 (by have := HH.out.ok.len; omega)) (HP.out.below HP.out.1 hb1))
  have HB1 := hide hb1
  clear hr1 hb1 HC hlen
  go_wp2_with fail
  refine HCE.out.mono ?_
  rintro e w2 ⟨X, rfl, hX, hXs, hb2⟩
  have HB2 : Hid (Below w.heap.size w w2) := HB1.out.trans (hb2.mono HB1.out.size)
  have HX := hide hX
  clear hX hb2 HCE
  go_wp2_with fail
  refine (HPr.out _ (HH.out.below HB2.out)).mono ?_
  rintro e w3 ⟨v3, rfl, hr3, hb3⟩
  have HPE := hide (procEntries_any C.procs v3 w3 (hr3.base (Nat.zero_le _)) HH.out.ok.cnt (proc_bd HH.out.ok))
  have HB3 : Hid (Below w.heap.size w w3) := HB2.out.trans (hb3.mono HB2.out.size)
  clear hr3 hb3
  go_wp2_with fail
  refine HPE.out.mono ?_
  rintro e w4 ⟨Y, rfl, hY, hYs, hb4⟩
  have HB4 : Hid (Below w.heap.size w w4) := HB3.out.trans (hb4.mono HB3.out.size)
  have HY := hide hY
  clear hY hb4 HPE
  have HRC := hide (fun w => recordJ_any (X ++ Y) w (by simp only [ByteArray.size_append]; omega))
  go_wp2_with fail
  refine (HRC.out _).mono ?_
  rintro e w5 ⟨Z, rfl, hZ, hZs, rfl⟩
  have HZ := hide hZ
  clear hZ
  go_wp2
  go_ret
  refine ⟨_, rfl, ?_, HB4.out⟩
  rw [HZ.out, app_list, HX.out, HY.out]
  rfl
end Go.Proofs.YtellilpeakpbfabGreatDoor

end

section
/-
  The walks of Store.move and Open.
-/
namespace Go.Proofs.YtellilpeakpbfabGreatDoor
open Go.RowKit

/-- A store at block S, its contents at block B; the file that tells it. -/
structure StAt (L : Nat) (w : World) (S B : Nat) (C : Jn.Con) (f : Int) : Prop where
  low : L ≤ S
  file : f = 0 ∨ f = 1
  mem : w.heap[S]? = some (.cells #[.pointer (some ⟨B, 0, none⟩), .int .i64 f] 78 (0, 0))
  con : ConAt L w B C

abbrev ActP := Int × Int × List UInt8
def acts3 (l : List ActP) : List Value := l.flatMap fun a => [.int .i64 a.1, .int .i64 a.2.1, T a.2.2]
/-- A list of acts, from block b on. -/
def ARow (w : World) (b : Nat) (v : Value) (l : List ActP) : Prop := w.ownsRow b 84 3 v l.length (acts3 l)
def moveActs (C : Jn.Con) (f : Int) : List ActP := [(2, f, []), (3, 1 - f, []), (1, 1 - f, Jn.all C), (2, 1 - f, []), (3, f, [])]

theorem StAt.cells {L : Nat} {w : World} {S B : Nat} {C : Jn.Con} {f : Int} (h : StAt L w S B C f) :
    w.cell? ⟨S, 0, none⟩ = some (.pointer (some ⟨B, 0, none⟩)) ∧ w.cell? ⟨S, 1, none⟩ = some (.int .i64 f) ∧ w.frozen? ⟨S, 0, none⟩ = false ∧ w.frozen? ⟨S, 1, none⟩ = false :=
  ⟨(cell_of_row w S 0 _ _ _ h.mem).trans rfl, (cell_of_row w S 1 _ _ _ h.mem).trans rfl, frozen_of_row w S 0 _ _ h.mem, frozen_of_row w S 1 _ _ h.mem⟩
theorem StAt.lt {L : Nat} {w : World} {S B : Nat} {C : Jn.Con} {f : Int} (h : StAt L w S B C f) : S < w.heap.size := (Array.getElem?_eq_some_iff.1 h.mem).1
theorem StAt.fr {L : Nat} {T : List TypeId} {X : Option Nat} {w w' : World} {S B : Nat} {C : Jn.Con} {f : Int} (h : StAt L w S B C f) (g : Fr L T X w w') (h0 : 78 ∉ T) (h1 : 123 ∉ T) (h2 : 89 ∉ T)
    (hX : ∀ k, X = some k → ∀ cur t z, w.heap[k]? = some (.cells cur t z) → t ≠ 78 ∧ t ≠ 123 ∧ t ≠ 89) : StAt L w' S B C f :=
  ⟨h.low, h.file, g.block S _ _ _ h.mem h0 (fun e => (hX S e _ _ _ h.mem).1 rfl), h.con.fr g h1 h2 (fun k hk cur t z hh => (hX k hk cur t z hh).2)⟩
theorem StAt.below {L : Nat} {w w' : World} {S B : Nat} {C : Jn.Con} {f : Int} (h : StAt L w S B C f) (g : Below w.heap.size w w') : StAt L w' S B C f :=
  h.fr (Fr.of (T := []) (X := none) g (Nat.le_trans h.low (Nat.le_of_lt h.lt))) (by simp) (by simp) (by simp) (by simp)

/-- the file is another one. -/
theorem st_setF {L : Nat} {w : World} {S B : Nat} {C : Jn.Con} {f : Int} (h : StAt L w S B C f) (f' : Int) (hf : f' = 0 ∨ f' = 1) :
    StAt L (w.setCell ⟨S, 1, none⟩ (.int .i64 f')) S B C f' ∧ Fr L [78] none w (w.setCell ⟨S, 1, none⟩ (.int .i64 f')) := by
  have h1 := heap_setCell_same w S 1 _ _ (.int .i64 f') h.mem
  have hfr : Fr L [78] none w (w.setCell ⟨S, 1, none⟩ (.int .i64 f')) := by
    refine ⟨(Below.refl L w).setCell (p := ⟨S, 1, none⟩) h.low _, ?_⟩
    intro k cur' t z hk ht _
    rw [heap_setCell_other _ _ _ _ (fun e => ?_)]
    · exact hk
    · simp at e; subst e; rw [h.mem] at hk; cases hk; simp at ht
  exact ⟨⟨h.low, hf, h1, h.con.fr hfr (by decide) (by decide) (by simp)⟩, hfr⟩

theorem arow_new (w : World) (b : Nat) (hb : b ≤ w.heap.size) (l : List ActP) (n : Nat) (hn : n = l.length) (cur : Array Value) (hc : cur.toList = acts3 l) (hm : n ≤ maxLen) :
    ARow (w.alloc (.cells cur 84)) b (.slice (some ⟨w.heap.size, 0, none⟩) n n) l := by
  subst hn
  have hl : (acts3 l).length = l.length * 3 := by
    clear hc hm
    induction l with
    | nil => rfl
    | cons a r ih => simp only [acts3, List.flatMap_cons, List.length_append, List.length_cons, List.length_nil] at ih ⊢; omega
  refine ⟨hl, .inr ⟨_, _, cur, rfl, hb, heap_alloc_new w _, Nat.le_refl _, hm, ?_, ?_⟩⟩
  · rw [← hl, ← hc]; simp
  · rw [hc, ← hl, List.take_length]

set_option maxHeartbeats 1000000 in
set_option maxRecDepth 100000 in
theorem move_any (L S B : Nat) (C : Jn.Con) (f : Int) (w : World) (h : StAt L w S B C f) (hP : PowAt w) (hgL : 1 < L) :
    Calls Tryz.prog 41 #[.pointer (some ⟨S, 0, none⟩)] w fun e w' => ∃ v, e = .returned v ∧ ARow w' w.heap.size v (moveActs C f) ∧ StAt L w' S B C (1 - f) ∧ Fr L [78] none w w' := by
  obtain ⟨c0, c1, f0, f1⟩ := h.cells
  have hf := h.file
  have hset := st_setF h (1 - f) (by omega)
  have hlt := h.lt
  have hf0 : 0 ≤ f ∧ f ≤ 1 := by omega
  obtain ⟨g0, g1⟩ := hf0
  obtain ⟨w1, hw1⟩ : ∃ w1, w1 = w.setCell ⟨S, 1, none⟩ (.int .i64 (1 - f)) := ⟨_, rfl⟩
  rw [← hw1] at hset
  have hz : w1.heap.size = w.heap.size := by rw [hw1]; simp
  have hc := all_any L B C w1 hset.1.con (hP.below hgL hset.2.below)
  have d0 := hset.1.cells.1
  have HC := hide hc
  have HS := hide hset
  clear hc hset h hf hP
  go_enter Tryz.func41, Tryz.ntmps41
  go_wp2_with fail
  rw [← hw1]
  have HW := hide hw1
  clear hw1
  refine HC.out.mono ?_
  rintro e w2 ⟨X, rfl, hX, hb⟩
  have HX := hide hX
  have HB := hide hb
  have hz2 := hb.size
  clear hX hb HC
  go_wp2
  go_ret
  have hL : L ≤ w1.heap.size := Nat.le_trans HS.out.1.low (Nat.le_of_lt HS.out.1.lt)
  refine ⟨_, rfl, ?_, (HS.out.1.below HB.out).below ((Below.refl _ _).alloc (Nat.le_refl _) _), ?_⟩
  · refine arow_new w2 w.heap.size (by omega) (moveActs C f) 5 rfl _ ?_ (by decide)
    simp only [moveActs, acts3, List.flatMap_cons, List.flatMap_nil, ← HX.out]
    rfl
  · exact HS.out.2.trans ((Fr.of HB.out hL).trans (Fr.of ((Below.refl _ _).alloc (Nat.le_refl _) _) (by omega)))

/-- what Open answers. -/
def OpenPost (o : Option (Jn.Con × Int)) (w : World) (e : Ending) (w' : World) : Prop :=
  Below w.heap.size w w' ∧ ((∃ C f S B v, o = some (C, f) ∧ StAt w.heap.size w' S B C (1 - f) ∧ ARow w' w.heap.size v (moveActs C f) ∧ e = .returned (.tuple #[.pointer (some ⟨S, 0, none⟩), v, .int .i64 0])) ∨
    (o = none ∧ e = .returned (.tuple #[.pointer none, .slice none 0 0, .int .i64 11])))

theorem readTwo_file {a b : List UInt8} {C : Jn.Con} {f : Int} (h : Jn.readTwo a b = some (C, f)) : f = 0 ∨ f = 1 := by
  unfold Jn.readTwo at h
  split at h
  · split at h
    · cases h; exact .inl rfl
    · split at h
      · cases h
      · cases h; exact .inr rfl
  · cases h

set_option maxHeartbeats 1000000 in
set_option maxRecDepth 100000 in
theorem open_any (a b : ByteArray) (w : World) (hW : WordsAt w) (hP : PowAt w) (ha : a.size ≤ 1152921504606846976) (hb : b.size ≤ 1152921504606846976) :
    Calls Tryz.prog 31 #[.string a, .string b] w (OpenPost (Jn.readTwo a.data.toList b.data.toList) w) := by
  have hr := readJ_any a b w hW ha hb
  have hfile : ∀ C f, Jn.readTwo a.data.toList b.data.toList = some (C, f) → f = 0 ∨ f = 1 := fun C f h => readTwo_file h
  generalize Jn.readTwo a.data.toList b.data.toList = o at *
  have HR := hide hr
  have HP := hide hP
  have HFI := hide hfile
  clear hr hW hP hfile
  go_enter Tryz.func31, Tryz.ntmps31
  go_wp2_with fail
  refine HR.out.mono ?_
  rintro e w1 ⟨hb1, (⟨C, f, B, ho, hc, rfl⟩ | ⟨ho, rfl⟩)⟩
  · have hf := HFI.out C f ho
    have HB1 := hide hb1
    have HO := hide ho
    have HCN := hide hc
    have hst : StAt w.heap.size (w1.alloc (.cells #[.pointer (some ⟨B, 0, none⟩), .int .i64 f] 78)) w1.heap.size B C f :=
      ⟨hb1.size, hf, heap_alloc_new w1 _, hc.below ((Below.refl _ _).alloc (Nat.le_refl _) _)⟩
    have hb2 : Below w.heap.size w (w1.alloc (.cells #[.pointer (some ⟨B, 0, none⟩), .int .i64 f] 78)) := hb1.alloc hb1.size _
    have HMV := hide (move_any w.heap.size w1.heap.size B C f _ hst (HP.out.below HP.out.1 hb2) HP.out.1)
    have HB2 := hide hb2
    have hz1 := hb1.size
    clear hb1 ho hc hst hb2 HR
    go_wp2_with fail
    refine HMV.out.mono ?_
    rintro e w3 ⟨v, rfl, hrow, hst3, hfr⟩
    have HP3 : Hid (OpenPost o w (.returned (.tuple #[.pointer (some ⟨w1.heap.size, 0, none⟩), v, .int .i64 0])) w3) :=
      ⟨HB2.out.trans hfr.below, .inl ⟨C, f, w1.heap.size, B, v, HO.out, hst3, ownsRow_base hrow (by simp; omega), rfl⟩⟩
    clear hrow hst3 hfr HMV
    go_wp2
    go_ret3
    exact HP3.out
  · have HB1 := hide hb1
    have HO := hide ho
    clear hb1 ho HR
    go_wp2
    go_ret3
    exact ⟨HB1.out, .inr ⟨HO.out, rfl⟩⟩
end Go.Proofs.YtellilpeakpbfabGreatDoor

end
