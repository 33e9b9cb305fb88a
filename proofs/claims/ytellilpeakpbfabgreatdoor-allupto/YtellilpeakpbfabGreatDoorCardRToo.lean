import Derived.Test.YtellilpeakpbfabGreatDoorRnToo
import Derived.Test.YtellilpeakpbfabGreatDoorRnMToo
import Derived.SizedLaws
section
/-
  The walks of the document's procedures: Named, Proc, Others.
-/
namespace Go.Proofs.YtellilpeakpbfabGreatDoor
open Go.RowKit

set_option maxHeartbeats 400000 in
theorem namedR_any (s : ByteArray) (w : World) :
    Calls Tryz.prog 148 #[.string s] w fun e w' => e = .returned (.bool (Jn.isName s.data.toList)) ∧ w' = w := by
  have hl : s.data.toList.length = s.size := by simp
  by_cases h0 : 1 ≤ s.size ∧ s.size ≤ 8
  · obtain ⟨h1, h2⟩ := h0
    have HN : Hid (Jn.isName s.data.toList = s.data.toList.all (fun c => decide (97 ≤ c.toNat) && decide (c.toNat ≤ 122))) := by
      show _ = _
      unfold Jn.isName
      rw [hl]
      simp [h1, h2]
    have t1 : (s.toList == []) = false := beq_eq_false_iff_ne.2 (by rw [ByteArray.toList_eq]; intro h; rw [h] at hl; simp at hl; omega)
    have t2 : decide (8 < (s.size : Int)) = false := by simp; omega
    clear hl
    go_enter Tryz.func148, Tryz.ntmps148
    go_wp2
    go_loop [3] (fun i => ∃ k : Nat, k ≤ s.size ∧ i = .int .i64 k ∧ (∀ c ∈ s.data.toList.take k, (decide (97 ≤ c.toNat) && decide (c.toNat ≤ 122)) = true)) (fun i => s.size - (intOf i).toNat)
    case atStart => exact ⟨0, Nat.zero_le _, rfl, by simp⟩
    case round =>
      obtain ⟨k, hk, rfl, hd⟩ := hrel
      have HD := hide hd
      clear hd
      by_cases hlt : k < s.size
      · have hc : (0 : Int) ≤ s[k].toNat ∧ (s[k].toNat : Int) ≤ 255 := by have := s[k].toNat_lt; omega
        obtain ⟨hc0, hc1⟩ := hc
        by_cases hg : 97 ≤ (s[k].toNat : Int) ∧ (s[k].toNat : Int) ≤ 122
        · obtain ⟨g1, g2⟩ := hg
          have HS := hide (take_snoc s k hlt)
          have HI : Hid ((decide (97 ≤ s[k].toNat) && decide (s[k].toNat ≤ 122)) = true) := by show _ = _; simp; omega
          go_wp2
          go_round
          case rel =>
            refine ⟨k + 1, by omega, by go_num, ?_⟩
            rw [HS.out]
            intro c hc
            rcases List.mem_append.1 hc with h | h
            · exact HD.out c h
            · simp at h; rw [h]; exact HI.out
          case measure => simp [intOf]; omega
        · have HF : Hid (Jn.isName s.data.toList = false) := by
            show _ = _
            rw [HN.out]
            exact all_take _ s k hlt (by simp; omega)
          go_wp2
          all_goals go_ret
          all_goals exact ⟨ret_bool HF.out.symm, rfl⟩
      · have HT := hide (take_all s k hlt)
        go_wp2
        go_ret
        refine ⟨ret_bool ?_, rfl⟩
        rw [HN.out, eq_comm, List.all_eq_true]
        have hd := HD.out
        rw [HT.out] at hd
        exact hd
  · have HF : Hid (Jn.isName s.data.toList = false) := by
      show _ = _
      unfold Jn.isName
      rw [hl, Bool.eq_false_iff]
      intro h
      simp at h; omega
    by_cases hz : s.size = 0
    · have t1 : (s.toList == []) = true := by rw [ByteArray.toList_eq, List.eq_nil_of_length_eq_zero (hl.trans hz)]; rfl
      clear hl
      go_enter Tryz.func148, Tryz.ntmps148
      go_wp2
      all_goals go_ret
      all_goals exact ⟨ret_bool HF.out.symm, rfl⟩
    · have t1 : (s.toList == []) = false := beq_eq_false_iff_ne.2 (by rw [ByteArray.toList_eq]; intro h; rw [h] at hl; simp at hl; omega)
      have t2 : decide (8 < (s.size : Int)) = true := by simp; omega
      clear hl
      go_enter Tryz.func148, Tryz.ntmps148
      go_wp2
      all_goals go_ret
      all_goals exact ⟨ret_bool HF.out.symm, rfl⟩

def PfRel (l : List (Jn.Bytes × Jn.Bytes)) (n : Jn.Bytes) (i : Value) : Prop := ∃ j : Nat, j ≤ l.length ∧ i = .int .i64 j ∧ srcL (l.drop j) n = srcL l n

set_option maxHeartbeats 1000000 in
theorem proc_any (b : Nat) (v : Value) (l : List (Jn.Bytes × Jn.Bytes)) (n : ByteArray) (w : World) (h : PRow w b v l) (hl : l.length ≤ 1000) :
    Calls Tryz.prog 150 #[v, .string n] w fun e w' => e = .returned (.tuple #[T ((srcL l n.data.toList).getD []), .bool (srcL l n.data.toList).isSome]) ∧ w' = w := by
  obtain ⟨ao, cap, rfl, hcs⟩ := h.shape
  have HC := hide hcs
  clear h hcs
  go_enter Tryz.func150, Tryz.ntmps150
  go_wp2
  go_loop [6] (fun i => PfRel l n.data.toList i) (fun i => l.length - (intOf i).toNat)
  case atStart => exact ⟨0, Nat.zero_le _, rfl, rfl⟩
  case round =>
    obtain ⟨j, hj, rfl, heq⟩ := hrel
    have HE := hide heq
    clear heq
    by_cases hlt : j < l.length
    · obtain ⟨g, cur, rfl, -, -, hcs⟩ := HC.out (by omega)
      obtain ⟨p, hp⟩ : ∃ p, l[j]? = some p := ⟨l[j], by simp [hlt]⟩
      obtain ⟨d1, d2⟩ := hcs j p hp
      have HD : Hid (l.drop j = p :: l.drop (j + 1)) := by
        show _ = _
        rw [List.drop_eq_getElem_cons hlt, (List.getElem?_eq_some_iff.1 hp).2]
      clear hcs hp
      obtain ⟨p1, p2⟩ := p
      simp only [T] at d1 d2
      obtain ⟨q1, hq1⟩ : ∃ q : ByteArray, q = ⟨p1.toArray⟩ := ⟨_, rfl⟩
      obtain ⟨q2, hq2⟩ : ∃ q : ByteArray, q = ⟨p2.toArray⟩ := ⟨_, rfl⟩
      rw [← hq1] at d1
      rw [← hq2] at d2
      have HQ1 := hide hq1
      have HQ2 := hide hq2
      clear hq1 hq2
      cases ht : (q1.toList == n.toList) with
      | true =>
        have HP : Hid (p1 = n.data.toList) := by
          show _ = _
          rw [ByteArray.toList_eq, ByteArray.toList_eq, HQ1.out] at ht
          simpa using ht
        have HR : Hid (srcL l n.data.toList = some p2) := by
          show _ = _
          rw [← HE.out, HD.out, srcL, if_pos HP.out]
        go_wp2
        go_ret2
        rw [HR.out]
        refine ⟨?_, rfl⟩
        rw [HQ2.out]
        rfl
      | false =>
        have HP : Hid (p1 ≠ n.data.toList) := by
          show _ ≠ _
          rw [ByteArray.toList_eq, ByteArray.toList_eq, HQ1.out] at ht
          simpa using ht
        have HR : Hid (srcL (l.drop (j + 1)) n.data.toList = srcL l n.data.toList) := by
          show _ = _
          rw [← HE.out, HD.out, srcL, if_neg HP.out]
        go_wp2
        go_round
        case rel => exact ⟨j + 1, by omega, by go_num, HR.out⟩
        case measure => simp [intOf]; omega
    · have HR : Hid (srcL l n.data.toList = none) := by
        show _ = _
        rw [← HE.out, List.drop_eq_nil_of_le (by omega)]; rfl
      go_wp2
      go_ret2
      rw [HR.out]
      exact ⟨rfl, rfl⟩

set_option maxHeartbeats 2000000 in
set_option maxRecDepth 100000 in
theorem othersR_any (b : Nat) (v : Value) (ps : List (Jn.Bytes × Jn.Bytes)) (s : ByteArray) (w : World) (h : PRow w b v ps) (hl : ps.length ≤ 1000) :
    Calls Tryz.prog 149 #[v, .string s] w fun e w' => ∃ v', e = .returned v' ∧ PRow w' w.heap.size v' (Jn.others ps s.data.toList) ∧ Below w.heap.size w w' := by
  obtain ⟨ao, cap, rfl, hcs⟩ := h.shape
  have HC := hide hcs
  clear h hcs
  obtain ⟨i0, hi, hz0, hz1, hz2⟩ := info_parts Tryz.infoProc
  go_enter Tryz.func149, Tryz.ntmps149
  go_wp2
  go_loopw [5, 6] (fun v i wr => OtRel w ps s.data.toList v i wr) (fun _ i _ => ps.length - (intOf i).toNat)
  case atStart => exact ⟨0, Nat.zero_le _, rfl, World.ownsRow_nil _ _ _ _, Below.refl _ _⟩
  case round =>
    obtain ⟨k, hk, rfl, hown, hbel⟩ := hrel
    have HO := hide hown
    have HB := hide hbel
    have hln : (Jn.others (List.take k ps) s.data.toList).length ≤ k := Nat.le_trans (Jn.others_sub _ _) (by simp; omega)
    have hwz := hbel.size
    clear hown hbel
    by_cases hlk : k < ps.length
    · obtain ⟨g, cur, rfl, -, -, hcells⟩ := HC.out (by omega)
      obtain ⟨p, hp⟩ : ∃ p, ps[k]? = some p := ⟨ps[k], by simp [hlk]⟩
      obtain ⟨c1, c2⟩ := hcells k p hp
      have d1 := at_old HB.out c1
      have d2 := at_old HB.out c2
      have HK := hide (others_take ps s.data.toList k p hp)
      clear hcells c1 c2 hp
      obtain ⟨p1, p2⟩ := p
      simp only [T] at d1 d2
      obtain ⟨q1, hq1⟩ : ∃ q : ByteArray, q = ⟨p1.toArray⟩ := ⟨_, rfl⟩
      obtain ⟨q2, hq2⟩ : ∃ q : ByteArray, q = ⟨p2.toArray⟩ := ⟨_, rfl⟩
      rw [← hq1] at d1
      rw [← hq2] at d2
      have HQ1 := hide hq1
      have HQ2 := hide hq2
      clear hq1 hq2
      cases ht : (q1.toList == s.toList) with
      | true =>
        have HE : Hid (p1 = s.data.toList) := by
          show _ = _
          rw [ByteArray.toList_eq, ByteArray.toList_eq, HQ1.out] at ht
          simpa using ht
        go_wp2
        go_roundw
        case rel => exact ⟨k + 1, by omega, by go_num, by rw [HK.out, if_pos HE.out, List.append_nil]; exact HO.out, HB.out⟩
        case measure => simp [intOf]; omega
      | false =>
        have HE : Hid (p1 ≠ s.data.toList) := by
          show _ ≠ _
          rw [ByteArray.toList_eq, ByteArray.toList_eq, HQ1.out] at ht
          simpa using ht
        go_wp2_with (at_builtin; refine wpList_append_own _ rfl (.tmp 20) (.tmp 25) 54 rfl w.heap.size 89 i0 (.agg #[.string ⟨#[]⟩, .string ⟨#[]⟩]) 2 32 Tryz.underlying54 hi hz0 hz1 hz2 rfl (by decide) _ _ _ rfl (HO.out.alloc _) ⟨_, 0, none⟩ 1 1 [.string q1, .string q2] rfl rfl ?c1 ?c2 ?c3 ?c4 ?c5 ?_)
        try (case c1 => exact cell_two_new _ _ _ _)
        case c2 => first | exact ⟨rfl, rfl⟩ | (intro u hu; simp at hu; rcases hu with rfl | rfl <;> rfl)
        case c3 => unfold maxLen; omega
        case c4 => omega
        case c5 => first | omega | (simp; omega)
        intro v' w7 hown' hgrow _
        have HR : Hid (OtRel w ps s.data.toList v' (.int .i64 ((k : Int) + 1)) w7) := by
          refine ⟨k + 1, by omega, by go_num, ?_, grow_below HB.out (by omega) HO.out hgrow⟩
          rw [HK.out, if_neg HE.out]
          refine PRow.snoc ?_
          rw [HQ1.out, HQ2.out] at hown'
          exact hown'
        clear hown' hgrow
        go_wp2
        go_roundw
        case rel => exact HR.out
        case measure => simp [intOf]; omega
    · go_wp2
      go_ret
      have e := HO.out
      rw [List.take_of_length_le (by omega)] at e
      exact ⟨_, rfl, e, HB.out⟩
end Go.Proofs.YtellilpeakpbfabGreatDoor

end

section
/-
  What Run answers, in plain words; the walks of mayRun and Source.
-/
namespace Go.Proofs.YtellilpeakpbfabGreatDoor
open Go.RowKit

namespace Rn
def inb (a : Int) : Bool := decide (-1000000000 ≤ a) && decide (a ≤ 1000000000)
def may (args : List Int) (fuel : Int) : Bool := decide (args.length ≤ 4) && decide (0 ≤ fuel) && decide (fuel ≤ 10000) && args.all inb
def env (C : Jn.Con) (src : List UInt8) (args : List Int) (fuel : Int) : En := ⟨(Ck.toks src).map Ck.tokenP, args.getD 0 0, args.getD 1 0, args.getD 2 0, args.getD 3 0, fuel.toNat, C⟩
def start : St := ⟨0, 0, 0, 0, 0, [], 0, false, 0⟩
/-- the value, the units, the writes, the error. -/
def run (C : Jn.Con) (src : List UInt8) (args : List Int) (fuel : Int) : Int × Int × List (Int × Bool × Int) × Int :=
  if may args fuel = false then (0, 0, [], 6) else
  if (Ck.read src).2 ≠ 0 then (0, 0, [], (Ck.read src).2) else
  let r := stmts (env C src args fuel) (3 * fuel.toNat + 3) start
  if r.1 ≠ 0 then (0, r.2.used, [], r.1) else (r.2.result, r.2.used, r.2.writes, 0)

theorem slot_bd (t : List UInt8) (c : UInt8) (h : 0 ≤ Ck.slot t c) : Ck.slot t c ≤ 3 := by
  obtain ⟨b, rfl, h1, h2⟩ := (Ck.slot_iff t c).1 h
  unfold Ck.slot
  simp only
  rw [if_pos ⟨trivial, h1, h2⟩]
  omega
theorem token_bd (t : List UInt8) : (0 ≤ (Ck.tokenP t).1 ∧ (Ck.tokenP t).1 ≤ 19) ∧ 0 ≤ (Ck.tokenP t).2 ∧ (Ck.tokenP t).2 ≤ 999999 := by
  unfold Ck.tokenP
  split
  · simp only; omega
  · cases hn : Ck.numIn t with
    | some n =>
      unfold Ck.numIn at hn
      split at hn
      · rename_i hg
        cases hn
        have h1 := Ck.val_lt t hg.2.2
        have h2 : 10 ^ t.length ≤ 10 ^ 6 := Nat.pow_le_pow_right (by omega) hg.2.1
        simp only
        omega
      · cases hn
    | none =>
      simp only
      unfold Ck.named
      split
      · rename_i h; have := slot_bd t 97 h; simp only; omega
      · split
        · rename_i h; have := slot_bd t 118 h; simp only; omega
        · simp
theorem may_facts {args : List Int} {fuel : Int} (h : may args fuel = true) : args.length ≤ 4 ∧ 0 ≤ fuel ∧ fuel ≤ 10000 ∧ ∀ a ∈ args, -1000000000 ≤ a ∧ a ≤ 1000000000 := by
  unfold may at h
  simp only [Bool.and_eq_true, decide_eq_true_eq, List.all_eq_true] at h
  obtain ⟨⟨⟨h1, h2⟩, h3⟩, h4⟩ := h
  refine ⟨h1, h2, h3, fun a ha => ?_⟩
  have := h4 a ha
  unfold inb at this
  simpa using this
theorem getD_bd {args : List Int} (h : ∀ a ∈ args, -1000000000 ≤ a ∧ a ≤ 1000000000) (i : Nat) : -1000000000 ≤ args.getD i 0 ∧ args.getD i 0 ≤ 1000000000 := by
  rw [List.getD_eq_getElem?_getD]
  cases hg : args[i]? with
  | none => simp
  | some a => exact h a (List.mem_of_getElem? hg)
theorem arg_bd {args : List Int} (C : Jn.Con) (src : List UInt8) (fuel : Int) (h : ∀ a ∈ args, -1000000000 ≤ a ∧ a ≤ 1000000000) (k : Int) : -1000000000 ≤ arg (env C src args fuel) k ∧ arg (env C src args fuel) k ≤ 1000000000 := by
  unfold arg env
  simp only
  repeat' split
  all_goals first | exact getD_bd h _ | simp
theorem fit_start (C : Jn.Con) (src : List UInt8) (args : List Int) (fuel : Int) (hok : Jn.Ok C) (hr : (Ck.read src).2 = 0) (hf : 0 ≤ fuel ∧ fuel ≤ 10000) (ha : ∀ a ∈ args, -1000000000 ≤ a ∧ a ≤ 1000000000) : Fit (env C src args fuel) start := by
  refine ⟨?_, ?_, arg_bd C src fuel ha, hok, ?_, Nat.zero_le _, ?_, Nat.zero_le _, ?_, Nat.zero_le _⟩
  · intro t ht
    obtain ⟨x, -, rfl⟩ := List.mem_map.1 ht
    exact token_bd x
  · have h1 := (Ck.toks_len src).1
    have h2 := read_len src hr
    simp only [env, List.length_map]
    omega
  · simp only [env]; omega
  · intro k
    unfold var start
    simp only
    repeat' split
    all_goals simp
  · intro p hp; cases hp
end Rn

/-- a list that holds something lies below a border. -/
def InLow (v : Value) (l : List Int) (X : Nat) : Prop := 0 < l.length → ∀ g, v.ownBlock = some g → g < X
/-- a list of numbers, to be read. -/
def IntsAt (w : World) (v : Value) (l : List Int) : Prop := ∃ ao cap, v = .slice ao l.length cap ∧ (0 < l.length → ∃ g z, ao = some ⟨g, z, none⟩ ∧ ∀ i a, l[i]? = some a → w.cell? ⟨g, z + i, none⟩ = some (.int .i64 a))
theorem IntsAt.below {w w' : World} {v : Value} {l : List Int} (h : IntsAt w v l) (hb : Below w.heap.size w w') : IntsAt w' v l := by
  obtain ⟨ao, cap, hv, hc⟩ := h
  exact ⟨ao, cap, hv, fun hp => by obtain ⟨g, z, hg, hcs⟩ := hc hp; exact ⟨g, z, hg, fun i a ha => at_old hb (hcs i a ha)⟩⟩

def MrRel (l : List Int) (i : Value) : Prop := ∃ k : Nat, k ≤ l.length ∧ i = .int .i64 k ∧ (l.take k).all Rn.inb = true
theorem all_at (l : List Int) (k : Nat) (a : Int) (h : l[k]? = some a) : (l.take (k + 1)).all Rn.inb = ((l.take k).all Rn.inb && Rn.inb a) := by
  have hk : k < l.length := (List.getElem?_eq_some_iff.1 h).1
  rw [List.take_succ_eq_append_getElem hk, (List.getElem?_eq_some_iff.1 h).2]
  simp
theorem all_not (l : List Int) (k : Nat) (a : Int) (h : l[k]? = some a) (ha : Rn.inb a = false) : l.all Rn.inb = false := by
  rw [Bool.eq_false_iff]
  intro h1
  rw [List.all_eq_true] at h1
  have := h1 a (List.mem_of_getElem? h)
  rw [ha] at this; cases this

set_option maxHeartbeats 1000000 in
set_option maxRecDepth 100000 in
theorem mayRun_any (w : World) (v : Value) (l : List Int) (fuel : Int) (h : IntsAt w v l) :
    Calls Tryz.prog 65 #[v, .int .i64 fuel] w fun e w' => e = .returned (.bool (Rn.may l fuel)) ∧ w' = w := by
  obtain ⟨ao, cap, rfl, hcs⟩ := h
  by_cases h4 : l.length ≤ 4
  · have t1 : decide (4 < (l.length : Int)) = false := by simp; omega
    by_cases h0 : 0 ≤ fuel
    · have t2 : decide (fuel < 0) = false := decide_eq_false (by omega)
      by_cases hm : fuel ≤ 10000
      · have t3 : decide (10000 < fuel) = false := decide_eq_false (by omega)
        have HE : Hid (Rn.may l fuel = l.all Rn.inb) := by show _ = _; unfold Rn.may; simp [h4, h0, hm]
        have HC := hide hcs
        clear hcs
        go_enter Tryz.func65, Tryz.ntmps65
        go_wp2
        go_loop [5] (fun i => MrRel l i) (fun i => l.length - (intOf i).toNat)
        case atStart => exact ⟨0, Nat.zero_le _, rfl, by simp⟩
        case round =>
          obtain ⟨k, hk, rfl, hal⟩ := hrel
          have HA := hide hal
          clear hal
          by_cases hlt : k < l.length
          · obtain ⟨g, z, rfl, hcs⟩ := HC.out (by omega)
            obtain ⟨a, ha⟩ : ∃ a, l[k]? = some a := ⟨l[k], by simp [hlt]⟩
            have d1 := hcs k a ha
            have HAK := hide ha
            clear hcs ha
            by_cases hl : a < -1000000000
            · have HF : Hid (l.all Rn.inb = false) := all_not l k a HAK.out (by unfold Rn.inb; simp; omega)
              have t5 : decide (a < -1000000000) = true := decide_eq_true hl
              go_wp2
              go_ret
              exact ⟨ret_bool (by rw [HE.out, HF.out]), rfl⟩
            · have t5 : decide (a < -1000000000) = false := decide_eq_false hl
              by_cases hh : 1000000000 < a
              · have HF : Hid (l.all Rn.inb = false) := all_not l k a HAK.out (by unfold Rn.inb; simp; omega)
                have t6 : decide (1000000000 < a) = true := decide_eq_true hh
                go_wp2
                go_ret
                exact ⟨ret_bool (by rw [HE.out, HF.out]), rfl⟩
              · have t6 : decide (1000000000 < a) = false := decide_eq_false hh
                have HN : Hid ((l.take (k + 1)).all Rn.inb = true) := by
                  show _ = _
                  rw [all_at l k a HAK.out, HA.out]
                  unfold Rn.inb
                  simp; omega
                go_wp2
                go_round
                case rel => exact ⟨k + 1, by omega, by go_num, HN.out⟩
                case measure => simp [intOf]; omega
          · have HF : Hid (l.all Rn.inb = true) := by
              have := HA.out
              rw [List.take_of_length_le (by omega)] at this
              exact this
            go_wp2
            go_ret
            exact ⟨ret_bool (by rw [HE.out, HF.out]), rfl⟩
      · have t3 : decide (10000 < fuel) = true := decide_eq_true (by omega)
        have HE : Hid (Rn.may l fuel = false) := by show _ = _; unfold Rn.may; simp [hm]
        clear hcs
        go_enter Tryz.func65, Tryz.ntmps65
        go_wp2
        go_ret
        exact ⟨ret_bool (by rw [HE.out]), rfl⟩
    · have t2 : decide (fuel < 0) = true := decide_eq_true (by omega)
      have HE : Hid (Rn.may l fuel = false) := by show _ = _; unfold Rn.may; simp [h0]
      clear hcs
      go_enter Tryz.func65, Tryz.ntmps65
      go_wp2
      go_ret
      exact ⟨ret_bool (by rw [HE.out]), rfl⟩
  · have t1 : decide (4 < (l.length : Int)) = true := by simp; omega
    have HE : Hid (Rn.may l fuel = false) := by show _ = _; unfold Rn.may; simp [h4]
    clear hcs
    go_enter Tryz.func65, Tryz.ntmps65
    go_wp2
    go_ret
    exact ⟨ret_bool (by rw [HE.out]), rfl⟩

set_option maxHeartbeats 1000000 in
theorem source_any (L B : Nat) (C : Jn.Con) (n : ByteArray) (w : World) (h : ConAt L w B C) :
    Calls Tryz.prog 44 #[.pointer (some ⟨B, 0, none⟩), .string n] w fun e w' => e = .returned (.tuple #[T ((srcL C.procs n.data.toList).getD []), .int .i64 (if (srcL C.procs n.data.toList).isSome then 0 else 3)]) ∧ w' = w := by
  obtain ⟨v0, c200, -, hrow⟩ := con_procs h
  obtain ⟨ao, cap, rfl, hcs⟩ := hrow.shape
  have hcnt := h.ok.cnt
  have HC := hide hcs
  clear h hcs hrow
  generalize C.procs = l at *
  obtain ⟨sv, hsv⟩ : ∃ sv, sv = T ((srcL l n.data.toList).getD []) := ⟨_, rfl⟩
  obtain ⟨er, her⟩ : ∃ er : Int, er = (if (srcL l n.data.toList).isSome then 0 else 3) := ⟨_, rfl⟩
  rw [← hsv, ← her]
  have HSV := hide hsv
  have HER := hide her
  clear hsv her
  go_enter Tryz.func44, Tryz.ntmps44
  go_wp2
  go_loop [6] (fun i => PfRel l n.data.toList i) (fun i => l.length - (intOf i).toNat)
  case atStart => exact ⟨0, Nat.zero_le _, rfl, rfl⟩
  case round =>
    obtain ⟨j, hj, rfl, heq⟩ := hrel
    have HE := hide heq
    clear heq
    by_cases hlt : j < l.length
    · obtain ⟨g, cur, rfl, -, -, hcs⟩ := HC.out (by omega)
      obtain ⟨p, hp⟩ : ∃ p, l[j]? = some p := ⟨l[j], by simp [hlt]⟩
      obtain ⟨d1, d2⟩ := hcs j p hp
      have HD : Hid (l.drop j = p :: l.drop (j + 1)) := by
        show _ = _
        rw [List.drop_eq_getElem_cons hlt, (List.getElem?_eq_some_iff.1 hp).2]
      clear hcs hp
      obtain ⟨p1, p2⟩ := p
      simp only [T] at d1 d2
      obtain ⟨q1, hq1⟩ : ∃ q : ByteArray, q = ⟨p1.toArray⟩ := ⟨_, rfl⟩
      obtain ⟨q2, hq2⟩ : ∃ q : ByteArray, q = ⟨p2.toArray⟩ := ⟨_, rfl⟩
      rw [← hq1] at d1
      rw [← hq2] at d2
      have HQ1 := hide hq1
      have HQ2 := hide hq2
      clear hq1 hq2
      cases ht : (q1.toList == n.toList) with
      | true =>
        have HP : Hid (p1 = n.data.toList) := by
          show _ = _
          rw [ByteArray.toList_eq, ByteArray.toList_eq, HQ1.out] at ht
          simpa using ht
        have HR : Hid (srcL l n.data.toList = some p2) := by
          show _ = _
          rw [← HE.out, HD.out, srcL, if_pos HP.out]
        go_wp2
        go_ret2
        rw [HSV.out, HER.out, HR.out]
        refine ⟨?_, rfl⟩
        rw [HQ2.out]
        rfl
      | false =>
        have HP : Hid (p1 ≠ n.data.toList) := by
          show _ ≠ _
          rw [ByteArray.toList_eq, ByteArray.toList_eq, HQ1.out] at ht
          simpa using ht
        have HR : Hid (srcL (l.drop (j + 1)) n.data.toList = srcL l n.data.toList) := by
          show _ = _
          rw [← HE.out, HD.out, srcL, if_neg HP.out]
        go_wp2
        go_round
        case rel => exact ⟨j + 1, by omega, by go_num, HR.out⟩
        case measure => simp [intOf]; omega
    · have HR : Hid (srcL l n.data.toList = none) := by
        show _ = _
        rw [← HE.out, List.drop_eq_nil_of_le (by omega)]; rfl
      go_wp2
      go_ret2
      rw [HSV.out, HER.out, HR.out]
      exact ⟨rfl, rfl⟩
end Go.Proofs.YtellilpeakpbfabGreatDoor

end

section
/-
  Lists of numbers as they are read.
-/
namespace Go.Proofs.YtellilpeakpbfabGreatDoor.Scd
open Go.ChangeShapes Go.WideShapes Go.ChangeAt Go.RowKit

/-- a list of numbers as it was read: its numbers are of 64 bits, and one of some numbers weighs it. -/
structure ListOf (W : World) (ns : List Nat) (v : Value) (l : List Int) : Prop where
  ints : IntsAt W v l
  low : InLow v l W.heap.size
  nums : ∀ a ∈ l, -9223372036854775808 ≤ a ∧ a ≤ 9223372036854775807
  size : l = [] ∨ ∃ n ∈ ns, l.length * 8 ≤ n
theorem ListOf.mono {W : World} {ns ns' : List Nat} {v : Value} {l : List Int} (h : ListOf W ns v l) (hn : ∀ n ∈ ns, n ∈ ns') : ListOf W ns' v l :=
  ⟨h.ints, h.low, h.nums, h.size.imp id fun ⟨n, hm, hs⟩ => ⟨n, hn n hm, hs⟩⟩

section
variable {H : Type} {enc : TypeId × Value → H}

theorem weights_mem_all {P : Program} {e : TypeId} {d : DataW H} {n : Nat} (hn : n ∈ d.weights P e) : ∀ {l : List (DataW H)}, d ∈ l → n ∈ DataW.weightsAll P e l
  | [], h => by cases h
  | x :: r, h => by
    unfold DataW.weightsAll
    rcases List.mem_cons.1 h with rfl | h
    · exact List.mem_append_left _ hn
    · exact List.mem_append_right _ (weights_mem_all hn h)

theorem bytesInt : Tryz.prog.bytesOf 3 = 8 := by kernel_rfl

theorem list_of {W : World} {fuel : Nat} {v : Value} {x : DataW H × List MemPlace} (h : DataW.trod enc Tryz.prog W 0 (fun _ => true) true fuel 48 [v] = some x) :
    ∃ lo ln lc l, v = .slice lo ln lc ∧ ListOf W (x.1.weights Tryz.prog 48) v l := by
  rcases Deep.open_slice1 Tryz.underlying48 cInt h with ⟨e, -⟩ | ⟨a, len, cap, m, n, V, D, Pl, e, -, hl, -, hm, hx, hi⟩
  · simp at e
    subst e
    exact ⟨none, 0, 0, [], rfl, ⟨none, 0, rfl, fun h => (by simp at h)⟩, fun h => (by simp at h), fun a h => (by cases h), .inl rfl⟩
  · simp at e
    subst e
    have hlm : len ≤ m := by rw [hm]; simpa using hl
    have each : ∀ i, i < len → ∃ k : Int, W.cell? (a.add i) = some (.int .i64 k) ∧ -9223372036854775808 ≤ k ∧ k ≤ 9223372036854775807 := by
      intro i hil
      obtain ⟨h1, h2⟩ := hi i (by omega)
      obtain ⟨k, e, -, w2⟩ := DataW.trod_int Tryz.underlying3 h2
      simp only [List.cons.injEq, and_true] at e
      simp [Lit.wf] at w2
      exact ⟨k, by rw [h1, e], w2.1, w2.2⟩
    obtain ⟨q, hq⟩ := Deep.choose_lt each
    have hget : ∀ k o, ((List.range len).map q)[k]? = some o → k < len ∧ o = q k := by
      intro k o ho
      rw [List.getElem?_map] at ho
      by_cases hk : k < len
      · rw [List.getElem?_range hk] at ho
        simp at ho
        exact ⟨hk, ho.symm⟩
      · rw [List.getElem?_eq_none (by simp; omega)] at ho
        simp at ho
    have hcells : 0 < len → ∃ g z, a = ⟨g, z, none⟩ ∧ g < W.heap.size := by
      intro h0
      obtain ⟨g, z, sp⟩ := a
      have c0 := (hq 0 h0).1
      have hspot : sp = none := by simpa [Addr.add] using World.cell?_spot c0
      subst hspot
      exact ⟨g, z, rfl, World.block_lt_of_cell? W _ c0⟩
    refine ⟨some a, len, cap, (List.range len).map q, rfl, ⟨some a, cap, by simp, ?_⟩, ?_, ?_, ?_⟩
    · intro h0
      simp at h0
      obtain ⟨g, z, rfl, hg⟩ := hcells h0
      refine ⟨g, z, rfl, fun i o ho => ?_⟩
      obtain ⟨hk, rfl⟩ := hget i o ho
      rw [← (hq i hk).1]
      congr 1
      unfold Addr.add
      split <;> simp_all
    · intro h0 g hg
      simp at h0
      obtain ⟨g', z, rfl, hg'⟩ := hcells h0
      simp [Value.ownBlock] at hg
      omega
    · intro o ho
      obtain ⟨k, hk, rfl⟩ := List.mem_map.1 ho
      exact (hq k (List.mem_range.1 hk)).2
    · refine .inr ⟨(len + (m - len)) * 8, ?_, by simp; omega⟩
      rw [hx]
      simp [DataW.weights, Tryz.underlying48, bytesInt]

/-- numbers of 64 bits. -/
def B64 (k : Int) : Prop := -9223372036854775808 ≤ k ∧ k ≤ 9223372036854775807

end
end Go.Proofs.YtellilpeakpbfabGreatDoor.Scd

end

section
/-
  From the script as it is read: the lists of its steps, too.
-/
namespace Go.Proofs.YtellilpeakpbfabGreatDoor.Scd
open Go.ChangeShapes Go.WideShapes Go.ChangeAt Go.RowKit

section
variable {H : Type} {enc : TypeId × Value → H}

set_option maxRecDepth 100000 in
theorem op_of2 {W : World} {fuel : Nat} {cs : List Value} {x : DataW H × List MemPlace} (h : DataW.trod enc Tryz.prog W 0 (fun _ => true) true fuel 106 cs = some x) :
    ∃ o : OpD, cs = o.cells.toList ∧ B64 o.n ∧ B64 o.m ∧ B64 o.cut ∧ (∃ l, ListOf W (x.1.weights Tryz.prog 106) (.slice o.lo o.ln o.lc) l) ∧ ∃ l, ListOf W (x.1.weights Tryz.prog 106) (.slice o.wo o.wn o.wc) l := by
  obtain ⟨xs, n, _, hx, hl, hxl, hf⟩ := DataW.trod_struct Tryz.underlying106 h
  rw [cellsOp] at hl
  match cs, hl, xs, hxl with
  | [c0, c1, c2, c3, c4, c5, c6, c7], _, [y0, y1, y2, y3, y4, y5, y6, y7], _ =>
    have g0 := hf 0 _ rfl
    have g1 := hf 1 _ rfl
    have g2 := hf 2 _ rfl
    have g3 := hf 3 _ rfl
    have g4 := hf 4 _ rfl
    have g5 := hf 5 _ rfl
    have g6 := hf 6 _ rfl
    have g7 := hf 7 _ rfl
    simp [cInt, cStr, cInts] at g0 g1 g2 g3 g4 g5 g6 g7
    obtain ⟨k0, e0, -, -⟩ := DataW.trod_int Tryz.underlying3 g0
    obtain ⟨k1, e1, -, w1⟩ := DataW.trod_int Tryz.underlying3 g1
    obtain ⟨k2, e2, -, w2⟩ := DataW.trod_int Tryz.underlying3 g2
    obtain ⟨s, e3, -, -⟩ := DataW.trod_string Tryz.underlying9 g3
    obtain ⟨t, e4, -, -⟩ := DataW.trod_string Tryz.underlying9 g4
    obtain ⟨lo, ln, lc, l5, e5, hl5⟩ := list_of g5
    obtain ⟨k6, e6, -, w6⟩ := DataW.trod_int Tryz.underlying3 g6
    obtain ⟨wo, wn, wc, l7, e7, hl7⟩ := list_of g7
    simp only [List.cons.injEq, and_true] at e0 e1 e2 e3 e4 e6
    subst e0 e1 e2 e3 e4 e5 e6 e7
    have b (k : Int) (hw : (Lit.int .i64 k).wf = true) : B64 k := by simp [Lit.wf] at hw; exact ⟨hw.1, hw.2⟩
    have m5 : ∀ n ∈ y5.1.weights Tryz.prog 48, n ∈ x.1.weights Tryz.prog 106 := by
      intro n hn
      rw [hx]
      simp only [DataW.weights, Tryz.underlying106]
      exact DataW.weights_mem_each (j := 5) (t := 48) (d := y5.1) rfl rfl n hn
    have m7 : ∀ n ∈ y7.1.weights Tryz.prog 48, n ∈ x.1.weights Tryz.prog 106 := by
      intro n hn
      rw [hx]
      simp only [DataW.weights, Tryz.underlying106]
      exact DataW.weights_mem_each (j := 7) (t := 48) (d := y7.1) rfl rfl n hn
    exact ⟨⟨k0, k1, k2, s, t, lo, ln, lc, k6, wo, wn, wc⟩, rfl, b k1 w1, b k2 w2, b k6 w6, ⟨l5, hl5.mono m5⟩, ⟨l7, hl7.mono m7⟩⟩

/-- what a step of a script is, besides its cells. -/
def StepOf (W : World) (ns : List Nat) (o : OpD) : Prop := B64 o.n ∧ B64 o.m ∧ B64 o.cut ∧ (∃ l, ListOf W ns (.slice o.lo o.ln o.lc) l) ∧ ∃ l, ListOf W ns (.slice o.wo o.wn o.wc) l

/-- The script, opened. -/
theorem scr_of2 {W : World} {fuel : Nat} {v : Value} {x : DataW H × List MemPlace} (h : DataW.trod enc Tryz.prog W 0 (fun _ => true) true fuel 69 [v] = some x) :
    ∃ ao cap ops, v = .slice ao (List.length ops) cap ∧ (0 < ops.length → ∃ g z, ao = some ⟨g, z, none⟩ ∧ ScrAt W g z ops) ∧ (∀ o ∈ ops, StepOf W (x.1.weights Tryz.prog 69) o) ∧
      (ops = [] ∨ ∃ el sp, x.1 = .slice el sp ∧ el.length = ops.length) := by
  rcases Deep.open_slice Tryz.underlying69 h with ⟨e, -⟩ | ⟨a, len, cap, m, n, D, Pl, e, -, hl, -, hm, hx, hi⟩
  · exact ⟨none, 0, [], by simpa using e, by simp, by simp, .inl rfl⟩
  · have hlm : len ≤ m := by rw [hm]; simpa using hl
    rw [cellsOp] at hi
    have hin : ∀ i, i < len → ∀ k ∈ (D i).weights Tryz.prog 106, k ∈ x.1.weights Tryz.prog 69 := by
      intro i hil k hk
      rw [hx]
      simp only [DataW.weights, Tryz.underlying69]
      exact List.mem_cons_of_mem _ (List.mem_append_left _ (weights_mem_all hk (List.mem_map.2 ⟨i, List.mem_range.2 hil, rfl⟩)))
    have each : ∀ i, i < len → ∃ o : OpD, (∀ j u, o.cells[j]? = some u → W.cell? (a.add (i * 8 + j)) = some u) ∧ StepOf W (x.1.weights Tryz.prog 69) o := by
      intro i hil
      obtain ⟨cs', h1, h2⟩ := hi i (by omega)
      obtain ⟨_, hlen, hcell⟩ := World.cells?_some h1
      obtain ⟨o, rfl, b1, b2, b3, ⟨l5, h5⟩, ⟨l7, h7⟩⟩ := op_of2 h2
      refine ⟨o, fun j u hu => ?_, b1, b2, b3, ⟨l5, h5.mono (hin i hil)⟩, ⟨l7, h7.mono (hin i hil)⟩⟩
      have hj : j < 8 := by have := (Array.getElem?_eq_some_iff.1 hu).1; simpa [OpD.cells] using this
      have := hcell j hj
      rw [Deep.add_add] at this
      rw [this]
      simpa using hu
    have : Inhabited OpD := ⟨⟨0, 0, 0, ⟨#[]⟩, ⟨#[]⟩, none, 0, 0, 0, none, 0, 0⟩⟩
    obtain ⟨q, hq⟩ := Deep.choose_lt each
    have hops : ∀ k o, ((List.range len).map q)[k]? = some o → k < len ∧ o = q k := by
      intro k o ho
      rw [List.getElem?_map] at ho
      by_cases hk : k < len
      · rw [List.getElem?_range hk] at ho
        simp at ho
        exact ⟨hk, ho.symm⟩
      · rw [List.getElem?_eq_none (by simp; omega)] at ho
        simp at ho
    refine ⟨some a, cap, (List.range len).map q, by simpa using e, ?_, ?_, .inr ⟨_, _, by rw [hx], by simp⟩⟩
    · intro h0
      simp at h0
      obtain ⟨g, z, sp⟩ := a
      have c0 := (hq 0 h0).1 0 _ rfl
      have hspot : sp = none := by simpa [Addr.add] using World.cell?_spot c0
      subst hspot
      refine ⟨g, z, rfl, World.block_lt_of_cell? W _ c0, ?_⟩
      intro k o ho j u hu
      obtain ⟨hk, rfl⟩ := hops k o ho
      have := (hq k hk).1 j u hu
      rw [← this]
      congr 1
      unfold Addr.add
      split <;> simp_all [Nat.add_assoc]
    · intro o ho
      obtain ⟨k, hk, rfl⟩ := List.mem_map.1 ho
      exact (hq k (List.mem_range.1 hk)).2
end
end Go.Proofs.YtellilpeakpbfabGreatDoor.Scd

end
