import Derived.Test.YtellilpeakpbfaaDoorCont
import Derived.Laws.IdiomStrings
import Derived.BigQuiet
/-
  The walks of package contents: isName, copied, others, Procs, Cells.
-/
namespace Go.Proofs.YtellilpeakpbfaaDoor
open Go.RowKit

theorem ltB_less (a b : List UInt8) : Jn.ltB a b = Op.bytesLess a b := by
  induction a generalizing b with
  | nil => cases b <;> rfl
  | cons c x ih =>
    cases b with
    | nil => rfl
    | cons d y =>
      unfold Jn.ltB Op.bytesLess
      by_cases h : c = d
      · subst h
        rw [if_pos rfl, ih y]
        simp
      · rw [if_neg h]
        have h1 : (c == d) = false := by simpa using h
        rw [h1]
        simp [UInt8.lt_iff_toNat_lt]

theorem all_take (p : UInt8 → Bool) (s : ByteArray) (k : Nat) (hlt : k < s.size) (h : p s[k] = false) : s.data.toList.all p = false := by
  have h1 : s[k] ∈ s.data.toList := by rw [← List.take_append_drop (k + 1) s.data.toList, take_snoc s k hlt]; simp
  rw [Bool.eq_false_iff]
  intro ha
  rw [List.all_eq_true] at ha
  rw [ha _ h1] at h; cases h

set_option maxHeartbeats 400000 in
theorem isName_any (s : ByteArray) (w : World) :
    Calls Tryd.prog 71 #[.string s] w fun e w' => e = .returned (.bool (Jn.isName s.data.toList)) ∧ w' = w := by
  have hl : s.data.toList.length = s.size := by simp
  by_cases h0 : 1 ≤ s.size ∧ s.size ≤ 8
  · obtain ⟨h1, h2⟩ := h0
    have HN : Hid (Jn.isName s.data.toList = s.data.toList.all (fun c => decide (97 ≤ c.toNat) && decide (c.toNat ≤ 122))) := by
      show _ = _
      unfold Jn.isName
      rw [hl]
      simp [h1, h2]
    have t1 : (((s.size : Int)) == 0) = false := beq_eq_false_iff_ne.2 (by omega)
    have t2 : decide (8 < (s.size : Int)) = false := by simp; omega
    clear hl
    go_enter Tryd.func71, Tryd.ntmps71
    go_wp2
    go_loop [3] (fun i => ∃ k : Nat, k ≤ s.size ∧ i = .int .i64 k ∧ (∀ c ∈ s.data.toList.take k, (decide (97 ≤ c.toNat) && decide (c.toNat ≤ 122)) = true)) (fun i => s.size - (intOf i).toNat)
    case atStart => exact ⟨0, Nat.zero_le _, rfl, by simp⟩
    case round =>
      obtain ⟨k, hk, rfl, hd⟩ := hrel
      have HD := hide hd
      clear hd
      by_cases hlt : k < s.size
      · have hc : (0 : Int) ≤ s[k].toNat ∧ (s[k].toNat : Int) ≤ 255 := by have := s[k].toNat_lt; omega
        obtain ⟨hc0, hc1⟩ := hc
        by_cases hg : 97 ≤ (s[k].toNat : Int) ∧ (s[k].toNat : Int) ≤ 122
        · obtain ⟨g1, g2⟩ := hg
          have HS := hide (take_snoc s k hlt)
          have HI : Hid ((decide (97 ≤ s[k].toNat) && decide (s[k].toNat ≤ 122)) = true) := by show _ = _; simp; omega
          go_wp2
          go_round
          case rel =>
            refine ⟨k + 1, by omega, by go_num, ?_⟩
            rw [HS.out]
            intro c hc
            rcases List.mem_append.1 hc with h | h
            · exact HD.out c h
            · simp at h; rw [h]; exact HI.out
          case measure => simp [intOf]; omega
        · have HF : Hid (Jn.isName s.data.toList = false) := by
            show _ = _
            rw [HN.out]
            exact all_take _ s k hlt (by simp; omega)
          go_wp2
          all_goals go_ret
          all_goals exact ⟨ret_bool HF.out.symm, rfl⟩
      · have HT := hide (take_all s k hlt)
        go_wp2
        go_ret
        refine ⟨ret_bool ?_, rfl⟩
        rw [HN.out, eq_comm, List.all_eq_true]
        have hd := HD.out
        rw [HT.out] at hd
        exact hd
  · have HF : Hid (Jn.isName s.data.toList = false) := by
      show _ = _
      unfold Jn.isName
      rw [hl, Bool.eq_false_iff]
      intro h
      simp at h; omega
    clear hl
    by_cases hz : s.size = 0
    · have t1 : (((s.size : Int)) == 0) = true := beq_iff_eq.2 (by omega)
      go_enter Tryd.func71, Tryd.ntmps71
      go_wp2
      all_goals go_ret
      all_goals exact ⟨ret_bool HF.out.symm, rfl⟩
    · have t1 : (((s.size : Int)) == 0) = false := beq_eq_false_iff_ne.2 (by omega)
      have t2 : decide (8 < (s.size : Int)) = true := by simp; omega
      go_enter Tryd.func71, Tryd.ntmps71
      go_wp2
      all_goals go_ret
      all_goals exact ⟨ret_bool HF.out.symm, rfl⟩

theorem con_procs {L : Nat} {w : World} {B : Nat} {C : Jn.Con} (h : ConAt L w B C) :
    ∃ v, w.cell? ⟨B, 200, none⟩ = some v ∧ w.frozen? ⟨B, 200, none⟩ = false ∧ PRow w 0 v C.procs := by
  obtain ⟨cur, v, hh, hs, hc, hv, hp⟩ := h.mem
  exact ⟨v, (cell_of_row w B _ cur _ _ hh).trans hv, frozen_of_row w B _ cur _ hh, hp⟩
theorem grow_below {w wr w7 : World} {N n size : Nat} {e : TypeId} {v : Value} {xs : List Value} {o : Obj} (hb : Below N w wr) (hN : N ≤ wr.heap.size) (hown : wr.ownsRow N e size v n xs) (hg : (wr.alloc o).grownBy w7 v.ownBlock) : Below N w w7 :=
  (hb.alloc hN o).grown hg (by simp; omega) (fun j hj => (hown.lt j hj).1)
theorem others_take (ps : List (List UInt8 × List UInt8)) (n : List UInt8) (k : Nat) (p : List UInt8 × List UInt8) (h : ps[k]? = some p) : Jn.others (ps.take (k + 1)) n = Jn.others (ps.take k) n ++ (if p.1 = n then [] else [p]) := by
  have hk : k < ps.length := (List.getElem?_eq_some_iff.1 h).1
  have e : ps[k] = p := (List.getElem?_eq_some_iff.1 h).2
  unfold Jn.others
  rw [List.take_succ_eq_append_getElem hk, List.filter_append, e]
  congr 1
  by_cases hp : p.1 = n
  · simp [hp]
  · simp [hp]

def OtRel (w : World) (ps : List (List UInt8 × List UInt8)) (n : List UInt8) (v i : Value) (wr : World) : Prop :=
  ∃ k : Nat, k ≤ ps.length ∧ i = .int .i64 k ∧ PRow wr w.heap.size v (Jn.others (ps.take k) n) ∧ Below w.heap.size w wr
def PrRel (w : World) (ps : List (List UInt8 × List UInt8)) (v i : Value) (wr : World) : Prop :=
  ∃ k : Nat, k ≤ ps.length ∧ i = .int .i64 k ∧ PRow wr w.heap.size v (ps.take k) ∧ Below w.heap.size w wr

set_option maxHeartbeats 1000000 in
set_option maxRecDepth 100000 in
theorem others_any (L B : Nat) (C : Jn.Con) (s : ByteArray) (w : World) (h : ConAt L w B C) :
    Calls Tryd.prog 65 #[.pointer (some ⟨B, 0, none⟩), .string s] w fun e w' => ∃ v, e = .returned v ∧ PRow w' w.heap.size v (Jn.others C.procs s.data.toList) ∧ Below w.heap.size w w' := by
  obtain ⟨v0, hc200, hf200, hrow⟩ := con_procs h
  obtain ⟨ao, cap, rfl, hcells⟩ := hrow.shape
  have hcnt := h.ok.cnt
  have hlt := h.lt
  have HRW := hide hcells
  clear hrow hcells h
  generalize C.procs = ps at *
  obtain ⟨i0, hi, hz0, hz1, hz2⟩ := info_parts Tryd.infoProc
  go_enter Tryd.func65, Tryd.ntmps65
  go_wp2
  go_loopw [5, 6] (fun v i wr => OtRel w ps s.data.toList v i wr) (fun _ i _ => ps.length - (intOf i).toNat)
  case atStart => exact ⟨0, Nat.zero_le _, rfl, World.ownsRow_nil _ _ _ _, Below.refl _ _⟩
  case round =>
    obtain ⟨k, hk, rfl, hown, hbel⟩ := hrel
    have c200 : wr.cell? ⟨B, 200, none⟩ = some (.slice ao ps.length cap) := (hbel.cell (p := ⟨B, 200, none⟩) hlt).trans hc200
    have HO := hide hown
    have HB := hide hbel
    have hln : (Jn.others (List.take k ps) s.data.toList).length ≤ k := Nat.le_trans (Jn.others_sub _ _) (by simp; omega)
    have hwz := hbel.size
    clear hown hbel hc200 hf200
    by_cases hlk : k < ps.length
    · obtain ⟨g, cur, rfl, hg0, hg, hcells⟩ := HRW.out (by omega)
      obtain ⟨p, hp⟩ : ∃ p, ps[k]? = some p := ⟨ps[k], by simp [hlk]⟩
      obtain ⟨c1, c2⟩ := hcells k p hp
      have hgl : g < w.heap.size := (Array.getElem?_eq_some_iff.1 hg).1
      have d1 : wr.cell? ⟨g, k * 2, none⟩ = some (T p.1) := (HB.out.cell (p := ⟨g, k * 2, none⟩) hgl).trans c1
      have d2 : wr.cell? ⟨g, k * 2 + 1, none⟩ = some (T p.2) := (HB.out.cell (p := ⟨g, k * 2 + 1, none⟩) hgl).trans c2
      have HK := hide (others_take ps s.data.toList k p hp)
      clear hcells c1 c2 hp hg hg0
      obtain ⟨p1, p2⟩ := p
      simp only [T] at d1 d2
      obtain ⟨q1, hq1⟩ : ∃ q : ByteArray, q = ⟨p1.toArray⟩ := ⟨_, rfl⟩
      obtain ⟨q2, hq2⟩ : ∃ q : ByteArray, q = ⟨p2.toArray⟩ := ⟨_, rfl⟩
      rw [← hq1] at d1
      rw [← hq2] at d2
      have HQ1 := hide hq1
      have HQ2 := hide hq2
      clear hq1 hq2
      cases ht : (q1.toList == s.toList) with
      | true =>
        have HE : Hid (p1 = s.data.toList) := by
          show _ = _
          rw [ByteArray.toList_eq, ByteArray.toList_eq, HQ1.out] at ht
          simpa using ht
        go_wp2
        go_roundw
        case rel => exact ⟨k + 1, by omega, by go_num, by rw [HK.out, if_pos HE.out, List.append_nil]; exact HO.out, HB.out⟩
        case measure => simp [intOf]; omega
      | false =>
        have HE : Hid (p1 ≠ s.data.toList) := by
          show _ ≠ _
          rw [ByteArray.toList_eq, ByteArray.toList_eq, HQ1.out] at ht
          simpa using ht
        go_wp2_with (at_builtin; refine wpList_append_own _ rfl (.tmp 26) (.tmp 34) 82 rfl w.heap.size 99 i0 (.agg #[.string ⟨#[]⟩, .string ⟨#[]⟩]) 2 32 Tryd.underlying82 hi hz0 hz1 hz2 rfl (by decide) _ _ _ rfl (HO.out.alloc _) ⟨_, 0, none⟩ 1 1 [.string q1, .string q2] rfl rfl ?c1 ?c2 ?c3 ?c4 ?c5 ?_)
        try (case c1 => exact cell_two_new _ _ _ _)
        case c2 => first | exact ⟨rfl, rfl⟩ | (intro u hu; simp at hu; rcases hu with rfl | rfl <;> rfl)
        case c3 => unfold maxLen; omega
        case c4 => omega
        case c5 => first | omega | (simp; omega)
        intro v' w7 hown' hgrow _
        have HR : Hid (OtRel w ps s.data.toList v' (.int .i64 ((k : Int) + 1)) w7) := by
          refine ⟨k + 1, by omega, by go_num, ?_, grow_below HB.out (by omega) HO.out hgrow⟩
          rw [HK.out, if_neg HE.out]
          refine PRow.snoc ?_
          rw [HQ1.out, HQ2.out] at hown'
          exact hown'
        clear hown' hgrow
        go_wp2
        go_roundw
        case rel => exact HR.out
        case measure => simp [intOf]; omega
    · go_wp2
      go_ret
      have e := HO.out
      rw [List.take_of_length_le (by omega)] at e
      exact ⟨_, rfl, e, HB.out⟩

set_option maxHeartbeats 1000000 in
set_option maxRecDepth 100000 in
theorem procsC_any (L B : Nat) (C : Jn.Con) (w : World) (h : ConAt L w B C) :
    Calls Tryd.prog 45 #[.pointer (some ⟨B, 0, none⟩)] w fun e w' => ∃ v, e = .returned v ∧ PRow w' w.heap.size v C.procs ∧ Below w.heap.size w w' := by
  obtain ⟨v0, hc200, hf200, hrow⟩ := con_procs h
  obtain ⟨ao, cap, rfl, hcells⟩ := hrow.shape
  have hcnt := h.ok.cnt
  have hlt := h.lt
  have HRW := hide hcells
  clear hrow hcells h
  generalize C.procs = ps at *
  obtain ⟨i0, hi, hz0, hz1, hz2⟩ := info_parts Tryd.infoProc
  go_enter Tryd.func45, Tryd.ntmps45
  go_wp2
  go_loopw [3, 4] (fun v i wr => PrRel w ps v i wr) (fun _ i _ => ps.length - (intOf i).toNat)
  case atStart => exact ⟨0, Nat.zero_le _, rfl, World.ownsRow_nil _ _ _ _, Below.refl _ _⟩
  case round =>
    obtain ⟨k, hk, rfl, hown, hbel⟩ := hrel
    have c200 : wr.cell? ⟨B, 200, none⟩ = some (.slice ao ps.length cap) := (hbel.cell (p := ⟨B, 200, none⟩) hlt).trans hc200
    have HO := hide hown
    have HB := hide hbel
    have hln : (List.take k ps).length = k := by simp; omega
    have hwz := hbel.size
    clear hown hbel hc200 hf200
    by_cases hlk : k < ps.length
    · obtain ⟨g, cur, rfl, hg0, hg, hcells⟩ := HRW.out (by omega)
      obtain ⟨p, hp⟩ : ∃ p, ps[k]? = some p := ⟨ps[k], by simp [hlk]⟩
      obtain ⟨c1, c2⟩ := hcells k p hp
      have hgl : g < w.heap.size := (Array.getElem?_eq_some_iff.1 hg).1
      have d1 : wr.cell? ⟨g, k * 2, none⟩ = some (T p.1) := (HB.out.cell (p := ⟨g, k * 2, none⟩) hgl).trans c1
      have d2 : wr.cell? ⟨g, k * 2 + 1, none⟩ = some (T p.2) := (HB.out.cell (p := ⟨g, k * 2 + 1, none⟩) hgl).trans c2
      have HK : Hid (ps.take (k + 1) = ps.take k ++ [p]) := by
        show _ = _
        rw [List.take_succ_eq_append_getElem hlk]
        congr 2
        exact (List.getElem?_eq_some_iff.1 hp).2
      clear hcells c1 c2 hp hg hg0
      obtain ⟨p1, p2⟩ := p
      simp only [T] at d1 d2
      obtain ⟨q1, hq1⟩ : ∃ q : ByteArray, q = ⟨p1.toArray⟩ := ⟨_, rfl⟩
      obtain ⟨q2, hq2⟩ : ∃ q : ByteArray, q = ⟨p2.toArray⟩ := ⟨_, rfl⟩
      rw [← hq1] at d1
      rw [← hq2] at d2
      have HQ1 := hide hq1
      have HQ2 := hide hq2
      clear hq1 hq2
      go_wp2_with (at_builtin; refine wpList_append_own _ rfl (.tmp 14) (.tmp 22) 82 rfl w.heap.size 99 i0 (.agg #[.string ⟨#[]⟩, .string ⟨#[]⟩]) 2 32 Tryd.underlying82 hi hz0 hz1 hz2 rfl (by decide) _ _ _ rfl (HO.out.alloc _) ⟨_, 0, none⟩ 1 1 [.string q1, .string q2] rfl rfl ?c1 ?c2 ?c3 ?c4 ?c5 ?_)
      case c1 => exact cell_two_new _ _ _ _
      case c2 => first | exact ⟨rfl, rfl⟩ | (intro u hu; simp at hu; rcases hu with rfl | rfl <;> rfl)
      case c3 => unfold maxLen; omega
      case c4 => omega
      case c5 => first | omega | (simp; omega)
      intro v' w7 hown' hgrow _
      have HR : Hid (PrRel w ps v' (.int .i64 ((k : Int) + 1)) w7) := by
        refine ⟨k + 1, by omega, by go_num, ?_, grow_below HB.out (by omega) HO.out hgrow⟩
        rw [HK.out]
        refine PRow.snoc ?_
        rw [HQ1.out, HQ2.out, ← List.map_take] at hown'
        rw [hln]
        exact hown'
      clear hown' hgrow
      go_wp2
      go_roundw
      case rel => exact HR.out
      case measure => simp [intOf]; omega
    · go_wp2
      go_ret
      have e := HO.out
      rw [List.take_of_length_le (by omega)] at e
      exact ⟨_, rfl, e, HB.out⟩
end Go.Proofs.YtellilpeakpbfaaDoor
