import Derived.Test.YtellilpeakpbfaaDoorDec
import Derived.Test.YtellilpeakpbfaaDoorRefCk
/-
  The walk of the document's Show.
-/
namespace Go.Proofs.YtellilpeakpbfaaDoor
open Go.RowKit

def ShRel (w : World) (ts : List (List UInt8)) (x i : Value) (wr : World) : Prop :=
  ∃ (k : Nat) (u : ByteArray), k ≤ ts.length ∧ i = .int .i64 k ∧ x = .string u ∧ u.data.toList = Ck.lineK ts k ∧ Below w.heap.size w wr

set_option maxHeartbeats 1000000 in
set_option maxRecDepth 100000 in
theorem refShow_ok (s : ByteArray) (w : World) (hs : s.size ≤ 400) (hok : (Ck.refCheck s.data.toList).2 = 0) :
    Calls Tryd.prog 15 #[.string s] w fun e w' => e = .returned (.tuple #[T (Ck.lineK (Ck.toks s.data.toList) (Ck.toks s.data.toList).length), .int .i64 0]) ∧ Below w.heap.size w w' := by
  have hl : s.data.toList.length = s.size := by simp
  have hc := refCheck_any s
  rw [hok] at hc
  generalize (Ck.refCheck s.data.toList).1 = p1 at *
  have htk := Ck.toks_len s.data.toList
  have ht := tokens_any s
  generalize Ck.toks s.data.toList = ts at *
  have HC := hide hc
  have HT := hide ht
  obtain ⟨hn1, hn2, hn3⟩ := htk
  rw [hl] at hn1 hn3
  have HL : Hid (∀ t ∈ ts, t.length ≤ 400) := fun t ht => Nat.le_trans (hn3 t ht) hs
  have HNE := hide hn2
  clear hc ht hl hn2 hn3 hok
  go_enter Tryd.func15, Tryd.ntmps15
  go_wp2_with fail
  refine (HC.out _).mono ?_
  rintro e w0 ⟨rfl, hb⟩
  have HB0 := hide hb
  clear hb
  go_wp2_with fail
  refine (HT.out _ hs).mono ?_
  rintro e w1 ⟨v, rfl, hown, hbel⟩
  obtain ⟨ao, cap, rfl, hrow⟩ := row_shape hown
  have HB : Hid (Below w.heap.size w w1) := HB0.out.trans (hbel.mono HB0.out.size)
  have HRW := hide hrow
  clear hown hbel hrow HT HC HB0
  go_wp2
  go_loopw [7, 8] (fun x i wr => ShRel w1 ts x i wr) (fun _ i _ => ts.length - (intOf i).toNat)
  case atStart => exact ⟨0, ⟨#[]⟩, Nat.zero_le _, rfl, rfl, rfl, Below.refl _ _⟩
  case round =>
    obtain ⟨k, u, hkn, rfl, rfl, hline, hbel⟩ := hrel
    have hus : u.size ≤ 401 * k := by
      have h1 := Ck.lineK_len ts HL.out k
      have h2 : u.data.toList.length = u.size := by simp
      rw [hline] at h2; omega
    have HLN := hide hline
    have HBR := hide hbel
    clear hline hbel
    by_cases hlt : k < ts.length
    · obtain ⟨g, rfl, _, hg2, hcells⟩ := HRW.out (by omega)
      obtain ⟨t, hte⟩ : ∃ t, t = ts.getD k [] := ⟨_, rfl⟩
      have htm : t ∈ ts := by rw [hte]; simp [List.getD, hlt]
      have htl := HL.out t htm
      have hstep : Ck.lineK ts (k + 1) = Ck.lineK ts k ++ ((if 0 < k then [32] else []) ++ Ck.showTok t) := by rw [hte]; rfl
      obtain ⟨tt, htt⟩ : ∃ tt : ByteArray, tt = ⟨t.toArray⟩ := ⟨_, rfl⟩
      have hck : wr.cell? ⟨g, k, none⟩ = some (.string tt) := by rw [htt, hte]; exact (HBR.out.cell (p := ⟨g, k, none⟩) hg2).trans (hcells k hlt)
      have hts : tt.size ≤ 400 := by rw [htt]; exact htl
      have hne := HNE.out t htm
      have hnum : ∀ w, Calls Tryd.prog 26 #[.string tt] w fun e w' => e = .returned (.int .i64 (Ck.numberR t)) ∧ w' = w := by
        intro w
        have h := number_any tt w hts
        rw [htt] at h ⊢
        exact h
      have HTT := hide htt
      have HST := hide hstep
      clear hcells hte htm htt hstep
      cases hn : Ck.numIn t with
      | none =>
        have e : Ck.numberR t = -1 := by rw [Ck.numR_iff t hne, hn]
        rw [e] at hnum
        clear e
        have hq : Ck.showTok t = t := by rw [Ck.showTok, hn]
        rw [hq] at HST
        have HN := hide hnum
        clear hnum hq hn
        by_cases h0 : 0 < k
        · go_wp2_with (go_at_call 26; refine (HN.out _).mono ?_; rintro e w' ⟨rfl, rfl⟩)
          go_roundw
          case rel =>
            refine ⟨k + 1, u ++ (⟨#[32]⟩ ++ tt), by omega, by go_num, rfl, ?_, HBR.out⟩
            rw [HST.out, if_pos h0, ← HLN.out, HTT.out]
            simp
          case measure => simp [intOf]; omega
        · go_wp2_with (go_at_call 26; refine (HN.out _).mono ?_; rintro e w' ⟨rfl, rfl⟩)
          go_roundw
          case rel =>
            refine ⟨k + 1, u ++ tt, by omega, by go_num, rfl, ?_, HBR.out⟩
            rw [HST.out, if_neg h0, ← HLN.out, HTT.out]
            simp
          case measure => simp [intOf]; omega
      | some n =>
        have e : Ck.numberR t = (n : Int) := by rw [Ck.numR_iff t hne, hn]
        rw [e] at hnum
        clear e
        have hn6 := Ck.numIn_lt t n hn
        have hq : Ck.showTok t = Lib.decDigits n := by rw [Ck.showTok, hn]
        rw [hq] at HST
        have hdl := Ck.dec_len n hn6
        have hdec := decimal_any n
        generalize Lib.decDigits n = q at *
        obtain ⟨Q, hQ⟩ : ∃ Q : ByteArray, Q = ⟨q.toArray⟩ := ⟨_, rfl⟩
        have hQs : Q.size ≤ 6 := by rw [hQ]; exact hdl
        have hdec' : ∀ w, Calls Tryd.prog 27 #[.int .i64 (n : Int)] w fun e w' => e = .returned (.string Q) ∧ Below w.heap.size w w' := by rw [hQ]; exact fun w => hdec w hn6
        have HDC := hide hdec'
        have HQ := hide hQ
        have HN := hide hnum
        clear hnum hq hn hdec hdec' hQ hdl
        by_cases h0 : 0 < k
        · go_wp2_with (first
            | (go_at_call 26; refine (HN.out _).mono ?_; rintro e w' ⟨rfl, rfl⟩)
            | (go_at_call 27; refine (HDC.out _).mono ?_; rintro e w2 ⟨rfl, hb2⟩))
          go_roundw
          case rel =>
            refine ⟨k + 1, u ++ (⟨#[32]⟩ ++ Q), by omega, by go_num, rfl, ?_, HBR.out.trans (hb2.mono HBR.out.size)⟩
            rw [HST.out, if_pos h0, ← HLN.out, HQ.out]
            simp
          case measure => simp [intOf]; omega
        · go_wp2_with (first
            | (go_at_call 26; refine (HN.out _).mono ?_; rintro e w' ⟨rfl, rfl⟩)
            | (go_at_call 27; refine (HDC.out _).mono ?_; rintro e w2 ⟨rfl, hb2⟩))
          go_roundw
          case rel =>
            refine ⟨k + 1, u ++ Q, by omega, by go_num, rfl, ?_, HBR.out.trans (hb2.mono HBR.out.size)⟩
            rw [HST.out, if_neg h0, ← HLN.out, HQ.out]
            simp
          case measure => simp [intOf]; omega
    · go_wp2
      go_ret2
      refine ⟨?_, HB.out.trans (HBR.out.mono HB.out.size)⟩
      show Ending.returned (.tuple #[.string u, .int .i64 0]) = _
      rw [show ts.length = k by omega, ← HLN.out]; rfl

set_option maxHeartbeats 400000 in
theorem refShow_no (s : ByteArray) (w : World) (hok : (Ck.refCheck s.data.toList).2 ≠ 0) :
    Calls Tryd.prog 15 #[.string s] w fun e w' => e = .returned (.tuple #[T [], .int .i64 (Ck.refCheck s.data.toList).2]) ∧ Below w.heap.size w w' := by
  have hc := refCheck_any s
  generalize Ck.refCheck s.data.toList = p at *
  obtain ⟨p1, p2⟩ := p
  have g : (p2 != 0) = true := by simpa using hok
  have HC := hide hc
  clear hc hok
  go_enter Tryd.func15, Tryd.ntmps15
  go_wp2_with fail
  refine (HC.out _).mono ?_
  rintro e w0 ⟨rfl, hb⟩
  have HB0 := hide hb
  clear hb
  go_wp2
  go_ret2
  exact ⟨rfl, HB0.out⟩
theorem refShow_any (s : ByteArray) (w : World) :
    Calls Tryd.prog 15 #[.string s] w fun e w' => e = .returned (.tuple #[T (Ck.showP s.data.toList).1, .int .i64 (Ck.showP s.data.toList).2]) ∧ Below w.heap.size w w' := by
  by_cases h : (Ck.refCheck s.data.toList).2 = 0
  · have hs : s.size ≤ 400 := by
      rcases Nat.lt_or_ge 400 s.size with g | g
      · have hl : s.data.toList.length = s.size := by simp
        rw [Ck.refCheck, if_pos (by omega)] at h
        simp at h
      · exact g
    rw [Ck.showP, if_pos h]
    exact refShow_ok s w hs h
  · rw [Ck.showP, if_neg h]
    exact refShow_no s w h
end Go.Proofs.YtellilpeakpbfaaDoor
