import Derived.Test.YtellilpeakpbfaaDoorWrite
import Derived.Test.YtellilpeakpbfaaDoorShowR
import Derived.Test.YtellilpeakpbfaaDoorLaw
/-
  The walks of Show, shown and the law Shows.
-/
namespace Go.Proofs.YtellilpeakpbfaaDoor
open Go.RowKit

set_option maxHeartbeats 400000 in
theorem show_ok (s : ByteArray) (w : World) (hok : (Ck.read s.data.toList).2 = 0) (hs : s.size ≤ 400) (hW : WordsAt w) (hP : PowAt w) :
    Calls Tryd.prog 8 #[.string s] w fun e w' => e = .returned (.tuple #[T (Ck.lineK (Ck.toks s.data.toList) (Ck.toks s.data.toList).length), .int .i64 0]) ∧ Below w.heap.size w w' := by
  have hl : s.data.toList.length = s.size := by simp
  have hr := read_any s w hW
  have hkn : ∀ t ∈ Ck.toks s.data.toList, (Ck.tokenP t).1 ≠ 0 := by
    rw [Ck.read, if_neg (by omega)] at hok
    exact Ck.known _ 0 [1] hok
  have htk := Ck.toks_len s.data.toList
  rw [hok] at hr
  generalize (Ck.read s.data.toList).1 = p1 at *
  generalize Ck.toks s.data.toList = ts at *
  obtain ⟨hn1, hn2, hn3⟩ := htk
  rw [hl] at hn1 hn3
  have hw : ∀ (v : Value) (w1 : World), w1.ownsRow w.heap.size 55 2 v ts.length (cellsOf ts) → Below w.heap.size w w1 →
      Calls Tryd.prog 14 #[v] w1 fun e w' => e = .returned (T (Ck.lineK ts ts.length)) ∧ Below w1.heap.size w1 w' := by
    intro v w1 ho hb
    exact write_any ts v w1 w.heap.size ho hkn (fun t ht => Nat.le_trans (hn3 t ht) hs) (by omega) (hW.below hW.1 hb) (hP.below hP.1 hb)
  have HR := hide hr
  have HW := hide hw
  clear hr hw hW hP hkn hn1 hn2 hn3 hok hl
  go_enter Tryd.func8, Tryd.ntmps8
  go_wp2_with fail
  refine HR.out.mono ?_
  rintro e w1 ⟨v, rfl, hb, ho⟩
  have HB := hide hb
  have HO := hide (ho (by simp))
  clear hb ho
  go_wp2_with fail
  refine (HW.out _ _ HO.out HB.out).mono ?_
  rintro e w2 ⟨rfl, hb⟩
  have HB2 := hide hb
  clear hb
  go_wp2
  go_ret2
  exact ⟨rfl, HB.out.trans (HB2.out.mono HB.out.size)⟩

set_option maxHeartbeats 400000 in
theorem show_no (s : ByteArray) (w : World) (hok : (Ck.read s.data.toList).2 ≠ 0) (hW : WordsAt w) :
    Calls Tryd.prog 8 #[.string s] w fun e w' => e = .returned (.tuple #[T [], .int .i64 (Ck.read s.data.toList).2]) ∧ Below w.heap.size w w' := by
  have hr := read_any s w hW
  generalize Ck.read s.data.toList = p at *
  obtain ⟨p1, p2⟩ := p
  have g : (p2 != 0) = true := by simpa using hok
  have HR := hide hr
  clear hr hok hW
  go_enter Tryd.func8, Tryd.ntmps8
  go_wp2_with fail
  refine HR.out.mono ?_
  rintro e w1 ⟨v, rfl, hb, -⟩
  have HB := hide hb
  clear hb
  go_wp2
  go_ret2
  exact ⟨rfl, HB.out⟩
theorem show_any (s : ByteArray) (w : World) (hW : WordsAt w) (hP : PowAt w) :
    Calls Tryd.prog 8 #[.string s] w fun e w' => e = .returned (.tuple #[T (Ck.showP s.data.toList).1, .int .i64 (Ck.showP s.data.toList).2]) ∧ Below w.heap.size w w' := by
  by_cases h : (Ck.read s.data.toList).2 = 0
  · have hs : s.size ≤ 400 := by
      rcases Nat.lt_or_ge 400 s.size with g | g
      · have hl : s.data.toList.length = s.size := by simp
        rw [Ck.read, if_pos (by omega)] at h
        simp at h
      · exact g
    have hk := show_ok s w h hs hW hP
    rw [Ck.read_same] at h
    rw [Ck.showP, if_pos h]
    exact hk
  · have hk := show_no s w h hW
    rw [Ck.read_same] at h hk
    rw [Ck.showP, if_neg h]
    exact hk

set_option maxHeartbeats 400000 in
theorem shown_any (s : ByteArray) (w : World) (hW : WordsAt w) (hP : PowAt w) :
    Calls Tryd.prog 9 #[.string s] w fun e w' => e = .returned (.bool true) ∧ Below w.heap.size w w' := by
  have hr := show_any s w hW hP
  have hc := refShow_any s
  generalize Ck.showP s.data.toList = p at *
  obtain ⟨q, p2⟩ := p
  obtain ⟨Q, hQ⟩ : ∃ Q : ByteArray, Q = ⟨q.toArray⟩ := ⟨_, rfl⟩
  have hr' : Calls Tryd.prog 8 #[.string s] w fun e w' => e = .returned (.tuple #[.string Q, .int .i64 p2]) ∧ Below w.heap.size w w' := by rw [hQ]; exact hr
  have hc' : ∀ w, Calls Tryd.prog 15 #[.string s] w fun e w' => e = .returned (.tuple #[.string Q, .int .i64 p2]) ∧ Below w.heap.size w w' := by rw [hQ]; exact hc
  have HR := hide hr'
  have HC := hide hc'
  clear hr hc hr' hc' hW hP hQ
  go_enter Tryd.func9, Tryd.ntmps9
  go_wp2_with fail
  refine HR.out.mono ?_
  rintro e w1 ⟨rfl, hb⟩
  have HB := hide hb
  clear hb
  go_wp2_with fail
  refine (HC.out _).mono ?_
  rintro e w2 ⟨rfl, hb⟩
  have HB2 := hide hb
  clear hb
  go_wp2
  all_goals go_ret
  all_goals exact ⟨by simp, HB.out.trans (HB2.out.mono HB.out.size)⟩

/-- the example at the law's head: two blanks, a word, three blanks, a sign, a number with noughts, a newline, an argument. -/
def sampleS : List UInt8 := [32, 32, 115, 116, 111, 112, 32, 32, 32, 43, 32, 48, 48, 55, 10, 97, 48]
theorem sampleS_shown : Ck.showP sampleS = ([115, 116, 111, 112, 32, 43, 32, 55, 32, 97, 48], 0) := by
  have h1 : Ck.refCheck sampleS = (0, 0) := by decide +kernel
  have h2 : Ck.toks sampleS = [[115, 116, 111, 112], [43], [48, 48, 55], [97, 48]] := by decide +kernel
  have n1 : Ck.numIn [115, 116, 111, 112] = none := by decide +kernel
  have n2 : Ck.numIn [43] = none := by decide +kernel
  have n3 : Ck.numIn [48, 48, 55] = some 7 := by decide +kernel
  have n4 : Ck.numIn [97, 48] = none := by decide +kernel
  have d : Lib.decDigits 7 = [55] := by rw [Lib.decDigits, dif_pos (by omega)]; rfl
  rw [Ck.showP, h1, h2]
  simp [Ck.lineK, Ck.showTok, n1, n2, n3, n4, d]

set_option maxHeartbeats 400000 in
theorem shows_any (s : ByteArray) (w : World) (hW : WordsAt w) (hP : PowAt w) :
    Calls Tryd.prog 4 #[.string s] w fun e w' => e = .returned (.bool true) ∧ Below w.heap.size w w' := by
  have hr := show_any ⟨#[32, 32, 115, 116, 111, 112, 32, 32, 32, 43, 32, 48, 48, 55, 10, 97, 48]⟩ w hW hP
  rw [show Ck.showP (ByteArray.data ⟨#[32, 32, 115, 116, 111, 112, 32, 32, 32, 43, 32, 48, 48, 55, 10, 97, 48]⟩).toList = ([115, 116, 111, 112, 32, 43, 32, 55, 32, 97, 48], 0) from sampleS_shown] at hr
  have hr' : Calls Tryd.prog 8 #[.string ⟨#[32, 32, 115, 116, 111, 112, 32, 32, 32, 43, 32, 48, 48, 55, 10, 97, 48]⟩] w fun e w' => e = .returned (.tuple #[.string ⟨#[115, 116, 111, 112, 32, 43, 32, 55, 32, 97, 48]⟩, .int .i64 0]) ∧ Below w.heap.size w w' := hr
  have hc := shown_any s
  have HW := hide hW
  have HP := hide hP
  have HR := hide hr'
  have HC := hide hc
  clear hr hr' hc hW hP
  go_enter Tryd.func4, Tryd.ntmps4
  go_wp2_with fail
  refine HR.out.mono ?_
  rintro e w1 ⟨rfl, hb⟩
  have HB := hide hb
  clear hb
  go_wp2_with fail
  refine (HC.out _ (HW.out.below HW.out.1 HB.out) (HP.out.below HP.out.1 HB.out)).mono ?_
  rintro e w2 ⟨rfl, hb⟩
  have HB2 := hide hb
  clear hb
  go_wp2
  all_goals go_ret
  all_goals exact ⟨by simp, HB.out.trans (HB2.out.mono HB.out.size)⟩
end Go.Proofs.YtellilpeakpbfaaDoor
