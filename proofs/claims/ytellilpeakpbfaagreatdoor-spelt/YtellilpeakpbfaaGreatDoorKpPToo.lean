import Derived.Test.YtellilpeakpbfaaGreatDoorDnTToo
import Derived.Deep.RegionWith
import Derived.Test.YtellilpeakpbfaaGreatDoorTrEToo
import Derived.Test.YtellilpeakpbfaaGreatDoorOpenToo
section
/-
  The walks of the store's write and Call.
-/
namespace Go.Proofs.YtellilpeakpbfaaGreatDoor
open Go.RowKit

def SwRel (L S B : Nat) (C : Jn.Con) (f : Int) (w : World) (ws : List (Int × Bool × Int)) (x i : Value) (wr : World) : Prop :=
  ∃ (k : Nat) (X : ByteArray), k ≤ ws.length ∧ i = .int .i64 k ∧ x = .string X ∧ X.data.toList = (Rn.wcells C (ws.take k)).2 ∧ StAt L wr S B (Rn.wcells C (ws.take k)).1 f ∧ Fr L [] (some B) w wr

/-- what write answers. -/
def SwPost (L S B : Nat) (f : Int) (r : Jn.Con × List UInt8) (w : World) (e : Ending) (w' : World) : Prop :=
  ∃ v, e = .returned v ∧ StAt L w' S B r.1 f ∧ Fr L [] (some B) w w' ∧ ((r.2 = [] ∧ v = .slice none 0 0) ∨ (r.2 ≠ [] ∧ ARow w' w.heap.size v [(1, f, Jn.record r.2)]))

set_option maxHeartbeats 4000000 in
set_option maxRecDepth 100000 in
theorem writeS_any (L S B b : Nat) (C : Jn.Con) (f : Int) (wv : Value) (ws : List (Int × Bool × Int)) (w : World) (h : StAt L w S B C f) (hr : WRow w b wv ws) (hl : ws.length ≤ 8) (hws : ∀ p ∈ ws, Rn.WrOk p) (hP : PowAt w) (hpL : 1 < L) :
    Calls Tryz.prog 54 #[.pointer (some ⟨S, 0, none⟩), wv] w (SwPost L S B f (Rn.wcells C ws) w) := by
  obtain ⟨ao, cap, rfl, -⟩ := hr.shape
  have hLw : L ≤ w.heap.size := Nat.le_trans h.low (Nat.le_of_lt h.lt)
  have HR0 : Hid (SwRel L S B C f w ws (.string ⟨#[]⟩) (.int .i64 (0 : Int)) w) := ⟨0, ⟨#[]⟩, Nat.zero_le _, rfl, rfl, rfl, h, Fr.refl _ _ _ _⟩
  have HH0 := hide h
  have HROW := hide hr
  have HPW := hide hP
  have HWS := hide hws
  obtain ⟨rc, hrc⟩ : ∃ rc, rc = Rn.wcells C ws := ⟨_, rfl⟩
  rw [← hrc]
  have HRC := hide hrc
  clear h hr hP hws hrc
  go_enter Tryz.func54, Tryz.ntmps54
  go_wp2
  go_loopw [5, 6] (fun x i wr => SwRel L S B C f w ws x i wr) (fun _ i _ => ws.length - (intOf i).toNat)
  case atStart => exact HR0.out
  case round =>
    obtain ⟨k, X, hk, rfl, rfl, hX, hst, hf⟩ := hrel
    have HX := hide hX
    have HS := hide hst
    have HF := hide hf
    clear hX hst hf HR0
    by_cases hlt : k < ws.length
    · have tk : decide ((k : Int) < (ws.length : Int)) = true := by simp; omega
      have hrow2 : WRow wr b (.slice ao ws.length cap) ws := own_fr HROW.out (HH0.out.weakB HF.out) (by decide) (.inl rfl)
      obtain ⟨ao', cap', heq, hsh⟩ := hrow2.shape
      obtain ⟨g, hg, -, hcs⟩ := hsh (by omega)
      cases heq
      subst hg
      obtain ⟨p, hp⟩ : ∃ p, ws[k]? = some p := ⟨ws[k], by simp [hlt]⟩
      obtain ⟨d1, d2, d3⟩ := hcs k p hp
      have hwk : Rn.wcells C (ws.take (k + 1)) = ((Rn.wcell (Rn.wcells C (ws.take k)).1 p).1, (Rn.wcells C (ws.take k)).2 ++ (Rn.wcell (Rn.wcells C (ws.take k)).1 p).2) := by
        rw [List.take_succ_eq_append_getElem hlt, (List.getElem?_eq_some_iff.1 hp).2, Rn.wcells_snoc]
      have HWK := hide hwk
      have hYl := Rn.wcell_len (Rn.wcells C (ws.take k)).1 p (HWS.out p (List.mem_of_getElem? hp))
      have hXl := Rn.wcells_len (ws.take k) C (fun q hq => HWS.out q (List.mem_of_mem_take hq))
      have hXs : X.size ≤ 200 := by rw [size_list, HX.out]; rw [List.length_take] at hXl; omega
      have HYL := hide hYl
      clear hXl hYl
      have HWC := hide (writeCell_any L S B (Rn.wcells C (ws.take k)).1 f p wr HS.out (HWS.out p (List.mem_of_getElem? hp)) (HPW.out.below hpL HF.out.below) hpL)
      clear hrow2 hsh hcs hp hwk
      obtain ⟨p1, p2, p3⟩ := p
      simp only at HWC HWK d1 d2 d3
      go_wp2_with fail
      refine HWC.out.mono ?_
      rintro e w4 ⟨Y, rfl, hY, hst4, hf4⟩
      have hYs : Y.size ≤ 25 := by rw [size_list, hY]; exact HYL.out
      have HRR : Hid (SwRel L S B C f w ws (.string (X ++ Y)) (.int .i64 ((k : Int) + 1)) w4) := by
        refine ⟨k + 1, X ++ Y, by omega, by go_num, rfl, ?_, ?_, HF.out.trans hf4⟩
        · rw [app_list, HX.out, hY, HWK.out]
        · rw [HWK.out]; exact hst4
      clear hY hst4 hf4 HWC
      go_wp2
      go_roundw
      case rel => exact HRR.out
      case measure => simp [intOf]; omega
    · have tk : decide ((k : Int) < (ws.length : Int)) = false := by simp; omega
      have hke : ws.take k = ws := List.take_of_length_le (by omega)
      rw [hke] at HX HS
      have hxl := Rn.wcells_len ws C HWS.out
      have hXs : X.size ≤ 200 := by rw [size_list, HX.out]; omega
      rw [← HRC.out] at HX HS hxl
      clear HRC
      obtain ⟨C', es⟩ := rc
      simp only at HX HS hxl
      have HTL := hide (tell_any L S B C' f X wr HS.out (by omega))
      have hxx : (X.toList == []) = decide (es = []) := by
        rw [ByteArray.toList_eq, HX.out]
        by_cases he : es = []
        · rw [he]; rfl
        · rw [decide_eq_false he, beq_eq_false_iff_ne]; exact he
      clear hke
      by_cases he : es = []
      · rw [decide_eq_true he] at hxx
        have HE := hide he
        clear he HTL
        go_wp2
        go_ret
        exact ⟨_, rfl, HS.out, HF.out, .inl ⟨HE.out, rfl⟩⟩
      · rw [decide_eq_false he] at hxx
        have HE := hide he
        clear he
        go_wp2_with fail
        refine HTL.out.mono ?_
        rintro e w5 ⟨v, rfl, hrow, hb5⟩
        obtain ⟨vo, vk, rfl, -, -⟩ := own_slice hrow
        have HFIN : Hid (SwPost L S B f (C', es) w (.returned (.slice vo 1 vk)) w5) := by
          refine ⟨_, rfl, HS.out.below hb5, HF.out.trans (Fr.of hb5 (Nat.le_trans hLw HF.out.size)), .inr ⟨HE.out, ?_⟩⟩
          rw [HX.out] at hrow
          exact ownsRow_base hrow HF.out.size
        clear hrow hb5 HTL
        go_wp2
        go_ret
        exact HFIN.out

namespace Rn
/-- Call: the contents behind it, the value, the units, the entries, the error. -/
def call (C : Jn.Con) (n : List UInt8) (args : List Int) (fuel : Int) : Jn.Con × Int × Int × List UInt8 × Int :=
  match srcL C.procs n with
  | none => (C, 0, 0, [], 3)
  | some src => if (run C src args fuel).2.2.2 ≠ 0 then (C, (run C src args fuel).1, (run C src args fuel).2.1, [], (run C src args fuel).2.2.2) else
    ((wcells C (run C src args fuel).2.2.1).1, (run C src args fuel).1, (run C src args fuel).2.1, (wcells C (run C src args fuel).2.2.1).2, 0)
theorem run_fit (C : Jn.Con) (src : List UInt8) (args : List Int) (fuel : Int) (hok : Jn.Ok C) : (run C src args fuel).2.2.1.length ≤ 8 ∧ ∀ p ∈ (run C src args fuel).2.2.1, WrOk p := by
  unfold run
  cases hm : may args fuel with
  | false => rw [if_pos rfl]; exact ⟨Nat.zero_le _, fun p hp => by cases hp⟩
  | true =>
    rw [if_neg (by simp)]
    split
    · exact ⟨Nat.zero_le _, fun p hp => by cases hp⟩
    · rename_i hr
      obtain ⟨-, f0, f1, fb⟩ := may_facts hm
      have hf := fit_start C src args fuel hok (by simpa using hr) ⟨f0, f1⟩ fb
      have hu := ((run_up (env C src args fuel) (3 * fuel.toNat + 3)).1 start hf).1
      simp only
      split
      · exact ⟨Nat.zero_le _, fun p hp => by cases hp⟩
      · exact ⟨hu.wrl, hu.wrs⟩
end Rn

/-- what Call answers. -/
def ClPost (L S B : Nat) (f : Int) (r : Jn.Con × Int × Int × List UInt8 × Int) (w : World) (e : Ending) (w' : World) : Prop :=
  ∃ v, e = .returned (.tuple #[.agg #[.int .i64 r.2.1, .int .i64 r.2.2.1], v, .int .i64 r.2.2.2.2]) ∧ StAt L w' S B r.1 f ∧ Fr L [] (some B) w w' ∧ ((r.2.2.2.1 = [] ∧ v = .slice none 0 0) ∨ (r.2.2.2.1 ≠ [] ∧ ARow w' w.heap.size v [(1, f, Jn.record r.2.2.2.1)]))

theorem fr_two {L B R : Nat} {a b c : World} (h : Fr L [] (some B) a b) (g : Fr L [] (some R) b c) (hR : a.heap.size ≤ R) : Fr L [] (some B) a c :=
  ⟨h.below.trans g.below, fun k cur t z hk ht hX => g.block k cur t z (h.block k cur t z hk ht hX) ht (fun e => by cases e; have := (Array.getElem?_eq_some_iff.1 hk).1; omega)⟩
theorem conAt_zero {L : Nat} {w : World} {B : Nat} {C : Jn.Con} (q : ConAt L w B C) : ConAt 0 w B C := ⟨Nat.zero_le _, q.ok, q.mem⟩
theorem T_bytes (l : List UInt8) : (⟨l.toArray⟩ : ByteArray).data.toList = l := by simp

set_option maxHeartbeats 4000000 in
set_option maxRecDepth 100000 in
theorem callS_any (L S B : Nat) (C : Jn.Con) (f : Int) (n : ByteArray) (v : Value) (args : List Int) (fuel : Int) (w : World) (h : StAt L w S B C f) (hW : WordsAt w) (hv : IntsAt w v args) (hP : PowAt w) (hpL : 1 < L) :
    Calls Tryz.prog 27 #[.pointer (some ⟨S, 0, none⟩), .string n, v, .int .i64 fuel] w (ClPost L S B f (Rn.call C n.data.toList args fuel) w) := by
  obtain ⟨q, hq⟩ : ∃ q, q = Rn.call C n.data.toList args fuel := ⟨_, rfl⟩
  rw [← hq]
  unfold Rn.call at hq
  have hLw : L ≤ w.heap.size := Nat.le_trans h.low (Nat.le_of_lt h.lt)
  obtain ⟨w1, hw1⟩ : ∃ w1, w1 = w.alloc (.cells #[.int .i64 0, .int .i64 0] 57) := ⟨_, rfl⟩
  obtain ⟨R, hR⟩ : ∃ R, R = w.heap.size := ⟨_, rfl⟩
  have hb1 : Below w.heap.size w w1 := by rw [hw1]; exact (Below.refl _ _).alloc (Nat.le_refl _) _
  have hn1 : w1.heap[R]? = some (.cells #[.int .i64 0, .int .i64 0] 57 (0, 0)) := by rw [hw1, hR]; exact heap_alloc_new w _
  have h1 := h.below hb1
  have hsrc := source_any L B C n w1 h1.con
  obtain ⟨c0, -, -, -⟩ := h1.cells
  have hok := h.con.ok
  have HB1 := hide hb1
  have HN1 := hide hn1
  have H1 := hide h1
  have HH := hide h
  have HPW := hide hP
  have HRE := hide hR
  obtain ⟨vo, vk, hvs, -⟩ := id hv
  cases hs : srcL C.procs n.data.toList with
  | none =>
    rw [hs] at hq hsrc
    simp only [Option.getD_none, Option.isSome_none, T] at hsrc hq
    have e0 : w1.cell? ⟨R, 0, none⟩ = some (.int .i64 0) := (cell_of_row w1 _ 0 _ _ _ hn1).trans rfl
    have e1 : w1.cell? ⟨R, 1, none⟩ = some (.int .i64 0) := (cell_of_row w1 _ 1 _ _ _ hn1).trans rfl
    have g0 : w1.frozen? ⟨R, 0, none⟩ = false := frozen_of_row w1 _ 0 _ _ hn1
    have g1 : w1.frozen? ⟨R, 1, none⟩ = false := frozen_of_row w1 _ 1 _ _ hn1
    have hsrc' : Calls Tryz.prog 52 #[.pointer (some ⟨B, 0, none⟩), .string n] w1 fun e w' => e = .returned (.tuple #[.string ⟨#[]⟩, .int .i64 3]) ∧ w' = w1 := hsrc
    have HSRC := hide hsrc'
    have HQ := hide hq
    subst hvs
    clear hq hsrc hsrc' hb1 hn1 h1 h hP hW hv hs
    go_enter Tryz.func27, Tryz.ntmps27
    go_upto_region 1 with fail
    rw [← hw1, ← hR]
    clear hw1 hR
    go_wp2_with fail
    refine HSRC.out.mono ?_
    rintro e w2 ⟨rfl, rfl⟩
    go_wp2
    obtain ⟨s0, s1⟩ := out_two (a := .int .i64 0) (b := .int .i64 0) e0 e1
    refine bodyPost_ret (v := .tuple #[.agg #[.int .i64 0, .int .i64 0], .slice none 0 0, .int .i64 3]) (by simp [results, Tryz.results27, go_sem, s0, s1]) rfl ?_
    rw [HQ.out]
    have hle : w.heap.size ≤ R := Nat.le_of_eq HRE.out.symm
    have hbb := (HB1.out.setCell (p := ⟨R, 0, none⟩) hle (.int .i64 0)).setCell (p := ⟨R, 1, none⟩) hle (.int .i64 0)
    exact ⟨_, rfl, HH.out.below hbb, Fr.of hbb hLw, .inl ⟨rfl, rfl⟩⟩
  | some src =>
    rw [hs] at hq hsrc
    simp only [Option.getD_some, Option.isSome_some, T] at hsrc hq
    obtain ⟨sb, hsb⟩ : ∃ sb : ByteArray, sb = ⟨src.toArray⟩ := ⟨_, rfl⟩
    have hsl : sb.data.toList = src := by rw [hsb]
    have hsrc' : Calls Tryz.prog 52 #[.pointer (some ⟨B, 0, none⟩), .string n] w1 fun e w' => e = .returned (.tuple #[.string sb, .int .i64 0]) ∧ w' = w1 := by rw [hsb]; exact hsrc
    have HSRC := hide hsrc'
    have hrun := run_any B C sb v args fuel w1 (conAt_zero h1.con) (hW.below hW.1 hb1) (hv.below hb1)
    rw [hsl] at hrun
    obtain ⟨hl8, hwok⟩ := Rn.run_fit C src args fuel hok
    generalize Rn.run C src args fuel = rr at hq hrun hl8 hwok
    obtain ⟨r1, r2, ws, r4⟩ := rr
    simp only at hq hl8 hwok
    have HRUN := hide hrun
    have HWOK := hide hwok
    have HQ := hide hq
    subst hvs
    clear hq hsrc hsrc' hb1 hn1 h1 h hP hW hv hs hrun hsl hsb hwok
    go_enter Tryz.func27, Tryz.ntmps27
    go_upto_region 1 with fail
    rw [← hw1, ← hR]
    clear hw1 hR
    go_wp2_with fail
    refine HSRC.out.mono ?_
    rintro e w2 ⟨rfl, rfl⟩
    go_wp2_with fail
    refine HRUN.out.mono ?_
    rintro e w3 ⟨wv, rfl, hrw, hb3⟩
    obtain ⟨w4, hw4⟩ : ∃ w4, w4 = w3.alloc (.cells #[.int .i64 r1, .int .i64 r2] 57) := ⟨_, rfl⟩
    obtain ⟨O, hO⟩ : ∃ O, O = w3.heap.size := ⟨_, rfl⟩
    have hb4 : Below w3.heap.size w3 w4 := by rw [hw4]; exact (Below.refl _ _).alloc (Nat.le_refl _) _
    have hn4 : w4.heap[O]? = some (.cells #[.int .i64 r1, .int .i64 r2] 57 (0, 0)) := by rw [hw4, hO]; exact heap_alloc_new w3 _
    have hb24 : Below w2.heap.size w2 w4 := hb3.trans (hb4.mono hb3.size)
    have hb04 : Below w.heap.size w w4 := HB1.out.trans (hb24.mono HB1.out.size)
    have hn1' := (hb24.block R (Array.getElem?_eq_some_iff.1 HN1.out).1).trans HN1.out
    obtain ⟨wao, wcap, rfl, -⟩ := hrw.shape
    have HRW := hide (ownsRow_below hrw hb4)
    have HN4 := hide hn4
    have HR4 := hide hn1'
    have HB4 := hide hb04
    have H4 := hide (HH.out.below hb04)
    have o0 : w4.cell? ⟨O, 0, none⟩ = some (.int .i64 r1) := (cell_of_row w4 _ 0 _ _ _ hn4).trans rfl
    have o1 : w4.cell? ⟨O, 1, none⟩ = some (.int .i64 r2) := (cell_of_row w4 _ 1 _ _ _ hn4).trans rfl
    have e0 : w4.cell? ⟨R, 0, none⟩ = some (.int .i64 0) := (cell_of_row w4 _ 0 _ _ _ hn1').trans rfl
    have e1 : w4.cell? ⟨R, 1, none⟩ = some (.int .i64 0) := (cell_of_row w4 _ 1 _ _ _ hn1').trans rfl
    have g0 : w4.frozen? ⟨R, 0, none⟩ = false := frozen_of_row w4 _ 0 _ _ hn1'
    have g1 : w4.frozen? ⟨R, 1, none⟩ = false := frozen_of_row w4 _ 1 _ _ hn1'
    have hRO : R ≠ O := by have h1 := (Array.getElem?_eq_some_iff.1 HN1.out).1; have h2 := hb3.size; omega
    have hle : w.heap.size ≤ R := Nat.le_of_eq HRE.out.symm
    have hOw : w2.heap.size ≤ O := by rw [hO]; exact hb3.size
    clear hrw hb3 hb4 hn4 hb24 hb04 hn1' HRUN HSRC
    go_upto_region 5 with fail
    rw [← hw4, ← hO]
    clear hw4 hO
    cases ht : (r4 != (0 : Int)) with
    | true =>
      have HE : Hid (q = (C, r1, r2, [], r4)) := by show _ = _; rw [HQ.out, if_pos (by simpa using ht)]
      clear HQ
      go_wp2
      obtain ⟨s0, s1⟩ := out_two (a := .int .i64 r1) (b := .int .i64 r2) e0 e1
      refine bodyPost_ret (v := .tuple #[.agg #[.int .i64 r1, .int .i64 r2], .slice none 0 0, .int .i64 r4]) (by simp [results, Tryz.results27, go_sem, s0, s1]) rfl ?_
      rw [HE.out]
      have hbb := (HB4.out.setCell (p := ⟨R, 0, none⟩) hle (.int .i64 r1)).setCell (p := ⟨R, 1, none⟩) hle (.int .i64 r2)
      exact ⟨_, rfl, HH.out.below hbb, Fr.of hbb hLw, .inl ⟨rfl, rfl⟩⟩
    | false =>
      have h0 : r4 = 0 := by simpa using ht
      have HE : Hid (q = ((Rn.wcells C ws).1, r1, r2, (Rn.wcells C ws).2, 0)) := by show _ = _; rw [HQ.out, if_neg (by simpa using h0)]
      clear HQ
      subst h0
      have HWR := hide (fun x hx hr hp => writeS_any L S B w2.heap.size C f (.slice wao ws.length wcap) ws x hx hr hl8 HWOK.out hp hpL)
      generalize Rn.wcells C ws = rc at HE HWR
      obtain ⟨C', es⟩ := rc
      simp only at HE
      have hBR : B ≠ R := by have h1 := HH.out.con.lt; have h2 := HRE.out; omega
      have hBO : B ≠ O := by have h1 := HH.out.con.lt; have h3 := HB1.out.size; have h2 := hOw; omega
      have hRl : R < w2.heap.size := (Array.getElem?_eq_some_iff.1 HN1.out).1
      have hA1 : Below w.heap.size w w4.drew := Below.drew HB4.out
      have hA2 : Below w.heap.size w ((w4.drew.setCell ⟨R, 0, none⟩ (.int .i64 r1)).setCell ⟨R, 1, none⟩ (.int .i64 r2)) := (hA1.setCell (p := ⟨R, 0, none⟩) hle _).setCell (p := ⟨R, 1, none⟩) hle _
      have HC1 := hide (HWR.out w4.drew (HH.out.below hA1) HRW.out (HPW.out.below hpL (hA1.mono hLw)))
      have HC2 := hide (HWR.out ((w4.drew.setCell ⟨R, 0, none⟩ (.int .i64 r1)).setCell ⟨R, 1, none⟩ (.int .i64 r2)) (HH.out.below hA2) (ownsRow_setCell_below (ownsRow_setCell_below (w := w4.drew) HRW.out (a := ⟨R, 0, none⟩) hRl (.int .i64 r1)) (a := ⟨R, 1, none⟩) hRl (.int .i64 r2)) (HPW.out.below hpL (hA2.mono hLw)))
      have HA1 := hide hA1
      have HA2 := hide hA2
      have HKR := hide (fun x (hx : Fr L [] (some B) w4.drew x) => And.intro (hx.block O _ _ _ HN4.out (by simp) (by simpa using hBO)) (hx.block R _ _ _ HR4.out (by simp) (by simpa using hBR)))
      have hRA : ((w4.drew.setCell ⟨R, 0, none⟩ (.int .i64 r1)).setCell ⟨R, 1, none⟩ (.int .i64 r2)).heap[R]? = some (.cells #[.int .i64 r1, .int .i64 r2] 57 (0, 0)) := by
        rw [heap_setCell_same _ R 1 _ _ _ (heap_setCell_same w4.drew R 0 _ _ _ HR4.out)]; rfl
      have HK2 := hide (fun x (hx : Fr L [] (some B) ((w4.drew.setCell ⟨R, 0, none⟩ (.int .i64 r1)).setCell ⟨R, 1, none⟩ (.int .i64 r2)) x) => hx.block R _ _ _ hRA (by simp) (by simpa using hBR))
      clear HWR hA1 hA2 hRA
      go_wp2_with fail
      go_region_with (first | (go_at_call 54; first | (refine HC1.out.mono ?_; rintro e w5 ⟨v5, rfl, hst5, hf5, hor5⟩; obtain ⟨hO5, hR5⟩ := HKR.out w5 hf5; have x0 : w5.cell? ⟨O, 0, none⟩ = some (.int .i64 r1) := (cell_of_row w5 _ 0 _ _ _ hO5).trans rfl; have x1 : w5.cell? ⟨O, 1, none⟩ = some (.int .i64 r2) := (cell_of_row w5 _ 1 _ _ _ hO5).trans rfl; have y0 : w5.cell? ⟨R, 0, none⟩ = some (.int .i64 0) := (cell_of_row w5 _ 0 _ _ _ hR5).trans rfl; have y1 : w5.cell? ⟨R, 1, none⟩ = some (.int .i64 0) := (cell_of_row w5 _ 1 _ _ _ hR5).trans rfl; have z0 : w5.frozen? ⟨R, 0, none⟩ = false := frozen_of_row w5 _ 0 _ _ hR5; have z1 : w5.frozen? ⟨R, 1, none⟩ = false := frozen_of_row w5 _ 1 _ _ hR5; have HS5 := hide hst5; have HF5 := hide hf5; have HO5 := hide hor5; have HRR5 := hide hR5; clear hst5 hf5 hor5 hO5 hR5) | (refine HC2.out.mono ?_; rintro e w5 ⟨v5, rfl, hst5, hf5, hor5⟩; have hR5 := HK2.out w5 hf5; have y0 : w5.cell? ⟨R, 0, none⟩ = some (.int .i64 r1) := (cell_of_row w5 _ 0 _ _ _ hR5).trans rfl; have y1 : w5.cell? ⟨R, 1, none⟩ = some (.int .i64 r2) := (cell_of_row w5 _ 1 _ _ _ hR5).trans rfl; clear hR5; have HS5 := hide hst5; have HF5 := hide hf5; have HO5 := hide hor5; clear hst5 hf5 hor5)))
      all_goals
        go_wp2
        obtain ⟨s0, s1⟩ := out_two (w1 := w5) (a := .int .i64 r1) (b := .int .i64 r2) y0 y1
        refine bodyPost_ret (v := .tuple #[.agg #[.int .i64 r1, .int .i64 r2], v5, .int .i64 0]) (by simp [results, Tryz.results27, go_sem, s0, s1]) rfl ?_
        rw [HE.out]
        have hLR : L ≤ R := Nat.le_trans hLw hle
        have f1 : Fr L [57] none w5 (w5.setCell ⟨R, 0, none⟩ (.int .i64 r1)) := (fr_setCell w5 R 0 _ hLR).typed (fun k hk => by cases hk; exact ⟨_, _, _, HRR5.out, by simp⟩) none
        have f2 : Fr L [57] none (w5.setCell ⟨R, 0, none⟩ (.int .i64 r1)) ((w5.setCell ⟨R, 0, none⟩ (.int .i64 r1)).setCell ⟨R, 1, none⟩ (.int .i64 r2)) := (fr_setCell _ R 1 _ hLR).typed (fun k hk => by cases hk; exact ⟨_, _, _, heap_setCell_same w5 R 0 _ _ _ HRR5.out, by simp⟩) none
        have f12 := f1.trans f2
        have fa : Fr L [] (some B) w w5 := (Fr.of HA1.out hLw).trans HF5.out
        have fb := fr_two (fr_two fa (fr_setCell w5 R 0 (.int .i64 r1) hLR) hle) (fr_setCell (w5.setCell ⟨R, 0, none⟩ (.int .i64 r1)) R 1 (.int .i64 r2) hLR) hle
        refine ⟨v5, rfl, HS5.out.fr f12 (by decide) (by decide) (by decide) (by simp), fb, ?_⟩
        rcases HO5.out with ⟨h1, h2⟩ | ⟨h1, h2⟩
        · exact .inl ⟨h1, h2⟩
        · exact .inr ⟨h1, ownsRow_base (own_fr h2 f12 (by decide) (.inl rfl)) HB4.out.size⟩
end Go.Proofs.YtellilpeakpbfaaGreatDoor

end

section
/-
  What a step does to a store, in plain words; no Go text.
-/
namespace Go.Proofs.YtellilpeakpbfaaGreatDoor
open Go.RowKit
namespace Kp
open Tr (Tok Ex Sm Sms kind acc)

def raw (c : Int) : Int := if c < 0 then -(c + 1) else c
def pick (c n : Int) : Int := raw c % n
def bent (n lo hi : Int) : Int := if lo ≤ n ∧ n ≤ hi then n else lo + raw n % (hi - lo + 1)
def key (n : Int) : Int := bent n 0 99
def value (n : Int) : Int := bent n (-1000000000) 1000000000
theorem raw_nn (c : Int) : 0 ≤ raw c := by unfold raw; split <;> omega
theorem pick_bd (c n : Int) (h : 0 < n) : 0 ≤ pick c n ∧ pick c n < n := ⟨Int.emod_nonneg _ (by omega), Int.emod_lt_of_pos _ h⟩
theorem bent_bd (n lo hi : Int) (h : lo ≤ hi) : lo ≤ bent n lo hi ∧ bent n lo hi ≤ hi := by
  unfold bent
  split
  · assumption
  · have h1 := Int.emod_nonneg (raw n) (b := hi - lo + 1) (by omega)
    have h2 := Int.emod_lt_of_pos (raw n) (b := hi - lo + 1) (by omega)
    omega
theorem key_bd (n : Int) : 0 ≤ key n ∧ key n ≤ 99 := bent_bd n 0 99 (by decide)
theorem value_bd (n : Int) : -1000000000 ≤ value n ∧ value n ≤ 1000000000 := bent_bd n _ _ (by decide)
theorem key_is (n : Int) : Jn.isKey (key n) = true := by have := key_bd n; unfold Jn.isKey; simp; omega
theorem value_is (n : Int) : Jn.isVal (value n) = true := by have := value_bd n; unfold Jn.isVal; simp; omega

theorem dec_valC (u : Nat) : Ck.val (Lib.decDigits u) = u := by
  induction u using Nat.strongRecOn with
  | _ u ih =>
    rw [Lib.decDigits]
    split
    · rename_i h
      have e : (UInt8.ofNat (48 + u)).toNat = 48 + u := by rw [UInt8.toNat_ofNat']; omega
      show 10 * 0 + ((UInt8.ofNat (48 + u)).toNat - 48) = u
      rw [e]; omega
    · rename_i h
      have e : (UInt8.ofNat (48 + u % 10)).toNat = 48 + u % 10 := by rw [UInt8.toNat_ofNat']; omega
      rw [Ck.val_snoc, ih _ (by omega), e]
      omega
/-- digits are a number. -/
theorem tok_num (t : Tok) (h0 : t ≠ []) (h1 : t.length ≤ 6) (hd : ∀ c ∈ t, Ck.isDig c = true) : Ck.tokenP t = (1, (Ck.val t : Int)) := by
  have hw : ∀ w ∈ Ck.wordsL, ∃ c ∈ w, Ck.isDig c = false := by decide
  have hn : t ∉ Ck.wordsL := fun hm => by
    obtain ⟨c, hc, e⟩ := hw t hm
    rw [hd c hc] at e
    cases e
  have hi : Ck.wordsL.idxOf t = 16 := by rw [List.idxOf_eq_length hn]; rfl
  have hl : 1 ≤ t.length := by cases t <;> simp_all
  unfold Ck.tokenP
  rw [if_neg (by omega)]
  have e : Ck.numIn t = some (Ck.val t) := by unfold Ck.numIn; rw [if_pos ⟨hl, h1, hd⟩]
  rw [e]
theorem tok_dec (n : Nat) (h : n ≤ 999999) : Ck.tokenP (Lib.decDigits n) = (1, (n : Int)) := by
  rw [tok_num _ (Jn.dec_ne n) (Ck.dec_len n (by omega)) (Jn.dec_dig n), dec_valC]
theorem dig_sp (c : UInt8) (h : Ck.isDig c = true) : Ck.isSp c = false := by
  rw [Ck.isDig_iff] at h
  unfold Ck.isSp
  have h1 : c ≠ 32 := fun e => by rw [e] at h; simp at h
  have h2 : c ≠ 10 := fun e => by rw [e] at h; simp at h
  simp [h1, h2]
theorem wd_dec (n : Nat) : Wd (Lib.decDigits n) := ⟨Jn.dec_ne n, fun c hc => dig_sp c (Jn.dec_dig n c hc)⟩

/-- the tree of 'put k + a0 @ m'. -/
def tree (k m : Nat) : Sms := .cons (.put (.leaf (Lib.decDigits k)) (.bin [43] (.leaf [97, 48]) (.un [64] (.leaf (Lib.decDigits m))))) .nil
def src (k m : Nat) : List UInt8 := [112, 117, 116, 32] ++ Lib.decDigits k ++ [32, 43, 32, 97, 48, 32, 64, 32] ++ Lib.decDigits m
theorem src_join (k m : Nat) : src k m = join (tree k m).flat := by
  simp [src, tree, Sms.flat, Sm.flat, Ex.flat, join]
theorem tree_ok (k m : Nat) (hk : k ≤ 99) (hm : m ≤ 99) : (tree k m).Ok := by
  have h1 : kind (Lib.decDigits k) = 1 := by unfold kind; rw [tok_dec k (by omega)]
  have h2 : kind (Lib.decDigits m) = 1 := by unfold kind; rw [tok_dec m (by omega)]
  have h3 : kind [43] = 4 := by decide
  have h4 : kind [97, 48] = 2 := by decide
  have h5 : kind [64] = 9 := by decide
  exact ⟨⟨.inl h1, ⟨by omega, by omega⟩, .inr (.inl h4), .inl h5, .inl h2⟩, trivial⟩
theorem src_toks (k m : Nat) : Ck.toks (src k m) = (tree k m).flat := by
  rw [src_join]
  refine toks_join _ fun t ht => ?_
  have e : (tree k m).flat = [[112, 117, 116], Lib.decDigits k, [43], [97, 48], [64], Lib.decDigits m] := by simp [tree, Sms.flat, Sm.flat, Ex.flat]
  rw [e] at ht
  simp only [List.mem_cons, List.not_mem_nil, or_false] at ht
  rcases ht with rfl | rfl | rfl | rfl | rfl | rfl
  · exact ⟨by decide, by decide⟩
  · exact wd_dec k
  · exact ⟨by decide, by decide⟩
  · exact ⟨by decide, by decide⟩
  · exact ⟨by decide, by decide⟩
  · exact wd_dec m
theorem src_len (k m : Nat) (hk : k ≤ 99) (hm : m ≤ 99) : (src k m).length ≤ 24 := by
  have h1 := Ck.dec_len k (by omega)
  have h2 := Ck.dec_len m (by omega)
  simp [src]; omega
theorem src_read (k m : Nat) (hk : k ≤ 99) (hm : m ≤ 99) : Ck.read (src k m) = (0, 0) :=
  read_tree _ (tree k m) (tree_ok k m hk hm) (src_toks k m) (by have := src_len k m hk hm; omega)

/-- what expressions come to, where there is fuel. -/
theorem tx_num (E : Rn.En) (s : Rn.St) (n : Nat) (hn : n ≤ 999999) (hu : s.used < E.fuel) : Rn.texpr E (.leaf (Lib.decDigits n)) s = ((n : Int), 0, Rn.use s) := by
  rw [Rn.texpr, if_neg (by omega), Rn.leafV]
  unfold kind
  rw [tok_dec n hn, if_pos rfl]
theorem tx_arg (E : Rn.En) (s : Rn.St) (t : Tok) (k : Int) (ht : Ck.tokenP t = (2, k)) (hu : s.used < E.fuel) : Rn.texpr E (.leaf t) s = (Rn.arg E k, 0, Rn.use s) := by
  rw [Rn.texpr, if_neg (by omega), Rn.leafV]
  unfold kind
  rw [ht, if_neg (by simp), if_pos rfl]
theorem tx_var (E : Rn.En) (s : Rn.St) (t : Tok) (k : Int) (ht : Ck.tokenP t = (3, k)) (hu : s.used < E.fuel) : Rn.texpr E (.leaf t) s = (Rn.var s k, 0, Rn.use s) := by
  rw [Rn.texpr, if_neg (by omega), Rn.leafV]
  unfold kind
  rw [ht, if_neg (by simp), if_neg (by simp)]
theorem tx_at (E : Rn.En) (s s' : Rn.St) (e : Ex) (k v : Int) (b : Bool) (he : Rn.texpr E e (Rn.use s) = (k, 0, s')) (hg : Rn.get E s' k = (v, b, 0)) (hu : s.used < E.fuel) : Rn.texpr E (.un [64] e) s = (v, 0, s') := by
  rw [Rn.texpr, if_neg (by omega), he, Rn.look]
  simp only [hg, ne_eq, not_true, if_false]
  rw [if_neg (by decide)]
theorem tx_has (E : Rn.En) (s s' : Rn.St) (e : Ex) (k v : Int) (b : Bool) (he : Rn.texpr E e (Rn.use s) = (k, 0, s')) (hg : Rn.get E s' k = (v, b, 0)) (hu : s.used < E.fuel) : Rn.texpr E (.un [35] e) s = (Rn.oneIf b, 0, s') := by
  rw [Rn.texpr, if_neg (by omega), he, Rn.look]
  simp only [hg, ne_eq, not_true, if_false]
  rw [if_pos (by decide)]
theorem tx_bin (E : Rn.En) (s s1 s2 : Rn.St) (t : Tok) (a b : Ex) (x y : Int) (ha : Rn.texpr E a (Rn.use s) = (x, 0, s1)) (hb : Rn.texpr E b s1 = (y, 0, s2)) (hu : s.used < E.fuel) : Rn.texpr E (.bin t a b) s = ((Rn.reckon (kind t) x y).1, (Rn.reckon (kind t) x y).2, s2) := by
  rw [Rn.texpr, if_neg (by omega), ha, hb, Rn.two]
  simp
theorem ts_one (E : Rn.En) (n : Nat) (a : Sm) (s : Rn.St) (h : s.stopped = false) : (Rn.tstmts E (n + 1 + 1) (.cons a .nil) s).1 = (Rn.tstmt E (n + 1) a s).1 := by
  rw [Rn.tstmts, if_neg (by rw [h]; decide)]
  split
  · rfl
  · rename_i hn
    rw [Rn.tstmts]
    simpa using (Classical.not_not.1 hn).symm
theorem get_held (E : Rn.En) (s : Rn.St) (k : Int) (hw : s.writes = []) (hk : Jn.isKey k = true) : Rn.get E s k = ((E.con.cells.getD k.toNat none).getD 0, (E.con.cells.getD k.toNat none).isSome, 0) := by
  unfold Rn.get
  rw [hw]
  simp only [List.getElem?_nil, Rn.held]
  rw [if_pos hk]

/-- a name out of ten. -/
def name (c : Int) : List UInt8 := [UInt8.ofNat (97 + (pick c 10).toNat)]
theorem name_is (c : Int) : Jn.isName (name c) = true := by
  have h := pick_bd c 10 (by decide)
  obtain ⟨k, hk⟩ : ∃ k : Nat, pick c 10 = (k : Int) := ⟨(pick c 10).toNat, by omega⟩
  unfold name
  rw [hk]
  have hk9 : k ≤ 9 := by omega
  have : ∀ k : Fin 10, Jn.isName [UInt8.ofNat (97 + k.val)] = true := by decide
  exact this ⟨k, by omega⟩
/-- the procedures that steps keep. -/
def Kind (s : List UInt8) : Prop := ∃ k m : Nat, k ≤ 99 ∧ m ≤ 99 ∧ s = src k m
/-- a call of one of them: done, or too great. -/
theorem run_kind (C : Jn.Con) (hok : Jn.Ok C) (s : List UInt8) (hs : Kind s) (x : Int) (hx : 0 ≤ x ∧ x ≤ 999) : (Rn.run C s [x] 10000).2.2.2 = 0 ∨ (Rn.run C s [x] 10000).2.2.2 = 7 := by
  obtain ⟨k, m, hk, hm, rfl⟩ := hs
  have hmay : Rn.may [x] 10000 = true := by unfold Rn.may Rn.inb; simp; omega
  have hr : (Ck.read (src k m)).2 = 0 := by rw [src_read k m hk hm]
  have htree := Rn.run_tree C (src k m) [x] 10000 hok hr hmay (tree k m) (tree_ok k m hk hm) (src_toks k m)
  have hrun := Rn.run_ok C (src k m) [x] 10000 hr hmay
  have hN : (Rn.tstmts (Rn.env C (src k m) [x] 10000) (3 * (10000 : Int).toNat + 3) (tree k m) Rn.start).1 = (Rn.stmts (Rn.env C (src k m) [x] 10000) (3 * (10000 : Int).toNat + 3) Rn.start).1 := by rw [htree]; rfl
  have key : (Rn.tstmts (Rn.env C (src k m) [x] 10000) (3 * (10000 : Int).toNat + 3) (tree k m) Rn.start).1 = 0 ∨ (Rn.tstmts (Rn.env C (src k m) [x] 10000) (3 * (10000 : Int).toNat + 3) (tree k m) Rn.start).1 = 7 := by
    obtain ⟨E, hE⟩ : ∃ E, E = Rn.env C (src k m) [x] 10000 := ⟨_, rfl⟩
    have hf : E.fuel = 10000 := by rw [hE]; rfl
    rw [← hE]
    have hg : 3 * (10000 : Int).toNat + 3 = 30000 + 1 + 1 + 1 := by decide
    rw [hg]
    have hkey : Jn.isKey (k : Int) = true := by unfold Jn.isKey; simp; omega
    have hmey : Jn.isKey (m : Int) = true := by unfold Jn.isKey; simp; omega
    obtain ⟨s0, hs0⟩ : ∃ s0 : Rn.St, s0 = Rn.start := ⟨_, rfl⟩
    have hu0 : s0.used = 0 := by rw [hs0]; rfl
    have hw0 : s0.writes = [] := by rw [hs0]; rfl
    have hp0 : s0.stopped = false := by rw [hs0]; rfl
    rw [← hs0]
    have uu : ∀ s : Rn.St, (Rn.use s).used = s.used + 1 := fun s => rfl
    have e1 := tx_num E (Rn.use s0) k (by omega) (by rw [uu]; omega)
    have e2 := tx_arg E (Rn.use (Rn.use (Rn.use s0))) [97, 48] 0 (by decide) (by simp only [uu]; omega)
    have e3 := tx_num E (Rn.use (Rn.use (Rn.use (Rn.use (Rn.use s0))))) m (by omega) (by simp only [uu]; omega)
    have e4 := tx_at E _ _ _ _ _ _ e3 (get_held E _ m (by exact hw0) hmey) (by simp only [uu]; omega)
    have e5 := tx_bin E (Rn.use (Rn.use s0)) _ _ [43] _ _ _ _ e2 e4 (by simp only [uu]; omega)
    have hk4 : kind [43] = 4 := by decide
    have hr4 : ∀ a b, Rn.reckon 4 a b = Rn.bounded (a + b) := fun a b => by unfold Rn.reckon Rn.sum; rw [if_neg (by decide), if_neg (by decide), if_pos rfl]
    rw [hk4, hr4] at e5
    unfold tree
    rw [ts_one E _ _ s0 hp0]
    have hst : ∀ n, Rn.tstmt E (n + 1) (.put (.leaf (Lib.decDigits k)) (.bin [43] (.leaf [97, 48]) (.un [64] (.leaf (Lib.decDigits m))))) s0 = Rn.putS ((k : Int), 0, Rn.use (Rn.use s0)) ((Rn.bounded (Rn.arg E 0 + (E.con.cells.getD ((m : Int)).toNat none).getD 0)).1, (Rn.bounded (Rn.arg E 0 + (E.con.cells.getD ((m : Int)).toNat none).getD 0)).2, Rn.use (Rn.use (Rn.use (Rn.use (Rn.use (Rn.use s0)))))) := by
      intro n
      rw [Rn.tstmt, if_neg (by omega), e1]
      simp only
      rw [e5]
    rw [hst]
    generalize Rn.arg E 0 + (E.con.cells.getD ((m : Int)).toNat none).getD 0 = z
    have hw6 : ∀ s : Rn.St, (Rn.use s).writes = s.writes := fun s => rfl
    by_cases hz : Jn.isVal z = true
    · left
      have hb : Rn.bounded z = (z, 0) := by unfold Rn.bounded; rw [if_pos hz]
      rw [hb]
      unfold Rn.putS
      simp only [ne_eq, not_true, if_false]
      unfold Rn.put
      simp [hkey, hw6, hw0, Rn.find]
    · right
      have hb : Rn.bounded z = (0, 7) := by unfold Rn.bounded; rw [if_neg hz]
      rw [hb]
      unfold Rn.putS
      simp
  rw [hrun]
  rw [hN] at key
  split
  · exact key
  · exact .inl rfl
end Kp
end Go.Proofs.YtellilpeakpbfaaGreatDoor

end
