import Derived.Test.YtellilpeakpbfabGreatDoorCardRToo
import Derived.Test.YtellilpeakpbfabGreatDoorProcDToo
import Derived.Test.YtellilpeakpbfabGreatDoorSmallToo
section
/-
  The walk of Run.
-/
namespace Go.Proofs.YtellilpeakpbfabGreatDoor
open Go.RowKit

theorem cellsOf_pairs (ts : List (List UInt8)) : cellsOf ts = pairs ((ts.map Ck.tokenP).map cPair) := by
  induction ts with
  | nil => rfl
  | cons t r ih =>
    have e : cellsOf (t :: r) = .int .i64 (Ck.tokenP t).1 :: .int .i64 (Ck.tokenP t).2 :: cellsOf r := rfl
    rw [e, ih]
    rfl
theorem WkAt.setE {X B : Nat} {w : World} {tv wv : Value} {E E' : Rn.En} {s : Rn.St} (h : WkAt X B w tv E s) (j : Nat) (u : Value) (hm : w.heap[X]? = some (.cells (wkCur E tv wv B s) 138 (0, 0))) (hr : WRow w (X + 1) wv s.writes)
    (hc : (wkCur E tv wv B s).setIfInBounds j u = wkCur E' tv wv B s) (htk : E'.tk = E.tk) (hcn : E'.con = E.con) (hf : Rn.Fit E' s) : WkAt X B (w.setCell ⟨X, j, none⟩ u) tv E' s ∧ WkFr X w (w.setCell ⟨X, j, none⟩ u) := by
  have f0 : Fr X [] (some X) w (w.setCell ⟨X, j, none⟩ u) := fr_setCell w X j u (Nat.le_refl _)
  have f1 : WkFr X w (w.setCell ⟨X, j, none⟩ u) := (fr_setCell w X j u (Nat.le_refl _)).typed (fun k hk => by cases hk; exact ⟨_, _, _, hm, by simp⟩) none
  refine ⟨⟨⟨wv, ?_, ?_⟩, ?_, ?_, hf⟩, f1⟩
  · rw [heap_setCell_same w X j _ _ u hm, hc]
  · exact own_fr hr f0 (by simp) (.inr fun e => by have := own_lies hr X e.symm; omega)
  · rw [htk]; exact own_fr h.toks f1 (by decide) (.inl rfl)
  · rw [hcn]
    have f2 : Fr 0 [138, 142] none w (w.setCell ⟨X, j, none⟩ u) := f1.mono (Nat.zero_le _) (fun _ h => h)
    exact h.con.fr f2 (by decide) (by decide) (by simp)
theorem getD_take (l : List Int) (k : Nat) (a : Int) (h : l[k]? = some a) (i : Nat) : (l.take (k + 1)).getD i 0 = if i = k then a else (l.take k).getD i 0 := by
  rw [List.getD_eq_getElem?_getD, List.getD_eq_getElem?_getD, List.getElem?_take, List.getElem?_take]
  by_cases h1 : i = k
  · subst h1; rw [if_pos (by omega), if_pos rfl, h]; rfl
  · rw [if_neg h1]
    by_cases h2 : i < k
    · rw [if_pos (by omega), if_pos h2]
    · rw [if_neg (by omega), if_neg h2]
theorem take_bd {l : List Int} (h : ∀ a ∈ l, -1000000000 ≤ a ∧ a ≤ 1000000000) (k : Nat) : ∀ a ∈ l.take k, -1000000000 ≤ a ∧ a ≤ 1000000000 := fun a ha => h a (List.mem_of_mem_take ha)

theorem WkAt.setArg {X B : Nat} {w : World} {tv : Value} {C : Jn.Con} {src : List UInt8} {l : List Int} {fuel : Int} {k : Nat} {a : Int} (h : WkAt X B w tv (Rn.env C src (l.take k) fuel) Rn.start) (hk : k < 4) (hl : l[k]? = some a) (hb : ∀ a ∈ l, -1000000000 ≤ a ∧ a ≤ 1000000000) (hr : (Ck.read src).2 = 0) (hfu : 0 ≤ fuel ∧ fuel ≤ 10000) :
    WkAt X B (w.setCell ⟨X, 2 + k, none⟩ (.int .i64 a)) tv (Rn.env C src (l.take (k + 1)) fuel) Rn.start ∧ WkFr X w (w.setCell ⟨X, 2 + k, none⟩ (.int .i64 a)) := by
  obtain ⟨wv, hrw, hm, -, -⟩ := h.cells
  refine h.setE (2 + k) (.int .i64 a) hm hrw ?_ rfl rfl (Rn.fit_start C src _ fuel h.fit.con hr hfu (take_bd hb _))
  have g := getD_take l k a hl
  have hk' : k = 0 ∨ k = 1 ∨ k = 2 ∨ k = 3 := by omega
  unfold wkCur Rn.env
  simp only [g]
  rcases hk' with rfl | rfl | rfl | rfl <;> rfl

/-- what Run answers. -/
def RunPost (r : Int × Int × List (Int × Bool × Int) × Int) (w : World) (e : Ending) (w' : World) : Prop :=
  ∃ wv, e = .returned (.tuple #[.agg #[.int .i64 r.1, .int .i64 r.2.1], wv, .int .i64 r.2.2.2]) ∧ WRow w' w.heap.size wv r.2.2.1 ∧ Below w.heap.size w w'

theorem out_two {w1 : World} {R : Nat} {a b a' b' : Value} (e0 : w1.cell? ⟨R, 0, none⟩ = some a') (e1 : w1.cell? ⟨R, 1, none⟩ = some b') :
    ((w1.setCell ⟨R, 0, none⟩ a).setCell ⟨R, 1, none⟩ b).cell? ⟨R, 0, none⟩ = some a ∧ ((w1.setCell ⟨R, 0, none⟩ a).setCell ⟨R, 1, none⟩ b).cell? ⟨R, 1, none⟩ = some b :=
  ⟨(World.cell?_setCell_other _ _ _ _ (by simp)).trans (World.cell?_setCell_same w1 ⟨R, 0, none⟩ a e0), World.cell?_setCell_same _ ⟨R, 1, none⟩ b ((World.cell?_setCell_other _ _ _ _ (by simp)).trans e1)⟩

set_option maxHeartbeats 2000000 in
set_option maxRecDepth 100000 in
theorem run_refused (B : Nat) (C : Jn.Con) (src : ByteArray) (v : Value) (args : List Int) (fuel : Int) (w : World) (hW : WordsAt w) (hv : IntsAt w v args) (hr : Rn.may args fuel = false ∨ (Ck.read src.data.toList).2 ≠ 0) :
    Calls Tryz.prog 45 #[.pointer (some ⟨B, 0, none⟩), .string src, v, .int .i64 fuel] w (RunPost (Rn.run C src.data.toList args fuel) w) := by
  obtain ⟨q, hq⟩ : ∃ q, q = Rn.run C src.data.toList args fuel := ⟨_, rfl⟩
  rw [← hq]
  unfold Rn.run at hq
  have HQ := hide hq
  obtain ⟨w1, hw1⟩ : ∃ w1, w1 = w.alloc (.cells #[.int .i64 0, .int .i64 0] 45) := ⟨_, rfl⟩
  have hb1 : Below w.heap.size w w1 := by rw [hw1]; exact (Below.refl _ _).alloc (Nat.le_refl _) _
  have hn1 : w1.heap[w.heap.size]? = some (.cells #[.int .i64 0, .int .i64 0] 45 (0, 0)) := by rw [hw1]; exact heap_alloc_new w _
  have HM := hide (mayRun_any w1 v args fuel (hv.below hb1))
  have HRD := hide (read_any src w1 (hW.below hW.1 hb1))
  have HN1 := hide hn1
  have HB1 := hide hb1
  obtain ⟨ao, cap, rfl, -⟩ := hv
  clear hq hW hb1 hn1
  obtain ⟨R, hR⟩ : ∃ R, R = w.heap.size := ⟨_, rfl⟩
  rw [← hR] at HN1
  go_enter Tryz.func45, Tryz.ntmps45
  go_upto_region 1 with fail
  rw [← hw1, ← hR]
  clear hw1
  have HR := hide hR
  clear hR
  cases hm : Rn.may args fuel with
  | false =>
    rw [hm] at HM
    have HE : Hid (q = (0, 0, [], 6)) := by show _ = _; rw [HQ.out, if_pos hm]
    have e0 : w1.cell? ⟨R, 0, none⟩ = some (.int .i64 0) := (cell_of_row w1 _ 0 _ _ _ HN1.out).trans rfl
    have e1 : w1.cell? ⟨R, 1, none⟩ = some (.int .i64 0) := (cell_of_row w1 _ 1 _ _ _ HN1.out).trans rfl
    have g0 : w1.frozen? ⟨R, 0, none⟩ = false := frozen_of_row w1 _ 0 _ _ HN1.out
    have g1 : w1.frozen? ⟨R, 1, none⟩ = false := frozen_of_row w1 _ 1 _ _ HN1.out
    clear HQ hr hm HRD
    go_wp2_with fail
    refine HM.out.mono ?_
    rintro e w2 ⟨rfl, rfl⟩
    go_wp2
    obtain ⟨s0, s1⟩ := out_two (a := .int .i64 0) (b := .int .i64 0) e0 e1
    refine bodyPost_ret (v := .tuple #[.agg #[.int .i64 0, .int .i64 0], .slice none 0 0, .int .i64 6]) (by simp [results, Tryz.results45, go_sem, s0, s1]) rfl ?_
    rw [HE.out]
    have hle : w.heap.size ≤ R := Nat.le_of_eq HR.out.symm
    exact ⟨_, rfl, World.ownsRow_nil _ _ _ _, (HB1.out.setCell (p := ⟨R, 0, none⟩) hle _).setCell (p := ⟨R, 1, none⟩) hle _⟩
  | true =>
    rw [hm] at HM
    have hrn : (Ck.read src.data.toList).2 ≠ 0 := by rcases hr with h | h; · rw [hm] at h; cases h
                                                     · exact h
    have HE : Hid (q = (0, 0, [], (Ck.read src.data.toList).2)) := by show _ = _; rw [HQ.out, if_neg (by rw [hm]; simp), if_pos hrn]
    clear HQ hr hm
    generalize Ck.read src.data.toList = p at *
    obtain ⟨p1, p2⟩ := p
    simp only at HE hrn HRD
    have t1 : (p2 != 0) = true := by simpa using hrn
    go_wp2_with fail
    refine HM.out.mono ?_
    rintro e w2 ⟨rfl, rfl⟩
    go_wp2_with fail
    refine HRD.out.mono ?_
    rintro e w3 ⟨tv, rfl, hb3, -⟩
    have hn3 := (hb3.block R (Array.getElem?_eq_some_iff.1 HN1.out).1).trans HN1.out
    have e0 : w3.cell? ⟨R, 0, none⟩ = some (.int .i64 0) := (cell_of_row w3 _ 0 _ _ _ hn3).trans rfl
    have e1 : w3.cell? ⟨R, 1, none⟩ = some (.int .i64 0) := (cell_of_row w3 _ 1 _ _ _ hn3).trans rfl
    have g0 : w3.frozen? ⟨R, 0, none⟩ = false := frozen_of_row w3 _ 0 _ _ hn3
    have g1 : w3.frozen? ⟨R, 1, none⟩ = false := frozen_of_row w3 _ 1 _ _ hn3
    have HB3 := hide (HB1.out.trans (hb3.mono HB1.out.size))
    clear hb3 hn3 HRD HM
    go_wp2
    obtain ⟨s0, s1⟩ := out_two (a := .int .i64 0) (b := .int .i64 0) e0 e1
    refine bodyPost_ret (v := .tuple #[.agg #[.int .i64 0, .int .i64 0], .slice none 0 0, .int .i64 p2]) (by simp [results, Tryz.results45, go_sem, s0, s1]) rfl ?_
    rw [HE.out]
    have hle : w.heap.size ≤ R := Nat.le_of_eq HR.out.symm
    exact ⟨_, rfl, World.ownsRow_nil _ _ _ _, (HB3.out.setCell (p := ⟨R, 0, none⟩) hle _).setCell (p := ⟨R, 1, none⟩) hle _⟩
end Go.Proofs.YtellilpeakpbfabGreatDoor

end

section
/-
  The walk of Run: the source is worked out.
-/
namespace Go.Proofs.YtellilpeakpbfabGreatDoor
open Go.RowKit

def ArRel (X B : Nat) (tv : Value) (C : Jn.Con) (src : List UInt8) (l : List Int) (fuel : Int) (w : World) (i : Value) (wr : World) : Prop :=
  ∃ k : Nat, k ≤ l.length ∧ i = .int .i64 k ∧ WkAt X B wr tv (Rn.env C src (l.take k) fuel) Rn.start ∧ WkFr X w wr

set_option maxHeartbeats 4000000 in
set_option maxRecDepth 100000 in
theorem run_works (B : Nat) (C : Jn.Con) (src : ByteArray) (v : Value) (args : List Int) (fuel : Int) (w : World) (hcon : ConAt 0 w B C) (hW : WordsAt w) (hv : IntsAt w v args) (hm : Rn.may args fuel = true) (hrd : (Ck.read src.data.toList).2 = 0) :
    Calls Tryz.prog 45 #[.pointer (some ⟨B, 0, none⟩), .string src, v, .int .i64 fuel] w (RunPost (Rn.run C src.data.toList args fuel) w) := by
  obtain ⟨q, hq⟩ : ∃ q, q = Rn.run C src.data.toList args fuel := ⟨_, rfl⟩
  rw [← hq]
  unfold Rn.run at hq
  rw [if_neg (by rw [hm]; simp), if_neg (by simpa using hrd)] at hq
  simp only at hq
  obtain ⟨ml, mf0, mf1, mb⟩ := Rn.may_facts hm
  have hok := hcon.ok
  have HQ := hide hq
  obtain ⟨w1, hw1⟩ : ∃ w1, w1 = w.alloc (.cells #[.int .i64 0, .int .i64 0] 45) := ⟨_, rfl⟩
  have hb1 : Below w.heap.size w w1 := by rw [hw1]; exact (Below.refl _ _).alloc (Nat.le_refl _) _
  have hn1 : w1.heap[w.heap.size]? = some (.cells #[.int .i64 0, .int .i64 0] 45 (0, 0)) := by rw [hw1]; exact heap_alloc_new w _
  have hz1 : w1.heap.size = w.heap.size + 1 := by rw [hw1]; simp
  have hmr := mayRun_any w1 v args fuel (hv.below hb1)
  rw [hm] at hmr
  have HM := hide hmr
  have hread := read_any src w1 (hW.below hW.1 hb1)
  have HN1 := hide hn1
  have HB1 := hide hb1
  have HCON := hide hcon
  have hv' := hv
  obtain ⟨ao, cap, rfl, hvc⟩ := hv'
  have HVC := hide hvc
  have hgz : ∀ g z, ao = some ⟨g, z, none⟩ → 0 < args.length → g < w.heap.size := by
    intro g z hg hl
    obtain ⟨g', z', hg', hcs⟩ := hvc hl
    rw [hg] at hg'
    cases hg'
    exact World.block_lt_of_cell? w _ (hcs 0 args[0] (by simp [hl]))
  have HGZ := hide hgz
  clear hq hW hb1 hn1 hmr hcon hvc hv hgz
  have HRD0 := hide hrd
  generalize hp : Ck.read src.data.toList = p at hread hrd
  obtain ⟨p1, p2⟩ := p
  simp only at hread hrd
  subst hrd
  have HRD := hide hread
  clear hread hp
  obtain ⟨R, hR⟩ : ∃ R, R = w.heap.size := ⟨_, rfl⟩
  rw [← hR] at HN1
  have hRle : w.heap.size ≤ R := Nat.le_of_eq hR.symm
  go_enter Tryz.func45, Tryz.ntmps45
  go_upto_region 1 with fail
  rw [← hw1, ← hR]
  clear hw1
  have HRE := hide hR
  clear hR
  go_wp2_with fail
  refine HM.out.mono ?_
  rintro e w2 ⟨rfl, rfl⟩
  go_wp2_with fail
  refine HRD.out.mono ?_
  rintro e w3 ⟨tv, rfl, hb3, htk⟩
  have htk' := htk (by trivial)
  have hrow : TkRow w3 0 tv ((Ck.toks src.data.toList).map Ck.tokenP) := by
    unfold TkRow
    rw [← cellsOf_pairs, List.length_map]
    exact ownsRow_base htk' (Nat.zero_le _)
  have hb03 : Below w.heap.size w w3 := HB1.out.trans (hb3.mono HB1.out.size)
  obtain ⟨tao, tcap, htv, -⟩ := hrow.shape
  rw [List.length_map] at htv
  obtain ⟨X, hX⟩ : ∃ X, X = w3.heap.size := ⟨_, rfl⟩
  obtain ⟨w4, hw4⟩ : ∃ w4, w4 = w3.alloc (.cells #[tv, .int .i64 0, .int .i64 0, .int .i64 0, .int .i64 0, .int .i64 0, .int .i64 0, .int .i64 0, .int .i64 0, .int .i64 0, .pointer (some ⟨B, 0, none⟩), .slice none 0 0, .int .i64 fuel, .int .i64 0, .bool false, .int .i64 0] 138) := ⟨_, rfl⟩
  have hb4 : Below w3.heap.size w3 w4 := by rw [hw4]; exact (Below.refl _ _).alloc (Nat.le_refl _) _
  have hn4 : w4.heap[X]? = some (.cells #[tv, .int .i64 0, .int .i64 0, .int .i64 0, .int .i64 0, .int .i64 0, .int .i64 0, .int .i64 0, .int .i64 0, .int .i64 0, .pointer (some ⟨B, 0, none⟩), .slice none 0 0, .int .i64 fuel, .int .i64 0, .bool false, .int .i64 0] 138 (0, 0)) := by rw [hw4, hX]; exact heap_alloc_new w3 _
  have hwk : WkAt X B w4 tv (Rn.env C src.data.toList (args.take 0) fuel) Rn.start := by
    refine ⟨⟨.slice none 0 0, ?_, World.ownsRow_nil _ _ _ _⟩, ownsRow_below hrow hb4, ((HCON.out.below hb03).below hb4), Rn.fit_start C _ _ fuel hok HRD0.out ⟨mf0, mf1⟩ (take_bd mb 0)⟩
    rw [hn4]
    have e : ((fuel.toNat : Nat) : Int) = fuel := by omega
    simp only [wkCur, Rn.env, Rn.start, e]
    rfl
  have hRX : R < X := by have := hb3.size; have := HRE.out; omega
  have HR0 : Hid (ArRel X B tv C src.data.toList args fuel w4 (.int .i64 (0 : Int)) w4) := ⟨0, Nat.zero_le _, rfl, hwk, Fr.refl _ _ _ _⟩
  have hb04 : Below w.heap.size w w4 := hb03.trans (hb4.mono hb03.size)
  have hR4 : w4.heap[R]? = some (.cells #[.int .i64 0, .int .i64 0] 45 (0, 0)) := ((hb4.block R (by rw [← hX]; exact hRX)).trans (hb3.block R (Array.getElem?_eq_some_iff.1 HN1.out).1)).trans HN1.out
  have HB4 := hide hb04
  have HR4 := hide hR4
  have hwX : w.heap.size ≤ X := by have := HRE.out; omega
  subst htv
  clear htk htk' hrow hb03 hb3 hb4 hn4 hwk hb04 hR4 HM HRD HB1 HN1 HCON hz1
  go_upto_region 7 with fail
  rw [← hw4, ← hX]
  have HW4 := hide hw4
  have HXX := hide hX
  clear hw4 hX
  go_wp2
  go_loopw [15] (fun i wr => ArRel X B (.slice tao (Ck.toks src.data.toList).length tcap) C src.data.toList args fuel w4 i wr) (fun i _ => args.length - (intOf i).toNat)
  case atStart => exact HR0.out
  case round =>
    obtain ⟨k, hk, rfl, hwk, hfr⟩ := hrel
    have HK := hide hwk
    have HF := hide hfr
    clear hwk hfr HR0
    by_cases hlt : k < args.length
    · have tk : decide ((k : Int) < (args.length : Int)) = true := by simp; omega
      have t4 : decide ((k : Int) < 4) = true := by simp; omega
      obtain ⟨g, z, rfl, hcs⟩ := HVC.out (by omega)
      obtain ⟨a, ha⟩ : ∃ a, args[k]? = some a := ⟨args[k], by simp [hlt]⟩
      have hg := HGZ.out g z rfl (by omega)
      have d0 := at_old HB4.out (hcs k a ha)
      have d1 : wr.cell? ⟨g, z + k, none⟩ = some (.int .i64 a) := ((Fr.below HF.out).cell (p := ⟨g, z + k, none⟩) (by show g < X; omega)).trans d0
      have HS := hide (HK.out.setArg (by omega) ha mb HRD0.out ⟨mf0, mf1⟩)
      obtain ⟨wv, -, hm4, hc, hz⟩ := HK.out.cells
      have hk' : k = 0 ∨ k = 1 ∨ k = 2 ∨ k = 3 := by omega
      have c2 : wr.cell? ⟨X, 2, none⟩ = some (.int .i64 ((args.take k).getD 0 0)) := hc 2
      have c3 : wr.cell? ⟨X, 3, none⟩ = some (.int .i64 ((args.take k).getD 1 0)) := hc 3
      have c4 : wr.cell? ⟨X, 4, none⟩ = some (.int .i64 ((args.take k).getD 2 0)) := hc 4
      have c5 : wr.cell? ⟨X, 5, none⟩ = some (.int .i64 ((args.take k).getD 3 0)) := hc 5
      have f2 := hz 2
      have f3 := hz 3
      have f4 := hz 4
      have f5 := hz 5
      have HRR : Hid (ArRel X B (.slice tao (Ck.toks src.data.toList).length tcap) C src.data.toList args fuel w4 (.int .i64 ((k : Int) + 1)) (wr.setCell ⟨X, 2 + k, none⟩ (.int .i64 a))) := ⟨k + 1, by omega, by go_num, HS.out.1, HF.out.trans HS.out.2⟩
      clear hcs ha d0 hm4 hc hz HS HK
      rcases hk' with rfl | rfl | rfl | rfl
      all_goals
        try rw [Nat.add_zero] at d1
        go_wp2
        go_roundw
        case rel => exact HRR.out
        case measure => simp [intOf]; omega
    · have tk : decide ((k : Int) < (args.length : Int)) = false := by simp; omega
      have hke : args.take k = args := List.take_of_length_le (by omega)
      rw [hke] at HK
      have HST := hide (statements_any X B (.slice tao (Ck.toks src.data.toList).length tcap) (Rn.env C src.data.toList args fuel) (3 * fuel.toNat + 3) Rn.start (by simp [Rn.env, Rn.start]) wr HK.out)
      generalize Rn.stmts (Rn.env C src.data.toList args fuel) (3 * fuel.toNat + 3) Rn.start = r at HQ HST
      obtain ⟨r1, sr⟩ := r
      simp only at HQ
      clear hke
      go_wp2_with fail
      refine HST.out.mono ?_
      rintro e w6 ⟨rfl, hk6, hf6⟩
      have hf46 := HF.out.trans hf6
      have hR6 := (hf46.below.block R hRX).trans HR4.out
      have e0 : w6.cell? ⟨R, 0, none⟩ = some (.int .i64 0) := (cell_of_row w6 _ 0 _ _ _ hR6).trans rfl
      have e1 : w6.cell? ⟨R, 1, none⟩ = some (.int .i64 0) := (cell_of_row w6 _ 1 _ _ _ hR6).trans rfl
      have g0 : w6.frozen? ⟨R, 0, none⟩ = false := frozen_of_row w6 _ 0 _ _ hR6
      have g1 : w6.frozen? ⟨R, 1, none⟩ = false := frozen_of_row w6 _ 1 _ _ hR6
      obtain ⟨wv, hrw, -, hc, -⟩ := hk6.cells
      have c13 : w6.cell? ⟨X, 13, none⟩ = some (.int .i64 sr.used) := hc 13
      have c15 : w6.cell? ⟨X, 15, none⟩ = some (.int .i64 sr.result) := hc 15
      have c11 : w6.cell? ⟨X, 11, none⟩ = some wv := hc 11
      obtain ⟨wao, wcap, rfl, -⟩ := hrw.shape
      have HRW := hide hrw
      have HB6 : Hid (Below w.heap.size w w6) := HB4.out.trans (hf46.below.mono hwX)
      clear hk6 hf6 hf46 hR6 hc hrw HST HK HF
      have hne : X ≠ R := by omega
      cases ht : (r1 != (0 : Int)) with
      | true =>
        have HE : Hid (q = ((0 : Int), (sr.used : Int), [], r1)) := by show _ = _; rw [HQ.out, if_pos (by simpa using ht)]
        clear HQ
        go_wp2
        obtain ⟨s0, s1⟩ := out_two (a := .int .i64 0) (b := .int .i64 sr.used) e0 e1
        refine bodyPost_ret (v := .tuple #[.agg #[.int .i64 0, .int .i64 sr.used], .slice none 0 0, .int .i64 r1]) (by simp [results, Tryz.results45, go_sem, s0, s1]) rfl ?_
        rw [HE.out]
        exact ⟨_, rfl, World.ownsRow_nil _ _ _ _, (HB6.out.setCell (p := ⟨R, 0, none⟩) hRle _).setCell (p := ⟨R, 1, none⟩) hRle _⟩
      | false =>
        have h0 : r1 = 0 := by simpa using ht
        have HE : Hid (q = (sr.result, (sr.used : Int), sr.writes, (0 : Int))) := by show _ = _; rw [HQ.out, if_neg (by simpa using h0)]
        clear HQ
        subst h0
        go_wp2
        go_region
        go_wp2
        obtain ⟨s0, s1⟩ := out_two (w1 := w6) (a := .int .i64 sr.result) (b := .int .i64 sr.used) e0 e1
        have s0' : ((w6.setCell ⟨R, 0, none⟩ (.int .i64 sr.result)).setCell ⟨R, 1, none⟩ (.int .i64 sr.used)).drew.cell? ⟨R, 0, none⟩ = some (.int .i64 sr.result) := s0
        have s1' : ((w6.setCell ⟨R, 0, none⟩ (.int .i64 sr.result)).setCell ⟨R, 1, none⟩ (.int .i64 sr.used)).drew.cell? ⟨R, 1, none⟩ = some (.int .i64 sr.used) := s1
        refine bodyPost_ret (v := .tuple #[.agg #[.int .i64 sr.result, .int .i64 sr.used], .slice wao sr.writes.length wcap, .int .i64 0]) (by simp [results, Tryz.results45, go_sem, s0', s1']) rfl ?_
        rw [HE.out]
        refine ⟨_, rfl, ?_, Below.drew ((HB6.out.setCell (p := ⟨R, 0, none⟩) hRle _).setCell (p := ⟨R, 1, none⟩) hRle _)⟩
        have h1 := ownsRow_setCell_below HRW.out (a := ⟨R, 0, none⟩) (by show R < X + 1; omega) (.int .i64 sr.result)
        have h2 := ownsRow_setCell_below h1 (a := ⟨R, 1, none⟩) (by show R < X + 1; omega) (.int .i64 sr.used)
        exact ownsRow_base h2 (by omega)

theorem run_any (B : Nat) (C : Jn.Con) (src : ByteArray) (v : Value) (args : List Int) (fuel : Int) (w : World) (hcon : ConAt 0 w B C) (hW : WordsAt w) (hv : IntsAt w v args) :
    Calls Tryz.prog 45 #[.pointer (some ⟨B, 0, none⟩), .string src, v, .int .i64 fuel] w (RunPost (Rn.run C src.data.toList args fuel) w) := by
  cases hm : Rn.may args fuel with
  | false => exact run_refused B C src v args fuel w hW hv (.inl hm)
  | true =>
    by_cases hr : (Ck.read src.data.toList).2 = 0
    · exact run_works B C src v args fuel w hcon hW hv hm hr
    · exact run_refused B C src v args fuel w hW hv (.inr hr)
end Go.Proofs.YtellilpeakpbfabGreatDoor

end

section
/-
  The walks of the store's writeCell and write.
-/
namespace Go.Proofs.YtellilpeakpbfabGreatDoor
open Go.RowKit

namespace Rn
/-- the contents behind one write, and its entry. -/
def wcell (C : Jn.Con) (p : Int × Bool × Int) : Jn.Con × List UInt8 :=
  if (held C p.1).2.1 = p.2.1 ∧ (held C p.1).1 = p.2.2 then (C, []) else
  if p.2.1 = true then ((Jn.put C p.1 p.2.2).1, Jn.putE p.1 p.2.2) else ((Jn.del C p.1).1, Jn.delE p.1)
def wcells (C : Jn.Con) : List (Int × Bool × Int) → Jn.Con × List UInt8
  | [] => (C, [])
  | p :: r => ((wcells (wcell C p).1 r).1, (wcell C p).2 ++ (wcells (wcell C p).1 r).2)
theorem wcells_snoc (ws : List (Int × Bool × Int)) (p : Int × Bool × Int) : ∀ C, wcells C (ws ++ [p]) = ((wcell (wcells C ws).1 p).1, (wcells C ws).2 ++ (wcell (wcells C ws).1 p).2) := by
  induction ws with
  | nil => intro C; simp [wcells]
  | cons a r ih =>
    intro C
    rw [List.cons_append, wcells, ih, wcells]
    simp
/-- a write that may be. -/
def WrOk (p : Int × Bool × Int) : Prop := Jn.isKey p.1 = true ∧ (-1000000000 ≤ p.2.2 ∧ p.2.2 ≤ 1000000000)
theorem wcell_ok {C : Jn.Con} (h : Jn.Ok C) (p : Int × Bool × Int) : Jn.Ok (wcell C p).1 := by
  unfold wcell
  split
  · exact h
  · split
    · exact h.put _ _
    · exact h.del _
theorem wcell_len (C : Jn.Con) (p : Int × Bool × Int) (h : WrOk p) : (wcell C p).2.length ≤ 25 := by
  have hk : 0 ≤ p.1 ∧ p.1 ≤ 99 := by have := h.1; unfold Jn.isKey at this; simpa using this
  have h1 := itoa_len p.1 (by omega) (by omega)
  have h2 := itoa_len p.2.2 h.2.1 h.2.2
  unfold wcell
  split
  · simp
  · split
    · simp [Jn.putE]; omega
    · simp [Jn.delE]; omega
theorem wcells_len (ws : List (Int × Bool × Int)) : ∀ C, (∀ p ∈ ws, WrOk p) → (wcells C ws).2.length ≤ 25 * ws.length := by
  induction ws with
  | nil => intro C _; simp [wcells]
  | cons p r ih =>
    intro C h
    have h1 := wcell_len C p (h p (by simp))
    have h2 := ih (wcell C p).1 (fun q hq => h q (by simp [hq]))
    simp only [wcells, List.length_append, List.length_cons]
    omega
end Rn

/-- what writeCell answers. -/
def WcPost (L S B : Nat) (f : Int) (r : Jn.Con × List UInt8) (w : World) (e : Ending) (w' : World) : Prop :=
  ∃ X : ByteArray, e = .returned (.string X) ∧ X.data.toList = r.2 ∧ StAt L w' S B r.1 f ∧ Fr L [] (some B) w w'

set_option maxHeartbeats 4000000 in
set_option maxRecDepth 100000 in
theorem writeCell_any (L S B : Nat) (C : Jn.Con) (f : Int) (p : Int × Bool × Int) (w : World) (h : StAt L w S B C f) (hp : Rn.WrOk p) (hP : PowAt w) (hpL : 1 < L) :
    Calls Tryz.prog 68 #[.pointer (some ⟨S, 0, none⟩), .agg #[.int .i64 p.1, .bool p.2.1, .int .i64 p.2.2]] w (WcPost L S B f (Rn.wcell C p) w) := by
  obtain ⟨r, hr⟩ : ∃ r, r = Rn.wcell C p := ⟨_, rfl⟩
  rw [← hr]
  unfold Rn.wcell at hr
  have HR := hide hr
  obtain ⟨p1, p2, p3⟩ := p
  obtain ⟨hk, hv0, hv1⟩ := hp
  simp only at hk hv0 hv1 HR ⊢
  have hk' : 0 ≤ p1 ∧ p1 ≤ 99 := by unfold Jn.isKey at hk; simpa using hk
  obtain ⟨w1, hw1⟩ : ∃ w1, w1 = w.alloc (.cells #[.int .i64 p1, .bool p2, .int .i64 p3] 142) := ⟨_, rfl⟩
  have hb1 : Below w.heap.size w w1 := by rw [hw1]; exact (Below.refl _ _).alloc (Nat.le_refl _) _
  have hn1 : w1.heap[w.heap.size]? = some (.cells #[.int .i64 p1, .bool p2, .int .i64 p3] 142 (0, 0)) := by rw [hw1]; exact heap_alloc_new w _
  have hLw : L ≤ w.heap.size := Nat.le_trans h.low (Nat.le_of_lt h.lt)
  have h1 := h.below hb1
  obtain ⟨c0, -, -, -⟩ := h1.cells
  obtain ⟨N, hN⟩ : ∃ N, N = w.heap.size := ⟨_, rfl⟩
  rw [← hN] at hn1
  have e0 : w1.cell? ⟨N, 0, none⟩ = some (.int .i64 p1) := (cell_of_row w1 _ 0 _ _ _ hn1).trans rfl
  have HK : Hid (∀ x : World, Below w1.heap.size w1 x → x.cell? ⟨S, 0, none⟩ = some (.pointer (some ⟨B, 0, none⟩)) ∧ x.cell? ⟨N, 0, none⟩ = some (.int .i64 p1)) := fun x hx => ⟨at_old hx c0, at_old hx e0⟩
  have HG := hide (fun x (hx : Below w1.heap.size w1 x) => heldGet_any B C p1 x (((h1.below hx).con).fr (Fr.refl L [] none _) (by simp) (by simp) (by simp) |> fun (q : ConAt L x B C) => ⟨Nat.zero_le _, q.ok, q.mem⟩))
  have HB1 := hide hb1
  have HN1 := hide hn1
  have H1 := hide h1
  have HPW := hide hP
  have HH := hide h
  clear hr hb1 hn1 h1 h hP
  generalize Rn.held C p1 = g at HR HG
  obtain ⟨g1, g2, g3⟩ := g
  simp only at HR HG
  go_enter Tryz.func68, Tryz.ntmps68
  go_upto_region 1 with fail
  rw [← hw1, ← hN]
  have HNN := hide hN
  clear hw1 hN
  go_region_held3 (fun w' => w'.cell? ⟨S, 0, none⟩ = some (.pointer (some ⟨B, 0, none⟩)) ∧ w'.cell? ⟨N, 0, none⟩ = some (.int .i64 p1)) (first | with_reducible exact HK.out _ hb2 | go_keep)
    (first | (go_at_call 59; refine (HG.out _ (Below.drew (Below.refl _ _))).mono ?_; rintro e w2 ⟨rfl, hb20⟩; have hb2 : Below w1.heap.size w1 w2 := (Below.drew (Below.refl _ _)).trans hb20))
  have hn2 := (hb2.block N (Array.getElem?_eq_some_iff.1 HN1.out).1).trans HN1.out
  have x0 : w2.cell? ⟨N, 0, none⟩ = some (.int .i64 p1) := (cell_of_row w2 _ 0 _ _ _ hn2).trans rfl
  have x1 : w2.cell? ⟨N, 1, none⟩ = some (.bool p2) := (cell_of_row w2 _ 1 _ _ _ hn2).trans rfl
  have x2 : w2.cell? ⟨N, 2, none⟩ = some (.int .i64 p3) := (cell_of_row w2 _ 2 _ _ _ hn2).trans rfl
  have hb02 : Below w.heap.size w w2 := HB1.out.trans (hb2.mono HB1.out.size)
  have H2 := hide (HH.out.below hb02)
  have y0 := (HK.out _ hb2).1
  have HB2 := hide hb02
  have HN2 := hide hn2
  have HF2 : Hid (Fr L [] (some B) w w2) := Fr.of hb02 hLw
  have hBS : B ≠ S := by obtain ⟨cur, v0, hh, -⟩ := H2.out.con.mem; intro e; subst e; have := hh.symm.trans H2.out.mem; simp at this
  have hBN : B ≠ N := by have h1 := HH.out.con.lt; have h2 := HNN.out; omega
  clear hb2 hb20 hb02 hn2 c0 e0 HG HK
  by_cases hsame : g2 = p2 ∧ g1 = p3
  · obtain ⟨rfl, rfl⟩ := hsame
    have HE : Hid (r = (C, [])) := by show _ = _; rw [HR.out, if_pos ⟨rfl, rfl⟩]
    have tt1 : (g2 == g2) = true := by simp
    have tt2 : (g1 == g1) = true := by simp
    go_wp2
    go_ret
    rw [HE.out]
    exact ⟨⟨#[]⟩, rfl, rfl, H2.out, HF2.out⟩
  · have HQ : Hid (r = if p2 = true then ((Jn.put C p1 p3).1, Jn.putE p1 p3) else ((Jn.del C p1).1, Jn.delE p1)) := by show _ = _; rw [HR.out, if_neg hsame]
    clear HR
    cases p2 with
    | true =>
      have HE : Hid (r = ((Jn.put C p1 p3).1, Jn.putE p1 p3)) := by show _ = _; rw [HQ.out, if_pos rfl]
      have HPC := hide (fun x hx => putC_own L B C p1 p3 x hx)
      have HKP := hide (fun x (hx : Fr L [] (some B) w2 x) => (⟨(cell_of_row x S 0 _ _ _ (hx.block S _ _ _ H2.out.mem (by simp) (by simpa using hBS))).trans rfl, (cell_of_row x N 0 _ _ _ (hx.block N _ _ _ HN2.out (by simp) (by simpa using hBN))).trans rfl, (cell_of_row x N 2 _ _ _ (hx.block N _ _ _ HN2.out (by simp) (by simpa using hBN))).trans rfl⟩ : x.cell? ⟨S, 0, none⟩ = some (.pointer (some ⟨B, 0, none⟩)) ∧ x.cell? ⟨N, 0, none⟩ = some (.int .i64 p1) ∧ x.cell? ⟨N, 2, none⟩ = some (.int .i64 p3)))
      clear HQ
      generalize Jn.put C p1 p3 = pc at HE HPC
      obtain ⟨pc1, pc2⟩ := pc
      simp only at HE HPC
      cases g2 with
      | true =>
        have ht2 : (g1 == p3) = false := by
          rw [beq_eq_false_iff_ne]; intro e; exact hsame ⟨rfl, e⟩
        clear hsame
        go_wp2_with fail
        go_region_held3 (fun w' => w'.cell? ⟨S, 0, none⟩ = some (.pointer (some ⟨B, 0, none⟩)) ∧ w'.cell? ⟨N, 0, none⟩ = some (.int .i64 p1) ∧ w'.cell? ⟨N, 2, none⟩ = some (.int .i64 p3)) (first | with_reducible exact HKP.out _ hf3 | go_keep)
          (first | (go_at_call 35; refine (HPC.out w2.drew (H2.out.con.below (Below.drew (Below.refl _ _)))).mono ?_; rintro e w3 ⟨rfl, hc3, hf30⟩; have hf3 : Fr L [] (some B) w2 w3 := Fr.undrew hf30))
        obtain ⟨-, z0, z2⟩ := HKP.out _ hf3
        have H3 := hide (H2.out.conB hf3 hc3)
        have HF3 := hide (HF2.out.trans hf3)
        have HPJ := hide (putJ_any p1 p3 w3 (by omega) (by omega) hv0 hv1 (HPW.out.below hpL (HF2.out.trans hf3).below))
        clear hc3 hf3 hf30 HPC HKP y0 x0 x1 x2
        go_wp2_with fail
        refine HPJ.out.mono ?_
        rintro e w4 ⟨Y, rfl, hY, -, hb4⟩
        have HFIN : Hid (WcPost L S B f r w (.returned (.string Y)) w4) := by
          rw [HE.out]
          exact ⟨Y, rfl, hY, H3.out.below hb4, HF3.out.trans (Fr.of hb4 (Nat.le_trans hLw HF3.out.size))⟩
        clear hY hb4 HPJ
        go_wp2
        go_ret
        exact HFIN.out
      | false =>
        clear hsame
        go_wp2_with fail
        go_region_held3 (fun w' => w'.cell? ⟨S, 0, none⟩ = some (.pointer (some ⟨B, 0, none⟩)) ∧ w'.cell? ⟨N, 0, none⟩ = some (.int .i64 p1) ∧ w'.cell? ⟨N, 2, none⟩ = some (.int .i64 p3)) (first | with_reducible exact HKP.out _ hf3 | go_keep)
          (first | (go_at_call 35; refine (HPC.out w2.drew (H2.out.con.below (Below.drew (Below.refl _ _)))).mono ?_; rintro e w3 ⟨rfl, hc3, hf30⟩; have hf3 : Fr L [] (some B) w2 w3 := Fr.undrew hf30))
        obtain ⟨-, z0, z2⟩ := HKP.out _ hf3
        have H3 := hide (H2.out.conB hf3 hc3)
        have HF3 := hide (HF2.out.trans hf3)
        have HPJ := hide (putJ_any p1 p3 w3 (by omega) (by omega) hv0 hv1 (HPW.out.below hpL (HF2.out.trans hf3).below))
        clear hc3 hf3 hf30 HPC HKP y0 x0 x1 x2
        go_wp2_with fail
        refine HPJ.out.mono ?_
        rintro e w4 ⟨Y, rfl, hY, -, hb4⟩
        have HFIN : Hid (WcPost L S B f r w (.returned (.string Y)) w4) := by
          rw [HE.out]
          exact ⟨Y, rfl, hY, H3.out.below hb4, HF3.out.trans (Fr.of hb4 (Nat.le_trans hLw HF3.out.size))⟩
        clear hY hb4 HPJ
        go_wp2
        go_ret
        exact HFIN.out
    | false =>
      have HE : Hid (r = ((Jn.del C p1).1, Jn.delE p1)) := by show _ = _; rw [HQ.out, if_neg (by simp)]
      have HPC := hide (fun x hx => delC_own L B C p1 x hx)
      have HKP := hide (fun x (hx : Fr L [] (some B) w2 x) => (⟨(cell_of_row x S 0 _ _ _ (hx.block S _ _ _ H2.out.mem (by simp) (by simpa using hBS))).trans rfl, (cell_of_row x N 0 _ _ _ (hx.block N _ _ _ HN2.out (by simp) (by simpa using hBN))).trans rfl⟩ : x.cell? ⟨S, 0, none⟩ = some (.pointer (some ⟨B, 0, none⟩)) ∧ x.cell? ⟨N, 0, none⟩ = some (.int .i64 p1)))
      clear HQ
      generalize Jn.del C p1 = pc at HE HPC
      obtain ⟨pc1, pc2⟩ := pc
      simp only at HE HPC
      cases g2 with
      | false =>
        have ht2 : (g1 == p3) = false := by
          rw [beq_eq_false_iff_ne]; intro e; exact hsame ⟨rfl, e⟩
        clear hsame
        go_wp2_with fail
        go_region_held3 (fun w' => w'.cell? ⟨S, 0, none⟩ = some (.pointer (some ⟨B, 0, none⟩)) ∧ w'.cell? ⟨N, 0, none⟩ = some (.int .i64 p1)) (first | with_reducible exact HKP.out _ hf3 | go_keep)
          (first | (go_at_call 81; refine (HPC.out w2.drew (H2.out.con.below (Below.drew (Below.refl _ _)))).mono ?_; rintro e w3 ⟨rfl, hc3, hf30⟩; have hf3 : Fr L [] (some B) w2 w3 := Fr.undrew hf30))
        obtain ⟨-, z0⟩ := HKP.out _ hf3
        have H3 := hide (H2.out.conB hf3 hc3)
        have HF3 := hide (HF2.out.trans hf3)
        have HPJ := hide (delJ_any p1 w3 (by omega) (by omega) (HPW.out.below hpL (HF2.out.trans hf3).below))
        clear hc3 hf3 hf30 HPC HKP y0 x0 x1 x2
        go_wp2_with fail
        refine HPJ.out.mono ?_
        rintro e w4 ⟨Y, rfl, hY, -, hb4⟩
        have HFIN : Hid (WcPost L S B f r w (.returned (.string Y)) w4) := by
          rw [HE.out]
          exact ⟨Y, rfl, hY, H3.out.below hb4, HF3.out.trans (Fr.of hb4 (Nat.le_trans hLw HF3.out.size))⟩
        clear hY hb4 HPJ
        go_wp2
        go_ret
        exact HFIN.out
      | true =>
        clear hsame
        go_wp2_with fail
        go_region_held3 (fun w' => w'.cell? ⟨S, 0, none⟩ = some (.pointer (some ⟨B, 0, none⟩)) ∧ w'.cell? ⟨N, 0, none⟩ = some (.int .i64 p1)) (first | with_reducible exact HKP.out _ hf3 | go_keep)
          (first | (go_at_call 81; refine (HPC.out w2.drew (H2.out.con.below (Below.drew (Below.refl _ _)))).mono ?_; rintro e w3 ⟨rfl, hc3, hf30⟩; have hf3 : Fr L [] (some B) w2 w3 := Fr.undrew hf30))
        obtain ⟨-, z0⟩ := HKP.out _ hf3
        have H3 := hide (H2.out.conB hf3 hc3)
        have HF3 := hide (HF2.out.trans hf3)
        have HPJ := hide (delJ_any p1 w3 (by omega) (by omega) (HPW.out.below hpL (HF2.out.trans hf3).below))
        clear hc3 hf3 hf30 HPC HKP y0 x0 x1 x2
        go_wp2_with fail
        refine HPJ.out.mono ?_
        rintro e w4 ⟨Y, rfl, hY, -, hb4⟩
        have HFIN : Hid (WcPost L S B f r w (.returned (.string Y)) w4) := by
          rw [HE.out]
          exact ⟨Y, rfl, hY, H3.out.below hb4, HF3.out.trans (Fr.of hb4 (Nat.le_trans hLw HF3.out.size))⟩
        clear hY hb4 HPJ
        go_wp2
        go_ret
        exact HFIN.out
end Go.Proofs.YtellilpeakpbfabGreatDoor

end
