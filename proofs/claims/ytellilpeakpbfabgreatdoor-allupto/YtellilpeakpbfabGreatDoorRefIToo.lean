import Derived.Test.YtellilpeakpbfabGreatDoorCardRToo
/-
  The walks of the document's Install and Drop.
-/
namespace Go.Proofs.YtellilpeakpbfabGreatDoor
open Go.RowKit

theorem gt_true {p1 : Jn.Bytes} {x n : ByteArray} (hx : x = ⟨p1.toArray⟩) (h : Op.bytesLess n.toList x.toList = true) : Hid (Jn.ltB n.data.toList p1 = true) ∧ Op.bytesLess x.toList n.toList = false ∧ (x.toList == n.toList) = false := by
  rw [ByteArray.toList_eq, ByteArray.toList_eq, hx, ← ltB_less] at h
  have h' : Jn.ltB n.data.toList p1 = true := by simpa using h
  rw [ByteArray.toList_eq, ByteArray.toList_eq, hx]
  refine ⟨h', ?_, ?_⟩
  · rw [← ltB_less]; simpa using ltB_asym _ _ h'
  · rw [beq_eq_false_iff_ne]
    intro e
    have e' : p1 = n.data.toList := by simpa using e
    rw [e', Jn.ltB_irr] at h'
    cases h'
theorem gt_false {p1 : Jn.Bytes} {x n : ByteArray} (hx : x = ⟨p1.toArray⟩) (h : Op.bytesLess n.toList x.toList = false) : Hid (Jn.ltB n.data.toList p1 = false) ∧ (Op.bytesLess x.toList n.toList = true ∨ (Op.bytesLess x.toList n.toList = false ∧ (x.toList == n.toList) = true)) := by
  rw [ByteArray.toList_eq, ByteArray.toList_eq, hx, ← ltB_less] at h
  have h' : Jn.ltB n.data.toList p1 = false := by simpa using h
  rw [ByteArray.toList_eq, ByteArray.toList_eq, hx]
  refine ⟨h', ?_⟩
  rw [← ltB_less]
  by_cases e : n.data.toList = p1
  · refine .inr ⟨?_, ?_⟩
    · rw [← e]; simpa using Jn.ltB_irr n.data.toList
    · rw [← e]; simp
  · exact .inl (by simpa using Jn.ltB_tot _ _ h' e)
def J2Rel (w : World) (l A : List (Jn.Bytes × Jn.Bytes)) (n s : Jn.Bytes) (v i : Value) (wr : World) : Prop :=
  ∃ j : Nat, j ≤ l.length ∧ i = .int .i64 j ∧ PRow wr w.heap.size v (A ++ [(n, s)] ++ (l.take j).filter (fun p => Jn.ltB n p.1)) ∧ Below w.heap.size w wr

/-- what the document's Install answers where it keeps the procedure. -/
def InPost (sc : Value) (l : List (Jn.Bytes × Jn.Bytes)) (w : World) (e : Ending) (w' : World) : Prop :=
  ∃ sp', e = .returned (.tuple #[.agg #[sc, sp'], .int .i64 0, .int .i64 0]) ∧ PRow w' 0 sp' l ∧ Below w.heap.size w w'

theorem blk_two {w : World} {o1 o2 : Obj} {w2 : World} (h : Below ((w.alloc o1).alloc o2).heap.size ((w.alloc o1).alloc o2) w2) : w2.heap[w.heap.size]? = some o1 ∧ w2.heap[w.heap.size + 1]? = some o2 :=
  ⟨(h.block w.heap.size (by simp only [World.size_alloc]; omega)).trans (blk1 w o1 o2), (h.block (w.heap.size + 1) (by simp only [World.size_alloc]; omega)).trans (blk2 w o1 o2)⟩

set_option maxHeartbeats 1000000 in
set_option maxRecDepth 100000 in
theorem refI_name (sc sp : Value) (n s : ByteArray) (w : World) (so po : Option Addr) (sn sk pn pk : Nat) (hsc : sc = .slice so sn sk) (hsp : sp = .slice po pn pk) (hn : Jn.isName n.data.toList = false) :
    Calls Tryz.prog 117 #[.agg #[sc, sp], .string n, .string s] w fun e w' => e = .returned (.tuple #[.agg #[sc, sp], .int .i64 0, .int .i64 3]) ∧ Below w.heap.size w w' := by
  subst hsc hsp
  have hc := namedR_any n
  rw [hn] at hc
  have HC := hide hc
  clear hc hn
  go_enter Tryz.func117, Tryz.ntmps117
  go_wp2_with fail
  refine (HC.out _).mono ?_
  rintro e w1 ⟨rfl, rfl⟩
  go_wp2
  exact bodyPost_ret (v := .tuple #[.agg #[.slice so sn sk, .slice po pn pk], .int .i64 0, .int .i64 3]) (by simp [results, Tryz.results117, go_sem]) rfl ⟨rfl, ((Below.refl _ _).alloc (Nat.le_refl _) _).alloc (by simp) _⟩

set_option maxHeartbeats 1000000 in
set_option maxRecDepth 100000 in
theorem refI_src (sc sp : Value) (n s : ByteArray) (w : World) (so po : Option Addr) (sn sk pn pk : Nat) (hsc : sc = .slice so sn sk) (hsp : sp = .slice po pn pk) (hn : Jn.isName n.data.toList = true) (hr : (Ck.read s.data.toList).2 ≠ 0) :
    Calls Tryz.prog 117 #[.agg #[sc, sp], .string n, .string s] w fun e w' => e = .returned (.tuple #[.agg #[sc, sp], .int .i64 (Ck.read s.data.toList).1, .int .i64 (Ck.read s.data.toList).2]) ∧ Below w.heap.size w w' := by
  subst hsc hsp
  have hc := namedR_any n
  rw [hn] at hc
  have HC := hide hc
  have hk := refCheck_any s
  rw [← Ck.read_same] at hk
  have HK := hide hk
  clear hc hn hk
  generalize Ck.read s.data.toList = p at *
  obtain ⟨p1, p2⟩ := p
  have t1 : (p2 != 0) = true := by simpa using hr
  clear hr
  go_enter Tryz.func117, Tryz.ntmps117
  go_wp2_with fail
  refine (HC.out _).mono ?_
  rintro e w1 ⟨rfl, rfl⟩
  go_wp2_with fail
  refine (HK.out _).mono ?_
  rintro e w2 ⟨rfl, hb⟩
  obtain ⟨g1, g2⟩ := blk_two hb
  have q0 := (cell_of_row w2 w.heap.size 0 _ _ _ g1).trans rfl
  have q1 := (cell_of_row w2 w.heap.size 1 _ _ _ g1).trans rfl
  have r0 := (cell_of_row w2 (w.heap.size + 1) 0 _ _ _ g2).trans rfl
  have r1 := (cell_of_row w2 (w.heap.size + 1) 1 _ _ _ g2).trans rfl
  have f0 : w2.frozen? ⟨w.heap.size + 1, 0, none⟩ = false := frozen_of_row w2 (w.heap.size + 1) 0 _ _ g2
  have f1 : w2.frozen? ⟨w.heap.size + 1, 1, none⟩ = false := frozen_of_row w2 (w.heap.size + 1) 1 _ _ g2
  have HB := hide (Below.trans (((Below.refl w.heap.size w).alloc (Nat.le_refl _) _).alloc (by simp) _) (hb.mono (B' := w.heap.size) (by simp; omega)))
  clear hb g1 g2
  go_wp2
  have s0 := World.cell?_setCell_same w2 ⟨w.heap.size + 1, 0, none⟩ (.slice so sn sk) r0
  have s1 := World.cell?_setCell_same (w2.setCell ⟨w.heap.size + 1, 0, none⟩ (.slice so sn sk)) ⟨w.heap.size + 1, 1, none⟩ (.slice po pn pk) ((World.cell?_setCell_other _ _ _ _ (by simp)).trans r1)
  exact bodyPost_ret (v := .tuple #[.agg #[.slice so sn sk, .slice po pn pk], .int .i64 p1, .int .i64 p2]) (by simp [results, Tryz.results117, go_sem, s0, s1]) rfl ⟨rfl, (HB.out.setCell (p := ⟨w.heap.size + 1, 0, none⟩) (by show w.heap.size ≤ w.heap.size + 1; omega) _).setCell (p := ⟨w.heap.size + 1, 1, none⟩) (by show w.heap.size ≤ w.heap.size + 1; omega) _⟩

set_option maxHeartbeats 1000000 in
set_option maxRecDepth 100000 in
theorem refI_full (sc sp : Value) (ps : List (Jn.Bytes × Jn.Bytes)) (n s : ByteArray) (w : World) (so : Option Addr) (sn sk : Nat) (hsc : sc = .slice so sn sk) (hp : PRow w 0 sp ps) (hl : ps.length ≤ 8) (hn : Jn.isName n.data.toList = true) (hr : (Ck.read s.data.toList).2 = 0) (hf : 8 ≤ (Jn.others ps n.data.toList).length) :
    Calls Tryz.prog 117 #[.agg #[sc, sp], .string n, .string s] w fun e w' => e = .returned (.tuple #[.agg #[sc, sp], .int .i64 0, .int .i64 4]) ∧ Below w.heap.size w w' := by
  obtain ⟨po, pk, rfl, -⟩ := hp.shape
  subst hsc
  have hc := namedR_any n
  rw [hn] at hc
  have HC := hide hc
  have hk := refCheck_any s
  rw [← Ck.read_same] at hk
  have HK := hide hk
  have HO := hide (fun w h => othersR_any 0 (.slice po ps.length pk) ps n w h (by omega))
  have HP := hide hp
  clear hc hn hk hp
  generalize Ck.read s.data.toList = p at *
  obtain ⟨p1, p2⟩ := p
  have t1 : (p2 != 0) = false := by simpa using hr
  clear hr
  have t2 : decide (8 ≤ ((Jn.others ps n.data.toList).length : Int)) = true := by simp; omega
  go_enter Tryz.func117, Tryz.ntmps117
  go_wp2_with fail
  refine (HC.out _).mono ?_
  rintro e w1 ⟨rfl, rfl⟩
  go_wp2_with fail
  refine (HK.out _).mono ?_
  rintro e w2 ⟨rfl, hb⟩
  obtain ⟨g1, g2⟩ := blk_two hb
  have k1 := (cell_of_row w2 w.heap.size 1 _ _ _ g1).trans rfl
  have HB := hide (Below.trans (((Below.refl w.heap.size w).alloc (Nat.le_refl _) _).alloc (by simp) _) (hb.mono (B' := w.heap.size) (by simp; omega)))
  have HG1 := hide g1
  have HG2 := hide g2
  clear hb g1 g2
  go_wp2_with fail
  refine (HO.out _ (HP.out.below HB.out)).mono ?_
  rintro e w3 ⟨v3, rfl, hrow, hb3⟩
  obtain ⟨ao3, cap3, rfl, -⟩ := hrow.shape
  have h3 := (hb3.block w.heap.size (Array.getElem?_eq_some_iff.1 HG1.out).1).trans HG1.out
  have h4 := (hb3.block (w.heap.size + 1) (Array.getElem?_eq_some_iff.1 HG2.out).1).trans HG2.out
  have q0 := (cell_of_row w3 w.heap.size 0 _ _ _ h3).trans rfl
  have q1 := (cell_of_row w3 w.heap.size 1 _ _ _ h3).trans rfl
  have r0 := (cell_of_row w3 (w.heap.size + 1) 0 _ _ _ h4).trans rfl
  have r1 := (cell_of_row w3 (w.heap.size + 1) 1 _ _ _ h4).trans rfl
  have f0 : w3.frozen? ⟨w.heap.size + 1, 0, none⟩ = false := frozen_of_row w3 (w.heap.size + 1) 0 _ _ h4
  have f1 : w3.frozen? ⟨w.heap.size + 1, 1, none⟩ = false := frozen_of_row w3 (w.heap.size + 1) 1 _ _ h4
  have HB3 := hide (HB.out.trans (hb3.mono HB.out.size))
  clear hb3 hrow h3 h4 k1 HO HK HC
  go_wp2
  have s0 := World.cell?_setCell_same w3 ⟨w.heap.size + 1, 0, none⟩ (.slice so sn sk) r0
  have s1 := World.cell?_setCell_same (w3.setCell ⟨w.heap.size + 1, 0, none⟩ (.slice so sn sk)) ⟨w.heap.size + 1, 1, none⟩ (.slice po ps.length pk) ((World.cell?_setCell_other _ _ _ _ (by simp)).trans r1)
  exact bodyPost_ret (v := .tuple #[.agg #[.slice so sn sk, .slice po ps.length pk], .int .i64 0, .int .i64 4]) (by simp [results, Tryz.results117, go_sem, s0, s1]) rfl ⟨rfl, (HB3.out.setCell (p := ⟨w.heap.size + 1, 0, none⟩) (by show w.heap.size ≤ w.heap.size + 1; omega) _).setCell (p := ⟨w.heap.size + 1, 1, none⟩) (by show w.heap.size ≤ w.heap.size + 1; omega) _⟩

theorem in_fin {w w3 wr : World} {so so' : Option Addr} {sn sk sk' : Nat} {l : List (Jn.Bytes × Jn.Bytes)} (hb : Below w.heap.size w w3) (hz : w.heap.size + 2 ≤ w3.heap.size) (hr : PRow wr w3.heap.size (.slice so' l.length sk') l) (hb2 : Below w3.heap.size w3 wr) :
    InPost (.slice so sn sk) l w (.returned (.tuple #[.agg #[.slice so sn sk, .slice so' l.length sk'], .int .i64 0, .int .i64 0])) ((wr.setCell ⟨w.heap.size + 1, 0, none⟩ (.slice so sn sk)).setCell ⟨w.heap.size + 1, 1, none⟩ (.slice so' l.length sk')) := by
  refine ⟨_, rfl, ?_, ?_⟩
  · have h1 := ownsRow_setCell_below hr (a := ⟨w.heap.size + 1, 0, none⟩) (by show w.heap.size + 1 < w3.heap.size; omega) (.slice so sn sk)
    have h2 := ownsRow_setCell_below h1 (a := ⟨w.heap.size + 1, 1, none⟩) (by show w.heap.size + 1 < w3.heap.size; omega) (.slice so' l.length sk')
    exact ownsRow_base h2 (Nat.zero_le _)
  · exact ((hb.trans (hb2.mono hb.size)).setCell (p := ⟨w.heap.size + 1, 0, none⟩) (by show w.heap.size ≤ w.heap.size + 1; omega) _).setCell (p := ⟨w.heap.size + 1, 1, none⟩) (by show w.heap.size ≤ w.heap.size + 1; omega) _


set_option maxHeartbeats 4000000 in
set_option maxRecDepth 100000 in
theorem refI_ok (sc sp : Value) (ps : List (Jn.Bytes × Jn.Bytes)) (n s : ByteArray) (w : World) (so : Option Addr) (sn sk : Nat) (hsc : sc = .slice so sn sk) (hp : PRow w 0 sp ps) (hl : ps.length ≤ 8) (hn : Jn.isName n.data.toList = true) (hr : (Ck.read s.data.toList).2 = 0) (hf : (Jn.others ps n.data.toList).length < 8) :
    Calls Tryz.prog 117 #[.agg #[sc, sp], .string n, .string s] w (InPost sc (procL (Jn.others ps n.data.toList) n.data.toList s.data.toList) w) := by
  obtain ⟨po, pk, rfl, -⟩ := hp.shape
  subst hsc
  have hc := namedR_any n
  rw [hn] at hc
  have HC := hide hc
  have hk := refCheck_any s
  rw [← Ck.read_same] at hk
  have HK := hide hk
  have HOT := hide (fun w h => othersR_any 0 (.slice po ps.length pk) ps n w h (by omega))
  have HP := hide hp
  clear hc hn hk hp
  generalize Ck.read s.data.toList = p at *
  obtain ⟨p1, p2⟩ := p
  have t1 : (p2 != 0) = false := by simpa using hr
  clear hr
  obtain ⟨l, hl0⟩ : ∃ l, l = Jn.others ps n.data.toList := ⟨_, rfl⟩
  rw [← hl0] at HOT hf ⊢
  clear hl0
  have t2 : decide (8 ≤ (l.length : Int)) = false := by simp; omega
  obtain ⟨A, hA⟩ : ∃ A, A = l.takeWhile (fun p => Jn.ltB p.1 n.data.toList) := ⟨_, rfl⟩
  have HA := hide hA
  clear hA
  obtain ⟨i0, hi, hz0, hz1, hz2⟩ := info_parts Tryz.infoProc
  go_enter Tryz.func117, Tryz.ntmps117
  go_wp2_with fail
  refine (HC.out _).mono ?_
  rintro e w1 ⟨rfl, rfl⟩
  go_wp2_with fail
  refine (HK.out _).mono ?_
  rintro e w2 ⟨rfl, hb⟩
  obtain ⟨g1, g2⟩ := blk_two hb
  have k1 := (cell_of_row w2 w.heap.size 1 _ _ _ g1).trans rfl
  have hzz := hb.size
  simp only [World.size_alloc] at hzz
  have HB2 := hide (Below.trans (((Below.refl w.heap.size w).alloc (Nat.le_refl _) _).alloc (by simp) _) (hb.mono (B' := w.heap.size) (by simp; omega)))
  have HG1 := hide g1
  have HG2 := hide g2
  clear hb g1 g2
  go_wp2_with fail
  refine (HOT.out _ (HP.out.below HB2.out)).mono ?_
  rintro e w3 ⟨v3, rfl, hrow, hb3⟩
  obtain ⟨ao3, cap3, rfl, hcl⟩ := hrow.shape
  have HCL := hide hcl
  have h3 := (hb3.block w.heap.size (Array.getElem?_eq_some_iff.1 HG1.out).1).trans HG1.out
  have h4 := (hb3.block (w.heap.size + 1) (Array.getElem?_eq_some_iff.1 HG2.out).1).trans HG2.out
  have q0 : w3.cell? ⟨w.heap.size, 0, none⟩ = some (.slice so sn sk) := (cell_of_row w3 w.heap.size 0 _ _ _ h3).trans rfl
  have r0 : w3.cell? ⟨w.heap.size + 1, 0, none⟩ = some (.slice none 0 0) := (cell_of_row w3 (w.heap.size + 1) 0 _ _ _ h4).trans rfl
  have r1 : w3.cell? ⟨w.heap.size + 1, 1, none⟩ = some (.slice none 0 0) := (cell_of_row w3 (w.heap.size + 1) 1 _ _ _ h4).trans rfl
  have HG4 := hide h4
  have HB3 := hide (HB2.out.trans (hb3.mono HB2.out.size))
  have hz3 : w.heap.size + 2 ≤ w3.heap.size := by have := hb3.size; omega
  clear hb3 hrow h3 h4 k1 HOT HK HC hcl HG1 HG2 HB2 HP hzz
  go_wp2
  go_loopw [13, 14] (fun v i wr => I1Rel w3 l n.data.toList v i wr) (fun _ i _ => l.length - (intOf i).toNat)
  case atStart => exact ⟨0, Nat.zero_le _, rfl, World.ownsRow_nil _ _ _ _, Below.refl _ _, by simp⟩
  case round =>
    obtain ⟨j, hj, rfl, hown, hbel, hall⟩ := hrel
    have HAL := hide hall
    have HO := hide hown
    have HB := hide hbel
    have hwz := hbel.size
    clear hown hbel hall
    by_cases hlt : j < l.length
    · have tj : decide ((j : Int) < (l.length : Int)) = true := decide_eq_true (by omega)
      obtain ⟨g, cur, rfl, -, -, hcs⟩ := HCL.out (by omega)
      obtain ⟨p, hp⟩ : ∃ p, l[j]? = some p := ⟨l[j], by simp [hlt]⟩
      obtain ⟨c1, c2⟩ := hcs j p hp
      have d1 := at_old HB.out c1
      have d2 := at_old HB.out c2
      have HP := hide hp
      clear hcs c1 c2 hp
      obtain ⟨p1, p2⟩ := p
      simp only [T] at d1 d2
      obtain ⟨x1, hx1⟩ : ∃ q : ByteArray, q = ⟨p1.toArray⟩ := ⟨_, rfl⟩
      obtain ⟨x2, hx2⟩ : ∃ q : ByteArray, q = ⟨p2.toArray⟩ := ⟨_, rfl⟩
      rw [← hx1] at d1
      rw [← hx2] at d2
      have HX1 := hide hx1
      have HX2 := hide hx2
      clear hx1 hx2
      cases ht : Op.bytesLess x1.toList n.toList with
      | true =>
        have HE : Hid (Jn.ltB p1 n.data.toList = true) := by
          show _ = _
          rw [ByteArray.toList_eq, ByteArray.toList_eq, HX1.out, ← ltB_less] at ht
          simpa using ht
        have HK : Hid (l.take (j + 1) = l.take j ++ [(p1, p2)]) := by
          show _ = _
          rw [List.take_succ_eq_append_getElem hlt]; congr 2; exact (List.getElem?_eq_some_iff.1 HP.out).2
        have hln : (l.take j).length = j := by simp; omega
        go_wp2_with (at_builtin; refine wpList_append_own _ rfl (.tmp 54) (.tmp 59) 54 rfl w3.heap.size 89 i0 (.agg #[.string ⟨#[]⟩, .string ⟨#[]⟩]) 2 32 Tryz.underlying54 hi hz0 hz1 hz2 rfl (by decide) _ _ _ rfl (HO.out.alloc _) ⟨_, 0, none⟩ 1 1 [.string x1, .string x2] rfl rfl ?c1 ?c2 ?c3 ?c4 ?c5 ?_)
        try (case c1 => exact cell_two_new _ _ _ _)
        case c2 => first | exact ⟨rfl, rfl⟩ | (intro u hu; simp at hu; rcases hu with rfl | rfl <;> rfl)
        case c3 => unfold maxLen; omega
        case c4 => omega
        case c5 => first | omega | (simp; omega)
        intro v' w7 hown' hgrow _
        have HRR : Hid (I1Rel w3 l n.data.toList v' (.int .i64 ((j : Int) + 1)) w7) := by
          refine ⟨j + 1, by omega, by go_num, ?_, grow_below HB.out (by omega) HO.out hgrow, ?_⟩
          · rw [HK.out]
            refine PRow.snoc ?_
            rw [HX1.out, HX2.out, ← List.map_take] at hown'
            rw [hln]
            exact hown'
          · rw [HK.out]
            intro p hp
            rcases List.mem_append.1 hp with h | h
            · exact HAL.out p h
            · simp at h; rw [h]; exact HE.out
        clear hown' hgrow
        go_wp2
        go_roundw
        case rel => exact HRR.out
        case measure => simp [intOf]; omega
      | false =>
        have HE : Hid (Jn.ltB p1 n.data.toList = false) := by
          show _ = _
          rw [ByteArray.toList_eq, ByteArray.toList_eq, HX1.out, ← ltB_less] at ht
          simpa using ht
        have hAe : A = l.take j := by rw [HA.out]; exact takeWhile_at _ l j hj HAL.out (fun p hp => by rw [HP.out] at hp; cases hp; exact HE.out)
        have hAl : A.length ≤ j := by rw [hAe]; simp; omega
        rw [← hAe] at HO
        clear HP HAL hAe HE
        go_wp2_with (at_builtin; refine wpList_append_own _ rfl (.tmp 61) (.tmp 65) 54 rfl w3.heap.size 89 i0 (.agg #[.string ⟨#[]⟩, .string ⟨#[]⟩]) 2 32 Tryz.underlying54 hi hz0 hz1 hz2 rfl (by decide) _ _ _ rfl (HO.out.alloc _) ⟨_, 0, none⟩ 1 1 [.string n, .string s] rfl rfl ?ae1 ?ae2 ?ae3 ?ae4 ?ae5 ?_)
        try (case ae1 => exact cell_two_new _ _ _ _)
        case ae2 => first | exact ⟨rfl, rfl⟩ | (intro u hu; simp at hu; rcases hu with rfl | rfl <;> rfl)
        case ae3 => unfold maxLen; omega
        case ae4 => omega
        case ae5 => first | omega | (simp; omega)
        intro v' w7 hown' hgrow _
        have HR : Hid (J2Rel w3 l A n.data.toList s.data.toList v' (.int .i64 (0 : Int)) w7) := by
          refine ⟨0, Nat.zero_le _, rfl, ?_, grow_below HB.out (by omega) HO.out hgrow⟩
          rw [List.take_zero, List.filter_nil, List.append_nil]
          exact PRow.snoc hown'
        clear hown' hgrow HO HB
        go_wp2
        go_loopw [13, 15] (fun v i wr => J2Rel w3 l A n.data.toList s.data.toList v i wr) (fun _ i _ => l.length - (intOf i).toNat)
        case atStart => exact HR.out
        case round =>
          obtain ⟨i, hi2, rfl, hown, hbel⟩ := hrel
          obtain ⟨m, hm⟩ : ∃ m, m = A ++ [(n.data.toList, s.data.toList)] ++ (l.take i).filter (fun p => Jn.ltB n.data.toList p.1) := ⟨_, rfl⟩
          rw [← hm] at hown
          have hln2 : m.length ≤ A.length + 1 + i := by
            rw [hm]
            have := List.length_filter_le (fun p : Jn.Bytes × Jn.Bytes => Jn.ltB n.data.toList p.1) (l.take i)
            simp only [List.length_append, List.length_cons, List.length_nil, List.length_take] at this ⊢
            omega
          have HM := hide hm
          have HO := hide hown
          have HB := hide hbel
          have hwz2 := hbel.size
          have u0 := at_old hbel q0
          have v0 := at_old hbel r0
          have v1 := at_old hbel r1
          have z0 := (hbel.block (w.heap.size + 1) (Array.getElem?_eq_some_iff.1 HG4.out).1).trans HG4.out
          have f0 : wr.frozen? ⟨w.heap.size + 1, 0, none⟩ = false := frozen_of_row wr (w.heap.size + 1) 0 _ _ z0
          have f1 : wr.frozen? ⟨w.heap.size + 1, 1, none⟩ = false := frozen_of_row wr (w.heap.size + 1) 1 _ _ z0
          clear hown hbel HR hm z0
          by_cases hlj : i < l.length
          · obtain ⟨g2, cur2, hg2, -, -, hcs⟩ := HCL.out (by omega)
            try (cases hg2)
            try (subst hg2)
            obtain ⟨p, hp⟩ : ∃ p, l[i]? = some p := ⟨l[i], by simp [hlj]⟩
            obtain ⟨c1, c2⟩ := hcs i p hp
            have d1 := at_old HB.out c1
            have d2 := at_old HB.out c2
            have HK := hide (filter_take (fun p : Jn.Bytes × Jn.Bytes => Jn.ltB n.data.toList p.1) l i p hp)
            clear hcs c1 c2 hp
            obtain ⟨p1, p2⟩ := p
            simp only [T] at d1 d2
            obtain ⟨x1, hx1⟩ : ∃ q : ByteArray, q = ⟨p1.toArray⟩ := ⟨_, rfl⟩
            obtain ⟨x2, hx2⟩ : ∃ q : ByteArray, q = ⟨p2.toArray⟩ := ⟨_, rfl⟩
            rw [← hx1] at d1
            rw [← hx2] at d2
            have HX1 := hide hx1
            have HX2 := hide hx2
            clear hx1 hx2
            cases ht2 : Op.bytesLess n.toList x1.toList with
            | true =>
              obtain ⟨HE, u1, u2⟩ := gt_true HX1.out ht2
              clear ht2
              have HR : Hid (A ++ [(n.data.toList, s.data.toList)] ++ (l.take (i + 1)).filter (fun p => Jn.ltB n.data.toList p.1) = m ++ [(p1, p2)]) := by
                show _ = _
                rw [HK.out, if_pos HE.out, ← List.append_assoc, ← HM.out]
              go_wp2_with (at_builtin; refine wpList_append_own _ rfl (.tmp 80) (.tmp 85) 54 rfl w3.heap.size 89 i0 (.agg #[.string ⟨#[]⟩, .string ⟨#[]⟩]) 2 32 Tryz.underlying54 hi hz0 hz1 hz2 rfl (by decide) _ _ _ rfl (HO.out.alloc _) ⟨_, 0, none⟩ 1 1 [.string x1, .string x2] rfl rfl ?af1 ?af2 ?af3 ?af4 ?af5 ?_)
              try (case af1 => exact cell_two_new _ _ _ _)
              case af2 => first | exact ⟨rfl, rfl⟩ | (intro u hu; simp at hu; rcases hu with rfl | rfl <;> rfl)
              case af3 => unfold maxLen; omega
              case af4 => omega
              case af5 => first | omega | (simp; omega)
              intro v' w8 hown' hgrow _
              have HRR : Hid (J2Rel w3 l A n.data.toList s.data.toList v' (.int .i64 ((i : Int) + 1)) w8) := by
                refine ⟨i + 1, by omega, by go_num, ?_, grow_below HB.out (by omega) HO.out hgrow⟩
                rw [HR.out]
                refine PRow.snoc ?_
                rw [HX1.out, HX2.out] at hown'
                exact hown'
              clear hown' hgrow
              go_wp2
              go_roundw
              case rel => exact HRR.out
              case measure => simp [intOf]; omega
            | false =>
              obtain ⟨HE, uu⟩ := gt_false HX1.out ht2
              clear ht2
              have HR : Hid (A ++ [(n.data.toList, s.data.toList)] ++ (l.take (i + 1)).filter (fun p => Jn.ltB n.data.toList p.1) = m) := by
                show _ = _
                rw [HK.out, if_neg (by rw [HE.out]; simp), List.append_nil, ← HM.out]
              rcases uu with u1 | ⟨u1, u2⟩
              · go_wp2
                go_roundw
                case rel => exact ⟨i + 1, by omega, by go_num, by rw [HR.out]; exact HO.out, HB.out⟩
                case measure => simp [intOf]; omega
              · go_wp2
                go_roundw
                case rel => exact ⟨i + 1, by omega, by go_num, by rw [HR.out]; exact HO.out, HB.out⟩
                case measure => simp [intOf]; omega
          · have hme : m = procL l n.data.toList s.data.toList := by
              rw [HM.out, List.take_of_length_le (by omega), HA.out]; rfl
            rw [hme] at HO
            obtain ⟨so', sk', rfl, -⟩ := PRow.shape HO.out
            have HFIN := hide (in_fin (so := so) (sn := sn) (sk := sk) HB3.out hz3 HO.out HB.out)
            clear HO HB HM
            rw [hme] at hln2
            clear hme
            go_wp2
            have s0 := World.cell?_setCell_same wr ⟨w.heap.size + 1, 0, none⟩ (.slice so sn sk) v0
            have s1 := World.cell?_setCell_same (wr.setCell ⟨w.heap.size + 1, 0, none⟩ (.slice so sn sk)) ⟨w.heap.size + 1, 1, none⟩ (.slice so' (procL l n.data.toList s.data.toList).length sk') ((World.cell?_setCell_other _ _ _ _ (by simp)).trans v1)
            exact bodyPost_ret (v := .tuple #[.agg #[.slice so sn sk, .slice so' (procL l n.data.toList s.data.toList).length sk'], .int .i64 0, .int .i64 0]) (by simp [results, Tryz.results117, go_sem, s0, s1]) rfl HFIN.out
    · have tj : decide ((j : Int) < (l.length : Int)) = false := decide_eq_false (by omega)
      have hAe : A = l.take j := by rw [HA.out]; exact takeWhile_at _ l j hj HAL.out (fun p hp => by have := (List.getElem?_eq_some_iff.1 hp).1; omega)
      have hAl : A.length ≤ j := by rw [hAe]; simp; omega
      rw [← hAe] at HO
      clear HAL hAe
      go_wp2_with (at_builtin; refine wpList_append_own _ rfl (.tmp 61) (.tmp 65) 54 rfl w3.heap.size 89 i0 (.agg #[.string ⟨#[]⟩, .string ⟨#[]⟩]) 2 32 Tryz.underlying54 hi hz0 hz1 hz2 rfl (by decide) _ _ _ rfl (HO.out.alloc _) ⟨_, 0, none⟩ 1 1 [.string n, .string s] rfl rfl ?be1 ?be2 ?be3 ?be4 ?be5 ?_)
      try (case be1 => exact cell_two_new _ _ _ _)
      case be2 => first | exact ⟨rfl, rfl⟩ | (intro u hu; simp at hu; rcases hu with rfl | rfl <;> rfl)
      case be3 => unfold maxLen; omega
      case be4 => omega
      case be5 => first | omega | (simp; omega)
      intro v' w7 hown' hgrow _
      have HR : Hid (J2Rel w3 l A n.data.toList s.data.toList v' (.int .i64 (0 : Int)) w7) := by
        refine ⟨0, Nat.zero_le _, rfl, ?_, grow_below HB.out (by omega) HO.out hgrow⟩
        rw [List.take_zero, List.filter_nil, List.append_nil]
        exact PRow.snoc hown'
      clear hown' hgrow HO HB
      go_wp2
      go_loopw [13, 15] (fun v i wr => J2Rel w3 l A n.data.toList s.data.toList v i wr) (fun _ i _ => l.length - (intOf i).toNat)
      case atStart => exact HR.out
      case round =>
        obtain ⟨i, hi2, rfl, hown, hbel⟩ := hrel
        obtain ⟨m, hm⟩ : ∃ m, m = A ++ [(n.data.toList, s.data.toList)] ++ (l.take i).filter (fun p => Jn.ltB n.data.toList p.1) := ⟨_, rfl⟩
        rw [← hm] at hown
        have hln2 : m.length ≤ A.length + 1 + i := by
          rw [hm]
          have := List.length_filter_le (fun p : Jn.Bytes × Jn.Bytes => Jn.ltB n.data.toList p.1) (l.take i)
          simp only [List.length_append, List.length_cons, List.length_nil, List.length_take] at this ⊢
          omega
        have HM := hide hm
        have HO := hide hown
        have HB := hide hbel
        have hwz2 := hbel.size
        have u0 := at_old hbel q0
        have v0 := at_old hbel r0
        have v1 := at_old hbel r1
        have z0 := (hbel.block (w.heap.size + 1) (Array.getElem?_eq_some_iff.1 HG4.out).1).trans HG4.out
        have f0 : wr.frozen? ⟨w.heap.size + 1, 0, none⟩ = false := frozen_of_row wr (w.heap.size + 1) 0 _ _ z0
        have f1 : wr.frozen? ⟨w.heap.size + 1, 1, none⟩ = false := frozen_of_row wr (w.heap.size + 1) 1 _ _ z0
        clear hown hbel HR hm z0
        by_cases hlj : i < l.length
        · obtain ⟨g2, cur2, hg2, -, -, hcs⟩ := HCL.out (by omega)
          try (cases hg2)
          try (subst hg2)
          obtain ⟨p, hp⟩ : ∃ p, l[i]? = some p := ⟨l[i], by simp [hlj]⟩
          obtain ⟨c1, c2⟩ := hcs i p hp
          have d1 := at_old HB.out c1
          have d2 := at_old HB.out c2
          have HK := hide (filter_take (fun p : Jn.Bytes × Jn.Bytes => Jn.ltB n.data.toList p.1) l i p hp)
          clear hcs c1 c2 hp
          obtain ⟨p1, p2⟩ := p
          simp only [T] at d1 d2
          obtain ⟨x1, hx1⟩ : ∃ q : ByteArray, q = ⟨p1.toArray⟩ := ⟨_, rfl⟩
          obtain ⟨x2, hx2⟩ : ∃ q : ByteArray, q = ⟨p2.toArray⟩ := ⟨_, rfl⟩
          rw [← hx1] at d1
          rw [← hx2] at d2
          have HX1 := hide hx1
          have HX2 := hide hx2
          clear hx1 hx2
          cases ht2 : Op.bytesLess n.toList x1.toList with
          | true =>
            obtain ⟨HE, u1, u2⟩ := gt_true HX1.out ht2
            clear ht2
            have HR : Hid (A ++ [(n.data.toList, s.data.toList)] ++ (l.take (i + 1)).filter (fun p => Jn.ltB n.data.toList p.1) = m ++ [(p1, p2)]) := by
              show _ = _
              rw [HK.out, if_pos HE.out, ← List.append_assoc, ← HM.out]
            go_wp2_with (at_builtin; refine wpList_append_own _ rfl (.tmp 80) (.tmp 85) 54 rfl w3.heap.size 89 i0 (.agg #[.string ⟨#[]⟩, .string ⟨#[]⟩]) 2 32 Tryz.underlying54 hi hz0 hz1 hz2 rfl (by decide) _ _ _ rfl (HO.out.alloc _) ⟨_, 0, none⟩ 1 1 [.string x1, .string x2] rfl rfl ?bf1 ?bf2 ?bf3 ?bf4 ?bf5 ?_)
            try (case bf1 => exact cell_two_new _ _ _ _)
            case bf2 => first | exact ⟨rfl, rfl⟩ | (intro u hu; simp at hu; rcases hu with rfl | rfl <;> rfl)
            case bf3 => unfold maxLen; omega
            case bf4 => omega
            case bf5 => first | omega | (simp; omega)
            intro v' w8 hown' hgrow _
            have HRR : Hid (J2Rel w3 l A n.data.toList s.data.toList v' (.int .i64 ((i : Int) + 1)) w8) := by
              refine ⟨i + 1, by omega, by go_num, ?_, grow_below HB.out (by omega) HO.out hgrow⟩
              rw [HR.out]
              refine PRow.snoc ?_
              rw [HX1.out, HX2.out] at hown'
              exact hown'
            clear hown' hgrow
            go_wp2
            go_roundw
            case rel => exact HRR.out
            case measure => simp [intOf]; omega
          | false =>
            obtain ⟨HE, uu⟩ := gt_false HX1.out ht2
            clear ht2
            have HR : Hid (A ++ [(n.data.toList, s.data.toList)] ++ (l.take (i + 1)).filter (fun p => Jn.ltB n.data.toList p.1) = m) := by
              show _ = _
              rw [HK.out, if_neg (by rw [HE.out]; simp), List.append_nil, ← HM.out]
            rcases uu with u1 | ⟨u1, u2⟩
            · go_wp2
              go_roundw
              case rel => exact ⟨i + 1, by omega, by go_num, by rw [HR.out]; exact HO.out, HB.out⟩
              case measure => simp [intOf]; omega
            · go_wp2
              go_roundw
              case rel => exact ⟨i + 1, by omega, by go_num, by rw [HR.out]; exact HO.out, HB.out⟩
              case measure => simp [intOf]; omega
        · have hme : m = procL l n.data.toList s.data.toList := by
            rw [HM.out, List.take_of_length_le (by omega), HA.out]; rfl
          rw [hme] at HO
          obtain ⟨so', sk', rfl, -⟩ := PRow.shape HO.out
          have HFIN := hide (in_fin (so := so) (sn := sn) (sk := sk) HB3.out hz3 HO.out HB.out)
          clear HO HB HM
          rw [hme] at hln2
          clear hme
          go_wp2
          have s0 := World.cell?_setCell_same wr ⟨w.heap.size + 1, 0, none⟩ (.slice so sn sk) v0
          have s1 := World.cell?_setCell_same (wr.setCell ⟨w.heap.size + 1, 0, none⟩ (.slice so sn sk)) ⟨w.heap.size + 1, 1, none⟩ (.slice so' (procL l n.data.toList s.data.toList).length sk') ((World.cell?_setCell_other _ _ _ _ (by simp)).trans v1)
          exact bodyPost_ret (v := .tuple #[.agg #[.slice so sn sk, .slice so' (procL l n.data.toList s.data.toList).length sk'], .int .i64 0, .int .i64 0]) (by simp [results, Tryz.results117, go_sem, s0, s1]) rfl HFIN.out

/-- what the document's Install and Drop answer. -/
def InsRef (sc : Value) (ps : List (Jn.Bytes × Jn.Bytes)) (at' er : Int) (w : World) (e : Ending) (w' : World) : Prop :=
  ∃ po pk, e = .returned (.tuple #[.agg #[sc, .slice po ps.length pk], .int .i64 at', .int .i64 er]) ∧ PRow w' 0 (.slice po ps.length pk) ps ∧ Below w.heap.size w w'
theorem refInstall_any (C : Jn.Con) (sc sp : Value) (n s : ByteArray) (w : World) (h : CRow w 0 sc C.list) (hp : PRow w 0 sp C.procs) (hok : Jn.Ok C) :
    Calls Tryz.prog 117 #[.agg #[sc, sp], .string n, .string s] w (InsRef sc (Jn.install C n.data.toList s.data.toList).1.procs (Jn.install C n.data.toList s.data.toList).2.1 (Jn.install C n.data.toList s.data.toList).2.2 w) := by
  obtain ⟨so, sk, rfl⟩ := crow_slice h
  obtain ⟨po, pk, rfl, -⟩ := hp.shape
  have hcnt := hok.cnt
  cases hn : Jn.isName n.data.toList with
  | false =>
    have e : Jn.install C n.data.toList s.data.toList = (C, 0, 3) := by unfold Jn.install; rw [if_pos hn]
    rw [e]
    exact (refI_name _ _ n s w _ _ _ _ _ _ rfl rfl hn).mono fun e w' ⟨he, hb⟩ => ⟨po, pk, he, hp.below hb, hb⟩
  | true =>
    by_cases hr : (Ck.read s.data.toList).2 = 0
    · by_cases hf : 8 ≤ (Jn.others C.procs n.data.toList).length
      · have e : Jn.install C n.data.toList s.data.toList = (C, 0, 4) := by unfold Jn.install; rw [if_neg (by rw [hn]; simp), if_neg (by simpa using hr), if_pos hf]
        rw [e]
        exact (refI_full _ _ C.procs n s w _ _ _ rfl hp hcnt hn hr hf).mono fun e w' ⟨he, hb⟩ => ⟨po, pk, he, hp.below hb, hb⟩
      · rw [install_doc hok _ _ hn hr (by omega)]
        refine (refI_ok _ _ C.procs n s w _ _ _ rfl hp hcnt hn hr (by omega)).mono fun e w' ⟨sp', he, hr', hb⟩ => ?_
        obtain ⟨po', pk', rfl, -⟩ := hr'.shape
        exact ⟨po', pk', he, hr', hb⟩
    · have e : Jn.install C n.data.toList s.data.toList = (C, (Ck.read s.data.toList).1, (Ck.read s.data.toList).2) := by unfold Jn.install; rw [if_neg (by rw [hn]; simp), if_pos hr]
      rw [e]
      exact (refI_src _ _ n s w _ _ _ _ _ _ rfl rfl hn hr).mono fun e w' ⟨he, hb⟩ => ⟨po, pk, he, hp.below hb, hb⟩
end Go.Proofs.YtellilpeakpbfabGreatDoor
