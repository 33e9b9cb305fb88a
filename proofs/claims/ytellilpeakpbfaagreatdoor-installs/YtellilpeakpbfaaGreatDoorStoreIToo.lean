import Derived.Test.YtellilpeakpbfaaGreatDoorRefIToo
import Derived.Test.YtellilpeakpbfaaGreatDoorLawQToo
import Derived.Test.YtellilpeakpbfaaGreatDoorRefNToo
section
/-
  The walks of the document's Drop, and of procBytes.
-/
namespace Go.Proofs.YtellilpeakpbfaaGreatDoor
open Go.RowKit

/-- what the document's Drop answers. -/
def DrpRef (sc : Value) (ps : List (Jn.Bytes × Jn.Bytes)) (er : Int) (w : World) (e : Ending) (w' : World) : Prop :=
  ∃ po pk, e = .returned (.tuple #[.agg #[sc, .slice po ps.length pk], .int .i64 er]) ∧ PRow w' 0 (.slice po ps.length pk) ps ∧ Below w.heap.size w w'

set_option maxHeartbeats 1000000 in
set_option maxRecDepth 100000 in
theorem refDrop_any (C : Jn.Con) (sc sp : Value) (n : ByteArray) (w : World) (h : CRow w 0 sc C.list) (hp : PRow w 0 sp C.procs) (hok : Jn.Ok C) :
    Calls Tryz.prog 116 #[.agg #[sc, sp], .string n] w (DrpRef sc (Jn.drop C n.data.toList).1.procs (Jn.drop C n.data.toList).2 w) := by
  obtain ⟨so, sk, rfl⟩ := crow_slice h
  obtain ⟨po, pk, rfl, -⟩ := hp.shape
  have hcnt := hok.cnt
  have HPR := hide (fun w h => proc_any 0 (.slice po C.procs.length pk) C.procs n w h (by omega))
  have HOT := hide (fun w h => othersR_any 0 (.slice po C.procs.length pk) C.procs n w h (by omega))
  have hb0 : ∀ o1 o2 : Obj, Below w.heap.size w ((w.alloc o1).alloc o2) := fun o1 o2 => ((Below.refl _ _).alloc (Nat.le_refl _) o1).alloc (by simp) o2
  have HB0 := hide hb0
  have HP := hide hp
  rw [drop_doc]
  clear hb0 hp h hok
  generalize C.list.length = sn
  obtain ⟨cs, ps⟩ := C
  simp only at *
  cases hs : (srcL ps n.data.toList).isSome with
  | false =>
    rw [hs] at HPR
    rw [if_neg (by simp)]
    clear hs
    generalize (srcL ps n.data.toList).getD [] = x at HPR
    go_enter Tryz.func116, Tryz.ntmps116
    go_wp2_with fail
    refine (HPR.out _ (HP.out.below (HB0.out _ _))).mono ?_
    rintro e w2 ⟨rfl, rfl⟩
    have HFIN := hide (PRow.below HP.out (HB0.out (.cells #[.slice so sn sk, .slice po ps.length pk] 128) (.cells #[.slice so sn sk, .slice po ps.length pk] 128)))
    go_wp2
    refine bodyPost_ret (v := .tuple #[.agg #[.slice so sn sk, .slice po ps.length pk], .int .i64 3]) (by simp [results, Tryz.results116, go_sem]) rfl ⟨po, pk, rfl, ?_, HB0.out _ _⟩
    exact PRow.below HP.out (HB0.out _ _)
  | true =>
    rw [hs] at HPR
    rw [if_pos rfl]
    clear hs
    generalize (srcL ps n.data.toList).getD [] = x at HPR
    generalize Jn.others ps n.data.toList = l at *
    go_enter Tryz.func116, Tryz.ntmps116
    go_wp2_with fail
    refine (HPR.out _ (HP.out.below (HB0.out _ _))).mono ?_
    rintro e w2 ⟨rfl, rfl⟩
    go_wp2_with fail
    refine (HOT.out _ (HP.out.below (HB0.out _ _))).mono ?_
    rintro e w3 ⟨v3, rfl, hrow, hb3⟩
    obtain ⟨so', sk', rfl, -⟩ := hrow.shape
    obtain ⟨h3, h4⟩ := blk_two hb3
    have q0 : w3.cell? ⟨w.heap.size, 0, none⟩ = some (.slice so sn sk) := (cell_of_row w3 w.heap.size 0 _ _ _ h3).trans rfl
    have r0 : w3.cell? ⟨w.heap.size + 1, 0, none⟩ = some (.slice none 0 0) := (cell_of_row w3 (w.heap.size + 1) 0 _ _ _ h4).trans rfl
    have r1 : w3.cell? ⟨w.heap.size + 1, 1, none⟩ = some (.slice none 0 0) := (cell_of_row w3 (w.heap.size + 1) 1 _ _ _ h4).trans rfl
    have f0 : w3.frozen? ⟨w.heap.size + 1, 0, none⟩ = false := frozen_of_row w3 (w.heap.size + 1) 0 _ _ h4
    have f1 : w3.frozen? ⟨w.heap.size + 1, 1, none⟩ = false := frozen_of_row w3 (w.heap.size + 1) 1 _ _ h4
    have hz := hb3.size
    simp only [World.size_alloc] at hz hrow
    have HR := hide hrow
    have HB3 := hide ((HB0.out _ _).trans (hb3.mono (B' := w.heap.size) (by simp; omega)))
    clear hb3 hrow h3 h4 HOT HPR
    go_wp2
    have s0 := World.cell?_setCell_same w3 ⟨w.heap.size + 1, 0, none⟩ (.slice so sn sk) r0
    have s1 := World.cell?_setCell_same (w3.setCell ⟨w.heap.size + 1, 0, none⟩ (.slice so sn sk)) ⟨w.heap.size + 1, 1, none⟩ (.slice so' l.length sk') ((World.cell?_setCell_other _ _ _ _ (by simp)).trans r1)
    refine bodyPost_ret (v := .tuple #[.agg #[.slice so sn sk, .slice so' l.length sk'], .int .i64 0]) (by simp [results, Tryz.results116, go_sem, s0, s1]) rfl ⟨so', sk', rfl, ?_, ?_⟩
    · have h1 := ownsRow_setCell_below HR.out (a := ⟨w.heap.size + 1, 0, none⟩) (by show w.heap.size + 1 < w.heap.size + 1 + 1; omega) (.slice so sn sk)
      have h2 := ownsRow_setCell_below h1 (a := ⟨w.heap.size + 1, 1, none⟩) (by show w.heap.size + 1 < w.heap.size + 1 + 1; omega) (.slice so' l.length sk')
      exact ownsRow_base h2 (Nat.zero_le _)
    · exact (HB3.out.setCell (p := ⟨w.heap.size + 1, 0, none⟩) (by show w.heap.size ≤ w.heap.size + 1; omega) _).setCell (p := ⟨w.heap.size + 1, 1, none⟩) (by show w.heap.size ≤ w.heap.size + 1; omega) _

/-- what a procedure counts. -/
def countL (ps : List (Jn.Bytes × Jn.Bytes)) (n : Jn.Bytes) : Int := match srcL ps n with | some s => 2 * ((s.length : Int) + n.length) | none => 0
theorem count_bd {C : Jn.Con} (h : Jn.Ok C) (n : Jn.Bytes) : 0 ≤ countL C.procs n ∧ countL C.procs n ≤ 2000 := by
  unfold countL
  cases hs : srcL C.procs n with
  | none => exact ⟨by simp, by simp⟩
  | some s =>
    have hm := src_mem _ _ _ hs
    have h1 := name_len _ (h.prc _ hm).1
    have h2 := read_len _ (h.prc _ hm).2
    simp only at h1 h2 ⊢
    omega

set_option maxHeartbeats 1000000 in
theorem procBytes_any (b : Nat) (v : Value) (C : Jn.Con) (n : ByteArray) (w : World) (h : PRow w b v C.procs) (hok : Jn.Ok C) :
    Calls Tryz.prog 115 #[v, .string n] w fun e w' => e = .returned (.int .i64 (countL C.procs n.data.toList)) ∧ w' = w := by
  obtain ⟨po, pk, rfl, -⟩ := h.shape
  have hcnt := hok.cnt
  have hpr := proc_any b (.slice po C.procs.length pk) C.procs n w h (by omega)
  have hl : n.data.toList.length = n.size := by simp
  cases hs : srcL C.procs n.data.toList with
  | none =>
    rw [hs] at hpr
    simp only [Option.getD_none, Option.isSome_none, T] at hpr
    have HPR := hide hpr
    have HE : Hid (countL C.procs n.data.toList = 0) := by show _ = _; unfold countL; rw [hs]
    clear hpr h hok hs
    go_enter Tryz.func115, Tryz.ntmps115
    go_wp2_with fail
    refine HPR.out.mono ?_
    rintro e w2 ⟨rfl, rfl⟩
    go_wp2
    go_ret
    rw [HE.out]
    exact ⟨rfl, rfl⟩
  | some s =>
    rw [hs] at hpr
    simp only [Option.getD_some, Option.isSome_some, T] at hpr
    have hm := src_mem _ _ _ hs
    have h1 := name_len _ (hok.prc _ hm).1
    have h2 := read_len _ (hok.prc _ hm).2
    simp only at h1 h2
    rw [hl] at h1
    obtain ⟨q, hq⟩ : ∃ q : ByteArray, q = ⟨s.toArray⟩ := ⟨_, rfl⟩
    have hqs : q.size = s.length := by rw [hq]; rfl
    rw [← hq] at hpr
    have HPR := hide hpr
    have HE : Hid (countL C.procs n.data.toList = 2 * ((q.size : Int) + n.size)) := by show _ = _; unfold countL; rw [hs, hqs, hl]
    rw [← hqs] at h2
    clear hpr h hok hs hq hqs hm hl
    go_enter Tryz.func115, Tryz.ntmps115
    go_wp2_with fail
    refine HPR.out.mono ?_
    rintro e w2 ⟨rfl, rfl⟩
    go_wp2
    go_ret
    rw [HE.out]
    exact ⟨rfl, rfl⟩
end Go.Proofs.YtellilpeakpbfaaGreatDoor

end

section
/-
  The walks of the store's calls: Install, Drop.
-/
namespace Go.Proofs.YtellilpeakpbfaaGreatDoor
open Go.RowKit

set_option maxHeartbeats 400000 in
theorem dropJ_any (n : ByteArray) (w : World) (hn : n.size ≤ 1000) :
    Calls Tryz.prog 64 #[.string n] w fun e w' => ∃ X : ByteArray, e = .returned (.string X) ∧ X.data.toList = Jn.dropE n.data.toList ∧ X.size ≤ 2000 ∧ w' = w := by
  go_enter Tryz.func64, Tryz.ntmps64
  go_wp2
  go_ret
  refine ⟨_, rfl, ?_, ?_, rfl⟩
  · simp only [app_list]; rfl
  · simp only [ByteArray.size_append, one_size]; omega

/-- what Install answers: the contents behind it, the place, the error, what is told. -/
def InsOwn (L S B : Nat) (C' : Jn.Con) (f at' er : Int) (es : List UInt8) (w : World) (e : Ending) (w' : World) : Prop :=
  ∃ v, e = .returned (.tuple #[.int .i64 at', v, .int .i64 er]) ∧ StAt L w' S B C' f ∧ Fr L [] (some B) w w' ∧ ((er ≠ 0 ∧ v = .slice none 0 0) ∨ (er = 0 ∧ ARow w' w.heap.size v [(1, f, Jn.record es)]))

set_option maxHeartbeats 1000000 in
set_option maxRecDepth 100000 in
theorem installS_own (L S B : Nat) (C : Jn.Con) (f : Int) (n s : ByteArray) (w : World) (h : StAt L w S B C f) (hW : WordsAt w) :
    Calls Tryz.prog 29 #[.pointer (some ⟨S, 0, none⟩), .string n, .string s] w (InsOwn L S B (Jn.install C n.data.toList s.data.toList).1 f (Jn.install C n.data.toList s.data.toList).2.1 (Jn.install C n.data.toList s.data.toList).2.2 (Jn.installE n.data.toList s.data.toList) w) := by
  obtain ⟨c0, -, -, -⟩ := h.cells
  have hp := installC_own L B C n s w h.con hW
  have hval : (Jn.install C n.data.toList s.data.toList).2.2 = 0 → n.size ≤ 8 ∧ s.size ≤ 400 ∧ (Jn.install C n.data.toList s.data.toList).2.1 = 0 := by
    intro h0
    obtain ⟨h1, h2, h3⟩ := install_facts _ _ _ h0
    exact ⟨by rw [size_list]; exact name_len _ h1, by rw [size_list]; exact read_len _ h2, h3⟩
  generalize Jn.install C n.data.toList s.data.toList = q at *
  obtain ⟨q1, q2, q3⟩ := q
  have HP := hide hp
  have HH := hide h
  have HV := hide hval
  clear hp h hval hW
  go_enter Tryz.func29, Tryz.ntmps29
  go_wp2_with fail
  refine HP.out.mono ?_
  rintro e w1 ⟨rfl, hc1, hf1⟩
  have HS1 := hide (HH.out.conB hf1 hc1)
  have HF1 := hide hf1
  clear hc1 hf1 HP
  cases ht : (q3 != (0 : Int)) with
  | true =>
    have HNE : Hid (q3 ≠ 0) := by show _ ≠ _; simpa using ht
    go_wp2
    go_ret3
    exact ⟨_, rfl, HS1.out, HF1.out, .inl ⟨HNE.out, rfl⟩⟩
  | false =>
    have h0 : q3 = 0 := by simpa using ht
    obtain ⟨k0, k1, hz⟩ := HV.out h0
    have HE0 := hide h0
    have HEZ := hide hz
    have HPJ := hide (installJ_any n s w1 (by omega) (by omega))
    clear h0 hz
    go_wp2_with fail
    refine HPJ.out.mono ?_
    rintro e w2 ⟨X, rfl, hX, hXs, rfl⟩
    have HX := hide hX
    have HTL := hide (tell_any L S B q1 f X w2 HS1.out (by omega))
    clear hX HPJ
    go_wp2_with fail
    refine HTL.out.mono ?_
    rintro e w3 ⟨v, rfl, hr, hb3⟩
    obtain ⟨ao, cap, rfl, hnn, -⟩ := own_slice hr
    have HFIN : Hid (InsOwn L S B q1 f 0 0 (Jn.installE n.data.toList s.data.toList) w (.returned (.tuple #[.int .i64 0, .slice ao 1 cap, .int .i64 0])) w3) := by
      have hL1 : L ≤ w2.heap.size := Nat.le_trans HS1.out.low (Nat.le_of_lt HS1.out.lt)
      refine ⟨_, rfl, HS1.out.below hb3, HF1.out.trans (Fr.of hb3 hL1), .inr ⟨rfl, ?_⟩⟩
      rw [HX.out] at hr
      exact ownsRow_base hr HF1.out.size
    clear hr hb3 HTL
    go_wp2
    go_ret3
    rw [HE0.out, HEZ.out]
    exact HFIN.out

set_option maxHeartbeats 1000000 in
set_option maxRecDepth 100000 in
theorem dropS_own (L S B : Nat) (C : Jn.Con) (f : Int) (n : ByteArray) (w : World) (h : StAt L w S B C f) :
    Calls Tryz.prog 35 #[.pointer (some ⟨S, 0, none⟩), .string n] w (ChgOwn L S B (Jn.drop C n.data.toList).1 f (Jn.drop C n.data.toList).2 (Jn.dropE n.data.toList) w) := by
  obtain ⟨c0, -, -, -⟩ := h.cells
  have hp := dropC_own L B C n w h.con
  have hval : (Jn.drop C n.data.toList).2 = 0 → n.size ≤ 10 := by
    intro h0
    obtain ⟨-, -, h3⟩ := drop_redo h.con.ok _ h0
    rw [size_list]
    simp [Jn.dropE] at h3
    simp
    omega
  generalize Jn.drop C n.data.toList = q at *
  obtain ⟨q1, q2⟩ := q
  have HP := hide hp
  have HH := hide h
  have HV := hide hval
  clear hp h hval
  go_enter Tryz.func35, Tryz.ntmps35
  go_wp2_with fail
  refine HP.out.mono ?_
  rintro e w1 ⟨rfl, hc1, hf1⟩
  have HS1 := hide (HH.out.conB hf1 hc1)
  have HF1 := hide hf1
  clear hc1 hf1 HP
  cases ht : (q2 != (0 : Int)) with
  | true =>
    have HNE : Hid (q2 ≠ 0) := by show _ ≠ _; simpa using ht
    go_wp2
    go_ret2
    exact ⟨_, rfl, HS1.out, HF1.out, .inl ⟨HNE.out, rfl⟩⟩
  | false =>
    have h0 : q2 = 0 := by simpa using ht
    have k0 := HV.out h0
    have HE0 := hide h0
    have HPJ := hide (dropJ_any n w1 (by omega))
    clear h0
    go_wp2_with fail
    refine HPJ.out.mono ?_
    rintro e w2 ⟨X, rfl, hX, hXs, rfl⟩
    have HX := hide hX
    have HTL := hide (tell_any L S B q1 f X w2 HS1.out (by omega))
    clear hX HPJ
    go_wp2_with fail
    refine HTL.out.mono ?_
    rintro e w3 ⟨v, rfl, hr, hb3⟩
    obtain ⟨ao, cap, rfl, hnn, -⟩ := own_slice hr
    have HFIN : Hid (ChgOwn L S B q1 f 0 (Jn.dropE n.data.toList) w (.returned (.tuple #[.slice ao 1 cap, .int .i64 0])) w3) := by
      have hL1 : L ≤ w2.heap.size := Nat.le_trans HS1.out.low (Nat.le_of_lt HS1.out.lt)
      refine ⟨_, rfl, HS1.out.below hb3, HF1.out.trans (Fr.of hb3 hL1), .inr ⟨rfl, ?_⟩⟩
      rw [HX.out] at hr
      exact ownsRow_base hr HF1.out.size
    clear hr hb3 HTL
    go_wp2
    go_ret2
    rw [HE0.out]
    exact HFIN.out
/-- what Install answers, its contents by their type. -/
def InsPost (L S B : Nat) (C' : Jn.Con) (f at' er : Int) (es : List UInt8) (w : World) (e : Ending) (w' : World) : Prop :=
  ∃ v, e = .returned (.tuple #[.int .i64 at', v, .int .i64 er]) ∧ StAt L w' S B C' f ∧ Fr L [145] none w w' ∧ ((er ≠ 0 ∧ v = .slice none 0 0) ∨ (er = 0 ∧ ARow w' w.heap.size v [(1, f, Jn.record es)]))
theorem installS_any (L S B : Nat) (C : Jn.Con) (f : Int) (n s : ByteArray) (w : World) (h : StAt L w S B C f) (hW : WordsAt w) :
    Calls Tryz.prog 29 #[.pointer (some ⟨S, 0, none⟩), .string n, .string s] w (InsPost L S B (Jn.install C n.data.toList s.data.toList).1 f (Jn.install C n.data.toList s.data.toList).2.1 (Jn.install C n.data.toList s.data.toList).2.2 (Jn.installE n.data.toList s.data.toList) w) :=
  (installS_own L S B C f n s w h hW).mono fun _ _ ⟨v, h1, h2, h3, h4⟩ => ⟨v, h1, h2, h.weakB h3, h4⟩
theorem dropS_any (L S B : Nat) (C : Jn.Con) (f : Int) (n : ByteArray) (w : World) (h : StAt L w S B C f) :
    Calls Tryz.prog 35 #[.pointer (some ⟨S, 0, none⟩), .string n] w (ChgPost L S B (Jn.drop C n.data.toList).1 f (Jn.drop C n.data.toList).2 (Jn.dropE n.data.toList) w) := (dropS_own L S B C f n w h).mono fun _ _ g => g.weak h
end Go.Proofs.YtellilpeakpbfaaGreatDoor

end
