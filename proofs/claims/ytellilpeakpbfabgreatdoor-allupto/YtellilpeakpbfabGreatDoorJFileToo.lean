import Derived.Test.YtellilpeakpbfabGreatDoorJEntToo
/-
  The walks of journal: readFile, Read.
-/
namespace Go.Proofs.YtellilpeakpbfabGreatDoor
open Go.RowKit

theorem Tryz.zeroCon : Tryz.zeroCells123 = (pairs (List.replicate 100 (Value.bool false, Value.int .i64 0)) ++ [Value.slice none 0 0]).toArray := by kernel_rfl
/-- new contents hold nothing. -/
theorem con_new (w : World) : ConAt w.heap.size (w.alloc (.cells Tryz.zeroCells123 123)) w.heap.size Jn.none0 := by
  have hl : (pairs (List.replicate 100 (Value.bool false, Value.int .i64 0))).length = 200 := by rw [pairs_len, List.length_replicate]
  refine ⟨Nat.le_refl _, Jn.ok_none, _, .slice none 0 0, heap_alloc_new w _, ?_, ?_, ?_, World.ownsRow_nil _ _ _ _⟩
  · rw [Tryz.zeroCon]
    simp only [List.size_toArray, List.length_append, hl]
    rfl
  · intro k o hk
    have hk' : k < 100 := by have := (List.getElem?_eq_some_iff.1 hk).1; simpa [Jn.none0] using this
    have ho : o = none := by
      simp only [Jn.none0, List.getElem?_replicate] at hk
      rw [if_pos hk'] at hk
      simpa using hk.symm
    subst ho
    obtain ⟨c1, c2⟩ := pairs_at (List.replicate 100 (Value.bool false, Value.int .i64 0)) k (.bool false, .int .i64 0) (by rw [List.getElem?_replicate, if_pos hk'])
    rw [Tryz.zeroCon]
    simp only [List.getElem?_toArray]
    rw [List.getElem?_append_left (by omega), List.getElem?_append_left (by omega)]
    exact ⟨c1, c2⟩
  · rw [Tryz.zeroCon]
    simp only [List.getElem?_toArray]
    rw [List.getElem?_append_right (by omega), hl]
    rfl

theorem ConAt.low' {L L' : Nat} {w : World} {B : Nat} {C : Jn.Con} (h : ConAt L w B C) (hL : L' ≤ B) : ConAt L' w B C := ⟨hL, h.ok, h.mem⟩

/-- what readFile answers: at block B, made by the call. -/
def FilePost (o : Option (Jn.Con × Bool)) (w : World) (e : Ending) (w' : World) : Prop :=
  Below w.heap.size w w' ∧ ((∃ C b B, o = some (C, b) ∧ ConAt w.heap.size w' B C ∧ e = .returned (.tuple #[.pointer (some ⟨B, 0, none⟩), .bool b, .int .i64 0])) ∨
    (o = none ∧ e = .returned (.tuple #[.pointer none, .bool false, .int .i64 11])))

theorem recs_cut {C : Jn.Con} {l a b : List UInt8} (h : Jn.cutAt 46 l = some (a, b)) : Jn.redoRecs C (Jn.pieces 46 l).1 = match Jn.redo C a with | some D => Jn.redoRecs D (Jn.pieces 46 b).1 | none => none := by
  rw [(Jn.cut_some 46 l a b h).1]
  rfl

def FiRel (N B : Nat) (o : Option Jn.Con) (w : World) (s : ByteArray) (x : Value) (wr : World) : Prop :=
  ∃ (u : ByteArray) (D : Jn.Con), x = .string u ∧ u.size ≤ s.size ∧ ConAt N wr B D ∧ Fr N [123] none w wr ∧ Jn.redoRecs D (Jn.pieces 46 u.data.toList).1 = o ∧ (u = s ∨ (u.size < s.size ∧ (Jn.pieces 46 s.data.toList).1 ≠ []))

set_option maxHeartbeats 1000000 in
set_option maxRecDepth 100000 in
theorem readFile_any (s : ByteArray) (w : World) (hW : WordsAt w) (hs : s.size ≤ 1152921504606846976) :
    Calls Tryz.prog 69 #[.string s] w (FilePost (Jn.readFile s.data.toList) w) := by
  obtain ⟨r, hr⟩ : ∃ r, r = Jn.redoRecs Jn.none0 (Jn.pieces 46 s.data.toList).1 := ⟨_, rfl⟩
  unfold Jn.readFile
  rw [← hr]
  obtain ⟨w1, hw1⟩ : ∃ w1, w1 = w.alloc (.cells Tryz.zeroCells123 123) := ⟨_, rfl⟩
  have HB1 : Hid (Below w.heap.size w w1) := by show Below _ _ _; rw [hw1]; exact (Below.refl _ _).alloc (Nat.le_refl _) _
  have hgL : 0 < w.heap.size := hW.1
  have HS : Hid (FiRel w.heap.size w.heap.size r w1 s (.string s) w1) :=
    ⟨s, Jn.none0, rfl, Nat.le_refl _, by rw [hw1]; exact con_new w, Fr.refl _ _ _ _, hr.symm, .inl rfl⟩
  have HW : Hid (WordsAt w1) := by show WordsAt _; exact hW.below hW.1 HB1.out
  clear hr hW
  go_enter Tryz.func69, Tryz.ntmps69
  go_wp2
  rw [← hw1]
  have HW1 := hide hw1
  clear hw1
  go_loopw [6] (fun x wr => FiRel w.heap.size w.heap.size r w1 s x wr) (fun x _ => strLen x)
  case atStart => exact HS.out
  case round =>
    obtain ⟨u, D, rfl, hu, hcon, hfr, hgo, hp1⟩ := hrel
    have HCON := hide hcon
    have HF := hide hfr
    have HG := hide hgo
    have HP1 := hide hp1
    clear hcon hfr hgo HS hp1
    have hend : (Jn.pieces 46 u.data.toList).1 = [] → r = some D ∧ decide (u.size < s.size) = decide ((Jn.pieces 46 s.data.toList).1 ≠ []) := by
      intro hp
      refine ⟨by rw [← HG.out, hp]; rfl, ?_⟩
      rcases HP1.out with e | ⟨h1, h2⟩
      · rw [decide_eq_false (by rw [e]; omega), decide_eq_false]
        rw [← e]; exact fun h => h hp
      · rw [decide_eq_true h1, decide_eq_true h2]
    have HEND := hide hend
    clear hend
    by_cases h0 : u.size = 0
    · have t1 : decide (0 < u.size) = false := decide_eq_false (by omega)
      have hl : u.data.toList.length = u.size := by simp
      have HE := hide (HEND.out (by rw [List.length_eq_zero_iff.1 (hl.trans h0)]; rfl))
      clear h0 hl HEND
      go_wp2
      go_ret3
      refine ⟨HB1.out.trans HF.out.below, .inl ⟨D, decide ((Jn.pieces 46 s.data.toList).1 ≠ []), w.heap.size, by rw [HE.out.1]; rfl, HCON.out, ?_⟩⟩
      rw [← HE.out.2]
      rfl
    · have t1 : decide (0 < u.size) = true := decide_eq_true (by omega)
      have hL : w.heap.size ≤ wr.heap.size := Nat.le_of_lt HCON.out.lt
      have hc : ∀ w, Calls Tryz.prog 97 #[.string u, .int .u8 46] w fun e w' => CutPost 46 u.data.toList e ∧ Below w.heap.size w w' := fun w => cut_any u 46 w (by omega)
      have HC := hide hc
      clear hc
      go_wp2_with fail
      refine (HC.out _).mono ?_
      rintro e w2 ⟨⟨A, Z, b, rfl, hcut⟩, hb⟩
      have HCON1 := hide (HCON.out.below hb)
      have HF1 : Hid (Fr w.heap.size [123] none w1 w2) := HF.out.trans (Fr.of hb hL)
      clear hb HC HCON HF
      rcases hcut with ⟨rfl, hcut⟩ | ⟨rfl, hcut⟩
      · have hsz := cut_size hcut
        have HX := hide (recs_cut (C := D) hcut)
        have hps := (Jn.cut_some 46 _ _ _ hcut).1
        have HN : Hid ((Jn.pieces 46 s.data.toList).1 ≠ [] ) := by
          show _ ≠ _
          rcases HP1.out with e | ⟨_, h2⟩
          · rw [← e, hps]; simp
          · exact h2
        have hent := redo_any w.heap.size w.heap.size D A w2 HCON1.out (HW.out.fr hgL HF1.out) hgL (by omega)
        clear hcut hps
        generalize Jn.redo D A.data.toList = o at *
        have HEN := hide hent
        clear hent HEND
        go_wp2_with fail
        refine HEN.out.mono ?_
        rintro e w3 ⟨E, hE, hf, (⟨ho, rfl⟩ | ⟨ho, rfl⟩)⟩
        · have HR2 : Hid (FiRel w.heap.size w.heap.size r w1 s (.string Z) w3) := ⟨Z, E, rfl, by omega, hE, HF1.out.trans hf, by rw [← HG.out, HX.out, ho], .inr ⟨by omega, HN.out⟩⟩
          clear hE hf ho HEN
          go_wp2
          go_roundw
          case rel => exact HR2.out
          case measure => simp [strLen]; omega
        · have HR2 : Hid (r = none) := by show _ = _; rw [← HG.out, HX.out, ho]
          have HB3 : Hid (Below w.heap.size w w3) := HB1.out.trans (HF1.out.trans hf).below
          clear hE hf ho HEN
          go_wp2
          go_ret3
          exact ⟨HB3.out, .inr ⟨by rw [HR2.out]; rfl, rfl⟩⟩
      · have hps := Jn.cut_none 46 _ hcut
        have HE := hide (HEND.out (by rw [hps]))
        clear hps hcut HEND
        go_wp2
        go_ret3
        refine ⟨HB1.out.trans HF1.out.below, .inl ⟨D, decide ((Jn.pieces 46 s.data.toList).1 ≠ []), w.heap.size, by rw [HE.out.1]; rfl, HCON1.out, ?_⟩⟩
        rw [← HE.out.2]
        rfl

set_option maxHeartbeats 400000 in
theorem file_fail (s : ByteArray) (w : World) (hW : WordsAt w) (hs : s.size ≤ 1152921504606846976) (h : Jn.readFile s.data.toList = none) :
    Calls Tryz.prog 69 #[.string s] w fun e w' => e = .returned (.tuple #[.pointer none, .bool false, .int .i64 11]) ∧ Below w.heap.size w w' := by
  refine (readFile_any s w hW hs).mono ?_
  rintro e w' ⟨hb, (⟨C, b, B, ho, _, _⟩ | ⟨_, he⟩)⟩
  · rw [h] at ho; cases ho
  · exact ⟨he, hb⟩
theorem file_ok (s : ByteArray) (w : World) (hW : WordsAt w) (hs : s.size ≤ 1152921504606846976) (C : Jn.Con) (b : Bool) (h : Jn.readFile s.data.toList = some (C, b)) :
    Calls Tryz.prog 69 #[.string s] w fun e w' => ∃ B, e = .returned (.tuple #[.pointer (some ⟨B, 0, none⟩), .bool b, .int .i64 0]) ∧ ConAt w.heap.size w' B C ∧ Below w.heap.size w w' := by
  refine (readFile_any s w hW hs).mono ?_
  rintro e w' ⟨hb, (⟨C', b', B, ho, hc, he⟩ | ⟨ho, _⟩)⟩
  · rw [h] at ho; cases ho; exact ⟨B, he, hc, hb⟩
  · rw [h] at ho; cases ho

/-- what Read answers. -/
def ReadPost (o : Option (Jn.Con × Int)) (w : World) (e : Ending) (w' : World) : Prop :=
  Below w.heap.size w w' ∧ ((∃ C f B, o = some (C, f) ∧ ConAt w.heap.size w' B C ∧ e = .returned (.tuple #[.pointer (some ⟨B, 0, none⟩), .int .i64 f, .int .i64 0])) ∨
    (o = none ∧ e = .returned (.tuple #[.pointer none, .int .i64 0, .int .i64 11])))

set_option maxHeartbeats 1000000 in
theorem readJ_any (a b : ByteArray) (w : World) (hW : WordsAt w) (ha : a.size ≤ 1152921504606846976) (hb : b.size ≤ 1152921504606846976) :
    Calls Tryz.prog 49 #[.string a, .string b] w (ReadPost (Jn.readTwo a.data.toList b.data.toList) w) := by
  obtain ⟨r, hr⟩ : ∃ r, r = Jn.readTwo a.data.toList b.data.toList := ⟨_, rfl⟩
  rw [← hr]
  have hla : a.data.toList.length = a.size := by simp
  have hlb : b.data.toList.length = b.size := by simp
  unfold Jn.readTwo at hr
  rw [hla, hlb] at hr
  clear hla hlb
  have hok := file_ok a w hW ha
  have hno := file_fail a w hW ha
  have hok2 := fun w hW => file_ok b w hW hb
  have hno2 := fun w hW => file_fail b w hW hb
  generalize Jn.readFile a.data.toList = oa at *
  generalize Jn.readFile b.data.toList = ob at *
  have HOK := hide hok
  have HNO := hide hno
  have HOK2 := hide hok2
  have HNO2 := hide hno2
  have HW := hide hW
  have HR := hide hr
  clear hok hno hok2 hno2 hW hr
  cases oa with
  | none =>
    have HE : Hid (r = none) := HR.out
    go_enter Tryz.func49, Tryz.ntmps49
    go_wp2_with fail
    refine (HNO.out (by trivial)).mono ?_
    rintro e w1 ⟨rfl, hb1⟩
    have HB := hide hb1
    clear hb1
    go_wp2
    go_ret3
    exact ⟨HB.out, .inr ⟨HE.out, rfl⟩⟩
  | some pa =>
    obtain ⟨CA, ia⟩ := pa
    go_enter Tryz.func49, Tryz.ntmps49
    go_wp2_with fail
    refine (HOK.out CA ia rfl).mono ?_
    rintro e w1 ⟨BA, rfl, hca, hb1⟩
    have HB := hide hb1
    have HCA := hide hca
    clear hb1 hca
    have HW1 : Hid (WordsAt w1) := HW.out.below HW.out.1 HB.out
    cases ob with
    | none =>
      have HE : Hid (r = none) := HR.out
      go_wp2_with fail
      refine (HNO2.out _ HW1.out (by trivial)).mono ?_
      rintro e w2 ⟨rfl, hb2⟩
      have HB2 : Hid (Below w.heap.size w w2) := HB.out.trans (hb2.mono HB.out.size)
      clear hb2
      go_wp2
      go_ret3
      exact ⟨HB2.out, .inr ⟨HE.out, rfl⟩⟩
    | some pb =>
      obtain ⟨CB, ib⟩ := pb
      have HE : Hid (r = if ia = true then some (CA, 0) else if ib = false ∧ 0 < a.size + b.size then none else some (CB, 1)) := HR.out
      go_wp2_with fail
      refine (HOK2.out _ HW1.out CB ib rfl).mono ?_
      rintro e w2 ⟨BB, rfl, hcb, hb2⟩
      have HB2 : Hid (Below w.heap.size w w2) := HB.out.trans (hb2.mono HB.out.size)
      have HCA2 := hide (HCA.out.below hb2)
      have HCB2 : Hid (ConAt w.heap.size w2 BB CB) := hcb.low' (Nat.le_trans HB.out.size hcb.low)
      clear hb2 hcb
      cases ia with
      | true =>
        go_wp2
        go_ret3
        exact ⟨HB2.out, .inl ⟨CA, 0, BA, HE.out, HCA2.out, rfl⟩⟩
      | false =>
        cases ib with
        | true =>
          go_wp2
          go_ret3
          exact ⟨HB2.out, .inl ⟨CB, 1, BB, HE.out, HCB2.out, rfl⟩⟩
        | false =>
          by_cases hz : 0 < a.size + b.size
          · have HE2 : Hid (r = none) := by show _ = _; rw [HE.out, if_neg (by simp), if_pos ⟨rfl, hz⟩]
            have t1 : decide ((0 : Int) < (a.size : Int) + (b.size : Int)) = true := decide_eq_true (by omega)
            go_wp2
            go_ret3
            exact ⟨HB2.out, .inr ⟨HE2.out, rfl⟩⟩
          · have HE2 : Hid (r = some (CB, 1)) := by show _ = _; rw [HE.out, if_neg (by simp), if_neg (fun h => hz h.2)]
            have t1 : decide ((0 : Int) < (a.size : Int) + (b.size : Int)) = false := decide_eq_false (by omega)
            go_wp2
            go_ret3
            exact ⟨HB2.out, .inl ⟨CB, 1, BB, HE2.out, HCB2.out, rfl⟩⟩
end Go.Proofs.YtellilpeakpbfabGreatDoor
