import Derived.Test.YtellilpeakpbfaaGreatDoorGrBToo
/-
  The grower's statements.
-/
set_option linter.unusedVariables false
namespace Go.Proofs.YtellilpeakpbfaaGreatDoor
open Go.RowKit

def BlT (ts : List (List UInt8)) (n : Int) : Prop := ∃ us, ts = [123] :: (us ++ [[125]]) ∧ Kp.SsT us n
def StmAt (L G : Nat) (v : Value) (l : List Int) (dp : Int) : Prop := ∀ (w : World) (room : Int), Gro L G v l room w → 1 ≤ room → room ≤ 16 →
  Calls Tryz.prog 80 #[.pointer (some ⟨G, 0, none⟩), .int .i64 dp] w (XPost L G v l room (fun r => -4 ≤ r) (room - 1) Kp.SmT w)
def StsAt (L G : Nat) (v : Value) (l : List Int) (dp most : Int) : Prop := ∀ (w : World) (room : Int), Gro L G v l room w → -4 ≤ room → room ≤ 16 →
  Calls Tryz.prog 49 #[.pointer (some ⟨G, 0, none⟩), .int .i64 dp, .int .i64 most] w (XPost L G v l room (fun r => -4 ≤ r) room Kp.SsT w)
def BlkAt (L G : Nat) (v : Value) (l : List Int) (dp : Int) : Prop := ∀ (w : World) (room : Int), Gro L G v l room w → -4 ≤ room → room ≤ 16 →
  Calls Tryz.prog 125 #[.pointer (some ⟨G, 0, none⟩), .int .i64 dp] w (XPost L G v l room (fun r => -4 ≤ r) room BlT w)
theorem SmT_len {ts : List (List UInt8)} {n : Int} (h : Kp.SmT ts n) (hn : n ≤ 100) : ts.length ≤ 500 := by
  obtain ⟨e, -, -, -, h4⟩ := h
  have := wt_len ts
  omega
theorem SsT_len {ts : List (List UInt8)} {n : Int} (h : Kp.SsT ts n) (hn : n ≤ 100) : ts.length ≤ 500 := by
  obtain ⟨e, -, -, -, h4⟩ := h
  have := wt_len ts
  omega
/-- a row that the grower's work leaves as it was. -/
theorem SRow.gro {L G : Nat} {v : Value} {l : List Int} {room : Int} {w w' : World} {b : Nat} {vr : Value} {ts : List (List UInt8)} (h : SRow w b vr ts) (hg : Gro L G v l room w) (hf : Fr L [] (some G) w w') : SRow w' b vr ts := by
  obtain ⟨k, -, hm⟩ := hg.mem
  exact own_fr h hf (by simp) (.inr (fun e => own_neB h hm (by decide) e.symm))
/-- a statement's end: its tokens lie in a new row. -/
theorem stm_post {L G : Nat} {v : Value} {l : List Int} {room r : Int} {lo : Int → Prop} {hi : Int} {w wy wz : World} {vr : Value} {ts : List (List UInt8)} {R : List (List UInt8) → Int → Prop} (hr : SRow wz wy.heap.size vr ts) (hb : Below wy.heap.size wy wz) (hT : R ts (room - r)) (h0 : lo r) (h1 : r ≤ hi) (hl : ts.length ≤ 1000) (hg : Gro L G v l r wy) (hf : Fr L [] (some G) w wy) :
    XPost L G v l room lo hi R w (.returned vr) wz :=
  ⟨vr, ts, r, rfl, hr.down hf.size, hT, h0, h1, hl, hg.below hb, hf.trans (Fr.of hb hg.lowL)⟩

set_option maxHeartbeats 16000000 in
set_option maxRecDepth 100000 in
theorem stmt_step (L G : Nat) (v : Value) (l : List Int) (dp : Int) (d0 : 0 ≤ dp) (d2 : dp ≤ 2) (hblk : 1 ≤ dp → BlkAt L G v l (dp - 1)) : StmAt L G v l dp := by
  intro w room hg r0 r1
  have HNX := hide (fun (y : World) (q : Int) (n : Nat) (n0 : 0 < n) (n1 : n ≤ 1000) (hy : Gro L G v l q y) => gnext_any L G v l q n n0 n1 y hy)
  obtain ⟨c2, f2⟩ := hg.cell
  obtain ⟨w1, hw1⟩ : ∃ w1, w1 = w.setCell ⟨G, 2, none⟩ (.int .i64 (room - 1)) := ⟨_, rfl⟩
  obtain ⟨hg1, hf1⟩ := hg.setRoom (room - 1)
  rw [← hw1] at hg1 hf1
  have HN9 := hide (HNX.out w1 (room - 1) 9 (by decide) (by decide) hg1)
  have HF1 := hide hf1
  have HBK := hide hblk
  have HEX := hide (expr_2 L G v l)
  clear hg hg1 hf1 hblk
  go_enter Tryz.func80, Tryz.ntmps80
  go_upto_region 2 with fail
  rw [← hw1]
  have HW1 := hide hw1
  clear hw1 c2 f2
  go_wp2_with fail
  refine HN9.out.mono ?_
  rintro e w2 ⟨c, hc9, rfl, hg2, hf2⟩
  have HF2 := hide (HF1.out.trans hf2)
  have HE2 := hide (HEX.out w2 (room - 1) hg2 (by omega) (by omega))
  clear hg2 hf2 HN9 HF1 HW1
  go_wp2_with fail
  refine HE2.out.mono ?_
  rintro e w3 ⟨ve, es, re, rfl, hrow, hT, hlo, hhi, hln, hg3, hf3⟩
  have hre : -3 ≤ re := by omega
  have HG3 := hide hg3
  have HF3 := hide (HF2.out.trans hf3)
  have HRE := hide hrow
  have HTE := hide hT
  clear hg3 hf3 hrow hT hlo HE2 HF2
  have hc : (c = 1 ∨ c = 2) ∨ c = 3 ∨ c = 4 ∨ (c = 5 ∧ 1 ≤ dp) ∨ (c = 6 ∧ 1 ≤ dp) ∨ c = 7 ∨ (c = 0 ∨ c = 8 ∨ (c = 5 ∧ dp = 0) ∨ (c = 6 ∧ dp = 0)) := by omega
  rcases hc with hc | rfl | rfl | ⟨rfl, hdp⟩ | ⟨rfl, hdp⟩ | rfl | hc
  · have hk : (((c : Int) == 1) = true) ∨ (((c : Int) == 1) = false ∧ ((c : Int) == 2) = true) := by
      rcases hc with rfl | rfl
      · exact .inl rfl
      · exact .inr ⟨rfl, rfl⟩
    have HE3 := hide (HEX.out w3 re HG3.out (by omega) (by omega))
    clear hc HBK HNX HEX
    have HPUT : Hid (∀ (w4 : World) (vf : Value) (fs : List (List UInt8)) (rf : Int), SRow w4 w3.heap.size vf fs → Kp.ExT fs (re - rf) → -4 ≤ rf → rf ≤ re - 1 → fs.length ≤ 1000 → Gro L G v l rf w4 → Fr L [] (some G) w3 w4 → True) := fun _ _ _ _ _ _ _ _ _ _ _ => trivial
    clear HPUT
    rcases hk with k1 | ⟨k1, k2⟩
    · go_wp2_with fail
      refine HE3.out.mono ?_
      rintro e w4 ⟨vf, fs, rf, rfl, hrowf, hTf, hlof, hhif, hlnf, hg4, hf4⟩
      have HRE4 := hide (HRE.out.gro HG3.out hf4)
      have HRF := hide hrowf
      have HTF := hide hTf
      have HG4 := hide hg4
      have HF4 := hide (HF3.out.trans hf4)
      clear hrowf hTf hg4 hf4 HE3 HRE HG3 HF3
      have HX1 : Hid (SRow (w4.alloc (.cells #[.string ⟨#[112, 117, 116]⟩] 9)) w4.heap.size (.slice (some ⟨w4.heap.size, 0, none⟩) 1 1) [[112, 117, 116]]) := srow_one w4 _ (Nat.le_refl _) ⟨#[112, 117, 116]⟩ [112, 117, 116] rfl
      have HX2 := hide (SRow.below HRE4.out ((Below.refl w4.heap.size w4).alloc (Nat.le_refl _) (.cells #[.string ⟨#[112, 117, 116]⟩] 9)))
      have HX3 : Hid (Below w4.heap.size w4 (w4.alloc (.cells #[.string ⟨#[112, 117, 116]⟩] 9))) := (Below.refl _ _).alloc (Nat.le_refl _) _
      go_wp2_with (at_builtin; refine append_rows w4 _ rfl (.tmp 29) (.tmp 30) rfl w2.heap.size _ _ [[112, 117, 116]] es rfl rfl HX1.out HX2.out HX3.out (by simp; omega) ?_)
      intro v5 w5 hrow5 hb5
      have HR5 : Hid (SRow w5 w4.heap.size v5 ([112, 117, 116] :: es)) := hrow5
      have HB5 := hide hb5
      clear hrow5 hb5 HX1 HX2 HX3
      have HX2 := hide (SRow.below HRF.out HB5.out)
      go_wp2_with (at_builtin; refine append_rows w4 _ rfl (.tmp 31) (.tmp 32) rfl w3.heap.size _ _ ([112, 117, 116] :: es) fs rfl rfl HR5.out HX2.out HB5.out (by simp; omega) ?_)
      intro v6 w6 hrow6 hb6
      have HR6 := hide hrow6
      have HB6 := hide hb6
      clear hrow6 hb6 HX2 HR5 HB5
      go_wp2_with fail
      go_ret
      have hfin := Kp.SmT.put HTE.out HTF.out
      rw [show room - 1 - re + (re - rf) + 1 = room - rf by omega] at hfin
      have hlf := SmT_len hfin (by omega)
      refine stm_post HR6.out HB6.out ?_ (by omega) (by omega) ?_ HG4.out HF4.out
      · simpa using hfin
      · simp at hlf ⊢; omega
    · go_wp2_with fail
      refine HE3.out.mono ?_
      rintro e w4 ⟨vf, fs, rf, rfl, hrowf, hTf, hlof, hhif, hlnf, hg4, hf4⟩
      have HRE4 := hide (HRE.out.gro HG3.out hf4)
      have HRF := hide hrowf
      have HTF := hide hTf
      have HG4 := hide hg4
      have HF4 := hide (HF3.out.trans hf4)
      clear hrowf hTf hg4 hf4 HE3 HRE HG3 HF3
      have HX1 : Hid (SRow (w4.alloc (.cells #[.string ⟨#[112, 117, 116]⟩] 9)) w4.heap.size (.slice (some ⟨w4.heap.size, 0, none⟩) 1 1) [[112, 117, 116]]) := srow_one w4 _ (Nat.le_refl _) ⟨#[112, 117, 116]⟩ [112, 117, 116] rfl
      have HX2 := hide (SRow.below HRE4.out ((Below.refl w4.heap.size w4).alloc (Nat.le_refl _) (.cells #[.string ⟨#[112, 117, 116]⟩] 9)))
      have HX3 : Hid (Below w4.heap.size w4 (w4.alloc (.cells #[.string ⟨#[112, 117, 116]⟩] 9))) := (Below.refl _ _).alloc (Nat.le_refl _) _
      go_wp2_with (at_builtin; refine append_rows w4 _ rfl (.tmp 29) (.tmp 30) rfl w2.heap.size _ _ [[112, 117, 116]] es rfl rfl HX1.out HX2.out HX3.out (by simp; omega) ?_)
      intro v5 w5 hrow5 hb5
      have HR5 : Hid (SRow w5 w4.heap.size v5 ([112, 117, 116] :: es)) := hrow5
      have HB5 := hide hb5
      clear hrow5 hb5 HX1 HX2 HX3
      have HX2 := hide (SRow.below HRF.out HB5.out)
      go_wp2_with (at_builtin; refine append_rows w4 _ rfl (.tmp 31) (.tmp 32) rfl w3.heap.size _ _ ([112, 117, 116] :: es) fs rfl rfl HR5.out HX2.out HB5.out (by simp; omega) ?_)
      intro v6 w6 hrow6 hb6
      have HR6 := hide hrow6
      have HB6 := hide hb6
      clear hrow6 hb6 HX2 HR5 HB5
      go_wp2_with fail
      go_ret
      have hfin := Kp.SmT.put HTE.out HTF.out
      rw [show room - 1 - re + (re - rf) + 1 = room - rf by omega] at hfin
      have hlf := SmT_len hfin (by omega)
      refine stm_post HR6.out HB6.out ?_ (by omega) (by omega) ?_ HG4.out HF4.out
      · simpa using hfin
      · simp at hlf ⊢; omega
  · clear HBK HNX HEX
    have HX1 : Hid (SRow (w3.alloc (.cells #[.string ⟨#[100, 101, 108]⟩] 9)) w3.heap.size (.slice (some ⟨w3.heap.size, 0, none⟩) 1 1) [[100, 101, 108]]) := srow_one w3 _ (Nat.le_refl _) ⟨#[100, 101, 108]⟩ [100, 101, 108] rfl
    have HX2 := hide (SRow.below HRE.out ((Below.refl w3.heap.size w3).alloc (Nat.le_refl _) (.cells #[.string ⟨#[100, 101, 108]⟩] 9)))
    have HX3 : Hid (Below w3.heap.size w3 (w3.alloc (.cells #[.string ⟨#[100, 101, 108]⟩] 9))) := (Below.refl _ _).alloc (Nat.le_refl _) _
    go_wp2_with (at_builtin; refine append_rows w3 _ rfl (.tmp 36) (.tmp 37) rfl w2.heap.size _ _ [[100, 101, 108]] es rfl rfl HX1.out HX2.out HX3.out (by simp; omega) ?_)
    intro v5 w5 hrow5 hb5
    have HR5 : Hid (SRow w5 w3.heap.size v5 ([100, 101, 108] :: es)) := hrow5
    have HB5 := hide hb5
    clear hrow5 hb5 HX1 HX2 HX3
    go_wp2_with fail
    go_ret
    have hfin := Kp.SmT.del HTE.out
    rw [show room - 1 - re + 1 = room - re by omega] at hfin
    have hlf := SmT_len hfin (by omega)
    refine stm_post HR5.out HB5.out ?_ (by omega) (by omega) ?_ HG3.out HF3.out
    · simpa using hfin
    · simp at hlf ⊢; omega
  · clear HBK HNX HEX
    have HX1 : Hid (SRow (w3.alloc (.cells #[.string ⟨#[115, 116, 111, 112]⟩] 9)) w3.heap.size (.slice (some ⟨w3.heap.size, 0, none⟩) 1 1) [[115, 116, 111, 112]]) := srow_one w3 _ (Nat.le_refl _) ⟨#[115, 116, 111, 112]⟩ [115, 116, 111, 112] rfl
    have HX2 := hide (SRow.below HRE.out ((Below.refl w3.heap.size w3).alloc (Nat.le_refl _) (.cells #[.string ⟨#[115, 116, 111, 112]⟩] 9)))
    have HX3 : Hid (Below w3.heap.size w3 (w3.alloc (.cells #[.string ⟨#[115, 116, 111, 112]⟩] 9))) := (Below.refl _ _).alloc (Nat.le_refl _) _
    go_wp2_with (at_builtin; refine append_rows w3 _ rfl (.tmp 41) (.tmp 42) rfl w2.heap.size _ _ [[115, 116, 111, 112]] es rfl rfl HX1.out HX2.out HX3.out (by simp; omega) ?_)
    intro v5 w5 hrow5 hb5
    have HR5 : Hid (SRow w5 w3.heap.size v5 ([115, 116, 111, 112] :: es)) := hrow5
    have HB5 := hide hb5
    clear hrow5 hb5 HX1 HX2 HX3
    go_wp2_with fail
    go_ret
    have hfin := Kp.SmT.stop HTE.out
    rw [show room - 1 - re + 1 = room - re by omega] at hfin
    have hlf := SmT_len hfin (by omega)
    refine stm_post HR5.out HB5.out ?_ (by omega) (by omega) ?_ HG3.out HF3.out
    · simpa using hfin
    · simp at hlf ⊢; omega
  · have HB3 := hide (HBK.out hdp)
    have t1 : decide (0 < dp) = true := decide_eq_true (by omega)
    have HE3 := hide (HB3.out w3 re HG3.out (by omega) (by omega))
    clear HBK HNX HEX
    go_wp2_with fail
    refine HE3.out.mono ?_
    rintro e w4 ⟨va, xa, ra, rfl, hrowa, ⟨as0, hase, hTa⟩, hloa, hhia, hlna, hg4, hf4⟩
    have HRE4 := hide (HRE.out.gro HG3.out hf4)
    have HRA := hide hrowa
    have HTA := hide hTa
    have HASE := hide hase
    have HF4 := hide (HF3.out.trans hf4)
    have HE4 := hide (HB3.out w4 ra hg4 (by omega) (by omega))
    have HG4 := hide hg4
    clear hrowa hTa hase hg4 hf4 HE3 HRE HG3 HF3 HB3
    go_wp2_with fail
    refine HE4.out.mono ?_
    rintro e w5 ⟨vb, bs, rb, rfl, hrowb, ⟨bs0, hbse, hTb⟩, hlob, hhib, hlnb, hg5, hf5⟩
    have HRE5 := hide (HRE4.out.gro HG4.out hf5)
    have HRA5 := hide (HRA.out.gro HG4.out hf5)
    have HRB := hide hrowb
    have HTB := hide hTb
    have HBSE := hide hbse
    have HG5 := hide hg5
    have HF5 := hide (HF4.out.trans hf5)
    clear hrowb hTb hbse hg5 hf5 HE4 HRE4 HRA HG4 HF4
    have HX1 : Hid (SRow (w5.alloc (.cells #[.string ⟨#[105, 102]⟩] 9)) w5.heap.size (.slice (some ⟨w5.heap.size, 0, none⟩) 1 1) [[105, 102]]) := srow_one w5 _ (Nat.le_refl _) ⟨#[105, 102]⟩ [105, 102] rfl
    have HX2 := hide (SRow.below HRE5.out ((Below.refl w5.heap.size w5).alloc (Nat.le_refl _) (.cells #[.string ⟨#[105, 102]⟩] 9)))
    have HX3 : Hid (Below w5.heap.size w5 (w5.alloc (.cells #[.string ⟨#[105, 102]⟩] 9))) := (Below.refl _ _).alloc (Nat.le_refl _) _
    go_wp2_with (at_builtin; refine append_rows w5 _ rfl (.tmp 56) (.tmp 57) rfl w2.heap.size _ _ [[105, 102]] es rfl rfl HX1.out HX2.out HX3.out (by simp; omega) ?_)
    intro v6 w6 hrow6 hb6
    have HR6 : Hid (SRow w6 w5.heap.size v6 ([105, 102] :: es)) := hrow6
    have HB6 := hide hb6
    clear hrow6 hb6 HX1 HX2 HX3
    have HX2 := hide (SRow.below HRA5.out HB6.out)
    go_wp2_with (at_builtin; refine append_rows w5 _ rfl (.tmp 58) (.tmp 59) rfl w3.heap.size _ _ ([105, 102] :: es) xa rfl rfl HR6.out HX2.out HB6.out (by simp; omega) ?_)
    intro v7 w7 hrow7 hb7
    have HR7 : Hid (SRow w7 w5.heap.size v7 ([105, 102] :: (es ++ xa))) := hrow7
    have HB7 := hide hb7
    clear hrow7 hb7 HX2 HR6 HB6
    have HX2 := hide (SRow.below HRB.out HB7.out)
    go_wp2_with (at_builtin; refine append_rows w5 _ rfl (.tmp 60) (.tmp 61) rfl w4.heap.size _ _ ([105, 102] :: (es ++ xa)) bs rfl rfl HR7.out HX2.out HB7.out (by simp; omega) ?_)
    intro v8 w8 hrow8 hb8
    have HR8 := hide hrow8
    have HB8 := hide hb8
    clear hrow8 hb8 HX2 HR7 HB7
    go_wp2_with fail
    go_ret
    have hfin := Kp.SmT.ite HTE.out HTA.out HTB.out
    rw [show room - 1 - re + (re - ra) + (ra - rb) + 1 = room - rb by omega] at hfin
    have hlf := SmT_len hfin (by omega)
    refine stm_post HR8.out HB8.out ?_ (by omega) (by omega) ?_ HG5.out HF5.out
    · rw [HASE.out, HBSE.out]; simpa using hfin
    · rw [HASE.out, HBSE.out]; simp at hlf ⊢; omega
  · have HB3 := hide (HBK.out hdp)
    have t1 : decide (0 < dp) = true := decide_eq_true (by omega)
    have HE3 := hide (HB3.out w3 re HG3.out (by omega) (by omega))
    clear HBK HNX HEX HB3
    go_wp2_with fail
    refine HE3.out.mono ?_
    rintro e w4 ⟨va, xa, ra, rfl, hrowa, ⟨as0, hase, hTa⟩, hloa, hhia, hlna, hg4, hf4⟩
    have HRE4 := hide (HRE.out.gro HG3.out hf4)
    have HRA := hide hrowa
    have HTA := hide hTa
    have HASE := hide hase
    have HG4 := hide hg4
    have HF4 := hide (HF3.out.trans hf4)
    clear hrowa hTa hase hg4 hf4 HE3 HRE HG3 HF3
    have HX1 : Hid (SRow (w4.alloc (.cells #[.string ⟨#[119, 104, 105, 108, 101]⟩] 9)) w4.heap.size (.slice (some ⟨w4.heap.size, 0, none⟩) 1 1) [[119, 104, 105, 108, 101]]) := srow_one w4 _ (Nat.le_refl _) ⟨#[119, 104, 105, 108, 101]⟩ [119, 104, 105, 108, 101] rfl
    have HX2 := hide (SRow.below HRE4.out ((Below.refl w4.heap.size w4).alloc (Nat.le_refl _) (.cells #[.string ⟨#[119, 104, 105, 108, 101]⟩] 9)))
    have HX3 : Hid (Below w4.heap.size w4 (w4.alloc (.cells #[.string ⟨#[119, 104, 105, 108, 101]⟩] 9))) := (Below.refl _ _).alloc (Nat.le_refl _) _
    go_wp2_with (at_builtin; refine append_rows w4 _ rfl (.tmp 71) (.tmp 72) rfl w2.heap.size _ _ [[119, 104, 105, 108, 101]] es rfl rfl HX1.out HX2.out HX3.out (by simp; omega) ?_)
    intro v5 w5 hrow5 hb5
    have HR5 : Hid (SRow w5 w4.heap.size v5 ([119, 104, 105, 108, 101] :: es)) := hrow5
    have HB5 := hide hb5
    clear hrow5 hb5 HX1 HX2 HX3
    have HX2 := hide (SRow.below HRA.out HB5.out)
    go_wp2_with (at_builtin; refine append_rows w4 _ rfl (.tmp 73) (.tmp 74) rfl w3.heap.size _ _ ([119, 104, 105, 108, 101] :: es) xa rfl rfl HR5.out HX2.out HB5.out (by simp; omega) ?_)
    intro v6 w6 hrow6 hb6
    have HR6 := hide hrow6
    have HB6 := hide hb6
    clear hrow6 hb6 HX2 HR5 HB5
    go_wp2_with fail
    go_ret
    have hfin := Kp.SmT.whl HTE.out HTA.out
    rw [show room - 1 - re + (re - ra) + 1 = room - ra by omega] at hfin
    have hlf := SmT_len hfin (by omega)
    refine stm_post HR6.out HB6.out ?_ (by omega) (by omega) ?_ HG4.out HF4.out
    · rw [HASE.out]; simpa using hfin
    · rw [HASE.out]; simp at hlf ⊢; omega
  · have HN4 := hide (HNX.out w3 re 4 (by decide) (by decide) HG3.out)
    clear HBK HEX
    go_wp2_with fail
    refine HN4.out.mono ?_
    rintro e w4 ⟨j, hj, rfl, hg4, hf4⟩
    have HRE4 := hide (HRE.out.gro HG3.out hf4)
    have HG4 := hide hg4
    have HF4 := hide (HF3.out.trans hf4)
    have HN5 := hide (HNX.out w4 re 4 (by decide) (by decide) hg4)
    clear hg4 hf4 HN4 HNX HRE HG3 HF3
    by_cases hj0 : j = 0
    · subst hj0
      go_wp2_with fail
      go_ret
      refine stm_post (srow_one w4 _ (Nat.le_refl _) ⟨#[102, 97, 105, 108]⟩ [102, 97, 105, 108] rfl) ((Below.refl _ _).alloc (Nat.le_refl _) _) ?_ (by omega) (by omega) (by simp) HG4.out HF4.out
      have := Kp.SmT.fail HTE.out
      rw [show room - 1 - re + 1 = room - re by omega] at this
      exact this
    · have tj : ((j : Int) == 0) = false := by simp; omega
      have HDC := hide (fun (i : Nat) (hi : i ≤ 999999) (y : World) => kdecimal_any i hi y)
      go_wp2_with fail
      refine HN5.out.mono ?_
      rintro e wa ⟨i, hi, rfl, hga, hfa⟩
      have HGA := hide hga
      have HFA := hide (HF4.out.trans hfa)
      have HRA := hide (SRow.gro HRE4.out HG4.out hfa)
      clear hga hfa
      go_wp2_with fail
      refine (HDC.out i (by omega) wa).mono ?_
      rintro e wb ⟨X, rfl, hX, hXs, hbb⟩
      have hXv : ((⟨#[118]⟩ : ByteArray) ++ X).data.toList = 118 :: Lib.decDigits i := by rw [app_list, hX]; rfl
      have hs1 : (⟨#[118]⟩ : ByteArray).size = 1 := rfl
      have HGB := hide (HGA.out.below hbb)
      have HFB := hide (HFA.out.trans (Fr.of hbb HGA.out.lowL))
      have HX1 : Hid (SRow (wb.alloc (.cells #[.string ⟨#[115, 101, 116]⟩, .string ((⟨#[118]⟩ : ByteArray) ++ X)] 9)) wb.heap.size (.slice (some ⟨wb.heap.size, 0, none⟩) 2 2) [[115, 101, 116], 118 :: Lib.decDigits i]) := srow_two wb _ (Nat.le_refl _) ⟨#[115, 101, 116]⟩ _ [115, 101, 116] _ rfl hXv
      have HX2 := hide (SRow.below (HRA.out.below hbb) ((Below.refl wb.heap.size wb).alloc (Nat.le_refl _) (.cells #[.string ⟨#[115, 101, 116]⟩, .string ((⟨#[118]⟩ : ByteArray) ++ X)] 9)))
      have HX3 : Hid (Below wb.heap.size wb (wb.alloc (.cells #[.string ⟨#[115, 101, 116]⟩, .string ((⟨#[118]⟩ : ByteArray) ++ X)] 9))) := (Below.refl _ _).alloc (Nat.le_refl _) _
      clear hX hXv hbb HDC HRA HGA HFA
      go_wp2_with (at_builtin; refine append_rows wb _ rfl (.tmp 87) (.tmp 88) rfl w2.heap.size _ _ [[115, 101, 116], 118 :: Lib.decDigits i] es rfl rfl HX1.out HX2.out HX3.out (by simp; omega) ?_)
      intro vc wc hrowc hbc
      have HRC := hide hrowc
      have HBC := hide hbc
      clear hrowc hbc HX1 HX2 HX3
      go_wp2_with fail
      go_ret
      have hfin := Kp.SmT.set i hi HTE.out
      rw [show room - 1 - re + 1 = room - re by omega] at hfin
      have hlf := SmT_len hfin (by omega)
      refine stm_post HRC.out HBC.out ?_ (by omega) (by omega) ?_ HGB.out HFB.out
      · simpa using hfin
      · simp at hlf ⊢; omega
  · have HN5 := hide (HNX.out w3 re 4 (by decide) (by decide) HG3.out)
    clear HBK HEX HNX
    have hdd : decide (0 < dp) = false ∨ c = 0 ∨ c = 8 := by
      by_cases h : dp = 0
      · exact .inl (decide_eq_false (by omega))
      · omega
    rcases hc with rfl | rfl | ⟨rfl, rfl⟩ | ⟨rfl, rfl⟩
    · clear hdd
      have HDC := hide (fun (i : Nat) (hi : i ≤ 999999) (y : World) => kdecimal_any i hi y)
      go_wp2_with fail
      refine HN5.out.mono ?_
      rintro e wa ⟨i, hi, rfl, hga, hfa⟩
      have HGA := hide hga
      have HFA := hide (HF3.out.trans hfa)
      have HRA := hide (SRow.gro HRE.out HG3.out hfa)
      clear hga hfa
      go_wp2_with fail
      refine (HDC.out i (by omega) wa).mono ?_
      rintro e wb ⟨X, rfl, hX, hXs, hbb⟩
      have hXv : ((⟨#[118]⟩ : ByteArray) ++ X).data.toList = 118 :: Lib.decDigits i := by rw [app_list, hX]; rfl
      have hs1 : (⟨#[118]⟩ : ByteArray).size = 1 := rfl
      have HGB := hide (HGA.out.below hbb)
      have HFB := hide (HFA.out.trans (Fr.of hbb HGA.out.lowL))
      have HX1 : Hid (SRow (wb.alloc (.cells #[.string ⟨#[115, 101, 116]⟩, .string ((⟨#[118]⟩ : ByteArray) ++ X)] 9)) wb.heap.size (.slice (some ⟨wb.heap.size, 0, none⟩) 2 2) [[115, 101, 116], 118 :: Lib.decDigits i]) := srow_two wb _ (Nat.le_refl _) ⟨#[115, 101, 116]⟩ _ [115, 101, 116] _ rfl hXv
      have HX2 := hide (SRow.below (HRA.out.below hbb) ((Below.refl wb.heap.size wb).alloc (Nat.le_refl _) (.cells #[.string ⟨#[115, 101, 116]⟩, .string ((⟨#[118]⟩ : ByteArray) ++ X)] 9)))
      have HX3 : Hid (Below wb.heap.size wb (wb.alloc (.cells #[.string ⟨#[115, 101, 116]⟩, .string ((⟨#[118]⟩ : ByteArray) ++ X)] 9))) := (Below.refl _ _).alloc (Nat.le_refl _) _
      clear hX hXv hbb HDC HRA HGA HFA
      go_wp2_with (at_builtin; refine append_rows wb _ rfl (.tmp 87) (.tmp 88) rfl w2.heap.size _ _ [[115, 101, 116], 118 :: Lib.decDigits i] es rfl rfl HX1.out HX2.out HX3.out (by simp; omega) ?_)
      intro vc wc hrowc hbc
      have HRC := hide hrowc
      have HBC := hide hbc
      clear hrowc hbc HX1 HX2 HX3
      go_wp2_with fail
      go_ret
      have hfin := Kp.SmT.set i hi HTE.out
      rw [show room - 1 - re + 1 = room - re by omega] at hfin
      have hlf := SmT_len hfin (by omega)
      refine stm_post HRC.out HBC.out ?_ (by omega) (by omega) ?_ HGB.out HFB.out
      · simpa using hfin
      · simp at hlf ⊢; omega
    · clear hdd
      have HDC := hide (fun (i : Nat) (hi : i ≤ 999999) (y : World) => kdecimal_any i hi y)
      go_wp2_with fail
      refine HN5.out.mono ?_
      rintro e wa ⟨i, hi, rfl, hga, hfa⟩
      have HGA := hide hga
      have HFA := hide (HF3.out.trans hfa)
      have HRA := hide (SRow.gro HRE.out HG3.out hfa)
      clear hga hfa
      go_wp2_with fail
      refine (HDC.out i (by omega) wa).mono ?_
      rintro e wb ⟨X, rfl, hX, hXs, hbb⟩
      have hXv : ((⟨#[118]⟩ : ByteArray) ++ X).data.toList = 118 :: Lib.decDigits i := by rw [app_list, hX]; rfl
      have hs1 : (⟨#[118]⟩ : ByteArray).size = 1 := rfl
      have HGB := hide (HGA.out.below hbb)
      have HFB := hide (HFA.out.trans (Fr.of hbb HGA.out.lowL))
      have HX1 : Hid (SRow (wb.alloc (.cells #[.string ⟨#[115, 101, 116]⟩, .string ((⟨#[118]⟩ : ByteArray) ++ X)] 9)) wb.heap.size (.slice (some ⟨wb.heap.size, 0, none⟩) 2 2) [[115, 101, 116], 118 :: Lib.decDigits i]) := srow_two wb _ (Nat.le_refl _) ⟨#[115, 101, 116]⟩ _ [115, 101, 116] _ rfl hXv
      have HX2 := hide (SRow.below (HRA.out.below hbb) ((Below.refl wb.heap.size wb).alloc (Nat.le_refl _) (.cells #[.string ⟨#[115, 101, 116]⟩, .string ((⟨#[118]⟩ : ByteArray) ++ X)] 9)))
      have HX3 : Hid (Below wb.heap.size wb (wb.alloc (.cells #[.string ⟨#[115, 101, 116]⟩, .string ((⟨#[118]⟩ : ByteArray) ++ X)] 9))) := (Below.refl _ _).alloc (Nat.le_refl _) _
      clear hX hXv hbb HDC HRA HGA HFA
      go_wp2_with (at_builtin; refine append_rows wb _ rfl (.tmp 87) (.tmp 88) rfl w2.heap.size _ _ [[115, 101, 116], 118 :: Lib.decDigits i] es rfl rfl HX1.out HX2.out HX3.out (by simp; omega) ?_)
      intro vc wc hrowc hbc
      have HRC := hide hrowc
      have HBC := hide hbc
      clear hrowc hbc HX1 HX2 HX3
      go_wp2_with fail
      go_ret
      have hfin := Kp.SmT.set i hi HTE.out
      rw [show room - 1 - re + 1 = room - re by omega] at hfin
      have hlf := SmT_len hfin (by omega)
      refine stm_post HRC.out HBC.out ?_ (by omega) (by omega) ?_ HGB.out HFB.out
      · simpa using hfin
      · simp at hlf ⊢; omega
    · clear hdd
      have HDC := hide (fun (i : Nat) (hi : i ≤ 999999) (y : World) => kdecimal_any i hi y)
      go_wp2_with fail
      refine HN5.out.mono ?_
      rintro e wa ⟨i, hi, rfl, hga, hfa⟩
      have HGA := hide hga
      have HFA := hide (HF3.out.trans hfa)
      have HRA := hide (SRow.gro HRE.out HG3.out hfa)
      clear hga hfa
      go_wp2_with fail
      refine (HDC.out i (by omega) wa).mono ?_
      rintro e wb ⟨X, rfl, hX, hXs, hbb⟩
      have hXv : ((⟨#[118]⟩ : ByteArray) ++ X).data.toList = 118 :: Lib.decDigits i := by rw [app_list, hX]; rfl
      have hs1 : (⟨#[118]⟩ : ByteArray).size = 1 := rfl
      have HGB := hide (HGA.out.below hbb)
      have HFB := hide (HFA.out.trans (Fr.of hbb HGA.out.lowL))
      have HX1 : Hid (SRow (wb.alloc (.cells #[.string ⟨#[115, 101, 116]⟩, .string ((⟨#[118]⟩ : ByteArray) ++ X)] 9)) wb.heap.size (.slice (some ⟨wb.heap.size, 0, none⟩) 2 2) [[115, 101, 116], 118 :: Lib.decDigits i]) := srow_two wb _ (Nat.le_refl _) ⟨#[115, 101, 116]⟩ _ [115, 101, 116] _ rfl hXv
      have HX2 := hide (SRow.below (HRA.out.below hbb) ((Below.refl wb.heap.size wb).alloc (Nat.le_refl _) (.cells #[.string ⟨#[115, 101, 116]⟩, .string ((⟨#[118]⟩ : ByteArray) ++ X)] 9)))
      have HX3 : Hid (Below wb.heap.size wb (wb.alloc (.cells #[.string ⟨#[115, 101, 116]⟩, .string ((⟨#[118]⟩ : ByteArray) ++ X)] 9))) := (Below.refl _ _).alloc (Nat.le_refl _) _
      clear hX hXv hbb HDC HRA HGA HFA
      go_wp2_with (at_builtin; refine append_rows wb _ rfl (.tmp 87) (.tmp 88) rfl w2.heap.size _ _ [[115, 101, 116], 118 :: Lib.decDigits i] es rfl rfl HX1.out HX2.out HX3.out (by simp; omega) ?_)
      intro vc wc hrowc hbc
      have HRC := hide hrowc
      have HBC := hide hbc
      clear hrowc hbc HX1 HX2 HX3
      go_wp2_with fail
      go_ret
      have hfin := Kp.SmT.set i hi HTE.out
      rw [show room - 1 - re + 1 = room - re by omega] at hfin
      have hlf := SmT_len hfin (by omega)
      refine stm_post HRC.out HBC.out ?_ (by omega) (by omega) ?_ HGB.out HFB.out
      · simpa using hfin
      · simp at hlf ⊢; omega
    · clear hdd
      have HDC := hide (fun (i : Nat) (hi : i ≤ 999999) (y : World) => kdecimal_any i hi y)
      go_wp2_with fail
      refine HN5.out.mono ?_
      rintro e wa ⟨i, hi, rfl, hga, hfa⟩
      have HGA := hide hga
      have HFA := hide (HF3.out.trans hfa)
      have HRA := hide (SRow.gro HRE.out HG3.out hfa)
      clear hga hfa
      go_wp2_with fail
      refine (HDC.out i (by omega) wa).mono ?_
      rintro e wb ⟨X, rfl, hX, hXs, hbb⟩
      have hXv : ((⟨#[118]⟩ : ByteArray) ++ X).data.toList = 118 :: Lib.decDigits i := by rw [app_list, hX]; rfl
      have hs1 : (⟨#[118]⟩ : ByteArray).size = 1 := rfl
      have HGB := hide (HGA.out.below hbb)
      have HFB := hide (HFA.out.trans (Fr.of hbb HGA.out.lowL))
      have HX1 : Hid (SRow (wb.alloc (.cells #[.string ⟨#[115, 101, 116]⟩, .string ((⟨#[118]⟩ : ByteArray) ++ X)] 9)) wb.heap.size (.slice (some ⟨wb.heap.size, 0, none⟩) 2 2) [[115, 101, 116], 118 :: Lib.decDigits i]) := srow_two wb _ (Nat.le_refl _) ⟨#[115, 101, 116]⟩ _ [115, 101, 116] _ rfl hXv
      have HX2 := hide (SRow.below (HRA.out.below hbb) ((Below.refl wb.heap.size wb).alloc (Nat.le_refl _) (.cells #[.string ⟨#[115, 101, 116]⟩, .string ((⟨#[118]⟩ : ByteArray) ++ X)] 9)))
      have HX3 : Hid (Below wb.heap.size wb (wb.alloc (.cells #[.string ⟨#[115, 101, 116]⟩, .string ((⟨#[118]⟩ : ByteArray) ++ X)] 9))) := (Below.refl _ _).alloc (Nat.le_refl _) _
      clear hX hXv hbb HDC HRA HGA HFA
      go_wp2_with (at_builtin; refine append_rows wb _ rfl (.tmp 87) (.tmp 88) rfl w2.heap.size _ _ [[115, 101, 116], 118 :: Lib.decDigits i] es rfl rfl HX1.out HX2.out HX3.out (by simp; omega) ?_)
      intro vc wc hrowc hbc
      have HRC := hide hrowc
      have HBC := hide hbc
      clear hrowc hbc HX1 HX2 HX3
      go_wp2_with fail
      go_ret
      have hfin := Kp.SmT.set i hi HTE.out
      rw [show room - 1 - re + 1 = room - re by omega] at hfin
      have hlf := SmT_len hfin (by omega)
      refine stm_post HRC.out HBC.out ?_ (by omega) (by omega) ?_ HGB.out HFB.out
      · simpa using hfin
      · simp at hlf ⊢; omega


end Go.Proofs.YtellilpeakpbfaaGreatDoor
