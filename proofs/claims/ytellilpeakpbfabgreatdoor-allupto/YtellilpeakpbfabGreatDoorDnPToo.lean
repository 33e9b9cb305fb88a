import Derived.Test.YtellilpeakpbfabGreatDoorDnMToo
import Derived.Test.YtellilpeakpbfabGreatDoorDnTToo
section
/-
  The walks of the document's statement: put, del, stop, fail.
-/
namespace Go.Proofs.YtellilpeakpbfabGreatDoor
open Go.RowKit
open Tr (Ex Sm Sms Tok kind)

set_option maxHeartbeats 4000000 in
set_option maxRecDepth 100000 in
theorem dfail_any (X : Nat) (tv av : Value) (E : Rn.En) (ts : List (List UInt8)) (args : List Int) (hE : DkEn E ts args) (n : Nat) (i : Nat) (rest : List (List UInt8)) (s : Rn.St) (w : World)
    (_hok : (Sm.fail).Ok) (hi : ts.drop i = (Sm.fail).flat ++ rest) (h : DkAt X w tv av E ts args s) :
    Calls Tryz.prog 169 #[.pointer (some ⟨X, 0, none⟩), .int .i64 i] w (StPost X tv av E ts args (Rn.tstmt E (n + 1) (Sm.fail) s) ((i + (Sm.fail).flat.length : Nat) : Int) w) := by
  obtain ⟨q, hq⟩ : ∃ q, q = Rn.tstmt E (n + 1) (Sm.fail) s := ⟨_, rfl⟩
  rw [← hq]
  rw [Rn.tstmt] at hq
  have hi0 : ts.drop i = [102, 97, 105, 108] :: rest := by
    rw [hi]; simp [Sm.flat]
  have e1 : (((i + (Sm.fail).flat.length) : Nat) : Int) = ((i + 1 : Nat) : Int) := by simp [Sm.flat]; try omega
  rw [e1]
  have hi1 := drop_next hi0
  have hln := hE.len
  have HQ := hide hq
  have HH := hide h
  have hfit := h.fit
  obtain ⟨g, cap, rfl, d1, hit, -⟩ := h.tok hi0
  obtain ⟨cv, sv, -, -, -, hc, -⟩ := h.cells
  have c0 : w.cell? ⟨X, 0, none⟩ = some (.slice (some ⟨g, 0, none⟩) ts.length cap) := hc 0
  have x1 : (((i + 1 : Nat)) : Int) = (i : Int) + 1 := by omega
  clear hi0 hi1 hi hc h hq e1
  by_cases hu : E.fuel ≤ s.used
  · have HE : Hid (q = (10, s)) := by show _ = _; rw [HQ.out, if_pos hu]
    have HU := hide (dunit_no X w _ av E ts args s HH.out hu)
    clear HQ
    go_enter Tryz.func169, Tryz.ntmps169
    go_wp2_with fail
    refine HU.out.mono ?_
    rintro e w2 ⟨rfl, her, hfr⟩
    have c10 := her.err.cell
    have HER := hide her
    have HFR := hide hfr
    clear her hfr HU
    go_wp2
    go_ret
    rw [HE.out]
    exact ⟨_, rfl, ⟨.inr ⟨by show (10 : Int) ≠ 0; decide, HER.out.err⟩, HFR.out⟩, fun h0 => absurd h0 (by show (10 : Int) ≠ 0; decide)⟩
  · have hu' : s.used < E.fuel := by omega
    have HU := hide (dunit_ok X w _ av E ts args s HH.out hu')
    have HE : Hid (q = (9, Rn.use s)) := by show _ = _; rw [HQ.out, if_neg hu]
    clear HQ
    go_enter Tryz.func169, Tryz.ntmps169
    go_wp2_with fail
    refine HU.out.mono ?_
    rintro e w2 ⟨rfl, hdk, hfr⟩
    have c10 := hdk.cell10
    obtain ⟨cv2, sv2, -, -, -, -, hz2⟩ := hdk.cells
    have z10 := hz2 10
    have HFL := hide (hdk.fail 9)
    have HFR := hide hfr
    clear hdk hfr HU hz2
    go_wp2
    go_ret
    rw [HE.out]
    exact ⟨_, rfl, ⟨.inr ⟨by show (9 : Int) ≠ 0; decide, HFL.out.1.err⟩, HFR.out.trans HFL.out.2⟩, fun h0 => absurd h0 (by show (9 : Int) ≠ 0; decide)⟩

set_option maxHeartbeats 4000000 in
set_option maxRecDepth 100000 in
theorem ddel_any (X : Nat) (tv av : Value) (E : Rn.En) (ts : List (List UInt8)) (args : List Int) (hE : DkEn E ts args) (n : Nat) (a : Ex) (i : Nat) (rest : List (List UInt8)) (s : Rn.St) (w : World)
    (hok : (Sm.del a).Ok) (hi : ts.drop i = (Sm.del a).flat ++ rest) (h : DkAt X w tv av E ts args s) :
    Calls Tryz.prog 169 #[.pointer (some ⟨X, 0, none⟩), .int .i64 i] w (StPost X tv av E ts args (Rn.tstmt E (n + 1) (Sm.del a) s) ((i + (Sm.del a).flat.length : Nat) : Int) w) := by
  obtain ⟨q, hq⟩ : ∃ q, q = Rn.tstmt E (n + 1) (Sm.del a) s := ⟨_, rfl⟩
  rw [← hq]
  rw [Rn.tstmt] at hq
  have hi0 : ts.drop i = [100, 101, 108] :: (a.flat ++ rest) := by
    rw [hi]; simp [Sm.flat]
  have e1 : (((i + (Sm.del a).flat.length) : Nat) : Int) = ((i + 1 + a.flat.length : Nat) : Int) := by simp [Sm.flat]; try omega
  rw [e1]
  have hi1 := drop_next hi0
  have hln := hE.len
  have HEX := hide (dexpr_any X tv av E ts args hE a (i + 1) _ (Rn.use s) hok hi1)
  have HQ := hide hq
  have HH := hide h
  have hfit := h.fit
  obtain ⟨g, cap, rfl, d1, hit, -⟩ := h.tok hi0
  obtain ⟨cv, sv, -, -, -, hc, -⟩ := h.cells
  have c0 : w.cell? ⟨X, 0, none⟩ = some (.slice (some ⟨g, 0, none⟩) ts.length cap) := hc 0
  have x1 : (((i + 1 : Nat)) : Int) = (i : Int) + 1 := by omega
  obtain ⟨p2, hp2⟩ : ∃ p2 : Nat, p2 = i + 1 + a.flat.length := ⟨_, rfl⟩
  rw [← hp2] at HEX ⊢
  clear hp2 hi0 hi1 hi hc h hq e1
  by_cases hu : E.fuel ≤ s.used
  · have HE : Hid (q = (10, s)) := by show _ = _; rw [HQ.out, if_pos hu]
    have HU := hide (dunit_no X w _ av E ts args s HH.out hu)
    clear HQ
    go_enter Tryz.func169, Tryz.ntmps169
    go_wp2_with fail
    refine HU.out.mono ?_
    rintro e w2 ⟨rfl, her, hfr⟩
    have c10 := her.err.cell
    have HER := hide her
    have HFR := hide hfr
    clear her hfr HU
    go_wp2
    go_ret
    rw [HE.out]
    exact ⟨_, rfl, ⟨.inr ⟨by show (10 : Int) ≠ 0; decide, HER.out.err⟩, HFR.out⟩, fun h0 => absurd h0 (by show (10 : Int) ≠ 0; decide)⟩
  · have hu' : s.used < E.fuel := by omega
    have HU := hide (dunit_ok X w _ av E ts args s HH.out hu')
    have HQ2 : Hid (q = Rn.delS (Rn.texpr E a (Rn.use s))) := by show _ = _; rw [HQ.out, if_neg hu]
    clear HQ
    generalize Rn.texpr E a (Rn.use s) = r at *
    obtain ⟨a, er, sr⟩ := r
    unfold Rn.delS at HQ2
    simp only at HQ2 HEX
    go_enter Tryz.func169, Tryz.ntmps169
    go_wp2_with fail
    refine HU.out.mono ?_
    rintro e w2 ⟨rfl, hdk, hfr⟩
    have c10 := hdk.cell10
    have hcall := HEX.out w2 hdk
    rw [x1] at hcall
    have HCALL := hide hcall
    have HFR := hide hfr
    clear hdk hfr HU hcall HEX
    go_wp2_with fail
    refine HCALL.out.mono ?_
    rintro e w3 ⟨v3, j3, rfl, hor, hfr3⟩
    have HF3 := hide (HFR.out.trans hfr3)
    clear hfr3 HCALL
    rcases hor with ⟨h0, hdk3, hv3, hj3⟩ | ⟨hne, herr⟩
    · simp only at h0 hdk3 hv3 hj3
      subst hv3 hj3
      have HE : Hid (q = Rn.put sr (v3, false, 0)) := by show _ = _; rw [HQ2.out, if_neg (by simpa using h0)]
      have c10' := hdk3.cell10
      have HDO := hide (does_del X w3 _ av E ts args sr v3 0 hdk3)
      clear hdk3 HQ2 h0
      rw [← HE.out] at HDO
      go_wp2_with fail
      refine HDO.out.mono ?_
      rintro e w4 ⟨rfl, ho⟩
      have HO := hide (DkOut.pre HF3.out ho)
      clear ho HDO
      go_wp2
      go_ret
      exact ⟨_, rfl, HO.out, fun _ _ => rfl⟩
    · simp only at hne herr
      have HE : Hid (q = (er, sr)) := by show _ = _; rw [HQ2.out, if_pos hne]
      have c10x := herr.cell
      have t1 : (er == 0) = false := by simpa using hne
      have t2 : (er != 0) = true := by simpa using hne
      have HER := hide herr
      have HNE := hide hne
      clear herr hne HQ2
      go_wp2
      go_ret
      rw [HE.out]
      exact ⟨_, rfl, ⟨.inr ⟨HNE.out, HER.out⟩, HF3.out⟩, fun h0 => absurd h0 HNE.out⟩

set_option maxHeartbeats 4000000 in
set_option maxRecDepth 100000 in
theorem dstop_any (X : Nat) (tv av : Value) (E : Rn.En) (ts : List (List UInt8)) (args : List Int) (hE : DkEn E ts args) (n : Nat) (a : Ex) (i : Nat) (rest : List (List UInt8)) (s : Rn.St) (w : World)
    (hok : (Sm.stop a).Ok) (hi : ts.drop i = (Sm.stop a).flat ++ rest) (h : DkAt X w tv av E ts args s) :
    Calls Tryz.prog 169 #[.pointer (some ⟨X, 0, none⟩), .int .i64 i] w (StPost X tv av E ts args (Rn.tstmt E (n + 1) (Sm.stop a) s) ((i + (Sm.stop a).flat.length : Nat) : Int) w) := by
  obtain ⟨q, hq⟩ : ∃ q, q = Rn.tstmt E (n + 1) (Sm.stop a) s := ⟨_, rfl⟩
  rw [← hq]
  rw [Rn.tstmt] at hq
  have hi0 : ts.drop i = [115, 116, 111, 112] :: (a.flat ++ rest) := by
    rw [hi]; simp [Sm.flat]
  have e1 : (((i + (Sm.stop a).flat.length) : Nat) : Int) = ((i + 1 + a.flat.length : Nat) : Int) := by simp [Sm.flat]; try omega
  rw [e1]
  have hi1 := drop_next hi0
  have hln := hE.len
  have HEX := hide (dexpr_any X tv av E ts args hE a (i + 1) _ (Rn.use s) hok hi1)
  have HQ := hide hq
  have HH := hide h
  have hfit := h.fit
  obtain ⟨g, cap, rfl, d1, hit, -⟩ := h.tok hi0
  obtain ⟨cv, sv, -, -, -, hc, -⟩ := h.cells
  have c0 : w.cell? ⟨X, 0, none⟩ = some (.slice (some ⟨g, 0, none⟩) ts.length cap) := hc 0
  have x1 : (((i + 1 : Nat)) : Int) = (i : Int) + 1 := by omega
  obtain ⟨p2, hp2⟩ : ∃ p2 : Nat, p2 = i + 1 + a.flat.length := ⟨_, rfl⟩
  rw [← hp2] at HEX ⊢
  clear hp2 hi0 hi1 hi hc h hq e1
  by_cases hu : E.fuel ≤ s.used
  · have HE : Hid (q = (10, s)) := by show _ = _; rw [HQ.out, if_pos hu]
    have HU := hide (dunit_no X w _ av E ts args s HH.out hu)
    clear HQ
    go_enter Tryz.func169, Tryz.ntmps169
    go_wp2_with fail
    refine HU.out.mono ?_
    rintro e w2 ⟨rfl, her, hfr⟩
    have c10 := her.err.cell
    have HER := hide her
    have HFR := hide hfr
    clear her hfr HU
    go_wp2
    go_ret
    rw [HE.out]
    exact ⟨_, rfl, ⟨.inr ⟨by show (10 : Int) ≠ 0; decide, HER.out.err⟩, HFR.out⟩, fun h0 => absurd h0 (by show (10 : Int) ≠ 0; decide)⟩
  · have hu' : s.used < E.fuel := by omega
    have HU := hide (dunit_ok X w _ av E ts args s HH.out hu')
    have HQ2 : Hid (q = Rn.stopS (Rn.texpr E a (Rn.use s))) := by show _ = _; rw [HQ.out, if_neg hu]
    clear HQ
    generalize Rn.texpr E a (Rn.use s) = r at *
    obtain ⟨a, er, sr⟩ := r
    unfold Rn.stopS at HQ2
    simp only at HQ2 HEX
    go_enter Tryz.func169, Tryz.ntmps169
    go_wp2_with fail
    refine HU.out.mono ?_
    rintro e w2 ⟨rfl, hdk, hfr⟩
    have c10 := hdk.cell10
    have hcall := HEX.out w2 hdk
    rw [x1] at hcall
    have HCALL := hide hcall
    have HFR := hide hfr
    clear hdk hfr HU hcall HEX
    go_wp2_with fail
    refine HCALL.out.mono ?_
    rintro e w3 ⟨v3, j3, rfl, hor, hfr3⟩
    have HF3 := hide (HFR.out.trans hfr3)
    clear hfr3 HCALL
    rcases hor with ⟨h0, hdk3, hv3, hj3⟩ | ⟨hne, herr⟩
    · simp only at h0 hdk3 hv3 hj3
      subst hv3 hj3
      have HE : Hid (q = (0, { sr with result := v3, stopped := true })) := by show _ = _; rw [HQ2.out, if_neg (by simpa using h0)]
      have c10' := hdk3.cell10
      have HDO := hide (does_stop X w3 _ av E ts args sr v3 0 hdk3)
      clear hdk3 HQ2 h0
      rw [← HE.out] at HDO
      go_wp2_with fail
      refine HDO.out.mono ?_
      rintro e w4 ⟨rfl, ho⟩
      have HO := hide (DkOut.pre HF3.out ho)
      clear ho HDO
      go_wp2
      go_ret
      exact ⟨_, rfl, HO.out, fun _ _ => rfl⟩
    · simp only at hne herr
      have HE : Hid (q = (er, sr)) := by show _ = _; rw [HQ2.out, if_pos hne]
      have c10x := herr.cell
      have t1 : (er == 0) = false := by simpa using hne
      have t2 : (er != 0) = true := by simpa using hne
      have HER := hide herr
      have HNE := hide hne
      clear herr hne HQ2
      go_wp2
      go_ret
      rw [HE.out]
      exact ⟨_, rfl, ⟨.inr ⟨HNE.out, HER.out⟩, HF3.out⟩, fun h0 => absurd h0 HNE.out⟩

set_option maxHeartbeats 4000000 in
set_option maxRecDepth 100000 in
theorem dput_any (X : Nat) (tv av : Value) (E : Rn.En) (ts : List (List UInt8)) (args : List Int) (hE : DkEn E ts args) (n : Nat) (a b : Ex) (i : Nat) (rest : List (List UInt8)) (s : Rn.St) (w : World)
    (hok : (Sm.put a b).Ok) (hi : ts.drop i = (Sm.put a b).flat ++ rest) (h : DkAt X w tv av E ts args s) :
    Calls Tryz.prog 169 #[.pointer (some ⟨X, 0, none⟩), .int .i64 i] w (StPost X tv av E ts args (Rn.tstmt E (n + 1) (Sm.put a b) s) ((i + (Sm.put a b).flat.length : Nat) : Int) w) := by
  obtain ⟨q, hq⟩ : ∃ q, q = Rn.tstmt E (n + 1) (Sm.put a b) s := ⟨_, rfl⟩
  rw [← hq]
  rw [Rn.tstmt] at hq
  have hi0 : ts.drop i = [112, 117, 116] :: (a.flat ++ (b.flat ++ rest)) := by
    rw [hi]; simp [Sm.flat]
  have e1 : (((i + (Sm.put a b).flat.length) : Nat) : Int) = ((i + 1 + a.flat.length + b.flat.length : Nat) : Int) := by simp [Sm.flat]; try omega
  rw [e1]
  have hi1 := drop_next hi0
  have hln := hE.len
  have HEX := hide (dexpr_any X tv av E ts args hE a (i + 1) _ (Rn.use s) hok.1 hi1)
  have HEB := hide (fun t => dexpr_any X tv av E ts args hE b (i + 1 + a.flat.length) _ t hok.2 (drop_app hi1))
  have HQ := hide hq
  have HH := hide h
  have hfit := h.fit
  obtain ⟨g, cap, rfl, d1, hit, -⟩ := h.tok hi0
  obtain ⟨cv, sv, -, -, -, hc, -⟩ := h.cells
  have c0 : w.cell? ⟨X, 0, none⟩ = some (.slice (some ⟨g, 0, none⟩) ts.length cap) := hc 0
  have x1 : (((i + 1 : Nat)) : Int) = (i : Int) + 1 := by omega
  obtain ⟨p1, hp1⟩ : ∃ p1 : Nat, p1 = i + 1 + a.flat.length := ⟨_, rfl⟩
  rw [← hp1] at HEX HEB ⊢
  obtain ⟨p2, hp2⟩ : ∃ p2 : Nat, p2 = p1 + b.flat.length := ⟨_, rfl⟩
  rw [← hp2] at HEB ⊢
  clear hp1 hp2 hi0 hi1 hi hc h hq e1
  by_cases hu : E.fuel ≤ s.used
  · have HE : Hid (q = (10, s)) := by show _ = _; rw [HQ.out, if_pos hu]
    have HU := hide (dunit_no X w _ av E ts args s HH.out hu)
    clear HQ
    go_enter Tryz.func169, Tryz.ntmps169
    go_wp2_with fail
    refine HU.out.mono ?_
    rintro e w2 ⟨rfl, her, hfr⟩
    have c10 := her.err.cell
    have HER := hide her
    have HFR := hide hfr
    clear her hfr HU
    go_wp2
    go_ret
    rw [HE.out]
    exact ⟨_, rfl, ⟨.inr ⟨by show (10 : Int) ≠ 0; decide, HER.out.err⟩, HFR.out⟩, fun h0 => absurd h0 (by show (10 : Int) ≠ 0; decide)⟩
  · have hu' : s.used < E.fuel := by omega
    have HU := hide (dunit_ok X w _ av E ts args s HH.out hu')
    have fa := Rn.texpr_fit E a (Rn.use s) (hfit.use hu')
    have fb := (Rn.texpr_fit E b _ fa.1).2.2
    have hEB := HEB.out (Rn.texpr E a (Rn.use s)).2.2
    have HQ2 : Hid (q = Rn.putS (Rn.texpr E a (Rn.use s)) (Rn.texpr E b (Rn.texpr E a (Rn.use s)).2.2)) := by show _ = _; rw [HQ.out, if_neg hu]
    clear HQ HEB fa
    generalize Rn.texpr E b (Rn.texpr E a (Rn.use s)).2.2 = rb at *
    generalize Rn.texpr E a (Rn.use s) = r at *
    obtain ⟨a, er, sr⟩ := r
    obtain ⟨b, eb, sb⟩ := rb
    unfold Rn.putS at HQ2
    simp only at HQ2 HEX hEB fb
    have HEB := hide hEB
    clear hEB
    go_enter Tryz.func169, Tryz.ntmps169
    go_wp2_with fail
    refine HU.out.mono ?_
    rintro e w2 ⟨rfl, hdk, hfr⟩
    have c10 := hdk.cell10
    have hcall := HEX.out w2 hdk
    rw [x1] at hcall
    have HCALL := hide hcall
    have HFR := hide hfr
    clear hdk hfr HU hcall HEX
    go_wp2_with fail
    refine HCALL.out.mono ?_
    rintro e w3 ⟨v3, j3, rfl, hor, hfr3⟩
    have HF3 := hide (HFR.out.trans hfr3)
    clear hfr3 HCALL
    rcases hor with ⟨h0, hdk3, hv3, hj3⟩ | ⟨hne, herr⟩
    · simp only at h0 hdk3 hv3 hj3
      subst hv3 hj3
      have HQ3 : Hid (q = if eb ≠ 0 then (eb, sb) else Rn.put sb (v3, true, b)) := by show _ = _; rw [HQ2.out, if_neg (by simpa using h0)]
      have c10' := hdk3.cell10
      have HCB := hide (HEB.out w3 hdk3)
      clear hdk3 HQ2 h0 HEB
      go_wp2_with fail
      refine HCB.out.mono ?_
      rintro e w4 ⟨v4, j4, rfl, hor4, hfr4⟩
      have HF4 := hide (HF3.out.trans hfr4)
      clear hfr4 HCB
      rcases hor4 with ⟨h0, hdk4, hv4, hj4⟩ | ⟨hne, herr⟩
      · simp only at h0 hdk4 hv4 hj4
        subst hv4 hj4
        have HE : Hid (q = Rn.put sb (v3, true, v4)) := by show _ = _; rw [HQ3.out, if_neg (by simpa using h0)]
        have c10'' := hdk4.cell10
        have HDO := hide (does_put X w4 _ av E ts args sb v3 v4 hdk4 fb)
        clear hdk4 HQ3 h0
        rw [← HE.out] at HDO
        go_wp2_with fail
        refine HDO.out.mono ?_
        rintro e w5 ⟨rfl, ho⟩
        have HO := hide (DkOut.pre HF4.out ho)
        clear ho HDO
        go_wp2
        go_ret
        exact ⟨_, rfl, HO.out, fun _ _ => rfl⟩
      · simp only at hne herr
        have HE : Hid (q = (eb, sb)) := by show _ = _; rw [HQ3.out, if_pos hne]
        have c10x := herr.cell
        have t1 : (eb == 0) = false := by simpa using hne
        have t2 : (eb != 0) = true := by simpa using hne
        have HER := hide herr
        have HNE := hide hne
        clear herr hne HQ3
        go_wp2
        go_ret
        rw [HE.out]
        exact ⟨_, rfl, ⟨.inr ⟨HNE.out, HER.out⟩, HF4.out⟩, fun h0 => absurd h0 HNE.out⟩
    · simp only at hne herr
      have HE : Hid (q = (er, sr)) := by show _ = _; rw [HQ2.out, if_pos hne]
      have c10x := herr.cell
      have t1 : (er == 0) = false := by simpa using hne
      have t2 : (er != 0) = true := by simpa using hne
      have HER := hide herr
      have HNE := hide hne
      clear herr hne HQ2
      go_wp2
      go_ret
      rw [HE.out]
      exact ⟨_, rfl, ⟨.inr ⟨HNE.out, HER.out⟩, HF3.out⟩, fun h0 => absurd h0 HNE.out⟩
end Go.Proofs.YtellilpeakpbfabGreatDoor

end

section
/-
  The walks of the document's statement, every one, and of From.
-/
namespace Go.Proofs.YtellilpeakpbfabGreatDoor
open Go.RowKit
open Tr (Ex Sm Sms Tok kind)

/-- a statement that is a choice. -/
theorem dchoice_step (X : Nat) (tv av : Value) (E : Rn.En) (ts : List (List UInt8)) (args : List Int) (i : Nat) (t : List UInt8) (rest : List (List UInt8)) (s : Rn.St) (w : World) (h : DkAt X w tv av E ts args s) (hi : ts.drop i = t :: rest) (ht : t = [105, 102] ∨ t = [119, 104, 105, 108, 101])
    (r : Int × Rn.St) (j0 : Int) (hc : Calls Tryz.prog 180 #[.pointer (some ⟨X, 0, none⟩), .int .i64 i] w (StPost X tv av E ts args r j0 w)) :
    Calls Tryz.prog 169 #[.pointer (some ⟨X, 0, none⟩), .int .i64 i] w (StPost X tv av E ts args r j0 w) := by
  have HC := hide hc
  obtain ⟨g, cap, rfl, d1, hit, -⟩ := h.tok hi
  obtain ⟨cv, sv, -, -, -, hcc, -⟩ := h.cells
  have c0 : w.cell? ⟨X, 0, none⟩ = some (.slice (some ⟨g, 0, none⟩) ts.length cap) := hcc 0
  clear hc h hi hcc
  rcases ht with rfl | rfl
  all_goals
    go_enter Tryz.func169, Tryz.ntmps169
    go_wp2_with fail
    refine HC.out.mono ?_
    rintro e w1 ⟨j, rfl, ho⟩
    have HO := hide ho
    clear ho HC
    go_wp2
    go_ret
    exact ⟨_, rfl, HO.out⟩

theorem dstatement_any (X : Nat) (tv av : Value) (E : Rn.En) (ts : List (List UInt8)) (args : List Int) (hE : DkEn E ts args) (n : Nat) (hF : ∀ m, m ≤ n → FmAt X tv av E ts args m) (m : Sm) (i : Nat) (rest : List (List UInt8)) (s : Rn.St) (w : World)
    (hok : m.Ok) (hi : ts.drop i = m.flat ++ rest) (hn : 3 * (E.fuel - s.used) + 2 ≤ n + 1) (h : DkAt X w tv av E ts args s) (hs : s.stopped = false) :
    Calls Tryz.prog 169 #[.pointer (some ⟨X, 0, none⟩), .int .i64 i] w (StPost X tv av E ts args (Rn.tstmt E (n + 1) m s) ((i + m.flat.length : Nat) : Int) w) := by
  cases m with
  | set v e => exact dset_any X tv av E ts args hE n v e i rest s w hok hi h
  | put a b => exact dput_any X tv av E ts args hE n a b i rest s w hok hi h
  | del a => exact ddel_any X tv av E ts args hE n a i rest s w hok hi h
  | stop a => exact dstop_any X tv av E ts args hE n a i rest s w hok hi h
  | fail => exact dfail_any X tv av E ts args hE n i rest s w hok hi h
  | ite e a b =>
    have hi0 : ts.drop i = [105, 102] :: (e.flat ++ ([123] :: (a.flat ++ ([125] :: ([123] :: (b.flat ++ ([125] :: rest))))))) := by rw [hi]; simp [Sm.flat]
    exact dchoice_step X tv av E ts args i _ _ s w h hi0 (.inl rfl) _ _ (dif_any X tv av E ts args hE n (hF n (Nat.le_refl _)) e a b i rest s w hok hi (by omega) h)
  | whl e b =>
    have hi0 : ts.drop i = [119, 104, 105, 108, 101] :: (e.flat ++ ([123] :: (b.flat ++ ([125] :: rest)))) := by rw [hi]; simp [Sm.flat]
    rw [Rn.tstmt]
    exact dchoice_step X tv av E ts args i _ _ s w h hi0 (.inr rfl) _ _ (dwhile_any X tv av E ts args hE n (fun m hm => hF m (by omega)) e b i rest s w hok hi (by omega) h hs)

def DfRel (X : Nat) (tv av : Value) (E : Rn.En) (ts : List (List UInt8)) (args : List Int) (w : World) (n fin : Nat) (rest : List (List UInt8)) (q : Int × Rn.St) (iv on : Value) (wr : World) : Prop :=
  (∃ (m p : Nat) (b : Sms) (s : Rn.St), on = .bool true ∧ iv = .int .i64 (p : Int) ∧ p + b.flat.length = fin ∧ b.Ok ∧ ts.drop p = b.flat ++ rest ∧ m ≤ n ∧ s.stopped = false ∧ DkAt X wr tv av E ts args s ∧ DkFr X w wr ∧ 3 * (E.fuel - s.used) + 3 ≤ m ∧ Rn.tstmts E m b s = q) ∨
  (on = .bool false ∧ (∃ j : Int, iv = .int .i64 j) ∧ DkOut X tv av E ts args q w wr)

theorem tstmts_stop (E : Rn.En) (m : Nat) (b : Sms) (s : Rn.St) (h : s.stopped = true) (hm : 0 < m) : Rn.tstmts E m b s = (0, s) := by
  cases m with
  | zero => omega
  | succ m =>
    cases b with
    | nil => rw [Rn.tstmts]
    | cons x r => rw [Rn.tstmts, if_pos h]

set_option maxHeartbeats 4000000 in
set_option maxRecDepth 100000 in
theorem dfrom_step (X : Nat) (tv av : Value) (E : Rn.En) (ts : List (List UInt8)) (args : List Int) (hE : DkEn E ts args) (n : Nat) (hF : ∀ m, m < n → FmAt X tv av E ts args m) : FmAt X tv av E ts args n := by
  intro b i rest s w hok hi hn h
  obtain ⟨q, hq⟩ : ∃ q, q = Rn.tstmts E n b s := ⟨_, rfl⟩
  rw [← hq]
  have hln := hE.len
  have hil : i + b.flat.length ≤ ts.length ∨ b.flat.length = 0 := by
    have := congrArg List.length hi
    simp at this
    omega
  obtain ⟨fin, hfin⟩ : ∃ fin : Nat, fin = i + b.flat.length := ⟨_, rfl⟩
  have HS := hide (fun n hF m i rest s w => dstatement_any X tv av E ts args hE n hF m i rest s w)
  have HFF := hide hF
  have HG := hide (going_ok X w tv av E ts args s h)
  rw [← hfin]
  have HR0 : Hid (DfRel X tv av E ts args w n fin rest q (.int .i64 (i : Int)) (.bool (!s.stopped)) w) := by
    cases hs : s.stopped with
    | false => exact .inl ⟨n, i, b, s, rfl, rfl, hfin.symm, hok, hi, Nat.le_refl _, hs, h, Fr.refl _ _ _ _, hn, hq.symm⟩
    | true =>
      refine .inr ⟨rfl, ⟨_, rfl⟩, ?_⟩
      rw [hq, tstmts_stop E n b s hs (by omega)]
      exact ⟨.inl ⟨rfl, h⟩, Fr.refl _ _ _ _⟩
  clear hF hfin hil hok hi hn h hq
  go_enter Tryz.func151, Tryz.ntmps151
  go_wp2_with fail
  refine HG.out.mono ?_
  rintro e w1 ⟨rfl, rfl⟩
  clear HG
  go_wp2
  go_loopw [1, 6] (fun iv on wr => DfRel X tv av E ts args w1 n fin rest q iv on wr) (fun iv on _ => if onOf on = true then fin + 1 - (intOf iv).toNat else 0)
  case atStart => exact HR0.out
  case round =>
    rcases hrel with ⟨m, p, b', t, rfl, rfl, hfin, hok, hi, hmn, hst, hk, hf, hm, hqq⟩ | ⟨rfl, ⟨j, rfl⟩, ho⟩
    · have HK := hide hk
      have HF := hide hf
      have hfit := hk.fit
      clear hf HR0
      cases m with
      | zero => omega
      | succ m =>
      cases b' with
      | nil =>
        have HE : Hid (q = (0, t)) := by show _ = _; rw [← hqq, Rn.tstmts]
        have tp : decide (p < fin) = false := by
          have : (Sms.nil).flat.length = 0 := by simp [Sms.flat]
          simp; omega
        clear hqq hi hfin
        go_wp2
        go_end0
        rw [HE.out]
        exact ⟨rfl, .inl ⟨rfl, HK.out⟩, HF.out⟩
      | cons x r =>
        cases m with
        | zero => omega
        | succ m =>
        rw [Rn.tstmts, if_neg (by rw [hst]; simp)] at hqq
        have hfl : (Sms.cons x r).flat = x.flat ++ r.flat := by simp [Sms.flat]
        rw [hfl] at hi hfin
        rw [List.length_append] at hfin
        have hxl : 0 < x.flat.length := by
          obtain ⟨t, -, e⟩ := Rn.flat_head x
          rw [e]; simp
        have hi' : ts.drop p = x.flat ++ (r.flat ++ rest) := by rw [hi]; simp
        have tp : decide (p < fin) = true := by simp; omega
        have hstm := HS.out m (fun m' hm' => HFF.out m' (by omega)) x p (r.flat ++ rest) t wr hok.1 hi' (by omega) hk hst
        have hup := ((Rn.tr_up E (m + 1)).2.1 x t hfit)
        have hup2 := hup.2 hst
        have hi2 := drop_app hi'
        generalize Rn.tstmt E (m + 1) x t = rs at *
        obtain ⟨r1, s1⟩ := rs
        have HQ := hide hqq
        have HST := hide hstm
        simp only at HQ hup2
        have HUP := hide hup2
        have hus := hup.1.1.used
        simp only at hus
        have HI2 := hide hi2
        obtain ⟨p1, hp1⟩ : ∃ p1 : Nat, p1 = p + x.flat.length := ⟨_, rfl⟩
        rw [← hp1] at HST HI2
        have HOKR := hide hok.2
        have HFN := hide hfin
        have HP1 := hide hp1
        clear hqq hk hstm hup hup2 hi2 hi hi' hok hfl hfin hp1
        go_wp2_with fail
        refine HST.out.mono ?_
        rintro e w2 ⟨j2, rfl, ho, hj⟩
        have HO := hide (DkOut.pre HF.out ho)
        clear HST
        rcases ho.1 with ⟨h0, hd2⟩ | ⟨hne, her2⟩
        · simp only at h0 hd2
          have HE : Hid (Rn.tstmts E (m + 1) r s1 = q) := by
            have hh := HQ.out
            rw [if_neg (by simpa using h0)] at hh
            exact hh
          have hu1 := (HUP.out h0).2
          have HG := hide (going_ok X w2 _ av E ts args s1 hd2)
          have HD2 := hide hd2
          have HF2 := hide HO.out.2
          have HJ := hide (hj h0)
          clear hd2 ho HO HQ hj
          cases hs1 : s1.stopped with
          | true =>
            rw [hs1] at HG
            have HRR : Hid (DfRel X tv av E ts args w1 n fin rest q (.int .i64 j2) (.bool false) w2) := by
              refine .inr ⟨rfl, ⟨_, rfl⟩, ?_⟩
              have hh := HE.out
              rw [tstmts_stop E (m + 1) r s1 hs1 (by omega)] at hh
              rw [← hh]
              exact ⟨.inl ⟨rfl, HD2.out⟩, HF2.out⟩
            have hfin := HFN.out
            have HMS : Hid (0 < (if onOf (.bool true) = true then fin + 1 - (intOf (.int .i64 (p : Int))).toNat else 0)) := by
              show _ < _
              rw [if_pos (show onOf (.bool true) = true from rfl)]
              simp [intOf]; omega
            clear hfin
            go_wp2_with fail
            refine HG.out.mono ?_
            rintro e w6 ⟨rfl, rfl⟩
            clear HG
            go_wp2
            go_roundw
            case rel => exact HRR.out
            case measure => exact HMS.out
          | false =>
            rw [hs1] at HG
            have hj2 : j2 = (p1 : Int) := HJ.out hs1
            have hfin := HFN.out
            have hp1 := HP1.out
            have HRR : Hid (DfRel X tv av E ts args w1 n fin rest q (.int .i64 j2) (.bool true) w2) := .inl ⟨m + 1, p1, r, s1, rfl, by rw [hj2], by omega, HOKR.out, HI2.out, by omega, hs1, HD2.out, HF2.out, by omega, HE.out⟩
            have HMS : Hid ((if onOf (.bool true) = true then fin + 1 - (intOf (.int .i64 j2)).toNat else 0) < (if onOf (.bool true) = true then fin + 1 - (intOf (.int .i64 (p : Int))).toNat else 0)) := by
              show _ < _
              rw [if_pos (show onOf (.bool true) = true from rfl), if_pos (show onOf (.bool true) = true from rfl), hj2]
              simp [intOf]; omega
            clear hj2 HJ hfin hp1
            go_wp2_with fail
            refine HG.out.mono ?_
            rintro e w6 ⟨rfl, rfl⟩
            clear HG
            go_wp2
            go_roundw
            case rel => exact HRR.out
            case measure => exact HMS.out
        · simp only at hne her2
          have HE : Hid (q = (r1, s1)) := by show _ = _; rw [← HQ.out, if_pos hne]
          have HG := hide (going_no X w2 _ ts _ _ her2 hne)
          have HRR : Hid (DfRel X tv av E ts args w1 n fin rest q (.int .i64 j2) (.bool false) w2) := by
            refine .inr ⟨rfl, ⟨_, rfl⟩, ?_⟩
            rw [HE.out]
            exact HO.out
          have hfin := HFN.out
          have HMS : Hid (0 < (if onOf (.bool true) = true then fin + 1 - (intOf (.int .i64 (p : Int))).toNat else 0)) := by
            show _ < _
            rw [if_pos (show onOf (.bool true) = true from rfl)]
            simp [intOf]; omega
          clear her2 hne ho HQ hfin
          go_wp2_with fail
          refine HG.out.mono ?_
          rintro e w6 ⟨rfl, rfl⟩
          clear HG
          go_wp2
          go_roundw
          case rel => exact HRR.out
          case measure => exact HMS.out
    · have HO := hide ho
      clear ho HR0
      go_wp2
      go_end0
      exact ⟨rfl, HO.out⟩

theorem dfrom_any (X : Nat) (tv av : Value) (E : Rn.En) (ts : List (List UInt8)) (args : List Int) (hE : DkEn E ts args) (n : Nat) : FmAt X tv av E ts args n := by
  induction n using Nat.strongRecOn with
  | ind n ih => exact dfrom_step X tv av E ts args hE n ih
end Go.Proofs.YtellilpeakpbfabGreatDoor

end

section
/-
  What the document's Call answers; no Go text, but the start of its Run.
-/
namespace Go.Proofs.YtellilpeakpbfabGreatDoor
open Go.RowKit
open Tr (Ex Sm Sms Tok kind)
namespace Rn

theorem env_dk (C : Jn.Con) (src : List UInt8) (args : List Int) (fuel : Int) (hr : (Ck.read src).2 = 0) (h4 : args.length ≤ 4) : DkEn (env C src args fuel) (Ck.toks src) args := by
  have h1 := Ck.toks_len src
  have h2 := read_len src hr
  refine ⟨rfl, fun t ht => ?_, by omega, fun k hk => ?_, h4⟩
  · have := h1.2.2 t ht; omega
  · have hk' : k = 0 ∨ k = 1 ∨ k = 2 ∨ k = 3 := by omega
    rcases hk' with rfl | rfl | rfl | rfl <;> rfl
end Rn

/-- the document's Run at its start. -/
theorem dk_start (X : Nat) (w : World) (tv av sc : Value) (C : Jn.Con) (src : List UInt8) (args : List Int) (fuel : Int) (hok : Jn.Ok C) (hr : (Ck.read src).2 = 0) (hm : Rn.may args fuel = true)
    (hh : w.heap[X]? = some (.cells #[tv, av, .int .i64 0, .int .i64 0, .int .i64 0, .int .i64 0, sc, .slice none 0 0, .int .i64 fuel, .int .i64 0, .int .i64 0, .bool false, .int .i64 0] 214 (0, 0)))
    (hc : CRow w 0 sc C.list) (ht : w.ownsRow 0 9 1 tv (Ck.toks src).length ((Ck.toks src).map T)) (ha : IntsAt w av args) (hag : InLow av args X) :
    DkAt X w tv av (Rn.env C src args fuel) (Ck.toks src) args Rn.start := by
  obtain ⟨-, f0, f1, fb⟩ := Rn.may_facts hm
  refine ⟨⟨sc, .slice none 0 0, ?_, hc, World.ownsRow_nil _ _ _ _⟩, ht, ⟨ha, hag⟩, Rn.fit_start C src args fuel hok hr ⟨f0, f1⟩ fb, ⟨fun p hp => (by cases hp), List.Pairwise.nil, fun p hp => (by cases hp)⟩⟩
  rw [hh]
  have e : ((fuel.toNat : Nat) : Int) = fuel := by omega
  simp only [dkCur, Rn.env, Rn.start, e]
  rfl

theorem out_four {w1 : World} {A D : Nat} {a b c d a' b' c' d' : Value} (hAD : A ≠ D) (e0 : w1.cell? ⟨A, 0, none⟩ = some a') (e1 : w1.cell? ⟨A, 1, none⟩ = some b') (g0 : w1.cell? ⟨D, 0, none⟩ = some c') (g1 : w1.cell? ⟨D, 1, none⟩ = some d') :
    ((((w1.setCell ⟨A, 0, none⟩ a).setCell ⟨A, 1, none⟩ b).setCell ⟨D, 0, none⟩ c).setCell ⟨D, 1, none⟩ d).cell? ⟨A, 0, none⟩ = some a ∧ ((((w1.setCell ⟨A, 0, none⟩ a).setCell ⟨A, 1, none⟩ b).setCell ⟨D, 0, none⟩ c).setCell ⟨D, 1, none⟩ d).cell? ⟨A, 1, none⟩ = some b ∧
    ((((w1.setCell ⟨A, 0, none⟩ a).setCell ⟨A, 1, none⟩ b).setCell ⟨D, 0, none⟩ c).setCell ⟨D, 1, none⟩ d).cell? ⟨D, 0, none⟩ = some c ∧ ((((w1.setCell ⟨A, 0, none⟩ a).setCell ⟨A, 1, none⟩ b).setCell ⟨D, 0, none⟩ c).setCell ⟨D, 1, none⟩ d).cell? ⟨D, 1, none⟩ = some d := by
  obtain ⟨s0, s1⟩ := out_two (a := a) (b := b) e0 e1
  have n1 : ∀ i j, (⟨A, i, none⟩ : Addr) ≠ ⟨D, j, none⟩ := fun i j h => hAD (by injection h)
  have n2 : ∀ i j, (⟨D, i, none⟩ : Addr) ≠ ⟨A, j, none⟩ := fun i j h => hAD (by injection h with h; exact h.symm)
  have k0 : ((w1.setCell ⟨A, 0, none⟩ a).setCell ⟨A, 1, none⟩ b).cell? ⟨D, 0, none⟩ = some c' := (World.cell?_setCell_other _ _ _ _ (n1 _ _)).trans ((World.cell?_setCell_other _ _ _ _ (n1 _ _)).trans g0)
  have k1 : ((w1.setCell ⟨A, 0, none⟩ a).setCell ⟨A, 1, none⟩ b).cell? ⟨D, 1, none⟩ = some d' := (World.cell?_setCell_other _ _ _ _ (n1 _ _)).trans ((World.cell?_setCell_other _ _ _ _ (n1 _ _)).trans g1)
  obtain ⟨t0, t1⟩ := out_two (a := c) (b := d) k0 k1
  exact ⟨(World.cell?_setCell_other _ _ _ _ (n2 _ _)).trans ((World.cell?_setCell_other _ _ _ _ (n2 _ _)).trans s0), (World.cell?_setCell_other _ _ _ _ (n2 _ _)).trans ((World.cell?_setCell_other _ _ _ _ (n2 _ _)).trans s1), t0, t1⟩
end Go.Proofs.YtellilpeakpbfabGreatDoor

end
