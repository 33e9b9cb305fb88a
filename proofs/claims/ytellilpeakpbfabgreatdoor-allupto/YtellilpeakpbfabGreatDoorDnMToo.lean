import Derived.Test.YtellilpeakpbfabGreatDoorDnKToo
import Derived.Deep.RegionWith
section
/-
  The walk of the document's while.
-/
namespace Go.Proofs.YtellilpeakpbfabGreatDoor
open Go.RowKit
open Tr (Ex Sm Sms Tok kind)

def dusedOf (X : Nat) (w : World) : Nat := (intOf ((w.cell? ⟨X, 9, none⟩).getD (.int .i64 0))).toNat
theorem DkAt.usedOf {X : Nat} {w : World} {tv av : Value} {E : Rn.En} {ts : List (List UInt8)} {args : List Int} {s : Rn.St} (h : DkAt X w tv av E ts args s) : dusedOf X w = s.used := by
  obtain ⟨cv, sv, -, -, -, hc, -⟩ := h.cells
  unfold dusedOf
  rw [show w.cell? ⟨X, 9, none⟩ = some (.int .i64 s.used) from hc 9]
  simp [intOf]
def onOf : Value → Bool
  | .bool b => b
  | _ => false

def DwRel (X : Nat) (tv av : Value) (E : Rn.En) (ts : List (List UInt8)) (args : List Int) (w : World) (n : Nat) (e : Ex) (b : Sms) (q : Int × Rn.St) (on : Value) (wr : World) : Prop :=
  (∃ (m : Nat) (s : Rn.St), on = .bool true ∧ m ≤ n ∧ s.stopped = false ∧ DkAt X wr tv av E ts args s ∧ DkFr X w wr ∧ 3 * (E.fuel - s.used) + 1 ≤ m ∧ Rn.tloop E m e b s = q) ∨ (on = .bool false ∧ DkOut X tv av E ts args q w wr)

theorem tloop_stop (E : Rn.En) (m : Nat) (e : Ex) (b : Sms) (s : Rn.St) (h : s.stopped = true) (hm : 0 < m) : Rn.tloop E m e b s = (0, s) := by
  cases m with
  | zero => omega
  | succ m => rw [Rn.tloop, if_pos h]

set_option maxHeartbeats 4000000 in
set_option maxRecDepth 100000 in
theorem dwhile_any (X : Nat) (tv av : Value) (E : Rn.En) (ts : List (List UInt8)) (args : List Int) (hE : DkEn E ts args) (n : Nat) (hF : ∀ m, m < n → FmAt X tv av E ts args m) (e : Ex) (b : Sms) (i : Nat) (rest : List (List UInt8)) (s : Rn.St) (w : World)
    (hok : (Sm.whl e b).Ok) (hi : ts.drop i = (Sm.whl e b).flat ++ rest) (hn : 3 * (E.fuel - s.used) + 1 ≤ n) (h : DkAt X w tv av E ts args s) (hs : s.stopped = false) :
    Calls Tryz.prog 180 #[.pointer (some ⟨X, 0, none⟩), .int .i64 i] w (StPost X tv av E ts args (Rn.tloop E n e b s) ((i + (Sm.whl e b).flat.length : Nat) : Int) w) := by
  obtain ⟨q, hq⟩ : ∃ q, q = Rn.tloop E n e b s := ⟨_, rfl⟩
  rw [← hq]
  have hi0 : ts.drop i = [119, 104, 105, 108, 101] :: (e.flat ++ ([123] :: (b.flat ++ ([125] :: rest)))) := by
    rw [hi]; simp [Sm.flat]
  have e1 : (((i + (Sm.whl e b).flat.length) : Nat) : Int) = ((i + 1 + e.flat.length + b.flat.length + 2 : Nat) : Int) := by simp [Sm.flat]; omega
  rw [e1]
  have hi1 := drop_next hi0
  have hi2 := drop_app hi1
  have hln := hE.len
  have hil : i + 1 + e.flat.length + b.flat.length + 2 ≤ ts.length := by
    have := congrArg List.length hi0
    simp at this
    omega
  have HSK := hide (dskip_any X tv ts hln hE.small e (i + 1) _ w hok.1 hi1 h.lk)
  have HC1 := hide (dclose_any X tv ts hln (i + 1 + e.flat.length) b.flat _ w h.lk hi2 (Tr.Sms.bal b hok.2))
  have HEX := hide (fun t => dexpr_any X tv av E ts args hE e (i + 1) _ t hok.1 hi1)
  have HB := hide (fun m (hm : m < n) t x hn hx => dblock_any X tv av E ts args hE m (hF m hm) b (i + 1 + e.flat.length) _ t x hok.2 hi2 hn hx)
  have HR0 : Hid (DwRel X tv av E ts args w n e b q (.bool true) w) := .inl ⟨n, s, rfl, Nat.le_refl _, hs, h, Fr.refl _ _ _ _, hn, hq.symm⟩
  obtain ⟨g, cap, rfl, d1, hit, -⟩ := h.tok hi0
  obtain ⟨cv, sv, -, -, -, hc, -⟩ := h.cells
  have c0 : w.cell? ⟨X, 0, none⟩ = some (.slice (some ⟨g, 0, none⟩) ts.length cap) := hc 0
  have x1 : (((i + 1 : Nat)) : Int) = (i : Int) + 1 := by omega
  rw [x1] at HSK
  obtain ⟨p1, hp1⟩ : ∃ p1 : Nat, p1 = i + 1 + e.flat.length := ⟨_, rfl⟩
  rw [← hp1] at HSK HC1 HB hil ⊢
  obtain ⟨p2, hp2⟩ : ∃ p2 : Nat, p2 = p1 + b.flat.length + 2 := ⟨_, rfl⟩
  rw [← hp2] at HC1 hil ⊢
  have hb1 : p1 ≤ 1000 := by omega
  have hb2 : p2 ≤ 1000 := by omega
  clear hp1 hp2 hi0 hi1 hi2 hi hc h hF hq e1 hn hs
  go_enter Tryz.func180, Tryz.ntmps180
  go_wp2_with fail
  refine HSK.out.mono ?_
  rintro e w1 ⟨rfl, rfl⟩
  go_wp2_with fail
  refine HC1.out.mono ?_
  rintro e w1 ⟨rfl, rfl⟩
  go_wp2
  go_loopw [7] (fun on wr => DwRel X (.slice (some ⟨g, 0, none⟩) ts.length cap) av E ts args w1 n e b q on wr) (fun on wr => if onOf on = true then E.fuel - dusedOf X wr + 1 else 0)
  case atStart => exact HR0.out
  case round =>
    rcases hrel with ⟨m, t, rfl, hmn, hst, hk, hf, hm, hqq⟩ | ⟨rfl, ho⟩
    · have HK := hide hk
      have HF := hide hf
      have HUS := hide hk.usedOf
      have hfit := hk.fit
      clear hf HR0
      cases m with
      | zero => omega
      | succ m =>
      rw [Rn.tloop, if_neg (by rw [hst]; simp)] at hqq
      by_cases hu : E.fuel ≤ t.used
      · have HE : Hid (q = (10, t)) := by show _ = _; rw [← hqq, if_pos hu]
        have HU := hide (dunit_no X wr _ av E ts args t hk hu)
        clear hqq hk
        go_wp2_with fail
        refine HU.out.mono ?_
        rintro e w2 ⟨rfl, her, hfr⟩
        have c10 := her.err.cell
        have HER := hide her
        have HFR := hide (HF.out.trans hfr)
        clear her hfr HU
        go_wp2
        go_ret
        rw [HE.out]
        exact ⟨_, rfl, ⟨.inr ⟨by show (10 : Int) ≠ 0; decide, HER.out.err⟩, HFR.out⟩, fun h0 => absurd h0 (by show (10 : Int) ≠ 0; decide)⟩
      · rw [if_neg hu] at hqq
        have hu' : t.used < E.fuel := by omega
        have HU := hide (dunit_ok X wr _ av E ts args t hk hu')
        obtain ⟨up, -⟩ := (Rn.Up.use hfit hu').texpr e
        have hsm := (Rn.texpr_fit E e (Rn.use t) (hfit.use hu')).2.1.stopped
        have hsm' : (Rn.texpr E e (Rn.use t)).2.2.stopped = false := hsm.trans hst
        have hex := HEX.out (Rn.use t)
        have hlo := (Rn.tr_up E m).1 b _ up.1
        generalize Rn.texpr E e (Rn.use t) = r at *
        obtain ⟨v, er, sr⟩ := r
        simp only at up hqq hex hsm' hlo
        have hu1 := up.2
        have HB' := hide (fun x hx => HB.out m (by omega) sr x (by omega) hx)
        have hlo2 := hlo.2
        have hlo3 := hlo.1.used
        have HLF := hide hlo.1
        generalize hRS : Rn.tstmts E m b sr = rs at *
        obtain ⟨r1, s1⟩ := rs
        have HQ := hide hqq
        have HEX' := hide hex
        simp only at HQ hlo2 hlo3
        clear hqq hk up hex hsm hRS hlo
        go_wp2_with fail
        refine HU.out.mono ?_
        rintro e w2 ⟨rfl, hdk, hfr⟩
        have c10 := hdk.cell10
        have hcall := HEX'.out w2 hdk
        rw [x1] at hcall
        have HCALL := hide hcall
        have HFR := hide (HF.out.trans hfr)
        clear hdk hfr HU hcall HEX'
        go_wp2_with fail
        refine HCALL.out.mono ?_
        rintro e w3 ⟨v3, j3, rfl, hor, hfr3⟩
        have HF3 := hide (HFR.out.trans hfr3)
        clear hfr3 HCALL
        rcases hor with ⟨h0, hdk3, hv3, hj3⟩ | ⟨hne, herr⟩
        · simp only at h0 hdk3 hv3 hj3
          subst hv3
          clear hj3
          have HQ3 : Hid ((if v3 = 0 then (0, sr) else if r1 ≠ 0 then (r1, s1) else Rn.tloop E m e b s1) = q) := by
            have hh := HQ.out
            rw [if_neg (by simpa using h0)] at hh
            exact hh
          clear HQ h0
          have HG := hide (going_ok X w3 _ av E ts args sr hdk3)
          rw [hsm'] at HG
          have HDK := hide hdk3
          clear hdk3
          go_wp2_with fail
          refine HG.out.mono ?_
          rintro e w4 ⟨rfl, rfl⟩
          clear HG
          by_cases hz : v3 = 0
          · have tz : (v3 == 0) = true := by simpa using hz
            have HE : Hid (q = (0, sr)) := by show _ = _; rw [← HQ3.out, if_pos hz]
            clear HQ3 hz
            go_wp2
            go_ret
            rw [HE.out]
            exact ⟨_, rfl, ⟨.inl ⟨rfl, HDK.out⟩, HF3.out⟩, fun _ _ => rfl⟩
          · have tz : (v3 == 0) = false := by simpa using hz
            have HQ4 : Hid ((if r1 ≠ 0 then (r1, s1) else Rn.tloop E m e b s1) = q) := by show _ = _; rw [← HQ3.out, if_neg hz]
            clear HQ3 hz
            have HBB := hide (HB'.out _ HDK.out)
            clear HB'
            go_wp2_with fail
            refine HBB.out.mono ?_
            rintro e w5 ⟨rfl, ho⟩
            have HO := hide (DkOut.pre HF3.out ho)
            clear HBB
            rcases ho.1 with ⟨h0, hd5⟩ | ⟨hne, her5⟩
            · simp only at h0 hd5
              have HE : Hid (Rn.tloop E m e b s1 = q) := by
                have hh := HQ4.out
                rw [if_neg (by simpa using h0)] at hh
                exact hh
              have HG := hide (going_ok X w5 _ av E ts args s1 hd5)
              have HD5 := hide hd5
              have HF5 := hide HO.out.2
              clear hd5 ho HO HQ4
              cases hs1 : s1.stopped with
              | true =>
                rw [hs1] at HG
                have HRR : Hid (DwRel X (.slice (some ⟨g, 0, none⟩) ts.length cap) av E ts args w1 n e b q (.bool false) w5) := by
                  refine .inr ⟨rfl, ?_⟩
                  have hh := HE.out
                  rw [tloop_stop E m e b s1 hs1 (by omega)] at hh
                  rw [← hh]
                  exact ⟨.inl ⟨rfl, HD5.out⟩, HF5.out⟩
                go_wp2_with fail
                refine HG.out.mono ?_
                rintro e w6 ⟨rfl, rfl⟩
                clear HG
                go_wp2
                go_roundw
                case rel => exact HRR.out
                case measure => show 0 < _; simp [onOf]
              | false =>
                rw [hs1] at HG
                have HRR : Hid (DwRel X (.slice (some ⟨g, 0, none⟩) ts.length cap) av E ts args w1 n e b q (.bool true) w5) := .inl ⟨m, s1, rfl, by omega, hs1, HD5.out, HF5.out, by omega, HE.out⟩
                have HMS : Hid ((if onOf (.bool true) = true then E.fuel - dusedOf X w5 + 1 else 0) < (if onOf (.bool true) = true then E.fuel - dusedOf X wr + 1 else 0)) := by
                  have hu5 : dusedOf X w5 = s1.used := HD5.out.usedOf
                  show _ < _
                  rw [HUS.out, hu5, if_pos (show onOf (.bool true) = true from rfl), if_pos (show onOf (.bool true) = true from rfl)]
                  omega
                go_wp2_with fail
                refine HG.out.mono ?_
                rintro e w6 ⟨rfl, rfl⟩
                clear HG
                go_wp2
                go_roundw
                case rel => exact HRR.out
                case measure => exact HMS.out
            · simp only at hne her5
              have HE : Hid (q = (r1, s1)) := by show _ = _; rw [← HQ4.out, if_pos hne]
              have HG := hide (going_no X w5 _ ts _ _ her5 hne)
              have HRR : Hid (DwRel X (.slice (some ⟨g, 0, none⟩) ts.length cap) av E ts args w1 n e b q (.bool false) w5) := by
                refine .inr ⟨rfl, ?_⟩
                rw [HE.out]
                exact HO.out
              clear her5 hne ho HQ4
              go_wp2_with fail
              refine HG.out.mono ?_
              rintro e w6 ⟨rfl, rfl⟩
              clear HG
              go_wp2
              go_roundw
              case rel => exact HRR.out
              case measure => show 0 < _; simp [onOf]
        · simp only at hne herr
          have HE : Hid (q = (er, sr)) := by
            have hh := HQ.out
            rw [if_pos hne] at hh
            exact hh.symm
          have HG := hide (going_no X w3 _ ts _ _ herr hne)
          have HER := hide herr
          have HNE := hide hne
          clear herr hne HQ
          go_wp2_with fail
          refine HG.out.mono ?_
          rintro e w4 ⟨rfl, rfl⟩
          clear HG
          go_wp2
          go_ret
          rw [HE.out]
          exact ⟨_, rfl, ⟨.inr ⟨HNE.out, HER.out⟩, HF3.out⟩, fun h0 => absurd h0 HNE.out⟩
    · have HO := hide ho
      clear ho HR0
      go_wp2
      go_ret
      exact ⟨_, rfl, HO.out, fun _ _ => rfl⟩
end Go.Proofs.YtellilpeakpbfabGreatDoor

end

section
/-
  The walks of the document's statement: set, put, del, stop, fail.
-/
namespace Go.Proofs.YtellilpeakpbfabGreatDoor
open Go.RowKit
open Tr (Ex Sm Sms Tok kind)

/-- a variable is written. -/
theorem DkAt.setVar {X : Nat} {w : World} {tv av : Value} {E : Rn.En} {ts : List (List UInt8)} {args : List Int} {s : Rn.St} (h : DkAt X w tv av E ts args s) (k : Nat) (x : Int) (h3 : k < 4) (hx : -1000000000 ≤ x ∧ x ≤ 1000000000) :
    DkAt X (w.setCell ⟨X, 2 + k, none⟩ (.int .i64 x)) tv av E ts args (Rn.setV s k x) ∧ DkFr X w (w.setCell ⟨X, 2 + k, none⟩ (.int .i64 x)) := by
  obtain ⟨cv, sv, hcr, hsr, hm, -, -⟩ := h.cells
  have hf := h.fit.setV k x hx
  have hk : k = 0 ∨ k = 1 ∨ k = 2 ∨ k = 3 := by omega
  rcases hk with rfl | rfl | rfl | rfl
  · exact DkAt.set (s' := Rn.setV s 0 x) h 2 (.int .i64 x) hm hcr hsr rfl rfl hf
  · exact DkAt.set (s' := Rn.setV s 1 x) h 3 (.int .i64 x) hm hcr hsr rfl rfl hf
  · exact DkAt.set (s' := Rn.setV s 2 x) h 4 (.int .i64 x) hm hcr hsr rfl rfl hf
  · exact DkAt.set (s' := Rn.setV s 3 x) h 5 (.int .i64 x) hm hcr hsr rfl rfl hf

set_option maxHeartbeats 4000000 in
set_option maxRecDepth 100000 in
theorem dset_any (X : Nat) (tv av : Value) (E : Rn.En) (ts : List (List UInt8)) (args : List Int) (hE : DkEn E ts args) (n : Nat) (v : Tok) (e : Ex) (i : Nat) (rest : List (List UInt8)) (s : Rn.St) (w : World)
    (hok : (Sm.set v e).Ok) (hi : ts.drop i = (Sm.set v e).flat ++ rest) (h : DkAt X w tv av E ts args s) :
    Calls Tryz.prog 169 #[.pointer (some ⟨X, 0, none⟩), .int .i64 i] w (StPost X tv av E ts args (Rn.tstmt E (n + 1) (Sm.set v e) s) ((i + (Sm.set v e).flat.length : Nat) : Int) w) := by
  obtain ⟨q, hq⟩ : ∃ q, q = Rn.tstmt E (n + 1) (Sm.set v e) s := ⟨_, rfl⟩
  rw [← hq]
  rw [Rn.tstmt] at hq
  have hi0 : ts.drop i = [115, 101, 116] :: (v :: (e.flat ++ rest)) := by
    rw [hi]; simp [Sm.flat]
  have e1 : (((i + (Sm.set v e).flat.length) : Nat) : Int) = ((i + 2 + e.flat.length : Nat) : Int) := by simp [Sm.flat]; omega
  rw [e1]
  have hi1 := drop_next hi0
  have hi2 : ts.drop (i + 2) = e.flat ++ rest := drop_next hi1
  have hln := hE.len
  have HEX := hide (dexpr_any X tv av E ts args hE e (i + 2) _ (Rn.use s) hok.2 hi2)
  have hlf := (Tr.leaf_facts v (.inr (.inr hok.1))).2.2.2 hok.1
  have hsl : Ck.slot v 118 = 0 ∨ Ck.slot v 118 = 1 ∨ Ck.slot v 118 = 2 ∨ Ck.slot v 118 = 3 := by
    have h1 := hlf.2.2.1
    have h2 := Rn.slot_bd v 118 h1
    omega
  have HQ := hide hq
  have HH := hide h
  have hfit := h.fit
  have HI1 := hide hi1
  obtain ⟨g, cap, rfl, d1, hit, -⟩ := h.tok hi0
  obtain ⟨cv, sv, -, -, -, hc, -⟩ := h.cells
  have c0 : w.cell? ⟨X, 0, none⟩ = some (.slice (some ⟨g, 0, none⟩) ts.length cap) := hc 0
  have hit2 : i + 1 < ts.length := by
    rcases Nat.lt_or_ge (i + 1) ts.length with h1 | h1
    · exact h1
    · rw [List.drop_eq_nil_of_le h1] at hi1; cases hi1
  have x1 : (((i + 2 : Nat)) : Int) = (i : Int) + 2 := by omega
  obtain ⟨p2, hp2⟩ : ∃ p2 : Nat, p2 = i + 2 + e.flat.length := ⟨_, rfl⟩
  rw [← hp2] at HEX ⊢
  rw [← hlf.2.2.2] at HQ
  clear hp2 hi0 hi1 hi2 hi hc h hq e1 hlf
  by_cases hu : E.fuel ≤ s.used
  · have HE : Hid (q = (10, s)) := by show _ = _; rw [HQ.out, if_pos hu]
    have HU := hide (dunit_no X w _ av E ts args s HH.out hu)
    clear HQ HEX
    go_enter Tryz.func169, Tryz.ntmps169
    go_wp2_with fail
    refine HU.out.mono ?_
    rintro e w2 ⟨rfl, her, hfr⟩
    have c10 := her.err.cell
    have HER := hide her
    have HFR := hide hfr
    clear her hfr HU
    go_wp2
    go_ret
    rw [HE.out]
    exact ⟨_, rfl, ⟨.inr ⟨by show (10 : Int) ≠ 0; decide, HER.out.err⟩, HFR.out⟩, fun h0 => absurd h0 (by show (10 : Int) ≠ 0; decide)⟩
  · have hu' : s.used < E.fuel := by omega
    have HU := hide (dunit_ok X w _ av E ts args s HH.out hu')
    have htf := (Rn.texpr_fit E e (Rn.use s) (hfit.use hu')).2.2
    have HQ2 : Hid (q = Rn.setS (Ck.slot v 118) (Rn.texpr E e (Rn.use s))) := by show _ = _; rw [HQ.out, if_neg hu]
    clear HQ
    generalize Rn.texpr E e (Rn.use s) = r at *
    obtain ⟨a, er, sr⟩ := r
    unfold Rn.setS at HQ2
    simp only at HQ2 HEX htf
    go_enter Tryz.func169, Tryz.ntmps169
    go_wp2_with fail
    refine HU.out.mono ?_
    rintro e w2 ⟨rfl, hdk, hfr⟩
    have c10 := hdk.cell10
    have hcall := HEX.out w2 hdk
    rw [x1] at hcall
    have HCALL := hide hcall
    have HFR := hide hfr
    clear hdk hfr HU hcall HEX
    go_wp2_with fail
    refine HCALL.out.mono ?_
    rintro e w3 ⟨v3, j3, rfl, hor, hfr3⟩
    have HF3 := hide (HFR.out.trans hfr3)
    clear hfr3 HCALL
    rcases hor with ⟨h0, hdk3, hv3, hj3⟩ | ⟨hne, herr⟩
    · simp only at h0 hdk3 hv3 hj3
      subst hv3 hj3
      have HE : Hid (q = (0, Rn.setV sr (Ck.slot v 118) v3)) := by show _ = _; rw [HQ2.out, if_neg (by simpa using h0)]
      have c10' := hdk3.cell10
      obtain ⟨cv3, sv3, hcr3, hsr3, hm3, hc3, hz3⟩ := hdk3.cells
      have c03 : w3.cell? ⟨X, 0, none⟩ = some (.slice (some ⟨g, 0, none⟩) ts.length cap) := hc3 0
      obtain ⟨g', cap', hgc, d13, -, -⟩ := hdk3.tok HI1.out
      obtain ⟨rfl, rfl⟩ : g' = g ∧ cap' = cap := by injection hgc with h1 h2 h3; injection h1 with h1; injection h1 with h1; exact ⟨h1.symm, h3.symm⟩
      have HDK := hide hdk3
      have HV := hide (fun w => slot_any ⟨v.toArray⟩ 118 w)
      have k2 : w3.cell? ⟨X, 2, none⟩ = some (.int .i64 sr.v0) := hc3 2
      have k3 : w3.cell? ⟨X, 3, none⟩ = some (.int .i64 sr.v1) := hc3 3
      have k4 : w3.cell? ⟨X, 4, none⟩ = some (.int .i64 sr.v2) := hc3 4
      have k5 : w3.cell? ⟨X, 5, none⟩ = some (.int .i64 sr.v3) := hc3 5
      have z2 := hz3 2
      have z3 := hz3 3
      have z4 := hz3 4
      have z5 := hz3 5
      have hX3 := hdk3.lt
      have hI1 : (0 : Int) ≤ (i : Int) + 1 := by omega
      have hI2 : (i : Int) + 1 < (ts.length : Int) := by omega
      have hI3 : ((i : Int) + 1).toNat = i + 1 := by omega
      have hI4 : IntKind.i64.wrap ((i : Int) + 1) = (i : Int) + 1 := by simp only [IntKind.wrap_i64]; omega
      rw [show (⟨v.toArray⟩ : ByteArray).data.toList = v by simp] at HV
      obtain ⟨vb, hvb⟩ : ∃ vb : ByteArray, vb = ⟨v.toArray⟩ := ⟨_, rfl⟩
      rw [← hvb] at HV d13
      have HS0 := hide (fun k hk => (HDK.out.below (Below.drew (Below.refl _ _))).setVar k v3 hk htf)
      clear hdk3 hc3 hz3 hcr3 hsr3 hm3 hgc HQ2 h0 hvb
      generalize Ck.slot v 118 = sl at *
      rcases hsl with rfl | rfl | rfl | rfl
      · go_wp2
        go_region_with (go_at_call 166; refine (HV.out _).mono ?_; rintro e w5 ⟨rfl, rfl⟩)
        all_goals
          go_wp2
          go_ret
          rw [HE.out]
          exact ⟨_, rfl, ⟨.inl ⟨rfl, (HS0.out 0 (by decide)).1⟩, HF3.out.trans ((DkFr.below (Below.drew (Below.refl _ _)) hX3).trans (HS0.out 0 (by decide)).2)⟩, fun _ _ => rfl⟩
      · go_wp2
        go_region_with (go_at_call 166; refine (HV.out _).mono ?_; rintro e w5 ⟨rfl, rfl⟩)
        all_goals
          go_wp2
          go_ret
          rw [HE.out]
          exact ⟨_, rfl, ⟨.inl ⟨rfl, (HS0.out 1 (by decide)).1⟩, HF3.out.trans ((DkFr.below (Below.drew (Below.refl _ _)) hX3).trans (HS0.out 1 (by decide)).2)⟩, fun _ _ => rfl⟩
      · go_wp2
        go_region_with (go_at_call 166; refine (HV.out _).mono ?_; rintro e w5 ⟨rfl, rfl⟩)
        all_goals
          go_wp2
          go_ret
          rw [HE.out]
          exact ⟨_, rfl, ⟨.inl ⟨rfl, (HS0.out 2 (by decide)).1⟩, HF3.out.trans ((DkFr.below (Below.drew (Below.refl _ _)) hX3).trans (HS0.out 2 (by decide)).2)⟩, fun _ _ => rfl⟩
      · go_wp2
        go_region_with (go_at_call 166; refine (HV.out _).mono ?_; rintro e w5 ⟨rfl, rfl⟩)
        all_goals
          go_wp2
          go_ret
          rw [HE.out]
          exact ⟨_, rfl, ⟨.inl ⟨rfl, (HS0.out 3 (by decide)).1⟩, HF3.out.trans ((DkFr.below (Below.drew (Below.refl _ _)) hX3).trans (HS0.out 3 (by decide)).2)⟩, fun _ _ => rfl⟩
    · simp only at hne herr
      have HE : Hid (q = (er, sr)) := by show _ = _; rw [HQ2.out, if_pos hne]
      have c10' := herr.cell
      have t1 : (er == 0) = false := by simpa using hne
      have HER := hide herr
      have HNE := hide hne
      clear herr hne HQ2
      go_wp2
      go_ret
      rw [HE.out]
      exact ⟨_, rfl, ⟨.inr ⟨HNE.out, HER.out⟩, HF3.out⟩, fun h0 => absurd h0 HNE.out⟩
end Go.Proofs.YtellilpeakpbfabGreatDoor

end
