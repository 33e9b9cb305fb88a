import Derived.Test.YtellilpeakpbfabGreatDoorDnIToo
import Derived.Test.YtellilpeakpbfabGreatDoorRefPToo
section
/-
  The walks of the document's does: put, del.
-/
namespace Go.Proofs.YtellilpeakpbfabGreatDoor
open Go.RowKit

theorem put_keys (s : Rn.St) (p : Int × Bool × Int) (h0 : (Rn.put s p).1 = 0) : keysOf (Rn.put s p).2 = if p.1 ∈ keysOf s then keysOf s else keysOf s ++ [p.1] := by
  have hk : Jn.isKey p.1 = true := by
    unfold Rn.put at h0
    split at h0
    · simp at h0
    · rename_i h; simpa using h
  unfold Rn.put at h0 ⊢
  rw [if_neg (by rw [hk]; simp)] at h0 ⊢
  obtain ⟨k1, k2⟩ := key_find s p.1
  by_cases hin : p.1 ∈ keysOf s
  · rw [if_pos (k1 hin), if_pos hin]
    have hlt := k1 hin
    have hff := Rn.find_find s.writes p.1
    rw [List.getElem?_eq_getElem hlt] at hff
    have hkey : (s.writes[Rn.find s.writes p.1]).1 = p.1 := by have := List.find?_some hff.symm; simpa using this
    unfold keysOf
    simp only
    rw [List.map_set]
    apply List.ext_getElem?
    intro j
    rw [List.getElem?_set]
    split
    · rename_i hj
      subst hj
      simp only [List.length_map, hlt, if_true, List.getElem?_map, List.getElem?_eq_getElem hlt, Option.map_some, hkey]
    · rfl
  · have he := k2 hin
    rw [if_neg (by omega)] at h0 ⊢
    by_cases h8 : 8 ≤ Rn.find s.writes p.1
    · rw [if_pos h8] at h0; simp at h0
    · rw [if_neg h8, if_neg hin]
      simp [keysOf]
/-- the cells are laid anew, the list of changed ones has been. -/
theorem DkSn.cells {X : Nat} {w : World} {tv av : Value} {E : Rn.En} {ts : List (List UInt8)} {args : List Int} {s s' : Rn.St} {ks : List Int} {cv sv : Value} (h : DkSn X w tv av E ts args s ks) (hm : w.heap[X]? = some (.cells (dkCur tv av cv sv E s 0) 214 (0, 0)))
    (hr : w.ownsRow (X + 1) 3 1 sv ks.length (ks.map fun k => .int .i64 k)) (cv' : Value) (hcr : CRow w 0 cv' (Rn.conW E.con s'.writes).list) (hks : ks = keysOf s') (hs : ∀ x, dkCur tv av cv' x E s' 0 = (dkCur tv av cv x E s 0).setIfInBounds 6 cv') (hf : Rn.Fit E s') (hw : Rn.Wr s'.writes) :
    DkAt X (w.setCell ⟨X, 6, none⟩ cv') tv av E ts args s' ∧ DkFr X w (w.setCell ⟨X, 6, none⟩ cv') := by
  have f0 : Fr X [] (some X) w (w.setCell ⟨X, 6, none⟩ cv') := fr_setCell w X 6 cv' (Nat.le_refl _)
  have f2 : Fr X [214] none w (w.setCell ⟨X, 6, none⟩ cv') := f0.weak hm
  refine ⟨⟨⟨cv', sv, ?_, own_fr hcr f2 (by decide) (.inl rfl), ?_⟩, own_fr h.toks f2 (by decide) (.inl rfl), ⟨h.args.1.low h.args.2 f0.below, h.args.2⟩, hf, hw⟩, f2.wide (by simp)⟩
  · rw [heap_setCell_same w X 6 _ _ cv' hm, ← hs]
  · subst hks
    have e1 : (keysOf s').length = s'.writes.length := by simp [keysOf]
    have e2 : (keysOf s').map (fun k => Value.int .i64 k) = s'.writes.map (fun p => .int .i64 p.1) := by simp [keysOf]
    rw [e1, e2] at hr
    exact own_fr hr f0 (by simp) (.inr fun e => by have := own_lies hr X e.symm; omega)
theorem put_same_rest (s : Rn.St) (p : Int × Bool × Int) : (Rn.put s p).2 = { s with writes := (Rn.put s p).2.writes } := by
  unfold Rn.put
  repeat' split
  all_goals rfl
theorem put_err (s : Rn.St) (p : Int × Bool × Int) : (Jn.isKey p.1 = false → Rn.put s p = (5, s)) ∧ (Jn.isKey p.1 = true → p.1 ∉ keysOf s → ¬ s.writes.length < 8 → Rn.put s p = (8, s)) ∧ (Jn.isKey p.1 = true → (p.1 ∈ keysOf s ∨ s.writes.length < 8) → (Rn.put s p).1 = 0) := by
  obtain ⟨k1, k2⟩ := key_find s p.1
  refine ⟨fun h => by unfold Rn.put; rw [if_pos h], fun h hn h8 => ?_, fun h ho => ?_⟩
  · unfold Rn.put
    rw [if_neg (by rw [h]; simp), if_neg (by rw [k2 hn]; omega), if_pos (by rw [k2 hn]; omega)]
  · unfold Rn.put
    rw [if_neg (by rw [h]; simp)]
    by_cases hin : p.1 ∈ keysOf s
    · rw [if_pos (k1 hin)]
    · have h8 : s.writes.length < 8 := by rcases ho with h1 | h1; · exact absurd h1 hin
                                          · exact h1
      rw [if_neg (by rw [k2 hin]; omega), if_neg (by rw [k2 hin]; omega)]

set_option maxHeartbeats 4000000 in
set_option maxRecDepth 100000 in
theorem does_put (X : Nat) (w : World) (tv av : Value) (E : Rn.En) (ts : List (List UInt8)) (args : List Int) (s : Rn.St) (a b : Int) (h : DkAt X w tv av E ts args s) (hb : -1000000000 ≤ b ∧ b ≤ 1000000000) :
    Calls Tryz.prog 183 #[.pointer (some ⟨X, 0, none⟩), .string ⟨#[112, 117, 116]⟩, .int .i64 a, .int .i64 b] w (DoPost X tv av E ts args (Rn.put s (a, true, b)) w) := by
  obtain ⟨q, hq⟩ : ∃ q, q = Rn.put s (a, true, b) := ⟨_, rfl⟩
  rw [← hq]
  have HQ := hide hq
  obtain ⟨pe1, pe2, pe3⟩ := put_err s (a, true, b)
  simp only at pe1 pe2 pe3
  have HKEY := hide (dkey_any X w tv av E ts args s a h)
  have HH := hide h
  clear hq h
  cases hkk : Jn.isKey a with
  | false =>
    rw [hkk] at HKEY
    have HE : Hid (q = (5, s)) := by show _ = _; rw [HQ.out, pe1 hkk]
    clear pe1 pe2 pe3 HQ
    go_enter Tryz.func183, Tryz.ntmps183
    go_wp2_with fail
    refine HKEY.out.mono ?_
    rintro e w4 ⟨rfl, hor4⟩
    rcases hor4 with ⟨hx, -⟩ | ⟨-, her4, hf4⟩
    · cases hx
    have HER := hide her4
    have HF4 := hide hf4
    clear her4 hf4 HKEY
    go_wp2
    refine bodyPost_ret (results_none rfl _ _ _) rfl ?_
    rw [HE.out]
    exact ⟨rfl, .inr ⟨by show (5 : Int) ≠ 0; decide, HER.out⟩, HF4.out⟩
  | true =>
    rw [hkk] at HKEY
    have HCH := hide (changes_any X w tv av E ts args s a HH.out)
    have HP2 := hide (pe2 hkk)
    have HP3 := hide (pe3 hkk)
    clear pe1 pe2 pe3
    go_enter Tryz.func183, Tryz.ntmps183
    go_wp2_with fail
    refine HKEY.out.mono ?_
    rintro e w4 ⟨rfl, hor4⟩
    rcases hor4 with ⟨-, rfl⟩ | ⟨hx, -⟩
    rotate_left
    · cases hx
    clear HKEY
    go_wp2_with fail
    refine HCH.out.mono ?_
    rintro e w5 ⟨rfl, hf5, hor5⟩
    have HF5 := hide hf5
    clear hf5 HCH
    have hcase : (∃ ks, DkSn X w5 tv av E ts args s ks ∧ (Rn.put s (a, true, b)).1 = 0 ∧ ks = keysOf (Rn.put s (a, true, b)).2) ∨ (Rn.put s (a, true, b) = (8, s) ∧ DkErr X w5 tv ts s.used 8) := by
      rcases hor5 with ⟨hin, rfl⟩ | ⟨hno, h8, hsn⟩ | ⟨hno, h8, her⟩
      · have h0 := HP3.out (.inl hin)
        have hk := put_keys s (a, true, b) h0
        rw [if_pos (by exact hin)] at hk
        exact .inl ⟨keysOf s, HH.out.sn, h0, hk.symm⟩
      · have h0 := HP3.out (.inr h8)
        have hk := put_keys s (a, true, b) h0
        rw [if_neg (by exact hno)] at hk
        exact .inl ⟨_, hsn, h0, hk.symm⟩
      · exact .inr ⟨HP2.out hno h8, her⟩
    clear hor5 HP2 HP3
    rcases hcase with ⟨ks, hsn, h0, hks⟩ | ⟨h8, her⟩
    · obtain ⟨cv, sv, hm, hcr, hr⟩ := hsn.mem
      have c10 : w5.cell? ⟨X, 10, none⟩ = some (.int .i64 0) := (cell_of_row w5 X 10 _ _ _ hm).trans rfl
      have c6 : w5.cell? ⟨X, 6, none⟩ = some cv := (cell_of_row w5 X 6 _ _ _ hm).trans rfl
      have hok : Jn.Ok (Rn.conW E.con s.writes) := Rn.conW_ok _ _ HH.out.fit.con HH.out.wr.ok
      obtain ⟨k1, k2⟩ := Rn.key_nat hkk
      have hwrp := Rn.Wr.put HH.out.wr (a, true, b) ⟨hkk, hb⟩ (by simp) h0
      have hview : withL (Rn.conW E.con s.writes).list a b = (Rn.conW E.con (Rn.put s (a, true, b)).2.writes).list := by
        rw [hwrp.2 E.con HH.out.fit.con.len]
        have := with_con hok a.toNat k2 b
        rw [k1] at this
        rw [this]
        show (Jn.setC _ ((a.toNat : Nat) : Int) _).list = _
        rw [k1]; rfl
      have HWI := hide (with_any 0 cv _ a b w5 hcr (list_bound hok))
      obtain ⟨cvo, cvk, hcv⟩ := crow_slice hcr
      have HSN := hide hsn
      have HM := hide hm
      have HR := hide hr
      have HKS := hide hks
      have HW2 := hide hwrp.1
      have HFT := hide (HH.out.fit.put (a, true, b) hb).1
      have HSR := hide (put_same_rest s (a, true, b))
      have H0 := hide h0
      rw [hview] at HWI
      subst hcv
      clear hsn hm hr hks hcr hok hview hwrp h0
      go_wp2_with fail
      refine HWI.out.mono ?_
      rintro e w6 ⟨v6, rfl, hrow6, hb6⟩
      have hX5 : X < w5.heap.size := (Array.getElem?_eq_some_iff.1 HM.out).1
      have hm6 := (hb6.block X hX5).trans HM.out
      have z6 : w6.frozen? ⟨X, 6, none⟩ = false := frozen_of_row w6 X 6 _ _ hm6
      have c66 := (cell_of_row w6 X 6 _ _ _ hm6).trans rfl
      have hsn6 : DkSn X w6 tv av E ts args s ks := by
        obtain ⟨cv0, sv0, hm0, hcr0, hr0⟩ := HSN.out.mem
        exact ⟨⟨cv0, sv0, (hb6.block X hX5).trans hm0, ownsRow_below hcr0 hb6, ownsRow_below hr0 hb6⟩, ownsRow_below HSN.out.toks hb6, ⟨HSN.out.args.1.below hb6, HSN.out.args.2⟩⟩
      have hset := DkSn.cells (s' := (Rn.put s (a, true, b)).2) hsn6 hm6 (ownsRow_below HR.out hb6) v6 (CRow.base hrow6 (Nat.zero_le _)) HKS.out (fun x => by rw [HSR.out]; rfl) HFT.out HW2.out
      have HSET := hide hset
      have HF6 := hide (HF5.out.trans (DkFr.below hb6 hX5))
      obtain ⟨vo, vk, rfl⟩ := crow_slice hrow6
      clear hset hsn6 hm6 hrow6 hb6 HWI
      go_wp2
      go_end0
      rw [HQ.out]
      exact ⟨rfl, .inl ⟨H0.out, HSET.out.1⟩, HF6.out.trans HSET.out.2⟩
    · have c10 := her.cell
      have HER := hide her
      have HE : Hid (q = (8, s)) := by show _ = _; rw [HQ.out, h8]
      clear her h8 HQ
      go_wp2
      refine bodyPost_ret (results_none rfl _ _ _) rfl ?_
      rw [HE.out]
      exact ⟨rfl, .inr ⟨by show (8 : Int) ≠ 0; decide, HER.out⟩, HF5.out⟩

set_option maxHeartbeats 4000000 in
set_option maxRecDepth 100000 in
theorem does_del (X : Nat) (w : World) (tv av : Value) (E : Rn.En) (ts : List (List UInt8)) (args : List Int) (s : Rn.St) (a b : Int) (h : DkAt X w tv av E ts args s) :
    Calls Tryz.prog 183 #[.pointer (some ⟨X, 0, none⟩), .string ⟨#[100, 101, 108]⟩, .int .i64 a, .int .i64 b] w (DoPost X tv av E ts args (Rn.put s (a, false, 0)) w) := by
  obtain ⟨q, hq⟩ : ∃ q, q = Rn.put s (a, false, 0) := ⟨_, rfl⟩
  rw [← hq]
  have HQ := hide hq
  obtain ⟨pe1, pe2, pe3⟩ := put_err s (a, false, 0)
  simp only at pe1 pe2 pe3
  have HKEY := hide (dkey_any X w tv av E ts args s a h)
  have HH := hide h
  clear hq h
  cases hkk : Jn.isKey a with
  | false =>
    rw [hkk] at HKEY
    have HE : Hid (q = (5, s)) := by show _ = _; rw [HQ.out, pe1 hkk]
    clear pe1 pe2 pe3 HQ
    go_enter Tryz.func183, Tryz.ntmps183
    go_wp2_with fail
    refine HKEY.out.mono ?_
    rintro e w4 ⟨rfl, hor4⟩
    rcases hor4 with ⟨hx, -⟩ | ⟨-, her4, hf4⟩
    · cases hx
    have HER := hide her4
    have HF4 := hide hf4
    clear her4 hf4 HKEY
    go_wp2
    refine bodyPost_ret (results_none rfl _ _ _) rfl ?_
    rw [HE.out]
    exact ⟨rfl, .inr ⟨by show (5 : Int) ≠ 0; decide, HER.out⟩, HF4.out⟩
  | true =>
    rw [hkk] at HKEY
    have HCH := hide (changes_any X w tv av E ts args s a HH.out)
    have HP2 := hide (pe2 hkk)
    have HP3 := hide (pe3 hkk)
    clear pe1 pe2 pe3
    go_enter Tryz.func183, Tryz.ntmps183
    go_wp2_with fail
    refine HKEY.out.mono ?_
    rintro e w4 ⟨rfl, hor4⟩
    rcases hor4 with ⟨-, rfl⟩ | ⟨hx, -⟩
    rotate_left
    · cases hx
    clear HKEY
    go_wp2_with fail
    refine HCH.out.mono ?_
    rintro e w5 ⟨rfl, hf5, hor5⟩
    have HF5 := hide hf5
    clear hf5 HCH
    have hcase : (∃ ks, DkSn X w5 tv av E ts args s ks ∧ (Rn.put s (a, false, 0)).1 = 0 ∧ ks = keysOf (Rn.put s (a, false, 0)).2) ∨ (Rn.put s (a, false, 0) = (8, s) ∧ DkErr X w5 tv ts s.used 8) := by
      rcases hor5 with ⟨hin, rfl⟩ | ⟨hno, h8, hsn⟩ | ⟨hno, h8, her⟩
      · have h0 := HP3.out (.inl hin)
        have hk := put_keys s (a, false, 0) h0
        rw [if_pos (by exact hin)] at hk
        exact .inl ⟨keysOf s, HH.out.sn, h0, hk.symm⟩
      · have h0 := HP3.out (.inr h8)
        have hk := put_keys s (a, false, 0) h0
        rw [if_neg (by exact hno)] at hk
        exact .inl ⟨_, hsn, h0, hk.symm⟩
      · exact .inr ⟨HP2.out hno h8, her⟩
    clear hor5 HP2 HP3
    rcases hcase with ⟨ks, hsn, h0, hks⟩ | ⟨h8, her⟩
    · obtain ⟨cv, sv, hm, hcr, hr⟩ := hsn.mem
      have c10 : w5.cell? ⟨X, 10, none⟩ = some (.int .i64 0) := (cell_of_row w5 X 10 _ _ _ hm).trans rfl
      have c6 : w5.cell? ⟨X, 6, none⟩ = some cv := (cell_of_row w5 X 6 _ _ _ hm).trans rfl
      have hok : Jn.Ok (Rn.conW E.con s.writes) := Rn.conW_ok _ _ HH.out.fit.con HH.out.wr.ok
      obtain ⟨k1, k2⟩ := Rn.key_nat hkk
      have hwrp := Rn.Wr.put HH.out.wr (a, false, 0) ⟨hkk, (by simp : -1000000000 ≤ (0 : Int) ∧ (0 : Int) ≤ 1000000000)⟩ (by simp) h0
      have hview : withoutL (Rn.conW E.con s.writes).list a = (Rn.conW E.con (Rn.put s (a, false, 0)).2.writes).list := by
        rw [hwrp.2 E.con HH.out.fit.con.len]
        have := without_con hok a.toNat k2
        rw [k1] at this
        rw [this]
        show (Jn.setC _ ((a.toNat : Nat) : Int) _).list = _
        rw [k1]; rfl
      have HWI := hide (without_any 0 cv _ a w5 hcr (list_bound hok))
      obtain ⟨cvo, cvk, hcv⟩ := crow_slice hcr
      have HSN := hide hsn
      have HM := hide hm
      have HR := hide hr
      have HKS := hide hks
      have HW2 := hide hwrp.1
      have HFT := hide (HH.out.fit.put (a, false, 0) (by simp : -1000000000 ≤ (0 : Int) ∧ (0 : Int) ≤ 1000000000)).1
      have HSR := hide (put_same_rest s (a, false, 0))
      have H0 := hide h0
      rw [hview] at HWI
      subst hcv
      clear hsn hm hr hks hcr hok hview hwrp h0
      go_wp2_with fail
      refine HWI.out.mono ?_
      rintro e w6 ⟨v6, rfl, hrow6, hb6⟩
      have hX5 : X < w5.heap.size := (Array.getElem?_eq_some_iff.1 HM.out).1
      have hm6 := (hb6.block X hX5).trans HM.out
      have z6 : w6.frozen? ⟨X, 6, none⟩ = false := frozen_of_row w6 X 6 _ _ hm6
      have c66 := (cell_of_row w6 X 6 _ _ _ hm6).trans rfl
      have hsn6 : DkSn X w6 tv av E ts args s ks := by
        obtain ⟨cv0, sv0, hm0, hcr0, hr0⟩ := HSN.out.mem
        exact ⟨⟨cv0, sv0, (hb6.block X hX5).trans hm0, ownsRow_below hcr0 hb6, ownsRow_below hr0 hb6⟩, ownsRow_below HSN.out.toks hb6, ⟨HSN.out.args.1.below hb6, HSN.out.args.2⟩⟩
      have hset := DkSn.cells (s' := (Rn.put s (a, false, 0)).2) hsn6 hm6 (ownsRow_below HR.out hb6) v6 (CRow.base hrow6 (Nat.zero_le _)) HKS.out (fun x => by rw [HSR.out]; rfl) HFT.out HW2.out
      have HSET := hide hset
      have HF6 := hide (HF5.out.trans (DkFr.below hb6 hX5))
      obtain ⟨vo, vk, rfl⟩ := crow_slice hrow6
      clear hset hsn6 hm6 hrow6 hb6 HWI
      go_wp2
      go_end0
      rw [HQ.out]
      exact ⟨rfl, .inl ⟨H0.out, HSET.out.1⟩, HF6.out.trans HSET.out.2⟩
    · have c10 := her.cell
      have HER := hide her
      have HE : Hid (q = (8, s)) := by show _ = _; rw [HQ.out, h8]
      clear her h8 HQ
      go_wp2
      refine bodyPost_ret (results_none rfl _ _ _) rfl ?_
      rw [HE.out]
      exact ⟨rfl, .inr ⟨by show (8 : Int) ≠ 0; decide, HER.out⟩, HF5.out⟩
end Go.Proofs.YtellilpeakpbfabGreatDoor

end

section
/-
  Units over trees; the walks of the document's block and of if.
-/
namespace Go.Proofs.YtellilpeakpbfabGreatDoor
open Go.RowKit
open Tr (Ex Sm Sms Tok kind)

theorem DkOut.lk {X : Nat} {tv av : Value} {E : Rn.En} {ts : List (List UInt8)} {args : List Int} {r : Int × Rn.St} {w w' : World} (h : DkOut X tv av E ts args r w w') : LkAt X w' tv ts := by
  rcases h.1 with ⟨_, h1⟩ | ⟨_, h1⟩
  · exact h1.lk
  · exact h1.lk
theorem DkOut.pre {X : Nat} {tv av : Value} {E : Rn.En} {ts : List (List UInt8)} {args : List Int} {r : Int × Rn.St} {w0 w w' : World} (hf : DkFr X w0 w) (h : DkOut X tv av E ts args r w w') : DkOut X tv av E ts args r w0 w' := ⟨h.1, hf.trans h.2⟩

/-- the contract of a row of statements. -/
abbrev FmAt (X : Nat) (tv av : Value) (E : Rn.En) (ts : List (List UInt8)) (args : List Int) (n : Nat) : Prop :=
  ∀ (b : Sms) (i : Nat) (rest : List (List UInt8)) (s : Rn.St) (w : World), b.Ok → ts.drop i = b.flat ++ rest → 3 * (E.fuel - s.used) + 3 ≤ n → DkAt X w tv av E ts args s →
    Calls Tryz.prog 151 #[.pointer (some ⟨X, 0, none⟩), .int .i64 (i : Int), .int .i64 ((i + b.flat.length : Nat) : Int)] w (DoPost X tv av E ts args (Rn.tstmts E n b s) w)

set_option maxHeartbeats 1000000 in
set_option maxRecDepth 100000 in
theorem dblock_any (X : Nat) (tv av : Value) (E : Rn.En) (ts : List (List UInt8)) (args : List Int) (hE : DkEn E ts args) (n : Nat) (hF : FmAt X tv av E ts args n) (b : Sms) (i : Nat) (rest : List (List UInt8)) (s : Rn.St) (w : World)
    (hok : b.Ok) (hi : ts.drop i = [123] :: (b.flat ++ ([125] :: rest))) (hn : 3 * (E.fuel - s.used) + 3 ≤ n) (h : DkAt X w tv av E ts args s) :
    Calls Tryz.prog 192 #[.pointer (some ⟨X, 0, none⟩), .int .i64 i] w (DoPost X tv av E ts args (Rn.tstmts E n b s) w) := by
  have HC := hide (dclose_any X tv ts hE.len i b.flat rest w h.lk hi (Tr.Sms.bal b hok))
  have hln := hE.len
  have hil : i + b.flat.length + 2 ≤ ts.length := by
    have := congrArg List.length hi
    simp at this
    omega
  have hr := hF b (i + 1) ([125] :: rest) s w hok (drop_next hi) hn h
  have e1 : (((i + 1 : Nat)) : Int) = (i : Int) + 1 := by omega
  have e2 : ((i + 1 + b.flat.length : Nat) : Int) = ((i + b.flat.length + 2 : Nat) : Int) - 1 := by omega
  rw [e1, e2] at hr
  have HR := hide hr
  clear hF h hr hi
  go_enter Tryz.func192, Tryz.ntmps192
  go_wp2_with fail
  refine HC.out.mono ?_
  rintro e w1 ⟨rfl, rfl⟩
  clear HC
  go_wp2_with fail
  refine HR.out.mono ?_
  rintro e w2 ⟨rfl, ho⟩
  have HO := hide ho
  clear ho HR
  go_wp2
  go_end0
  exact ⟨rfl, HO.out⟩

/-- what a statement answers. -/
def StPost (X : Nat) (tv av : Value) (E : Rn.En) (ts : List (List UInt8)) (args : List Int) (r : Int × Rn.St) (j0 : Int) (w : World) (e : Ending) (w' : World) : Prop :=
  ∃ j : Int, e = .returned (.int .i64 j) ∧ DkOut X tv av E ts args r w w' ∧ (r.1 = 0 → r.2.stopped = false → j = j0)

set_option maxHeartbeats 4000000 in
set_option maxRecDepth 100000 in
theorem dif_any (X : Nat) (tv av : Value) (E : Rn.En) (ts : List (List UInt8)) (args : List Int) (hE : DkEn E ts args) (n : Nat) (hF : FmAt X tv av E ts args n) (e : Ex) (a b : Sms) (i : Nat) (rest : List (List UInt8)) (s : Rn.St) (w : World)
    (hok : (Sm.ite e a b).Ok) (hi : ts.drop i = (Sm.ite e a b).flat ++ rest) (hn : 3 * (E.fuel - s.used) ≤ n) (h : DkAt X w tv av E ts args s) :
    Calls Tryz.prog 180 #[.pointer (some ⟨X, 0, none⟩), .int .i64 i] w (StPost X tv av E ts args (Rn.tstmt E (n + 1) (Sm.ite e a b) s) ((i + (Sm.ite e a b).flat.length : Nat) : Int) w) := by
  obtain ⟨q, hq⟩ : ∃ q, q = Rn.tstmt E (n + 1) (Sm.ite e a b) s := ⟨_, rfl⟩
  rw [← hq]
  rw [Rn.tstmt] at hq
  have hi0 : ts.drop i = [105, 102] :: (e.flat ++ ([123] :: (a.flat ++ ([125] :: ([123] :: (b.flat ++ ([125] :: rest))))))) := by
    rw [hi]; simp [Sm.flat]
  have e1 : (((i + (Sm.ite e a b).flat.length) : Nat) : Int) = ((i + 1 + e.flat.length + a.flat.length + 2 + b.flat.length + 2 : Nat) : Int) := by simp [Sm.flat]; omega
  rw [e1]
  have hi1 := drop_next hi0
  have hi2 := drop_app hi1
  have hi3 : ts.drop (i + 1 + e.flat.length + a.flat.length + 2) = [123] :: (b.flat ++ ([125] :: rest)) := by
    have := drop_app (drop_next hi2)
    have := drop_next this
    rw [← this]
    congr 1; omega
  have hln := hE.len
  have hil : i + 1 + e.flat.length + a.flat.length + 2 + b.flat.length + 2 ≤ ts.length := by
    have := congrArg List.length hi0
    simp at this
    omega
  have HSK := hide (dskip_any X tv ts hln hE.small e (i + 1) _ w hok.1 hi1 h.lk)
  have HC1 := hide (dclose_any X tv ts hln (i + 1 + e.flat.length) a.flat _ w h.lk hi2 (Tr.Sms.bal a hok.2.1))
  have HC2 := hide (fun x hx => dclose_any X tv ts hln (i + 1 + e.flat.length + a.flat.length + 2) b.flat _ x hx hi3 (Tr.Sms.bal b hok.2.2))
  have HEX := hide (dexpr_any X tv av E ts args hE e (i + 1) _ (Rn.use s) hok.1 hi1)
  have HB1 := hide (fun t x hn hx => dblock_any X tv av E ts args hE n hF a (i + 1 + e.flat.length) _ t x hok.2.1 hi2 hn hx)
  have HB2 := hide (fun t x hn hx => dblock_any X tv av E ts args hE n hF b (i + 1 + e.flat.length + a.flat.length + 2) _ t x hok.2.2 hi3 hn hx)
  obtain ⟨g, cap, rfl, d1, hit, -⟩ := h.tok hi0
  obtain ⟨cv, sv, -, -, -, hc, -⟩ := h.cells
  have c0 : w.cell? ⟨X, 0, none⟩ = some (.slice (some ⟨g, 0, none⟩) ts.length cap) := hc 0
  have x1 : (((i + 1 : Nat)) : Int) = (i : Int) + 1 := by omega
  have x2 : ((i + 1 + e.flat.length + a.flat.length + 2 : Nat) : Int) = (((i + 1 + e.flat.length) + a.flat.length + 2 : Nat) : Int) := rfl
  rw [x1] at HSK
  obtain ⟨p1, hp1⟩ : ∃ p1 : Nat, p1 = i + 1 + e.flat.length := ⟨_, rfl⟩
  rw [← hp1] at HSK HC1 HC2 HB1 HB2 hil ⊢
  obtain ⟨p2, hp2⟩ : ∃ p2 : Nat, p2 = p1 + a.flat.length + 2 := ⟨_, rfl⟩
  rw [← hp2] at HC1 HC2 HB2 hil ⊢
  obtain ⟨p3, hp3⟩ : ∃ p3 : Nat, p3 = p2 + b.flat.length + 2 := ⟨_, rfl⟩
  rw [← hp3] at HC2 hil ⊢
  have hb1 : p1 ≤ 1000 := by omega
  have hb2 : p2 ≤ 1000 := by omega
  have HQ := hide hq
  have HH := hide h
  have hfit := h.fit
  clear hp1 hp2 hp3 hi0 hi1 hi2 hi3 hi hc h hF hq x2 e1
  by_cases hu : E.fuel ≤ s.used
  · have HE : Hid (q = (10, s)) := by show _ = _; rw [HQ.out, if_pos hu]
    have HU := hide (dunit_no X w _ av E ts args s HH.out hu)
    clear HQ HEX HB1 HB2 HC2
    go_enter Tryz.func180, Tryz.ntmps180
    go_wp2_with fail
    refine HSK.out.mono ?_
    rintro e w1 ⟨rfl, rfl⟩
    go_wp2_with fail
    refine HC1.out.mono ?_
    rintro e w1 ⟨rfl, rfl⟩
    go_wp2_with fail
    refine HU.out.mono ?_
    rintro e w2 ⟨rfl, her, hfr⟩
    have c10 := her.err.cell
    have HER := hide her
    have HFR := hide hfr
    clear her hfr HU
    go_wp2
    go_ret
    rw [HE.out]
    exact ⟨_, rfl, ⟨.inr ⟨by show (10 : Int) ≠ 0; decide, HER.out.err⟩, HFR.out⟩, fun h0 => absurd h0 (by show (10 : Int) ≠ 0; decide)⟩
  · have hu' : s.used < E.fuel := by omega
    have HU := hide (dunit_ok X w _ av E ts args s HH.out hu')
    obtain ⟨up, -⟩ := (Rn.Up.use hfit hu').texpr e
    have HQ2 : Hid (q = if (Rn.texpr E e (Rn.use s)).2.1 ≠ 0 then ((Rn.texpr E e (Rn.use s)).2.1, (Rn.texpr E e (Rn.use s)).2.2) else if (Rn.texpr E e (Rn.use s)).1 = 0 then Rn.tstmts E n b (Rn.texpr E e (Rn.use s)).2.2 else Rn.tstmts E n a (Rn.texpr E e (Rn.use s)).2.2) := by
      show _ = _; rw [HQ.out, if_neg hu]
    clear HQ
    generalize Rn.texpr E e (Rn.use s) = r at *
    obtain ⟨v, er, sr⟩ := r
    simp only at up HQ2 HEX
    have hgas : 3 * (E.fuel - sr.used) + 3 ≤ n := by have := up.2; omega
    have HB1' := hide (fun x hx => HB1.out sr x hgas hx)
    have HB2' := hide (fun x hx => HB2.out sr x hgas hx)
    clear HB1 HB2 up hgas
    go_enter Tryz.func180, Tryz.ntmps180
    go_wp2_with fail
    refine HSK.out.mono ?_
    rintro e w1 ⟨rfl, rfl⟩
    go_wp2_with fail
    refine HC1.out.mono ?_
    rintro e w1 ⟨rfl, rfl⟩
    go_wp2_with fail
    refine HU.out.mono ?_
    rintro e w2 ⟨rfl, hdk, hfr⟩
    have c10 := hdk.cell10
    have hcall := HEX.out w2 hdk
    rw [x1] at hcall
    have HCALL := hide hcall
    have HFR := hide hfr
    clear hdk hfr HU hcall HEX
    go_wp2_with fail
    refine HCALL.out.mono ?_
    rintro e w3 ⟨v3, j3, rfl, hor, hfr3⟩
    have HF3 := hide (HFR.out.trans hfr3)
    clear hfr3 HCALL
    rcases hor with ⟨h0, hdk3, hv3, hj3⟩ | ⟨hne, herr⟩
    · simp only at h0 hdk3 hv3 hj3
      subst hv3
      clear hj3
      have HQ3 : Hid (q = if v3 = 0 then Rn.tstmts E n b sr else Rn.tstmts E n a sr) := by show _ = _; rw [HQ2.out, if_neg (by simpa using h0)]
      clear HQ2 h0
      have c10' := hdk3.cell10
      have HDK := hide hdk3
      clear hdk3
      cases ht : (v3 != (0 : Int)) with
      | true =>
        have HE : Hid (q = Rn.tstmts E n a sr) := by show _ = _; rw [HQ3.out, if_neg (by simpa using ht)]
        have HB := hide (HB1'.out _ HDK.out)
        clear HQ3 HB1' HB2'
        go_wp2_with fail
        refine HB.out.mono ?_
        rintro e w4 ⟨rfl, ho⟩
        have HO := hide (DkOut.pre HF3.out ho)
        clear ho HB
        go_wp2_with fail
        refine (HC2.out _ HO.out.lk).mono ?_
        rintro e w5 ⟨rfl, rfl⟩
        go_wp2
        go_ret
        rw [HE.out]
        exact ⟨_, rfl, HO.out, fun _ _ => rfl⟩
      | false =>
        have HE : Hid (q = Rn.tstmts E n b sr) := by show _ = _; rw [HQ3.out, if_pos (by simpa using ht)]
        have HB := hide (HB2'.out _ HDK.out)
        clear HQ3 HB1' HB2'
        go_wp2_with fail
        refine HB.out.mono ?_
        rintro e w4 ⟨rfl, ho⟩
        have HO := hide (DkOut.pre HF3.out ho)
        clear ho HB
        go_wp2_with fail
        refine (HC2.out _ HO.out.lk).mono ?_
        rintro e w5 ⟨rfl, rfl⟩
        go_wp2
        go_ret
        rw [HE.out]
        exact ⟨_, rfl, HO.out, fun _ _ => rfl⟩
    · simp only at hne herr
      have HE : Hid (q = (er, sr)) := by show _ = _; rw [HQ2.out, if_pos hne]
      have c10' := herr.cell
      have t1 : (er != 0) = true := by simpa using hne
      have HER := hide herr
      have HNE := hide hne
      clear herr hne HQ2
      go_wp2
      go_ret
      rw [HE.out]
      exact ⟨_, rfl, ⟨.inr ⟨HNE.out, HER.out⟩, HF3.out⟩, fun h0 => absurd h0 HNE.out⟩
end Go.Proofs.YtellilpeakpbfabGreatDoor

end
