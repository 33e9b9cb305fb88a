import Derived.Test.YtellilpeakpbfabGreatDoorCshToo
import Derived.Test.YtellilpeakpbfabGreatDoorActedToo
import Derived.Test.YtellilpeakpbfabGreatDoorStoreToo
import Derived.Test.YtellilpeakpbfabGreatDoorSmallToo
section
/-
  The walk of acted, where crashes may come.
-/
set_option linter.unusedVariables false
namespace Go.Proofs.YtellilpeakpbfabGreatDoor
open Go.RowKit

set_option maxHeartbeats 4000000 in
set_option maxRecDepth 100000 in
theorem acted_zero (L W D N M : Nat) (w : World) (vx : Value) (past : List Jn.Con) (d d' : DS) (nc nq na : Nat) (v : Value) (l : List ActP) (most : Int) (er : Bool) (o : OpD)
    (hlaw : LawAt L W D N M w vx past d nc nq na) (hLN : L ≤ M) (hN : N ≤ w.heap.size) (hM : M ≤ w.heap.size)
    (hr : ARow w M v l) (hl : l.length ≤ 8) (hs : (lens l : Int) ≤ most) (hs2 : lens l ≤ 1000000) (her : er = true ∨ ∀ p ∈ l, p.1 ≠ 3) (hp : playL d l = some d') (hna : na ≤ 4000000000000) (hcut : o.cut = 0) :
    Calls Tryz.prog 123 #[.pointer (some ⟨W, 0, none⟩), v, .int .i64 most, .bool er, .agg o.cells, .bool true] w fun e w' => e = .returned (.bool true) ∧
      LawAt L W D w'.heap.size w'.heap.size w' vx past d' nc nq (na + 3) ∧ Fr L [67, 115, 27, 84] none w w' := by
  obtain ⟨kk, nn, mm, s, t, lo, ln, lc, cut, wo, wn, wc⟩ := o
  simp only [OpD.cells]
  simp only at hcut
  subst hcut
  obtain ⟨vp, vc, vq, va, lcs, lqs, lxs, hW, -, -, -, -, -, -, -⟩ := hlaw.rest
  obtain ⟨-, c1, -, -, -, -⟩ := hW.cell
  have hwl := hW.lt
  have hLw := hlaw.low
  obtain ⟨ao, cap, hv, hcs⟩ := hr.shape
  subst hv
  have hB1 : ∀ ob : Obj, Below w.heap.size w (w.alloc ob) := fun ob => (Below.refl _ _).alloc (Nat.le_refl _) ob
  have HC := hide hcs
  have HR := hide hr
  have HL := hide hlaw
  have HB1 := hide hB1
  have HP := hide hp
  have HS := hide hs
  clear hcs hr hlaw hB1 hp hs hW
  obtain ⟨w1, hw1⟩ : ∃ w1, w1 = w.alloc (.cells #[.int .i64 kk, .int .i64 nn, .int .i64 mm, .string s, .string t, .slice lo ln lc, .int .i64 0, .slice wo wn wc] 106) := ⟨_, rfl⟩
  have HBW : Hid (Below w.heap.size w w1) := by show Below _ _ _; rw [hw1]; exact HB1.out _
  have hop1 : w1.heap[w.heap.size]? = some (.cells #[.int .i64 kk, .int .i64 nn, .int .i64 mm, .string s, .string t, .slice lo ln lc, .int .i64 0, .slice wo wn wc] 106 (0, 0)) := by rw [hw1]; exact heap_alloc_new w _
  have p6 := (cell_of_row w1 _ 6 _ _ _ hop1).trans rfl
  have HOP1 := hide hop1
  clear hop1
  go_enter Tryz.func123, Tryz.ntmps123
  go_wp2
  rw [← hw1]
  have HW1 := hide hw1
  clear hw1
  have e1 := at_old HBW.out c1
  go_loop [13, 14] (fun n i => AcRel l n i) (fun _ i => l.length - (intOf i).toNat)
  case atStart => exact ⟨0, Nat.zero_le _, rfl, rfl⟩
  case round =>
    obtain ⟨k, hk, rfl, rfl⟩ := hrel
    have hle := lens_le l k
    by_cases hlt : k < l.length
    · obtain ⟨g, cur, rfl, -, -, hcs⟩ := HC.out (by omega)
      obtain ⟨p, hpk⟩ : ∃ p, l[k]? = some p := ⟨l[k], by simp [hlt]⟩
      obtain ⟨q1, q2, q3⟩ := hcs k p hpk
      have d1 := at_old HBW.out q1
      have d3 := at_old HBW.out q3
      have hlt2 := lens_take l k p hpk
      have hle2 := lens_le l (k + 1)
      have HLT := hide hlt2
      have hne : er = true ∨ (p.1 == 3) = false := by
        rcases her with h | h
        · exact .inl h
        · exact .inr (beq_eq_false_iff_ne.2 (h p (List.mem_of_getElem? hpk)))
      rw [hlt2] at hle2
      clear hcs q1 q2 q3 hpk hlt2
      obtain ⟨p1, p2, p3⟩ := p
      simp only [T] at d3
      obtain ⟨x, hx⟩ : ∃ x : ByteArray, x = ⟨p3.toArray⟩ := ⟨_, rfl⟩
      have hxs : x.size = p3.length := by rw [hx]; rfl
      rw [← hx] at d3
      have HX := hide hx
      have HXS := hide hxs
      simp only at hne hle2
      rw [← hxs] at hle2
      clear hx hxs
      generalize lens (l.take k) = z at *
      rcases hne with rfl | hne
      · cases hq : (p1 == 3)
        all_goals
          go_wp2
          go_round
          case rel => exact ⟨k + 1, by omega, by go_num, by rw [HLT.out]; simp only; rw [← HXS.out]; go_num⟩
          case measure => simp [intOf]; omega
      · go_wp2
        go_round
        case rel => exact ⟨k + 1, by omega, by go_num, by rw [HLT.out]; simp only; rw [← HXS.out]; go_num⟩
        case measure => simp [intOf]; omega
    · have hkl : l.take k = l := List.take_of_length_le (by omega)
      rw [hkl] at hle ⊢
      have t1 : decide (8 < (l.length : Int)) = false := decide_eq_false (by omega)
      have t2 : decide (most < (lens l : Int)) = false := decide_eq_false (by have := HS.out; omega)
      have hd1 : DsAt w1 D d := HL.out.disk.fr (Fr.of (L := 0) (T := []) (X := none) HBW.out (Nat.zero_le _)) (by simp) (by simp)
      have hAR : ARow w1 M (.slice ao l.length cap) l := ownsRow_below HR.out HBW.out
      have HAL := hide (allD_any L D M d d' _ l w1 hd1 HL.out.ld hAR (by omega) HP.out)
      have HAR := hide hAR
      clear hkl hd1 hAR hle
      generalize lens l = z at *
      go_wp2_with fail
      refine HAL.out.mono ?_
      rintro e w2 ⟨rfl, hd2, hf2⟩
      have F2 : Fr L [67] none w w2 := (Fr.of HBW.out hLw).trans hf2
      obtain ⟨vp', vc', vq', va', lc', lq', lx', hW0, hp0, h10, e10, h20, e20, h30, e30⟩ := HL.out.rest
      have W2 := hW0.fr F2 (by decide) (by simp)
      have H32 := h30.fr F2 (by decide) (by decide) (by simp) (.inl rfl)
      have hAR2 : ARow w2 M (.slice ao l.length cap) l := HAR.out.fr hf2 (by decide) (.inl rfl)
      have hk := keepActs_any L M W w2 vx _ vp' vc' vq' va' lx' _ l.length _ W2 HL.out.lw H32 hAR2 (by omega) hLN (Nat.le_trans hM F2.size) (by rw [e30]; omega)
      obtain ⟨-, b1, -, -, -, -⟩ := W2.cell
      have HK := hide hk
      have HF2 := hide F2
      have HREST : Hid (PastAt L w vp' past ∧ HoldRow L N w 99 52 mkC vc' lc' ∧ lc'.length = nc ∧ HoldRow L N w 89 54 mkP vq' lq' ∧ lq'.length = nq) := ⟨hp0, h10, e10, h20, e20⟩
      have HE30 := hide e30
      have HD2 := hide hd2
      have HAR2 := hide hAR2
      clear hk F2 hd2 hf2 hW0 hp0 h10 e10 h20 e20 h30 e30 W2 H32 hAR2 HAL
      go_wp2_with fail
      refine HK.out.mono ?_
      rintro e w3 ⟨va3, lx3, rfl, hW3, hh3, hl3, hf3⟩
      have F3 : Fr L [67, 115, 27, 84] none w w3 := by
        refine (HF2.out.wide (by simp)).trans ((hf3.wide (T' := [67, 115, 27, 84]) (by simp)).typed (fun k hk => ?_) none)
        rcases HAR2.out.2 with ⟨h0, _⟩ | ⟨g, cap', cur, h0, hb, hh, _⟩
        · rw [h0] at hk; simp [Value.ownBlock] at hk
        · rw [h0] at hk
          simp [Value.ownBlock] at hk
          subst hk
          exact ⟨cur, _, _, hh, by simp⟩
      have HFIN : Hid (LawAt L W D w3.heap.size w3.heap.size w3 vx past d' nc nq (na + 3)) := by
        obtain ⟨hp0, h10, e10, h20, e20⟩ := HREST.out
        refine ⟨HL.out.lw, HL.out.ld, HD2.out.fr hf3 (by decide) (own_neB HAR2.out HD2.out (by decide)), vp', vc', vq', va3, lc', lq', lx3, hW3, hp0.fr F3 (by decide) (by decide) (by decide), ?_, e10, ?_, e20, hh3, by rw [hl3, HE30.out]⟩
        · exact (h10.fr F3 (by decide) (by decide) (by simp) (.inl rfl)).mono (Nat.le_trans hN F3.size)
        · exact (h20.fr F3 (by decide) (by decide) (by simp) (.inl rfl)).mono (Nat.le_trans hN F3.size)
      have HF3 := hide F3
      clear F3 hW3 hh3 hl3 hf3 HK HREST HD2
      go_wp2
      go_ret
      exact ⟨rfl, HFIN.out, HF3.out⟩

set_option maxHeartbeats 4000000 in
set_option maxRecDepth 100000 in
theorem acted_crash (L W D N M : Nat) (w : World) (vx : Value) (past : List Jn.Con) (d : DS) (nc nq na : Nat) (v : Value) (l : List ActP) (most : Int) (er : Bool) (o : OpD)
    (hlaw : LawAt L W D N M w vx past d nc nq na) (hLN : L ≤ M) (hN : N ≤ w.heap.size) (hM : M ≤ w.heap.size)
    (hr : ARow w M v l) (hl : l.length ≤ 8) (hs : (lens l : Int) ≤ most) (hs2 : lens l ≤ 1000000) (her : er = true ∨ ∀ p ∈ l, p.1 ≠ 3) (lW : List Int) (Z : Nat) (hpre : ∀ n, ∃ d', playL d (l.take n) = some d' ∧ Safe d' (· ∈ past)) (hZ : d.1.size + d.2.1.size + lens l ≤ Z) (hZ2 : Z ≤ 900000000000000000) (hpl : past.length ≤ 2000000000000) (bc : nc ≤ 3900000000000) (bq : nq ≤ 3900000000000) (hna : na ≤ 3800000000000) (hcut : o.cut ≠ 0) (hcb : B64' o.cut)
    (hPw : PowAt w) (hWw : WordsAt w) (hpL : 1 < L) (hrw : ∀ x, Below L w x → Raws x (.slice o.wo o.wn o.wc) lW) :
    Calls Tryz.prog 123 #[.pointer (some ⟨W, 0, none⟩), v, .int .i64 most, .bool er, .agg o.cells, .bool true] w fun e w' => e = .returned (.bool true) ∧ Rest1 L W D (nc + 9) (nq + 9) (na + 12) w w' := by
  obtain ⟨kk, nn, mm, s, t, lo, ln, lc, cut, wo, wn, wc⟩ := o
  simp only [OpD.cells]
  simp only at hcut hcb hrw
  have hcb2 : (cut != 0) = true := by simpa using hcut
  have HRW := hide hrw
  have HPRE := hide hpre
  have HPW := hide hPw
  have HWW := hide hWw
  have hwL : 0 < L := Nat.lt_of_le_of_lt (by decide) hpL
  clear hrw hpre hPw hWw hcut
  obtain ⟨vp, vc, vq, va, lcs, lqs, lxs, hW, -, -, -, -, -, -, -⟩ := hlaw.rest
  obtain ⟨-, c1, -, -, -, -⟩ := hW.cell
  have hwl := hW.lt
  have hLw := hlaw.low
  obtain ⟨ao, cap, hv, hcs⟩ := hr.shape
  subst hv
  have hB1 : ∀ ob : Obj, Below w.heap.size w (w.alloc ob) := fun ob => (Below.refl _ _).alloc (Nat.le_refl _) ob
  have HC := hide hcs
  have HR := hide hr
  have HL := hide hlaw
  have HB1 := hide hB1
  have HS := hide hs
  clear hcs hr hlaw hB1 hs hW
  obtain ⟨w1, hw1⟩ : ∃ w1, w1 = w.alloc (.cells #[.int .i64 kk, .int .i64 nn, .int .i64 mm, .string s, .string t, .slice lo ln lc, .int .i64 cut, .slice wo wn wc] 106) := ⟨_, rfl⟩
  have HBW : Hid (Below w.heap.size w w1) := by show Below _ _ _; rw [hw1]; exact HB1.out _
  have hop1 : w1.heap[w.heap.size]? = some (.cells #[.int .i64 kk, .int .i64 nn, .int .i64 mm, .string s, .string t, .slice lo ln lc, .int .i64 cut, .slice wo wn wc] 106 (0, 0)) := by rw [hw1]; exact heap_alloc_new w _
  have p6 := (cell_of_row w1 _ 6 _ _ _ hop1).trans rfl
  have HOP1 := hide hop1
  clear hop1
  go_enter Tryz.func123, Tryz.ntmps123
  go_wp2
  rw [← hw1]
  have HW1 := hide hw1
  clear hw1
  have e1 := at_old HBW.out c1
  go_loop [13, 14] (fun n i => AcRel l n i) (fun _ i => l.length - (intOf i).toNat)
  case atStart => exact ⟨0, Nat.zero_le _, rfl, rfl⟩
  case round =>
    obtain ⟨k, hk, rfl, rfl⟩ := hrel
    have hle := lens_le l k
    by_cases hlt : k < l.length
    · obtain ⟨g, cur, rfl, -, -, hcs⟩ := HC.out (by omega)
      obtain ⟨p, hpk⟩ : ∃ p, l[k]? = some p := ⟨l[k], by simp [hlt]⟩
      obtain ⟨q1, q2, q3⟩ := hcs k p hpk
      have d1 := at_old HBW.out q1
      have d3 := at_old HBW.out q3
      have hlt2 := lens_take l k p hpk
      have hle2 := lens_le l (k + 1)
      have HLT := hide hlt2
      have hne : er = true ∨ (p.1 == 3) = false := by
        rcases her with h | h
        · exact .inl h
        · exact .inr (beq_eq_false_iff_ne.2 (h p (List.mem_of_getElem? hpk)))
      rw [hlt2] at hle2
      clear hcs q1 q2 q3 hpk hlt2
      obtain ⟨p1, p2, p3⟩ := p
      simp only [T] at d3
      obtain ⟨x, hx⟩ : ∃ x : ByteArray, x = ⟨p3.toArray⟩ := ⟨_, rfl⟩
      have hxs : x.size = p3.length := by rw [hx]; rfl
      rw [← hx] at d3
      have HX := hide hx
      have HXS := hide hxs
      simp only at hne hle2
      rw [← hxs] at hle2
      clear hx hxs
      generalize lens (l.take k) = z at *
      rcases hne with rfl | hne
      · cases hq : (p1 == 3)
        all_goals
          go_wp2
          go_round
          case rel => exact ⟨k + 1, by omega, by go_num, by rw [HLT.out]; simp only; rw [← HXS.out]; go_num⟩
          case measure => simp [intOf]; omega
      · go_wp2
        go_round
        case rel => exact ⟨k + 1, by omega, by go_num, by rw [HLT.out]; simp only; rw [← HXS.out]; go_num⟩
        case measure => simp [intOf]; omega
    · have hkl : l.take k = l := List.take_of_length_le (by omega)
      rw [hkl] at hle ⊢
      have t1 : decide (8 < (l.length : Int)) = false := decide_eq_false (by omega)
      have t2 : decide (most < (lens l : Int)) = false := decide_eq_false (by have := HS.out; omega)
      have hAR : ARow w1 M (.slice ao l.length cap) l := ownsRow_below HR.out HBW.out
      have HPT := hide (part_any L W D N M w1 vx past d nc nq na _ l cut (HL.out.below HBW.out) hAR hl (fun n => by obtain ⟨d', h1, -⟩ := HPRE.out n; exact ⟨d', h1⟩) hcb)
      have HAR := hide hAR
      have HBL : Hid (Below L w w1) := HBW.out.mono hLw
      have hzz : ∀ n, lens (l.take n) ≤ lens l := fun n => lens_le l n
      have HZZ := hide hzz
      have hlz : lens l + (d.1.size + d.2.1.size) ≤ Z := by omega
      have HLZ := hide hlz
      clear hkl hAR hle hzz hlz
      generalize lens l = z at *
      go_wp2_with fail
      refine HPT.out.mono ?_
      rintro e w2 ⟨rfl, n, d', hpd, hl2, hf2⟩
      obtain ⟨d2, hp2, hsf⟩ := HPRE.out n
      rw [hpd] at hp2
      cases hp2
      have hB2 : Below L w w2 := HBL.out.trans hf2.below
      have hsz := play_size _ d d' hpd
      have hAR2 : ARow w2 M (.slice ao l.length cap) l := own_fr HAR.out hf2 (by decide) (.inl rfl)
      have HKA := hide (law_keepActs L W D N M w2 vx past d' nc nq na _ l hl2 hLN (Nat.le_trans hN (Nat.le_trans HBW.out.size hf2.size)) (Nat.le_trans hM (Nat.le_trans HBW.out.size hf2.size)) hAR2 hl (by omega))
      have HB2 := hide hB2
      have HF2 : Hid (Fr L crT none w w2) := (Fr.of HBW.out hLw).trans (hf2.wide (by simp [crT]))
      have HSF := hide hsf
      have HSZ : Hid (d'.1.size + d'.2.1.size ≤ Z) := by
        have h1 := HZZ.out n
        have h2 := HLZ.out
        show _ ≤ _
        omega
      have hop2 := hf2.block _ _ _ _ HOP1.out (by decide) (by simp)
      have HOP2 := hide hop2
      clear hpd hl2 hf2 hsf hB2 hsz hAR2 hop2 HPT
      go_wp2_with fail
      refine HKA.out.mono ?_
      rintro e w3 ⟨rfl, hl3, hf3⟩
      have hB3 : Below L w w3 := HB2.out.trans hf3.below
      have hlw : LwC Z L W D past d' nc nq (na + 3) w w3 := ⟨⟨vx, hl3⟩, HSF.out, HSZ.out, HF2.out.trans (hf3.wide (by simp [crT])), HPW.out.below hpL hB3, HWW.out.below hwL hB3, hpL⟩
      have HCS := hide (crashes_any Z L W D past d' nc nq (na + 3) w w3 _ lW hlw (HRW.out w (Below.refl _ _)) hLw (fun x hx => HRW.out x hx) hZ2 hpl bc bq (by omega))
      have hop3 := hf3.block _ _ _ _ HOP2.out (by decide) (by simp)
      have p7 := (cell_of_row w3 _ 7 _ _ _ hop3).trans rfl
      clear hl3 hf3 hB3 hlw hop3 HKA
      go_wp2_with fail
      refine HCS.out.mono ?_
      rintro e w4 ⟨rfl, h4⟩
      have HFIN : Hid (Rest1 L W D (nc + 9) (nq + 9) (na + 12) w w4) := h4.mono (by omega) (by omega) (by omega)
      clear h4 HCS
      go_wp2_with fail
      go_ret
      exact ⟨rfl, HFIN.out⟩
end Go.Proofs.YtellilpeakpbfabGreatDoor

end

section
/-
  The walk of change, where crashes may come.
-/
set_option linter.unusedVariables false
namespace Go.Proofs.YtellilpeakpbfabGreatDoor
open Go.RowKit

set_option maxHeartbeats 1000000 in
set_option maxRecDepth 100000 in
theorem change_errC (W : Nat) (w : World) (s1 s2 : Value) (f most : Int) (ao1 ao2 : Option Addr) (n1 n2 c1 c2 : Nat) (h1 : s1 = .slice ao1 n1 c1) (h2 : s2 = .slice ao2 n2 c2) (o : OpD) (hf : f ≠ 0) :
    Calls Tryz.prog 114 #[.pointer (some ⟨W, 0, none⟩), .agg #[s1, s2], .int .i64 f, .slice none 0 0, .int .i64 f, .int .i64 most, .agg o.cells, .bool true] w fun e w' => e = .returned (.bool true) ∧ Below w.heap.size w w' := by
  subst h1 h2
  obtain ⟨kk, nn, mm, s, t, lo, ln, lc, cut, wo, wn, wc⟩ := o
  simp only [OpD.cells]
  have t1 : (f != 0) = true := by simpa using hf
  have HN := hide (num_any f)
  clear hf
  have hb0 : ∀ o1 o2 : Obj, Below w.heap.size w ((w.alloc o1).alloc o2) := fun o1 o2 => ((Below.refl _ _).alloc (Nat.le_refl _) o1).alloc (by simp) o2
  have HB0 := hide hb0
  clear hb0
  go_enter Tryz.func114, Tryz.ntmps114
  go_wp2_with fail
  refine (HN.out _).mono ?_
  rintro e w1 ⟨rfl, rfl⟩
  go_wp2
  go_ret
  exact ⟨rfl, HB0.out _ _⟩

set_option maxHeartbeats 4000000 in
set_option maxRecDepth 100000 in
theorem change_gen (L W D N M : Nat) (w : World) (vx : Value) (past : List Jn.Con) (C : Jn.Con) (d : DS) (nc nq na : Nat) (s1 s2 v : Value) (l : List ActP) (most : Int) (o : OpD)
    (hlaw : LawAt L W D N M w vx past d nc nq na) (hLN : L ≤ M) (hN : N ≤ w.heap.size) (hM : M ≤ w.heap.size)
    (h1 : CRow w 0 s1 C.list) (h2 : PRow w 0 s2 C.procs) (hok : Jn.Ok C)
    (hr : ARow w M v l) (hpb : past.length ≤ 2000000000000) (Q : World → Prop)
    (hact : ∀ x, LawAt L W D N M x vx (past ++ [C]) d nc nq na → N ≤ x.heap.size → M ≤ x.heap.size → ARow x M v l → Fr L [115, 146] none w x → Calls Tryz.prog 123 #[.pointer (some ⟨W, 0, none⟩), v, .int .i64 most, .bool false, .agg o.cells, .bool true] x fun e w' => e = .returned (.bool true) ∧ Q w') :
    Calls Tryz.prog 114 #[.pointer (some ⟨W, 0, none⟩), .agg #[s1, s2], .int .i64 0, v, .int .i64 0, .int .i64 most, .agg o.cells, .bool true] w fun e w' => e = .returned (.bool true) ∧ Q w' := by
  obtain ⟨aov, kv, hvv, -⟩ := hr.shape
  subst hvv
  have HACT := hide hact
  clear hact
  obtain ⟨kk, nn, mm, s, t, lo, ln, lc, cut, wo, wn, wc⟩ := o
  simp only [OpD.cells] at HACT ⊢
  obtain ⟨ao1, k1, rfl⟩ := crow_slice h1
  obtain ⟨ao2, k2, rfl, -⟩ := h2.shape
  obtain ⟨w2, hw2⟩ : ∃ w2, w2 = (w.alloc (.cells #[.slice ao1 C.list.length k1, .slice ao2 C.procs.length k2] 146)).alloc (.cells #[.int .i64 kk, .int .i64 nn, .int .i64 mm, .string s, .string t, .slice lo ln lc, .int .i64 cut, .slice wo wn wc] 106) := ⟨_, rfl⟩
  have hB : Below w.heap.size w w2 := by rw [hw2]; exact ((Below.refl _ _).alloc (Nat.le_refl _) _).alloc (by simp) _
  have hlaw2 := hlaw.below hB
  obtain ⟨vp, vc, vq, va, lcs, lqs, lxs, hW, hpast, hh1, e1, hh2, e2, hh3, e3⟩ := hlaw2.rest
  obtain ⟨ss, hrow, hsl, hss⟩ := hpast
  obtain ⟨vo, vk, hvp, -, -⟩ := own_slice hrow
  obtain ⟨-, -, c2, -, -, -⟩ := hW.cell
  have z2 := hW.fz 2
  have hwl := hW.lt
  have hz2 := hB.size
  have hLw := hlaw.low
  have hbw : w2.heap.size = w.heap.size + 2 := by rw [hw2]; simp
  have b0 : w2.heap[w.heap.size]? = some (.cells #[.slice ao1 C.list.length k1, .slice ao2 C.procs.length k2] 146 (0, 0)) := by rw [hw2]; exact blk1 w _ _
  have b1 : w2.heap[w.heap.size + 1]? = some (.cells #[.int .i64 kk, .int .i64 nn, .int .i64 mm, .string s, .string t, .slice lo ln lc, .int .i64 cut, .slice wo wn wc] 106 (0, 0)) := by rw [hw2]; exact blk2 w _ _
  obtain ⟨i0, hi, hy0, hy1, hy2⟩ := info_parts Tryz.infoRC
  have HN := hide (num_any 0)
  subst hvp
  have q0 : w2.cell? ⟨w.heap.size, 0, none⟩ = some (.slice ao1 C.list.length k1) := (cell_of_row w2 w.heap.size 0 _ _ _ b0).trans rfl
  have q1 : w2.cell? ⟨w.heap.size, 1, none⟩ = some (.slice ao2 C.procs.length k2) := (cell_of_row w2 w.heap.size 1 _ _ _ b0).trans rfl
  have HB := hide hB
  have HL := hide hlaw
  have HROW := hide hrow
  have HW := hide hW
  have HBO := hide b1
  have HR := hide hr
  have H1 := hide h1
  have H2 := hide h2
  have HBW := hide hbw
  have HSS := hide hss
  have HSL := hide hsl
  have HHH : Hid (HoldRow L N w2 99 52 mkC vc lcs ∧ lcs.length = nc ∧ HoldRow L N w2 89 54 mkP vq lqs ∧ lqs.length = nq ∧ HoldRow L M w2 84 27 mkA va lxs ∧ lxs.length = na) := ⟨hh1, e1, hh2, e2, hh3, e3⟩
  have HD2 := hide hlaw2.disk
  clear hB hlaw hlaw2 hrow hW b0 b1 hr h1 h2 hbw hss hsl hh1 e1 hh2 e2 hh3 e3
  go_enter Tryz.func114, Tryz.ntmps114
  go_wp2_with fail
  refine (HN.out _).mono ?_
  rintro e wz ⟨rfl, rfl⟩
  rw [← hw2]
  have HW2 := hide hw2
  clear hw2
  go_wp2
  go_region_law (refine step_append_own rfl (.tmp 30) (.tmp 32) 108 rfl L 146 i0 (.agg #[.slice none 0 0, .slice none 0 0]) 2 48 Tryz.underlying108 hi hy0 hy1 hy2 rfl (by decide) (.slice vo past.length vk) past.length (pairs ss) (by simp [Act.eval]) (World.ownsRow.alloc (w := w2.drew) HROW.out _) ⟨w2.heap.size, 0, none⟩ 1 1 [.slice ao1 C.list.length k1, .slice ao2 C.procs.length k2] (by simp [Act.eval]) rfl (cells_new w2.drew #[.slice ao1 C.list.length k1, .slice ao2 C.procs.length k2] _) (by intro u hu; simp at hu; rcases hu with rfl | rfl <;> rfl) (by unfold maxLen; omega) (by omega) (by simp; omega) ?_; intro v9 w9 hown9 hg9; obtain ⟨W9, W10, own10, F10⟩ := past_push L W w2.drew w9 _ _ _ _ _ _ HW.out HL.out.lw _ _ _ _ v9 HROW.out (Nat.le_trans hLw hz2) hown9 hg9; obtain ⟨ao9, cap9, rfl, -, -⟩ := own_slice hown9; have c9 := W9.cell.2.2.1; have z9 := W9.fz 2; have HW10 := hide W10; have HO10 := hide own10; have HF10 := hide F10; clear W9 W10 own10 F10 hown9 hg9)
  all_goals
    have hz10 : w2.heap.size ≤ w9.heap.size := by have := HF10.out.size; simpa using this
    have F10w : Fr L [115, 146] none w (w9.setCell ⟨W, 2, none⟩ (.slice ao9 (past.length + 1) cap9)) := (Fr.of HB.out hLw).trans HF10.out.undrew
    have F10z : Fr L [115, 146] none w2 (w9.setCell ⟨W, 2, none⟩ (.slice ao9 (past.length + 1) cap9)) := HF10.out.undrew
    have bo := F10z.block _ _ _ _ HBO.out (by decide) (by simp)
    have x0 := (cell_of_row (w9.setCell ⟨W, 2, none⟩ (.slice ao9 (past.length + 1) cap9)) (w.heap.size + 1) 0 _ _ _ bo).trans rfl
    have x1 := (cell_of_row (w9.setCell ⟨W, 2, none⟩ (.slice ao9 (past.length + 1) cap9)) (w.heap.size + 1) 1 _ _ _ bo).trans rfl
    have x2 := (cell_of_row (w9.setCell ⟨W, 2, none⟩ (.slice ao9 (past.length + 1) cap9)) (w.heap.size + 1) 2 _ _ _ bo).trans rfl
    have x3 := (cell_of_row (w9.setCell ⟨W, 2, none⟩ (.slice ao9 (past.length + 1) cap9)) (w.heap.size + 1) 3 _ _ _ bo).trans rfl
    have x4 := (cell_of_row (w9.setCell ⟨W, 2, none⟩ (.slice ao9 (past.length + 1) cap9)) (w.heap.size + 1) 4 _ _ _ bo).trans rfl
    have x5 := (cell_of_row (w9.setCell ⟨W, 2, none⟩ (.slice ao9 (past.length + 1) cap9)) (w.heap.size + 1) 5 _ _ _ bo).trans rfl
    have x6 := (cell_of_row (w9.setCell ⟨W, 2, none⟩ (.slice ao9 (past.length + 1) cap9)) (w.heap.size + 1) 6 _ _ _ bo).trans rfl
    have x7 := (cell_of_row (w9.setCell ⟨W, 2, none⟩ (.slice ao9 (past.length + 1) cap9)) (w.heap.size + 1) 7 _ _ _ bo).trans rfl
    have hl10 : LawAt L W D N M (w9.setCell ⟨W, 2, none⟩ (.slice ao9 (past.length + 1) cap9)) vx (past ++ [C]) d nc nq na := by
      obtain ⟨hh1, e1, hh2, e2, hh3, e3⟩ := HHH.out
      refine ⟨HL.out.lw, HL.out.ld, HD2.out.fr F10z (by decide) (by simp), _, vc, vq, va, lcs, lqs, lxs, HW10.out, ⟨ss ++ [(.slice ao1 C.list.length k1, .slice ao2 C.procs.length k2)], ?_, ?_, ?_⟩, ?_, e1, ?_, e2, ?_, e3⟩
      · rw [pairs_snoc, List.length_append]; exact HO10.out
      · rw [List.length_append, List.length_append, HSL.out]; rfl
      · intro i s' C' hs' hC'
        by_cases hil : i < past.length
        · rw [List.getElem?_append_left (by rw [HSL.out]; exact hil)] at hs'
          rw [List.getElem?_append_left hil] at hC'
          obtain ⟨g1, g2, g3⟩ := HSS.out i s' C' hs' hC'
          exact ⟨own_fr g1 F10z (by decide) (.inl rfl), own_fr g2 F10z (by decide) (.inl rfl), g3⟩
        · rw [List.getElem?_append_right (by rw [HSL.out]; omega)] at hs'
          rw [List.getElem?_append_right (by omega)] at hC'
          rw [HSL.out] at hs'
          have h0 : i - past.length = 0 := by
            have := (List.getElem?_eq_some_iff.1 hC').1
            simp at this; omega
          rw [h0] at hs' hC'
          simp at hs' hC'
          subst hs' hC'
          exact ⟨own_fr H1.out F10w (by decide) (.inl rfl), own_fr H2.out F10w (by decide) (.inl rfl), hok⟩
      · exact hh1.fr F10z (by decide) (by decide) (by simp) (.inl rfl)
      · exact hh2.fr F10z (by decide) (by decide) (by simp) (.inl rfl)
      · exact hh3.fr F10z (by decide) (by decide) (by simp) (.inl rfl)
    have HAC := hide (HACT.out _ hl10 (by rw [World.size_setCell]; exact Nat.le_trans hN (Nat.le_trans hz2 hz10)) (by rw [World.size_setCell]; exact Nat.le_trans hM (Nat.le_trans hz2 hz10)) (own_fr HR.out F10w (by decide) (.inl rfl)) F10w)
    have HFW := hide F10w
    clear F10w F10z bo hl10
    go_wp2_with fail
    refine HAC.out.mono ?_
    rintro e w3 ⟨rfl, hq3⟩
    have HQ3 := hide hq3
    clear hq3 HAC
    go_wp2
    go_ret
    exact ⟨rfl, HQ3.out⟩
end Go.Proofs.YtellilpeakpbfabGreatDoor

end

section
/-
  What holds between two steps where crashes may come; a change and its acts.
-/
set_option linter.unusedVariables false
namespace Go.Proofs.YtellilpeakpbfabGreatDoor
open Go.RowKit

/-- All that holds between two steps. -/
def SInvC (L W D : Nat) (w : World) (C : Jn.Con) (m : Nat) : Prop :=
  ∃ S B f past d nc nq na, LawAt L W D w.heap.size w.heap.size w (.pointer (some ⟨S, 0, none⟩)) past d nc nq na ∧ StAt L w S B C f ∧ past[past.length - 1]? = some C ∧
    past.length ≤ m ∧ nc ≤ 3 * m ∧ nq ≤ 3 * m ∧ na ≤ 3 * m ∧ DiskOk d f C ∧ d.1.size + d.2.1.size ≤ 30000 + 4000 * m ∧ (∀ p ∈ C.procs, Jn.Plain p.2) ∧ Safe d (· ∈ past)
/-- what a step answers. -/
def StepPostC (L W D : Nat) (m : Nat) (w : World) (e : Ending) (w' : World) : Prop := e = .returned (.bool true) ∧ (∃ C', SInvC L W D w' C' (m + 4)) ∧ Below L w w'
theorem SInvC.below {L W D m : Nat} {w w' : World} {C : Jn.Con} (h : SInvC L W D w C m) (hb : Below w.heap.size w w') : SInvC L W D w' C m := by
  obtain ⟨S, B, f, past, d, nc, nq, na, hlaw, hst, rest⟩ := h
  exact ⟨S, B, f, past, d, nc, nq, na, (hlaw.below hb).mono hb.size hb.size, hst.below hb, rest⟩
theorem SInvC.low {L W D m : Nat} {w : World} {C : Jn.Con} (h : SInvC L W D w C m) : L ≤ w.heap.size := by
  obtain ⟨S, B, f, past, d, nc, nq, na, hlaw, hst, rest⟩ := h
  exact hlaw.low
theorem SInvC.up {L W D m k : Nat} {w : World} {C : Jn.Con} (h : SInvC L W D w C m) (hk : m ≤ k) : SInvC L W D w C k := by
  obtain ⟨S, B, f, past, d, nc, nq, na, h1, h2, h3, h4, h5, h6, h7, h8, h9, h10⟩ := h
  exact ⟨S, B, f, past, d, nc, nq, na, h1, h2, h3, by omega, by omega, by omega, by omega, h8, by omega, h10⟩
theorem StepPostC.back {L W D m : Nat} {w w1 w9 : World} {e : Ending} (hL : L ≤ w.heap.size) (hb : Below w.heap.size w w1) (h : StepPostC L W D m w1 e w9) : StepPostC L W D m w e w9 := ⟨h.1, h.2.1, (hb.mono hL).trans h.2.2⟩
theorem Rest1.inv {L W D nc nq na m : Nat} {w0 w' : World} (h : Rest1 L W D nc nq na w0 w') (h0 : 1 ≤ m) (h1 : nc ≤ 3 * m) (h2 : nq ≤ 3 * m) (h3 : na ≤ 3 * m) : (∃ C', SInvC L W D w' C' m) ∧ Fr L crT none w0 w' := by
  obtain ⟨C, S, B, f, d', a, b, c, g1, g2, g3, hl, hst, hdk, hsf, hz, hb, -, -⟩ := h
  exact ⟨⟨C, S, B, f, [C], d', a, b, c, hl, hst, rfl, h0, by omega, by omega, by omega, hdk, by omega, ok_plain hst.con.ok, hsf.mono (fun X e => by simp [e])⟩, hb⟩

/-- a change: its acts, all or some. -/
theorem chg_step {L W D N S B m : Nat} {wp : World} {past : List Jn.Con} {C' : Jn.Con} {d d' : DS} {f : Int} {nc nq na : Nat} {s1 s2 v : Value} {l : List ActP} {most : Int} {o : OpD} {lW : List Int}
    (hlaw : LawAt L W D N N wp (.pointer (some ⟨S, 0, none⟩)) past d nc nq na) (hLN : L ≤ N) (hN : N ≤ wp.heap.size) (h1 : CRow wp 0 s1 C'.list) (h2 : PRow wp 0 s2 C'.procs) (hst : StAt L wp S B C' f) (hr : ARow wp N v l)
    (hl8 : l.length ≤ 8) (hmost : (lens l : Int) ≤ most) (hel : lens l ≤ 3500) (her : ∀ p ∈ l, p.1 ≠ 3) (hpm : past.length ≤ m) (hnc : nc ≤ 3 * m) (hnq : nq ≤ 3 * m) (hna : na ≤ 3 * m) (hds : d.1.size + d.2.1.size ≤ 30000 + 4000 * m)
    (hpd : playL d l = some d') (hdk' : DiskOk d' f C') (hpre : ∀ n, ∃ d2, playL d (l.take n) = some d2 ∧ Safe d2 (· ∈ past ++ [C'])) (hm : m ≤ 1200000000000) (hP : PowAt wp) (hWd : WordsAt wp) (hpL : 1 < L) (hcb : B64' o.cut) (hrw : ∀ x, Below L wp x → Raws x (.slice o.wo o.wn o.wc) lW) :
    Calls Tryz.prog 114 #[.pointer (some ⟨W, 0, none⟩), .agg #[s1, s2], .int .i64 0, v, .int .i64 0, .int .i64 most, .agg o.cells, .bool true] wp fun e w9 => e = .returned (.bool true) ∧ (∃ C2, SInvC L W D w9 C2 (m + 4)) ∧ Fr L crT none wp w9 := by
  have hok := hst.con.ok
  have hsz := play_size l d d' hpd
  have hsf' : Safe d' (· ∈ past ++ [C']) := by
    obtain ⟨d2, g1, g2⟩ := hpre l.length
    rw [List.take_length, hpd] at g1
    cases g1
    exact g2
  refine change_gen L W D N N wp _ past C' d nc nq na s1 s2 v _ most o hlaw hLN hN hN h1 h2 hok hr (by omega) (fun w9 => (∃ C2, SInvC L W D w9 C2 (m + 4)) ∧ Fr L crT none wp w9) ?_
  intro x hlx hNx _ hrx hfx
  by_cases hcut : o.cut = 0
  · refine (acted_zero L W D N N x _ (past ++ [C']) d d' nc nq na v _ most false o hlx hLN hNx hNx hrx hl8 hmost (by omega) (.inr her) hpd (by omega) hcut).mono ?_
    rintro e w9 ⟨rfl, hl9, hf9⟩
    have hst9 : StAt L w9 S B C' f := (hst.fr hfx (by decide) (by decide) (by decide) (by simp)).fr hf9 (by decide) (by decide) (by decide) (by simp)
    exact ⟨rfl, ⟨C', S, B, f, past ++ [C'], d', nc, nq, na + 3, hl9, hst9, by simp, by simp; omega, by omega, by omega, by omega, hdk', by omega, ok_plain hok, hsf'⟩, (hfx.wide (by simp [crT])).trans (hf9.wide (by simp [crT]))⟩
  · have hwl : 0 < L := Nat.lt_of_le_of_lt (by decide) hpL
    refine (acted_crash L W D N N x _ (past ++ [C']) d nc nq na v _ most false o hlx hLN hNx hNx hrx hl8 hmost (by omega) (.inr her) lW (40000 + 4000 * m) hpre (by omega) (by omega) (by simp; omega) (by omega) (by omega) (by omega) hcut hcb (hP.below hpL hfx.below) (hWd.below hwl hfx.below) hpL (fun y hy => hrw y (hfx.below.trans hy))).mono ?_
    rintro e w9 ⟨rfl, h9⟩
    obtain ⟨hi, hb⟩ := h9.inv (m := m + 4) (by omega) (by omega) (by omega) (by omega)
    exact ⟨rfl, hi, (hfx.wide (by simp [crT])).trans hb⟩
/-- the files behind one record, in part or whole. -/
theorem pre_one {d : DS} {f : Int} {C C' : Jn.Con} {es : List UInt8} {past : List Jn.Con} {m : Nat} (hdk : DiskOk d f C) (hlast : past[past.length - 1]? = some C) (hsf : Safe d (· ∈ past)) (hre : Jn.redo C es = some C') (hno : 46 ∉ es) (hel : es.length ≤ 3000) (hds : d.1.size + d.2.1.size ≤ 30000 + 4000 * m) (hm : m ≤ 1200000000000) :
    ∃ d', playL d [(1, f, Jn.record es)] = some d' ∧ DiskOk d' f C' ∧ ∀ n, ∃ d2, playL d ([((1 : Int), f, Jn.record es)].take n) = some d2 ∧ Safe d2 (· ∈ past ++ [C']) := by
  have hCm : C ∈ past := List.mem_of_getElem? hlast
  obtain ⟨d', hpd, hdk', z1, z2⟩ := hdk.change hno hre (by omega)
  have hsf' : Safe d' (· ∈ past ++ [C']) := (hsf.change hdk hCm hno hre hpd).mono (fun X hX => by simp; exact hX)
  refine ⟨d', hpd, hdk', fun n => ?_⟩
  cases n with
  | zero => exact ⟨d, rfl, hsf.mono (fun X hX => by simp; exact .inl hX)⟩
  | succ n => exact ⟨d', by simpa using hpd, hsf'⟩
/-- the step's end: refused, nothing has turned. -/
theorem step_errC {L W D m : Nat} {w w1 wc wp w9 : World} {S B : Nat} {f : Int} {past : List Jn.Con} {d : DS} {nc nq na : Nat} {C : Jn.Con} (hsf : Safe d (· ∈ past))
    (hlaw : LawAt L W D w.heap.size w.heap.size w (.pointer (some ⟨S, 0, none⟩)) past d nc nq na) (hlast : past[past.length - 1]? = some C) (hpm : past.length ≤ m) (hnc : nc ≤ 3 * m) (hnq : nq ≤ 3 * m) (hna : na ≤ 3 * m)
    (hdk : DiskOk d f C) (hds : d.1.size + d.2.1.size ≤ 30000 + 4000 * m) (hpl : ∀ p ∈ C.procs, Jn.Plain p.2)
    (b1 : Below w.heap.size w w1) (b2 : Below w1.heap.size w1 wc) (fr : Fr L [123] none wc wp) (hst : StAt L wp S B C f) (b3 : Below wp.heap.size wp w9) : StepPostC L W D m w (.returned (.bool true)) w9 := by
  have hz1 := b1.size
  have hz2 := b2.size
  have hz3 := fr.size
  have hz4 := b3.size
  refine ⟨rfl, ⟨C, S, B, f, past, d, nc, nq, na, ?_, hst.below b3, hlast, by omega, by omega, by omega, by omega, hdk, by omega, hpl, hsf⟩, ?_⟩
  · exact ((((hlaw.below b1).below b2).fr fr (by simp)).below b3).mono (by omega) (by omega)
  · exact (((b1.mono hlaw.low).trans (b2.mono (Nat.le_trans hlaw.low hz1))).trans fr.below).trans (b3.mono (by have := hlaw.low; omega))
/-- from the step's begin to the change. -/
theorem below3 {L : Nat} {w w1 wc wp : World} (hL : L ≤ w.heap.size) (b1 : Below w.heap.size w w1) (b2 : Below w1.heap.size w1 wc) (fr : Fr L [123] none wc wp) : Below L w wp :=
  ((b1.mono hL).trans (b2.mono (Nat.le_trans hL b1.size))).trans fr.below
end Go.Proofs.YtellilpeakpbfabGreatDoor

end
