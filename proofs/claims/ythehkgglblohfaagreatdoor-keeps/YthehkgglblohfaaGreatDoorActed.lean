/-
  The walk of acted, without a crash.
-/
import Derived.Test.YthehkgglblohfaaGreatDoorLawP
namespace Go.Proofs.YthehkgglblohfaaGreatDoor
open Go.RowKit

/-- A step. -/
structure OpD where
  kind : Int
  n : Int
  m : Int
  s : ByteArray
  t : ByteArray
  lo : Option Addr
  ln : Nat
  lc : Nat
  cut : Int
  wo : Option Addr
  wn : Nat
  wc : Nat
def OpD.cells (o : OpD) : Array Value := #[.int .i64 o.kind, .int .i64 o.n, .int .i64 o.m, .string o.s, .string o.t, .slice o.lo o.ln o.lc, .int .i64 o.cut, .slice o.wo o.wn o.wc]

def lens (l : List ActP) : Nat := (l.map fun a => a.2.2.length).sum
theorem lens_take (l : List ActP) (k : Nat) (p : ActP) (h : l[k]? = some p) : lens (l.take (k + 1)) = lens (l.take k) + p.2.2.length := by
  have hk := (List.getElem?_eq_some_iff.1 h).1
  have e := (List.getElem?_eq_some_iff.1 h).2
  unfold lens
  rw [List.take_succ_eq_append_getElem hk, e]
  simp
theorem lens_app (a b : List ActP) : lens (a ++ b) = lens a + lens b := by simp [lens]
theorem lens_le (l : List ActP) (k : Nat) : lens (l.take k) ≤ lens l := by
  have := lens_app (l.take k) (l.drop k)
  rw [List.take_append_drop] at this
  omega

def AcRel (l : List ActP) (n i : Value) : Prop := ∃ k : Nat, k ≤ l.length ∧ i = .int .i64 k ∧ n = .int .i64 (lens (l.take k))

set_option maxHeartbeats 4000000 in
set_option maxRecDepth 100000 in
theorem acted_any (L W D N M : Nat) (w : World) (vx : Value) (past : List Jn.Con) (d d' : DS) (nc nq na : Nat) (v : Value) (l : List ActP) (most : Int) (er : Bool) (o : OpD)
    (hlaw : LawAt L W D N M w vx past d nc nq na) (hLN : L ≤ M) (hN : N ≤ w.heap.size) (hM : M ≤ w.heap.size)
    (hr : ARow w M v l) (hl : l.length ≤ 8) (hs : (lens l : Int) ≤ most) (hs2 : lens l ≤ 1000000) (her : er = true ∨ ∀ p ∈ l, p.1 ≠ 3) (hp : playL d l = some d') (hna : na ≤ 4000000000000) :
    Calls Tryz.prog 56 #[.pointer (some ⟨W, 0, none⟩), v, .int .i64 most, .bool er, .agg o.cells, .bool false] w fun e w' => e = .returned (.bool true) ∧
      LawAt L W D w'.heap.size w'.heap.size w' vx past d' nc nq (na + 3) ∧ Fr L [46, 41, 51, 64] none w w' := by
  obtain ⟨kk, nn, mm, s, t, lo, ln, lc, cut, wo, wn, wc⟩ := o
  simp only [OpD.cells]
  obtain ⟨vp, vc, vq, va, lcs, lqs, lxs, hW, -, -, -, -, -, -, -⟩ := hlaw.rest
  obtain ⟨-, c1, -, -, -, -⟩ := hW.cell
  have hwl := hW.lt
  have hLw := hlaw.low
  obtain ⟨ao, cap, hv, hcs⟩ := hr.shape
  subst hv
  have hB1 : ∀ ob : Obj, Below w.heap.size w (w.alloc ob) := fun ob => (Below.refl _ _).alloc (Nat.le_refl _) ob
  have HC := hide hcs
  have HR := hide hr
  have HL := hide hlaw
  have HB1 := hide hB1
  have HP := hide hp
  have HS := hide hs
  clear hcs hr hlaw hB1 hp hs hW
  obtain ⟨w1, hw1⟩ : ∃ w1, w1 = w.alloc (.cells #[.int .i64 kk, .int .i64 nn, .int .i64 mm, .string s, .string t, .slice lo ln lc, .int .i64 cut, .slice wo wn wc] 30) := ⟨_, rfl⟩
  have HBW : Hid (Below w.heap.size w w1) := by show Below _ _ _; rw [hw1]; exact HB1.out _
  go_enter Tryz.func56, Tryz.ntmps56
  go_wp2
  rw [← hw1]
  have HW1 := hide hw1
  clear hw1
  have e1 := at_old HBW.out c1
  go_loop [13, 14] (fun n i => AcRel l n i) (fun _ i => l.length - (intOf i).toNat)
  case atStart => exact ⟨0, Nat.zero_le _, rfl, rfl⟩
  case round =>
    obtain ⟨k, hk, rfl, rfl⟩ := hrel
    have hle := lens_le l k
    by_cases hlt : k < l.length
    · obtain ⟨g, cur, rfl, -, -, hcs⟩ := HC.out (by omega)
      obtain ⟨p, hpk⟩ : ∃ p, l[k]? = some p := ⟨l[k], by simp [hlt]⟩
      obtain ⟨q1, q2, q3⟩ := hcs k p hpk
      have d1 := at_old HBW.out q1
      have d3 := at_old HBW.out q3
      have hlt2 := lens_take l k p hpk
      have hle2 := lens_le l (k + 1)
      have HLT := hide hlt2
      have hne : er = true ∨ (p.1 == 3) = false := by
        rcases her with h | h
        · exact .inl h
        · exact .inr (beq_eq_false_iff_ne.2 (h p (List.mem_of_getElem? hpk)))
      rw [hlt2] at hle2
      clear hcs q1 q2 q3 hpk hlt2
      obtain ⟨p1, p2, p3⟩ := p
      simp only [T] at d3
      obtain ⟨x, hx⟩ : ∃ x : ByteArray, x = ⟨p3.toArray⟩ := ⟨_, rfl⟩
      have hxs : x.size = p3.length := by rw [hx]; rfl
      rw [← hx] at d3
      have HX := hide hx
      have HXS := hide hxs
      simp only at hne hle2
      rw [← hxs] at hle2
      clear hx hxs
      generalize lens (l.take k) = z at *
      rcases hne with rfl | hne
      · cases hq : (p1 == 3)
        all_goals
          go_wp2
          go_round
          case rel => exact ⟨k + 1, by omega, by go_num, by rw [HLT.out]; simp only; rw [← HXS.out]; go_num⟩
          case measure => simp [intOf]; omega
      · go_wp2
        go_round
        case rel => exact ⟨k + 1, by omega, by go_num, by rw [HLT.out]; simp only; rw [← HXS.out]; go_num⟩
        case measure => simp [intOf]; omega
    · have hkl : l.take k = l := List.take_of_length_le (by omega)
      rw [hkl] at hle ⊢
      have t1 : decide (8 < (l.length : Int)) = false := decide_eq_false (by omega)
      have t2 : decide (most < (lens l : Int)) = false := decide_eq_false (by have := HS.out; omega)
      have hd1 : DsAt w1 D d := HL.out.disk.fr (Fr.of (L := 0) (T := []) (X := none) HBW.out (Nat.zero_le _)) (by simp) (by simp)
      have hAR : ARow w1 M (.slice ao l.length cap) l := ownsRow_below HR.out HBW.out
      have HAL := hide (allD_any L D M d d' _ l w1 hd1 HL.out.ld hAR (by omega) HP.out)
      have HAR := hide hAR
      clear hkl hd1 hAR hle
      generalize lens l = z at *
      go_wp2_with fail
      refine HAL.out.mono ?_
      rintro e w2 ⟨rfl, hd2, hf2⟩
      have F2 : Fr L [46] none w w2 := (Fr.of HBW.out hLw).trans hf2
      obtain ⟨vp', vc', vq', va', lc', lq', lx', hW0, hp0, h10, e10, h20, e20, h30, e30⟩ := HL.out.rest
      have W2 := hW0.fr F2 (by decide) (by simp)
      have H32 := h30.fr F2 (by decide) (by decide) (by simp) (.inl rfl)
      have hAR2 : ARow w2 M (.slice ao l.length cap) l := HAR.out.fr hf2 (by decide) (.inl rfl)
      have hk := keepActs_any L M W w2 vx _ vp' vc' vq' va' lx' _ l.length _ W2 HL.out.lw H32 hAR2 (by omega) hLN (Nat.le_trans hM F2.size) (by rw [e30]; omega)
      obtain ⟨-, b1, -, -, -, -⟩ := W2.cell
      have HK := hide hk
      have HF2 := hide F2
      have HREST : Hid (PastAt L w vp' past ∧ HoldRow L N w 59 47 mkC vc' lc' ∧ lc'.length = nc ∧ HoldRow L N w 62 48 mkP vq' lq' ∧ lq'.length = nq) := ⟨hp0, h10, e10, h20, e20⟩
      have HE30 := hide e30
      have HD2 := hide hd2
      have HAR2 := hide hAR2
      clear hk F2 hd2 hf2 hW0 hp0 h10 e10 h20 e20 h30 e30 W2 H32 hAR2 HAL
      go_wp2_with fail
      refine HK.out.mono ?_
      rintro e w3 ⟨va3, lx3, rfl, hW3, hh3, hl3, hf3⟩
      have F3 : Fr L [46, 41, 51, 64] none w w3 := by
        refine (HF2.out.wide (by simp)).trans ((hf3.wide (T' := [46, 41, 51, 64]) (by simp)).typed (fun k hk => ?_) none)
        rcases HAR2.out.2 with ⟨h0, _⟩ | ⟨g, cap', cur, h0, hb, hh, _⟩
        · rw [h0] at hk; simp [Value.ownBlock] at hk
        · rw [h0] at hk
          simp [Value.ownBlock] at hk
          subst hk
          exact ⟨cur, _, _, hh, by simp⟩
      have HFIN : Hid (LawAt L W D w3.heap.size w3.heap.size w3 vx past d' nc nq (na + 3)) := by
        obtain ⟨hp0, h10, e10, h20, e20⟩ := HREST.out
        refine ⟨HL.out.lw, HL.out.ld, HD2.out.fr hf3 (by decide) (own_neB HAR2.out HD2.out (by decide)), vp', vc', vq', va3, lc', lq', lx3, hW3, hp0.fr F3 (by decide) (by decide) (by decide), ?_, e10, ?_, e20, hh3, by rw [hl3, HE30.out]⟩
        · exact (h10.fr F3 (by decide) (by decide) (by simp) (.inl rfl)).mono (Nat.le_trans hN F3.size)
        · exact (h20.fr F3 (by decide) (by decide) (by simp) (.inl rfl)).mono (Nat.le_trans hN F3.size)
      have HF3 := hide F3
      clear F3 hW3 hh3 hl3 hf3 HK HREST HD2
      go_wp2
      go_ret
      exact ⟨rfl, HFIN.out, HF3.out⟩
end Go.Proofs.YthehkgglblohfaaGreatDoor
