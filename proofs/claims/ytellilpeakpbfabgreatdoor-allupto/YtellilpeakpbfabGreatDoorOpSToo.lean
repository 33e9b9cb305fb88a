import Derived.Test.YtellilpeakpbfabGreatDoorOpenToo
import Derived.Test.YtellilpeakpbfabGreatDoorCrWToo
import Derived.Test.YtellilpeakpbfabGreatDoorCardRToo
import Derived.Test.YtellilpeakpbfabGreatDoorSmallToo
section
/-
  The first acts of a list.
-/
namespace Go.Proofs.YtellilpeakpbfabGreatDoor
open Go.RowKit

theorem acts_take (l : List ActP) : ∀ j, (acts3 l).take (j * 3) = acts3 (l.take j) := by
  induction l with
  | nil => intro j; simp [acts3]
  | cons a r ih =>
    intro j
    cases j with
    | zero => simp [acts3]
    | succ j =>
      have e : acts3 (a :: r) = [.int .i64 a.1, .int .i64 a.2.1, T a.2.2] ++ acts3 r := by simp [acts3]
      have e2 : acts3 ((a :: r).take (j + 1)) = [.int .i64 a.1, .int .i64 a.2.1, T a.2.2] ++ acts3 (r.take j) := by simp [acts3]
      rw [e, e2, ← ih j, List.take_append, List.take_of_length_le (by simp; omega)]
      congr 2
      simp
      omega
/-- the first acts of a list. -/
theorem arow_take {w : World} {b n k : Nat} {o : Option Addr} {l : List ActP} (h : ARow w b (.slice o n k) l) (j : Nat) (hj : j ≤ n) : ARow w b (.slice o j k) (l.take j) := by
  obtain ⟨h1, h2⟩ := h
  have hlen : (l.take j).length = min j l.length := List.length_take
  have hl3 : ∀ m : List ActP, (acts3 m).length = m.length * 3 := fun m => by
    induction m with
    | nil => rfl
    | cons a r ih => simp only [acts3, List.flatMap_cons, List.length_append, List.length_cons, List.length_nil] at ih ⊢; omega
  rcases h2 with ⟨e, h0⟩ | ⟨g, cap, cur, e, hb, hh, hn, hm, hs, ht⟩
  · cases e
    have : l = [] := List.eq_nil_of_length_eq_zero h0
    subst this
    obtain rfl : j = 0 := by omega
    exact ⟨rfl, .inl ⟨rfl, rfl⟩⟩
  · cases e
    have hmin : min j l.length = j := by omega
    refine ⟨hl3 _, .inr ⟨g, k, cur, by rw [hlen, hmin], hb, hh, by rw [hlen, hmin]; omega, hm, hs, ?_⟩⟩
    rw [hlen, hmin, ← acts_take, ← ht, List.take_take]
    congr 1
    omega

end Go.Proofs.YtellilpeakpbfabGreatDoor

end

section
/-
  The walks of raw, pick, part; a crash of the World's files.
-/
set_option linter.unusedVariables false
namespace Go.Proofs.YtellilpeakpbfabGreatDoor
open Go.RowKit

set_option maxHeartbeats 1000000 in
set_option maxRecDepth 100000 in
theorem lpick_any (c : Int) (n : Nat) (h0 : 0 < n) (h1 : n ≤ 100000) (c0 : -9223372036854775808 ≤ c) (c1 : c ≤ 9223372036854775807) (w : World) :
    Calls Tryz.prog 103 #[.int .i64 c, .int .i64 n] w fun e w' => e = .returned (.int .i64 (Cr.pick c n)) ∧ w' = w := by
  obtain ⟨r, hr⟩ : ∃ r, r = Cr.pick c n := ⟨_, rfl⟩
  rw [← hr]
  by_cases hc : c < 0
  · obtain ⟨k, hk⟩ : ∃ k : Nat, (k : Int) = -(c + 1) := ⟨(-(c + 1)).toNat, by omega⟩
    obtain rfl : c = -(k : Int) - 1 := by omega
    have t1 : decide (-(k : Int) - 1 < 0) = true := decide_eq_true hc
    have hr2 : r = (k : Int) % n := by rw [hr]; unfold Cr.pick Cr.raw; rw [if_pos hc]; congr 1; omega
    clear hr hk hc
    go_enter Tryz.func103, Tryz.ntmps103
    go_wp2
    go_ret
    exact ⟨by rw [hr2]; rfl, rfl⟩
  · obtain ⟨k, rfl⟩ : ∃ k : Nat, c = (k : Int) := ⟨c.toNat, by omega⟩
    have t1 : decide ((k : Int) < 0) = false := decide_eq_false hc
    have hr2 : r = (k : Int) % n := by rw [hr]; unfold Cr.pick Cr.raw; rw [if_neg hc]
    clear hr hc
    go_enter Tryz.func103, Tryz.ntmps103
    go_wp2
    go_ret
    exact ⟨by rw [hr2]; rfl, rfl⟩


def B64' (a : Int) : Prop := -9223372036854775808 ≤ a ∧ a ≤ 9223372036854775807
/-- a list of raw numbers. -/
def Raws (w : World) (v : Value) (l : List Int) : Prop := IntsAt w v l ∧ l.length ≤ 18000000000000 ∧ ∀ a ∈ l, B64' a
def rawL (l : List Int) (i : Nat) : Int := l.getD i 0
theorem raw_b {w : World} {v : Value} {l : List Int} (h : Raws w v l) (i : Nat) : B64' (rawL l i) := by
  unfold rawL
  rw [List.getD_eq_getElem?_getD]
  cases e : l[i]? with
  | none => exact ⟨by decide, by decide⟩
  | some a => exact h.2.2 a (List.mem_of_getElem? e)
theorem Raws.below {w w' : World} {v : Value} {l : List Int} (h : Raws w v l) (hb : Below w.heap.size w w') : Raws w' v l := ⟨h.1.below hb, h.2⟩

set_option maxHeartbeats 1000000 in
set_option maxRecDepth 100000 in
theorem raw_any (w : World) (v : Value) (l : List Int) (i : Nat) (h : Raws w v l) (hi : i ≤ 1000) :
    Calls Tryz.prog 104 #[v, .int .i64 (i : Int)] w fun e w' => e = .returned (.int .i64 (rawL l i)) ∧ w' = w := by
  obtain ⟨⟨ao, cap, rfl, hc⟩, hl, -⟩ := h
  by_cases hil : i < l.length
  · obtain ⟨g, z, rfl, hcs⟩ := hc (by omega)
    have e : l[i]? = some l[i] := List.getElem?_eq_getElem hil
    have c0 := hcs i _ e
    have hr : rawL l i = l[i] := by unfold rawL; rw [List.getD_eq_getElem?_getD, e]; rfl
    rw [hr]
    have t1 : decide ((i : Int) < (l.length : Int)) = true := by simp; omega
    generalize l[i] = x at *
    clear hcs hc e hr
    go_enter Tryz.func104, Tryz.ntmps104
    go_wp2
    go_ret
    exact ⟨rfl, rfl⟩
  · have hr : rawL l i = 0 := by unfold rawL; rw [List.getD_eq_getElem?_getD, List.getElem?_eq_none (by omega)]; rfl
    rw [hr]
    have t1 : decide ((i : Int) < (l.length : Int)) = false := by simp; omega
    clear hc hr
    go_enter Tryz.func104, Tryz.ntmps104
    go_wp2
    go_ret
    exact ⟨rfl, rfl⟩

/-- other files. -/
theorem LawAt.files {L W D N M : Nat} {w w' : World} {vx : Value} {past : List Jn.Con} {d d' : DS} {nc nq na : Nat} (h : LawAt L W D N M w vx past d nc nq na) (hd : DsAt w' D d') (f : Fr L [67] none w w') : LawAt L W D N M w' vx past d' nc nq na := by
  obtain ⟨vp, vc, vq, va, lc, lq, lx, hW, hp, h1, e1, h2, e2, h3, e3⟩ := h.rest
  exact ⟨h.lw, h.ld, hd, vp, vc, vq, va, lc, lq, lx, hW.fr f (by decide) (by simp), hp.fr f (by decide) (by decide) (by decide), h1.fr f (by decide) (by decide) (by simp) (.inl rfl), e1, h2.fr f (by decide) (by decide) (by simp) (.inl rfl), e2, h3.fr f (by decide) (by decide) (by simp) (.inl rfl), e3⟩

theorem LawAt.wcell {L W D N M : Nat} {w : World} {vx : Value} {past : List Jn.Con} {d : DS} {nc nq na : Nat} (h : LawAt L W D N M w vx past d nc nq na) : w.cell? ⟨W, 1, none⟩ = some (.pointer (some ⟨D, 0, none⟩)) := by
  obtain ⟨vp, vc, vq, va, lc, lq, lx, hW, -⟩ := h.rest
  exact hW.cell.2.1

set_option maxHeartbeats 2000000 in
set_option maxRecDepth 100000 in
theorem part_any (L W D N M : Nat) (w : World) (vx : Value) (past : List Jn.Con) (d : DS) (nc nq na : Nat) (v : Value) (l : List ActP) (c : Int) (hlaw : LawAt L W D N M w vx past d nc nq na) (hr : ARow w M v l) (hl : l.length ≤ 8) (hall : ∀ n, ∃ d', playL d (l.take n) = some d') (hc : B64' c) :
    Calls Tryz.prog 71 #[.pointer (some ⟨W, 0, none⟩), v, .int .i64 c] w fun e w' => e = .returned (.bool true) ∧ ∃ n d', playL d (l.take n) = some d' ∧ LawAt L W D N M w' vx past d' nc nq na ∧ Fr L [67] none w w' := by
  have hb := Cr.pick_bd c ((l.length + 1 : Nat) : Int) (by omega)
  have hpk := fun x => lpick_any c (l.length + 1) (by omega) (by omega) hc.1 hc.2 x
  obtain ⟨n, hn⟩ : ∃ n : Nat, Cr.pick c ((l.length + 1 : Nat) : Int) = (n : Int) := ⟨(Cr.pick c ((l.length + 1 : Nat) : Int)).toNat, by omega⟩
  have hnl : n ≤ l.length := by omega
  rw [hn] at hpk
  rw [show ((l.length + 1 : Nat) : Int) = (l.length : Int) + 1 by omega] at hpk
  have HPK := hide hpk
  obtain ⟨ao, cap, hv, -⟩ := hr.shape
  subst hv
  obtain ⟨d', hpd⟩ := hall n
  have HAL := hide (fun x (hx : Below w.heap.size w x) => allD_any L D M d d' _ (l.take n) x (hlaw.below hx).disk hlaw.ld (arow_take (ownsRow_below hr hx) n hnl) (by rw [List.length_take]; omega) hpd)
  have hcap : l.length ≤ cap ∧ (cap : Int) ≤ 9223372036854775807 ∧ ((ao = none ∧ n = 0 ∧ cap = 0) ∨ ∃ g, ao = some ⟨g, 0, none⟩) := by
    rcases hr.2 with ⟨e, h0⟩ | ⟨g, cap', cur, e, -, -, h1, h2, -⟩
    · simp only [Value.slice.injEq] at e
      obtain ⟨e1, e2, e3⟩ := e
      exact ⟨by omega, by omega, .inl ⟨e1, by omega, e3⟩⟩
    · simp only [Value.slice.injEq] at e
      obtain ⟨e1, e2, e3⟩ := e
      subst e3
      exact ⟨h1, by simp only [maxLen] at h2; omega, .inr ⟨g, e1⟩⟩
  obtain ⟨hcap1, hcap2, hao⟩ := hcap
  obtain ⟨vp, vc, vq, va, lcs, lqs, lxs, hW, -, -, -, -, -, -, -⟩ := hlaw.rest
  obtain ⟨-, c1, -, -, -, -⟩ := hW.cell
  have HPD := hide hpd
  have HL := hide hlaw
  have s1 : (0 : Int) ≤ (n : Int) := by omega
  have s2 : (n : Int) ≤ (cap : Int) := by omega
  have s3 : (l.length : Int) ≤ (cap : Int) := by omega
  clear hb hpk hn hr hall hpd hlaw hW
  rcases hao with ⟨rfl, rfl, rfl⟩ | ⟨g, rfl⟩
  · go_enter Tryz.func71, Tryz.ntmps71
    go_wp2_with fail
    refine (HPK.out _).mono ?_
    rintro e wx ⟨rfl, hq⟩
    obtain rfl : w = wx := hq.symm
    go_wp2_with fail
    go_region_held3 (fun w' => w'.cell? ⟨W, 1, none⟩ = some (.pointer (some ⟨D, 0, none⟩)))
      (first | with_reducible exact c1 | exact k1 | go_keep)
      (first | (go_at_call 14; refine (HAL.out _ (by first | exact Below.refl _ _ | exact Below.drew (Below.refl _ _))).mono ?_; rintro e w2 ⟨rfl, hd2, hf20⟩; have hf2 : Fr L [67] none w w2 := Fr.undrew hf20; have k1 := (HL.out.files hd2 hf2).wcell))
    have HFIN : Hid (∃ n d', playL d (l.take n) = some d' ∧ LawAt L W D N M w2 vx past d' nc nq na ∧ Fr L [67] none w w2) := ⟨0, d', HPD.out, HL.out.files hd2 hf2, hf2⟩
    clear hd2 hf2 hf20 k1
    go_wp2_with fail
    go_ret
    exact ⟨rfl, HFIN.out⟩
  · go_enter Tryz.func71, Tryz.ntmps71
    go_wp2_with fail
    refine (HPK.out _).mono ?_
    rintro e wx ⟨rfl, hq⟩
    obtain rfl : w = wx := hq.symm
    go_wp2_with fail
    go_region_held3 (fun w' => w'.cell? ⟨W, 1, none⟩ = some (.pointer (some ⟨D, 0, none⟩)))
      (first | with_reducible exact c1 | exact k1 | go_keep)
      (first | (go_at_call 14; refine (HAL.out _ (by first | exact Below.refl _ _ | exact Below.drew (Below.refl _ _))).mono ?_; rintro e w2 ⟨rfl, hd2, hf20⟩; have hf2 : Fr L [67] none w w2 := Fr.undrew hf20; have k1 := (HL.out.files hd2 hf2).wcell))
    have HFIN : Hid (∃ n d', playL d (l.take n) = some d' ∧ LawAt L W D N M w2 vx past d' nc nq na ∧ Fr L [67] none w w2) := ⟨n, d', HPD.out, HL.out.files hd2 hf2, hf2⟩
    clear hd2 hf2 hf20 k1
    go_wp2_with fail
    go_ret
    exact ⟨rfl, HFIN.out⟩
end Go.Proofs.YtellilpeakpbfabGreatDoor

end

section
/-
  The walk of opened: some of the contents of the past.
-/
namespace Go.Proofs.YtellilpeakpbfabGreatDoor
open Go.RowKit

theorem con_eq {C X : Jn.Con} (hC : Jn.Ok C) (hX : Jn.Ok X) (h1 : C.list = X.list) (h2 : C.procs = X.procs) : C = X := by
  have hl1 := hC.len
  have hl2 := hX.len
  have h3 : C.cells = X.cells := by
    apply List.ext_getElem (by omega)
    intro k g1 g2
    have a := cell_con hC k (by omega)
    have b := cell_con hX k (by omega)
    rw [h1, b] at a
    simp only [List.getD_eq_getElem?_getD, List.getElem?_eq_getElem g1, List.getElem?_eq_getElem g2, Option.getD_some] at a
    exact a.symm
  cases C
  cases X
  simp only at h2 h3
  rw [h2, h3]

def OpSRel (w : World) (past : List Jn.Con) (C : Jn.Con) (fd i : Value) (wr : World) : Prop :=
  Below w.heap.size w wr ∧ ∃ (k : Nat) (z : Int), k ≤ past.length ∧ i = .int .i64 k ∧ fd = .int .i64 z ∧ ((z = -1 ∧ ∀ j, j < k → past[j]? ≠ some C) ∨ ∃ j : Nat, j < k ∧ z = (j : Int) ∧ past[j]? = some C)

/-- what opened answers. -/
def OpenedSome (L W D : Nat) (w : World) (past : List Jn.Con) (d : DS) (nc nq na : Nat) (C : Jn.Con) (f : Int) (e : Ending) (w' : World) : Prop :=
  ∃ m : Nat, past[m]? = some C ∧ OpenedPost L W D w past d nc nq na m C f e w' ∧ Fr L [115, 52, 54] none w w'

set_option maxHeartbeats 8000000 in
set_option maxRecDepth 100000 in
theorem opened_some (L W D N M : Nat) (w : World) (vx : Value) (past : List Jn.Con) (d : DS) (nc nq na : Nat) (C : Jn.Con) (f : Int)
    (hlaw : LawAt L W D N M w vx past d nc nq na) (hN : N ≤ w.heap.size) (hM : M ≤ w.heap.size) (hC : C ∈ past)
    (hW : WordsAt w) (hP : PowAt w) (ha : d.1.size ≤ 1152921504606846976) (hb : d.2.1.size ≤ 1152921504606846976)
    (h2 : Jn.readTwo d.1.data.toList d.2.1.data.toList = some (C, f)) (bc : nc ≤ 4000000000000) (bq : nq ≤ 4000000000000) (bm : past.length ≤ 2000000000000) :
    Calls Tryz.prog 70 #[.pointer (some ⟨W, 0, none⟩), .int .i64 0] w (OpenedSome L W D w past d nc nq na C f) := by
  obtain ⟨a, b, la, lb⟩ := d
  have hlaw' := hlaw.mono hN hM
  obtain ⟨vp, vc, vq, va, lcs, lqs, lxs, hWA, hpast, hh1, e1, hh2, e2, hh3, e3⟩ := hlaw'.rest
  obtain ⟨c0, c1, c2, -, -, -⟩ := hWA.cell
  have z0 := hWA.fz 0
  obtain ⟨d0, d1, -, -⟩ := hlaw.disk.cell
  have hlen : C.list.length ≤ 1000 ∧ Jn.Ok C := by
    obtain ⟨ss, _, hsl, hss⟩ := hpast
    obtain ⟨m, hml, hmC⟩ := List.mem_iff_getElem.1 hC
    obtain ⟨_, _, hok⟩ := hss m (ss[m]'(by omega)) C (by simp [show m < ss.length by omega]) (by rw [List.getElem?_eq_getElem hml, hmC])
    exact ⟨Nat.le_trans (Nat.le_trans (list_len _ _) (Nat.le_of_eq hok.len)) (by omega), hok⟩
  obtain ⟨hlc, hok⟩ := hlen
  have hlp : C.procs.length ≤ 1000 := Nat.le_trans hok.cnt (by omega)
  have HOP := hide (fun w hW hP => open_ok a b C f w hW hP ha hb h2)
  have HW := hide hW
  have HP := hide hP
  have HL := hide hlaw'
  have HWA := hide hWA
  have HPA := hide hpast
  have HHS : Hid (HoldRow L w.heap.size w 99 52 mkC vc lcs ∧ lcs.length = nc ∧ HoldRow L w.heap.size w 89 54 mkP vq lqs ∧ lqs.length = nq ∧ HoldRow L w.heap.size w 84 27 mkA va lxs ∧ lxs.length = na) := ⟨hh1, e1, hh2, e2, hh3, e3⟩
  have hLw := hlaw.low
  have hwl := hWA.lt
  have HCC := hide hC
  clear hlaw hlaw' hWA hpast hh1 e1 hh2 e2 hh3 e3 hW hP hC
  simp only at d0 d1
  go_enter Tryz.func70, Tryz.ntmps70
  go_wp2
  go_region_held3 (fun w' => w'.cell? ⟨W, 1, none⟩ = some (.pointer (some ⟨D, 0, none⟩)) ∧ w'.cell? ⟨D, 0, none⟩ = some (.string a) ∧ w'.cell? ⟨D, 1, none⟩ = some (.string b)) (first | go_keep | exact ⟨at_old (w := w.drew) hb1 c1, at_old (w := w.drew) hb1 d0, at_old (w := w.drew) hb1 d1⟩)
    (first | (go_at_call 31; refine (HOP.out _ (HW.out.below HW.out.1 (Below.refl _ _).drew) (HP.out.below HP.out.1 (Below.refl _ _).drew)).mono ?_; rintro e w1 ⟨S, B, v, rfl, hst, har, hb1⟩))
  have HB1 : Hid (Below w.heap.size w w1) := (Below.drew (Below.refl w.heap.size w)).trans hb1
  obtain ⟨ao, cap, rfl, -⟩ := har.shape
  have HST := hide hst
  have HAR := hide har
  have g1 := at_old HB1.out c1
  have g2 := at_old HB1.out c2
  have gd0 := at_old HB1.out d0
  have gd1 := at_old HB1.out d1
  have g0 := at_old HB1.out c0
  have HW1 : Hid (WordsAt w1) := HW.out.below HW.out.1 HB1.out
  have HP1 : Hid (PowAt w1) := HP.out.below HP.out.1 HB1.out
  have hz1 := HB1.out.size
  clear hst har hb1
  have hma : (moveActs C f).length = 5 := rfl
  rw [hma]
  go_wp2
  go_region_held3 (fun w' => w'.cell? ⟨W, 1, none⟩ = some (.pointer (some ⟨D, 0, none⟩)) ∧ w'.cell? ⟨D, 0, none⟩ = some (.string a) ∧ w'.cell? ⟨D, 1, none⟩ = some (.string b)) (first | go_keep | exact ⟨at_old (w := w1.drew) hb2 g1, at_old (w := w1.drew) hb2 gd0, at_old (w := w1.drew) hb2 gd1⟩)
    (first | (go_at_call 31; refine (HOP.out _ (HW1.out.below HW1.out.1 (Below.refl _ _).drew) (HP1.out.below HP1.out.1 (Below.refl _ _).drew)).mono ?_; rintro e w2 ⟨S2, B2, v2, rfl, hst2, har2, hb2⟩))
  have HB2 : Hid (Below w1.heap.size w1 w2) := (Below.drew (Below.refl w1.heap.size w1)).trans hb2
  obtain ⟨ao2, cap2, rfl, -⟩ := har2.shape
  have HST2 := hide hst2
  have k0 := at_old HB2.out g0
  have k1 := at_old HB2.out g1
  have k2 := at_old HB2.out g2
  have hz2 := HB2.out.size
  have HBW2 : Hid (Below w.heap.size w w2) := HB1.out.trans (HB2.out.mono HB1.out.size)
  have hWA2 := HWA.out.fr (Fr.of (L := 0) (T := []) (X := none) HBW2.out (Nat.zero_le _)) (by simp) (by simp)
  have kz := hWA2.fz 0
  obtain ⟨hW3, hF3⟩ := x_set hWA2 HL.out.lw (.pointer (some ⟨S, 0, none⟩))
  have HW3 := hide hW3
  have HF3 := hide hF3
  have HCE := hide (fun w h => cellsS_any L S2 B2 C (1 - f) w h)
  have HPR := hide (fun w h => procsS_any L S2 B2 C (1 - f) w h)
  have HST3 : Hid (StAt L (w2.setCell ⟨W, 0, none⟩ (.pointer (some ⟨S, 0, none⟩))) S2 B2 C (1 - f)) := (HST2.out.low' (Nat.le_trans hLw hz1)).fr hF3 (by decide) (by decide) (by decide) (by simp)
  clear hst2 har2 hb2 hWA2 hW3 hF3
  go_wp2_with fail
  refine (HCE.out _ HST3.out).mono ?_
  rintro e w4 ⟨vcl, rfl, hcr, hb4⟩
  obtain ⟨oc, kc, rfl⟩ := crow_slice hcr
  have HCR := hide hcr
  have HB4 := hide hb4
  have HST4 := hide (HST3.out.below hb4)
  have hz4 : w2.heap.size ≤ w4.heap.size := by have := hb4.size; simpa using this
  clear hcr hb4
  go_wp2_with fail
  refine (HPR.out _ HST4.out).mono ?_
  rintro e w5 ⟨vpl, rfl, hpr, hb5⟩
  obtain ⟨op, kp, rfl, -⟩ := hpr.shape
  have HPRW := hide hpr
  have HB5 := hide hb5
  have hz5 := hb5.size
  clear hpr hb5
  have HBT : Hid (Below (w2.setCell ⟨W, 0, none⟩ (.pointer (some ⟨S, 0, none⟩))).heap.size (w2.setCell ⟨W, 0, none⟩ (.pointer (some ⟨S, 0, none⟩))) w5) := HB4.out.trans (HB5.out.mono HB4.out.size)
  have hLs : L ≤ (w2.setCell ⟨W, 0, none⟩ (.pointer (some ⟨S, 0, none⟩))).heap.size := by rw [World.size_setCell]; exact Nat.le_trans hLw (Nat.le_trans hz1 hz2)
  have HF15 : Hid (Fr L [115] none w1 w5) := ((Fr.of HB2.out (Nat.le_trans hLw hz1)).trans HF3.out).trans (Fr.of HBT.out hLs)
  have HF05 : Hid (Fr L [115] none w w5) := (Fr.of HB1.out hLw).trans HF15.out
  have W5 := HW3.out.fr (Fr.of (L := L) (T := []) (X := none) HBT.out hLs) (by simp) (by simp)
  have hP5 := HPA.out.fr HF05.out (by decide) (by decide) (by decide)
  obtain ⟨ss, hrow, hsl, hss⟩ := hP5
  have hrow' : w5.ownsRow L 146 2 vp ss.length (pairs ss) := by rw [hsl]; exact hrow
  obtain ⟨po, pcap, hvp, hsh⟩ := pair_shape hrow'
  have hpn : 0 < past.length := List.length_pos_of_mem HCC.out
  obtain ⟨pg, pcur, rfl, -, hpg, hpc⟩ := hsh (by omega)
  have HRW : Hid (∀ k X, past[k]? = some X → ∃ so sk qo qk, CRow w5 0 (.slice so X.list.length sk) X.list ∧ PRow w5 0 (.slice qo X.procs.length qk) X.procs ∧ Jn.Ok X ∧ w5.cell? ⟨pg, k * 2, none⟩ = some (.slice so X.list.length sk) ∧ w5.cell? ⟨pg, k * 2 + 1, none⟩ = some (.slice qo X.procs.length qk)) := by
    intro k X hX
    have hk := (List.getElem?_eq_some_iff.1 hX).1
    obtain ⟨s, hs⟩ : ∃ s, ss[k]? = some s := ⟨ss[k]'(by omega), by simp [show k < ss.length by omega]⟩
    obtain ⟨hsc, hsp, hok'⟩ := hss k s X hs hX
    obtain ⟨p0, p1⟩ := hpc k s hs
    obtain ⟨s1, s2⟩ := s
    obtain ⟨so, sk, hs1⟩ := crow_slice hsc
    obtain ⟨qo, qk, hs2, -⟩ := hsp.shape
    simp only at hs1 hs2 p0 p1 hsc hsp
    subst hs1 hs2
    exact ⟨so, sk, qo, qk, hsc, hsp, hok', p0, p1⟩
  obtain ⟨-, -, y2, -, -, -⟩ := W5.cell
  rw [hvp, hsl] at y2
  have HW5 := hide W5
  have HCR5 : Hid (CRow w5 w.heap.size (.slice oc C.list.length kc) C.list) := CRow.base (ownsRow_below HCR.out HB5.out) (by rw [World.size_setCell]; exact Nat.le_trans hz1 hz2)
  have HPR5 : Hid (PRow w5 w.heap.size (.slice op C.procs.length kp) C.procs) := HPRW.out.base (Nat.le_trans hz1 (Nat.le_trans hz2 hz4))
  have HCRx : Hid (∀ j, (Value.slice oc C.list.length kc).ownBlock = some j → w1.heap.size ≤ j) := fun j hj => by
    have := (HCR.out.lt j hj).1
    rw [World.size_setCell] at this
    exact Nat.le_trans hz2 this
  have HPRx : Hid (∀ j, (Value.slice op C.procs.length kp).ownBlock = some j → w1.heap.size ≤ j) := fun j hj => Nat.le_trans hz2 (Nat.le_trans hz4 (HPRW.out.lt j hj).1)
  clear hrow hss hsh hpc hrow' hpg W5 hvp hsl HST3 HST4 HCE HPR
  go_wp2
  go_loopw [15, 16] (fun fd i wr => OpSRel w5 past C fd i wr) (fun _ i _ => past.length - (intOf i).toNat)
  case atStart => exact ⟨Below.refl _ _, 0, -1, Nat.zero_le _, rfl, rfl, .inl ⟨rfl, fun j hj => by omega⟩⟩
  case round =>
    obtain ⟨hbr, k, z, hk, rfl, rfl, hor⟩ := hrel
    have HBR := hide hbr
    have r2 := at_old hbr y2
    clear hbr
    by_cases hkl : k < past.length
    · obtain ⟨X, hX⟩ : ∃ X, past[k]? = some X := ⟨past[k], List.getElem?_eq_getElem hkl⟩
      obtain ⟨so, sk, qo, qk, hsc, hsp, hokX, p0, p1⟩ := HRW.out k X hX
      have rp0 := at_old HBR.out p0
      have rp1 := at_old HBR.out p1
      have hcl : C.list = X.list → C.procs = X.procs → C = X := fun h1 h2 => con_eq hok hokX h1 h2
      have HCL := hide hcl
      have HX := hide hX
      have HS1 := hide (sameCells_any w.heap.size 0 _ _ C.list X.list _ (ownsRow_below HCR5.out HBR.out) (ownsRow_below hsc HBR.out) hlc)
      have HSP := hide hsp
      have t1 : decide ((k : Int) < (past.length : Int)) = true := by simp; omega
      have hk12 : k ≤ 2000000000000 := by omega
      clear hcl hX hsc hsp hokX
      go_wp2_with fail
      refine HS1.out.mono ?_
      rintro e wr1 ⟨rfl, hbr1⟩
      have HBR1 : Hid (Below w5.heap.size w5 wr1) := HBR.out.trans (hbr1.mono HBR.out.size)
      have r2' := at_old HBR1.out y2
      have rp1' := at_old HBR1.out p1
      have HS3 := hide (sameProcs_any w.heap.size 0 _ _ C.procs X.procs _ (ownsRow_below HPR5.out HBR1.out) (ownsRow_below HSP.out HBR1.out) hlp)
      clear hbr1 r2 rp0 rp1 p0 p1 HS1 HSP
      go_wp2_with fail
      refine HS3.out.mono ?_
      rintro e wr2 ⟨rfl, hbr2⟩
      have HBR2 : Hid (Below w5.heap.size w5 wr2) := HBR1.out.trans (hbr2.mono HBR1.out.size)
      clear hbr2 HS3 r2' rp1'
      by_cases hl : C.list = X.list
      · by_cases hp : C.procs = X.procs
        · have HREL : Hid (OpSRel w5 past C (.int .i64 (k : Int)) (.int .i64 ((k : Int) + 1)) wr2) := ⟨HBR2.out, k + 1, k, by omega, by go_num, rfl, .inr ⟨k, by omega, rfl, by rw [HCL.out hl hp]; exact HX.out⟩⟩
          have u1 : decide (C.list = X.list) = true := decide_eq_true hl
          have u2 : decide (C.procs = X.procs) = true := decide_eq_true hp
          rw [u1, u2]
          clear hl hp u1 u2 hor
          go_wp2
          go_roundw
          case rel => exact HREL.out
          case measure => simp [intOf]; omega
        · have HREL : Hid (OpSRel w5 past C (.int .i64 z) (.int .i64 ((k : Int) + 1)) wr2) := ⟨HBR2.out, k + 1, z, by omega, by go_num, rfl, hor.elim (fun ⟨e, h⟩ => .inl ⟨e, fun j hj => by
              by_cases ej : j = k
              · subst ej; rw [HX.out]; intro h9; cases h9; exact hp rfl
              · exact h j (by omega)⟩) (fun ⟨j, hj, e, h⟩ => .inr ⟨j, by omega, e, h⟩)⟩
          have u1 : decide (C.list = X.list) = true := decide_eq_true hl
          have u2 : decide (C.procs = X.procs) = false := decide_eq_false hp
          rw [u1, u2]
          clear hl hp u1 u2
          clear hor
          go_wp2
          go_roundw
          case rel => exact HREL.out
          case measure => simp [intOf]; omega
      · have HREL : Hid (OpSRel w5 past C (.int .i64 z) (.int .i64 ((k : Int) + 1)) wr2) := ⟨HBR2.out, k + 1, z, by omega, by go_num, rfl, hor.elim (fun ⟨e, h⟩ => .inl ⟨e, fun j hj => by
            by_cases ej : j = k
            · subst ej; rw [HX.out]; intro h9; cases h9; exact hl rfl
            · exact h j (by omega)⟩) (fun ⟨j, hj, e, h⟩ => .inr ⟨j, by omega, e, h⟩)⟩
        have u1 : decide (C.list = X.list) = false := decide_eq_false hl
        rw [u1]
        clear hl u1
        clear hor
        generalize decide (C.procs = X.procs) = u2
        go_wp2
        go_roundw
        case rel => exact HREL.out
        case measure => simp [intOf]; omega
    · have t1 : decide ((k : Int) < (past.length : Int)) = false := by simp; omega
      obtain ⟨m, hm, hmC⟩ : ∃ m : Nat, z = (m : Int) ∧ past[m]? = some C := by
        rcases hor with ⟨-, h⟩ | ⟨j, -, e, h⟩
        · obtain ⟨j, hj, he⟩ := List.mem_iff_getElem.1 HCC.out
          exact absurd (by rw [List.getElem?_eq_getElem hj, he]) (h j (by omega))
        · exact ⟨j, e, h⟩
      subst hm
      have t2 : decide (0 ≤ (m : Int)) = true := by simp
      have HMC := hide hmC
      clear hor hmC
      have HFr : Hid (Fr L [115] none w wr) := HF05.out.trans (Fr.of HBR.out (Nat.le_trans hLw HF05.out.size))
      have HF1r : Hid (Fr L [115] none w1 wr) := HF15.out.trans (Fr.of HBR.out (Nat.le_trans hLw HF05.out.size))
      have Wr := HW5.out.fr (Fr.of (L := 0) (T := []) (X := none) HBR.out (Nat.zero_le _)) (by simp) (by simp)
      obtain ⟨hh1, e1, hh2, e2, hh3, e3⟩ := HHS.out
      have hc1 := hh1.fr HFr.out (by decide) (by decide) (by simp) (.inl rfl)
      have hk1 := keepCells_any L w.heap.size W wr _ _ vp vc vq va lcs _ C.list.length _ Wr HL.out.lw hc1 (ownsRow_below HCR5.out HBR.out) hlc hLw HFr.out.size (by rw [e1]; omega)
      have HK1 := hide hk1
      have HE : Hid (lcs.length = nc ∧ lqs.length = nq ∧ lxs.length = na) := ⟨e1, e2, e3⟩
      have HH2 := hide hh2
      have HH3 := hide hh3
      clear hh1 e1 hh2 e2 hh3 e3 hc1 hk1 Wr
      go_wp2_with fail
      refine HK1.out.mono ?_
      rintro e w7 ⟨vc7, lc7, rfl, hW7, hh7, hl7, hf7⟩
      have F7 : Fr L [115, 52, 54] none w w7 := (HFr.out.wide (by simp)).fresh (hf7.wide (by simp)) (fun k hk => Nat.le_trans hz1 (HCRx.out k hk))
      have F17 : Fr L [115, 52, 54] none w1 w7 := (HF1r.out.wide (by simp)).fresh (hf7.wide (by simp)) HCRx.out
      have hp7 : PRow w7 w.heap.size (.slice op C.procs.length kp) C.procs := own_fr (ownsRow_below HPR5.out HBR.out) hf7 (by decide) (own_ne (ownsRow_below HCR5.out HBR.out) (ownsRow_below HPR5.out HBR.out) (by decide))
      have hq7 : HoldRow L w.heap.size w7 89 54 mkP vq lqs := by
        refine HH2.out.fr (T := [115, 52]) ((HFr.out.wide (by simp)).fresh (hf7.wide (by simp)) (fun k hk => Nat.le_trans hz1 (HCRx.out k hk))) (by decide) (by decide) (by simp) (.inl rfl)
      have hk2 := keepProcs_any L w.heap.size W w7 _ _ vp vc7 vq va lqs _ C.procs.length _ hW7 HL.out.lw hq7 hp7 hlp hLw F7.size (by rw [HE.out.2.1]; omega)
      have HK2 := hide hk2
      have HF7 := hide F7
      have HF17 := hide F17
      have HH7 := hide hh7
      have HL7 := hide hl7
      have HP7 := hide hp7
      clear F7 F17 hp7 hq7 hk2 hW7 hh7 hl7 hf7 HK1
      go_wp2_with fail
      refine HK2.out.mono ?_
      rintro e w8 ⟨vq8, lq8, rfl, hW8, hh8, hl8, hf8⟩
      have F8 : Fr L [115, 52, 54] none w w8 := HF7.out.fresh (hf8.wide (by simp)) (fun k hk => Nat.le_trans hz1 (HPRx.out k hk))
      have F18 : Fr L [115, 52, 54] none w1 w8 := HF17.out.fresh (hf8.wide (by simp)) HPRx.out
      have hc8 : HoldRow L w7.heap.size w8 99 52 mkC vc7 lc7 := by
        refine ⟨own_fr HH7.out.row hf8 (by decide) (own_ne HP7.out HH7.out.row (by decide)), HH7.out.three, fun i u hu => ?_⟩
        obtain ⟨n, q1, q2⟩ := HH7.out.full i u hu
        exact ⟨n, own_fr q1 hf8 (by decide) (own_ne HP7.out q1 (by decide)), q2⟩
      have HFIN : Hid (OpenedSome L W D w past (a, b, la, lb) nc nq na C f (.returned (.tuple #[.slice ao 5 cap, .int .i64 m, .bool true])) w8) := by
        refine ⟨m, HMC.out, ⟨S, B, _, rfl, ⟨HL.out.lw, HL.out.ld, HL.out.disk.fr F8 (by decide) (by simp), vp, vc7, vq8, va, lc7, lq8, lxs, hW8, HPA.out.fr F8 (by decide) (by decide) (by decide), hc8.mono hf8.size, by rw [HL7.out, HE.out.1], hh8, by rw [hl8, HE.out.2.1], HH3.out.fr F8 (by decide) (by decide) (by simp) (.inl rfl), HE.out.2.2⟩, ?_, ?_, F8.below⟩, F8⟩
        · exact (HST.out.low' hLw).fr F18 (by decide) (by decide) (by decide) (by simp)
        · exact HAR.out.fr F18 (by decide) (.inl rfl)
      clear F8 F18 hc8 hW8 hh8 hl8 hf8 HK2
      go_wp2
      go_ret3
      exact HFIN.out
end Go.Proofs.YtellilpeakpbfabGreatDoor

end
