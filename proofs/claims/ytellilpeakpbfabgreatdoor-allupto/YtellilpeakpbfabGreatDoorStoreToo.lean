import Derived.Test.YtellilpeakpbfabGreatDoorActedToo
import Derived.Deep.RegionLaw
import Derived.Deep.RegionHeld3
import Derived.Test.YtellilpeakpbfabGreatDoorReadAToo
import Derived.Test.YtellilpeakpbfabGreatDoorOpenToo
import Derived.Test.YtellilpeakpbfabGreatDoorMarkToo
section
/-
  The walk of change, without a crash.
-/
namespace Go.Proofs.YtellilpeakpbfabGreatDoor
open Go.RowKit

/-- append onto a row of the call's own, as one step of a region that draws. -/
theorem step_append_own {P : Program} {ops : Array Oper} {o : Oper} {a : Act} {w : World} {K : Act → World → Prop} {Q : Exit → Act → World → Prop} {E : Prop}
    (hg : o.guard = none) (s x : Operand) (t : TypeId) (hop : o.op = Op.call { callee := Callee.builtin Builtin.append, args := #[s, x], argTypes := #[t, t] })
    (base : Nat) (e : TypeId) (i : TypeInfo) (z : Value) (size bytes : Nat) (ht : P.underlying t = some (.slice e)) (hi : P.info? e = some i) (hz : i.zero = some z)
    (hsize : i.size = size) (hby : i.bytes = bytes) (hzs : z.cells.size = size) (hsz : 0 < size)
    (v : Value) (n : Nat) (xs : List Value) (hs : a.eval s = v) (hown : w.ownsRow base e size v n xs)
    (ad : Addr) (m c : Nat) (news : List Value) (hx : a.eval x = .slice (some ad) m c) (hl : news.length = m * size) (hnews : ∀ j u, news[j]? = some u → w.cell? (ad.add j) = some u) (h1 : ∀ u ∈ news, u.oneCell' = true)
    (h63 : n + m ≤ maxLen) (hbytes : (n + m) * bytes ≤ 140737488355328) (hbase : base ≤ w.heap.size)
    (h : ∀ v' w', w'.ownsRow base e size v' (n + m) (xs ++ news) → w.grownBy w' v.ownBlock → K (a.put o.dst v') w') :
    if Region.wanted o (yielded ops a.tmps) = true then Oper.wp P o a w K Q else E := by
  have hw : Region.wanted o (yielded ops a.tmps) = true := by simp [Region.wanted, hg]
  rw [if_pos hw]
  exact wp_append_own w s x t hop base e i z size bytes ht hi hz hsize hby hzs hsz v n xs hs hown ad m c news hx hl hnews h1 h63 hbytes hbase (fun v' w' h2 h3 _ => h v' w' h2 h3)

theorem Fr.undrew {L : Nat} {T : List TypeId} {X : Option Nat} {w w' : World} (h : Fr L T X w.drew w') : Fr L T X w w' := ⟨⟨h.below.os, h.below.tape, h.below.output, h.below.size, h.below.block⟩, h.block⟩
theorem Tryz.infoRC : (Tryz.prog.info? 146).map (fun i => (i.zero, i.size, i.bytes)) = some (some (.agg #[.slice none 0 0, .slice none 0 0]), 2, 48) := by kernel_rfl

/-- the contents behind one change more. -/
theorem past_push (L W : Nat) (w w9 : World) (vx vd vp vc vq va : Value) (hW : WAt w W vx vd vp vc vq va) (hLW : L ≤ W) (o : Obj) (n : Nat) (ls ls' : List Value) (v' : Value)
    (hrow : w.ownsRow L 146 2 vp n ls) (hL : L ≤ w.heap.size) (hown : w9.ownsRow L 146 2 v' (n + 1) ls') (hg : (w.alloc o).grownBy w9 vp.ownBlock) :
    WAt w9 W vx vd vp vc vq va ∧ WAt (w9.setCell ⟨W, 2, none⟩ v') W vx vd v' vc vq va ∧ (w9.setCell ⟨W, 2, none⟩ v').ownsRow L 146 2 v' (n + 1) ls' ∧ Fr L [115, 146] none w (w9.setCell ⟨W, 2, none⟩ v') := by
  have hneW : some W ≠ vp.ownBlock := fun e => own_neB hrow hW (by decide) e.symm
  have f1 : Fr L [115, 146] none w (w.alloc o) := Fr.of ((Below.refl _ _).alloc (Nat.le_refl _) _) hL
  have f2 : Fr L [115, 146] none (w.alloc o) w9 := by
    refine (fr_grown hg (by simp; omega) (fun k hk => (hrow.lt k hk).1)).typed (fun k hk => ?_) none
    rcases hrow.2 with ⟨rfl, _⟩ | ⟨g, cap, cur, rfl, hb, hh, _⟩
    · simp [Value.ownBlock] at hk
    · simp [Value.ownBlock] at hk
      subst hk
      exact ⟨cur, _, _, (Below.heap_alloc _ _ _ (Array.getElem?_eq_some_iff.1 hh).1).trans hh, by simp⟩
  have hW9 : WAt w9 W vx vd vp vc vq va := by
    show w9.heap[W]? = _
    rw [hg.block W (by simp; exact Nat.lt_succ_of_lt hW.lt) hneW, Below.heap_alloc _ _ _ hW.lt]
    exact hW
  have f3 : Fr L [115, 146] none w9 (w9.setCell ⟨W, 2, none⟩ v') :=
    (fr_setCell w9 W 2 v' hLW).typed (fun k hk => by cases hk; exact ⟨_, _, _, hW9, by simp⟩) none
  refine ⟨hW9, wat_set hW9 2 v', ?_, (f1.trans f2).trans f3⟩
  exact own_fr hown (fr_setCell (T := []) w9 W 2 v' hLW) (by simp) (.inr (fun e => own_neB hown hW9 (by decide) e.symm))

set_option maxHeartbeats 400000 in
theorem num_any (e : Int) (w : World) : Calls Tryz.prog 109 #[.int .i64 e] w fun r w' => r = .returned (.int .i64 e) ∧ w' = w := by
  go_enter Tryz.func109, Tryz.ntmps109
  go_wp2
  go_ret
  exact ⟨rfl, rfl⟩

end Go.Proofs.YtellilpeakpbfabGreatDoor

end

section
/-
  The walk of opened, without a crash.
-/
namespace Go.Proofs.YtellilpeakpbfabGreatDoor
open Go.RowKit

set_option maxHeartbeats 400000 in
theorem cellsS_any (L S B : Nat) (C : Jn.Con) (f : Int) (w : World) (h : StAt L w S B C f) :
    Calls Tryz.prog 25 #[.pointer (some ⟨S, 0, none⟩)] w fun e w' => ∃ v, e = .returned v ∧ CRow w' w.heap.size v C.list ∧ Below w.heap.size w w' := by
  obtain ⟨c0, -, -, -⟩ := h.cells
  have HC := hide (cellsC_any L B C w h.con)
  clear h
  go_enter Tryz.func25, Tryz.ntmps25
  go_wp2_with fail
  refine HC.out.mono ?_
  rintro e w1 ⟨v, rfl, hr, hb⟩
  have HR := hide hr
  have HB := hide hb
  obtain ⟨ao, cap, rfl⟩ := crow_slice hr
  clear hr hb
  go_wp2
  go_ret
  exact ⟨_, rfl, HR.out, HB.out⟩
set_option maxHeartbeats 400000 in
theorem procsS_any (L S B : Nat) (C : Jn.Con) (f : Int) (w : World) (h : StAt L w S B C f) :
    Calls Tryz.prog 26 #[.pointer (some ⟨S, 0, none⟩)] w fun e w' => ∃ v, e = .returned v ∧ PRow w' w.heap.size v C.procs ∧ Below w.heap.size w w' := by
  obtain ⟨c0, -, -, -⟩ := h.cells
  have HC := hide (procsC_any L B C w h.con)
  clear h
  go_enter Tryz.func26, Tryz.ntmps26
  go_wp2_with fail
  refine HC.out.mono ?_
  rintro e w1 ⟨v, rfl, hr, hb⟩
  have HR := hide hr
  have HB := hide hb
  obtain ⟨ao, cap, rfl, -⟩ := hr.shape
  clear hr hb
  go_wp2
  go_ret
  exact ⟨_, rfl, HR.out, HB.out⟩

theorem open_ok (a b : ByteArray) (C : Jn.Con) (f : Int) (w : World) (hW : WordsAt w) (hP : PowAt w) (ha : a.size ≤ 1152921504606846976) (hb : b.size ≤ 1152921504606846976) (h : Jn.readTwo a.data.toList b.data.toList = some (C, f)) :
    Calls Tryz.prog 31 #[.string a, .string b] w fun e w' => ∃ S B v, e = .returned (.tuple #[.pointer (some ⟨S, 0, none⟩), v, .int .i64 0]) ∧ StAt w.heap.size w' S B C (1 - f) ∧ ARow w' w.heap.size v (moveActs C f) ∧ Below w.heap.size w w' := by
  refine (open_any a b w hW hP ha hb).mono ?_
  rintro e w' ⟨hbl, (⟨C', f', S, B, v, ho, hs, hr, he⟩ | ⟨ho, _⟩)⟩
  · rw [h] at ho; cases ho
    exact ⟨S, B, v, he, hs, hr, hbl⟩
  · rw [h] at ho; cases ho

theorem StAt.low' {L L' : Nat} {w : World} {S B : Nat} {C : Jn.Con} {f : Int} (h : StAt L w S B C f) (hL : L' ≤ L) : StAt L' w S B C f :=
  ⟨Nat.le_trans hL h.low, h.file, h.mem, h.con.low' (Nat.le_trans hL h.con.low)⟩
/-- the World's store is another one. -/
theorem x_set {L W : Nat} {w : World} {vx vd vp vc vq va : Value} (hW : WAt w W vx vd vp vc vq va) (hLW : L ≤ W) (v' : Value) :
    WAt (w.setCell ⟨W, 0, none⟩ v') W v' vd vp vc vq va ∧ Fr L [115] none w (w.setCell ⟨W, 0, none⟩ v') :=
  ⟨wat_set hW 0 v', (fr_setCell w W 0 v' hLW).typed (fun k hk => by cases hk; exact ⟨_, _, _, hW, by simp⟩) none⟩

def OpRel (w : World) (m : Nat) (fd i : Value) (wr : World) : Prop :=
  Below w.heap.size w wr ∧ ((fd = .int .i64 (-1) ∧ i = .int .i64 m) ∨ (fd = .int .i64 m ∧ i = .int .i64 ((m : Int) + 1)))

/-- what opened answers. -/
def OpenedPost (L W D : Nat) (w : World) (past : List Jn.Con) (d : DS) (nc nq na m : Nat) (C : Jn.Con) (f : Int) (e : Ending) (w' : World) : Prop :=
  ∃ S B v, e = .returned (.tuple #[v, .int .i64 m, .bool true]) ∧ LawAt L W D w'.heap.size w.heap.size w' (.pointer (some ⟨S, 0, none⟩)) past d (nc + 3) (nq + 3) na ∧ StAt L w' S B C (1 - f) ∧ ARow w' w.heap.size v (moveActs C f) ∧
    Below L w w'

set_option maxHeartbeats 8000000 in
set_option maxRecDepth 100000 in
theorem opened_last (L W D N M : Nat) (w : World) (vx : Value) (past : List Jn.Con) (d : DS) (nc nq na m : Nat) (C : Jn.Con) (f : Int)
    (hlaw : LawAt L W D N M w vx past d nc nq na) (hN : N ≤ w.heap.size) (hM : M ≤ w.heap.size) (hm : past.length = m + 1) (hC : past[m]? = some C)
    (hW : WordsAt w) (hP : PowAt w) (ha : d.1.size ≤ 1152921504606846976) (hb : d.2.1.size ≤ 1152921504606846976)
    (h2 : Jn.readTwo d.1.data.toList d.2.1.data.toList = some (C, f)) (bc : nc ≤ 4000000000000) (bq : nq ≤ 4000000000000) (bm : m ≤ 2000000000000) :
    Calls Tryz.prog 70 #[.pointer (some ⟨W, 0, none⟩), .int .i64 m] w (OpenedPost L W D w past d nc nq na m C f) := by
  obtain ⟨a, b, la, lb⟩ := d
  have hlaw' := hlaw.mono hN hM
  obtain ⟨vp, vc, vq, va, lcs, lqs, lxs, hWA, hpast, hh1, e1, hh2, e2, hh3, e3⟩ := hlaw'.rest
  obtain ⟨c0, c1, c2, -, -, -⟩ := hWA.cell
  have z0 := hWA.fz 0
  obtain ⟨d0, d1, -, -⟩ := hlaw.disk.cell
  have hlen : C.list.length ≤ 1000 ∧ Jn.Ok C := by
    obtain ⟨ss, _, hsl, hss⟩ := hpast
    obtain ⟨_, _, hok⟩ := hss m (ss[m]'(by omega)) C (by simp [show m < ss.length by omega]) hC
    exact ⟨Nat.le_trans (Nat.le_trans (list_len _ _) (Nat.le_of_eq hok.len)) (by omega), hok⟩
  obtain ⟨hlc, hok⟩ := hlen
  have hlp : C.procs.length ≤ 1000 := Nat.le_trans hok.cnt (by omega)
  have HOP := hide (fun w hW hP => open_ok a b C f w hW hP ha hb h2)
  have HW := hide hW
  have HP := hide hP
  have HL := hide hlaw'
  have HWA := hide hWA
  have HPA := hide hpast
  have HHS : Hid (HoldRow L w.heap.size w 99 52 mkC vc lcs ∧ lcs.length = nc ∧ HoldRow L w.heap.size w 89 54 mkP vq lqs ∧ lqs.length = nq ∧ HoldRow L w.heap.size w 84 27 mkA va lxs ∧ lxs.length = na) := ⟨hh1, e1, hh2, e2, hh3, e3⟩
  have hLw := hlaw.low
  have hwl := hWA.lt
  have HCC := hide hC
  clear hlaw hlaw' hWA hpast hh1 e1 hh2 e2 hh3 e3 hW hP hC
  simp only at d0 d1
  go_enter Tryz.func70, Tryz.ntmps70
  go_wp2
  go_region_held3 (fun w' => w'.cell? ⟨W, 1, none⟩ = some (.pointer (some ⟨D, 0, none⟩)) ∧ w'.cell? ⟨D, 0, none⟩ = some (.string a) ∧ w'.cell? ⟨D, 1, none⟩ = some (.string b)) (first | go_keep | exact ⟨at_old (w := w.drew) hb1 c1, at_old (w := w.drew) hb1 d0, at_old (w := w.drew) hb1 d1⟩)
    (first | (go_at_call 31; refine (HOP.out _ (HW.out.below HW.out.1 (Below.refl _ _).drew) (HP.out.below HP.out.1 (Below.refl _ _).drew)).mono ?_; rintro e w1 ⟨S, B, v, rfl, hst, har, hb1⟩))
  have HB1 : Hid (Below w.heap.size w w1) := (Below.drew (Below.refl w.heap.size w)).trans hb1
  obtain ⟨ao, cap, rfl, -⟩ := har.shape
  have HST := hide hst
  have HAR := hide har
  have g1 := at_old HB1.out c1
  have g2 := at_old HB1.out c2
  have gd0 := at_old HB1.out d0
  have gd1 := at_old HB1.out d1
  have g0 := at_old HB1.out c0
  have HW1 : Hid (WordsAt w1) := HW.out.below HW.out.1 HB1.out
  have HP1 : Hid (PowAt w1) := HP.out.below HP.out.1 HB1.out
  have hz1 := HB1.out.size
  clear hst har hb1
  have hma : (moveActs C f).length = 5 := rfl
  rw [hma]
  go_wp2
  go_region_held3 (fun w' => w'.cell? ⟨W, 1, none⟩ = some (.pointer (some ⟨D, 0, none⟩)) ∧ w'.cell? ⟨D, 0, none⟩ = some (.string a) ∧ w'.cell? ⟨D, 1, none⟩ = some (.string b)) (first | go_keep | exact ⟨at_old (w := w1.drew) hb2 g1, at_old (w := w1.drew) hb2 gd0, at_old (w := w1.drew) hb2 gd1⟩)
    (first | (go_at_call 31; refine (HOP.out _ (HW1.out.below HW1.out.1 (Below.refl _ _).drew) (HP1.out.below HP1.out.1 (Below.refl _ _).drew)).mono ?_; rintro e w2 ⟨S2, B2, v2, rfl, hst2, har2, hb2⟩))
  have HB2 : Hid (Below w1.heap.size w1 w2) := (Below.drew (Below.refl w1.heap.size w1)).trans hb2
  obtain ⟨ao2, cap2, rfl, -⟩ := har2.shape
  have HST2 := hide hst2
  have k0 := at_old HB2.out g0
  have k1 := at_old HB2.out g1
  have k2 := at_old HB2.out g2
  have hz2 := HB2.out.size
  have HBW2 : Hid (Below w.heap.size w w2) := HB1.out.trans (HB2.out.mono HB1.out.size)
  have hWA2 := HWA.out.fr (Fr.of (L := 0) (T := []) (X := none) HBW2.out (Nat.zero_le _)) (by simp) (by simp)
  have kz := hWA2.fz 0
  obtain ⟨hW3, hF3⟩ := x_set hWA2 HL.out.lw (.pointer (some ⟨S, 0, none⟩))
  have HW3 := hide hW3
  have HF3 := hide hF3
  have HCE := hide (fun w h => cellsS_any L S2 B2 C (1 - f) w h)
  have HPR := hide (fun w h => procsS_any L S2 B2 C (1 - f) w h)
  have HST3 : Hid (StAt L (w2.setCell ⟨W, 0, none⟩ (.pointer (some ⟨S, 0, none⟩))) S2 B2 C (1 - f)) := (HST2.out.low' (Nat.le_trans hLw hz1)).fr hF3 (by decide) (by decide) (by decide) (by simp)
  clear hst2 har2 hb2 hWA2 hW3 hF3
  go_wp2_with fail
  refine (HCE.out _ HST3.out).mono ?_
  rintro e w4 ⟨vcl, rfl, hcr, hb4⟩
  obtain ⟨oc, kc, rfl⟩ := crow_slice hcr
  have HCR := hide hcr
  have HB4 := hide hb4
  have HST4 := hide (HST3.out.below hb4)
  have hz4 : w2.heap.size ≤ w4.heap.size := by have := hb4.size; simpa using this
  clear hcr hb4
  go_wp2_with fail
  refine (HPR.out _ HST4.out).mono ?_
  rintro e w5 ⟨vpl, rfl, hpr, hb5⟩
  obtain ⟨op, kp, rfl, -⟩ := hpr.shape
  have HPRW := hide hpr
  have HB5 := hide hb5
  have hz5 := hb5.size
  clear hpr hb5
  have HBT : Hid (Below (w2.setCell ⟨W, 0, none⟩ (.pointer (some ⟨S, 0, none⟩))).heap.size (w2.setCell ⟨W, 0, none⟩ (.pointer (some ⟨S, 0, none⟩))) w5) := HB4.out.trans (HB5.out.mono HB4.out.size)
  have hLs : L ≤ (w2.setCell ⟨W, 0, none⟩ (.pointer (some ⟨S, 0, none⟩))).heap.size := by rw [World.size_setCell]; exact Nat.le_trans hLw (Nat.le_trans hz1 hz2)
  have HF15 : Hid (Fr L [115] none w1 w5) := ((Fr.of HB2.out (Nat.le_trans hLw hz1)).trans HF3.out).trans (Fr.of HBT.out hLs)
  have HF05 : Hid (Fr L [115] none w w5) := (Fr.of HB1.out hLw).trans HF15.out
  have W5 := HW3.out.fr (Fr.of (L := L) (T := []) (X := none) HBT.out hLs) (by simp) (by simp)
  have hP5 := HPA.out.fr HF05.out (by decide) (by decide) (by decide)
  obtain ⟨ss, hrow, hsl, hss⟩ := hP5
  rw [hm] at hsl
  obtain ⟨s, hs⟩ : ∃ s, ss[m]? = some s := ⟨ss[m]'(by omega), by simp [show m < ss.length by omega]⟩
  obtain ⟨hsc, hsp, -⟩ := hss m s C hs HCC.out
  have hrow' : w5.ownsRow L 146 2 vp ss.length (pairs ss) := by rw [hsl, ← hm]; exact hrow
  obtain ⟨po, pcap, hvp, hsh⟩ := pair_shape hrow'
  obtain ⟨pg, pcur, rfl, -, hpg, hpc⟩ := hsh (by omega)
  obtain ⟨p0, p1⟩ := hpc m s hs
  obtain ⟨s1, s2⟩ := s
  obtain ⟨so, sk, hs1⟩ := crow_slice hsc
  obtain ⟨qo, qk, hs2, -⟩ := hsp.shape
  simp only at hs1 hs2 p0 p1 hsc hsp
  subst hs1 hs2
  obtain ⟨-, -, y2, -, -, -⟩ := W5.cell
  rw [hvp, hsl] at y2
  have HSC := hide hsc
  have HSP := hide hsp
  have HW5 := hide W5
  have HCR5 : Hid (CRow w5 w.heap.size (.slice oc C.list.length kc) C.list) := CRow.base (ownsRow_below HCR.out HB5.out) (by rw [World.size_setCell]; exact Nat.le_trans hz1 hz2)
  have HPR5 : Hid (PRow w5 w.heap.size (.slice op C.procs.length kp) C.procs) := HPRW.out.base (Nat.le_trans hz1 (Nat.le_trans hz2 hz4))
  have HCRx : Hid (∀ j, (Value.slice oc C.list.length kc).ownBlock = some j → w1.heap.size ≤ j) := fun j hj => by
    have := (HCR.out.lt j hj).1
    rw [World.size_setCell] at this
    exact Nat.le_trans hz2 this
  have HPRx : Hid (∀ j, (Value.slice op C.procs.length kp).ownBlock = some j → w1.heap.size ≤ j) := fun j hj => Nat.le_trans hz2 (Nat.le_trans hz4 (HPRW.out.lt j hj).1)
  clear hrow hss hsh hpc hs hsc hsp hrow' hpg W5 hvp hsl HST3 HST4 HCE HPR
  go_wp2
  go_loopw [15, 16] (fun fd i wr => OpRel w5 m fd i wr) (fun _ i _ => m + 1 - (intOf i).toNat)
  case atStart => exact ⟨Below.refl _ _, .inl ⟨rfl, rfl⟩⟩
  case round =>
    obtain ⟨hbr, hor⟩ := hrel
    have HBR := hide hbr
    have r2 := at_old hbr y2
    have rp0 := at_old hbr p0
    have rp1 := at_old hbr p1
    clear hbr
    rcases hor with ⟨rfl, rfl⟩ | ⟨rfl, rfl⟩
    · have hs1 := sameCells_any w.heap.size 0 _ _ C.list C.list _ (ownsRow_below HCR5.out HBR.out) (ownsRow_below HSC.out HBR.out) hlc
      rw [decide_eq_true rfl] at hs1
      have HS1 := hide hs1
      have HS2 := hide (fun w h1 h2 => sameProcs_any w1.heap.size 0 (.slice op C.procs.length kp) (.slice qo C.procs.length qk) C.procs C.procs w h1 h2 hlp)
      clear hs1
      go_wp2_with fail
      refine HS1.out.mono ?_
      rintro e wr1 ⟨rfl, hbr1⟩
      have HBR1 : Hid (Below w5.heap.size w5 wr1) := HBR.out.trans (hbr1.mono HBR.out.size)
      have r2' := at_old HBR1.out y2
      have rp1' := at_old HBR1.out p1
      clear hbr1 r2 rp0 rp1
      have hs2 := sameProcs_any w.heap.size 0 _ _ C.procs C.procs _ (ownsRow_below HPR5.out HBR1.out) (ownsRow_below HSP.out HBR1.out) hlp
      rw [decide_eq_true rfl] at hs2
      have HS3 := hide hs2
      clear hs2 HS2
      go_wp2_with fail
      refine HS3.out.mono ?_
      rintro e wr2 ⟨rfl, hbr2⟩
      have HBR2 : Hid (Below w5.heap.size w5 wr2) := HBR1.out.trans (hbr2.mono HBR1.out.size)
      clear hbr2
      go_wp2
      go_roundw
      case rel => exact ⟨HBR2.out, .inr ⟨rfl, by go_num⟩⟩
      case measure => first | (simp [intOf]; done) | (simp [intOf]; omega)
    · have HFr : Hid (Fr L [115] none w wr) := HF05.out.trans (Fr.of HBR.out (Nat.le_trans hLw HF05.out.size))
      have HF1r : Hid (Fr L [115] none w1 wr) := HF15.out.trans (Fr.of HBR.out (Nat.le_trans hLw HF05.out.size))
      have Wr := HW5.out.fr (Fr.of (L := 0) (T := []) (X := none) HBR.out (Nat.zero_le _)) (by simp) (by simp)
      obtain ⟨hh1, e1, hh2, e2, hh3, e3⟩ := HHS.out
      have hc1 := hh1.fr HFr.out (by decide) (by decide) (by simp) (.inl rfl)
      have hk1 := keepCells_any L w.heap.size W wr _ _ vp vc vq va lcs _ C.list.length _ Wr HL.out.lw hc1 (ownsRow_below HCR5.out HBR.out) hlc hLw HFr.out.size (by rw [e1]; omega)
      have HK1 := hide hk1
      have HE : Hid (lcs.length = nc ∧ lqs.length = nq ∧ lxs.length = na) := ⟨e1, e2, e3⟩
      have HH2 := hide hh2
      have HH3 := hide hh3
      clear hh1 e1 hh2 e2 hh3 e3 hc1 hk1 Wr rp0 rp1
      go_wp2_with fail
      refine HK1.out.mono ?_
      rintro e w7 ⟨vc7, lc7, rfl, hW7, hh7, hl7, hf7⟩
      have F7 : Fr L [115, 52, 54] none w w7 := (HFr.out.wide (by simp)).fresh (hf7.wide (by simp)) (fun k hk => Nat.le_trans hz1 (HCRx.out k hk))
      have F17 : Fr L [115, 52, 54] none w1 w7 := (HF1r.out.wide (by simp)).fresh (hf7.wide (by simp)) HCRx.out
      have hp7 : PRow w7 w.heap.size (.slice op C.procs.length kp) C.procs := own_fr (ownsRow_below HPR5.out HBR.out) hf7 (by decide) (own_ne (ownsRow_below HCR5.out HBR.out) (ownsRow_below HPR5.out HBR.out) (by decide))
      have hq7 : HoldRow L w.heap.size w7 89 54 mkP vq lqs := by
        refine HH2.out.fr (T := [115, 52]) ((HFr.out.wide (by simp)).fresh (hf7.wide (by simp)) (fun k hk => Nat.le_trans hz1 (HCRx.out k hk))) (by decide) (by decide) (by simp) (.inl rfl)
      have hk2 := keepProcs_any L w.heap.size W w7 _ _ vp vc7 vq va lqs _ C.procs.length _ hW7 HL.out.lw hq7 hp7 hlp hLw F7.size (by rw [HE.out.2.1]; omega)
      have HK2 := hide hk2
      have HF7 := hide F7
      have HF17 := hide F17
      have HH7 := hide hh7
      have HL7 := hide hl7
      have HP7 := hide hp7
      clear F7 F17 hp7 hq7 hk2 hW7 hh7 hl7 hf7 HK1
      go_wp2_with fail
      refine HK2.out.mono ?_
      rintro e w8 ⟨vq8, lq8, rfl, hW8, hh8, hl8, hf8⟩
      have F8 : Fr L [115, 52, 54] none w w8 := HF7.out.fresh (hf8.wide (by simp)) (fun k hk => Nat.le_trans hz1 (HPRx.out k hk))
      have F18 : Fr L [115, 52, 54] none w1 w8 := HF17.out.fresh (hf8.wide (by simp)) HPRx.out
      have hc8 : HoldRow L w7.heap.size w8 99 52 mkC vc7 lc7 := by
        refine ⟨own_fr HH7.out.row hf8 (by decide) (own_ne HP7.out HH7.out.row (by decide)), HH7.out.three, fun i u hu => ?_⟩
        obtain ⟨n, q1, q2⟩ := HH7.out.full i u hu
        exact ⟨n, own_fr q1 hf8 (by decide) (own_ne HP7.out q1 (by decide)), q2⟩
      have HFIN : Hid (OpenedPost L W D w past (a, b, la, lb) nc nq na m C f (.returned (.tuple #[.slice ao 5 cap, .int .i64 m, .bool true])) w8) := by
        refine ⟨S, B, _, rfl, ⟨HL.out.lw, HL.out.ld, HL.out.disk.fr F8 (by decide) (by simp), vp, vc7, vq8, va, lc7, lq8, lxs, hW8, HPA.out.fr F8 (by decide) (by decide) (by decide), hc8.mono hf8.size, by rw [HL7.out, HE.out.1], hh8, by rw [hl8, HE.out.2.1], HH3.out.fr F8 (by decide) (by decide) (by simp) (.inl rfl), HE.out.2.2⟩, ?_, ?_, F8.below⟩
        · exact (HST.out.low' hLw).fr F18 (by decide) (by decide) (by decide) (by simp)
        · exact HAR.out.fr F18 (by decide) (.inl rfl)
      clear F8 F18 hc8 hW8 hh8 hl8 hf8 HK2
      go_wp2
      go_ret3
      exact HFIN.out
end Go.Proofs.YtellilpeakpbfabGreatDoor

end

section
/-
  The walk of Contents.Get.
-/
namespace Go.Proofs.YtellilpeakpbfabGreatDoor
open Go.RowKit

set_option maxHeartbeats 400000 in
theorem get_in (L B : Nat) (C : Jn.Con) (n : Nat) (w : World) (h : ConAt L w B C) (hn : n ≤ 99) :
    Calls Tryz.prog 59 #[.pointer (some ⟨B, 0, none⟩), .int .i64 n] w fun e w' => e = .returned (.tuple #[.int .i64 ((C.cells.getD n none).getD 0), .bool (C.cells.getD n none).isSome, .int .i64 0]) ∧ Below w.heap.size w w' := by
  obtain ⟨c0, c1, f0, f1⟩ := con_cell h n (by omega)
  have hk : Jn.isKey n = true := by unfold Jn.isKey; simp; omega
  have hc := isKey_any n
  rw [hk] at hc
  have HC := hide hc
  clear hc hk h
  generalize (C.cells.getD n none).isSome = b at *
  generalize (C.cells.getD n none).getD 0 = x at *
  go_enter Tryz.func59, Tryz.ntmps59
  go_wp2_with fail
  refine (HC.out _).mono ?_
  rintro e w1 ⟨rfl, rfl⟩
  go_wp2
  go_quiet (fail)
  go_wp2
  go_ret3
  exact ⟨rfl, below_drewN (Below.refl _ _) _⟩
set_option maxHeartbeats 400000 in
theorem get_out (B : Nat) (k : Int) (w : World) (hk : Jn.isKey k = false) :
    Calls Tryz.prog 59 #[.pointer (some ⟨B, 0, none⟩), .int .i64 k] w fun e w' => e = .returned (.tuple #[.int .i64 0, .bool false, .int .i64 5]) ∧ w' = w := by
  have hc := isKey_any k
  rw [hk] at hc
  have HC := hide hc
  clear hc hk
  go_enter Tryz.func59, Tryz.ntmps59
  go_wp2_with fail
  refine (HC.out _).mono ?_
  rintro e w1 ⟨rfl, rfl⟩
  go_wp2
  go_ret3
  exact ⟨rfl, rfl⟩

end Go.Proofs.YtellilpeakpbfabGreatDoor

end

section
/-
  The walks of the store's calls: tell, Put, Del, Get.
-/
namespace Go.Proofs.YtellilpeakpbfabGreatDoor
open Go.RowKit

set_option maxHeartbeats 400000 in
set_option maxRecDepth 100000 in
theorem tell_any (L S B : Nat) (C : Jn.Con) (f : Int) (s : ByteArray) (w : World) (h : StAt L w S B C f) (hs : s.size ≤ 100000) :
    Calls Tryz.prog 36 #[.pointer (some ⟨S, 0, none⟩), .string s] w fun e w' => ∃ v, e = .returned v ∧ ARow w' w.heap.size v [(1, f, Jn.record s.data.toList)] ∧ Below w.heap.size w w' := by
  obtain ⟨-, c1, -, -⟩ := h.cells
  have HR := hide (fun w => recordJ_any s w hs)
  clear h
  go_enter Tryz.func36, Tryz.ntmps36
  go_wp2
  go_region_held3 (fun w' => w'.cell? ⟨S, 1, none⟩ = some (.int .i64 f)) (go_keep) (first | (go_at_call 57; refine (HR.out _).mono ?_; rintro e w1 ⟨X, rfl, hX, -, rfl⟩))
  have HX := hide hX
  clear hX
  go_wp2
  go_ret
  refine ⟨_, rfl, arow_new w.drew w.heap.size (Nat.le_refl _) [(1, f, Jn.record s.data.toList)] 1 rfl _ ?_ (by decide), (Below.drew (Below.refl w.heap.size w)).alloc (Nat.le_refl _) _⟩
  simp only [acts3, List.flatMap_cons, List.flatMap_nil, ← HX.out]
  rfl

set_option maxHeartbeats 400000 in
set_option maxRecDepth 100000 in
theorem delJ_any (k : Int) (w : World) (h0 : -1000000000 ≤ k) (h1 : k ≤ 1000000000) (hP : PowAt w) :
    Calls Tryz.prog 82 #[.int .i64 k] w fun e w' => ∃ X : ByteArray, e = .returned (.string X) ∧ X.data.toList = Jn.delE k ∧ X.size ≤ 25 ∧ Below w.heap.size w w' := by
  have HK := hide (itoa_str k h0 h1 w hP)
  clear hP
  go_enter Tryz.func82, Tryz.ntmps82
  go_wp2_with fail
  refine HK.out.mono ?_
  rintro e w1 ⟨A, rfl, hA, hAs, hb⟩
  have HB := hide hb
  have HA := hide hA
  clear hb hA
  go_wp2
  go_ret
  refine ⟨_, rfl, ?_, ?_, HB.out⟩
  · simp only [app_list, HA.out]; rfl
  · simp only [ByteArray.size_append, one_size]; omega

theorem StAt.con' {L : Nat} {w w' : World} {S B : Nat} {C C' : Jn.Con} {f : Int} (h : StAt L w S B C f) (g : Fr L [123] none w w') (hc : ConAt L w' B C') : StAt L w' S B C' f :=
  ⟨h.low, h.file, g.block S _ _ _ h.mem (by decide) (by simp), hc⟩

theorem StAt.weakB {L : Nat} {w w' : World} {S B : Nat} {C : Jn.Con} {f : Int} (h : StAt L w S B C f) (g : Fr L [] (some B) w w') : Fr L [123] none w w' := by
  obtain ⟨cur, v0, hh, -⟩ := h.con.mem
  exact g.weak hh
theorem StAt.conB {L : Nat} {w w' : World} {S B : Nat} {C C' : Jn.Con} {f : Int} (h : StAt L w S B C f) (g : Fr L [] (some B) w w') (hc : ConAt L w' B C') : StAt L w' S B C' f := h.con' (h.weakB g) hc
/-- what a change answers: the contents behind it, the error, what is told; the contents' block alone is turned. -/
def ChgOwn (L S B : Nat) (C' : Jn.Con) (f er : Int) (es : List UInt8) (w : World) (e : Ending) (w' : World) : Prop :=
  ∃ v, e = .returned (.tuple #[v, .int .i64 er]) ∧ StAt L w' S B C' f ∧ Fr L [] (some B) w w' ∧ ((er ≠ 0 ∧ v = .slice none 0 0) ∨ (er = 0 ∧ ARow w' w.heap.size v [(1, f, Jn.record es)]))
/-- what a change answers: the contents behind it, the error, what is told. -/
def ChgPost (L S B : Nat) (C' : Jn.Con) (f er : Int) (es : List UInt8) (w : World) (e : Ending) (w' : World) : Prop :=
  ∃ v, e = .returned (.tuple #[v, .int .i64 er]) ∧ StAt L w' S B C' f ∧ Fr L [123] none w w' ∧ ((er ≠ 0 ∧ v = .slice none 0 0) ∨ (er = 0 ∧ ARow w' w.heap.size v [(1, f, Jn.record es)]))

set_option maxHeartbeats 1000000 in
set_option maxRecDepth 100000 in
theorem putS_own (L S B : Nat) (C : Jn.Con) (f k x : Int) (w : World) (h : StAt L w S B C f) (hP : PowAt w) (hpL : 1 < L) :
    Calls Tryz.prog 13 #[.pointer (some ⟨S, 0, none⟩), .int .i64 k, .int .i64 x] w (ChgOwn L S B (Jn.put C k x).1 f (Jn.put C k x).2 (Jn.putE k x) w) := by
  obtain ⟨c0, -, -, -⟩ := h.cells
  have hp := putC_own L B C k x w h.con
  have hval : (Jn.put C k x).2 = 0 → (0 ≤ k ∧ k ≤ 99) ∧ -1000000000 ≤ x ∧ x ≤ 1000000000 := by
    intro h0
    unfold Jn.put at h0
    split at h0
    · simp at h0
    · rename_i hk
      split at h0
      · simp at h0
      · rename_i hx
        unfold Jn.isKey at hk
        unfold Jn.isVal at hx
        simp at hk hx
        omega
  generalize Jn.put C k x = q at *
  obtain ⟨q1, q2⟩ := q
  have HP := hide hp
  have HH := hide h
  have HPW := hide hP
  have HV := hide hval
  clear hp h hP hval
  go_enter Tryz.func13, Tryz.ntmps13
  go_wp2_with fail
  refine HP.out.mono ?_
  rintro e w1 ⟨rfl, hc1, hf1⟩
  have HS1 := hide (HH.out.conB hf1 hc1)
  have HF1 := hide hf1
  clear hc1 hf1 HP
  cases ht : (q2 != (0 : Int)) with
  | true =>
    have HNE : Hid (q2 ≠ 0) := by show _ ≠ _; simpa using ht
    go_wp2
    go_ret2
    exact ⟨_, rfl, HS1.out, HF1.out, .inl ⟨HNE.out, rfl⟩⟩
  | false =>
    have h0 : q2 = 0 := by simpa using ht
    obtain ⟨⟨k0, k1⟩, x0, x1⟩ := HV.out h0
    have HE0 := hide h0
    have HPJ := hide (putJ_any k x w1 (by omega) (by omega) x0 x1 (HPW.out.below hpL HF1.out.below))
    clear h0
    go_wp2_with fail
    refine HPJ.out.mono ?_
    rintro e w2 ⟨X, rfl, hX, hXs, hb2⟩
    have HB2 := hide hb2
    have HX := hide hX
    have HTL := hide (tell_any L S B q1 f X w2 (HS1.out.below hb2) (by omega))
    clear hX hb2 HPJ
    go_wp2_with fail
    refine HTL.out.mono ?_
    rintro e w3 ⟨v, rfl, hr, hb3⟩
    obtain ⟨ao, cap, rfl, hnn, -⟩ := own_slice hr
    have HFIN : Hid (ChgOwn L S B q1 f 0 (Jn.putE k x) w (.returned (.tuple #[.slice ao 1 cap, .int .i64 0])) w3) := by
      have hL1 : L ≤ w1.heap.size := Nat.le_trans HS1.out.low (Nat.le_of_lt HS1.out.lt)
      refine ⟨_, rfl, (HS1.out.below HB2.out).below hb3, (HF1.out.trans (Fr.of HB2.out hL1)).trans (Fr.of hb3 (Nat.le_trans hL1 HB2.out.size)), .inr ⟨rfl, ?_⟩⟩
      rw [HX.out] at hr
      exact ownsRow_base hr (Nat.le_trans HF1.out.size HB2.out.size)
    clear hr hb3 HTL
    go_wp2
    go_ret2
    rw [HE0.out]
    exact HFIN.out

set_option maxHeartbeats 1000000 in
set_option maxRecDepth 100000 in
theorem delS_own (L S B : Nat) (C : Jn.Con) (f k : Int) (w : World) (h : StAt L w S B C f) (hP : PowAt w) (hpL : 1 < L) :
    Calls Tryz.prog 53 #[.pointer (some ⟨S, 0, none⟩), .int .i64 k] w (ChgOwn L S B (Jn.del C k).1 f (Jn.del C k).2 (Jn.delE k) w) := by
  obtain ⟨c0, -, -, -⟩ := h.cells
  have hp := delC_own L B C k w h.con
  have hval : (Jn.del C k).2 = 0 → 0 ≤ k ∧ k ≤ 99 := by
    intro h0
    unfold Jn.del at h0
    split at h0
    · simp at h0
    · rename_i hk
      unfold Jn.isKey at hk
      simp at hk
      omega
  generalize Jn.del C k = q at *
  obtain ⟨q1, q2⟩ := q
  have HP := hide hp
  have HH := hide h
  have HPW := hide hP
  have HV := hide hval
  clear hp h hP hval
  go_enter Tryz.func53, Tryz.ntmps53
  go_wp2_with fail
  refine HP.out.mono ?_
  rintro e w1 ⟨rfl, hc1, hf1⟩
  have HS1 := hide (HH.out.conB hf1 hc1)
  have HF1 := hide hf1
  clear hc1 hf1 HP
  cases ht : (q2 != (0 : Int)) with
  | true =>
    have HNE : Hid (q2 ≠ 0) := by show _ ≠ _; simpa using ht
    go_wp2
    go_ret2
    exact ⟨_, rfl, HS1.out, HF1.out, .inl ⟨HNE.out, rfl⟩⟩
  | false =>
    have h0 : q2 = 0 := by simpa using ht
    obtain ⟨k0, k1⟩ := HV.out h0
    have HE0 := hide h0
    have HPJ := hide (delJ_any k w1 (by omega) (by omega) (HPW.out.below hpL HF1.out.below))
    clear h0
    go_wp2_with fail
    refine HPJ.out.mono ?_
    rintro e w2 ⟨X, rfl, hX, hXs, hb2⟩
    have HB2 := hide hb2
    have HX := hide hX
    have HTL := hide (tell_any L S B q1 f X w2 (HS1.out.below hb2) (by omega))
    clear hX hb2 HPJ
    go_wp2_with fail
    refine HTL.out.mono ?_
    rintro e w3 ⟨v, rfl, hr, hb3⟩
    obtain ⟨ao, cap, rfl, hnn, -⟩ := own_slice hr
    have HFIN : Hid (ChgOwn L S B q1 f 0 (Jn.delE k) w (.returned (.tuple #[.slice ao 1 cap, .int .i64 0])) w3) := by
      have hL1 : L ≤ w1.heap.size := Nat.le_trans HS1.out.low (Nat.le_of_lt HS1.out.lt)
      refine ⟨_, rfl, (HS1.out.below HB2.out).below hb3, (HF1.out.trans (Fr.of HB2.out hL1)).trans (Fr.of hb3 (Nat.le_trans hL1 HB2.out.size)), .inr ⟨rfl, ?_⟩⟩
      rw [HX.out] at hr
      exact ownsRow_base hr (Nat.le_trans HF1.out.size HB2.out.size)
    clear hr hb3 HTL
    go_wp2
    go_ret2
    rw [HE0.out]
    exact HFIN.out

theorem ChgOwn.weak {L S B : Nat} {C C' : Jn.Con} {f f' er : Int} {es : List UInt8} {w : World} {e : Ending} {w' : World} (hst : StAt L w S B C f') (h : ChgOwn L S B C' f er es w e w') : ChgPost L S B C' f er es w e w' := by
  obtain ⟨v, h1, h2, h3, h4⟩ := h
  exact ⟨v, h1, h2, hst.weakB h3, h4⟩
theorem putS_any (L S B : Nat) (C : Jn.Con) (f k x : Int) (w : World) (h : StAt L w S B C f) (hP : PowAt w) (hpL : 1 < L) :
    Calls Tryz.prog 13 #[.pointer (some ⟨S, 0, none⟩), .int .i64 k, .int .i64 x] w (ChgPost L S B (Jn.put C k x).1 f (Jn.put C k x).2 (Jn.putE k x) w) := (putS_own L S B C f k x w h hP hpL).mono fun _ _ g => g.weak h
theorem delS_any (L S B : Nat) (C : Jn.Con) (f k : Int) (w : World) (h : StAt L w S B C f) (hP : PowAt w) (hpL : 1 < L) :
    Calls Tryz.prog 53 #[.pointer (some ⟨S, 0, none⟩), .int .i64 k] w (ChgPost L S B (Jn.del C k).1 f (Jn.del C k).2 (Jn.delE k) w) := (delS_own L S B C f k w h hP hpL).mono fun _ _ g => g.weak h

set_option maxHeartbeats 400000 in
theorem getS_in (L S B : Nat) (C : Jn.Con) (f : Int) (n : Nat) (w : World) (h : StAt L w S B C f) (hn : n ≤ 99) :
    Calls Tryz.prog 40 #[.pointer (some ⟨S, 0, none⟩), .int .i64 n] w fun e w' => e = .returned (.tuple #[.int .i64 ((C.cells.getD n none).getD 0), .bool (C.cells.getD n none).isSome, .int .i64 0]) ∧ Below w.heap.size w w' := by
  obtain ⟨c0, -, -, -⟩ := h.cells
  have HG := hide (get_in L B C n w h.con hn)
  clear h
  go_enter Tryz.func40, Tryz.ntmps40
  go_wp2_with fail
  refine HG.out.mono ?_
  rintro e w1 ⟨rfl, hb⟩
  have HB := hide hb
  clear hb
  go_wp2
  go_ret3
  exact ⟨rfl, HB.out⟩
set_option maxHeartbeats 400000 in
theorem getS_out (L S B : Nat) (C : Jn.Con) (f k : Int) (w : World) (h : StAt L w S B C f) (hk : Jn.isKey k = false) :
    Calls Tryz.prog 40 #[.pointer (some ⟨S, 0, none⟩), .int .i64 k] w fun e w' => e = .returned (.tuple #[.int .i64 0, .bool false, .int .i64 5]) ∧ Below w.heap.size w w' := by
  obtain ⟨c0, -, -, -⟩ := h.cells
  have HG := hide (get_out B k w hk)
  clear h hk
  go_enter Tryz.func40, Tryz.ntmps40
  go_wp2_with fail
  refine HG.out.mono ?_
  rintro e w1 ⟨rfl, rfl⟩
  go_wp2
  go_ret3
  exact ⟨rfl, Below.refl _ _⟩
end Go.Proofs.YtellilpeakpbfabGreatDoor

end
