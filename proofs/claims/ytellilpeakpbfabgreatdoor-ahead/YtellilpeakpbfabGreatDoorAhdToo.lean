import Derived.Test.YtellilpeakpbfabGreatDoorCrWToo
import Derived.Test.YtellilpeakpbfabGreatDoorSiteEToo
import Derived.Test.YtellilpeakpbfabGreatDoorSiteHToo
section
/-
  A store that is opened behind a crash, or gone over to the other file.
-/
set_option linter.unusedVariables false
namespace Go.Proofs.YtellilpeakpbfabGreatDoor
open Go.RowKit

theorem fit_len {C : Jn.Con} (h : Jn.Ok C) : (Jn.all C).length ≤ 100000 := Nat.le_trans (all_room h).1 (Nat.le_trans (all_room h).2 (by omega))
theorem moved_all {d : DS} {f : Int} {C : Jn.Con} {P : Jn.Con → Prop} (hd : DiskOk d f C) (hs : Safe d P) (hok : Jn.Ok C) (hf : f = 0 ∨ f = 1) :
    ∃ d', playL d (moveActs C f) = some d' ∧ DiskOk d' (1 - f) C ∧ Safe d' (· = C) ∧ d'.1.size + d'.2.1.size = (Jn.all C).length := by
  obtain ⟨d', hpd, hsafe⟩ := hs.moved hd hok (ok_plain hok) (fit_len hok)
  obtain ⟨d2, hpd2, hdk', hsz⟩ := DiskOk.move (d := d) (C := C) (f := f) hf hok (ok_plain hok) (fit_len hok)
  obtain rfl : d2 = d' := by rw [hpd2] at hpd; cases hpd; rfl
  exact ⟨d2, hpd2, hdk', hsafe, hsz⟩
theorem synced {d : DS} {f : Int} {C : Jn.Con} {P : Jn.Con → Prop} (hd : DiskOk d f C) (hs : Safe d P) :
    ∃ d', playL d [(2, f, [])] = some d' ∧ DiskOk d' f C ∧ Safe d' (· = C) ∧ d'.1 = d.1 ∧ d'.2.1 = d.2.1 := by
  obtain ⟨d', hp, hdk, hfi, e1, e2⟩ := hs.sync hd
  exact ⟨d', hp, hdk, hfi.safe hdk.two, e1, e2⟩

/-- the site's block stays behind a crash. -/
theorem site_crashed {L s S B D : Nat} {C : Jn.Con} {f : Int} {d : DS} {w w' : World} (h : SiteAt L w s S B D C f d) (g : Fr L [] (some D) w w') :
    w'.heap[s]? = some (.cells #[.pointer (some ⟨S, 0, none⟩), .pointer (some ⟨D, 0, none⟩)] 33 (0, 0)) := by
  have hm := h.mem
  have hD : w.heap[D]? = _ := h.disk
  exact g.block s _ _ _ hm (by simp) (fun e => by cases e; rw [hD] at hm; cases hm)

/-- what Open leaves behind a crash. -/
def AfterPost (P : Jn.Con → Prop) (L s D : Nat) (w : World) (e : Ending) (w' : World) : Prop :=
  e = .returned (.bool true) ∧ ∃ C' S' B' f' d', P C' ∧ SiteAt L w' s S' B' D C' f' d' ∧ DiskOk d' f' C' ∧ Safe d' (· = C') ∧ d'.1.size + d'.2.1.size = (Jn.all C').length ∧ FrX L [s, D] w w'

theorem reopen_after {L s S B D : Nat} {C : Jn.Con} {f : Int} {d : DS} {w w1 : World} {P : Jn.Con → Prop} (h : SiteAt L w s S B D C f d) (hs : Safe d P) (h1 : d.1.size ≤ 1152921504606846976) (h2 : d.2.1.size ≤ 1152921504606846976)
    (hP : PowAt w) (hWd : WordsAt w) (hpL : 1 < L) (n m : Nat) (n1 : d.2.2.1 ≤ n) (n2 : n ≤ d.1.size) (m1 : d.2.2.2 ≤ m) (m2 : m ≤ d.2.1.size) (hd1 : DsAt w1 D (cutDS d n m)) (g1 : Fr L [] (some D) w w1) :
    Calls Tryz.prog 17 #[.pointer (some ⟨s, 0, none⟩)] w1 (AfterPost P L s D w) := by
  obtain ⟨hfirm, C', f', hC', hrd⟩ := hs.crash n m n1 n2 m1 m2
  have hwl : 0 < L := Nat.lt_of_le_of_lt (by decide) hpL
  have z1 : (cutDS d n m).1.size ≤ 1152921504606846976 := by show (d.1.extract 0 n).size ≤ _; rw [ext_size _ _ n2]; omega
  have z2 : (cutDS d n m).2.1.size ≤ 1152921504606846976 := by show (d.2.1.extract 0 m).size ≤ _; rw [ext_size _ _ m2]; omega
  refine (reopen_any L s D _ w1 (cutDS d n m) C' f' (site_crashed h g1) hd1 h.low ⟨_, rfl⟩ hrd (hWd.below hwl g1.below) (hP.below hpL g1.below) z1 z2).mono ?_
  rintro e w2 ⟨rfl, S', B', d', hs2, hpl, hdk, hsz, hx, -, -⟩
  have hok := hs2.st.con.ok
  obtain ⟨d2, hp2, hsafe⟩ := hfirm.move hrd hok (ok_plain hok) (fit_len hok) 5
  rw [show (moveActs C' f').take 5 = moveActs C' f' from rfl, hpl] at hp2
  cases hp2
  exact ⟨rfl, C', S', B', 1 - f', d', hC', hs2, hdk, hsafe, hsz, ((FrX.one g1).trans hx).mono (by simp)⟩

/-- a crash of a site's files. -/
theorem site_crash {L s S B D : Nat} {C : Jn.Con} {f : Int} {d : DS} {w : World} {P : Jn.Con → Prop} (x y : Int) (h : SiteAt L w s S B D C f d) (hs : Safe d P) (h1 : d.1.size ≤ 1152921504606846976) (h2 : d.2.1.size ≤ 1152921504606846976)
    (hP : PowAt w) (hWd : WordsAt w) (hpL : 1 < L) (x0 : -9223372036854775808 ≤ x) (x1 : x ≤ 9223372036854775807) (y0 : -9223372036854775808 ≤ y) (y1 : y ≤ 9223372036854775807) :
    Calls Tryz.prog 16 #[.pointer (some ⟨D, 0, none⟩), .int .i64 x, .int .i64 y] w fun e w' => e = .returned (.tuple #[]) ∧ (w'.cell? ⟨s, 1, none⟩ = some (.pointer (some ⟨D, 0, none⟩)) ∧ Below L w w') ∧ Calls Tryz.prog 17 #[.pointer (some ⟨s, 0, none⟩)] w' (AfterPost P L s D w) := by
  refine (crash_any L D w d x y h.disk h.low.2 hs.1 h1 h2 x0 x1 y0 y1).mono ?_
  rintro e w1 ⟨rfl, n, m, n1, n2, m1, m2, hd1, g1⟩
  exact ⟨rfl, ⟨(cell_of_row w1 s 1 _ _ _ (site_crashed h g1)).trans rfl, g1.below⟩, reopen_after h hs h1 h2 hP hWd hpL n m n1 n2 m1 m2 hd1 g1⟩

/-- all a site is, between two steps of a law. -/
structure Hd (L s S B D : Nat) (C : Jn.Con) (f : Int) (d : DS) (P : Jn.Con → Prop) (n : Nat) (w0 w : World) : Prop where
  site : SiteAt L w s S B D C f d
  tells : DiskOk d f C
  safe : Safe d P
  size : d.1.size + d.2.1.size ≤ n
  low : Below L w0 w
  pow : PowAt w
  words : WordsAt w
  pL : 1 < L
theorem Hd.below {L s S B D : Nat} {C : Jn.Con} {f : Int} {d : DS} {P : Jn.Con → Prop} {n : Nat} {w0 w w' : World} (h : Hd L s S B D C f d P n w0 w) (hb : Below w.heap.size w w') : Hd L s S B D C f d P n w0 w' :=
  ⟨h.site.below hb, h.tells, h.safe, h.size, h.low.trans (hb.mono h.site.lowL), h.pow.below h.pow.1 hb, h.words.below h.words.1 hb, h.pL⟩
theorem Hd.ok {L s S B D : Nat} {C : Jn.Con} {f : Int} {d : DS} {P : Jn.Con → Prop} {n : Nat} {w0 w : World} (h : Hd L s S B D C f d P n w0 w) : Jn.Ok C := h.site.st.con.ok
theorem Hd.cells {L s S B D : Nat} {C : Jn.Con} {f : Int} {d : DS} {P : Jn.Con → Prop} {n : Nat} {w0 w : World} (h : Hd L s S B D C f d P n w0 w) :
    w.cell? ⟨s, 0, none⟩ = some (.pointer (some ⟨S, 0, none⟩)) ∧ w.cell? ⟨s, 1, none⟩ = some (.pointer (some ⟨D, 0, none⟩)) := h.site.cells
theorem Hd.step {L s S B D S' B' : Nat} {C C' : Jn.Con} {f f' : Int} {d d' : DS} {P Q : Jn.Con → Prop} {n m : Nat} {w0 w w' : World} (h : Hd L s S B D C f d P n w0 w) (hs : SiteAt L w' s S' B' D C' f' d') (ht : DiskOk d' f' C') (hsf : Safe d' Q) (hz : d'.1.size + d'.2.1.size ≤ m) (hx : Below L w w') : Hd L s S' B' D C' f' d' Q m w0 w' :=
  ⟨hs, ht, hsf, hz, h.low.trans hx, h.pow.below h.pL hx, h.words.below (Nat.lt_of_le_of_lt (by decide) h.pL) hx, h.pL⟩
/-- .. behind live. -/
theorem Hd.start {L s S B D : Nat} {C : Jn.Con} {f : Int} {d : DS} {n : Nat} {w0 w : World} (hs : SiteAt L w s S B D C f d) (hd : DiskFit d f C n) (hb : Below L w0 w) (hP : PowAt w0) (hWd : WordsAt w0) (hpL : 1 < L) : Hd L s S B D C f d Jn.Ok n w0 w :=
  ⟨hs, hd.1, hd.2.1, hd.2.2, hb, hP.below hpL hb, hWd.below (Nat.lt_of_le_of_lt (by decide) hpL) hb, hpL⟩

theorem slice_of {w : World} {b : Nat} {v : Value} {l : List ActP} (h : ARow w b v l) : ∃ vo vn vk, v = .slice vo vn vk := by obtain ⟨x, y, e, -⟩ := h.shape; exact ⟨x, _, y, e⟩

theorem site_sync {L s S B D : Nat} {C : Jn.Con} {f : Int} {d : DS} {P : Jn.Con → Prop} {n : Nat} {w0 w : World} (h : Hd L s S B D C f d P n w0 w) :
    Calls Tryz.prog 15 #[.pointer (some ⟨S, 0, none⟩)] w fun e w1 => ∃ vo vn vk, e = .returned (.slice vo vn vk) ∧ (w1.cell? ⟨s, 1, none⟩ = some (.pointer (some ⟨D, 0, none⟩)) ∧ w1.cell? ⟨s, 0, none⟩ = some (.pointer (some ⟨S, 0, none⟩))) ∧
      Calls Tryz.prog 14 #[.pointer (some ⟨D, 0, none⟩), .slice vo vn vk] w1 fun e w2 => e = .returned (.bool true) ∧ ∃ d', Hd L s S B D C f d' (· = C) n w0 w2 ∧ Fr L siteT none w w2 ∧ d'.1 = d.1 ∧ d'.2.1 = d.2.1 := by
  obtain ⟨d', hp, hdk, hsf, e1, e2⟩ := synced h.tells h.safe
  refine (sync_any L S B C f w h.site.st).mono ?_
  rintro e w1 ⟨v, rfl, har, hb⟩
  obtain ⟨vo, vn, vk, rfl⟩ := slice_of har
  have hs1 := h.site.below hb
  refine ⟨vo, vn, vk, rfl, ⟨hs1.cells.2, hs1.cells.1⟩, (allD_own L D w.heap.size d d' _ [(2, f, [])] w1 hs1.disk h.site.low.2 har (by simp) hp).mono ?_⟩
  rintro e w2 ⟨rfl, hd2, g2⟩
  obtain ⟨hs2, hx⟩ := site_change (d' := d') (w3 := w2) h.site hs1.st (Fr.of hb h.site.lowL) hd2 g2
  exact ⟨rfl, d', h.step hs2 hdk hsf (by rw [e1, e2]; exact h.size) hx.below, hx.typed siteT h.site.types, e1, e2⟩

theorem site_compact {L s S B D : Nat} {C : Jn.Con} {f : Int} {d : DS} {P : Jn.Con → Prop} {n : Nat} {w0 w : World} (h : Hd L s S B D C f d P n w0 w) :
    Calls Tryz.prog 20 #[.pointer (some ⟨S, 0, none⟩)] w fun e w1 => ∃ vo vn vk, e = .returned (.slice vo vn vk) ∧ (w1.cell? ⟨s, 1, none⟩ = some (.pointer (some ⟨D, 0, none⟩)) ∧ w1.cell? ⟨s, 0, none⟩ = some (.pointer (some ⟨S, 0, none⟩))) ∧
      Calls Tryz.prog 14 #[.pointer (some ⟨D, 0, none⟩), .slice vo vn vk] w1 fun e w2 => e = .returned (.bool true) ∧ ∃ d', Hd L s S B D C (1 - f) d' (· = C) (room C) w0 w2 ∧ Fr L siteT none w w2 := by
  obtain ⟨d', hp, hdk, hsf, hz⟩ := moved_all h.tells h.safe h.ok h.site.st.file
  refine (compact_own L S B C f w h.site.st h.pow h.pL).mono ?_
  rintro e w1 ⟨v, rfl, har, hst, hfr⟩
  obtain ⟨vo, vn, vk, rfl⟩ := slice_of har
  obtain ⟨hm1, hd1⟩ := move_stay h.site hfr
  refine ⟨vo, vn, vk, rfl, ⟨(cell_of_row w1 s 1 _ _ _ hm1).trans rfl, (cell_of_row w1 s 0 _ _ _ hm1).trans rfl⟩, (allD_own L D w.heap.size d d' _ (moveActs C f) w1 hd1 h.site.low.2 har (by simp [moveActs]) hp).mono ?_⟩
  rintro e w2 ⟨rfl, hd2, g2⟩
  obtain ⟨hs2, hx⟩ := site_move (C' := C) (f' := 1 - f) (d' := d') (wp := w1) (w3 := w2) h.site hst hfr hd2 g2
  exact ⟨rfl, d', h.step hs2 hdk hsf (by rw [hz]; exact (all_room h.ok).1) hx.below, hx.typed siteT h.site.types⟩

theorem put_zero (C : Jn.Con) (k v : Int) (hk : Jn.isKey k = true) (hv : Jn.isVal v = true) : (Jn.put C k v).2 = 0 := by unfold Jn.put; simp [hk, hv]
theorem stay_site {L s S B D : Nat} {C : Jn.Con} {f : Int} {d : DS} {w1 wp : World} (h : SiteAt L w1 s S B D C f d) (g : Fr L [] (some B) w1 wp) :
    wp.heap[s]? = some (.cells #[.pointer (some ⟨S, 0, none⟩), .pointer (some ⟨D, 0, none⟩)] 33 (0, 0)) ∧ DsAt wp D d := by
  obtain ⟨cb, vb, hB, -⟩ := h.st.con.mem
  have hm := h.mem
  have hD : w1.heap[D]? = _ := h.disk
  exact ⟨g.block s _ _ _ hm (by simp) (fun e => by cases e; rw [hB] at hm; cases hm), g.block D _ _ _ hD (by simp) (fun e => by cases e; rw [hB] at hD; cases hD)⟩
theorem Hd.changed {L s S B D : Nat} {C C' : Jn.Con} {f : Int} {d : DS} {P : Jn.Con → Prop} {n : Nat} {w0 w w1 : World} {es : List UInt8} {v : Value} (h : Hd L s S B D C f d P n w0 w) (hC : P C) (hn : n ≤ 1000000000000000000) (hst : StAt L w1 S B C' f) (hfr : Fr L [] (some B) w w1) (har : ARow w1 w.heap.size v [(1, f, Jn.record es)]) (hno : 46 ∉ es) (hre : Jn.redo C es = some C') (hl : es.length ≤ 900) :
    (w1.cell? ⟨s, 1, none⟩ = some (.pointer (some ⟨D, 0, none⟩)) ∧ w1.cell? ⟨s, 0, none⟩ = some (.pointer (some ⟨S, 0, none⟩))) ∧
    Calls Tryz.prog 14 #[.pointer (some ⟨D, 0, none⟩), v] w1 fun e w2 => e = .returned (.bool true) ∧ ∃ d', Hd L s S B D C' f d' (fun X => P X ∨ X = C') (n + 2000) w0 w2 ∧ Fr L siteT none w w2 := by
  have hsz := h.size
  obtain ⟨d', hp, hdk, z1, z2⟩ := h.tells.change hno hre (by omega)
  have hsf := h.safe.change h.tells hC hno hre hp
  obtain ⟨hm1, hd1⟩ := stay_site h.site hfr
  refine ⟨⟨(cell_of_row w1 s 1 _ _ _ hm1).trans rfl, (cell_of_row w1 s 0 _ _ _ hm1).trans rfl⟩, (allD_own L D w.heap.size d d' _ _ w1 hd1 h.site.low.2 har (by simp) hp).mono ?_⟩
  rintro e w2 ⟨rfl, hd2, g2⟩
  obtain ⟨hs2, hx⟩ := site_change (d' := d') (w3 := w2) h.site hst hfr hd2 g2
  exact ⟨rfl, d', h.step hs2 hdk hsf (by omega) hx.below, hx.typed siteT h.site.types⟩
theorem site_put {L s S B D : Nat} {C : Jn.Con} {f : Int} {d : DS} {P : Jn.Con → Prop} {n : Nat} {w0 w : World} (h : Hd L s S B D C f d P n w0 w) (hC : P C) (hn : n ≤ 1000000000000000000) (k v : Int) (hk : Jn.isKey k = true) (hv : Jn.isVal v = true) :
    Calls Tryz.prog 13 #[.pointer (some ⟨S, 0, none⟩), .int .i64 k, .int .i64 v] w fun e w1 => ∃ vo vn vk, e = .returned (.tuple #[.slice vo vn vk, .int .i64 0]) ∧ (w1.cell? ⟨s, 1, none⟩ = some (.pointer (some ⟨D, 0, none⟩)) ∧ w1.cell? ⟨s, 0, none⟩ = some (.pointer (some ⟨S, 0, none⟩))) ∧
      Calls Tryz.prog 14 #[.pointer (some ⟨D, 0, none⟩), .slice vo vn vk] w1 fun e w2 => e = .returned (.bool true) ∧ ∃ d', Hd L s S B D (Jn.put C k v).1 f d' (fun X => P X ∨ X = (Jn.put C k v).1) (n + 2000) w0 w2 ∧ Fr L siteT none w w2 := by
  have hpw := put_zero C k v hk hv
  obtain ⟨hre, hno, hlen⟩ := put_redo C _ _ hpw
  have hps := putS_own L S B C f k v w h.site.st h.pow h.pL
  rw [hpw] at hps
  refine hps.mono ?_
  rintro e w1 ⟨va, rfl, hst, hfr, hor⟩
  have har : ARow w1 w.heap.size va [(1, f, Jn.record (Jn.putE k v))] := by
    rcases hor with ⟨g, -⟩ | ⟨-, g⟩
    · exact absurd rfl g
    · exact g
  obtain ⟨vo, vn, vk, rfl⟩ := slice_of har
  obtain ⟨h1, h2⟩ := h.changed hC hn hst hfr har hno hre (by omega)
  exact ⟨vo, vn, vk, rfl, h1, h2⟩
/-- a crash, and Open. -/
theorem Hd.crashK {L s S B D : Nat} {C : Jn.Con} {f : Int} {d : DS} {P : Jn.Con → Prop} {n : Nat} {w0 w : World} (h : Hd L s S B D C f d P n w0 w) (hn : n ≤ 1100000000000000000) (x y : Int) (x0 : -9223372036854775808 ≤ x) (x1 : x ≤ 9223372036854775807) (y0 : -9223372036854775808 ≤ y) (y1 : y ≤ 9223372036854775807) :
    Calls Tryz.prog 16 #[.pointer (some ⟨D, 0, none⟩), .int .i64 x, .int .i64 y] w fun e w1 => e = .returned (.tuple #[]) ∧ (w1.cell? ⟨s, 1, none⟩ = some (.pointer (some ⟨D, 0, none⟩)) ∧ Below L w0 w1) ∧
      Calls Tryz.prog 17 #[.pointer (some ⟨s, 0, none⟩)] w1 fun e w2 => e = .returned (.bool true) ∧ ∃ C' S' B' f' d', P C' ∧ Hd L s S' B' D C' f' d' (· = C') (room C') w0 w2 ∧ Fr L siteT none w w2 := by
  have hsz := h.size
  refine (site_crash x y h.site h.safe (by omega) (by omega) h.pow h.words h.pL x0 x1 y0 y1).mono ?_
  rintro e w1 ⟨rfl, ⟨k1, k2⟩, hc⟩
  refine ⟨rfl, ⟨k1, h.low.trans k2⟩, hc.mono ?_⟩
  rintro e w2 ⟨rfl, C', S', B', f', d', hC, hs, hdk, hsafe, hz, hx⟩
  exact ⟨rfl, C', S', B', f', d', hC, h.step hs hdk hsafe (by rw [hz]; exact (all_room hs.st.con.ok).1) hx.below, hx.typed siteT (fun x hx => h.site.types x (by simp only [List.mem_cons, List.not_mem_nil, or_false] at hx ⊢; rcases hx with rfl | rfl <;> simp))⟩

/-- a crash, and Open. -/
theorem Hd.crash {L s S B D : Nat} {C : Jn.Con} {f : Int} {d : DS} {P : Jn.Con → Prop} {n : Nat} {w0 w : World} (h : Hd L s S B D C f d P n w0 w) (hn : n ≤ 1100000000000000000) (x y : Int) (x0 : -9223372036854775808 ≤ x) (x1 : x ≤ 9223372036854775807) (y0 : -9223372036854775808 ≤ y) (y1 : y ≤ 9223372036854775807) :
    Calls Tryz.prog 16 #[.pointer (some ⟨D, 0, none⟩), .int .i64 x, .int .i64 y] w fun e w1 => e = .returned (.tuple #[]) ∧
      Calls Tryz.prog 17 #[.pointer (some ⟨s, 0, none⟩)] w1 fun e w2 => e = .returned (.bool true) ∧ ∃ C' S' B' f' d', P C' ∧ Hd L s S' B' D C' f' d' (· = C') (room C') w0 w2 ∧ Fr L siteT none w w2 :=
  (h.crashK hn x y x0 x1 y0 y1).mono fun e w1 ⟨h1, _, h2⟩ => ⟨h1, h2⟩

/-- two lists as they came out. -/
def Rows2 (w : World) (vc vp : Value) (C : Jn.Con) : Prop := ∃ a b, CRow w a vc C.list ∧ PRow w b vp C.procs
theorem Rows2.fr {L : Nat} {w w' : World} {vc vp : Value} {C : Jn.Con} (h : Rows2 w vc vp C) (g : Fr L siteT none w w') : Rows2 w' vc vp C := by
  obtain ⟨a, b, h1, h2⟩ := h
  exact ⟨a, b, own_fr h1 g (by decide) (.inl rfl), own_fr h2 g (by decide) (.inl rfl)⟩
theorem Rows2.below {w w' : World} {vc vp : Value} {C : Jn.Con} (h : Rows2 w vc vp C) (g : Below w.heap.size w w') : Rows2 w' vc vp C := h.fr (Fr.of (L := 0) g (Nat.zero_le _))
theorem site_lists {L s S B D : Nat} {C : Jn.Con} {f : Int} {d : DS} {P : Jn.Con → Prop} {n : Nat} {w0 w : World} (h : Hd L s S B D C f d P n w0 w) :
    Calls Tryz.prog 25 #[.pointer (some ⟨S, 0, none⟩)] w fun e w1 => ∃ co cn ck, e = .returned (.slice co cn ck) ∧ Below w.heap.size w w1 ∧
      Calls Tryz.prog 26 #[.pointer (some ⟨S, 0, none⟩)] w1 fun e w2 => ∃ po pn pk, e = .returned (.slice po pn pk) ∧ Below w.heap.size w w2 ∧ Rows2 w2 (.slice co cn ck) (.slice po pn pk) C := by
  refine (cellsS_any L S B C f w h.site.st).mono ?_
  rintro e w1 ⟨v, rfl, hr, hb⟩
  obtain ⟨co, ck, rfl⟩ := crow_slice hr
  refine ⟨co, _, ck, rfl, hb, (procsS_any L S B C f w1 (h.site.st.below hb)).mono ?_⟩
  rintro e w2 ⟨v, rfl, hr2, hb2⟩
  obtain ⟨po, pk, rfl, -⟩ := hr2.shape
  exact ⟨po, _, pk, rfl, below_then hb hb2, _, _, hr.below hb2, hr2⟩
theorem rows_same {w : World} {vc vp vd vq : Value} {C : Jn.Con} (h : Rows2 w vc vp C) (g : Rows2 w vd vq C) (hok : Jn.Ok C) :
    Calls Tryz.prog 28 #[vc, vd] w fun e w1 => e = .returned (.bool true) ∧ Below w.heap.size w w1 ∧ Calls Tryz.prog 29 #[vp, vq] w1 fun e w2 => e = .returned (.bool true) ∧ Below w.heap.size w w2 := by
  obtain ⟨a, b, h1, h2⟩ := h
  obtain ⟨a', b', g1, g2⟩ := g
  refine (ksameC a a' vc vd C w h1 g1 hok).mono ?_
  rintro e w1 ⟨rfl, hb⟩
  refine ⟨rfl, hb, (ksameP b b' vp vq C w1 (h2.below hb) (g2.below hb) hok).mono ?_⟩
  rintro e w2 ⟨rfl, hb2⟩
  exact ⟨rfl, below_then hb hb2⟩

set_option maxHeartbeats 2000000 in
set_option maxRecDepth 100000 in
theorem bytes_any (w : World) (vc vp : Value) (C : Jn.Con) (h : Rows2 w vc vp C) (hok : Jn.Ok C) :
    Calls Tryz.prog 30 #[vc, vp] w fun e w' => e = .returned (.int .i64 (room C : Int)) ∧ Below w.heap.size w w' := by
  obtain ⟨a, b, h1, h2⟩ := h
  obtain ⟨o1, k1, rfl⟩ := crow_slice h1
  obtain ⟨o2, k2, rfl, hcs⟩ := h2.shape
  have hcn := hok.cnt
  have hl1 : C.list.length ≤ 100 := Nat.le_trans (list_len _ _) (Nat.le_of_eq hok.len)
  have hpb := fun p hp => (proc_bd hok p hp).2
  have hr3 := (all_room hok).2
  unfold room at hr3 ⊢
  have HC := hide hcs
  have HPB := hide hpb
  clear hcs h1 h2 hok hpb
  generalize C.procs = ps at *
  generalize C.list.length = nl at *
  go_enter Tryz.func30, Tryz.ntmps30
  go_wp2
  go_loop [5, 6] (fun n i => SmRel ps (64 + 32 * nl) n i) (fun _ i => ps.length - (intOf i).toNat)
  case atStart => exact ⟨0, Nat.zero_le _, rfl, by simp [roomP]⟩
  case round =>
    obtain ⟨k, hk, rfl, rfl⟩ := hrel
    have hrk : roomP (ps.take k) ≤ roomP ps := by
      have := roomP_app (ps.take k) (ps.drop k)
      rw [List.take_append_drop] at this
      omega
    by_cases hlt : k < ps.length
    · obtain ⟨g, cur, rfl, -, -, hcc⟩ := HC.out (by omega)
      obtain ⟨p, hp⟩ : ∃ p, ps[k]? = some p := ⟨ps[k], by simp [hlt]⟩
      obtain ⟨-, d2⟩ := hcc k p hp
      have hpl := HPB.out p (List.mem_of_getElem? hp)
      have HT := hide (roomP_take ps k p hp)
      clear hcc hp
      obtain ⟨p1, p2⟩ := p
      simp only [T] at d2 hpl
      obtain ⟨q2, hq2⟩ : ∃ q : ByteArray, q = ⟨p2.toArray⟩ := ⟨_, rfl⟩
      have hqs : q2.size = p2.length := by rw [hq2]; rfl
      rw [← hq2] at d2
      have hqb : q2.size ≤ 1000 := by omega
      have HQ := hide hqs
      clear hq2 hqs
      generalize roomP (ps.take k) = z at *
      go_wp2
      go_round
      case rel => exact ⟨k + 1, by omega, by go_num, by rw [HT.out]; simp only; rw [← HQ.out]; go_num⟩
      case measure => simp [intOf]; omega
    · have hkl : ps.take k = ps := List.take_of_length_le (by omega)
      obtain ⟨z, hz⟩ : ∃ z, z = roomP ps := ⟨_, rfl⟩
      rw [hkl, ← hz]
      have hzb : z ≤ 30000 := by omega
      have HZ := hide hz
      clear hkl hrk hz
      go_wp2
      go_ret
      refine ⟨?_, Below.refl _ _⟩
      rw [← HZ.out]
      rfl
end Go.Proofs.YtellilpeakpbfabGreatDoor

end

section
/-
  Ahead.
-/
set_option linter.unusedVariables false
namespace Go.Proofs.YtellilpeakpbfabGreatDoor
open Go.RowKit

theorem bytes_eq {a b : ByteArray} (h : (a.toList == b.toList) = true) : a = b := by
  rw [ByteArray.toList_eq, ByteArray.toList_eq] at h
  have h2 : a.data.toList = b.data.toList := by simpa using h
  cases a
  cases b
  simp only at h2
  congr 1
  exact Array.toList_inj.1 h2

set_option maxHeartbeats 8000000 in
set_option maxRecDepth 100000 in
theorem ahead_any (w : World) (a b : ByteArray) (v : Value) (ps : List (Int × Int × Int)) (hv : StepsOf w v ps) (hP : PowAt w) (hWd : WordsAt w) (ha : a.size ≤ 1152921504606846976) (hb : b.size ≤ 1152921504606846976) :
    Calls Tryz.prog 7 #[.string a, .string b, v] w fun e w' => e = .returned (.bool true) ∧ Below w.heap.size w w' := by
  have HOP := hide (open_any a b w hWd hP ha hb)
  have HLV := hide (fun x (hx : Below w.heap.size w x) => live_any x v ps (hv.below hx) (hP.below hP.1 hx) (hWd.below hWd.1 hx))
  have hlen : ps.length ≤ 6000000000000 := by obtain ⟨_, _, _, _, _, h⟩ := hv; exact h
  obtain ⟨vo, vcap, hvs, -⟩ := hv
  have HST := hide (fun s S B D C f d n w0 w1 (h0 : Below w.heap.size w w0) (hs : SiteAt w0.heap.size w1 s S B D C f d) (hd : DiskFit d f C n) (hb : Below w0.heap.size w0 w1) => Hd.start hs hd hb (hP.below hP.1 h0) (hWd.below hWd.1 h0) (Nat.lt_of_lt_of_le hP.1 h0.size))
  clear hP hWd
  subst hvs
  go_enter Tryz.func7, Tryz.ntmps7
  go_wp2_with fail
  refine HOP.out.mono ?_
  rintro e w1 ⟨hb1, hor⟩
  rcases hor with ⟨C2, f2, S', B', va, hrd, hx1, har, rfl⟩ | ⟨hrd, rfl⟩
  · obtain ⟨xo, xn, xk, rfl⟩ := slice_of har
    have HX1 := hide hx1
    have HRD := hide hrd
    have HB1 := hide hb1
    have HL1 := hide (HLV.out w1 hb1)
    clear hx1 hrd hb1 har HLV HOP
    go_wp2_with fail
    refine HL1.out.mono ?_
    rintro e w2 ⟨s, S, B, D, f, d, rfl, hs, hd, -, hb2⟩
    have h2 := HST.out _ _ _ _ _ _ _ _ _ _ HB1.out hs hd hb2
    obtain ⟨C, hC0⟩ : ∃ C, C = ps.foldl Kp.play Jn.none0 := ⟨_, rfl⟩
    rw [← hC0] at h2
    have HSY := hide (fun x (hx : Below w2.heap.size w2 x) => site_sync (h2.below hx))
    obtain ⟨c0, c1⟩ := h2.cells
    clear hs hd hb2 h2 hC0 HL1 HST
    go_wp2_with fail
    go_region_held3 (fun w' => w'.cell? ⟨s, 1, none⟩ = some (.pointer (some ⟨D, 0, none⟩)) ∧ w'.cell? ⟨s, 0, none⟩ = some (.pointer (some ⟨S, 0, none⟩)))
      (first | with_reducible exact hk1 | exact ⟨h9.cells.2, h9.cells.1⟩ | go_keep)
      (first | (go_at_call 15; refine (HSY.out _ (by first | exact Below.refl _ _ | exact Below.drew (Below.refl _ _))).mono ?_; rintro e wp ⟨yo, yn, yk, rfl, hk1, hall⟩) | (go_at_call 14; refine hall.mono ?_; rintro e w9 ⟨rfl, d9, h9, -⟩))
    clear hk1 hall HSY c0 c1
    obtain ⟨c0, c1⟩ := h9.cells
    obtain ⟨q0, q1, -, -⟩ := DAt.cell h9.site.disk
    have HH := hide h9
    have hbx := below_then HB1.out h9.low
    have HFIN := hide hbx
    have hxx := HX1.out.below h9.low
    have HX := hide hxx
    have HOK := hide h9.ok
    have HTW := hide h9.tells.two
    clear h9 hbx hxx HX1
    obtain ⟨x1, x2, x3, x4⟩ := d9
    simp only at q0 q1 HTW
    cases t1 : (x1.toList == a.toList) with
    | false =>
      go_wp2_with fail
      go_ret
      exact ⟨rfl, HFIN.out⟩
    | true =>
    cases t2 : (x2.toList == b.toList) with
    | false =>
      go_wp2_with fail
      go_ret
      exact ⟨rfl, HFIN.out⟩
    | true =>
      have ea := bytes_eq t1
      have eb := bytes_eq t2
      have hCC : C = C2 := by
        have h := HTW.out
        rw [ea, eb, HRD.out] at h
        cases h
        rfl
      subst hCC
      clear HTW HRD ea eb HFIN
      have HA1 := hide (fun x (hx : Below w9.heap.size w9 x) => cellsS_any _ S' B' _ _ x (HX.out.below hx))
      have HA2 := hide (fun x (hx : Below w9.heap.size w9 x) => cellsS_any _ S B _ f x (HH.out.below hx).site.st)
      have HSM := hide (fun x p q va vb hp hq => ksameC p q va vb C x hp hq HOK.out)
      obtain ⟨c0, c1⟩ := HH.out.cells
      have HK := hide (fun x (hx : Below w9.heap.size w9 x) => at_old hx c0)
      go_wp2_with fail
      go_region_held3 (fun w' => w'.cell? ⟨s, 0, none⟩ = some (.pointer (some ⟨S, 0, none⟩)))
        (first | with_reducible exact HK.out _ hbc | with_reducible exact HK.out _ hbb | with_reducible exact HK.out _ hba | go_keep)
        (first | (go_at_call 25; (with_reducible refine (HA1.out _ ?hb).mono ?_); (case hb => first | exact Below.refl _ _ | exact Below.drew (Below.refl _ _)); rintro e xa ⟨va, rfl, hra, hba0⟩; have hba : Below w9.heap.size w9 xa := (by first | with_reducible exact hba0 | exact below_undrew hba0)) | (go_at_call 25; (with_reducible refine (HA2.out _ ?hb).mono ?_); (case hb => first | exact hba | exact Below.drew hba); rintro e xb ⟨vb, rfl, hrb, hbb0⟩; have hbb : Below w9.heap.size w9 xb := below_then hba hbb0) | (go_at_call 28; refine (HSM.out _ _ _ _ _ (hra.below hbb0) hrb).mono ?_; rintro e w10 ⟨rfl, hbc0⟩; have hbc : Below w9.heap.size w9 w10 := below_then hbb hbc0))
      have hw10 := HH.out.below hbc
      have xw10 := HX.out.below hbc
      clear hra hrb hba hbb hbc hba0 hbb0 hbc0 HA1 HA2 HSM c0 c1 HK HH HX
      have HH := hide hw10
      have HX := hide xw10
      clear hw10 xw10
      have HA1 := hide (fun x (hx : Below w10.heap.size w10 x) => procsS_any _ S' B' _ _ x (HX.out.below hx))
      have HA2 := hide (fun x (hx : Below w10.heap.size w10 x) => procsS_any _ S B _ f x (HH.out.below hx).site.st)
      have HSM := hide (fun x p q va vb hp hq => ksameP p q va vb C x hp hq HOK.out)
      obtain ⟨c0, c1⟩ := HH.out.cells
      have HK := hide (fun x (hx : Below w10.heap.size w10 x) => at_old hx c0)
      go_wp2_with fail
      go_region_held3 (fun w' => w'.cell? ⟨s, 0, none⟩ = some (.pointer (some ⟨S, 0, none⟩)))
        (first | with_reducible exact HK.out _ hbc | with_reducible exact HK.out _ hbb | with_reducible exact HK.out _ hba | go_keep)
        (first | (go_at_call 26; (with_reducible refine (HA1.out _ ?hb).mono ?_); (case hb => first | exact Below.refl _ _ | exact Below.drew (Below.refl _ _)); rintro e xa ⟨va, rfl, hra, hba0⟩; have hba : Below w10.heap.size w10 xa := (by first | with_reducible exact hba0 | exact below_undrew hba0)) | (go_at_call 26; (with_reducible refine (HA2.out _ ?hb).mono ?_); (case hb => first | exact hba | exact Below.drew hba); rintro e xb ⟨vb, rfl, hrb, hbb0⟩; have hbb : Below w10.heap.size w10 xb := below_then hba hbb0) | (go_at_call 29; refine (HSM.out _ _ _ _ _ (hra.below hbb0) hrb).mono ?_; rintro e w11 ⟨rfl, hbc0⟩; have hbc : Below w10.heap.size w10 w11 := below_then hbb hbc0))
      have hw11 := HH.out.below hbc
      have xw11 := HX.out.below hbc
      clear hra hrb hba hbb hbc hba0 hbb0 hbc0 HA1 HA2 HSM c0 c1 HK HH HX
      have HH := hide hw11
      have HX := hide xw11
      clear hw11 xw11
      have HFIN : Hid (Below w.heap.size w w11) := below_then HB1.out HH.out.low
      go_wp2_with fail
      go_ret
      exact ⟨rfl, HFIN.out⟩
  · have HRD := hide hrd
    have HB1 := hide hb1
    have HL1 := hide (HLV.out w1 hb1)
    clear hrd hb1 HLV HOP
    go_wp2_with fail
    refine HL1.out.mono ?_
    rintro e w2 ⟨s, S, B, D, f, d, rfl, hs, hd, -, hb2⟩
    have h2 := HST.out _ _ _ _ _ _ _ _ _ _ HB1.out hs hd hb2
    obtain ⟨C, hC0⟩ : ∃ C, C = ps.foldl Kp.play Jn.none0 := ⟨_, rfl⟩
    rw [← hC0] at h2
    have HSY := hide (fun x (hx : Below w2.heap.size w2 x) => site_sync (h2.below hx))
    obtain ⟨c0, c1⟩ := h2.cells
    clear hs hd hb2 h2 hC0 HL1 HST
    go_wp2_with fail
    go_region_held3 (fun w' => w'.cell? ⟨s, 1, none⟩ = some (.pointer (some ⟨D, 0, none⟩)) ∧ w'.cell? ⟨s, 0, none⟩ = some (.pointer (some ⟨S, 0, none⟩)))
      (first | with_reducible exact hk1 | exact ⟨h9.cells.2, h9.cells.1⟩ | go_keep)
      (first | (go_at_call 15; refine (HSY.out _ (by first | exact Below.refl _ _ | exact Below.drew (Below.refl _ _))).mono ?_; rintro e wp ⟨yo, yn, yk, rfl, hk1, hall⟩) | (go_at_call 14; refine hall.mono ?_; rintro e w9 ⟨rfl, d9, h9, -⟩))
    clear hk1 hall HSY c0 c1
    obtain ⟨c0, c1⟩ := h9.cells
    obtain ⟨q0, q1, -, -⟩ := DAt.cell h9.site.disk
    have hbx := below_then HB1.out h9.low
    have HFIN := hide hbx
    have HTW := hide h9.tells.two
    clear h9 hbx
    obtain ⟨x1, x2, x3, x4⟩ := d9
    simp only at q0 q1 HTW
    cases t1 : (x1.toList == a.toList) with
    | false =>
      go_wp2_with fail
      go_ret
      exact ⟨rfl, HFIN.out⟩
    | true =>
    cases t2 : (x2.toList == b.toList) with
    | false =>
      go_wp2_with fail
      go_ret
      exact ⟨rfl, HFIN.out⟩
    | true =>
      exfalso
      have h := HTW.out
      rw [bytes_eq t1, bytes_eq t2, HRD.out] at h
      cases h
end Go.Proofs.YtellilpeakpbfabGreatDoor

end
