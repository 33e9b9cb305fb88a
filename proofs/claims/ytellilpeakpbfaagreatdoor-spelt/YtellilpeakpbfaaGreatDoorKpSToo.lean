import Derived.Test.YtellilpeakpbfaaGreatDoorHldsToo
import Derived.Test.YtellilpeakpbfaaGreatDoorSiteHToo
import Derived.Test.YtellilpeakpbfaaGreatDoorRefCToo
import Derived.Test.YtellilpeakpbfaaGreatDoorRnToo
section
/-
  Summed.
-/
set_option linter.unusedVariables false
namespace Go.Proofs.YtellilpeakpbfaaGreatDoor
open Go.RowKit

set_option maxHeartbeats 8000000 in
set_option maxRecDepth 100000 in
theorem summed_any (w : World) (v : Value) (ps : List (Int × Int × Int)) (n k : Int) (hv : StepsOf w v ps) (hP : PowAt w) (hWd : WordsAt w) (n0 : -9223372036854775808 ≤ n) (n1 : n ≤ 9223372036854775807) (k0 : -9223372036854775808 ≤ k) (k1 : k ≤ 9223372036854775807) :
    Calls Tryz.prog 11 #[v, .int .i64 n, .int .i64 k] w fun e w' => e = .returned (.bool true) ∧ Below w.heap.size w w' := by
  have HLV := hide (live_any w v ps hv hP hWd)
  have hlen : ps.length ≤ 6000000000000 := by obtain ⟨_, _, _, _, _, h⟩ := hv; exact h
  obtain ⟨vo, vcap, hvs, -⟩ := hv
  have hnb := Kp.bent_bd n 0 800 (by decide)
  obtain ⟨nn, hnn⟩ : ∃ nn : Nat, Kp.bent n 0 800 = (nn : Int) := ⟨(Kp.bent n 0 800).toNat, by omega⟩
  have hn8 : nn ≤ 800 := by omega
  obtain ⟨kk, hkk⟩ : ∃ kk : Nat, Kp.key k = (kk : Int) := ⟨(Kp.key k).toNat, by have := Kp.key_bd k; omega⟩
  have hk9 : kk ≤ 99 := by have := Kp.key_bd k; omega
  have HBT : Hid (∀ x, Calls Tryz.prog 28 #[.int .i64 n, .int .i64 0, .int .i64 800] x fun e w' => e = .returned (.int .i64 (nn : Int)) ∧ w' = x) := fun x => by rw [← hnn]; exact kbent_any n 0 800 801 (by decide) (by decide) (by decide) (by decide) (by decide) n0 n1 x
  have HKY : Hid (∀ x, Calls Tryz.prog 30 #[.int .i64 k] x fun e w' => e = .returned (.int .i64 (kk : Int)) ∧ w' = x) := fun x => by rw [← hkk]; exact kkey_any k k0 k1 x
  have hm0 : 0 ≤ (nn : Int) * ((nn : Int) + 1) := Int.mul_nonneg (by omega) (by omega)
  have hm1 : (nn : Int) * ((nn : Int) + 1) ≤ 800 * 801 := Int.mul_le_mul (by omega) (by omega) (by omega) (by omega)
  have htri : (Kp.tri nn : Int) = (nn : Int) * ((nn : Int) + 1) / 2 := by unfold Kp.tri; rfl
  have hus : ((12 * nn + 10 : Nat) : Int) = 12 * (nn : Int) + 10 := by omega
  have HPW := hide (fun x (hx : Below w.heap.size w x) => And.intro (hP.below hP.1 hx) (hWd.below hWd.1 hx))
  have hpL : 1 < w.heap.size := hP.1
  have HT := hide htri
  have HU := hide hus
  clear hnb hnn hkk hP hWd htri hus
  subst hvs
  go_enter Tryz.func11, Tryz.ntmps11
  go_wp2_with fail
  refine HLV.out.mono ?_
  rintro e w1 ⟨s, S, B, D, f, d, rfl, hs, hd, -, hb1⟩
  obtain ⟨C, hC⟩ : ∃ C, C = ps.foldl Kp.play Jn.none0 := ⟨_, rfl⟩
  rw [← hC] at hs hd
  have HKE := hide (kkeeps_any w.heap.size s S B D _ C f d w1 ⟨#[115, 117, 109]⟩ ⟨Kp.sumSrc.toArray⟩ (by decide) (by show (Ck.read Kp.sumSrc).2 = 0; rw [Kp.sum_read]) hs hd (by omega) (HPW.out w1 hb1).1 (HPW.out w1 hb1).2 hpL)
  have HB1 := hide hb1
  clear hs hd hb1 hC HLV
  go_wp2_with fail
  refine HKE.out.mono ?_
  rintro e w2 ⟨rfl, S2, B2, f2, d2, hs2, hd2, hx2, -, -⟩
  obtain ⟨C2, hC2⟩ : ∃ C2 : Jn.Con, C2 = ⟨C.cells, [((⟨#[115, 117, 109]⟩ : ByteArray).data.toList, (⟨Kp.sumSrc.toArray⟩ : ByteArray).data.toList)]⟩ := ⟨_, rfl⟩
  rw [← hC2] at hs2 hd2
  have hsrc : srcL C2.procs [115, 117, 109] = some Kp.sumSrc := by rw [hC2]; rfl
  have hok2 := hs2.st.con.ok
  have hb2 : Below w.heap.size w w2 := HB1.out.trans hx2.below
  obtain ⟨r1, r2, r3, r4⟩ := Kp.sum_call C2 hok2 [115, 117, 109] hsrc nn kk hn8 hk9
  obtain ⟨w3, hw3⟩ : ∃ w3, w3 = w2.alloc (.cells #[.int .i64 (nn : Int), .int .i64 (kk : Int)] 3) := ⟨_, rfl⟩
  have hb3 : Below w2.heap.size w2 w3 := by rw [hw3]; exact (Below.refl _ _).alloc (Nat.le_refl _) _
  have hv3 : IntsAt w3 (.slice (some ⟨w2.heap.size, 0, none⟩) 2 2) [(nn : Int), (kk : Int)] := by rw [hw3]; exact ints_two w2 _ _
  have hbw3 := below_then hb2 hb3
  have HCS := hide (callS_any w.heap.size S2 B2 C2 f2 ⟨#[115, 117, 109]⟩ _ _ 10000 w3 (hs2.below hb3).st (HPW.out w3 hbw3).2 hv3 (HPW.out w3 hbw3).1 hpL)
  have hnm : (⟨#[115, 117, 109]⟩ : ByteArray).data.toList = [115, 117, 109] := rfl
  rw [hnm] at HCS
  obtain ⟨r, hr⟩ : ∃ r, r = Rn.call C2 [115, 117, 109] [(nn : Int), (kk : Int)] 10000 := ⟨_, rfl⟩
  rw [← hr] at HCS r1 r2 r3 r4
  obtain ⟨C3, val, used, es, er⟩ := r
  simp only at r1 r2 r3 r4
  rw [HT.out] at r1
  rw [HU.out] at r2
  subst r1 r2 r3
  obtain ⟨s0, s1⟩ := hs2.cells
  have HS3 := hide (hs2.below hb3)
  have HB3 := hide hbw3
  have HR4 := hide r4
  clear hs2 hd2 hx2 hb2 hb3 hv3 hbw3 r4 hr hok2 hsrc hC2 HKE
  go_wp2_with fail
  refine (HBT.out _).mono ?_
  rintro e wx ⟨rfl, hq⟩
  obtain rfl : w2 = wx := hq.symm
  go_wp2_with fail
  refine (HKY.out _).mono ?_
  rintro e wx ⟨rfl, hq⟩
  obtain rfl : w2 = wx := hq.symm
  clear HBT HKY
  go_wp2_with fail
  rw [← hw3]
  refine HCS.out.mono ?_
  rintro e w4 ⟨va, rfl, hst4, hfr4, hor⟩
  have hs4 := site_store HS3.out hst4 hfr4
  have hb4 : Below w.heap.size w w4 := HB3.out.trans hfr4.below
  obtain ⟨w5, hw5⟩ : ∃ w5, w5 = w4.alloc (.cells #[.int .i64 ((nn : Int) * ((nn : Int) + 1) / 2), .int .i64 (12 * (nn : Int) + 10)] 57) := ⟨_, rfl⟩
  have hb5 : Below w4.heap.size w4 w5 := by rw [hw5]; exact (Below.refl _ _).alloc (Nat.le_refl _) _
  have ho5 : w5.heap[w4.heap.size]? = some (.cells #[.int .i64 ((nn : Int) * ((nn : Int) + 1) / 2), .int .i64 (12 * (nn : Int) + 10)] 57 (0, 0)) := by rw [hw5]; exact heap_alloc_new w4 _
  have HHO := hide (holds_any w.heap.size s S2 B2 D C3 f2 d2 w5 kk ((nn : Int) * ((nn : Int) + 1) / 2) hk9 (hs4.below hb5) (by rw [← HT.out]; exact HR4.out))
  have HB5 := hide (below_then hb4 hb5)
  have HO5 := hide ho5
  obtain ⟨ao, an, ak, rfl⟩ : ∃ ao an ak, va = .slice ao an ak := by
    rcases hor with ⟨-, h⟩ | ⟨-, h⟩
    · exact ⟨_, _, _, h⟩
    · obtain ⟨x, y, e, -⟩ := h.shape; exact ⟨x, _, y, e⟩
  have tt1 : ((nn : Int) * ((nn : Int) + 1) / 2 == (nn : Int) * ((nn : Int) + 1) / 2) = true := by simp
  have tt2 : (12 * (nn : Int) + 10 == 12 * (nn : Int) + 10) = true := by simp
  clear hst4 hfr4 hor hs4 hb4 hb5 ho5 HCS HS3 HB3 HR4 HT HU HPW s0 s1
  go_wp2_with fail
  rw [← hw5]
  have HW5 := hide hw5
  clear hw5
  go_wp2_with fail
  refine HHO.out.mono ?_
  rintro e w6 ⟨rfl, hb6⟩
  have ho6 := (hb6.block _ (Array.getElem?_eq_some_iff.1 HO5.out).1).trans HO5.out
  have g0 := (cell_of_row w6 _ 0 _ _ _ ho6).trans rfl
  have g1 := (cell_of_row w6 _ 1 _ _ _ ho6).trans rfl
  have HFIN := hide (below_then HB5.out hb6)
  clear hb6 ho6 HHO
  go_wp2_with fail
  go_ret
  exact ⟨rfl, HFIN.out⟩
end Go.Proofs.YtellilpeakpbfaaGreatDoor

end

section
/-
  Two sites at once: what is asked of the one leaves the other as it was.
-/
set_option linter.unusedVariables false
namespace Go.Proofs.YtellilpeakpbfaaGreatDoor
open Go.RowKit

/-- Two sites, apart. -/
def Pair (L : Nat) (w : World) (s S B D : Nat) (C : Jn.Con) (t S2 B2 D2 : Nat) (C2 : Jn.Con) : Prop :=
  (∃ f d, SiteAt L w s S B D C f d) ∧ (∃ f d, SiteAt L w t S2 B2 D2 C2 f d) ∧ Apt s S B D t S2 B2 D2
theorem Pair.symm {L : Nat} {w : World} {s S B D t S2 B2 D2 : Nat} {C C2 : Jn.Con} (h : Pair L w s S B D C t S2 B2 D2 C2) : Pair L w t S2 B2 D2 C2 s S B D C := ⟨h.2.1, h.1, h.2.2.symm⟩
theorem Pair.below {L : Nat} {w w' : World} {s S B D t S2 B2 D2 : Nat} {C C2 : Jn.Con} (h : Pair L w s S B D C t S2 B2 D2 C2) (hb : Below w.heap.size w w') : Pair L w' s S B D C t S2 B2 D2 C2 := by
  obtain ⟨⟨f, d, h1⟩, ⟨f2, d2, h2⟩, h3⟩ := h
  exact ⟨⟨f, d, h1.below hb⟩, ⟨f2, d2, h2.below hb⟩, h3⟩
theorem Pair.cells {L : Nat} {w : World} {s S B D t S2 B2 D2 : Nat} {C C2 : Jn.Con} (h : Pair L w s S B D C t S2 B2 D2 C2) : w.cell? ⟨s, 0, none⟩ = some (.pointer (some ⟨S, 0, none⟩)) ∧ w.cell? ⟨t, 0, none⟩ = some (.pointer (some ⟨S2, 0, none⟩)) := by
  obtain ⟨⟨f, d, h1⟩, ⟨f2, d2, h2⟩, h3⟩ := h
  exact ⟨h1.cells.1, h2.cells.1⟩
theorem Pair.oks {L : Nat} {w : World} {s S B D t S2 B2 D2 : Nat} {C C2 : Jn.Con} (h : Pair L w s S B D C t S2 B2 D2 C2) : Jn.Ok C ∧ Jn.Ok C2 ∧ L ≤ w.heap.size := by
  obtain ⟨⟨f, d, h1⟩, ⟨f2, d2, h2⟩, h3⟩ := h
  exact ⟨h1.st.con.ok, h2.st.con.ok, h1.lowL⟩
/-- what a store's change leaves of a pair. -/
def PairPost (L s S B D : Nat) (C : Jn.Con) (t S2 B2 D2 : Nat) (C2 : Jn.Con) (w w' : World) : Prop := Pair L w' s S B D C t S2 B2 D2 C2 ∧ FrX L [B] w w'
theorem pair_store {L : Nat} {w w' : World} {s S B D t S2 B2 D2 : Nat} {C C2 C' : Jn.Con} {f f2 : Int} {d d2 : DS} (h1 : SiteAt L w s S B D C f d) (h2 : SiteAt L w t S2 B2 D2 C2 f2 d2) (h3 : Apt s S B D t S2 B2 D2) (hst : StAt L w' S B C' f) (g : Fr L [] (some B) w w') : PairPost L s S B D C' t S2 B2 D2 C2 w w' :=
  ⟨⟨⟨f, d, site_store h1 hst g⟩, ⟨f2, d2, h1.other h2 h3 ((FrX.one g).mono (by simp))⟩, h3⟩, FrX.one g⟩

theorem pair_put {L : Nat} {w : World} {s S B D t S2 B2 D2 : Nat} {C C2 : Jn.Con} (h : Pair L w s S B D C t S2 B2 D2 C2) (k : Nat) (v : Int) (hk : k ≤ 99) (hv : -1000000000 ≤ v ∧ v ≤ 1000000000) (hP : PowAt w) (hpL : 1 < L) :
    Calls Tryz.prog 32 #[.pointer (some ⟨S, 0, none⟩), .int .i64 k, .int .i64 v] w fun e w' => ∃ vo vn vk, e = .returned (.tuple #[.slice vo vn vk, .int .i64 0]) ∧ PairPost L s S B D (Jn.setC C (k : Int) (some v)) t S2 B2 D2 C2 w w' := by
  obtain ⟨⟨f, d, h1⟩, ⟨f2, d2, h2⟩, h3⟩ := h
  have e : Jn.put C (k : Int) v = (Jn.setC C (k : Int) (some v), 0) := by unfold Jn.put; rw [if_neg (by unfold Jn.isKey; simp; omega), if_neg (by unfold Jn.isVal; simp; omega)]
  refine (putS_own L S B C f k v w h1.st hP hpL).mono ?_
  rw [e]
  rintro x w' ⟨va, rfl, hst, g, hor⟩
  obtain ⟨vo, vn, vk, rfl⟩ : ∃ vo vn vk, va = .slice vo vn vk := by
    rcases hor with ⟨-, h⟩ | ⟨-, h⟩
    · exact ⟨_, _, _, h⟩
    · obtain ⟨a, b, c, -⟩ := h.shape; exact ⟨a, _, b, c⟩
  exact ⟨vo, vn, vk, rfl, pair_store h1 h2 h3 hst g⟩
theorem pair_del {L : Nat} {w : World} {s S B D t S2 B2 D2 : Nat} {C C2 : Jn.Con} (h : Pair L w s S B D C t S2 B2 D2 C2) (k : Nat) (hk : k ≤ 99) (hP : PowAt w) (hpL : 1 < L) :
    Calls Tryz.prog 34 #[.pointer (some ⟨S, 0, none⟩), .int .i64 k] w fun e w' => ∃ vo vn vk, e = .returned (.tuple #[.slice vo vn vk, .int .i64 0]) ∧ PairPost L s S B D (Jn.setC C (k : Int) none) t S2 B2 D2 C2 w w' := by
  obtain ⟨⟨f, d, h1⟩, ⟨f2, d2, h2⟩, h3⟩ := h
  have e : Jn.del C (k : Int) = (Jn.setC C (k : Int) none, 0) := by unfold Jn.del; rw [if_neg (by unfold Jn.isKey; simp; omega)]
  refine (delS_own L S B C f k w h1.st hP hpL).mono ?_
  rw [e]
  rintro x w' ⟨va, rfl, hst, g, hor⟩
  obtain ⟨vo, vn, vk, rfl⟩ : ∃ vo vn vk, va = .slice vo vn vk := by
    rcases hor with ⟨-, h⟩ | ⟨-, h⟩
    · exact ⟨_, _, _, h⟩
    · obtain ⟨a, b, c, -⟩ := h.shape; exact ⟨a, _, b, c⟩
  exact ⟨vo, vn, vk, rfl, pair_store h1 h2 h3 hst g⟩
theorem pair_install {L : Nat} {w : World} {s S B D t S2 B2 D2 : Nat} {C C2 C' : Jn.Con} (h : Pair L w s S B D C t S2 B2 D2 C2) (n sr : ByteArray) (he : Jn.install C n.data.toList sr.data.toList = (C', 0, 0)) (hW : WordsAt w) :
    Calls Tryz.prog 29 #[.pointer (some ⟨S, 0, none⟩), .string n, .string sr] w fun e w' => ∃ vo vn vk, e = .returned (.tuple #[.int .i64 0, .slice vo vn vk, .int .i64 0]) ∧ PairPost L s S B D C' t S2 B2 D2 C2 w w' := by
  obtain ⟨⟨f, d, h1⟩, ⟨f2, d2, h2⟩, h3⟩ := h
  refine (installS_own L S B C f n sr w h1.st hW).mono ?_
  rw [he]
  rintro x w' ⟨va, rfl, hst, g, hor⟩
  obtain ⟨vo, vn, vk, rfl⟩ : ∃ vo vn vk, va = .slice vo vn vk := by
    rcases hor with ⟨-, h⟩ | ⟨-, h⟩
    · exact ⟨_, _, _, h⟩
    · obtain ⟨a, b, c, -⟩ := h.shape; exact ⟨a, _, b, c⟩
  exact ⟨vo, vn, vk, rfl, pair_store h1 h2 h3 hst g⟩
theorem pair_call {L : Nat} {w : World} {s S B D t S2 B2 D2 : Nat} {C C2 : Jn.Con} (h : Pair L w s S B D C t S2 B2 D2 C2) (n : ByteArray) (v : Value) (args : List Int) (fuel : Int) (hW : WordsAt w) (hv : IntsAt w v args) (hP : PowAt w) (hpL : 1 < L) :
    Calls Tryz.prog 27 #[.pointer (some ⟨S, 0, none⟩), .string n, v, .int .i64 fuel] w fun e w' => ∃ vo vn vk, e = .returned (.tuple #[.agg #[.int .i64 (Rn.call C n.data.toList args fuel).2.1, .int .i64 (Rn.call C n.data.toList args fuel).2.2.1], .slice vo vn vk, .int .i64 (Rn.call C n.data.toList args fuel).2.2.2.2]) ∧
      PairPost L s S B D (Rn.call C n.data.toList args fuel).1 t S2 B2 D2 C2 w w' := by
  obtain ⟨⟨f, d, h1⟩, ⟨f2, d2, h2⟩, h3⟩ := h
  refine (callS_any L S B C f n v args fuel w h1.st hW hv hP hpL).mono ?_
  rintro x w' ⟨va, rfl, hst, g, hor⟩
  obtain ⟨vo, vn, vk, rfl⟩ : ∃ vo vn vk, va = .slice vo vn vk := by
    rcases hor with ⟨-, h⟩ | ⟨-, h⟩
    · exact ⟨_, _, _, h⟩
    · obtain ⟨a, b, c, -⟩ := h.shape; exact ⟨a, _, b, c⟩
  exact ⟨vo, vn, vk, rfl, pair_store h1 h2 h3 hst g⟩
theorem pair_cells {L : Nat} {w : World} {s S B D t S2 B2 D2 : Nat} {C C2 : Jn.Con} (h : Pair L w s S B D C t S2 B2 D2 C2) :
    Calls Tryz.prog 17 #[.pointer (some ⟨S, 0, none⟩)] w fun e w' => ∃ v, e = .returned v ∧ CRow w' w.heap.size v C.list ∧ Below w.heap.size w w' := by
  obtain ⟨⟨f, d, h1⟩, -⟩ := h
  exact cellsS_any L S B C f w h1.st
theorem pair_get {L : Nat} {w : World} {s S B D t S2 B2 D2 : Nat} {C C2 : Jn.Con} (h : Pair L w s S B D C t S2 B2 D2 C2) (k : Nat) (hk : k ≤ 99) :
    Calls Tryz.prog 33 #[.pointer (some ⟨S, 0, none⟩), .int .i64 k] w fun e w' => e = .returned (.tuple #[.int .i64 ((C.cells.getD k none).getD 0), .bool (C.cells.getD k none).isSome, .int .i64 0]) ∧ Below w.heap.size w w' := by
  obtain ⟨⟨f, d, h1⟩, -⟩ := h
  exact getS_in L S B C f k w h1.st hk

namespace Kp
/-- the contents behind Alike's procedures: the cells. -/
theorem call_a (C : Jn.Con) (hok : Jn.Ok C) (n : List UInt8) (hs : srcL C.procs n = some aSrc) (k : Nat) (v : Int) (hk : k ≤ 99) (hv : -1000000000 ≤ v ∧ v ≤ 1000000000) :
    (Rn.call C n [(k : Int), v] 3).1 = Jn.setC C (k : Int) (some v) ∧ (Rn.call C n [(k : Int), v] 3).2.1 = 0 ∧ (Rn.call C n [(k : Int), v] 3).2.2.1 = 3 ∧ (Rn.call C n [(k : Int), v] 3).2.2.2.2 = 0 := by
  have hw := Rn.wcell_con hok ((k : Int), true, v) ⟨by unfold Jn.isKey; simp; omega, hv⟩ (fun h => by cases h)
  unfold Rn.call
  rw [hs]
  simp only
  rw [a_run C hok k v hk hv]
  simp only [ne_eq, not_true, if_false]
  exact ⟨hw, trivial, trivial, trivial⟩
theorem call_c (C : Jn.Con) (hok : Jn.Ok C) (n : List UInt8) (hs : srcL C.procs n = some cSrc) (k : Nat) (hk : k ≤ 99) :
    (Rn.call C n [(k : Int)] 2).1 = Jn.setC C (k : Int) none ∧ (Rn.call C n [(k : Int)] 2).2.1 = 0 ∧ (Rn.call C n [(k : Int)] 2).2.2.1 = 2 ∧ (Rn.call C n [(k : Int)] 2).2.2.2.2 = 0 := by
  have hw := Rn.wcell_con hok ((k : Int), false, 0) ⟨by unfold Jn.isKey; simp; omega, by simp only; omega⟩ (fun h => rfl)
  unfold Rn.call
  rw [hs]
  simp only
  rw [c_run C hok k hk]
  simp only [ne_eq, not_true, if_false]
  exact ⟨hw, trivial, trivial, trivial⟩
theorem call_b (C : Jn.Con) (hok : Jn.Ok C) (n : List UInt8) (hs : srcL C.procs n = some bSrc) (k : Nat) (hk : k ≤ 99) (c : Int) (hc : c = 0 ∨ c = 1) :
    (Rn.call C n [(k : Int), c] 9).1 = C ∧ (Rn.call C n [(k : Int), c] 9).2.1 = (if c = 0 then Rn.oneIf (C.cells.getD k none).isSome else (C.cells.getD k none).getD 0) ∧ (Rn.call C n [(k : Int), c] 9).2.2.1 = 5 ∧ (Rn.call C n [(k : Int), c] 9).2.2.2.2 = 0 := by
  unfold Rn.call
  rw [hs]
  simp only
  rw [b_run C hok k hk c hc]
  simp [Rn.wcells]
end Kp
end Go.Proofs.YtellilpeakpbfaaGreatDoor

end

section
/-
  The walks of cellarkeep's sameCells and sameProcs.
-/
namespace Go.Proofs.YtellilpeakpbfaaGreatDoor
open Go.RowKit

set_option maxHeartbeats 2000000 in
set_option maxRecDepth 100000 in
theorem ksameCells_any (a b : Nat) (va vb : Value) (la lb : List (Int × Int)) (w : World) (ha : CRow w a va la) (hb : CRow w b vb lb) (hl : la.length ≤ 1000) :
    Calls Tryz.prog 16 #[va, vb] w fun e w' => e = .returned (.bool (decide (la = lb))) ∧ Below w.heap.size w w' := by
  obtain ⟨ao, ac, rfl, hA⟩ := ha.shape
  obtain ⟨bo, bc, rfl, hB⟩ := hb.shape
  have HA := hide hA
  have HB := hide hB
  clear hA hB ha hb
  by_cases hln : la.length = lb.length
  · have t0 : ((la.length : Int) != (lb.length : Int)) = false := by simp; omega
    have HLN := hide hln
    have hln2 : lb.length ≤ 1000 := by omega
    clear hln
    go_enter Tryz.func16, Tryz.ntmps16
    go_wp2
    go_loopw [5] (fun i wr => SmCRel la lb w i wr) (fun i _ => la.length - (intOf i).toNat)
    case atStart => exact ⟨0, Nat.zero_le _, rfl, rfl, Below.refl _ _⟩
    case round =>
    obtain ⟨k, hk, rfl, heq, hbel⟩ := hrel
    have HE := hide heq
    have HBL := hide hbel
    clear heq hbel
    by_cases hlt : k < la.length
    · have hlt2 : k < lb.length := by rw [← HLN.out]; exact hlt
      obtain ⟨g, cur, rfl, -, -, hcs⟩ := HA.out (by omega)
      obtain ⟨g', cur', rfl, -, -, hcs'⟩ := HB.out (by omega)
      obtain ⟨p, hp⟩ : ∃ p, la[k]? = some p := ⟨la[k], by simp [hlt]⟩
      obtain ⟨r, hr⟩ : ∃ p, lb[k]? = some p := ⟨lb[k], by simp [hlt2]⟩
      obtain ⟨c1, c2⟩ := hcs k p hp
      obtain ⟨b1, b2⟩ := hcs' k r hr
      have d1 := at_old HBL.out c1
      have d2 := at_old HBL.out c2
      have e1 := at_old HBL.out b1
      have e2 := at_old HBL.out b2
      have HS1 : Hid (la.take (k + 1) = la.take k ++ [p]) := by
        show _ = _
        rw [List.take_succ_eq_append_getElem hlt]; congr 2; exact (List.getElem?_eq_some_iff.1 hp).2
      have HS2 : Hid (lb.take (k + 1) = lb.take k ++ [r]) := by
        show _ = _
        rw [List.take_succ_eq_append_getElem hlt2]; congr 2; exact (List.getElem?_eq_some_iff.1 hr).2
      have HNE : Hid (p ≠ r → la ≠ lb) := by
        intro h e
        rw [e, hr] at hp
        exact h (Option.some.inj hp).symm
      clear hcs hcs' c1 c2 b1 b2 hp hr
      obtain ⟨p1, p2⟩ := p
      obtain ⟨r1, r2⟩ := r
      cases t1 : (p1 == r1) with
      | true =>
        have q1 : p1 = r1 := by simpa using t1
        cases t2 : (p2 == r2) with
        | true =>
          have q2 : p2 = r2 := by simpa using t2
          have HQ : Hid (la.take (k + 1) = lb.take (k + 1)) := by show _ = _; rw [HS1.out, HS2.out, HE.out, q1, q2]
          clear q1 q2
          go_wp2
          go_quiet (fail)
          go_wp2
          go_roundw
          case rel => exact ⟨k + 1, by omega, by go_num, HQ.out, below_drewN HBL.out _⟩
          case measure => simp [intOf]; omega
        | false =>
          have q2 : ¬ p2 = r2 := by simpa using t2
          have HF : Hid (decide (la = lb) = false) := decide_eq_false (HNE.out (by simp only [ne_eq, Prod.mk.injEq, not_and]; exact fun _ => q2))
          clear q1 q2
          go_wp2
          go_quiet (fail)
          go_wp2
          go_ret
          exact ⟨ret_bool HF.out.symm, below_drewN HBL.out _⟩
      | false =>
        have q1 : ¬ p1 = r1 := by simpa using t1
        have HF : Hid (decide (la = lb) = false) := decide_eq_false (HNE.out (by simp only [ne_eq, Prod.mk.injEq, not_and]; exact fun h => absurd h q1))
        clear q1
        cases t2 : (p2 == r2) with
        | true =>
          go_wp2
          go_quiet (fail)
          go_wp2
          go_ret
          exact ⟨ret_bool HF.out.symm, below_drewN HBL.out _⟩
        | false =>
          go_wp2
          go_quiet (fail)
          go_wp2
          go_ret
          exact ⟨ret_bool HF.out.symm, below_drewN HBL.out _⟩
    · have HT : Hid (decide (la = lb) = true) := by
        show _ = _
        have h := HE.out
        have h2 := HLN.out
        rw [List.take_of_length_le (by omega), List.take_of_length_le (by omega)] at h
        exact decide_eq_true h
      go_wp2
      go_ret
      exact ⟨ret_bool HT.out.symm, HBL.out⟩
  · have t0 : ((la.length : Int) != (lb.length : Int)) = true := by simp; omega
    have HF : Hid (decide (la = lb) = false) := decide_eq_false (fun e => hln (by rw [e]))
    go_enter Tryz.func16, Tryz.ntmps16
    go_wp2
    go_ret
    exact ⟨ret_bool HF.out.symm, Below.refl _ _⟩

set_option maxHeartbeats 2000000 in
set_option maxRecDepth 100000 in
theorem ksameProcs_any (a b : Nat) (va vb : Value) (la lb : List (List UInt8 × List UInt8)) (w : World) (ha : PRow w a va la) (hb : PRow w b vb lb) (hl : la.length ≤ 1000) :
    Calls Tryz.prog 18 #[va, vb] w fun e w' => e = .returned (.bool (decide (la = lb))) ∧ Below w.heap.size w w' := by
  obtain ⟨ao, ac, rfl, hA⟩ := ha.shape
  obtain ⟨bo, bc, rfl, hB⟩ := hb.shape
  have HA := hide hA
  have HB := hide hB
  clear hA hB ha hb
  by_cases hln : la.length = lb.length
  · have t0 : ((la.length : Int) != (lb.length : Int)) = false := by simp; omega
    have HLN := hide hln
    have hln2 : lb.length ≤ 1000 := by omega
    clear hln
    go_enter Tryz.func18, Tryz.ntmps18
    go_wp2
    go_loopw [5] (fun i wr => SmPRel la lb w i wr) (fun i _ => la.length - (intOf i).toNat)
    case atStart => exact ⟨0, Nat.zero_le _, rfl, rfl, Below.refl _ _⟩
    case round =>
    obtain ⟨k, hk, rfl, heq, hbel⟩ := hrel
    have HE := hide heq
    have HBL := hide hbel
    clear heq hbel
    by_cases hlt : k < la.length
    · have hlt2 : k < lb.length := by rw [← HLN.out]; exact hlt
      obtain ⟨g, cur, rfl, -, -, hcs⟩ := HA.out (by omega)
      obtain ⟨g', cur', rfl, -, -, hcs'⟩ := HB.out (by omega)
      obtain ⟨p, hp⟩ : ∃ p, la[k]? = some p := ⟨la[k], by simp [hlt]⟩
      obtain ⟨r, hr⟩ : ∃ p, lb[k]? = some p := ⟨lb[k], by simp [hlt2]⟩
      obtain ⟨c1, c2⟩ := hcs k p hp
      obtain ⟨b1, b2⟩ := hcs' k r hr
      have d1 := at_old HBL.out c1
      have d2 := at_old HBL.out c2
      have e1 := at_old HBL.out b1
      have e2 := at_old HBL.out b2
      have HS1 : Hid (la.take (k + 1) = la.take k ++ [p]) := by
        show _ = _
        rw [List.take_succ_eq_append_getElem hlt]; congr 2; exact (List.getElem?_eq_some_iff.1 hp).2
      have HS2 : Hid (lb.take (k + 1) = lb.take k ++ [r]) := by
        show _ = _
        rw [List.take_succ_eq_append_getElem hlt2]; congr 2; exact (List.getElem?_eq_some_iff.1 hr).2
      have HNE : Hid (p ≠ r → la ≠ lb) := by
        intro h e
        rw [e, hr] at hp
        exact h (Option.some.inj hp).symm
      clear hcs hcs' c1 c2 b1 b2 hp hr
      obtain ⟨p1, p2⟩ := p
      obtain ⟨r1, r2⟩ := r
      simp only [T] at d1 d2 e1 e2
      obtain ⟨x1, hx1⟩ : ∃ x : ByteArray, x = ⟨p1.toArray⟩ := ⟨_, rfl⟩
      obtain ⟨x2, hx2⟩ : ∃ x : ByteArray, x = ⟨p2.toArray⟩ := ⟨_, rfl⟩
      obtain ⟨y1, hy1⟩ : ∃ x : ByteArray, x = ⟨r1.toArray⟩ := ⟨_, rfl⟩
      obtain ⟨y2, hy2⟩ : ∃ x : ByteArray, x = ⟨r2.toArray⟩ := ⟨_, rfl⟩
      rw [← hx1] at d1
      rw [← hx2] at d2
      rw [← hy1] at e1
      rw [← hy2] at e2
      have HX1 := hide hx1
      have HX2 := hide hx2
      have HY1 := hide hy1
      have HY2 := hide hy2
      clear hx1 hx2 hy1 hy2
      cases t1 : (x1.toList == y1.toList) with
      | true =>
        have q1 : p1 = r1 := by rw [ByteArray.toList_eq, ByteArray.toList_eq, HX1.out, HY1.out] at t1; simpa using t1
        cases t2 : (x2.toList == y2.toList) with
        | true =>
          have q2 : p2 = r2 := by rw [ByteArray.toList_eq, ByteArray.toList_eq, HX2.out, HY2.out] at t2; simpa using t2
          have HQ : Hid (la.take (k + 1) = lb.take (k + 1)) := by show _ = _; rw [HS1.out, HS2.out, HE.out, q1, q2]
          clear q1 q2
          go_wp2
          go_quiet (fail)
          go_wp2
          go_roundw
          case rel => exact ⟨k + 1, by omega, by go_num, HQ.out, below_drewN HBL.out _⟩
          case measure => simp [intOf]; omega
        | false =>
          have q2 : ¬ p2 = r2 := by rw [ByteArray.toList_eq, ByteArray.toList_eq, HX2.out, HY2.out] at t2; simpa using t2
          have HF : Hid (decide (la = lb) = false) := decide_eq_false (HNE.out (by simp only [ne_eq, Prod.mk.injEq, not_and]; exact fun _ => q2))
          clear q1 q2
          go_wp2
          go_quiet (fail)
          go_wp2
          go_ret
          exact ⟨ret_bool HF.out.symm, below_drewN HBL.out _⟩
      | false =>
        have q1 : ¬ p1 = r1 := by rw [ByteArray.toList_eq, ByteArray.toList_eq, HX1.out, HY1.out] at t1; simpa using t1
        have HF : Hid (decide (la = lb) = false) := decide_eq_false (HNE.out (by simp only [ne_eq, Prod.mk.injEq, not_and]; exact fun h => absurd h q1))
        clear q1
        cases t2 : (x2.toList == y2.toList) with
        | true =>
          go_wp2
          go_quiet (fail)
          go_wp2
          go_ret
          exact ⟨ret_bool HF.out.symm, below_drewN HBL.out _⟩
        | false =>
          go_wp2
          go_quiet (fail)
          go_wp2
          go_ret
          exact ⟨ret_bool HF.out.symm, below_drewN HBL.out _⟩
    · have HT : Hid (decide (la = lb) = true) := by
        show _ = _
        have h := HE.out
        have h2 := HLN.out
        rw [List.take_of_length_le (by omega), List.take_of_length_le (by omega)] at h
        exact decide_eq_true h
      go_wp2
      go_ret
      exact ⟨ret_bool HT.out.symm, HBL.out⟩
  · have t0 : ((la.length : Int) != (lb.length : Int)) = true := by simp; omega
    have HF : Hid (decide (la = lb) = false) := decide_eq_false (fun e => hln (by rw [e]))
    go_enter Tryz.func18, Tryz.ntmps18
    go_wp2
    go_ret
    exact ⟨ret_bool HF.out.symm, Below.refl _ _⟩
theorem ksameC (a b : Nat) (va vb : Value) (C : Jn.Con) (w : World) (ha : CRow w a va C.list) (hb : CRow w b vb C.list) (hok : Jn.Ok C) :
    Calls Tryz.prog 16 #[va, vb] w fun e w' => e = .returned (.bool true) ∧ Below w.heap.size w w' := by
  have := ksameCells_any a b va vb C.list C.list w ha hb (by have := list_bound hok; omega)
  simpa using this
theorem ksameP (a b : Nat) (va vb : Value) (C : Jn.Con) (w : World) (ha : PRow w a va C.procs) (hb : PRow w b vb C.procs) (hok : Jn.Ok C) :
    Calls Tryz.prog 18 #[va, vb] w fun e w' => e = .returned (.bool true) ∧ Below w.heap.size w w' := by
  have := ksameProcs_any a b va vb C.procs C.procs w ha hb (by have := hok.cnt; omega)
  simpa using this

end Go.Proofs.YtellilpeakpbfaaGreatDoor

end
