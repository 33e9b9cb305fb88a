import Derived.Test.YtellilpeakpbfaaGreatDoorCellPToo
import Derived.Test.YtellilpeakpbfaaGreatDoorLawQToo
import Derived.Deep.DeepCutAuto
section
/-
  The walk of World.cells: Get.
-/
namespace Go.Proofs.YtellilpeakpbfaaGreatDoor
open Go.RowKit

set_option maxRecDepth 100000 in
theorem field_rc (a b : Value) (w : World) : Sem.run Tryz.prog (Instr.field 128 (.agg #[a, b]) 0) w = .ok a w := by rfl
/-- a step that only reads. -/
theorem step_same {L W D m : Nat} {w w9 : World} {C : Jn.Con} (h : SInv L W D w C m) (b : Below w.heap.size w w9) : StepPost L W D m w (.returned (.bool true)) w9 := by
  obtain ⟨S, B, f, past, d, nc, nq, na, hlaw, hst, hlast, hpm, hnc, hnq, hna, hdk, hds, hpl⟩ := h
  exact step_err hlaw hlast hpm hnc hnq hna hdk hds hpl (Below.refl _ _) (Below.refl _ _) (Fr.refl _ _ _ _) hst b

set_option maxHeartbeats 8000000 in
set_option maxRecDepth 100000 in
theorem cells_get_any (L W D m : Nat) (w : World) (C : Jn.Con) (o : OpD) (ho : o.kind = 5) (h : SInv L W D w C m) (hm : m ≤ 1300000000000) :
    Calls Tryz.prog 71 #[.pointer (some ⟨W, 0, none⟩), .agg o.cells, .bool false] w (StepPost L W D m w) := by
  have HSI := hide h
  obtain ⟨S, B, f, past, d, nc, nq, na, hlaw, hst, hlast, hpm, hnc, hnq, hna, hdk, hds, hpl⟩ := h
  obtain ⟨kk, nn, mm, s, t, lo, ln, lc, cut, wo, wn, wc⟩ := o
  simp only at ho
  subst ho
  simp only [OpD.cells]
  obtain ⟨w1, hw1⟩ : ∃ w1, w1 = w.alloc (.cells #[.int .i64 5, .int .i64 nn, .int .i64 mm, .string s, .string t, .slice lo ln lc, .int .i64 cut, .slice wo wn wc] 83) := ⟨_, rfl⟩
  obtain ⟨B0, hB0⟩ : ∃ B0, B0 = w.heap.size := ⟨_, rfl⟩
  have hB1 : Below w.heap.size w w1 := by rw [hw1]; exact (Below.refl _ _).alloc (Nat.le_refl _) _
  have hbo : w1.heap[B0]? = some (.cells #[.int .i64 5, .int .i64 nn, .int .i64 mm, .string s, .string t, .slice lo ln lc, .int .i64 cut, .slice wo wn wc] 83 (0, 0)) := by rw [hw1, hB0]; exact heap_alloc_new w _
  have q1 : w1.cell? ⟨B0, 1, none⟩ = some (.int .i64 nn) := (cell_of_row w1 B0 1 _ _ _ hbo).trans rfl
  have hlaw1 := hlaw.below hB1
  obtain ⟨vp, vc, vq, va, lcs, lqs, lxs, hWA, hpast, -, -, -, -, -, -⟩ := hlaw1.rest
  have HNOW := hide (fun w' (hb : Below w1.heap.size w1 w') => now_any L W w' _ _ vp vc vq va past C (hWA.fr (Fr.of (L := 0) (T := []) (X := none) hb (Nat.zero_le _)) (by simp) (by simp)) (hpast.fr (Fr.of (T := []) hb (Nat.le_trans hlaw1.low (Nat.le_refl _))) (by simp) (by simp) (by simp)) hlast (by omega))
  obtain ⟨c0, -, -, -, -, -⟩ := hWA.cell
  have hok : Jn.Ok C := hst.con.ok
  have HCE := hide (fun v x hr => cellR_any 0 v C.list nn x hr (list_bound hok))
  have HGET : Hid (∀ x, Below w1.heap.size w1 x → ∃ gv gb ge, Calls Tryz.prog 33 #[.pointer (some ⟨S, 0, none⟩), .int .i64 nn] x (fun e w' => e = .returned (.tuple #[.int .i64 gv, .bool gb, .int .i64 ge]) ∧ Below x.heap.size x w') ∧
      ((0 ≤ nn ∧ nn ≤ 99 ∧ ge = 0 ∧ gv = (cellL C.list nn).getD 0 ∧ gb = (cellL C.list nn).isSome) ∨ ((nn < 0 ∨ 99 < nn) ∧ ge = 5 ∧ gv = 0 ∧ gb = false))) := by
    intro x hx
    by_cases hk : 0 ≤ nn ∧ nn ≤ 99
    · have hn : nn = (nn.toNat : Int) := by omega
      refine ⟨_, _, _, ?_, .inl ⟨hk.1, hk.2, rfl, rfl, rfl⟩⟩
      have := getS_in L S B C f nn.toNat x ((hst.below hB1).below hx) (by omega)
      rw [← cell_con hok nn.toNat (by omega), ← hn] at this
      exact this
    · exact ⟨0, false, 5, getS_out L S B C f nn x ((hst.below hB1).below hx) (by unfold Jn.isKey; simp; omega), .inr ⟨by omega, rfl, rfl, rfl⟩⟩
  have HB1 := hide hB1
  clear hB1 hbo hlaw hst hlaw1 hWA hpast hok
  generalize (cellL C.list nn).getD 0 = cv at HCE HGET
  generalize (cellL C.list nn).isSome = cb at HCE HGET
  obtain ⟨gv, gb, ge, hg, hor⟩ := HGET.out w1.drew (Below.drew (Below.refl _ _))
  have HG := hide hg
  have HK : Hid (∀ x : World, Below w1.heap.size w1 x → x.cell? ⟨W, 0, none⟩ = some (.pointer (some ⟨S, 0, none⟩)) ∧ x.cell? ⟨B0, 1, none⟩ = some (.int .i64 nn)) := fun x hx => ⟨at_old hx c0, at_old hx q1⟩
  clear hg HGET
  go_enter Tryz.func71, Tryz.ntmps71
  go_upto_region 11 with fail
  rw [← hw1, ← hB0]
  have HW1 := hide hw1
  have HB0 := hide hB0
  clear hw1 hB0
  go_region_held3 (fun w' => w'.cell? ⟨W, 0, none⟩ = some (.pointer (some ⟨S, 0, none⟩)) ∧ w'.cell? ⟨B0, 1, none⟩ = some (.int .i64 nn))
    (first | with_reducible exact HK.out _ hb2 | go_keep)
    (first | (go_at_call 33; refine HG.out.mono ?_; rintro e w2 ⟨rfl, hb20⟩; have hb2 : Below w1.heap.size w1 w2 := (Below.drew (Below.refl _ _)).trans hb20))
  obtain ⟨k0, k1⟩ := HK.out _ hb2
  have HB2 := hide hb2
  clear hb2 hb20 HG c0 q1
  have hfd := field_rc
  go_wp2_with fail
  go_region_held3 (fun w' => w'.cell? ⟨B0, 1, none⟩ = some (.int .i64 nn))
    (first | with_reducible exact (HK.out _ hb3).2 | with_reducible exact (HK.out _ (Below.drew HB2.out)).2 | go_keep)
    (first | (go_at_call 110; refine (HNOW.out _ (Below.drew HB2.out)).mono ?_; rintro e w3 ⟨sc, sp, rfl, hcr, hpr, hb30⟩; obtain ⟨so, sk, rfl⟩ := crow_slice hcr; obtain ⟨po, pk, rfl, -⟩ := hpr.shape; have hb3 : Below w1.heap.size w1 w3 := (Below.drew HB2.out).trans (hb30.mono HB2.out.size)) | (go_at_call 113; refine (HCE.out _ _ hcr).mono ?_; rintro e w4 ⟨rfl, rfl⟩))
  have g1 := (HK.out _ hb3).2
  have HFIN := hide (step_same HSI.out (HB1.out.trans (hb3.mono HB1.out.size)))
  clear hb3 hb30 hcr hpr k0 k1 HNOW HCE HK HSI
  have HNUM := hide (num_any 5)
  rcases hor with ⟨h0, h1, rfl, rfl, rfl⟩ | ⟨hx, rfl, rfl, rfl⟩
  · have t1 : decide (nn < 0) = false := by simp; omega
    have t2 : decide (99 < nn) = false := by simp; omega
    go_wp2_with fail
    go_ret
    exact HFIN.out
  · by_cases hlt : nn < 0
    · have t1 : decide (nn < 0) = true := by simp; omega
      go_wp2_with fail
      refine (HNUM.out _).mono ?_
      rintro e w4 ⟨rfl, rfl⟩
      go_wp2_with fail
      go_ret
      exact HFIN.out
    · have t1 : decide (nn < 0) = false := by simp; omega
      have t2 : decide (99 < nn) = true := by simp; omega
      go_wp2_with fail
      refine (HNUM.out _).mono ?_
      rintro e w4 ⟨rfl, rfl⟩
      go_wp2_with fail
      go_ret
      exact HFIN.out
end Go.Proofs.YtellilpeakpbfaaGreatDoor

end

section
/-
  The walk of World.cells: Cells.
-/
namespace Go.Proofs.YtellilpeakpbfaaGreatDoor
open Go.RowKit

/-- a row's own block lies where the row lies. -/
theorem own_lies {w : World} {b : Nat} {e : TypeId} {s : Nat} {v : Value} {n : Nat} {xs : List Value} (h : w.ownsRow b e s v n xs) : ∀ k, v.ownBlock = some k → b ≤ k := by
  intro k hk
  rcases h.2 with ⟨rfl, _⟩ | ⟨g, cap, cur, rfl, hb, _⟩
  · simp [Value.ownBlock] at hk
  · simp [Value.ownBlock] at hk
    omega

set_option maxHeartbeats 8000000 in
set_option maxRecDepth 100000 in
theorem cells_cells (L W D m : Nat) (w : World) (C : Jn.Con) (o : OpD) (ho : o.kind = 6) (h : SInv L W D w C m) (hm : m ≤ 1300000000000) :
    Calls Tryz.prog 71 #[.pointer (some ⟨W, 0, none⟩), .agg o.cells, .bool false] w (StepPost L W D m w) := by
  obtain ⟨S, B, f, past, d, nc, nq, na, hlaw, hst, hlast, hpm, hnc, hnq, hna, hdk, hds, hpl⟩ := h
  obtain ⟨kk, nn, mm, s, t, lo, ln, lc, cut, wo, wn, wc⟩ := o
  simp only at ho
  subst ho
  simp only [OpD.cells]
  obtain ⟨w1, hw1⟩ : ∃ w1, w1 = w.alloc (.cells #[.int .i64 6, .int .i64 nn, .int .i64 mm, .string s, .string t, .slice lo ln lc, .int .i64 cut, .slice wo wn wc] 83) := ⟨_, rfl⟩
  have hB1 : Below w.heap.size w w1 := by rw [hw1]; exact (Below.refl _ _).alloc (Nat.le_refl _) _
  have hlaw1 := hlaw.below hB1
  have hst1 := hst.below hB1
  obtain ⟨vp, vc, vq, va, lcs, lqs, lxs, hWA, hpast, hh1, e1, hh2, e2, hh3, e3⟩ := hlaw1.rest
  have HNOW := hide (fun w' (hb : Below w1.heap.size w1 w') => now_any L W w' _ _ vp vc vq va past C (hWA.fr (Fr.of (L := 0) (T := []) (X := none) hb (Nat.zero_le _)) (by simp) (by simp)) (hpast.fr (Fr.of (T := []) hb (Nat.le_trans hlaw1.low (Nat.le_refl _))) (by simp) (by simp) (by simp)) hlast (by omega))
  obtain ⟨c0, -, -, -, -, -⟩ := hWA.cell
  have hok : Jn.Ok C := hst.con.ok
  have HCS := hide (cellsS_any L S B C f w1 hst1)
  have HSM : Hid (∀ (va' vb : Value) (x : World), CRow x w1.heap.size va' C.list → CRow x 0 vb C.list → Calls Tryz.prog 97 #[va', vb] x (fun e w' => e = .returned (.bool true) ∧ Below x.heap.size x w')) := fun va' vb x ha hb => by
    have := sameCells_any w1.heap.size 0 va' vb C.list C.list x ha hb (list_bound hok)
    rw [decide_eq_true (rfl : C.list = C.list)] at this
    exact this
  have hLw := hlaw1.low
  have hz1 := hB1.size
  have HKC : Hid (∀ (x : World) (v : Value), Below w1.heap.size w1 x → CRow x w1.heap.size v C.list → Calls Tryz.prog 99 #[.pointer (some ⟨W, 3, none⟩), v] x (fun e w9 => e = .returned (.tuple #[]) ∧ StepPost L W D m w (.returned (.bool true)) w9)) := by
    intro x v hb hr
    have f1 : Fr L [92, 35] none w1 x := Fr.of hb hLw
    have hlawx := hlaw1.below hb
    refine (keepCells_any L w1.heap.size W x _ _ vp vc vq va lcs v _ _ (hWA.fr (Fr.of (L := 0) (T := []) (X := none) hb (Nat.zero_le _)) (by simp) (by simp)) hlaw.lw
      ((hh1.fr (X := none) (Fr.of (T := []) hb hLw) (by simp) (by simp) (by simp) (.inl rfl)).mono hz1) hr (list_bound hok) hLw hb.size (by omega)).mono ?_
    rintro e w9 ⟨v', ls', rfl, hW9, hh9, hl9, hf9⟩
    have hf : Fr L [92, 35] none w1 w9 := f1.fresh hf9 (own_lies hr)
    have hz9 := hf.size
    refine ⟨rfl, rfl, ⟨C, S, B, f, past, d, nc + 3, nq, na, ⟨hlaw.lw, hlaw.ld, hlaw1.disk.fr hf (by decide) (by simp), vp, v', vq, va, ls', lqs, lxs, hW9, hpast.fr hf (by decide) (by decide) (by decide), hh9, by omega,
      (hh2.fr hf (by decide) (by decide) (by simp) (.inl rfl)).mono (by omega), e2, (hh3.fr hf (by decide) (by decide) (by simp) (.inl rfl)).mono (by omega), e3⟩, ?_, hlast, by omega, by omega, by omega, by omega, hdk, by omega, hpl⟩, ?_⟩
    · exact hst1.fr hf (by decide) (by decide) (by decide) (by simp)
    · exact (hB1.mono hlaw.low).trans hf.below
  clear hB1 hlaw hst hlaw1 hst1 hWA hpast hh1 hh2 hh3 hok
  go_enter Tryz.func71, Tryz.ntmps71
  go_upto_region 16 with fail
  rw [← hw1]
  have HW1 := hide hw1
  clear hw1
  go_wp2_with fail
  refine HCS.out.mono ?_
  rintro e w2 ⟨v, rfl, hcv, hb2⟩
  have g0 := at_old hb2 c0
  have HCV := hide hcv
  have HB2 := hide hb2
  clear hcv hb2 c0 HCS
  have hfd := field_rc
  go_wp2_with fail
  refine (HNOW.out _ HB2.out).mono ?_
  rintro e w3 ⟨sc, sp, rfl, hcr, hpr, hb3⟩
  obtain ⟨so, sk, rfl⟩ := crow_slice hcr
  obtain ⟨po, pk, rfl, -⟩ := hpr.shape
  have HSX := hide (HSM.out v _ w3 (HCV.out.below hb3) hcr)
  have HB3 := hide (HB2.out.trans (hb3.mono HB2.out.size))
  have HCV3 := hide (HCV.out.below hb3)
  clear hcr hpr hb3 HNOW HSM HCV HB2
  go_wp2_with fail
  refine HSX.out.mono ?_
  rintro e w4 ⟨rfl, hb4⟩
  have HB4 := hide (HB3.out.trans (hb4.mono HB3.out.size))
  have HK := hide (HKC.out w4 v (HB3.out.trans (hb4.mono HB3.out.size)) (HCV3.out.below hb4))
  clear hb4 HSX HKC HCV3 HB3
  go_wp2_with fail
  refine HK.out.mono ?_
  rintro e w9 ⟨rfl, hfin⟩
  have HFIN := hide hfin
  clear hfin HK
  go_wp2_with fail
  go_ret
  exact HFIN.out
end Go.Proofs.YtellilpeakpbfaaGreatDoor

end

section
/-
  The walks of small and rests.
-/
namespace Go.Proofs.YtellilpeakpbfaaGreatDoor
open Go.RowKit

/-- the room that contents may take. -/
def roomP : List (List UInt8 × List UInt8) → Nat
  | [] => 0
  | p :: r => 64 + 2 * p.2.length + roomP r
theorem roomP_app (a b : List (List UInt8 × List UInt8)) : roomP (a ++ b) = roomP a + roomP b := by
  induction a with
  | nil => simp [roomP]
  | cons p r ih => simp only [List.cons_append, roomP, ih]; omega
def room (C : Jn.Con) : Nat := 64 + 32 * C.list.length + roomP C.procs
theorem roomP_take (l : List (List UInt8 × List UInt8)) (k : Nat) (p : List UInt8 × List UInt8) (h : l[k]? = some p) : roomP (l.take (k + 1)) = roomP (l.take k) + (64 + 2 * p.2.length) := by
  have hk := (List.getElem?_eq_some_iff.1 h).1
  have e := (List.getElem?_eq_some_iff.1 h).2
  rw [List.take_succ_eq_append_getElem hk, e, roomP_app]
  simp [roomP]
theorem roomP_le (l : List (List UInt8 × List UInt8)) (h : ∀ p ∈ l, p.2.length ≤ 1000) : roomP l ≤ 2064 * l.length := by
  induction l with
  | nil => simp [roomP]
  | cons p r ih =>
    have h1 := h p (by simp)
    have h2 := ih (fun q hq => h q (by simp [hq]))
    simp only [roomP, List.length_cons]
    omega

theorem cellsE_len (l : List (Int × Int)) (h : ∀ p ∈ l, (0 ≤ p.1 ∧ p.1 ≤ 99) ∧ -1000000000 ≤ p.2 ∧ p.2 ≤ 1000000000) : (Jn.cellsE l).length ≤ 25 * l.length := by
  induction l with
  | nil => simp [Jn.cellsE]
  | cons p r ih =>
    obtain ⟨⟨b1, b2⟩, b3, b4⟩ := h p (by simp)
    have h1 := itoa_len p.1 (by omega) (by omega)
    have h2 := itoa_len p.2 b3 b4
    have h3 := ih (fun q hq => h q (by simp [hq]))
    have e : (Jn.cellsE (p :: r)).length = (Jn.putE p.1 p.2).length + (Jn.cellsE r).length := by simp [Jn.cellsE]
    have e2 : (Jn.putE p.1 p.2).length = (Lib.itoa p.1).length + (Lib.itoa p.2).length + 3 := by simp [Jn.putE]; omega
    rw [e, e2, List.length_cons]
    omega
theorem procsE_len (l : List (List UInt8 × List UInt8)) (h : ∀ p ∈ l, p.1.length ≤ 8) : (Jn.procsE l).length ≤ roomP l := by
  induction l with
  | nil => simp [Jn.procsE, roomP]
  | cons p r ih =>
    have h1 := h p (by simp)
    have h3 := ih (fun q hq => h q (by simp [hq]))
    have e : (Jn.procsE (p :: r)).length = (Jn.installE p.1 p.2).length + (Jn.procsE r).length := by simp [Jn.procsE]
    have e2 : (Jn.installE p.1 p.2).length = p.1.length + p.2.length + 3 := by simp [Jn.installE]; omega
    rw [e, e2, roomP]
    omega
/-- P12: what is written anew fits. -/
theorem all_room {C : Jn.Con} (h : Jn.Ok C) : (Jn.all C).length ≤ room C ∧ room C ≤ 30000 := by
  have h1 := cellsE_len C.list (list_bd C.cells h.val 0 (by have := h.len; omega))
  have h2 := procsE_len C.procs (fun p hp => name_len _ (h.prc p hp).1)
  have h3 := roomP_le C.procs (fun p hp => (proc_bd h p hp).2)
  have h4 : C.list.length ≤ 100 := Nat.le_trans (list_len _ _) (Nat.le_of_eq h.len)
  have h5 := h.cnt
  unfold room
  simp only [Jn.all, Jn.record, List.length_append, List.length_cons, List.length_nil]
  omega

def SmRel (l : List (List UInt8 × List UInt8)) (n0 : Nat) (n i : Value) : Prop := ∃ k : Nat, k ≤ l.length ∧ i = .int .i64 k ∧ n = .int .i64 ((n0 + roomP (l.take k) : Nat) : Int)

set_option maxHeartbeats 2000000 in
set_option maxRecDepth 100000 in
theorem small_any (W D : Nat) (w : World) (vx vp vc vq va s1 s2 : Value) (a b : ByteArray) (la lb : Int) (C : Jn.Con) (hW : WAt w W vx (.pointer (some ⟨D, 0, none⟩)) vp vc vq va) (hD : DAt w D a b la lb)
    (h1 : CRow w 0 s1 C.list) (h2 : PRow w 0 s2 C.procs) (hok : Jn.Ok C) (hs : a.size + b.size ≤ room C) :
    Calls Tryz.prog 105 #[.pointer (some ⟨W, 0, none⟩), .agg #[s1, s2]] w fun e w' => e = .returned (.bool true) ∧ Below w.heap.size w w' := by
  obtain ⟨o1, k1, rfl⟩ := crow_slice h1
  obtain ⟨o2, k2, rfl, hcs⟩ := h2.shape
  obtain ⟨-, c1, -, -, -, -⟩ := hW.cell
  have hcn := hok.cnt
  have hl1 : C.list.length ≤ 100 := Nat.le_trans (list_len _ _) (Nat.le_of_eq hok.len)
  have hpb := fun p hp => (proc_bd hok p hp).2
  have hr3 := (all_room hok).2
  unfold room at hs hr3
  obtain ⟨w1, hw1⟩ : ∃ w1, w1 = w.alloc (.cells #[.slice o1 C.list.length k1, .slice o2 C.procs.length k2] 128) := ⟨_, rfl⟩
  obtain ⟨B0, hB0⟩ : ∃ B0, B0 = w.heap.size := ⟨_, rfl⟩
  have hB1 : Below w.heap.size w w1 := by rw [hw1]; exact (Below.refl _ _).alloc (Nat.le_refl _) _
  have hbo : w1.heap[B0]? = some (.cells #[.slice o1 C.list.length k1, .slice o2 C.procs.length k2] 128 (0, 0)) := by rw [hw1, hB0]; exact heap_alloc_new w _
  have q0 : w1.cell? ⟨B0, 0, none⟩ = some (.slice o1 C.list.length k1) := (cell_of_row w1 B0 0 _ _ _ hbo).trans rfl
  have q1 : w1.cell? ⟨B0, 1, none⟩ = some (.slice o2 C.procs.length k2) := (cell_of_row w1 B0 1 _ _ _ hbo).trans rfl
  have hD1 : DAt w1 D a b la lb := hD.fr (Fr.of (L := 0) (T := []) (X := none) hB1 (Nat.zero_le _)) (by simp) (by simp)
  have e1 := at_old hB1 c1
  have HSZ := hide (size_any D a b la lb w1 hD1 (by omega) (by omega))
  have HC := hide hcs
  have HB1 := hide hB1
  have HPB := hide hpb
  clear hcs hB1 hbo hD1 hD hW h1 h2 hok hpb c1
  generalize C.procs = ps at *
  generalize C.list.length = nl at *
  go_enter Tryz.func105, Tryz.ntmps105
  go_wp2
  rw [← hw1, ← hB0]
  clear hw1 hB0
  go_loop [5, 6] (fun n i => SmRel ps (64 + 32 * nl) n i) (fun _ i => ps.length - (intOf i).toNat)
  case atStart => exact ⟨0, Nat.zero_le _, rfl, by simp [roomP]⟩
  case round =>
    obtain ⟨k, hk, rfl, rfl⟩ := hrel
    have hrk : roomP (ps.take k) ≤ roomP ps := by
      have := roomP_app (ps.take k) (ps.drop k)
      rw [List.take_append_drop] at this
      omega
    by_cases hlt : k < ps.length
    · obtain ⟨g, cur, rfl, -, -, hcc⟩ := HC.out (by omega)
      obtain ⟨p, hp⟩ : ∃ p, ps[k]? = some p := ⟨ps[k], by simp [hlt]⟩
      obtain ⟨-, x2⟩ := hcc k p hp
      have d2 := at_old HB1.out x2
      have hpl := HPB.out p (List.mem_of_getElem? hp)
      have HT := hide (roomP_take ps k p hp)
      clear hcc x2 hp
      obtain ⟨p1, p2⟩ := p
      simp only [T] at d2 hpl
      obtain ⟨q2, hq2⟩ : ∃ q : ByteArray, q = ⟨p2.toArray⟩ := ⟨_, rfl⟩
      have hqs : q2.size = p2.length := by rw [hq2]; rfl
      rw [← hq2] at d2
      have hqb : q2.size ≤ 1000 := by omega
      have HQ := hide hqs
      clear hq2 hqs
      generalize roomP (ps.take k) = z at *
      go_wp2
      go_round
      case rel => exact ⟨k + 1, by omega, by go_num, by rw [HT.out]; simp only; rw [← HQ.out]; go_num⟩
      case measure => simp [intOf]; omega
    · have hkl : ps.take k = ps := List.take_of_length_le (by omega)
      rw [hkl]
      clear hkl hrk
      generalize roomP ps = z at *
      go_wp2_with fail
      refine HSZ.out.mono ?_
      rintro e w2 ⟨rfl, hb2⟩
      have HB2 : Hid (Below w.heap.size w w2) := HB1.out.trans (hb2.mono HB1.out.size)
      clear hb2
      go_wp2
      go_ret
      refine ⟨ret_bool ?_, HB2.out⟩
      simp
      omega

/-- the list of contents is laid anew. -/
theorem past_new {L W : Nat} {w : World} {vx vd vp vc vq va s1 s2 : Value} {C : Jn.Con} (hW : WAt w W vx vd vp vc vq va) (hLW : L ≤ W) (hL : L ≤ w.heap.size) (h1 : CRow w 0 s1 C.list) (h2 : PRow w 0 s2 C.procs) (hok : Jn.Ok C) :
    WAt (w.alloc (.cells #[s1, s2] 128)) W vx vd vp vc vq va ∧
    WAt ((w.alloc (.cells #[s1, s2] 128)).setCell ⟨W, 2, none⟩ (.slice (some ⟨w.heap.size, 0, none⟩) 1 1)) W vx vd (.slice (some ⟨w.heap.size, 0, none⟩) 1 1) vc vq va ∧
    PastAt L ((w.alloc (.cells #[s1, s2] 128)).setCell ⟨W, 2, none⟩ (.slice (some ⟨w.heap.size, 0, none⟩) 1 1)) (.slice (some ⟨w.heap.size, 0, none⟩) 1 1) [C] ∧
    Fr L [92] none w ((w.alloc (.cells #[s1, s2] 128)).setCell ⟨W, 2, none⟩ (.slice (some ⟨w.heap.size, 0, none⟩) 1 1)) := by
  have hb : Below w.heap.size w (w.alloc (.cells #[s1, s2] 128)) := (Below.refl _ _).alloc (Nat.le_refl _) _
  have hW1 : WAt (w.alloc (.cells #[s1, s2] 128)) W vx vd vp vc vq va := hW.fr (Fr.of (L := 0) (T := []) (X := none) hb (Nat.zero_le _)) (by simp) (by simp)
  have f1 : Fr L [92] none w (w.alloc (.cells #[s1, s2] 128)) := Fr.of hb hL
  have f2 : Fr L [92] none (w.alloc (.cells #[s1, s2] 128)) ((w.alloc (.cells #[s1, s2] 128)).setCell ⟨W, 2, none⟩ (.slice (some ⟨w.heap.size, 0, none⟩) 1 1)) :=
    (fr_setCell _ W 2 _ hLW).typed (fun k hk => by cases hk; exact ⟨_, _, _, hW1, by simp⟩) none
  refine ⟨hW1, wat_set hW1 2 _, ⟨[(s1, s2)], ?_, rfl, ?_⟩, f1.trans f2⟩
  · have ho : (w.alloc (.cells #[s1, s2] 128)).ownsRow L 128 2 (.slice (some ⟨w.heap.size, 0, none⟩) 1 1) 1 (pairs [(s1, s2)]) :=
      ⟨rfl, .inr ⟨w.heap.size, 1, #[s1, s2], rfl, hL, heap_alloc_new w _, Nat.le_refl _, by decide, rfl, rfl⟩⟩
    exact own_fr ho f2 (by decide) (.inl rfl)
  · intro i s C' hs hC'
    match i, hs, hC' with
    | 0, hs, hC' =>
      simp at hs hC'
      subst hs hC'
      exact ⟨own_fr h1 (f1.trans f2) (by decide) (.inl rfl), own_fr h2 (f1.trans f2) (by decide) (.inl rfl), hok⟩
    | i + 1, hs, hC' => simp at hs

set_option maxHeartbeats 2000000 in
set_option maxRecDepth 100000 in
theorem rests_any (L W D N M : Nat) (w : World) (vx : Value) (past : List Jn.Con) (d : DS) (nc nq na : Nat) (C : Jn.Con) (hlaw : LawAt L W D N M w vx past d nc nq na) (hC : past[past.length - 1]? = some C) (hok : Jn.Ok C) (hb : past.length ≤ 9000000000000) :
    Calls Tryz.prog 121 #[.pointer (some ⟨W, 0, none⟩)] w fun e w' => e = .returned (.tuple #[]) ∧ LawAt L W D N M w' vx [C] d nc nq na ∧ Fr L [92] none w w' := by
  obtain ⟨vp, vc, vq, va, lcs, lqs, lxs, hW, hpast, hh1, e1, hh2, e2, hh3, e3⟩ := hlaw.rest
  have HN := hide (now_any L W w _ _ vp vc vq va past C hW hpast hC hb)
  have HL := hide hlaw
  have HW := hide hW
  have HH : Hid (HoldRow L N w 102 35 mkC vc lcs ∧ lcs.length = nc ∧ HoldRow L N w 62 42 mkP vq lqs ∧ lqs.length = nq ∧ HoldRow L M w 136 58 mkA va lxs ∧ lxs.length = na) := ⟨hh1, e1, hh2, e2, hh3, e3⟩
  have hLw := hlaw.low
  clear hlaw hW hpast hC hh1 e1 hh2 e2 hh3 e3
  go_enter Tryz.func121, Tryz.ntmps121
  go_wp2_with fail
  refine HN.out.mono ?_
  rintro e w1 ⟨sc, sp, rfl, hcr, hpr, hb1⟩
  obtain ⟨o1, k1, rfl⟩ := crow_slice hcr
  obtain ⟨o2, k2, rfl, -⟩ := hpr.shape
  obtain ⟨w2, hw2⟩ : ∃ w2, w2 = w1.alloc (.cells #[.slice o1 C.list.length k1, .slice o2 C.procs.length k2] 128) := ⟨_, rfl⟩
  have hb2 : Below w1.heap.size w1 w2 := by rw [hw2]; exact (Below.refl _ _).alloc (Nat.le_refl _) _
  have hB : Below w.heap.size w w2 := hb1.trans (hb2.mono hb1.size)
  have hW2 := HW.out.fr (Fr.of (L := 0) (T := []) (X := none) hB (Nat.zero_le _)) (by simp) (by simp)
  have q0 : w2.cell? ⟨w1.heap.size, 0, none⟩ = some (.slice o1 C.list.length k1) := by rw [hw2]; simp
  have q1 : w2.cell? ⟨w1.heap.size, 1, none⟩ = some (.slice o2 C.procs.length k2) := by rw [hw2]; simp
  have hfin := past_new (L := L) hW2 HL.out.lw (Nat.le_trans hLw hB.size) (hcr.below hb2) (hpr.below hb2) hok
  obtain ⟨W3, W4, P4, F4⟩ := hfin
  obtain ⟨-, -, c2, -, -, -⟩ := W3.cell
  have z2 := W3.fz 2
  have HW4 := hide W4
  have HP4 := hide P4
  have HF4 : Hid (Fr L [92] none w ((w2.alloc (.cells #[.slice o1 C.list.length k1, .slice o2 C.procs.length k2] 128)).setCell ⟨W, 2, none⟩ (.slice (some ⟨w2.heap.size, 0, none⟩) 1 1))) := (Fr.of hB hLw).trans F4
  have HE : Hid (w1.alloc (.cells #[.slice o1 C.list.length k1, .slice o2 C.procs.length k2] 128) = w2) := hw2.symm
  clear hcr hpr hb1 hb2 hB hW2 W3 W4 P4 F4 hw2 HN
  go_upto_region 1 with fail
  rw [HE.out]
  go_wp2
  go_end0
  obtain ⟨hh1, e1, hh2, e2, hh3, e3⟩ := HH.out
  refine ⟨rfl, ⟨HL.out.lw, HL.out.ld, HL.out.disk.fr HF4.out (by decide) (by simp), _, vc, vq, va, lcs, lqs, lxs, HW4.out, HP4.out, hh1.fr HF4.out (by decide) (by decide) (by simp) (.inl rfl), e1, hh2.fr HF4.out (by decide) (by decide) (by simp) (.inl rfl), e2, hh3.fr HF4.out (by decide) (by decide) (by simp) (.inl rfl), e3⟩, HF4.out⟩
end Go.Proofs.YtellilpeakpbfaaGreatDoor

end
