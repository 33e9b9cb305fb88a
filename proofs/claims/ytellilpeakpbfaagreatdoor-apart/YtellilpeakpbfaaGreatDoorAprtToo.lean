import Derived.Test.YtellilpeakpbfaaGreatDoorSiteGToo
import Derived.Test.YtellilpeakpbfaaGreatDoorKpSToo
/-
  Apart.
-/
set_option linter.unusedVariables false
namespace Go.Proofs.YtellilpeakpbfaaGreatDoor
open Go.RowKit

/-- two sites of which none has a block of the other's. -/
def Apt (s S B D t S2 B2 D2 : Nat) : Prop := s ≠ t ∧ S ≠ S2 ∧ B ≠ B2 ∧ D ≠ D2
theorem SiteAt.other {L : Nat} {w w' : World} {s S B D t S2 B2 D2 : Nat} {C C2 : Jn.Con} {f f2 : Int} {d d2 : DS} (h : SiteAt L w s S B D C f d) (h2 : SiteAt L w t S2 B2 D2 C2 f2 d2) (hn : Apt s S B D t S2 B2 D2) (g : FrX L [s, S, B, D] w w') : SiteAt L w' t S2 B2 D2 C2 f2 d2 := by
  obtain ⟨n1, n2, n3, n4⟩ := hn
  obtain ⟨cb, vb, hB, -⟩ := h.st.con.mem
  obtain ⟨cb2, vb2, hB2, -⟩ := h2.st.con.mem
  have hD : w.heap[D]? = _ := h.disk
  have hD2 : w.heap[D2]? = _ := h2.disk
  have ne : ∀ {x y : Nat} {c c' : Array Value} {t t' : TypeId}, w.heap[x]? = some (.cells c t (0, 0)) → w.heap[y]? = some (.cells c' t' (0, 0)) → t ≠ t' → x ≠ y := by
    intro x y c c' t t' hx hy ht e
    subst e
    rw [hx] at hy
    cases hy
    exact ht rfl
  refine h2.frx g h.types ⟨?_, ?_, ?_, ?_⟩
  · simp only [List.mem_cons, List.not_mem_nil, or_false, not_or]
    exact ⟨Ne.symm n1, ne h2.mem h.st.mem (by decide), ne h2.mem hB (by decide), ne h2.mem hD (by decide)⟩
  · simp only [List.mem_cons, List.not_mem_nil, or_false, not_or]
    exact ⟨ne h2.st.mem h.mem (by decide), Ne.symm n2, ne h2.st.mem hB (by decide), ne h2.st.mem hD (by decide)⟩
  · simp only [List.mem_cons, List.not_mem_nil, or_false, not_or]
    exact ⟨ne hB2 h.mem (by decide), ne hB2 h.st.mem (by decide), Ne.symm n3, ne hB2 hD (by decide)⟩
  · simp only [List.mem_cons, List.not_mem_nil, or_false, not_or]
    exact ⟨ne hD2 h.mem (by decide), ne hD2 h.st.mem (by decide), ne hD2 hB (by decide), Ne.symm n4⟩
theorem Apt.symm {s S B D t S2 B2 D2 : Nat} (h : Apt s S B D t S2 B2 D2) : Apt t S2 B2 D2 s S B D := ⟨Ne.symm h.1, Ne.symm h.2.1, Ne.symm h.2.2.1, Ne.symm h.2.2.2⟩
theorem SiteAt.lts {L : Nat} {w : World} {s S B D : Nat} {C : Jn.Con} {f : Int} {d : DS} (h : SiteAt L w s S B D C f d) : s < w.heap.size ∧ S < w.heap.size ∧ B < w.heap.size ∧ D < w.heap.size :=
  ⟨h.lt, h.st.lt, h.st.con.lt, h.disk.lt⟩
/-- behind a step of the first. -/
theorem Apt.step {L : Nat} {w : World} {s S B D t S2 B2 D2 S' B' : Nat} {C2 : Jn.Con} {f2 : Int} {d2 : DS} (h : Apt s S B D t S2 B2 D2) (h2 : SiteAt L w t S2 B2 D2 C2 f2 d2) (hS : S' = S ∨ w.heap.size ≤ S') (hB : B' = B ∨ w.heap.size ≤ B') : Apt s S' B' D t S2 B2 D2 := by
  obtain ⟨l1, l2, l3, l4⟩ := h2.lts
  obtain ⟨n1, n2, n3, n4⟩ := h
  refine ⟨n1, ?_, ?_, n4⟩
  · rcases hS with rfl | hS
    · exact n2
    · omega
  · rcases hB with rfl | hB
    · exact n3
    · omega

abbrev folded (ps : List (Int × Int × Int)) (k : Nat) : Jn.Con := (ps.take k).foldl Kp.play Jn.none0
theorem folded_succ (ps : List (Int × Int × Int)) (k : Nat) (p : Int × Int × Int) (hp : ps[k]? = some p) : folded ps (k + 1) = Kp.play (folded ps k) p := by
  unfold folded
  rw [List.take_add_one, hp]
  simp
theorem folded_end (ps : List (Int × Int × Int)) (k : Nat) (h : ps.length ≤ k) : folded ps k = ps.foldl Kp.play Jn.none0 := by
  unfold folded
  rw [List.take_of_length_le h]
/-- one of the two sites, behind so many steps. -/
def HalfAt (L : Nat) (w : World) (s S B D : Nat) (ps : List (Int × Int × Int)) (k : Nat) : Prop :=
  ∃ f d, SiteAt L w s S B D (folded ps k) f d ∧ DiskFit d f (folded ps k) (30000 + 30000 * k) ∧ Kp.KindC (folded ps k)
theorem HalfAt.up {L : Nat} {w : World} {s S B D : Nat} {ps : List (Int × Int × Int)} {k : Nat} (h : HalfAt L w s S B D ps k) (hk : ps.length ≤ k) : HalfAt L w s S B D ps (k + 1) := by
  obtain ⟨f, d, h1, h2, h3⟩ := h
  rw [HalfAt, folded_end ps (k + 1) (by omega), ← folded_end ps k hk]
  exact ⟨f, d, h1, ⟨h2.1, h2.2.1, Nat.le_trans h2.2.2 (by omega)⟩, h3⟩
/-- a step of one of two. -/
theorem half_play {L : Nat} {w : World} {s S B D : Nat} {ps : List (Int × Int × Int)} {k : Nat} {p : Int × Int × Int} (h : HalfAt L w s S B D ps k) (hp : ps[k]? = some p) (hb : StepB p) (hk : k ≤ 6000000000000) (hP : PowAt w) (hWd : WordsAt w) (hpL : 1 < L) :
    Calls Tryz.prog 14 #[.pointer (some ⟨s, 0, none⟩), .agg #[.int .i64 p.1, .int .i64 p.2.1, .int .i64 p.2.2]] w fun e w' => e = .returned (.bool true) ∧ ∃ S' B', HalfAt L w' s S' B' D ps (k + 1) ∧ FrX L [s, S, B, D] w w' ∧ (S' = S ∨ w.heap.size ≤ S') ∧ (B' = B ∨ w.heap.size ≤ B') := by
  obtain ⟨f, d, h1, h2, h3⟩ := h
  refine (kplay_any L s S B D _ _ f d w p hb h3 h1 h2 (by omega) hP hWd hpL).mono ?_
  rintro e w' ⟨rfl, S', B', f', d', hs, hd, hx, hS, hB⟩
  refine ⟨rfl, S', B', ⟨f', d', ?_, ?_, ?_⟩, hx, hS, hB⟩
  · rw [folded_succ ps k p hp]; exact hs
  · rw [folded_succ ps k p hp]; exact ⟨hd.1, hd.2.1, Nat.le_trans hd.2.2 (by omega)⟩
  · rw [folded_succ ps k p hp]; exact h3.play h1.st.con.ok p
theorem HalfAt.other {L : Nat} {w w' : World} {s S B D t S2 B2 D2 : Nat} {ps qs : List (Int × Int × Int)} {k j : Nat} (h : HalfAt L w s S B D ps k) (h2 : HalfAt L w t S2 B2 D2 qs j) (hn : Apt s S B D t S2 B2 D2) (g : FrX L [s, S, B, D] w w') : HalfAt L w' t S2 B2 D2 qs j := by
  obtain ⟨f, d, h1, -⟩ := h
  obtain ⟨f2, d2, g1, g2⟩ := h2
  exact ⟨f2, d2, h1.other g1 hn g, g2⟩
theorem HalfAt.below {L : Nat} {w w' : World} {s S B D : Nat} {ps : List (Int × Int × Int)} {k : Nat} (h : HalfAt L w s S B D ps k) (hb : Below w.heap.size w w') : HalfAt L w' s S B D ps k := by
  obtain ⟨f, d, h1, h2⟩ := h
  exact ⟨f, d, h1.below hb, h2⟩

def ApRel (L s D t D2 : Nat) (w : World) (ps qs : List (Int × Int × Int)) (one two i : Value) (wr : World) : Prop :=
  ∃ k : Nat, (k ≤ ps.length ∨ k ≤ qs.length) ∧ i = .int .i64 k ∧ one = .bool true ∧ two = .bool true ∧ (∃ S B S2 B2, HalfAt L wr s S B D ps k ∧ HalfAt L wr t S2 B2 D2 qs k ∧ Apt s S B D t S2 B2 D2) ∧ Below L w wr

/-- a store's lists. -/
theorem half_cells {L : Nat} {w : World} {s S B D : Nat} {ps : List (Int × Int × Int)} {k : Nat} (h : HalfAt L w s S B D ps k) :
    (Calls Tryz.prog 17 #[.pointer (some ⟨S, 0, none⟩)] w fun e w' => ∃ v, e = .returned v ∧ CRow w' w.heap.size v (folded ps k).list ∧ Below w.heap.size w w') ∧
    (Calls Tryz.prog 19 #[.pointer (some ⟨S, 0, none⟩)] w fun e w' => ∃ v, e = .returned v ∧ PRow w' w.heap.size v (folded ps k).procs ∧ Below w.heap.size w w') ∧
    w.cell? ⟨s, 0, none⟩ = some (.pointer (some ⟨S, 0, none⟩)) ∧ Jn.Ok (folded ps k) := by
  obtain ⟨f, d, h1, -⟩ := h
  exact ⟨cellsS_any L S B _ f w h1.st, procsS_any L S B _ f w h1.st, h1.cells.1, h1.st.con.ok⟩

theorem ksameC (a b : Nat) (va vb : Value) (C : Jn.Con) (w : World) (ha : CRow w a va C.list) (hb : CRow w b vb C.list) (hok : Jn.Ok C) :
    Calls Tryz.prog 16 #[va, vb] w fun e w' => e = .returned (.bool true) ∧ Below w.heap.size w w' := by
  have := ksameCells_any a b va vb C.list C.list w ha hb (by have := list_bound hok; omega)
  simpa using this
theorem ksameP (a b : Nat) (va vb : Value) (C : Jn.Con) (w : World) (ha : PRow w a va C.procs) (hb : PRow w b vb C.procs) (hok : Jn.Ok C) :
    Calls Tryz.prog 18 #[va, vb] w fun e w' => e = .returned (.bool true) ∧ Below w.heap.size w w' := by
  have := ksameProcs_any a b va vb C.procs C.procs w ha hb (by have := hok.cnt; omega)
  simpa using this

set_option maxHeartbeats 8000000 in
set_option maxRecDepth 100000 in
theorem apart_any (w : World) (v1 v2 : Value) (ps qs : List (Int × Int × Int)) (hv1 : StepsOf w v1 ps) (hv2 : StepsOf w v2 qs) (hP : PowAt w) (hWd : WordsAt w) :
    Calls Tryz.prog 5 #[v1, v2] w fun e w' => e = .returned (.bool true) ∧ Below w.heap.size w w' := by
  have HV1 := hide hv1
  have HV2 := hide hv2
  obtain ⟨ao, cap, rfl, hst1, hbd1, hlen1⟩ := hv1
  obtain ⟨bo, bap, rfl, hst2, hbd2, hlen2⟩ := hv2
  have HFR := hide (fun x (hx : Below w.heap.size w x) => fresh_any x (hP.below hP.1 hx) (hWd.below hWd.1 hx))
  have HST1 := hide hst1
  have HST2 := hide hst2
  have HBD1 := hide hbd1
  have HBD2 := hide hbd2
  have HPW := hide (fun x (hx : Below w.heap.size w x) => And.intro (hP.below hP.1 hx) (hWd.below hWd.1 hx))
  obtain ⟨L, hL⟩ : ∃ L, L = w.heap.size := ⟨_, rfl⟩
  have HL := hide hL
  have hpL : 1 < L := by rw [hL]; exact hP.1
  clear hst1 hst2 hbd1 hbd2 hP hWd hL
  go_enter Tryz.func5, Tryz.ntmps5
  go_wp2_with fail
  refine (HFR.out w (Below.refl _ _)).mono ?_
  rintro e w1 ⟨s, S, B, D, f, d, rfl, hs, hd, hb1⟩
  have HH1 : Hid (HalfAt L w1 s S B D ps 0) := by
    refine ⟨f, d, ?_, ?_, fun p hp => by cases hp⟩
    · rw [HL.out]; exact hs
    · exact hd
  have HB1 := hide hb1
  have HF2 := hide (HFR.out w1 hb1)
  clear hs hd hb1 HFR
  go_wp2_with fail
  refine HF2.out.mono ?_
  rintro e w2 ⟨t, S2, B2, D2, f2, d2, rfl, hs, hd, hb2⟩
  have HR0 : Hid (ApRel L s D t D2 w ps qs (.bool true) (.bool true) (.int .i64 (0 : Int)) w2) := by
    have hz := HB1.out.size
    refine ⟨0, .inl (Nat.zero_le _), rfl, rfl, rfl, ⟨S, B, S2, B2, HH1.out.below hb2, ⟨f2, d2, hs.down (by rw [HL.out]; exact hz), hd, fun p hp => by cases hp⟩, ?_⟩, ?_⟩
    · obtain ⟨g, dd, g1, -⟩ := HH1.out
      obtain ⟨l1, l2, l3, l4⟩ := g1.lts
      have h1 := hs.low
      have h2 := hs.st.low
      have h3 := hs.st.con.low
      exact ⟨by omega, by omega, by omega, by omega⟩
    · rw [HL.out]; exact HB1.out.trans (hb2.mono hz)
  clear hs hd hb2 HF2 HH1 HB1
  go_wp2_with fail
  go_loopw [6, 8, 9] (fun one two i wr => ApRel L s D t D2 w ps qs one two i wr) (fun _ _ i _ => ps.length + qs.length - (intOf i).toNat)
  case atStart => exact HR0.out
  case round =>
    clear HR0
    obtain ⟨k, hk, rfl, rfl, rfl, ⟨S, B, S2, B2, hs, ht, hap⟩, hb⟩ := hrel
    have hbw : Below w.heap.size w wr := HL.out ▸ hb
    have HS := hide hs
    have HT := hide ht
    have HAP := hide hap
    have HB := hide hb
    have HBW := hide hbw
    clear hs ht hap hb hbw
    have hk6 : k ≤ 6000000000000 := by omega
    by_cases h1 : k < ps.length
    · obtain ⟨g, z, rfl, hsc⟩ := HST1.out (by omega)
      obtain ⟨p, hp⟩ : ∃ p, ps[k]? = some p := ⟨ps[k], List.getElem?_eq_getElem h1⟩
      obtain ⟨e0, e1, e2⟩ := (hsc.below hsc.1 HBW.out).2 k p hp
      simp only [Nat.add_zero] at e0
      have HC1 := hide (half_play HS.out hp (HBD1.out p (List.mem_of_getElem? hp)) hk6 (HPW.out wr HBW.out).1 (HPW.out wr HBW.out).2 hpL)
      have t1 : decide ((k : Int) < (ps.length : Int)) = true := by simp; omega
      have t2 : decide ((ps.length : Int) ≤ (k : Int)) = false := by simp; omega
      clear hsc hp
      obtain ⟨p1, p2, p3⟩ := p
      simp only at e0 e1 e2 HC1
      by_cases h2 : k < qs.length
      · obtain ⟨g', z', rfl, hsc'⟩ := HST2.out (by omega)
        obtain ⟨q, hq⟩ : ∃ q, qs[k]? = some q := ⟨qs[k], List.getElem?_eq_getElem h2⟩
        have t3 : decide ((qs.length : Int) ≤ (k : Int)) = false := by simp; omega
        have HC2 : Hid (∀ w2 S' B', HalfAt L w2 s S' B' D ps (k + 1) → FrX L [s, S, B, D] wr w2 → (S' = S ∨ wr.heap.size ≤ S') → (B' = B ∨ wr.heap.size ≤ B') →
            (w2.cell? ⟨g', z' + k * 3, none⟩ = some (.int .i64 q.1) ∧ w2.cell? ⟨g', z' + k * 3 + 1, none⟩ = some (.int .i64 q.2.1) ∧ w2.cell? ⟨g', z' + k * 3 + 2, none⟩ = some (.int .i64 q.2.2)) ∧
            Calls Tryz.prog 14 #[.pointer (some ⟨t, 0, none⟩), .agg #[.int .i64 q.1, .int .i64 q.2.1, .int .i64 q.2.2]] w2 fun e w3 => e = .returned (.bool true) ∧ ApRel L s D t D2 w ps qs (.bool true) (.bool true) (.int .i64 ((k : Int) + 1)) w3) := by
          intro w2 S' B' hs' hx hS hB
          have hbL : Below L w w2 := HB.out.trans hx.below
          have hbw2 : Below w.heap.size w w2 := HL.out ▸ hbL
          have ht' := HS.out.other HT.out HAP.out hx
          obtain ⟨fq, dq, ht0, -⟩ := HT.out
          have hap' := HAP.out.step ht0 hS hB
          have hcs := (hsc'.below hsc'.1 hbw2).2 k q hq
          simp only [Nat.add_zero] at hcs
          refine ⟨hcs, (half_play ht' hq (HBD2.out q (List.mem_of_getElem? hq)) hk6 (HPW.out w2 hbw2).1 (HPW.out w2 hbw2).2 hpL).mono ?_⟩
          rintro e w3 ⟨rfl, S3, B3, ht3, hx3, hS3, hB3⟩
          obtain ⟨fs, ds, hs0, hsr⟩ := hs'
          exact ⟨rfl, k + 1, by omega, by go_num, rfl, rfl, ⟨S', B', S3, B3, ht'.other ⟨fs, ds, hs0, hsr⟩ hap'.symm hx3, ht3, (hap'.symm.step hs0 hS3 hB3).symm⟩, hbL.trans hx3.below⟩
        clear hsc' hq
        obtain ⟨q1, q2, q3⟩ := q
        simp only at HC2
        go_wp2_with fail
        refine HC1.out.mono ?_
        rintro e w2 ⟨rfl, S', B', hs', hx, hS, hB⟩
        obtain ⟨⟨c0, c1, c2⟩, hc⟩ := HC2.out w2 S' B' hs' hx hS hB
        have HC3 := hide hc
        clear hs' hx hS hB hc HC2 HC1
        go_wp2_with fail
        refine HC3.out.mono ?_
        rintro e w3 ⟨rfl, hrel⟩
        have HR := hide hrel
        clear hrel HC3
        go_wp2_with fail
        go_roundw
        case rel => exact HR.out
        case measure => simp [intOf]; omega
      · have t3 : decide ((qs.length : Int) ≤ (k : Int)) = true := by simp; omega
        have HC2 : Hid (∀ w2 S' B', HalfAt L w2 s S' B' D ps (k + 1) → FrX L [s, S, B, D] wr w2 → (S' = S ∨ wr.heap.size ≤ S') → (B' = B ∨ wr.heap.size ≤ B') → ApRel L s D t D2 w ps qs (.bool true) (.bool true) (.int .i64 ((k : Int) + 1)) w2) := by
          intro w2 S' B' hs' hx hS hB
          have ht' := HS.out.other HT.out HAP.out hx
          obtain ⟨fq, dq, ht0, -⟩ := HT.out
          exact ⟨k + 1, by omega, by go_num, rfl, rfl, ⟨S', B', S2, B2, hs', ht'.up (by omega), HAP.out.step ht0 hS hB⟩, HB.out.trans hx.below⟩
        go_wp2_with fail
        refine HC1.out.mono ?_
        rintro e w2 ⟨rfl, S', B', hs', hx, hS, hB⟩
        have HR := hide (HC2.out w2 S' B' hs' hx hS hB)
        clear hs' hx hS hB HC2 HC1
        go_wp2_with fail
        go_roundw
        case rel => exact HR.out
        case measure => simp [intOf]; omega
    · have t1 : decide ((k : Int) < (ps.length : Int)) = false := by simp; omega
      have t2 : decide ((ps.length : Int) ≤ (k : Int)) = true := by simp; omega
      by_cases h2 : k < qs.length
      · obtain ⟨g', z', rfl, hsc'⟩ := HST2.out (by omega)
        obtain ⟨q, hq⟩ : ∃ q, qs[k]? = some q := ⟨qs[k], List.getElem?_eq_getElem h2⟩
        have t3 : decide ((qs.length : Int) ≤ (k : Int)) = false := by simp; omega
        have t4 : decide ((k : Int) < (qs.length : Int)) = true := by simp; omega
        obtain ⟨e0, e1, e2⟩ := (hsc'.below hsc'.1 HBW.out).2 k q hq
        simp only [Nat.add_zero] at e0
        have HC1 := hide (half_play HT.out hq (HBD2.out q (List.mem_of_getElem? hq)) hk6 (HPW.out wr HBW.out).1 (HPW.out wr HBW.out).2 hpL)
        clear hsc' hq
        obtain ⟨q1, q2, q3⟩ := q
        simp only at e0 e1 e2 HC1
        have HC2 : Hid (∀ w2 S' B', HalfAt L w2 t S' B' D2 qs (k + 1) → FrX L [t, S2, B2, D2] wr w2 → (S' = S2 ∨ wr.heap.size ≤ S') → (B' = B2 ∨ wr.heap.size ≤ B') → ApRel L s D t D2 w ps qs (.bool true) (.bool true) (.int .i64 ((k : Int) + 1)) w2) := by
          intro w2 S' B' ht' hx hS hB
          have hs' := HT.out.other HS.out HAP.out.symm hx
          obtain ⟨fq, dq, hs0, -⟩ := HS.out
          exact ⟨k + 1, by omega, by go_num, rfl, rfl, ⟨S, B, S', B', hs'.up (by omega), ht', (HAP.out.symm.step hs0 hS hB).symm⟩, HB.out.trans hx.below⟩
        go_wp2_with fail
        refine HC1.out.mono ?_
        rintro e w2 ⟨rfl, S', B', hs', hx, hS, hB⟩
        have HR := hide (HC2.out w2 S' B' hs' hx hS hB)
        clear hs' hx hS hB HC2 HC1
        go_wp2_with fail
        go_roundw
        case rel => exact HR.out
        case measure => simp [intOf]; omega
      · have t4 : decide ((k : Int) < (qs.length : Int)) = false := by simp; omega
        have HLV1 := hide (fun x (hx : Below w.heap.size w x) => live_any x _ ps (HV1.out.below hx) (HPW.out x hx).1 (HPW.out x hx).2)
        have HLV2 := hide (fun x (hx : Below w.heap.size w x) => live_any x _ qs (HV2.out.below hx) (HPW.out x hx).1 (HPW.out x hx).2)
        have HE1 := hide (folded_end ps k (by omega))
        have HE2 := hide (folded_end qs k (by omega))
        clear HST1 HST2 HBD1 HBD2 HV1 HV2
        go_wp2_with fail
        refine (HLV1.out wr HBW.out).mono ?_
        rintro e w4 ⟨u, S3, B3, D3, f3, d3, rfl, hu, -, -, hb4⟩
        have HU := hide hu
        have HB4 := hide hb4
        have hbw4 : Below w.heap.size w w4 := below_then HBW.out hb4
        have HL4 := hide (HLV2.out w4 hbw4)
        have HBW4 := hide hbw4
        clear hu hb4 HLV1 HLV2 hbw4
        go_wp2_with fail
        refine HL4.out.mono ?_
        rintro e w5 ⟨v, S4, B4, D4, f4, d4, rfl, hvs, -, -, hb5⟩
        have HW5 := hide hvs
        have HU5 := hide (HU.out.below hb5)
        have HS5 := hide ((HS.out.below HB4.out).below hb5)
        have HT5 := hide ((HT.out.below HB4.out).below hb5)
        have HBW5 := hide (below_then HBW4.out hb5)
        clear hvs hb5 HL4 HU HS HT HB4
        have HA1 := hide (fun x (hx : Below w5.heap.size w5 x) => (half_cells (HS5.out.below hx)).1)
        rw [HE1.out] at HA1
        have HA2 := hide (fun x (hx : Below w5.heap.size w5 x) => cellsS_any _ S3 B3 _ f3 x (HU5.out.below hx).st)
        have HSM := hide (fun x a b va vb ha hb => ksameC a b va vb (ps.foldl Kp.play Jn.none0) x ha hb (HU5.out.st.con.ok))
        have c0 : w5.cell? ⟨s, 0, none⟩ = some (.pointer (some ⟨S, 0, none⟩)) := (half_cells HS5.out).2.2.1
        have c1 : w5.cell? ⟨u, 0, none⟩ = some (.pointer (some ⟨S3, 0, none⟩)) := HU5.out.cells.1
        have HK := hide (fun x (hx : Below w5.heap.size w5 x) => And.intro (at_old hx c0) (at_old hx c1))
        go_upto_region 16 with fail
        go_region_held3 (fun w' => w'.cell? ⟨s, 0, none⟩ = some (.pointer (some ⟨S, 0, none⟩)) ∧ w'.cell? ⟨u, 0, none⟩ = some (.pointer (some ⟨S3, 0, none⟩)))
          (first | with_reducible exact HK.out _ hbc | with_reducible exact HK.out _ hbb | with_reducible exact HK.out _ hba | go_keep)
          (first | (go_at_call 17; (with_reducible refine (HA1.out _ ?hb).mono ?_); (case hb => first | exact Below.refl _ _ | exact Below.drew (Below.refl _ _)); rintro e xa ⟨va, rfl, hra, hba0⟩; have hba : Below w5.heap.size w5 xa := (by first | with_reducible exact hba0 | exact below_undrew hba0)) | (go_at_call 17; (with_reducible refine (HA2.out _ ?hb).mono ?_); (case hb => first | exact hba | exact Below.drew hba); rintro e xb ⟨vb, rfl, hrb, hbb0⟩; have hbb : Below w5.heap.size w5 xb := below_then hba hbb0) | (go_at_call 16; refine (HSM.out _ _ _ _ _ (hra.below hbb0) hrb).mono ?_; rintro e w6 ⟨rfl, hbc0⟩; have hbc : Below w5.heap.size w5 w6 := below_then hbb hbc0))
        have HS6 := hide (HS5.out.below hbc)
        have HT6 := hide (HT5.out.below hbc)
        have HU6 := hide (HU5.out.below hbc)
        have HW6 := hide (HW5.out.below hbc)
        have HBW6 := hide (below_then HBW5.out hbc)
        clear hra hrb hba hbb hbc hba0 hbb0 hbc0 HA1 HA2 HSM c0 c1 HK HS5 HT5 HU5 HW5 HBW5
        have HA1 := hide (fun x (hx : Below w6.heap.size w6 x) => (half_cells (HT6.out.below hx)).1)
        rw [HE2.out] at HA1
        have HA2 := hide (fun x (hx : Below w6.heap.size w6 x) => cellsS_any _ S4 B4 _ f4 x (HW6.out.below hx).st)
        have HSM := hide (fun x a b va vb ha hb => ksameC a b va vb (qs.foldl Kp.play Jn.none0) x ha hb (HW6.out.st.con.ok))
        have c0 : w6.cell? ⟨t, 0, none⟩ = some (.pointer (some ⟨S2, 0, none⟩)) := (half_cells HT6.out).2.2.1
        have c1 : w6.cell? ⟨v, 0, none⟩ = some (.pointer (some ⟨S4, 0, none⟩)) := HW6.out.cells.1
        have HK := hide (fun x (hx : Below w6.heap.size w6 x) => And.intro (at_old hx c0) (at_old hx c1))
        go_upto_region 17 with fail
        go_region_held3 (fun w' => w'.cell? ⟨t, 0, none⟩ = some (.pointer (some ⟨S2, 0, none⟩)) ∧ w'.cell? ⟨v, 0, none⟩ = some (.pointer (some ⟨S4, 0, none⟩)))
          (first | with_reducible exact HK.out _ hbc | with_reducible exact HK.out _ hbb | with_reducible exact HK.out _ hba | go_keep)
          (first | (go_at_call 17; (with_reducible refine (HA1.out _ ?hb).mono ?_); (case hb => first | exact Below.refl _ _ | exact Below.drew (Below.refl _ _)); rintro e xa ⟨va, rfl, hra, hba0⟩; have hba : Below w6.heap.size w6 xa := (by first | with_reducible exact hba0 | exact below_undrew hba0)) | (go_at_call 17; (with_reducible refine (HA2.out _ ?hb).mono ?_); (case hb => first | exact hba | exact Below.drew hba); rintro e xb ⟨vb, rfl, hrb, hbb0⟩; have hbb : Below w6.heap.size w6 xb := below_then hba hbb0) | (go_at_call 16; refine (HSM.out _ _ _ _ _ (hra.below hbb0) hrb).mono ?_; rintro e w7 ⟨rfl, hbc0⟩; have hbc : Below w6.heap.size w6 w7 := below_then hbb hbc0))
        have HS7 := hide (HS6.out.below hbc)
        have HT7 := hide (HT6.out.below hbc)
        have HU7 := hide (HU6.out.below hbc)
        have HW7 := hide (HW6.out.below hbc)
        have HBW7 := hide (below_then HBW6.out hbc)
        clear hra hrb hba hbb hbc hba0 hbb0 hbc0 HA1 HA2 HSM c0 c1 HK HS6 HT6 HU6 HW6 HBW6
        have HA1 := hide (fun x (hx : Below w7.heap.size w7 x) => (half_cells (HS7.out.below hx)).2.1)
        rw [HE1.out] at HA1
        have HA2 := hide (fun x (hx : Below w7.heap.size w7 x) => procsS_any _ S3 B3 _ f3 x (HU7.out.below hx).st)
        have HSM := hide (fun x a b va vb ha hb => ksameP a b va vb (ps.foldl Kp.play Jn.none0) x ha hb (HU7.out.st.con.ok))
        have c0 : w7.cell? ⟨s, 0, none⟩ = some (.pointer (some ⟨S, 0, none⟩)) := (half_cells HS7.out).2.2.1
        have c1 : w7.cell? ⟨u, 0, none⟩ = some (.pointer (some ⟨S3, 0, none⟩)) := HU7.out.cells.1
        have HK := hide (fun x (hx : Below w7.heap.size w7 x) => And.intro (at_old hx c0) (at_old hx c1))
        go_upto_region 18 with fail
        go_region_held3 (fun w' => w'.cell? ⟨s, 0, none⟩ = some (.pointer (some ⟨S, 0, none⟩)) ∧ w'.cell? ⟨u, 0, none⟩ = some (.pointer (some ⟨S3, 0, none⟩)))
          (first | with_reducible exact HK.out _ hbc | with_reducible exact HK.out _ hbb | with_reducible exact HK.out _ hba | go_keep)
          (first | (go_at_call 19; (with_reducible refine (HA1.out _ ?hb).mono ?_); (case hb => first | exact Below.refl _ _ | exact Below.drew (Below.refl _ _)); rintro e xa ⟨va, rfl, hra, hba0⟩; have hba : Below w7.heap.size w7 xa := (by first | with_reducible exact hba0 | exact below_undrew hba0)) | (go_at_call 19; (with_reducible refine (HA2.out _ ?hb).mono ?_); (case hb => first | exact hba | exact Below.drew hba); rintro e xb ⟨vb, rfl, hrb, hbb0⟩; have hbb : Below w7.heap.size w7 xb := below_then hba hbb0) | (go_at_call 18; refine (HSM.out _ _ _ _ _ (hra.below hbb0) hrb).mono ?_; rintro e w8 ⟨rfl, hbc0⟩; have hbc : Below w7.heap.size w7 w8 := below_then hbb hbc0))
        have HS8 := hide (HS7.out.below hbc)
        have HT8 := hide (HT7.out.below hbc)
        have HU8 := hide (HU7.out.below hbc)
        have HW8 := hide (HW7.out.below hbc)
        have HBW8 := hide (below_then HBW7.out hbc)
        clear hra hrb hba hbb hbc hba0 hbb0 hbc0 HA1 HA2 HSM c0 c1 HK HS7 HT7 HU7 HW7 HBW7
        have HA1 := hide (fun x (hx : Below w8.heap.size w8 x) => (half_cells (HT8.out.below hx)).2.1)
        rw [HE2.out] at HA1
        have HA2 := hide (fun x (hx : Below w8.heap.size w8 x) => procsS_any _ S4 B4 _ f4 x (HW8.out.below hx).st)
        have HSM := hide (fun x a b va vb ha hb => ksameP a b va vb (qs.foldl Kp.play Jn.none0) x ha hb (HW8.out.st.con.ok))
        have c0 : w8.cell? ⟨t, 0, none⟩ = some (.pointer (some ⟨S2, 0, none⟩)) := (half_cells HT8.out).2.2.1
        have c1 : w8.cell? ⟨v, 0, none⟩ = some (.pointer (some ⟨S4, 0, none⟩)) := HW8.out.cells.1
        have HK := hide (fun x (hx : Below w8.heap.size w8 x) => And.intro (at_old hx c0) (at_old hx c1))
        go_upto_region 19 with fail
        go_region_held3 (fun w' => w'.cell? ⟨t, 0, none⟩ = some (.pointer (some ⟨S2, 0, none⟩)) ∧ w'.cell? ⟨v, 0, none⟩ = some (.pointer (some ⟨S4, 0, none⟩)))
          (first | with_reducible exact HK.out _ hbc | with_reducible exact HK.out _ hbb | with_reducible exact HK.out _ hba | go_keep)
          (first | (go_at_call 19; (with_reducible refine (HA1.out _ ?hb).mono ?_); (case hb => first | exact Below.refl _ _ | exact Below.drew (Below.refl _ _)); rintro e xa ⟨va, rfl, hra, hba0⟩; have hba : Below w8.heap.size w8 xa := (by first | with_reducible exact hba0 | exact below_undrew hba0)) | (go_at_call 19; (with_reducible refine (HA2.out _ ?hb).mono ?_); (case hb => first | exact hba | exact Below.drew hba); rintro e xb ⟨vb, rfl, hrb, hbb0⟩; have hbb : Below w8.heap.size w8 xb := below_then hba hbb0) | (go_at_call 18; refine (HSM.out _ _ _ _ _ (hra.below hbb0) hrb).mono ?_; rintro e w9 ⟨rfl, hbc0⟩; have hbc : Below w8.heap.size w8 w9 := below_then hbb hbc0))
        have HS9 := hide (HS8.out.below hbc)
        have HT9 := hide (HT8.out.below hbc)
        have HU9 := hide (HU8.out.below hbc)
        have HW9 := hide (HW8.out.below hbc)
        have HBW9 := hide (below_then HBW8.out hbc)
        clear hra hrb hba hbb hbc hba0 hbb0 hbc0 HA1 HA2 HSM c0 c1 HK HS8 HT8 HU8 HW8 HBW8
        have HFIN := hide HBW9.out
        clear HS9 HT9 HU9 HW9
        go_wp2_with fail
        go_ret
        exact ⟨rfl, HFIN.out⟩
end Go.Proofs.YtellilpeakpbfaaGreatDoor
