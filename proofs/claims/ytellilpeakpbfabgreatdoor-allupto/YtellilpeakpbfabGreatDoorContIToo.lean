import Derived.Test.YtellilpeakpbfabGreatDoorReadAToo
/-
  The walks of package contents: inserted, copied, Drop, Install.
-/
namespace Go.Proofs.YtellilpeakpbfabGreatDoor
open Go.RowKit

theorem at_old {w wr : World} (hb : Below w.heap.size w wr) {g j : Nat} {u : Value} (h : w.cell? ⟨g, j, none⟩ = some u) : wr.cell? ⟨g, j, none⟩ = some u :=
  (hb.cell (p := ⟨g, j, none⟩) (World.block_lt_of_cell? w _ h)).trans h

set_option maxHeartbeats 2000000 in
set_option maxRecDepth 100000 in
theorem inserted_any (ps : List (List UInt8 × List UInt8)) (v0 : Value) (n s : ByteArray) (w : World) (hrow : PRow w 0 v0 ps) (hcnt : ps.length ≤ 8) :
    Calls Tryz.prog 88 #[v0, .agg #[.string n, .string s]] w fun e w' => ∃ v, e = .returned v ∧ PRow w' w.heap.size v (Jn.insertP ps (n.data.toList, s.data.toList)) ∧ Below w.heap.size w w' := by
  obtain ⟨ao, cap, rfl, hcells⟩ := hrow.shape
  have HRW := hide hcells
  clear hrow hcells
  obtain ⟨i0, hi, hz0, hz1, hz2⟩ := info_parts Tryz.infoProc
  obtain ⟨w1, hw1⟩ : ∃ w1, w1 = w.alloc (.cells #[.string n, .string s] 89) := ⟨_, rfl⟩
  have HB1 : Hid (Below w.heap.size w w1) := by show Below _ _ _; rw [hw1]; exact (Below.refl _ _).alloc (Nat.le_refl _) _
  have n0 : w1.cell? ⟨w.heap.size, 0, none⟩ = some (.string n) := by rw [hw1]; simp
  have n1 : w1.cell? ⟨w.heap.size, 1, none⟩ = some (.string s) := by rw [hw1]; simp
  have hz1' : w1.heap.size = w.heap.size + 1 := by rw [hw1]; simp
  have HR1 : Hid (0 < ps.length → ∃ g, ao = some ⟨g, 0, none⟩ ∧ ∀ j p, ps[j]? = some p → w1.cell? ⟨g, j * 2, none⟩ = some (T p.1) ∧ w1.cell? ⟨g, j * 2 + 1, none⟩ = some (T p.2)) := by
    intro hp
    obtain ⟨g, cur, h1, _, _, h4⟩ := HRW.out hp
    exact ⟨g, h1, fun j p hj => ⟨at_old HB1.out (h4 j p hj).1, at_old HB1.out (h4 j p hj).2⟩⟩
  clear HRW
  have HZ := hide hz1'
  clear hz1'
  go_enter Tryz.func88, Tryz.ntmps88
  go_wp2
  rw [← hw1]
  have HW1 := hide hw1
  clear hw1
  go_loopw [5, 6] (fun v i wr => I1Rel w1 ps n.data.toList v i wr) (fun _ i _ => ps.length - (intOf i).toNat)
  case atStart => exact ⟨0, Nat.zero_le _, rfl, World.ownsRow_nil _ _ _ _, Below.refl _ _, by simp⟩
  case round =>
    obtain ⟨k, hk, rfl, hown, hbel, hall⟩ := hrel
    have hln : (List.take k ps).length = k := by simp; omega
    have m0 := at_old hbel n0
    have m1 := at_old hbel n1
    have HO := hide hown
    have HB := hide hbel
    have HA := hide hall
    have hwz := hbel.size
    clear hown hbel hall
    by_cases hlk : k < ps.length
    · have dk : decide ((k : Int) < (ps.length : Int)) = true := by simp; omega
      obtain ⟨g, rfl, hcells⟩ := HR1.out (by omega)
      obtain ⟨p, hp⟩ : ∃ p, ps[k]? = some p := ⟨ps[k], by simp [hlk]⟩
      obtain ⟨c1, c2⟩ := hcells k p hp
      have d1 := at_old HB.out c1
      have d2 := at_old HB.out c2
      have HK : Hid (ps.take (k + 1) = ps.take k ++ [p]) := by
        show _ = _
        rw [List.take_succ_eq_append_getElem hlk]
        congr 2
        exact (List.getElem?_eq_some_iff.1 hp).2
      have HP := hide hp
      clear hcells c1 c2 hp
      obtain ⟨p1, p2⟩ := p
      simp only [T] at d1 d2
      obtain ⟨q1, hq1⟩ : ∃ q : ByteArray, q = ⟨p1.toArray⟩ := ⟨_, rfl⟩
      obtain ⟨q2, hq2⟩ : ∃ q : ByteArray, q = ⟨p2.toArray⟩ := ⟨_, rfl⟩
      rw [← hq1] at d1
      rw [← hq2] at d2
      have HQ1 := hide hq1
      have HQ2 := hide hq2
      clear hq1 hq2
      cases ht : Op.bytesLess q1.toList n.toList with
      | true =>
        have HE : Hid (Jn.ltB p1 n.data.toList = true) := by
          show _ = _
          rw [ByteArray.toList_eq, ByteArray.toList_eq, HQ1.out, ← ltB_less] at ht
          simpa using ht
        go_wp2
        go_quiet (fail)
        go_wp2_with (at_builtin; refine wpList_append_own _ rfl (.tmp 21) (.tmp 26) 54 rfl w1.heap.size 89 i0 (.agg #[.string ⟨#[]⟩, .string ⟨#[]⟩]) 2 32 Tryz.underlying54 hi hz0 hz1 hz2 rfl (by decide) _ _ _ rfl (World.ownsRow.alloc (own_drewN HO.out _) _) ⟨_, 0, none⟩ 1 1 [.string q1, .string q2] rfl rfl ?c1 ?c2 ?c3 ?c4 ?c5 ?_)
        try (case c1 => exact cell_two_new _ _ _ _)
        case c2 => first | exact ⟨rfl, rfl⟩ | (intro u hu; simp at hu; rcases hu with rfl | rfl <;> rfl)
        case c3 => unfold maxLen; omega
        case c4 => omega
        case c5 => first | omega | (simp; omega)
        intro v' w7 hown' hgrow _
        have HR : Hid (I1Rel w1 ps n.data.toList v' (.int .i64 ((k : Int) + 1)) w7) := by
          refine ⟨k + 1, by omega, by go_num, ?_, grow_below (below_drewN HB.out _) (by simpa using hwz) (own_drewN HO.out _) hgrow, ?_⟩
          · rw [HK.out]
            refine PRow.snoc ?_
            rw [HQ1.out, HQ2.out, ← List.map_take] at hown'
            rw [hln]
            exact hown'
          · rw [HK.out]
            intro p hp
            rcases List.mem_append.1 hp with h | h
            · exact HA.out p h
            · simp at h; rw [h]; exact HE.out
        clear hown' hgrow
        go_wp2
        go_roundw
        case rel => exact HR.out
        case measure => simp [intOf]; omega
      | false =>
        have HE : Hid (Jn.ltB p1 n.data.toList = false) := by
          show _ = _
          rw [ByteArray.toList_eq, ByteArray.toList_eq, HQ1.out, ← ltB_less] at ht
          simpa using ht
        go_wp2
        go_quiet (fail)
        have HI : Hid (Jn.insertP ps (n.data.toList, s.data.toList) = ps.take k ++ [(n.data.toList, s.data.toList)] ++ ps.drop k) :=
          insert_at ps _ k hk HA.out (fun p hp => by rw [HP.out] at hp; cases hp; exact HE.out)
        clear HK HP HE HQ1 HQ2 d1 d2 ht dk
        go_wp2_with (at_builtin; refine wpList_append_own _ rfl (.tmp 30) (.tmp 32) 54 rfl w1.heap.size 89 i0 (.agg #[.string ⟨#[]⟩, .string ⟨#[]⟩]) 2 32 Tryz.underlying54 hi hz0 hz1 hz2 rfl (by decide) _ _ _ rfl (World.ownsRow.alloc (own_drewN HO.out _) _) ⟨_, 0, none⟩ 1 1 [.string n, .string s] rfl rfl ?c1 ?c2 ?c3 ?c4 ?c5 ?_)
        try (case c1 => exact cell_two_new _ _ _ _)
        case c2 => first | exact ⟨rfl, rfl⟩ | (intro u hu; simp at hu; rcases hu with rfl | rfl <;> rfl)
        case c3 => unfold maxLen; omega
        case c4 => omega
        case c5 => first | omega | (simp; omega)
        intro v' w7 hown' hgrow _
        have HR : Hid (I2Rel w1 ps (n.data.toList, s.data.toList) k v' (.int .i64 (k : Int)) w7) := by
          refine ⟨k, Nat.le_refl _, hk, rfl, ?_, grow_below (below_drewN HB.out _) (by simpa using hwz) (own_drewN HO.out _) hgrow⟩
          rw [Nat.sub_self, List.take_zero, List.append_nil]
          refine PRow.snoc ?_
          rw [← List.map_take] at hown'
          rw [hln]
          exact hown'
        clear hown' hgrow HO HB m0 m1
        go_wp2
        go_loopw [5, 6] (fun v i wr => I2Rel w1 ps (n.data.toList, s.data.toList) k v i wr) (fun _ i _ => ps.length - (intOf i).toNat)
        case atStart => exact HR.out
        case round =>
          obtain ⟨j, hkj, hj, rfl, hown, hbel⟩ := hrel
          have hln2 : (ps.take k ++ [(n.data.toList, s.data.toList)] ++ (ps.drop k).take (j - k)).length ≤ 9 := by simp; omega
          have HO := hide hown
          have HB := hide hbel
          have hwz2 := hbel.size
          clear hown hbel HR
          by_cases hlj : j < ps.length
          · obtain ⟨g', hg', hcells⟩ := HR1.out (by omega)
            try (cases hg')
            try (subst hg')
            obtain ⟨p, hp⟩ : ∃ p, ps[j]? = some p := ⟨ps[j], by simp [hlj]⟩
            obtain ⟨c1, c2⟩ := hcells j p hp
            have d1 := at_old HB.out c1
            have d2 := at_old HB.out c2
            have HK := hide (rest_snoc ps k j hkj p hp)
            clear hcells c1 c2 hp
            obtain ⟨p1, p2⟩ := p
            simp only [T] at d1 d2
            obtain ⟨q1, hq1⟩ : ∃ q : ByteArray, q = ⟨p1.toArray⟩ := ⟨_, rfl⟩
            obtain ⟨q2, hq2⟩ : ∃ q : ByteArray, q = ⟨p2.toArray⟩ := ⟨_, rfl⟩
            rw [← hq1] at d1
            rw [← hq2] at d2
            have HQ1 := hide hq1
            have HQ2 := hide hq2
            clear hq1 hq2
            obtain ⟨m, hm⟩ : ∃ m, m = ps.take k ++ [(n.data.toList, s.data.toList)] ++ (ps.drop k).take (j - k) := ⟨_, rfl⟩
            rw [← hm] at HO hln2
            have HM := hide hm
            clear hm
            go_wp2_with (at_builtin; refine wpList_append_own _ rfl (.tmp 38) (.tmp 43) 54 rfl w1.heap.size 89 i0 (.agg #[.string ⟨#[]⟩, .string ⟨#[]⟩]) 2 32 Tryz.underlying54 hi hz0 hz1 hz2 rfl (by decide) _ _ _ rfl (HO.out.alloc _) ⟨_, 0, none⟩ 1 1 [.string q1, .string q2] rfl rfl ?c1 ?c2 ?c3 ?c4 ?c5 ?_)
            try (case c1 => exact cell_two_new _ _ _ _)
            case c2 => first | exact ⟨rfl, rfl⟩ | (intro u hu; simp at hu; rcases hu with rfl | rfl <;> rfl)
            case c3 => unfold maxLen; omega
            case c4 => omega
            case c5 => first | omega | (simp; omega)
            intro v' w8 hown' hgrow _
            have HR : Hid (I2Rel w1 ps (n.data.toList, s.data.toList) k v' (.int .i64 ((j : Int) + 1)) w8) := by
              refine ⟨j + 1, by omega, by omega, by go_num, ?_, grow_below HB.out (by omega) HO.out hgrow⟩
              rw [HK.out, ← List.append_assoc, ← HM.out]
              refine PRow.snoc ?_
              rw [HQ1.out, HQ2.out] at hown'
              exact hown'
            clear hown' hgrow
            go_wp2
            go_roundw
            case rel => exact HR.out
            case measure => simp [intOf]; omega
          · go_wp2
            go_ret
            have e := HO.out
            rw [List.take_of_length_le (l := ps.drop k) (by simp; omega), ← HI.out] at e
            exact ⟨_, rfl, e.base HB1.out.size, HB1.out.trans (HB.out.mono HB1.out.size)⟩
    · have dk : decide ((k : Int) < (ps.length : Int)) = false := by simp; omega
      have HI : Hid (Jn.insertP ps (n.data.toList, s.data.toList) = ps.take k ++ [(n.data.toList, s.data.toList)] ++ ps.drop k) :=
        insert_at ps _ k hk HA.out (fun p hp => by have := (List.getElem?_eq_some_iff.1 hp).1; omega)
      go_wp2
      go_quiet (fail)
      clear dk
      go_wp2_with (at_builtin; refine wpList_append_own _ rfl (.tmp 30) (.tmp 32) 54 rfl w1.heap.size 89 i0 (.agg #[.string ⟨#[]⟩, .string ⟨#[]⟩]) 2 32 Tryz.underlying54 hi hz0 hz1 hz2 rfl (by decide) _ _ _ rfl (World.ownsRow.alloc (own_drewN HO.out _) _) ⟨_, 0, none⟩ 1 1 [.string n, .string s] rfl rfl ?c1 ?c2 ?c3 ?c4 ?c5 ?_)
      try (case c1 => exact cell_two_new _ _ _ _)
      case c2 => first | exact ⟨rfl, rfl⟩ | (intro u hu; simp at hu; rcases hu with rfl | rfl <;> rfl)
      case c3 => unfold maxLen; omega
      case c4 => omega
      case c5 => first | omega | (simp; omega)
      intro v' w7 hown' hgrow _
      have HR : Hid (I2Rel w1 ps (n.data.toList, s.data.toList) k v' (.int .i64 (k : Int)) w7) := by
        refine ⟨k, Nat.le_refl _, hk, rfl, ?_, grow_below (below_drewN HB.out _) (by simpa using hwz) (own_drewN HO.out _) hgrow⟩
        rw [Nat.sub_self, List.take_zero, List.append_nil]
        refine PRow.snoc ?_
        rw [← List.map_take] at hown'
        rw [hln]
        exact hown'
      clear hown' hgrow HO HB m0 m1
      go_wp2
      go_loopw [5, 6] (fun v i wr => I2Rel w1 ps (n.data.toList, s.data.toList) k v i wr) (fun _ i _ => ps.length - (intOf i).toNat)
      case atStart => exact HR.out
      case round =>
        obtain ⟨j, hkj, hj, rfl, hown, hbel⟩ := hrel
        have hln2 : (ps.take k ++ [(n.data.toList, s.data.toList)] ++ (ps.drop k).take (j - k)).length ≤ 9 := by simp; omega
        have HO := hide hown
        have HB := hide hbel
        have hwz2 := hbel.size
        clear hown hbel HR
        by_cases hlj : j < ps.length
        · exact absurd hlj (by omega)
        · go_wp2
          go_ret
          have e := HO.out
          rw [List.take_of_length_le (l := ps.drop k) (by simp; omega), ← HI.out] at e
          exact ⟨_, rfl, e.base HB1.out.size, HB1.out.trans (HB.out.mono HB1.out.size)⟩

theorem copy_runs (s : ByteArray) (w : World) : ∃ w1 cap, (convert 9 154 (.string s)).run Tryz.prog w = .ok (.slice (some ⟨w.heap.size, 0, none⟩) s.size cap) w1 ∧
    (convert 154 9 (.slice (some ⟨w.heap.size, 0, none⟩) s.size cap)).run Tryz.prog w1 = .ok (.string s) w1 ∧ Below w.heap.size w w1 := by
  refine ⟨_, _, run_bytes_of_string w 9 154 5 s Tryz.underlying9 Tryz.underlying154 Tryz.underlying5, ?_, ?_⟩
  · have hl : s.data.toList.length = s.size := by simp
    have := run_convert_bytes_back (P := Tryz.prog) (w.drew.alloc (.cells (bytesRow s (grownCap w s.size 0 5)) 5 ((bytesRow s (grownCap w s.size 0 5)).size, (bytesRow s (grownCap w s.size 0 5)).size + 1))) 154 9 5 ⟨w.heap.size, 0, none⟩ (grownCap w s.size 0 5) s.data.toList Tryz.underlying154 Tryz.underlying5 Tryz.underlying9 ?_
    · rw [hl] at this
      rw [this]
    · intro j hj
      have hj' : j < s.data.size := by simpa using hj
      have := World.cell?_alloc_mark w.drew (bytesRow s (grownCap w s.size 0 5)) 5 ((bytesRow s (grownCap w s.size 0 5)).size, (bytesRow s (grownCap w s.size 0 5)).size + 1) j
      rw [bytesRow_at s _ j hj'] at this
      simp only [Addr.add_lit, Nat.zero_add]
      exact this
  · exact (Below.refl _ _).drew.alloc (Nat.le_refl _) _

set_option maxHeartbeats 400000 in
theorem copied_any (s : ByteArray) (w : World) :
    Calls Tryz.prog 89 #[.string s] w fun e w' => e = .returned (.string s) ∧ Below w.heap.size w w' := by
  obtain ⟨w1, cap, h1, h2, hb⟩ := copy_runs s w
  have HB := hide hb
  clear hb
  go_enter Tryz.func89, Tryz.ntmps89
  go_wp2
  go_ret
  exact ⟨rfl, HB.out⟩

/-- the list of procedures is laid anew. -/
theorem con_setP {L : Nat} {w : World} {B : Nat} {C : Jn.Con} (h : ConAt L w B C) (ps : List (List UInt8 × List UInt8)) (v : Value) (hv : PRow w 0 v ps) (hok : Jn.Ok ⟨C.cells, ps⟩) :
    ConAt L (w.setCell ⟨B, 200, none⟩ v) B ⟨C.cells, ps⟩ ∧ Fr L [] (some B) w (w.setCell ⟨B, 200, none⟩ v) := by
  obtain ⟨cur, v0, hh, hs, hc, hv0, hp⟩ := h.mem
  have h1 := heap_setCell_same w B 200 cur _ v hh
  have hfr : Fr L [123] none w (w.setCell ⟨B, 200, none⟩ v) := by
    refine ⟨(Below.refl L w).setCell (p := ⟨B, 200, none⟩) h.low _, ?_⟩
    intro k cur' t z hk ht _
    rw [heap_setCell_other _ _ _ _ (fun e => ?_)]
    · exact hk
    · simp at e; subst e; rw [hh] at hk; cases hk; simp at ht
  have hfs : Fr L [] (some B) w (w.setCell ⟨B, 200, none⟩ v) :=
    ⟨hfr.below, fun k cur' t z hk _ hX => (heap_setCell_other _ _ _ _ (fun e => hX (by simp at e; rw [e]))).trans hk⟩
  refine ⟨⟨h.low, hok, _, v, h1, by simp [hs], ?_, ?_, ?_⟩, hfs⟩
  · intro k p hk
    have hk2 : C.cells[k]? = some p := hk
    have hk' : k < 100 := by have := (List.getElem?_eq_some_iff.1 hk2).1; have := h.ok.len; omega
    obtain ⟨c1, c2⟩ := hc k p hk
    constructor
    · rw [Array.getElem?_setIfInBounds, if_neg (by omega)]; exact c1
    · rw [Array.getElem?_setIfInBounds, if_neg (by omega)]; exact c2
  · rw [Array.getElem?_setIfInBounds, if_pos rfl, if_pos (by omega)]
  · exact own_fr hv hfr (by decide) (.inl rfl)

set_option maxHeartbeats 400000 in
theorem dropC_own (L B : Nat) (C : Jn.Con) (s : ByteArray) (w : World) (h : ConAt L w B C) :
    Calls Tryz.prog 61 #[.pointer (some ⟨B, 0, none⟩), .string s] w fun e w' => e = .returned (.int .i64 (Jn.drop C s.data.toList).2) ∧ ConAt L w' B (Jn.drop C s.data.toList).1 ∧ Fr L [] (some B) w w' := by
  obtain ⟨r, hr⟩ : ∃ r, r = Jn.drop C s.data.toList := ⟨_, rfl⟩
  rw [← hr]
  have HRR := hide hr
  clear hr
  have ho := others_any L B C s w h
  have HO := hide ho
  have HC := hide h
  have hlow := h.low
  have hlt := h.lt
  clear ho h
  go_enter Tryz.func61, Tryz.ntmps61
  go_wp2_with fail
  refine HO.out.mono ?_
  rintro e w1 ⟨v, rfl, hrow, hb⟩
  obtain ⟨ao, cap, rfl, -⟩ := hrow.shape
  have hc1 := HC.out.below hb
  obtain ⟨v0, hc200, hf200, hrow0⟩ := con_procs hc1
  obtain ⟨ao0, cap0, rfl, -⟩ := hrow0.shape
  have HF : Hid (Fr L [] (some B) w w1) := Fr.of hb (by omega)
  have HC1 := hide hc1
  have HR := hide hrow
  have hc0 : C.procs.length ≤ 8 := HC.out.ok.cnt
  have hs0 := Jn.others_sub C.procs s.data.toList
  clear hc1 hb hrow hrow0 HO
  have HOK : Hid (Jn.Ok ⟨C.cells, Jn.others C.procs s.data.toList⟩) :=
    ⟨HC.out.ok.len, HC.out.ok.val, Nat.le_trans hs0 hc0, fun p hp => HC.out.ok.prc p (Jn.others_mem _ _ _ hp).1, HC.out.ok.srt.filter _⟩
  by_cases hl : (Jn.others C.procs s.data.toList).length = C.procs.length
  · have t1 : (((Jn.others C.procs s.data.toList).length : Int) == (C.procs.length : Int)) = true := by rw [hl]; simp
    have HL := hide hl
    clear hl
    go_wp2
    go_ret
    rw [HRR.out, Jn.drop, if_pos HL.out]
    exact ⟨rfl, HC1.out, HF.out⟩
  · have t1 : (((Jn.others C.procs s.data.toList).length : Int) == (C.procs.length : Int)) = false := beq_eq_false_iff_ne.2 (by omega)
    have HL := hide hl
    clear hl
    have hset := con_setP HC1.out (Jn.others C.procs s.data.toList) _ (HR.out.base (Nat.zero_le _)) HOK.out
    have HS := hide hset
    clear hset
    go_wp2
    go_ret
    rw [HRR.out, Jn.drop, if_neg HL.out]
    exact ⟨rfl, HS.out.1, HF.out.trans HS.out.2⟩

set_option maxHeartbeats 400000 in
theorem installC_name (B : Nat) (n s : ByteArray) (w : World) (hn : Jn.isName n.data.toList = false) :
    Calls Tryz.prog 63 #[.pointer (some ⟨B, 0, none⟩), .string n, .string s] w fun e w' => e = .returned (.tuple #[.int .i64 0, .int .i64 3]) ∧ w' = w := by
  have hc := isName_any n
  rw [hn] at hc
  have HC := hide hc
  clear hc hn
  go_enter Tryz.func63, Tryz.ntmps63
  go_wp2_with fail
  refine (HC.out _).mono ?_
  rintro e w1 ⟨rfl, rfl⟩
  go_wp2
  go_ret2
  exact ⟨rfl, rfl⟩
set_option maxHeartbeats 400000 in
theorem installC_src (B : Nat) (n s : ByteArray) (w : World) (hW : WordsAt w) (hn : Jn.isName n.data.toList = true) (hr : (Ck.read s.data.toList).2 ≠ 0) :
    Calls Tryz.prog 63 #[.pointer (some ⟨B, 0, none⟩), .string n, .string s] w fun e w' => e = .returned (.tuple #[.int .i64 (Ck.read s.data.toList).1, .int .i64 (Ck.read s.data.toList).2]) ∧ Below w.heap.size w w' := by
  have hc := isName_any n
  rw [hn] at hc
  have HC := hide hc
  have HR := hide (read_any s w hW)
  clear hc hn hW
  generalize Ck.read s.data.toList = p at *
  obtain ⟨p1, p2⟩ := p
  have t1 : (p2 != 0) = true := by simpa using hr
  clear hr
  go_enter Tryz.func63, Tryz.ntmps63
  go_wp2_with fail
  refine (HC.out _).mono ?_
  rintro e w1 ⟨rfl, rfl⟩
  go_wp2_with fail
  refine HR.out.mono ?_
  rintro e w2 ⟨v, rfl, hb, -⟩
  have HB := hide hb
  clear hb
  go_wp2
  go_ret2
  exact ⟨rfl, HB.out⟩
set_option maxHeartbeats 400000 in
theorem installC_full (L B : Nat) (C : Jn.Con) (n s : ByteArray) (w : World) (h : ConAt L w B C) (hW : WordsAt w) (hn : Jn.isName n.data.toList = true) (hr : (Ck.read s.data.toList).2 = 0) (hf : 8 ≤ (Jn.others C.procs n.data.toList).length) :
    Calls Tryz.prog 63 #[.pointer (some ⟨B, 0, none⟩), .string n, .string s] w fun e w' => e = .returned (.tuple #[.int .i64 0, .int .i64 4]) ∧ Below w.heap.size w w' := by
  have hc := isName_any n
  rw [hn] at hc
  have HC := hide hc
  have HR := hide (read_any s w hW)
  have HO := hide (others_any L B C n)
  have HH := hide h
  clear hc hn hW h
  generalize Ck.read s.data.toList = p at *
  obtain ⟨p1, p2⟩ := p
  have t1 : (p2 != 0) = false := by simpa using hr
  clear hr
  go_enter Tryz.func63, Tryz.ntmps63
  go_wp2_with fail
  refine (HC.out _).mono ?_
  rintro e w1 ⟨rfl, rfl⟩
  go_wp2_with fail
  refine HR.out.mono ?_
  rintro e w2 ⟨v, rfl, hb, -⟩
  have HB := hide hb
  clear hb
  go_wp2_with fail
  refine (HO.out _ (HH.out.below HB.out)).mono ?_
  rintro e w3 ⟨v, rfl, hrow, hb⟩
  obtain ⟨ao, cap, rfl, -⟩ := hrow.shape
  have HB3 := hide hb
  clear hb hrow
  have t2 : decide (8 ≤ ((Jn.others C.procs n.data.toList).length : Int)) = true := by simp; omega
  go_wp2
  go_ret2
  exact ⟨rfl, HB.out.trans (HB3.out.mono HB.out.size)⟩
set_option maxHeartbeats 1000000 in
theorem installC_ok (L B : Nat) (C : Jn.Con) (n s : ByteArray) (w : World) (h : ConAt L w B C) (hW : WordsAt w) (hn : Jn.isName n.data.toList = true) (hr : (Ck.read s.data.toList).2 = 0) (hf : (Jn.others C.procs n.data.toList).length < 8) :
    Calls Tryz.prog 63 #[.pointer (some ⟨B, 0, none⟩), .string n, .string s] w fun e w' => e = .returned (.tuple #[.int .i64 0, .int .i64 0]) ∧ ConAt L w' B ⟨C.cells, Jn.insertP (Jn.others C.procs n.data.toList) (n.data.toList, s.data.toList)⟩ ∧ Fr L [] (some B) w w' := by
  have hok : Jn.Ok ⟨C.cells, Jn.insertP (Jn.others C.procs n.data.toList) (n.data.toList, s.data.toList)⟩ := by
    have := h.ok.install n.data.toList s.data.toList
    unfold Jn.install at this
    rw [if_neg (by rw [hn]; simp), if_neg (by simpa using hr), if_neg (by omega)] at this
    exact this
  have HOK := hide hok
  have hc := isName_any n
  rw [hn] at hc
  have HC := hide hc
  have HR := hide (read_any s w hW)
  have HO := hide (others_any L B C n)
  have HH := hide h
  have hlow := h.low
  have hlt := h.lt
  clear hc hn hW h hok
  generalize Ck.read s.data.toList = p at *
  obtain ⟨p1, p2⟩ := p
  have t1 : (p2 != 0) = false := by simpa using hr
  clear hr
  go_enter Tryz.func63, Tryz.ntmps63
  go_wp2_with fail
  refine (HC.out _).mono ?_
  rintro e w1 ⟨rfl, rfl⟩
  go_wp2_with fail
  refine HR.out.mono ?_
  rintro e w2 ⟨v, rfl, hb, -⟩
  have HB := hide hb
  clear hb HR
  go_wp2_with fail
  refine (HO.out _ (HH.out.below HB.out)).mono ?_
  rintro e w3 ⟨v, rfl, hrow, hb⟩
  obtain ⟨ao, cap, rfl, -⟩ := hrow.shape
  have HB3 : Hid (Below w1.heap.size w1 w3) := HB.out.trans (hb.mono HB.out.size)
  have HP3 := hide hrow
  clear hb hrow HO
  have t2 : decide (8 ≤ ((Jn.others C.procs n.data.toList).length : Int)) = false := by simp; omega
  go_wp2_with fail
  refine (copied_any n _).mono ?_
  rintro e w4 ⟨rfl, hb4⟩
  have HB4 := hide hb4
  clear hb4
  go_wp2_with fail
  refine (copied_any s _).mono ?_
  rintro e w5 ⟨rfl, hb5⟩
  have HB5 : Hid (Below w3.heap.size w3 w5) := HB4.out.trans (hb5.mono HB4.out.size)
  clear hb5 HB4
  have hin := inserted_any (Jn.others C.procs n.data.toList) _ n s w5 (PRow.base (ownsRow_below HP3.out HB5.out) (Nat.zero_le _)) (by omega)
  have HIN := hide hin
  clear hin
  go_wp2_with fail
  refine HIN.out.mono ?_
  rintro e w6 ⟨v6, rfl, hrow6, hb6⟩
  have HB6 : Hid (Below w1.heap.size w1 w6) := HB3.out.trans ((HB5.out.trans (hb6.mono HB5.out.size)).mono HB3.out.size)
  have hc6 := HH.out.below HB6.out
  obtain ⟨v0, hc200, hf200, hrow0⟩ := con_procs hc6
  have hset := con_setP hc6 _ _ (hrow6.base (Nat.zero_le _)) HOK.out
  have HS := hide hset
  have HF : Hid (Fr L [] (some B) w1 w6) := Fr.of HB6.out (by omega)
  obtain ⟨ao6, cap6, rfl, -⟩ := hrow6.shape
  clear hset hc6 hb6 hrow6 hrow0 HIN
  go_wp2
  go_ret2
  exact ⟨rfl, HS.out.1, HF.out.trans HS.out.2⟩
theorem installC_own (L B : Nat) (C : Jn.Con) (n s : ByteArray) (w : World) (h : ConAt L w B C) (hW : WordsAt w) :
    Calls Tryz.prog 63 #[.pointer (some ⟨B, 0, none⟩), .string n, .string s] w fun e w' => e = .returned (.tuple #[.int .i64 (Jn.install C n.data.toList s.data.toList).2.1, .int .i64 (Jn.install C n.data.toList s.data.toList).2.2]) ∧ ConAt L w' B (Jn.install C n.data.toList s.data.toList).1 ∧ Fr L [] (some B) w w' := by
  unfold Jn.install
  have hL : L ≤ w.heap.size := Nat.le_trans h.low (Nat.le_of_lt h.lt)
  cases hn : Jn.isName n.data.toList with
  | false =>
    refine (installC_name B n s w hn).mono fun e w' ⟨he, hw⟩ => ?_
    subst hw
    exact ⟨he, h, Fr.refl _ _ _ _⟩
  | true =>
    rw [if_neg (by simp)]
    by_cases hr : (Ck.read s.data.toList).2 = 0
    · rw [if_neg (by simpa using hr)]
      by_cases hf : 8 ≤ (Jn.others C.procs n.data.toList).length
      · rw [if_pos hf]
        exact (installC_full L B C n s w h hW hn hr hf).mono fun e w' ⟨he, hb⟩ => ⟨he, h.below hb, Fr.of hb hL⟩
      · rw [if_neg hf]
        exact installC_ok L B C n s w h hW hn hr (by omega)
    · rw [if_pos hr]
      exact (installC_src B n s w hW hn hr).mono fun e w' ⟨he, hb⟩ => ⟨he, h.below hb, Fr.of hb hL⟩
theorem dropC_any (L B : Nat) (C : Jn.Con) (s : ByteArray) (w : World) (h : ConAt L w B C) :
    Calls Tryz.prog 61 #[.pointer (some ⟨B, 0, none⟩), .string s] w fun e w' => e = .returned (.int .i64 (Jn.drop C s.data.toList).2) ∧ ConAt L w' B (Jn.drop C s.data.toList).1 ∧ Fr L [123] none w w' := by
  obtain ⟨cur, v0, hh, -⟩ := h.mem
  exact (dropC_own L B C s w h).mono fun e w' ⟨h1, h2, h3⟩ => ⟨h1, h2, h3.weak hh⟩
theorem installC_any (L B : Nat) (C : Jn.Con) (n s : ByteArray) (w : World) (h : ConAt L w B C) (hW : WordsAt w) :
    Calls Tryz.prog 63 #[.pointer (some ⟨B, 0, none⟩), .string n, .string s] w fun e w' => e = .returned (.tuple #[.int .i64 (Jn.install C n.data.toList s.data.toList).2.1, .int .i64 (Jn.install C n.data.toList s.data.toList).2.2]) ∧ ConAt L w' B (Jn.install C n.data.toList s.data.toList).1 ∧ Fr L [123] none w w' := by
  obtain ⟨cur, v0, hh, -⟩ := h.mem
  exact (installC_own L B C n s w h hW).mono fun e w' ⟨h1, h2, h3⟩ => ⟨h1, h2, h3.weak hh⟩
end Go.Proofs.YtellilpeakpbfabGreatDoor
