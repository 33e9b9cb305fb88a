import Derived.Test.YtellilpeakpbfabGreatDoorFolToo
section
/-
  The walks of namedToken and tokenOf: a token's kind and value.
-/
namespace Go.Proofs.YtellilpeakpbfabGreatDoor
open Go.RowKit

/-- a token, as a value. -/
abbrev K (p : Int × Int) : Value := .agg #[.int .i64 p.1, .int .i64 p.2]

theorem u8_val (c : UInt8) (n : Nat) (hn : n < 256) : ((c.toNat : Int) == (n : Int)) = true ↔ c = UInt8.ofNat n := by
  constructor
  · intro h
    have h1 : (c.toNat : Int) = n := beq_iff_eq.1 h
    apply UInt8.toNat_inj.1
    simp
    omega
  · intro h
    rw [h, beq_iff_eq]
    simp
    omega
theorem slot_eq (a b c : UInt8) : Ck.slot [a, b] c = if a = c ∧ 48 ≤ b.toNat ∧ b.toNat ≤ 51 then (b.toNat : Int) - 48 else -1 := rfl
theorem named_a (a b : UInt8) (ha : ((a.toNat : Int) == 97) = true) (h1 : (48 : Int) ≤ b.toNat) (h4 : (b.toNat : Int) < 52) : Ck.named [a, b] = (2, (b.toNat : Int) - 48) := by
  have e : a = 97 := (u8_val a 97 (by omega)).1 ha
  have s1 : Ck.slot [a, b] 97 = (b.toNat : Int) - 48 := by rw [slot_eq, if_pos ⟨e, by omega, by omega⟩]
  rw [Ck.named, s1, if_pos (by omega)]
theorem named_v (a b : UInt8) (ha : ((a.toNat : Int) == 118) = true) (h1 : (48 : Int) ≤ b.toNat) (h4 : (b.toNat : Int) < 52) : Ck.named [a, b] = (3, (b.toNat : Int) - 48) := by
  have e : a = 118 := (u8_val a 118 (by omega)).1 ha
  have n : a ≠ 97 := by rw [e]; decide
  have s1 : Ck.slot [a, b] 97 = -1 := by rw [slot_eq, if_neg (fun h => n h.1)]
  have s2 : Ck.slot [a, b] 118 = (b.toNat : Int) - 48 := by rw [slot_eq, if_pos ⟨e, by omega, by omega⟩]
  rw [Ck.named, s1, s2, if_neg (by omega), if_pos (by omega)]
theorem named_far (a b : UInt8) (h : ¬ ((48 : Int) ≤ b.toNat ∧ (b.toNat : Int) < 52)) : Ck.named [a, b] = (0, 0) := by
  have s1 : Ck.slot [a, b] 97 = -1 := by rw [slot_eq, if_neg (fun x => h ⟨by omega, by omega⟩)]
  have s2 : Ck.slot [a, b] 118 = -1 := by rw [slot_eq, if_neg (fun x => h ⟨by omega, by omega⟩)]
  rw [Ck.named, s1, s2, if_neg (by omega), if_neg (by omega)]
theorem named_other (a b : UInt8) (ha : ((a.toNat : Int) == 97) = false) (hv : ((a.toNat : Int) == 118) = false) : Ck.named [a, b] = (0, 0) := by
  have n1 : a ≠ 97 := fun e => by have h := (u8_val a 97 (by omega)).2 e; exact absurd (ha.symm.trans h) (by simp)
  have n2 : a ≠ 118 := fun e => by have h := (u8_val a 118 (by omega)).2 e; exact absurd (hv.symm.trans h) (by simp)
  have s1 : Ck.slot [a, b] 97 = -1 := by rw [slot_eq, if_neg (fun x => n1 x.1)]
  have s2 : Ck.slot [a, b] 118 = -1 := by rw [slot_eq, if_neg (fun x => n2 x.1)]
  rw [Ck.named, s1, s2, if_neg (by omega), if_neg (by omega)]

set_option maxHeartbeats 1000000 in
theorem named_two (a b : UInt8) (w : World) :
    Calls Tryz.prog 128 #[.string ⟨#[a, b]⟩] w fun e w' => e = .returned (K (Ck.named [a, b])) ∧ Below w.heap.size w w' := by
  have ea : ((⟨#[a, b]⟩ : ByteArray)[0]'(by show 0 < 2; decide)) = a := rfl
  have eb : ((⟨#[a, b]⟩ : ByteArray)[1]'(by show 1 < 2; decide)) = b := rfl
  have hb : (0 : Int) ≤ b.toNat ∧ (b.toNat : Int) ≤ 255 := by have := b.toNat_lt; omega
  obtain ⟨hb1, hb2⟩ := hb
  by_cases hd : Ck.isDig b = true
  · have HD := hide ((Ck.isDig_iff b).1 hd)
    have hd1 : (48 : Int) ≤ b.toNat := by have := HD.out; omega
    have hd2 : (b.toNat : Int) ≤ 57 := by have := HD.out; omega
    by_cases h4 : (b.toNat : Int) < 52
    · have h5 : (b.toNat : Int) - 48 < 4 := by omega
      cases g1 : ((a.toNat : Int) == 97) with
      | true =>
        have HN := hide (named_a a b g1 hd1 h4)
        go_enter Tryz.func128, Tryz.ntmps128
        go_wp2_with (go_at_call 156; refine (isDigit_any _ _).mono ?_; rintro e w' ⟨rfl, rfl⟩)
        exact bodyPost_ret (v := .agg #[.int .i64 2, .int .i64 ((b.toNat : Int) - 48)]) (by simp [results, Tryz.results128, go_sem]) rfl ⟨by rw [HN.out], (Below.refl _ _).alloc (Nat.le_refl _) _⟩
      | false =>
        cases g2 : ((a.toNat : Int) == 118) with
        | true =>
          have HN := hide (named_v a b g2 hd1 h4)
          go_enter Tryz.func128, Tryz.ntmps128
          go_wp2_with (go_at_call 156; refine (isDigit_any _ _).mono ?_; rintro e w' ⟨rfl, rfl⟩)
          exact bodyPost_ret (v := .agg #[.int .i64 3, .int .i64 ((b.toNat : Int) - 48)]) (by simp [results, Tryz.results128, go_sem]) rfl ⟨by rw [HN.out], (Below.refl _ _).alloc (Nat.le_refl _) _⟩
        | false =>
          have HN := hide (named_other a b g1 g2)
          go_enter Tryz.func128, Tryz.ntmps128
          go_wp2_with (go_at_call 156; refine (isDigit_any _ _).mono ?_; rintro e w' ⟨rfl, rfl⟩)
          exact bodyPost_ret (v := .agg #[.int .i64 0, .int .i64 0]) (by simp [results, Tryz.results128, go_sem]) rfl ⟨by rw [HN.out], (Below.refl _ _).alloc (Nat.le_refl _) _⟩
    · have HN := hide (named_far a b (by omega))
      have h5 : ¬ (b.toNat : Int) - 48 < 4 := by omega
      cases g1 : ((a.toNat : Int) == 97) with
      | true =>
        have g2 : ((a.toNat : Int) == 118) = false := beq_eq_false_iff_ne.2 (by have : (a.toNat : Int) = 97 := beq_iff_eq.1 g1; omega)
        go_enter Tryz.func128, Tryz.ntmps128
        go_wp2_with (go_at_call 156; refine (isDigit_any _ _).mono ?_; rintro e w' ⟨rfl, rfl⟩)
        exact bodyPost_ret (v := .agg #[.int .i64 0, .int .i64 0]) (by simp [results, Tryz.results128, go_sem]) rfl ⟨by rw [HN.out], (Below.refl _ _).alloc (Nat.le_refl _) _⟩
      | false =>
        cases g2 : ((a.toNat : Int) == 118) with
        | true =>
          go_enter Tryz.func128, Tryz.ntmps128
          go_wp2_with (go_at_call 156; refine (isDigit_any _ _).mono ?_; rintro e w' ⟨rfl, rfl⟩)
          exact bodyPost_ret (v := .agg #[.int .i64 0, .int .i64 0]) (by simp [results, Tryz.results128, go_sem]) rfl ⟨by rw [HN.out], (Below.refl _ _).alloc (Nat.le_refl _) _⟩
        | false =>
          go_enter Tryz.func128, Tryz.ntmps128
          go_wp2_with (go_at_call 156; refine (isDigit_any _ _).mono ?_; rintro e w' ⟨rfl, rfl⟩)
          exact bodyPost_ret (v := .agg #[.int .i64 0, .int .i64 0]) (by simp [results, Tryz.results128, go_sem]) rfl ⟨by rw [HN.out], (Below.refl _ _).alloc (Nat.le_refl _) _⟩
  · have hd' : Ck.isDig b = false := by simpa using hd
    have HN := hide (named_far a b (fun h => hd ((Ck.isDig_iff b).2 ⟨by omega, by omega⟩)))
    clear hd
    go_enter Tryz.func128, Tryz.ntmps128
    go_wp2_with (go_at_call 156; refine (isDigit_any _ _).mono ?_; rintro e w' ⟨rfl, rfl⟩)
    exact bodyPost_ret (v := .agg #[.int .i64 0, .int .i64 0]) (by simp [results, Tryz.results128, go_sem]) rfl ⟨by rw [HN.out], (Below.refl _ _).alloc (Nat.le_refl _) _⟩

set_option maxHeartbeats 400000 in
theorem named_not (s : ByteArray) (w : World) (h : s.size ≠ 2) :
    Calls Tryz.prog 128 #[.string s] w fun e w' => e = .returned (K (0, 0)) ∧ Below w.heap.size w w' := by
  have h2 : ((s.size : Int) != 2) = true := by simp; omega
  go_enter Tryz.func128, Tryz.ntmps128
  go_wp2
  exact bodyPost_ret (v := .agg #[.int .i64 0, .int .i64 0]) (by simp [results, Tryz.results128, go_sem]) rfl ⟨rfl, (Below.refl _ _).alloc (Nat.le_refl _) _⟩

theorem named_any (s : ByteArray) (w : World) :
    Calls Tryz.prog 128 #[.string s] w fun e w' => e = .returned (K (Ck.named s.data.toList)) ∧ Below w.heap.size w w' := by
  by_cases h : s.size = 2
  · obtain ⟨⟨l⟩⟩ := s
    match l, h with
    | [a, b], _ => exact named_two a b w
  · have e : Ck.named s.data.toList = (0, 0) := by
      unfold Ck.named
      rw [Ck.slot_ne s.data.toList 97 (by simpa using h), Ck.slot_ne s.data.toList 118 (by simpa using h)]
      rfl
    rw [e]
    exact named_not s w h

/-- The words of package source, where they lie. -/
def WordsAt (w : World) : Prop := 0 < w.heap.size ∧ ∀ k, k < 16 → w.cell? ⟨0, k, none⟩ = some (.string ⟨(Ck.wordsL.getD k []).toArray⟩)
theorem WordsAt.below {B : Nat} {w w' : World} (h : WordsAt w) (hB : 0 < B) (hb : Below B w w') : WordsAt w' :=
  ⟨Nat.lt_of_lt_of_le h.1 hb.size, fun k hk => (hb.cell (p := ⟨0, k, none⟩) hB).trans (h.2 k hk)⟩

theorem idx_found (l : List UInt8) (k : Nat) (hk : k < 16) (hb : ∀ j, j < k → Ck.wordsL.getD j [] ≠ l) (h : Ck.wordsL.getD k [] = l) : Ck.wordsL.idxOf l = k := by
  have hl : Ck.wordsL.length = 16 := rfl
  have hk' : k < Ck.wordsL.length := by omega
  have e : Ck.wordsL[k] = l := by rw [← h]; simp [List.getD, hk']
  rcases Nat.lt_trichotomy (Ck.wordsL.idxOf l) k with c | c | c
  · exfalso
    apply hb _ c
    have hc : Ck.wordsL.idxOf l < Ck.wordsL.length := by omega
    have := List.getElem_idxOf hc
    simp [List.getD, hc, this]
  · exact c
  · exfalso
    have := List.not_of_lt_findIdx (p := fun x => x == l) (xs := Ck.wordsL) c
    rw [e] at this
    simp at this
theorem idx_none (l : List UInt8) (hb : ∀ j, j < 16 → Ck.wordsL.getD j [] ≠ l) : ¬ Ck.wordsL.idxOf l < 16 := by
  intro c
  apply hb _ c
  have hc : Ck.wordsL.idxOf l < Ck.wordsL.length := c
  have := List.getElem_idxOf hc
  simp [List.getD, hc, this]

set_option maxHeartbeats 1000000 in
set_option maxRecDepth 100000 in
theorem tokenOf_any (s : ByteArray) (w : World) (hs : s.size ≤ 400) (hW : WordsAt w) :
    Calls Tryz.prog 92 #[.string s] w fun e w' => e = .returned (K (Ck.tokenP s.data.toList)) ∧ Below w.heap.size w w' := by
  have HN := hide (numberIn_any s)
  have HM := hide (named_any s)
  obtain ⟨hw0, hwc⟩ := hW
  have HWC := hide hwc
  clear hwc
  go_enter Tryz.func92, Tryz.ntmps92
  go_wp2
  go_loop [3] (fun i => ∃ k : Nat, k ≤ 16 ∧ i = .int .i64 k ∧ ∀ j, j < k → Ck.wordsL.getD j [] ≠ s.data.toList) (fun i => 16 - (intOf i).toNat)
  case atStart => exact ⟨0, by omega, rfl, by intro j hj; omega⟩
  case round =>
    obtain ⟨k, hk, rfl, hall⟩ := hrel
    have HA := hide hall
    clear hall
    by_cases hlt : k < 16
    · have hc := HWC.out k hlt
      obtain ⟨wk, hwk⟩ : ∃ wk : ByteArray, wk = ⟨(Ck.wordsL.getD k []).toArray⟩ := ⟨_, rfl⟩
      rw [← hwk] at hc
      have HWK := hide hwk
      clear hwk
      cases ht : (wk.toList == s.toList) with
      | true =>
        have HX : Hid (Ck.tokenP s.data.toList = (4 + (k : Int), 0)) := by
          show _ = _
          rw [ByteArray.toList_eq, ByteArray.toList_eq, HWK.out] at ht
          have h1 := idx_found s.data.toList k hlt HA.out (by simpa using ht)
          rw [Ck.tokenP, h1, if_pos hlt]
        go_wp2
        exact bodyPost_ret (v := .agg #[.int .i64 (4 + (k : Int)), .int .i64 0]) (by simp [results, Tryz.results92, go_sem]) rfl ⟨by rw [HX.out], (Below.refl _ _).alloc (Nat.le_refl _) _⟩
      | false =>
        go_wp2
        go_round
        case rel =>
          refine ⟨k + 1, by omega, by go_num, fun j hj => ?_⟩
          by_cases hjk : j < k
          · exact HA.out j hjk
          · have : j = k := by omega
            subst this
            rw [ByteArray.toList_eq, ByteArray.toList_eq, HWK.out] at ht
            simpa using ht
        case measure => simp [intOf]; omega
    · have hidx := idx_none s.data.toList (fun j hj => HA.out j (by omega))
      cases hn : Ck.numIn s.data.toList with
      | some n =>
        have HX : Hid (Ck.tokenP s.data.toList = (1, (n : Int))) := by
          show _ = _
          rw [Ck.tokenP, if_neg hidx, hn]
        rw [hn] at HN
        clear hidx hn
        go_wp2_with (go_at_call 127; refine (HN.out _ hs).mono ?_; rintro e w' ⟨rfl, rfl⟩)
        exact bodyPost_ret (v := .agg #[.int .i64 1, .int .i64 (n : Int)]) (by simp [results, Tryz.results92, go_sem]) rfl ⟨by rw [HX.out], (Below.refl _ _).alloc (Nat.le_refl _) _⟩
      | none =>
        have HX : Hid (Ck.tokenP s.data.toList = Ck.named s.data.toList) := by
          show _ = _
          rw [Ck.tokenP, if_neg hidx, hn]
        rw [hn] at HN
        generalize Ck.named s.data.toList = p at *
        obtain ⟨pk, pv⟩ := p
        clear hidx hn
        go_wp2_with (go_at_call 127; refine (HN.out _ hs).mono ?_; rintro e w' ⟨rfl, rfl⟩)
        refine (HM.out _).mono ?_
        rintro e w' ⟨rfl, hb⟩
        have c0 : w'.cell? ⟨w.heap.size, 0, none⟩ = some (.int .i64 0) := (hb.cell (p := ⟨w.heap.size, 0, none⟩) (by simp)).trans (by simp)
        have c1 : w'.cell? ⟨w.heap.size, 1, none⟩ = some (.int .i64 0) := (hb.cell (p := ⟨w.heap.size, 1, none⟩) (by simp)).trans (by simp)
        have f0 : w'.frozen? ⟨w.heap.size, 0, none⟩ = false := (hb.frozen (p := ⟨w.heap.size, 0, none⟩) (by simp)).trans (by simp)
        have f1 : w'.frozen? ⟨w.heap.size, 1, none⟩ = false := (hb.frozen (p := ⟨w.heap.size, 1, none⟩) (by simp)).trans (by simp)
        have HB : Hid (Below w.heap.size w w') := ((Below.refl _ _).alloc (Nat.le_refl _) _).trans (hb.mono (by simp))
        clear hb
        go_wp2
        refine bodyPost_ret (v := .agg #[.int .i64 pk, .int .i64 pv]) (by simp [results, Tryz.results92, go_sem, c0, c1]) rfl ⟨by rw [HX.out], ?_⟩
        exact (HB.out.setCell (p := ⟨w.heap.size, 0, none⟩) (Nat.le_refl _) _).setCell (p := ⟨w.heap.size, 1, none⟩) (Nat.le_refl _) _
end Go.Proofs.YtellilpeakpbfabGreatDoor

end

section
/-
  What must still come, as package source keeps it: a struct with a list of numbers; push, pop, mayEnd.
-/
namespace Go.Proofs.YtellilpeakpbfabGreatDoor
open Go.RowKit

theorem Tryz.infoInt : (Tryz.prog.info? 3).map (fun i => (i.zero, i.size, i.bytes)) = some (some (.int .i64 0), 1, 8) := by kernel_rfl

/-- The list in the struct at block B, which is the call's own: its head is what comes next. The row of its numbers lies from block C on. -/
def St (B : Nat) (wr : World) (st : List Int) : Prop :=
  ∃ v, wr.cell? ⟨B, 0, none⟩ = some v ∧ wr.frozen? ⟨B, 0, none⟩ = false ∧ wr.ownsRow (B + 1) 3 1 v st.length (st.reverse.map (Value.int .i64))

/-- Every block but B that is no row of numbers is as it was. -/
def Oth (B : Nat) (w w' : World) : Prop := ∀ k, k < w.heap.size → k ≠ B → (∀ cur z, w.heap[k]? ≠ some (.cells cur 3 z)) → w'.heap[k]? = w.heap[k]?
theorem Oth.refl (B : Nat) (w : World) : Oth B w w := fun _ _ _ _ => rfl
theorem Oth.trans {B : Nat} {a b c : World} (h : Oth B a b) (hs : a.heap.size ≤ b.heap.size) (g : Oth B b c) : Oth B a c := by
  intro k hk hB hn
  have e := h k hk hB hn
  rw [g k (by omega) hB (fun cur z => by rw [e]; exact hn cur z), e]

theorem St.cell {B : Nat} {w : World} {st : List Int} (h : St B w st) : ∃ ao cap, w.cell? ⟨B, 0, none⟩ = some (.slice ao st.length cap) := by
  obtain ⟨v, hv, _, _, hcase⟩ := h
  rcases hcase with ⟨rfl, h0⟩ | ⟨g, cap, _, rfl, _⟩
  · exact ⟨none, 0, by rw [hv, h0]⟩
  · exact ⟨_, _, hv⟩

set_option maxRecDepth 100000 in
set_option maxHeartbeats 400000 in
theorem push_any (B : Nat) (x : Int) (st : List Int) (wr : World) (h : St B wr st) (hb : (st.length + 1) * 8 ≤ 140737488355328) (hB : B < wr.heap.size) :
    Calls Tryz.prog 91 #[.pointer (some ⟨B, 0, none⟩), .int .i64 x] wr fun e w' => e = .returned (.tuple #[]) ∧ St B w' (x :: st) ∧ Below B wr w' ∧ Oth B wr w' := by
  obtain ⟨v, hv, hfz, hown⟩ := h
  obtain ⟨i, hi, hz0, hz1, hz2⟩ := info_parts Tryz.infoInt
  go_enter Tryz.func91, Tryz.ntmps91
  go_wp2_with (at_builtin; refine wpList_append_own _ rfl (.tmp 8) (.tmp 10) 48 rfl (B + 1) 3 i (.int .i64 0) 1 8 Tryz.underlying48 hi hz0 hz1 hz2 rfl (by decide) v st.length _ rfl (hown.alloc _) ⟨wr.heap.size, 0, none⟩ 1 1 [.int .i64 x] rfl rfl ?c1 ?c2 (by unfold maxLen; omega) hb (by simp; omega) ?_)
  case c1 =>
    intro j u hj
    match j, hj with
    | 0, hj => simp at hj; subst hj; simp [Addr.add]
  case c2 => intro u hu; simp at hu; subst hu; rfl
  intro v' w1 hown' hgrow _
  have hex : ∃ g' cap', v' = .slice (some ⟨g', 0, none⟩) (st.length + 1) cap' := by
    obtain ⟨_, hcase⟩ := hown'
    rcases hcase with ⟨_, h0⟩ | ⟨g', cap', cur', h, _⟩
    · omega
    · exact ⟨g', cap', h⟩
  obtain ⟨g', cap', hv'⟩ := hex
  rw [hv']
  have hne : some B ≠ v.ownBlock := fun h => by have := hown.lt B h.symm; omega
  have hv1 : w1.cell? ⟨B, 0, none⟩ = some v := hgrow.cell (a := ⟨B, 0, none⟩) ((World.cell?_alloc_past _ _ _ hB).trans hv) hne
  have hf1 : w1.frozen? ⟨B, 0, none⟩ = false := by
    rw [World.frozen?_of_block (w := wr.alloc (.cells #[.int .i64 x] 3)) (hgrow.block B (by simp; omega) hne)]
    exact (World.frozen?_alloc_past _ _ _ hB).trans hfz
  go_wp2
  go_end0
  refine ⟨rfl, ⟨_, World.cell?_setCell_same _ _ _ hv1, (World.frozen?_setCell _ _ _ _).trans hf1, ?_⟩, ?_, ?_⟩
  · have := ownsRow_setCell_below hown' (a := ⟨B, 0, none⟩) (by show B < B + 1; omega) v'
    rw [hv'] at this
    simpa using this
  · exact ((((Below.refl B wr).alloc (by omega) _).grown hgrow (by simp; omega) (fun k hk => by have := (hown.lt k hk).1; omega))).setCell (Nat.le_refl B) _
  · intro k hk hkB hn
    rw [Below.heap_setCell _ _ _ _ (by show k ≠ B; omega), hgrow.block k (by simp; omega) ?_, Below.heap_alloc _ _ _ hk]
    intro he
    rcases hown.2 with ⟨rfl, _⟩ | ⟨g, cap, cur, rfl, _, hh, _⟩
    · simp [Value.ownBlock] at he
    · simp [Value.ownBlock] at he
      subst he
      exact hn _ _ hh

set_option maxRecDepth 100000 in
set_option maxHeartbeats 400000 in
theorem pop_none (B : Nat) (wr : World) (h : St B wr []) :
    Calls Tryz.prog 129 #[.pointer (some ⟨B, 0, none⟩)] wr fun e w' => e = .returned (.int .i64 0) ∧ w' = wr := by
  obtain ⟨v, hv, _, hown⟩ := h
  obtain ⟨_, hcase⟩ := hown
  rcases hcase with ⟨rfl, _⟩ | ⟨g, cap, cur, rfl, _⟩
  all_goals
    go_enter Tryz.func129, Tryz.ntmps129
    go_wp2
    go_ret
    exact ⟨rfl, rfl⟩

theorem st_pop {B : Nat} {x : Int} {st : List Int} {wr w2 : World} {g cap : Nat} {cur : Array Value} {u : Value}
    (hheap : w2.heap = wr.heap) (hos : w2.os = wr.os) (htape : w2.tape = wr.tape) (hout : w2.output = wr.output)
    (hv : wr.cell? ⟨B, 0, none⟩ = some u) (hfz : wr.frozen? ⟨B, 0, none⟩ = false)
    (hg : B + 1 ≤ g) (hh : wr.heap[g]? = some (.cells cur 3)) (hn : st.length + 1 ≤ cap) (hcap : cap ≤ maxLen) (hsz : cur.size = cap * 1)
    (htake : List.take ((x :: st).length * 1) cur.toList = List.map (Value.int .i64) (x :: st).reverse) :
    St B (w2.setCell ⟨B, 0, none⟩ (.slice (some ⟨g, 0, none⟩) st.length cap)) st ∧ Below B wr (w2.setCell ⟨B, 0, none⟩ (.slice (some ⟨g, 0, none⟩) st.length cap)) ∧ Oth B wr (w2.setCell ⟨B, 0, none⟩ (.slice (some ⟨g, 0, none⟩) st.length cap)) := by
  have hv2 : w2.cell? ⟨B, 0, none⟩ = some u := (World.cell?_of_block (w := wr) (by rw [hheap])).trans hv
  have hf2 : w2.frozen? ⟨B, 0, none⟩ = false := (World.frozen?_of_block (w := wr) (by rw [hheap])).trans hfz
  refine ⟨⟨_, World.cell?_setCell_same _ _ _ hv2, (World.frozen?_setCell _ _ _ _).trans hf2, by simp, Or.inr ⟨g, cap, cur, rfl, hg, ?_, by omega, hcap, hsz, ?_⟩⟩, ⟨hos, htape, hout, ?_, fun k hk => ?_⟩, fun k hk hkB _ => ?_⟩
  · rw [Below.heap_setCell _ _ _ _ (by show g ≠ B; omega), hheap]; exact hh
  · have h2 := congrArg (List.take st.length) htake
    simp only [List.length_cons, Nat.mul_one, List.take_take, List.reverse_cons, List.map_append] at h2
    rw [Nat.min_eq_left (by omega)] at h2
    rw [Nat.mul_one, h2]
    simp
  · simp [World.setCell, hheap]
  · rw [Below.heap_setCell _ _ _ _ (by show k ≠ B; omega), hheap]
  · rw [Below.heap_setCell _ _ _ _ (by show k ≠ B; omega), hheap]

set_option maxHeartbeats 1600000 in
set_option maxRecDepth 100000 in
theorem pop_some (B : Nat) (x : Int) (st : List Int) (wr : World) (h : St B wr (x :: st)) :
    Calls Tryz.prog 129 #[.pointer (some ⟨B, 0, none⟩)] wr fun e w' => e = .returned (.int .i64 x) ∧ St B w' st ∧ Below B wr w' ∧ Oth B wr w' := by
  obtain ⟨v, hv, hfz, hown⟩ := h
  have hown0 := hown
  obtain ⟨hlen, hcase⟩ := hown
  rcases hcase with ⟨_, h0⟩ | ⟨g, cap, cur, rfl, hg, hh, hn, hcap, hsz, htake⟩
  · simp at h0
  have hx : wr.cell? ⟨g, st.length, none⟩ = some (.int .i64 x) := by
    have := hown0.cellAt st.length (by simp)
    rw [this]; simp
  simp only [List.length_cons] at hv hn
  have hcap' := hcap
  unfold maxLen at hcap'
  have hz : ((((st.length + 1 : Nat) : Int)) == 0) = false := beq_eq_false_iff_ne.2 (by omega)
  have hle : st.length ≤ cap := by omega
  have fin := st_pop (w2 := wr) rfl rfl rfl rfl hv hfz hg hh hn hcap hsz htake
  clear htake hsz hown0 hlen hh
  go_enter Tryz.func129, Tryz.ntmps129
  go_wp2
  all_goals go_ret
  all_goals exact ⟨rfl, fin⟩

theorem pop_any (B : Nat) (st : List Int) (wr : World) (h : St B wr st) :
    Calls Tryz.prog 129 #[.pointer (some ⟨B, 0, none⟩)] wr fun e w' => e = .returned (.int .i64 (st.headD 0)) ∧ St B w' st.tail ∧ Below B wr w' ∧ Oth B wr w' := by
  cases st with
  | nil => exact (pop_none B wr h).mono fun e w' ⟨he, hw⟩ => by subst hw; exact ⟨he, h, Below.refl _ _, Oth.refl _ _⟩
  | cons x r => exact (pop_some B x r wr h).mono fun e w' ⟨he, hs, hn⟩ => ⟨he, hs, hn⟩

/-- what the caller's walk carries from call to call. -/
def Inv (B : Nat) (w wr : World) (st : List Int) : Prop := St B wr st ∧ Below B w wr ∧ B < wr.heap.size ∧ Oth B w wr
theorem Inv.start {B : Nat} {w : World} {st : List Int} (h : St B w st) (hB : B < w.heap.size) : Inv B w w st := ⟨h, Below.refl _ _, hB, Oth.refl _ _⟩
theorem push_inv (B : Nat) (x : Int) (st : List Int) (w wr : World) (h : Inv B w wr st) (hb : (st.length + 1) * 8 ≤ 140737488355328) :
    Calls Tryz.prog 91 #[.pointer (some ⟨B, 0, none⟩), .int .i64 x] wr fun e w' => e = .returned (.tuple #[]) ∧ Inv B w w' (x :: st) :=
  (push_any B x st wr h.1 hb h.2.2.1).mono fun _ _ ⟨he, hs, hn, ho⟩ => ⟨he, hs, h.2.1.trans hn, Nat.lt_of_lt_of_le h.2.2.1 hn.size, h.2.2.2.trans h.2.1.size ho⟩
theorem pop_inv (B : Nat) (st : List Int) (w wr : World) (h : Inv B w wr st) :
    Calls Tryz.prog 129 #[.pointer (some ⟨B, 0, none⟩)] wr fun e w' => e = .returned (.int .i64 (st.headD 0)) ∧ Inv B w w' st.tail :=
  (pop_any B st wr h.1).mono fun _ _ ⟨he, hs, hn, ho⟩ => ⟨he, hs, h.2.1.trans hn, Nat.lt_of_lt_of_le h.2.2.1 hn.size, h.2.2.2.trans h.2.1.size ho⟩

set_option maxHeartbeats 400000 in
set_option maxRecDepth 100000 in
theorem mayEnd_any (B : Nat) (st : List Int) (wr : World) (h : St B wr st) :
    Calls Tryz.prog 94 #[.pointer (some ⟨B, 0, none⟩)] wr fun e w' => e = .returned (.bool (st == [1])) ∧ w' = wr := by
  obtain ⟨v, hv, hfz, hown⟩ := h
  by_cases h1 : st.length = 1
  · obtain ⟨x, rfl⟩ : ∃ x, st = [x] := by
      match st, h1 with
      | [x], _ => exact ⟨x, rfl⟩
    have hown0 := hown
    rcases hown.2 with ⟨_, h0⟩ | ⟨g, cap, cur, rfl, hg, hh, hn, hcap, hsz, htake⟩
    · simp at h0
    have hx : wr.cell? ⟨g, 0, none⟩ = some (.int .i64 x) := by
      have := hown0.cellAt 0 (by simp)
      rw [this]; simp
    simp only [List.length_cons, List.length_nil] at hv
    clear hown hown0 htake hh
    go_enter Tryz.func94, Tryz.ntmps94
    go_wp2
    all_goals go_ret
    all_goals exact ⟨ret_bool (by rw [Bool.eq_iff_iff]; simp), rfl⟩
  · have he : (st == [1]) = false := by
      rw [beq_eq_false_iff_ne]; intro h; rw [h] at h1; exact h1 rfl
    have HE := hide he
    clear he
    have hz : (((st.length : Nat) : Int) == 1) = false := beq_eq_false_iff_ne.2 (by omega)
    obtain ⟨ao, cap, hc⟩ := St.cell ⟨v, hv, hfz, hown⟩
    clear hv hown
    go_enter Tryz.func94, Tryz.ntmps94
    go_wp2
    all_goals go_ret
    all_goals exact ⟨ret_bool HE.out.symm, rfl⟩
end Go.Proofs.YtellilpeakpbfabGreatDoor

end
