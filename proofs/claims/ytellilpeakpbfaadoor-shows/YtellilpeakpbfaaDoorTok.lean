import Derived.Test.YtellilpeakpbfaaDoorFol
/-
  The walks of namedToken and tokenOf: a token's kind and value.
-/
namespace Go.Proofs.YtellilpeakpbfaaDoor
open Go.RowKit

/-- a token, as a value. -/
abbrev K (p : Int × Int) : Value := .agg #[.int .i64 p.1, .int .i64 p.2]

theorem u8_val (c : UInt8) (n : Nat) (hn : n < 256) : ((c.toNat : Int) == (n : Int)) = true ↔ c = UInt8.ofNat n := by
  constructor
  · intro h
    have h1 : (c.toNat : Int) = n := beq_iff_eq.1 h
    apply UInt8.toNat_inj.1
    simp
    omega
  · intro h
    rw [h, beq_iff_eq]
    simp
    omega
theorem slot_eq (a b c : UInt8) : Ck.slot [a, b] c = if a = c ∧ 48 ≤ b.toNat ∧ b.toNat ≤ 51 then (b.toNat : Int) - 48 else -1 := rfl
theorem named_a (a b : UInt8) (ha : ((a.toNat : Int) == 97) = true) (h1 : (48 : Int) ≤ b.toNat) (h4 : (b.toNat : Int) < 52) : Ck.named [a, b] = (2, (b.toNat : Int) - 48) := by
  have e : a = 97 := (u8_val a 97 (by omega)).1 ha
  have s1 : Ck.slot [a, b] 97 = (b.toNat : Int) - 48 := by rw [slot_eq, if_pos ⟨e, by omega, by omega⟩]
  rw [Ck.named, s1, if_pos (by omega)]
theorem named_v (a b : UInt8) (ha : ((a.toNat : Int) == 118) = true) (h1 : (48 : Int) ≤ b.toNat) (h4 : (b.toNat : Int) < 52) : Ck.named [a, b] = (3, (b.toNat : Int) - 48) := by
  have e : a = 118 := (u8_val a 118 (by omega)).1 ha
  have n : a ≠ 97 := by rw [e]; decide
  have s1 : Ck.slot [a, b] 97 = -1 := by rw [slot_eq, if_neg (fun h => n h.1)]
  have s2 : Ck.slot [a, b] 118 = (b.toNat : Int) - 48 := by rw [slot_eq, if_pos ⟨e, by omega, by omega⟩]
  rw [Ck.named, s1, s2, if_neg (by omega), if_pos (by omega)]
theorem named_far (a b : UInt8) (h : ¬ ((48 : Int) ≤ b.toNat ∧ (b.toNat : Int) < 52)) : Ck.named [a, b] = (0, 0) := by
  have s1 : Ck.slot [a, b] 97 = -1 := by rw [slot_eq, if_neg (fun x => h ⟨by omega, by omega⟩)]
  have s2 : Ck.slot [a, b] 118 = -1 := by rw [slot_eq, if_neg (fun x => h ⟨by omega, by omega⟩)]
  rw [Ck.named, s1, s2, if_neg (by omega), if_neg (by omega)]
theorem named_other (a b : UInt8) (ha : ((a.toNat : Int) == 97) = false) (hv : ((a.toNat : Int) == 118) = false) : Ck.named [a, b] = (0, 0) := by
  have n1 : a ≠ 97 := fun e => by have h := (u8_val a 97 (by omega)).2 e; exact absurd (ha.symm.trans h) (by simp)
  have n2 : a ≠ 118 := fun e => by have h := (u8_val a 118 (by omega)).2 e; exact absurd (hv.symm.trans h) (by simp)
  have s1 : Ck.slot [a, b] 97 = -1 := by rw [slot_eq, if_neg (fun x => n1 x.1)]
  have s2 : Ck.slot [a, b] 118 = -1 := by rw [slot_eq, if_neg (fun x => n2 x.1)]
  rw [Ck.named, s1, s2, if_neg (by omega), if_neg (by omega)]

set_option maxHeartbeats 1000000 in
theorem named_two (a b : UInt8) (w : World) :
    Calls Tryd.prog 32 #[.string ⟨#[a, b]⟩] w fun e w' => e = .returned (K (Ck.named [a, b])) ∧ Below w.heap.size w w' := by
  have ea : ((⟨#[a, b]⟩ : ByteArray)[0]'(by show 0 < 2; decide)) = a := rfl
  have eb : ((⟨#[a, b]⟩ : ByteArray)[1]'(by show 1 < 2; decide)) = b := rfl
  have hb : (0 : Int) ≤ b.toNat ∧ (b.toNat : Int) ≤ 255 := by have := b.toNat_lt; omega
  obtain ⟨hb1, hb2⟩ := hb
  by_cases hd : Ck.isDig b = true
  · have HD := hide ((Ck.isDig_iff b).1 hd)
    have hd1 : (48 : Int) ≤ b.toNat := by have := HD.out; omega
    have hd2 : (b.toNat : Int) ≤ 57 := by have := HD.out; omega
    by_cases h4 : (b.toNat : Int) < 52
    · have h5 : (b.toNat : Int) - 48 < 4 := by omega
      cases g1 : ((a.toNat : Int) == 97) with
      | true =>
        have HN := hide (named_a a b g1 hd1 h4)
        go_enter Tryd.func32, Tryd.ntmps32
        go_wp2_with (go_at_call 47; refine (isDigit_any _ _).mono ?_; rintro e w' ⟨rfl, rfl⟩)
        exact bodyPost_ret (v := .agg #[.int .i64 2, .int .i64 ((b.toNat : Int) - 48)]) (by simp [results, Tryd.results32, go_sem]) rfl ⟨by rw [HN.out], (Below.refl _ _).alloc (Nat.le_refl _) _⟩
      | false =>
        cases g2 : ((a.toNat : Int) == 118) with
        | true =>
          have HN := hide (named_v a b g2 hd1 h4)
          go_enter Tryd.func32, Tryd.ntmps32
          go_wp2_with (go_at_call 47; refine (isDigit_any _ _).mono ?_; rintro e w' ⟨rfl, rfl⟩)
          exact bodyPost_ret (v := .agg #[.int .i64 3, .int .i64 ((b.toNat : Int) - 48)]) (by simp [results, Tryd.results32, go_sem]) rfl ⟨by rw [HN.out], (Below.refl _ _).alloc (Nat.le_refl _) _⟩
        | false =>
          have HN := hide (named_other a b g1 g2)
          go_enter Tryd.func32, Tryd.ntmps32
          go_wp2_with (go_at_call 47; refine (isDigit_any _ _).mono ?_; rintro e w' ⟨rfl, rfl⟩)
          exact bodyPost_ret (v := .agg #[.int .i64 0, .int .i64 0]) (by simp [results, Tryd.results32, go_sem]) rfl ⟨by rw [HN.out], (Below.refl _ _).alloc (Nat.le_refl _) _⟩
    · have HN := hide (named_far a b (by omega))
      have h5 : ¬ (b.toNat : Int) - 48 < 4 := by omega
      cases g1 : ((a.toNat : Int) == 97) with
      | true =>
        have g2 : ((a.toNat : Int) == 118) = false := beq_eq_false_iff_ne.2 (by have : (a.toNat : Int) = 97 := beq_iff_eq.1 g1; omega)
        go_enter Tryd.func32, Tryd.ntmps32
        go_wp2_with (go_at_call 47; refine (isDigit_any _ _).mono ?_; rintro e w' ⟨rfl, rfl⟩)
        exact bodyPost_ret (v := .agg #[.int .i64 0, .int .i64 0]) (by simp [results, Tryd.results32, go_sem]) rfl ⟨by rw [HN.out], (Below.refl _ _).alloc (Nat.le_refl _) _⟩
      | false =>
        cases g2 : ((a.toNat : Int) == 118) with
        | true =>
          go_enter Tryd.func32, Tryd.ntmps32
          go_wp2_with (go_at_call 47; refine (isDigit_any _ _).mono ?_; rintro e w' ⟨rfl, rfl⟩)
          exact bodyPost_ret (v := .agg #[.int .i64 0, .int .i64 0]) (by simp [results, Tryd.results32, go_sem]) rfl ⟨by rw [HN.out], (Below.refl _ _).alloc (Nat.le_refl _) _⟩
        | false =>
          go_enter Tryd.func32, Tryd.ntmps32
          go_wp2_with (go_at_call 47; refine (isDigit_any _ _).mono ?_; rintro e w' ⟨rfl, rfl⟩)
          exact bodyPost_ret (v := .agg #[.int .i64 0, .int .i64 0]) (by simp [results, Tryd.results32, go_sem]) rfl ⟨by rw [HN.out], (Below.refl _ _).alloc (Nat.le_refl _) _⟩
  · have hd' : Ck.isDig b = false := by simpa using hd
    have HN := hide (named_far a b (fun h => hd ((Ck.isDig_iff b).2 ⟨by omega, by omega⟩)))
    clear hd
    go_enter Tryd.func32, Tryd.ntmps32
    go_wp2_with (go_at_call 47; refine (isDigit_any _ _).mono ?_; rintro e w' ⟨rfl, rfl⟩)
    exact bodyPost_ret (v := .agg #[.int .i64 0, .int .i64 0]) (by simp [results, Tryd.results32, go_sem]) rfl ⟨by rw [HN.out], (Below.refl _ _).alloc (Nat.le_refl _) _⟩

set_option maxHeartbeats 400000 in
theorem named_not (s : ByteArray) (w : World) (h : s.size ≠ 2) :
    Calls Tryd.prog 32 #[.string s] w fun e w' => e = .returned (K (0, 0)) ∧ Below w.heap.size w w' := by
  have h2 : ((s.size : Int) != 2) = true := by simp; omega
  go_enter Tryd.func32, Tryd.ntmps32
  go_wp2
  exact bodyPost_ret (v := .agg #[.int .i64 0, .int .i64 0]) (by simp [results, Tryd.results32, go_sem]) rfl ⟨rfl, (Below.refl _ _).alloc (Nat.le_refl _) _⟩

theorem named_any (s : ByteArray) (w : World) :
    Calls Tryd.prog 32 #[.string s] w fun e w' => e = .returned (K (Ck.named s.data.toList)) ∧ Below w.heap.size w w' := by
  by_cases h : s.size = 2
  · obtain ⟨⟨l⟩⟩ := s
    match l, h with
    | [a, b], _ => exact named_two a b w
  · have e : Ck.named s.data.toList = (0, 0) := by
      unfold Ck.named
      rw [Ck.slot_ne s.data.toList 97 (by simpa using h), Ck.slot_ne s.data.toList 118 (by simpa using h)]
      rfl
    rw [e]
    exact named_not s w h

/-- The words of package source, where they lie. -/
def WordsAt (w : World) : Prop := 0 < w.heap.size ∧ ∀ k, k < 16 → w.cell? ⟨0, k, none⟩ = some (.string ⟨(Ck.wordsL.getD k []).toArray⟩)
theorem WordsAt.below {B : Nat} {w w' : World} (h : WordsAt w) (hB : 0 < B) (hb : Below B w w') : WordsAt w' :=
  ⟨Nat.lt_of_lt_of_le h.1 hb.size, fun k hk => (hb.cell (p := ⟨0, k, none⟩) hB).trans (h.2 k hk)⟩

theorem idx_found (l : List UInt8) (k : Nat) (hk : k < 16) (hb : ∀ j, j < k → Ck.wordsL.getD j [] ≠ l) (h : Ck.wordsL.getD k [] = l) : Ck.wordsL.idxOf l = k := by
  have hl : Ck.wordsL.length = 16 := rfl
  have hk' : k < Ck.wordsL.length := by omega
  have e : Ck.wordsL[k] = l := by rw [← h]; simp [List.getD, hk']
  rcases Nat.lt_trichotomy (Ck.wordsL.idxOf l) k with c | c | c
  · exfalso
    apply hb _ c
    have hc : Ck.wordsL.idxOf l < Ck.wordsL.length := by omega
    have := List.getElem_idxOf hc
    simp [List.getD, hc, this]
  · exact c
  · exfalso
    have := List.not_of_lt_findIdx (p := fun x => x == l) (xs := Ck.wordsL) c
    rw [e] at this
    simp at this
theorem idx_none (l : List UInt8) (hb : ∀ j, j < 16 → Ck.wordsL.getD j [] ≠ l) : ¬ Ck.wordsL.idxOf l < 16 := by
  intro c
  apply hb _ c
  have hc : Ck.wordsL.idxOf l < Ck.wordsL.length := c
  have := List.getElem_idxOf hc
  simp [List.getD, hc, this]

set_option maxHeartbeats 1000000 in
set_option maxRecDepth 100000 in
theorem tokenOf_any (s : ByteArray) (w : World) (hs : s.size ≤ 400) (hW : WordsAt w) :
    Calls Tryd.prog 20 #[.string s] w fun e w' => e = .returned (K (Ck.tokenP s.data.toList)) ∧ Below w.heap.size w w' := by
  have HN := hide (numberIn_any s)
  have HM := hide (named_any s)
  obtain ⟨hw0, hwc⟩ := hW
  have HWC := hide hwc
  clear hwc
  go_enter Tryd.func20, Tryd.ntmps20
  go_wp2
  go_loop [3] (fun i => ∃ k : Nat, k ≤ 16 ∧ i = .int .i64 k ∧ ∀ j, j < k → Ck.wordsL.getD j [] ≠ s.data.toList) (fun i => 16 - (intOf i).toNat)
  case atStart => exact ⟨0, by omega, rfl, by intro j hj; omega⟩
  case round =>
    obtain ⟨k, hk, rfl, hall⟩ := hrel
    have HA := hide hall
    clear hall
    by_cases hlt : k < 16
    · have hc := HWC.out k hlt
      obtain ⟨wk, hwk⟩ : ∃ wk : ByteArray, wk = ⟨(Ck.wordsL.getD k []).toArray⟩ := ⟨_, rfl⟩
      rw [← hwk] at hc
      have HWK := hide hwk
      clear hwk
      cases ht : (wk.toList == s.toList) with
      | true =>
        have HX : Hid (Ck.tokenP s.data.toList = (4 + (k : Int), 0)) := by
          show _ = _
          rw [ByteArray.toList_eq, ByteArray.toList_eq, HWK.out] at ht
          have h1 := idx_found s.data.toList k hlt HA.out (by simpa using ht)
          rw [Ck.tokenP, h1, if_pos hlt]
        go_wp2
        exact bodyPost_ret (v := .agg #[.int .i64 (4 + (k : Int)), .int .i64 0]) (by simp [results, Tryd.results20, go_sem]) rfl ⟨by rw [HX.out], (Below.refl _ _).alloc (Nat.le_refl _) _⟩
      | false =>
        go_wp2
        go_round
        case rel =>
          refine ⟨k + 1, by omega, by go_num, fun j hj => ?_⟩
          by_cases hjk : j < k
          · exact HA.out j hjk
          · have : j = k := by omega
            subst this
            rw [ByteArray.toList_eq, ByteArray.toList_eq, HWK.out] at ht
            simpa using ht
        case measure => simp [intOf]; omega
    · have hidx := idx_none s.data.toList (fun j hj => HA.out j (by omega))
      cases hn : Ck.numIn s.data.toList with
      | some n =>
        have HX : Hid (Ck.tokenP s.data.toList = (1, (n : Int))) := by
          show _ = _
          rw [Ck.tokenP, if_neg hidx, hn]
        rw [hn] at HN
        clear hidx hn
        go_wp2_with (go_at_call 31; refine (HN.out _ hs).mono ?_; rintro e w' ⟨rfl, rfl⟩)
        exact bodyPost_ret (v := .agg #[.int .i64 1, .int .i64 (n : Int)]) (by simp [results, Tryd.results20, go_sem]) rfl ⟨by rw [HX.out], (Below.refl _ _).alloc (Nat.le_refl _) _⟩
      | none =>
        have HX : Hid (Ck.tokenP s.data.toList = Ck.named s.data.toList) := by
          show _ = _
          rw [Ck.tokenP, if_neg hidx, hn]
        rw [hn] at HN
        generalize Ck.named s.data.toList = p at *
        obtain ⟨pk, pv⟩ := p
        clear hidx hn
        go_wp2_with (go_at_call 31; refine (HN.out _ hs).mono ?_; rintro e w' ⟨rfl, rfl⟩)
        refine (HM.out _).mono ?_
        rintro e w' ⟨rfl, hb⟩
        have c0 : w'.cell? ⟨w.heap.size, 0, none⟩ = some (.int .i64 0) := (hb.cell (p := ⟨w.heap.size, 0, none⟩) (by simp)).trans (by simp)
        have c1 : w'.cell? ⟨w.heap.size, 1, none⟩ = some (.int .i64 0) := (hb.cell (p := ⟨w.heap.size, 1, none⟩) (by simp)).trans (by simp)
        have f0 : w'.frozen? ⟨w.heap.size, 0, none⟩ = false := (hb.frozen (p := ⟨w.heap.size, 0, none⟩) (by simp)).trans (by simp)
        have f1 : w'.frozen? ⟨w.heap.size, 1, none⟩ = false := (hb.frozen (p := ⟨w.heap.size, 1, none⟩) (by simp)).trans (by simp)
        have HB : Hid (Below w.heap.size w w') := ((Below.refl _ _).alloc (Nat.le_refl _) _).trans (hb.mono (by simp))
        clear hb
        go_wp2
        refine bodyPost_ret (v := .agg #[.int .i64 pk, .int .i64 pv]) (by simp [results, Tryd.results20, go_sem, c0, c1]) rfl ⟨by rw [HX.out], ?_⟩
        exact (HB.out.setCell (p := ⟨w.heap.size, 0, none⟩) (Nat.le_refl _) _).setCell (p := ⟨w.heap.size, 1, none⟩) (Nat.le_refl _) _
end Go.Proofs.YtellilpeakpbfaaDoor
