import Derived.Test.YtellilpeakpbfaaDoorToks
import Derived.Test.YtellilpeakpbfaaDoorAfter
/-
  The walk of the document's Check.
-/
namespace Go.Proofs.YtellilpeakpbfaaDoor
open Go.RowKit

/-- A row of texts that a call has made: its value, its cells. -/
theorem row_shape {w : World} {B : Nat} {v : Value} {ts : List (List UInt8)} (h : w.ownsRow B 9 1 v ts.length (ts.map T)) :
    ∃ ao cap, v = .slice ao ts.length cap ∧ (0 < ts.length → ∃ g, ao = some ⟨g, 0, none⟩ ∧ B ≤ g ∧ g < w.heap.size ∧ ∀ j, j < ts.length → w.cell? ⟨g, j, none⟩ = some (.string ⟨(ts.getD j []).toArray⟩)) := by
  have h0 := h
  rcases h.2 with ⟨rfl, hn⟩ | ⟨g, cap, cur, rfl, hg, hh, hcap, hm, hsz, htake⟩
  · exact ⟨none, 0, by rw [hn], fun hp => by omega⟩
  · refine ⟨_, cap, rfl, fun _ => ⟨g, rfl, hg, (Array.getElem?_eq_some_iff.1 hh).1, fun j hj => ?_⟩⟩
    have := h0.cellAt j (by simpa using hj)
    rw [this]
    simp [List.getD, hj, T]

set_option maxHeartbeats 2000000 in
set_option maxRecDepth 100000 in
theorem refCheck_short (s : ByteArray) (w : World) (hs : s.size ≤ 400) :
    Calls Tryd.prog 12 #[.string s] w fun e w' => e = .returned (.tuple #[.int .i64 (Ck.refCheck s.data.toList).1, .int .i64 (Ck.refCheck s.data.toList).2]) ∧ Below w.heap.size w w' := by
  have hl : s.data.toList.length = s.size := by simp
  have hR : Ck.refCheck s.data.toList = Ck.chkGo 0 [115] (Ck.toks s.data.toList) := by rw [Ck.refCheck, if_neg (by omega)]
  rw [hR]
  have htk := Ck.toks_len s.data.toList
  have ht := tokens_any s
  generalize Ck.toks s.data.toList = ts at *
  have HT := hide ht
  obtain ⟨hn1, hn2, hn3⟩ := htk
  rw [hl] at hn1 hn3
  have HN := hide hn3
  clear ht hR hl hn2 hn3
  have hd4 : decide (400 < (s.size : Int)) = false := by simp; omega
  go_enter Tryd.func12, Tryd.ntmps12
  go_wp2_with fail
  refine (HT.out _ hs).mono ?_
  rintro e w1 ⟨v, rfl, hown, hbel⟩
  obtain ⟨ao, cap, rfl, hrow⟩ := row_shape hown
  have HB := hide hbel
  have HRW := hide hrow
  clear hown hbel hrow HT
  go_wp2
  go_loopw [5, 6] (fun x i wr => ∃ (k : Nat) (u : ByteArray), k ≤ ts.length ∧ i = .int .i64 k ∧ x = .string u ∧ u.size ≤ 1 + 7 * k ∧ Ck.chkGo k u.data.toList (ts.drop k) = Ck.chkGo 0 [115] ts ∧ ∃ m, wr = w1.drewN m)
    (fun _ i _ => ts.length - (intOf i).toNat)
  case atStart => exact ⟨0, ⟨#[115]⟩, Nat.zero_le _, rfl, rfl, by decide, rfl, 0, rfl⟩
  case round =>
    obtain ⟨k, u, hk, rfl, rfl, hu, hgo, m, rfl⟩ := hrel
    have HG := hide hgo
    clear hgo
    by_cases hlt : k < ts.length
    · obtain ⟨g, rfl, hg1, hg2, hcells⟩ := HRW.out (by omega)
      obtain ⟨t, hte⟩ : ∃ t, t = ts.getD k [] := ⟨_, rfl⟩
      have hck : w1.cell? ⟨g, k, none⟩ = some (.string ⟨t.toArray⟩) := by rw [hte]; exact hcells k hlt
      have htl : t.length ≤ s.size := HN.out t (by rw [hte]; simp [List.getD, hlt])
      have hdr : ts.drop k = t :: ts.drop (k + 1) := by rw [List.drop_eq_getElem_cons hlt, hte]; simp [List.getD, hlt]
      have HD := hide hdr
      clear hcells hdr hte
      have ha := after_any u ⟨t.toArray⟩ (w1.drewN m) (by omega) (by show t.length ≤ 400; omega)
      have HA := hide ha
      clear ha
      cases hb : (Ck.after u.data.toList t).2 with
      | true =>
        have HC : Hid (Ck.chkGo (k + 1) (Ck.after u.data.toList t).1 (ts.drop (k + 1)) = Ck.chkGo 0 [115] ts) := by
          show _ = _
          rw [← HG.out, HD.out, Ck.chkGo, if_pos hb]
        have HL := hide (Ck.after_len u.data.toList t)
        rw [hb] at HA
        clear hb HG
        go_wp2_with (go_at_call 24; refine HA.out.mono ?_; rintro e w' ⟨rfl, n, rfl⟩)
        go_roundw
        case rel =>
          refine ⟨k + 1, ⟨(Ck.after u.data.toList t).1.toArray⟩, by omega, by go_num, rfl, ?_, HC.out, m + n, ?_⟩
          · have h1 := HL.out
            have h2 : u.data.toList.length = u.size := by simp
            show (Ck.after u.data.toList t).1.length ≤ _
            omega
          · rfl
        case measure => simp [intOf]; omega
      | false =>
        have HC : Hid (Ck.chkGo 0 [115] ts = ((k : Int), 2)) := by
          show _ = _
          rw [← HG.out, HD.out, Ck.chkGo, if_neg (by rw [hb]; simp)]
        rw [hb] at HA
        clear hb HG
        go_wp2_with (go_at_call 24; refine HA.out.mono ?_; rintro e w' ⟨rfl, n, rfl⟩)
        go_ret2
        rw [HC.out]
        refine ⟨rfl, ?_⟩
        exact below_drewN HB.out _
    · have HE : Hid (Ck.chkGo 0 [115] ts = if ∀ c ∈ u.data.toList, c = 115 then (0, 0) else ((ts.length : Int), 2)) := by
        show _ = _
        rw [← HG.out, List.drop_eq_nil_of_le (by omega), Ck.chkGo, show k = ts.length by omega]
      clear HG HRW
      go_wp2
      go_loop [9] (fun i => ∃ j : Nat, j ≤ u.size ∧ i = .int .i64 j ∧ ∀ c ∈ u.data.toList.take j, c = 115) (fun i => u.size - (intOf i).toNat)
      case atStart => exact ⟨0, Nat.zero_le _, rfl, by simp⟩
      case round =>
        obtain ⟨j, hj, rfl, hall⟩ := hrel
        have HALL := hide hall
        clear hall
        by_cases hju : j < u.size
        · have HS := hide (take_snoc u j hju)
          cases g1 : ((u[j].toNat : Int) == 115) with
          | true =>
            have HE0 := hide (u8_of _ 115 (by omega) g1)
            have g2 : ((u[j].toNat : Int) != 115) = false := by simp [bne, g1]
            go_wp2
            go_round
            case rel =>
              refine ⟨j + 1, by omega, by go_num, ?_⟩
              rw [HS.out]
              intro c hc
              rcases List.mem_append.1 hc with h | h
              · exact HALL.out c h
              · simp at h; rw [h]; exact HE0.out
            case measure => simp [intOf]; omega
          | false =>
            have HE0 := hide (u8_not _ 115 (by omega) g1)
            have g2 : ((u[j].toNat : Int) != 115) = true := by simp [bne, g1]
            go_wp2
            go_ret2
            rw [HE.out, if_neg]
            · exact ⟨rfl, below_drewN HB.out _⟩
            · intro h
              exact HE0.out (h u[j] (by rw [← List.take_append_drop (j + 1) u.data.toList, HS.out]; simp))
        · have HTA := hide (take_all u j hju)
          go_wp2
          go_ret2
          rw [HE.out, if_pos (by have := HALL.out; rwa [HTA.out] at this)]
          exact ⟨rfl, below_drewN HB.out _⟩

set_option maxHeartbeats 400000 in
theorem refCheck_long (s : ByteArray) (w : World) (hs : 400 < s.size) :
    Calls Tryd.prog 12 #[.string s] w fun e w' => e = .returned (.tuple #[.int .i64 0, .int .i64 1]) ∧ w' = w := by
  have hd4 : (400 : Int) < (s.size : Int) := by omega
  go_enter Tryd.func12, Tryd.ntmps12
  go_wp2
  go_ret2
  exact ⟨rfl, rfl⟩
theorem refCheck_any (s : ByteArray) (w : World) :
    Calls Tryd.prog 12 #[.string s] w fun e w' => e = .returned (.tuple #[.int .i64 (Ck.refCheck s.data.toList).1, .int .i64 (Ck.refCheck s.data.toList).2]) ∧ Below w.heap.size w w' := by
  by_cases hs : s.size ≤ 400
  · exact refCheck_short s w hs
  · have hl : s.data.toList.length = s.size := by simp
    rw [Ck.refCheck, if_pos (by omega)]
    exact (refCheck_long s w (by omega)).mono fun e w' ⟨he, hw⟩ => ⟨he, by rw [hw]; exact Below.refl _ _⟩
end Go.Proofs.YtellilpeakpbfaaDoor
