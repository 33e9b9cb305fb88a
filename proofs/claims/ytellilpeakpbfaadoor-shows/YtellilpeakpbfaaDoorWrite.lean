import Derived.Test.YtellilpeakpbfaaDoorText
import Derived.Test.YtellilpeakpbfaaDoorRead
/-
  The walk of Write.
-/
namespace Go.Proofs.YtellilpeakpbfaaDoor
open Go.RowKit

theorem cellsOf_at (ts : List (List UInt8)) : ∀ (j : Nat), j < ts.length → (cellsOf ts)[2 * j]? = some (.int .i64 (Ck.tokenP (ts.getD j [])).1) ∧ (cellsOf ts)[2 * j + 1]? = some (.int .i64 (Ck.tokenP (ts.getD j [])).2) := by
  induction ts with
  | nil => intro j hj; simp at hj
  | cons t ts ih =>
    intro j hj
    have e : cellsOf (t :: ts) = .int .i64 (Ck.tokenP t).1 :: .int .i64 (Ck.tokenP t).2 :: cellsOf ts := by simp [cellsOf]
    cases j with
    | zero => rw [e]; exact ⟨rfl, rfl⟩
    | succ j =>
      have h := ih j (by simp at hj; omega)
      rw [e, show 2 * (j + 1) = 2 * j + 1 + 1 by omega]
      simp only [List.getElem?_cons_succ]
      simpa using h
/-- A row of tokens that a call has made: its value, its cells. -/
theorem tok_shape {w : World} {B : Nat} {v : Value} {ts : List (List UInt8)} (h : w.ownsRow B 55 2 v ts.length (cellsOf ts)) :
    ∃ ao cap, v = .slice ao ts.length cap ∧ (0 < ts.length → ∃ g, ao = some ⟨g, 0, none⟩ ∧ g < w.heap.size ∧ ∀ j, j < ts.length → w.cell? ⟨g, 2 * j, none⟩ = some (.int .i64 (Ck.tokenP (ts.getD j [])).1) ∧ w.cell? ⟨g, 2 * j + 1, none⟩ = some (.int .i64 (Ck.tokenP (ts.getD j [])).2)) := by
  have h0 := h
  rcases h.2 with ⟨rfl, hn⟩ | ⟨g, cap, cur, rfl, hg, hh, hcap, hm, hsz, htake⟩
  · exact ⟨none, 0, by rw [hn], fun hp => by omega⟩
  · refine ⟨_, cap, rfl, fun _ => ⟨g, rfl, (Array.getElem?_eq_some_iff.1 hh).1, fun j hj => ?_⟩⟩
    obtain ⟨c1, c2⟩ := cellsOf_at ts j hj
    have a1 := h0.cells (g := g) rfl (2 * j) _ c1
    have a2 := h0.cells (g := g) rfl (2 * j + 1) _ c2
    simp only [Addr.add_lit, Nat.zero_add] at a1 a2
    exact ⟨a1, a2⟩

def WrRel (w : World) (ts : List (List UInt8)) (x i : Value) (wr : World) : Prop :=
  ∃ (k : Nat) (u : ByteArray), k ≤ ts.length ∧ i = .int .i64 k ∧ x = .string u ∧ u.data.toList = Ck.lineK ts k ∧ Below w.heap.size w wr

set_option maxHeartbeats 1000000 in
set_option maxRecDepth 100000 in
theorem write_any (ts : List (List UInt8)) (v : Value) (w : World) (B : Nat) (hown : w.ownsRow B 55 2 v ts.length (cellsOf ts)) (hk : ∀ t ∈ ts, (Ck.tokenP t).1 ≠ 0) (hl : ∀ t ∈ ts, t.length ≤ 400) (hn : ts.length ≤ 401) (hW : WordsAt w) (hP : PowAt w) :
    Calls Tryd.prog 14 #[v] w fun e w' => e = .returned (T (Ck.lineK ts ts.length)) ∧ Below w.heap.size w w' := by
  obtain ⟨ao, cap, rfl, hrow⟩ := tok_shape hown
  have HRW := hide hrow
  have HK := hide hk
  have HL := hide hl
  have HW := hide hW
  have HP := hide hP
  clear hown hrow hk hl hW hP
  go_enter Tryd.func14, Tryd.ntmps14
  go_wp2
  go_loopw [3, 4] (fun x i wr => WrRel w ts x i wr) (fun _ i _ => ts.length - (intOf i).toNat)
  case atStart => exact ⟨0, ⟨#[]⟩, Nat.zero_le _, rfl, rfl, rfl, Below.refl _ _⟩
  case round =>
    obtain ⟨k, u, hkn, rfl, rfl, hline, hbel⟩ := hrel
    have hus : u.size ≤ 401 * k := by
      have h1 := Ck.lineK_len ts HL.out k
      have h2 : u.data.toList.length = u.size := by simp
      rw [hline] at h2; omega
    have HLN := hide hline
    have HB := hide hbel
    clear hline hbel
    by_cases hlt : k < ts.length
    · obtain ⟨g, rfl, hg, hcells⟩ := HRW.out (by omega)
      obtain ⟨t, hte⟩ : ∃ t, t = ts.getD k [] := ⟨_, rfl⟩
      have htm : t ∈ ts := by rw [hte]; simp [List.getD, hlt]
      obtain ⟨c1, c2⟩ := hcells k hlt
      rw [← hte] at c1 c2
      rw [Nat.mul_comm 2 k] at c1 c2
      have d1 : wr.cell? ⟨g, k * 2, none⟩ = some (.int .i64 (Ck.tokenP t).1) := (HB.out.cell (p := ⟨g, k * 2, none⟩) hg).trans c1
      have d2 : wr.cell? ⟨g, k * 2 + 1, none⟩ = some (.int .i64 (Ck.tokenP t).2) := (HB.out.cell (p := ⟨g, k * 2 + 1, none⟩) hg).trans c2
      have ht := text_any t wr (HK.out t htm) (HW.out.below HW.out.1 HB.out) (HP.out.below HP.out.1 HB.out)
      have hsl := Ck.showTok_len t (HL.out t htm)
      have hstep : Ck.lineK ts (k + 1) = Ck.lineK ts k ++ ((if 0 < k then [32] else []) ++ Ck.showTok t) := by rw [hte]; rfl
      generalize Ck.showTok t = q at *
      generalize Ck.tokenP t = p at *
      obtain ⟨p1, p2⟩ := p
      obtain ⟨Q, hQ⟩ : ∃ Q : ByteArray, Q = ⟨q.toArray⟩ := ⟨_, rfl⟩
      have hQs : Q.size ≤ 400 := by rw [hQ]; exact hsl
      have ht' : Calls Tryd.prog 25 #[.agg #[.int .i64 p1, .int .i64 p2]] wr fun e w' => e = .returned (.string Q) ∧ Below wr.heap.size wr w' := by rw [hQ]; exact ht
      have HT := hide ht'
      have HQ := hide hQ
      have HST := hide hstep
      clear ht ht' hQ hstep hte htm hsl hcells c1 c2
      by_cases h0 : 0 < k
      · go_wp2_with (go_at_call 25; refine HT.out.mono ?_; rintro e w2 ⟨rfl, hb2⟩)
        go_roundw
        case rel =>
          refine ⟨k + 1, u ++ ⟨#[32]⟩ ++ Q, by omega, by go_num, rfl, ?_, HB.out.trans (hb2.mono HB.out.size)⟩
          rw [HST.out, if_pos h0, ← HLN.out, HQ.out]
          simp
        case measure => simp [intOf]; omega
      · go_wp2_with (go_at_call 25; refine HT.out.mono ?_; rintro e w2 ⟨rfl, hb2⟩)
        go_roundw
        case rel =>
          refine ⟨k + 1, u ++ Q, by omega, by go_num, rfl, ?_, HB.out.trans (hb2.mono HB.out.size)⟩
          rw [HST.out, if_neg h0, ← HLN.out, HQ.out]
          simp
        case measure => simp [intOf]; omega
    · go_wp2
      go_ret
      refine ⟨?_, HB.out⟩
      show Ending.returned (.string u) = _
      rw [show ts.length = k by omega, ← HLN.out]; rfl
end Go.Proofs.YtellilpeakpbfaaDoor
