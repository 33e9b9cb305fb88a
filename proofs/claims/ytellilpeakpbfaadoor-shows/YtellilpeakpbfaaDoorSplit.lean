import Derived.Test.YtellilpeakpbfaaDoorFol
/-
  The walk of split: the tokens of a source, as package source cuts them.
-/
namespace Go.Proofs.YtellilpeakpbfaaDoor
open Go.RowKit

theorem Tryd.infoStr : (Tryd.prog.info? 9).map (fun i => (i.zero, i.size, i.bytes)) = some (some (.string ⟨#[]⟩), 1, 16) := by kernel_rfl

/-- Behind an append to a row of the call's own. -/
theorem below_own {B : Nat} {e : TypeId} {size : Nat} {w w0 w1 : World} {o : Obj} {v : Value} {n : Nat} {xs : List Value} (h : Below B w w0) (hB : B ≤ w0.heap.size) (hown : w0.ownsRow B e size v n xs) (hg : (w0.alloc o).grownBy w1 v.ownBlock) : Below B w w1 :=
  (h.alloc hB o).grown hg (by simp; omega) (fun k hk => (hown.lt k hk).1)

theorem extract_T (s : ByteArray) (b k : Nat) : Value.string (s.extract b k) = T ((s.data.toList.take k).drop b) := by
  unfold T
  congr 1
  apply ByteArray.ext
  apply Array.ext'
  simp [List.drop_take]

set_option maxHeartbeats 1000000 in
set_option maxRecDepth 100000 in
theorem split_any (s : ByteArray) (w : World) (hs : s.size ≤ 400) :
    Calls Tryd.prog 18 #[.string s] w fun e w' => ∃ v, e = .returned v ∧ w'.ownsRow w.heap.size 9 1 v (Ck.toks s.data.toList).length ((Ck.toks s.data.toList).map T) ∧ Below w.heap.size w w' := by
  obtain ⟨i0, hi, hz0, hz1, hz2⟩ := info_parts Tryd.infoStr
  have hl : s.data.toList.length = s.size := by simp
  have HL := hide hl
  clear hl
  go_enter Tryd.func18, Tryd.ntmps18
  go_wp2
  go_loopw [3, 4, 5] (fun v a i wr => ∃ (k b : Nat), k ≤ s.size ∧ b ≤ k ∧ i = .int .i64 k ∧ a = .int .i64 b ∧ (Ck.scan (s.data.toList.take k)).2 = (s.data.toList.take k).drop b ∧
      wr.ownsRow w.heap.size 9 1 v (Ck.scan (s.data.toList.take k)).1.length ((Ck.scan (s.data.toList.take k)).1.map T) ∧ Below w.heap.size w wr)
    (fun _ _ i _ => s.size - (intOf i).toNat)
  case atStart => exact ⟨0, 0, Nat.zero_le _, Nat.le_refl _, rfl, rfl, rfl, World.ownsRow_nil _ _ _ _, Below.refl _ _⟩
  case round =>
    obtain ⟨k, b, hk, hbk, rfl, rfl, hsc, hown, hbel⟩ := hrel
    have HS := hide hsc
    have HO := hide hown
    have HB := hide hbel
    have hn : (Ck.scan (s.data.toList.take k)).1.length ≤ 400 := by
      have h1 := (Ck.scan_len (s.data.toList.take k)).1
      have h2 : (s.data.toList.take k).length ≤ k := by simp; omega
      omega
    have hsz := hbel.size
    clear hsc hown hbel
    by_cases hlt : k < s.size
    · have HT := hide (take_snoc s k hlt)
      by_cases hsp : Ck.isSp s[k] = true
      · by_cases hbk' : b < k
        · go_wp2_with (first
            | (go_at_call 30; refine (isSpace_any _ _).mono ?_; rintro e w' ⟨rfl, rfl⟩)
            | (at_builtin; refine wpList_append_own _ rfl (.tmp 20) (.tmp 25) 48 rfl w.heap.size 9 i0 (.string ⟨#[]⟩) 1 16 Tryd.underlying48 hi hz0 hz1 hz2 rfl (by decide) _ _ _ rfl (HO.out.alloc _) ⟨_, 0, none⟩ 1 1 [.string (s.extract b k)] rfl rfl ?c1 ?c2 ?c3 ?c4 ?c5 ?_))
          case c1 =>
            intro j u hj
            match j, hj with
            | 0, hj => simp at hj; subst hj; simp [Addr.add]
          case c2 => intro u hu; simp at hu; subst hu; rfl
          case c3 => unfold maxLen; omega
          case c4 => omega
          case c5 => simp; omega
          intro v' w1 hown' hgrow _
          have HO' := hide hown'
          have HG := hide hgrow
          clear hown' hgrow
          go_wp2
          go_roundw
          case rel =>
            have e := Ck.scan_done _ _ hsp (by rw [HS.out]; exact Ck.drop_ne _ b k hbk' (by rw [HL.out]; omega))
            rw [← HT.out] at e
            refine ⟨k + 1, k + 1, by omega, Nat.le_refl _, by go_num, by go_num, ?_, ?_, ?_⟩
            · rw [e]; exact (Ck.drop_all _ _).symm
            · rw [e]
              have h := HO'.out
              rw [extract_T, ← HS.out] at h
              simpa using h
            · exact below_own HB.out hsz HO.out HG.out
          case measure => simp [intOf]; omega
        · have hbe : b = k := by omega
          subst hbe
          go_wp2_with (first | (go_at_call 30; refine (isSpace_any _ _).mono ?_; rintro e w' ⟨rfl, rfl⟩))
          go_roundw
          case rel =>
            have e := Ck.scan_gap _ _ hsp (by rw [HS.out]; exact Ck.drop_all _ b)
            rw [← HT.out] at e
            refine ⟨b + 1, b + 1, by omega, Nat.le_refl _, by go_num, by go_num, ?_, ?_, HB.out⟩
            · rw [e]; exact (Ck.drop_all _ _).symm
            · rw [e]; exact HO.out
          case measure => simp [intOf]; omega
      · have hsp' : Ck.isSp s[k] = false := by simpa using hsp
        clear hsp
        go_wp2_with (first | (go_at_call 30; refine (isSpace_any _ _).mono ?_; rintro e w' ⟨rfl, rfl⟩))
        go_roundw
        case rel =>
          have e := Ck.scan_more (s.data.toList.take k) _ hsp'
          rw [← HT.out] at e
          refine ⟨k + 1, b, by omega, by omega, by go_num, by go_num, ?_, ?_, HB.out⟩
          · rw [e, HT.out, List.drop_append_of_le_length (by simp; omega), HS.out]
          · rw [e]; exact HO.out
        case measure => simp [intOf]; omega
    · have HT := hide (take_all s k hlt)
      have hke : k = s.size := by omega
      by_cases hb : b < s.size
      · go_wp2_with (at_builtin; refine wpList_append_own _ rfl (.tmp 33) (.tmp 37) 48 rfl w.heap.size 9 i0 (.string ⟨#[]⟩) 1 16 Tryd.underlying48 hi hz0 hz1 hz2 rfl (by decide) _ _ _ rfl (HO.out.alloc _) ⟨_, 0, none⟩ 1 1 [.string (s.extract b s.size)] rfl rfl ?d1 ?d2 ?d3 ?d4 ?d5 ?_)
        case d1 =>
          intro j u hj
          match j, hj with
          | 0, hj => simp at hj; subst hj; simp [Addr.add]
        case d2 => intro u hu; simp at hu; subst hu; rfl
        case d3 => unfold maxLen; omega
        case d4 => omega
        case d5 => simp; omega
        intro v' w1 hown' hgrow _
        have HO' := hide hown'
        have HG := hide hgrow
        clear hown' hgrow
        go_wp2
        go_ret
        refine ⟨v', rfl, ?_, below_own HB.out hsz HO.out HG.out⟩
        have hs2 := HS.out
        have h := HO'.out
        rw [extract_T, show s.size = k by omega, ← hs2, HT.out] at h
        rw [Ck.toks_end _ (by rw [HT.out] at hs2; rw [hs2, ← HT.out]; exact Ck.drop_ne _ b k (by omega) (by rw [HL.out]; omega))]
        simpa using h
      · go_wp2
        go_ret
        refine ⟨_, rfl, ?_, HB.out⟩
        have hs2 := HS.out
        have h := HO.out
        rw [show b = k by omega, Ck.drop_all] at hs2
        rw [HT.out] at h hs2
        rw [Ck.toks_gap _ hs2]
        exact h
end Go.Proofs.YtellilpeakpbfaaDoor
