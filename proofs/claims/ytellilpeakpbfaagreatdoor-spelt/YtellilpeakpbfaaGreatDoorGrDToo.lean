import Derived.Test.YtellilpeakpbfaaGreatDoorGrCToo
import Derived.Test.YtellilpeakpbfaaGreatDoorGrBToo
section
/-
  The grower's rows of statements, blocks; grown.
-/
set_option linter.unusedVariables false
namespace Go.Proofs.YtellilpeakpbfaaGreatDoor
open Go.RowKit

def StRel (L G : Nat) (v : Value) (l : List Int) (n : Nat) (room : Int) (w : World) (out i : Value) (wr : World) : Prop :=
  ∃ (k : Nat) (r : Int) (ts : List (List UInt8)), k ≤ n ∧ i = .int .i64 (k : Int) ∧ SRow wr w.heap.size out ts ∧ Kp.SsT ts (room - r) ∧ -4 ≤ r ∧ r ≤ room ∧ Gro L G v l r wr ∧ Fr L [] (some G) w wr

set_option maxHeartbeats 16000000 in
set_option maxRecDepth 100000 in
theorem stmts_of (L G : Nat) (v : Value) (l : List Int) (dp : Int) (d0 : 0 ≤ dp) (d2 : dp ≤ 2) (m : Nat) (hm : m ≤ 5) (hst : StmAt L G v l dp) : StsAt L G v l dp m := by
  intro w room hg r0 r1
  have HN := hide (gnext_any L G v l room (m + 1) (by omega) (by omega) w hg)
  have HST := hide hst
  have HLW := hide hg.lowL
  have he : ((m + 1 : Nat) : Int) = (m : Int) + 1 := by omega
  rw [he] at HN
  clear hst hg he
  go_enter Tryz.func49, Tryz.ntmps49
  go_wp2_with fail
  refine HN.out.mono ?_
  rintro e w1 ⟨n, hn, rfl, hg1, hf1⟩
  have HG1 := hide hg1
  have HF1 := hide hf1
  clear hg1 hf1 HN
  go_wp2_with fail
  go_loopw [7, 9] (fun out i wr => StRel L G v l n room w out i wr) (fun _ i _ => n - (intOf i).toNat)
  case atStart => exact ⟨0, room, [], Nat.zero_le _, rfl, ⟨rfl, .inl ⟨rfl, rfl⟩⟩, by rw [Int.sub_self]; exact Kp.SsT.nil, r0, Int.le_refl _, HG1.out, HF1.out⟩
  case round =>
    clear HG1 HF1
    obtain ⟨k, r, ts, hk, rfl, hrow, hT, hr4, hrr, hg, hf⟩ := hrel
    obtain ⟨c2, -⟩ := hg.cell
    have HG := hide hg
    have HF := hide hf
    have HROW := hide hrow
    have HT := hide hT
    have hlen := SsT_len hT (by omega)
    obtain ⟨ao, cap, rfl, -⟩ := hrow.shape
    clear hg hf hrow hT
    by_cases hgo : k < n ∧ 0 < r
    · have t1 : decide ((k : Int) < (n : Int)) = true := decide_eq_true (by omega)
      have t1' : decide (k < n) = true := decide_eq_true (by omega)
      have t2 : decide (0 < r) = true := decide_eq_true hgo.2
      have HS := hide (HST.out wr r HG.out (by omega) (by omega))
      obtain ⟨hkn, hr0⟩ := hgo
      go_wp2_with fail
      refine HS.out.mono ?_
      rintro e w3 ⟨vs, us, r', rfl, hrows, hTs, hlos, hhis, hlns, hg3, hf3⟩
      have HR3 := hide (HROW.out.gro HG.out hf3)
      have HRS := hide hrows
      have HTS := hide hTs
      have HG3 := hide hg3
      have hF3 := hf3
      have HF3 := hide (HF.out.trans hf3)
      clear hrows hTs hg3 hf3 HS c2
      go_wp2_with (at_builtin; refine append_fr w w3 rfl (.tmp 30) (.tmp 31) rfl wr.heap.size _ _ ts us rfl rfl HR3.out HRS.out HG3.out HF3.out HLW.out (by omega) ?_)
      intro v' w5 hrow5 hg5 hf5
      have HR5 := hide hrow5
      have HG5 := hide hg5
      have HF5 := hide hf5
      clear hrow5 hg5 hf5
      go_wp2_with fail
      go_round
      case rel =>
        refine ⟨k + 1, r', ts ++ us, by omega, by go_num, HR5.out, ?_, by omega, by omega, HG5.out, HF5.out⟩
        have := Kp.SsT.snoc HT.out HTS.out
        rw [show room - r + (r - r') = room - r' by omega] at this
        exact this
      case measure => simp [intOf]; omega
    · by_cases hkn : k < n
      · have t1 : decide ((k : Int) < (n : Int)) = true := decide_eq_true (by omega)
        have t1' : decide (k < n) = true := decide_eq_true (by omega)
        have t2 : decide (0 < r) = false := decide_eq_false (by omega)
        go_wp2_with fail
        go_ret
        exact ⟨_, ts, r, rfl, HROW.out, HT.out, hr4, hrr, by omega, HG.out, HF.out⟩
      · have t1 : decide ((k : Int) < (n : Int)) = false := decide_eq_false (by omega)
        have t1' : decide (k < n) = false := decide_eq_false (by omega)
        go_wp2_with fail
        go_ret
        exact ⟨_, ts, r, rfl, HROW.out, HT.out, hr4, hrr, by omega, HG.out, HF.out⟩

set_option maxHeartbeats 16000000 in
set_option maxRecDepth 100000 in
theorem block_of (L G : Nat) (v : Value) (l : List Int) (dp : Int) (d0 : 0 ≤ dp) (d2 : dp ≤ 2) (hss : StsAt L G v l dp 2) : BlkAt L G v l dp := by
  intro w room hg r0 r1
  have HS := hide (hss w room hg r0 r1)
  clear hss hg
  go_enter Tryz.func125, Tryz.ntmps125
  go_wp2_with fail
  refine HS.out.mono ?_
  rintro e w3 ⟨va, xa, ra, rfl, hrowa, hTa, hloa, hhia, hlna, hg3, hf3⟩
  have HRA := hide hrowa
  have HTA := hide hTa
  have HG3 := hide hg3
  have HF3 := hide hf3
  have hlen := SsT_len hTa (by omega)
  clear hrowa hTa hg3 hf3 HS
  have HX1 : Hid (SRow (w3.alloc (.cells #[.string ⟨#[123]⟩] 9)) w3.heap.size (.slice (some ⟨w3.heap.size, 0, none⟩) 1 1) [[123]]) := srow_one w3 _ (Nat.le_refl _) ⟨#[123]⟩ [123] rfl
  have HX2 := hide (SRow.below HRA.out ((Below.refl w3.heap.size w3).alloc (Nat.le_refl _) (.cells #[.string ⟨#[123]⟩] 9)))
  have HX3 : Hid (Below w3.heap.size w3 (w3.alloc (.cells #[.string ⟨#[123]⟩] 9))) := (Below.refl _ _).alloc (Nat.le_refl _) _
  go_wp2_with (at_builtin; refine append_rows w3 _ rfl (.tmp 9) (.tmp 10) rfl w.heap.size _ _ [[123]] xa rfl rfl HX1.out HX2.out HX3.out (by simp; omega) ?_)
  intro v5 w5 hrow5 hb5
  have HR5 : Hid (SRow w5 w3.heap.size v5 ([123] :: xa)) := hrow5
  have HB5 := hide hb5
  clear hrow5 hb5 HX1 HX2 HX3
  have HX4 : Hid (SRow (w5.alloc (.cells #[.string ⟨#[125]⟩] 9)) w5.heap.size (.slice (some ⟨w5.heap.size, 0, none⟩) 1 1) [[125]]) := srow_one w5 _ (Nat.le_refl _) ⟨#[125]⟩ [125] rfl
  have HX5 : Hid (SRow (w5.alloc (.cells #[.string ⟨#[125]⟩] 9)) w3.heap.size v5 ([123] :: xa)) := HR5.out.below ((Below.refl _ _).alloc (Nat.le_refl _) _)
  have HX6 : Hid (Below w3.heap.size w3 (w5.alloc (.cells #[.string ⟨#[125]⟩] 9))) := HB5.out.alloc HB5.out.size _
  go_wp2_with (at_builtin; refine append_rows w3 _ rfl (.tmp 11) (.tmp 12) rfl w5.heap.size _ _ ([123] :: xa) [[125]] rfl rfl HX5.out HX4.out HX6.out (by simp; omega) ?_)
  intro v6 w6 hrow6 hb6
  have HR6 := hide hrow6
  have HB6 := hide hb6
  clear hrow6 hb6 HX4 HX5 HX6 HR5 HB5
  go_wp2_with fail
  go_ret
  refine stm_post HR6.out HB6.out ⟨xa, by simp, HTA.out⟩ hloa hhia (by simp; omega) HG3.out HF3.out
theorem stmt_2 (L G : Nat) (v : Value) (l : List Int) : StmAt L G v l 2 := by
  have s0 := stmt_step L G v l 0 (by omega) (by omega) (fun h => by omega)
  have b0 := block_of L G v l 0 (by omega) (by omega) (stmts_of L G v l 0 (by omega) (by omega) 2 (by omega) s0)
  have s1 := stmt_step L G v l 1 (by omega) (by omega) (fun _ => b0)
  have b1 := block_of L G v l 1 (by omega) (by omega) (stmts_of L G v l 1 (by omega) (by omega) 2 (by omega) s1)
  exact stmt_step L G v l 2 (by omega) (by omega) (fun _ => b1)

set_option maxHeartbeats 4000000 in
set_option maxRecDepth 100000 in
theorem grown_any (w : World) (v : Value) (l : List Int) (hv : IntsAt w v l) (hlo : InLow v l w.heap.size) (hl : l.length ≤ 18000000000000) (hb : ∀ a ∈ l, -9223372036854775808 ≤ a ∧ a ≤ 9223372036854775807) :
    Calls Tryz.prog 20 #[v] w fun e w' => ∃ vr ts, e = .returned vr ∧ SRow w' w.heap.size vr ts ∧ Kp.Src ts ∧ Below w.heap.size w w' := by
  obtain ⟨w1, hw1⟩ : ∃ w1, w1 = w.alloc (.cells #[v, .int .i64 0, .int .i64 16] 108) := ⟨_, rfl⟩
  have hb1 : Below w.heap.size w w1 := by rw [hw1]; exact (Below.refl _ _).alloc (Nat.le_refl _) _
  have hg1 : Gro w.heap.size w.heap.size v l 16 w1 := ⟨Nat.le_refl _, hv.below hb1, hlo, hl, hb, 0, Nat.zero_le _, by rw [hw1]; exact heap_alloc_new w _⟩
  have h5 : StsAt w.heap.size w.heap.size v l 2 5 := stmts_of w.heap.size w.heap.size v l 2 (by omega) (by omega) 5 (by omega) (stmt_2 w.heap.size w.heap.size v l)
  have HS := hide (h5 w1 16 hg1 (by omega) (by omega))
  have HB1 := hide hb1
  obtain ⟨ao, cap, rfl, -⟩ := hv
  clear hlo hb hg1 hb1 h5
  go_enter Tryz.func20, Tryz.ntmps20
  go_upto_region 2 with fail
  rw [← hw1]
  have HW1 := hide hw1
  clear hw1
  go_wp2_with fail
  refine HS.out.mono ?_
  rintro e w3 ⟨va, ts, r, rfl, hrow, hT, hlo, hhi, hln, hg3, hf3⟩
  have HROW := hide hrow
  have HSRC := hide (hT.src (by omega))
  have HF := hide (HB1.out.trans hf3.below)
  clear hrow hT hg3 hf3 HS
  have hz := HB1.out.size
  go_wp2_with fail
  go_ret
  exact ⟨_, ts, rfl, HROW.out.down hz, HSRC.out, HF.out⟩
end Go.Proofs.YtellilpeakpbfaaGreatDoor

end

section
/-
  The walks of joined, loose, arguments.
-/
set_option linter.unusedVariables false
namespace Go.Proofs.YtellilpeakpbfaaGreatDoor
open Go.RowKit

namespace Kp
theorem wt_take (ts : List Tr.Tok) (k : Nat) : wt (ts.take k) ≤ wt ts := by
  conv => rhs; rw [← List.take_append_drop k ts]
  rw [wt_app]; omega
theorem join_take (ts : List Tr.Tok) (k : Nat) (t : Tr.Tok) (h : ts[k]? = some t) : join (ts.take (k + 1)) = if k = 0 then t else join (ts.take k) ++ 32 :: t := by
  have hk : k < ts.length := (List.getElem?_eq_some_iff.1 h).1
  rw [List.take_succ_eq_append_getElem hk, (List.getElem?_eq_some_iff.1 h).2, join_snoc]
  by_cases h0 : k = 0
  · subst h0; simp
  · rw [if_neg h0, if_neg]
    intro e
    have := congrArg List.length e
    rw [List.length_take, List.length_nil] at this
    omega
theorem loose_take (g : List UInt8) (z : Bool) (ts : List Tr.Tok) (k : Nat) (t : Tr.Tok) (h : ts[k]? = some t) : loose g ((ts.take (k + 1)).map (zd z)) = loose g ((ts.take k).map (zd z)) ++ zd z t ++ g := by
  have hk : k < ts.length := (List.getElem?_eq_some_iff.1 h).1
  rw [List.take_succ_eq_append_getElem hk, (List.getElem?_eq_some_iff.1 h).2, List.map_append, List.map_cons, List.map_nil, loose_snoc]
end Kp

def JoRel (ts : List (List UInt8)) (w : World) (x i : Value) (wr : World) : Prop :=
  ∃ (k : Nat) (X : ByteArray), k ≤ ts.length ∧ i = .int .i64 (k : Int) ∧ x = .string X ∧ X.data.toList = Kp.join (ts.take k) ∧ X.size ≤ 400 ∧ wr = w

set_option maxHeartbeats 4000000 in
set_option maxRecDepth 100000 in
theorem joined_any (w : World) (b : Nat) (v : Value) (ts : List (List UInt8)) (hr : SRow w b v ts) (hs : Kp.Src ts) :
    Calls Tryz.prog 21 #[v] w fun e w' => e = .returned (T (Kp.join ts)) ∧ w' = w := by
  obtain ⟨ao, cap, rfl, hc⟩ := hr.shape
  have hlen : ts.length ≤ 1000 := by
    have h1 := hs.wt
    have h2 : ts.length ≤ Kp.wt ts := by
      clear h1 hs hr hc
      induction ts with
      | nil => simp
      | cons t r ih => rw [Kp.wt_cons, List.length_cons]; omega
    omega
  have HS := hide hs
  have HC := hide hc
  clear hr hs hc
  go_enter Tryz.func21, Tryz.ntmps21
  go_wp2
  go_loopw [3, 4] (fun x i wr => JoRel ts w x i wr) (fun _ i _ => ts.length - (intOf i).toNat)
  case atStart => exact ⟨0, ⟨#[]⟩, Nat.zero_le _, rfl, rfl, rfl, by decide, rfl⟩
  case round =>
    obtain ⟨k, X, hk, rfl, rfl, hX, hXs, rfl⟩ := hrel
    have HX := hide hX
    clear hX
    by_cases hkl : k < ts.length
    · obtain ⟨g, rfl, -, hcs⟩ := HC.out (by omega)
      have ht : ts[k]? = some ts[k] := List.getElem?_eq_getElem hkl
      obtain ⟨t, hte⟩ : ∃ t, t = ts[k] := ⟨_, rfl⟩
      rw [← hte] at ht
      have c0 := hcs k t ht
      have htk := HS.out.tk t (List.mem_of_getElem? ht)
      have htl := htk.len
      obtain ⟨Y, hY⟩ : ∃ Y : ByteArray, Y = ⟨t.toArray⟩ := ⟨_, rfl⟩
      have hYl : Y.data.toList = t := by rw [hY]
      have hYs : Y.size ≤ 5 := by rw [size_list, hYl]; exact htl
      have hT : T t = .string Y := by rw [hY]; rfl
      rw [hT] at c0
      have HJ : Hid (∀ Z : ByteArray, Z.data.toList = Kp.join (ts.take (k + 1)) → Z.size ≤ 400) := by
        intro Z hZ
        rw [size_list, hZ]
        have h1 := Kp.len_join (ts.take (k + 1))
        have h2 := Kp.wt_take ts (k + 1)
        have h3 := HS.out.wt
        omega
      have HJT := hide (Kp.join_take ts k t ht)
      have HYL := hide hYl
      clear hcs ht hte htk htl hY hYl hT
      have hs1 : (⟨#[32]⟩ : ByteArray).size = 1 := rfl
      by_cases h0 : k = 0
      · subst h0
        have hE : (X ++ Y).data.toList = Kp.join (ts.take (0 + 1)) := by rw [HJT.out, if_pos rfl, app_list, HX.out, HYL.out]; simp [Kp.join]
        have HE := hide hE
        have HZ := hide (HJ.out _ hE)
        clear hE
        go_wp2_with fail
        go_round
        case rel => exact ⟨1, _, by omega, by go_num, rfl, HE.out, HZ.out, rfl⟩
        case measure => simp [intOf]; omega
      · have t0 : decide (0 < (k : Int)) = true := decide_eq_true (by omega)
        have t0' : decide (0 < k) = true := decide_eq_true (by omega)
        have hE : ((X ++ (⟨#[32]⟩ : ByteArray)) ++ Y).data.toList = Kp.join (ts.take (k + 1)) := by rw [HJT.out, if_neg h0, app_list, app_list, HX.out, HYL.out]; simp
        have HE := hide hE
        have HZ := hide (HJ.out _ hE)
        have hs2 : (X ++ (⟨#[32]⟩ : ByteArray)).size = X.size + 1 := by rw [size_list, app_list, List.length_append, ← size_list]; rfl
        clear hE
        go_wp2_with fail
        go_round
        case rel => exact ⟨k + 1, _, by omega, by go_num, rfl, HE.out, HZ.out, rfl⟩
        case measure => simp [intOf]; omega
    · have hke : ts.take k = ts := List.take_of_length_le (by omega)
      have HKE := hide hke
      clear hke
      go_wp2_with fail
      go_ret
      have hfin : Value.string X = T (Kp.join ts) := by rw [T_of HX.out, HKE.out]
      exact ⟨congrArg Ending.returned hfin, rfl⟩

def ArgRel (l : List Int) (w : World) (x i : Value) (wr : World) : Prop :=
  ∃ k : Nat, k ≤ 4 ∧ k ≤ l.length ∧ i = .int .i64 (k : Int) ∧ wr.ownsRow w.heap.size 3 1 x k (((l.take k).map Kp.value).map fun a => .int .i64 a) ∧ Below w.heap.size w wr
theorem Tryz.infoNumG : (Tryz.prog.info? 3).map (fun i => (i.zero, i.size, i.bytes)) = some (some (.int .i64 0), 1, 8) := by kernel_rfl
/-- a list of numbers of the call's own. -/
def IRow (w : World) (b : Nat) (v : Value) (l : List Int) : Prop := w.ownsRow b 3 1 v l.length (l.map fun a => .int .i64 a)
theorem ints_own {w : World} {b : Nat} {v : Value} {l : List Int} (h : IRow w b v l) : IntsAt w v l := by
  have h0 := h
  rcases h.2 with ⟨rfl, hn⟩ | ⟨g, cap, cur, rfl, hg, hh, rest⟩
  · exact ⟨none, 0, by rw [hn], fun hp => by omega⟩
  · refine ⟨_, cap, rfl, fun _ => ⟨g, 0, rfl, fun j a hj => ?_⟩⟩
    have := World.ownsRow.cells h0 (g := g) rfl j (.int .i64 a) (by rw [List.getElem?_map, hj]; rfl)
    simpa only [Addr.add_lit, Nat.zero_add] using this

set_option maxHeartbeats 4000000 in
set_option maxRecDepth 100000 in
theorem arguments_any (w : World) (v : Value) (l : List Int) (hv : IntsAt w v l) (hl : l.length ≤ 18000000000000) (hb : ∀ a ∈ l, -9223372036854775808 ≤ a ∧ a ≤ 9223372036854775807) :
    Calls Tryz.prog 26 #[v] w fun e w' => ∃ va, e = .returned va ∧ IRow w' w.heap.size va ((l.take 4).map Kp.value) ∧ Below w.heap.size w w' := by
  obtain ⟨ao, cap, rfl, hc⟩ := hv
  obtain ⟨i0, hi, hy0, hy1, hy2⟩ := info_parts Tryz.infoNumG
  have HB := hide hb
  have HC := hide hc
  clear hb hc
  go_enter Tryz.func26, Tryz.ntmps26
  go_wp2
  go_loopw [3, 4] (fun x i wr => ArgRel l w x i wr) (fun _ i _ => 4 - (intOf i).toNat)
  case atStart => exact ⟨0, by omega, Nat.zero_le _, rfl, ⟨rfl, .inl ⟨rfl, rfl⟩⟩, Below.refl _ _⟩
  case round =>
    obtain ⟨k, hk4, hkl, rfl, hrow, hbl⟩ := hrel
    have HROW := hide hrow
    have HBL := hide hbl
    obtain ⟨xo, xk, rfl, -, -⟩ := own_slice hrow
    clear hrow hbl
    by_cases hgo : k < l.length ∧ k < 4
    · obtain ⟨g, z, rfl, hcs⟩ := HC.out (by omega)
      have hx : l[k]? = some l[k] := List.getElem?_eq_getElem hgo.1
      obtain ⟨a, hae⟩ : ∃ a, a = l[k] := ⟨_, rfl⟩
      rw [← hae] at hx
      have c0 := at_old HBL.out (hcs k a hx)
      have hab := HB.out a (List.mem_of_getElem? hx)
      have HVL := hide (kvalue_any a hab.1 hab.2 wr)
      have t1 : decide ((k : Int) < (l.length : Int)) = true := decide_eq_true (by omega)
      have t1' : decide (k < l.length) = true := decide_eq_true hgo.1
      have t2 : decide ((k : Int) < 4) = true := decide_eq_true (by omega)
      have HTK : Hid (((l.take (k + 1)).map Kp.value).map (fun a => Value.int .i64 a) = ((l.take k).map Kp.value).map (fun a => Value.int .i64 a) ++ [.int .i64 (Kp.value a)]) := by
        show _ = _
        rw [List.take_succ_eq_append_getElem hgo.1, ← hae]
        simp
      obtain ⟨y, hy⟩ : ∃ y, y = Kp.value a := ⟨_, rfl⟩
      rw [← hy] at HVL HTK
      have hkk := hgo.1
      have hk5 := hgo.2
      clear hcs hx hae hab hgo hy
      go_wp2_with fail
      refine HVL.out.mono ?_
      rintro e wx ⟨rfl, hq⟩
      obtain rfl : wr = wx := hq.symm
      have HO2 : Hid ((wr.alloc (.cells #[.int .i64 y] 3)).ownsRow w.heap.size 3 1 (.slice xo k xk) k (((l.take k).map Kp.value).map fun a => .int .i64 a)) := ownsRow_below HROW.out ((Below.refl _ _).alloc (Nat.le_refl _) _)
      have HCN := hide (cells_new wr #[.int .i64 y] 3)
      have hbz := HBL.out.size
      go_wp2_with (at_builtin; refine wpList_append_own _ rfl (.tmp 15) (.tmp 21) 24 rfl w.heap.size 3 i0 (.int .i64 0) 1 8 Tryz.underlying24 hi hy0 hy1 hy2 rfl (by decide) _ k _ rfl HO2.out ⟨wr.heap.size, 0, none⟩ 1 1 [.int .i64 y] rfl rfl HCN.out (by simp [Value.oneCell']) (by unfold maxLen; omega) (by omega) (by simp; omega) ?_)
      intro v' w5 hrow5 hgr5 _
      have HR5 := hide hrow5
      have HB5 := hide (grow_below HBL.out hbz HROW.out hgr5)
      clear hrow5 hgr5
      go_wp2_with fail
      go_round
      case rel => exact ⟨k + 1, by omega, by omega, by go_num, by rw [HTK.out]; simpa using HR5.out, HB5.out⟩
      case measure => simp [intOf]; omega
    · have hke : (l.take 4).map Kp.value = (l.take k).map Kp.value := by
        congr 1
        by_cases h : k = 4
        · rw [h]
        · rw [List.take_of_length_le (by omega), List.take_of_length_le (by omega)]
      have HFI : Hid (IRow wr w.heap.size (.slice xo k xk) ((l.take 4).map Kp.value)) := by
        show World.ownsRow _ _ _ _ _ _ _
        rw [hke]
        have : ((l.take k).map Kp.value).length = k := by simp; omega
        rw [this]
        exact HROW.out
      clear hke
      by_cases hkk : k < l.length
      · have t1 : decide ((k : Int) < (l.length : Int)) = true := decide_eq_true (by omega)
        have t1' : decide (k < l.length) = true := decide_eq_true hkk
        have t2 : decide ((k : Int) < 4) = false := decide_eq_false (by omega)
        go_wp2_with fail
        go_ret
        exact ⟨_, rfl, HFI.out, HBL.out⟩
      · have t1 : decide ((k : Int) < (l.length : Int)) = false := decide_eq_false (by omega)
        have t1' : decide (k < l.length) = false := decide_eq_false hkk
        go_wp2_with fail
        go_ret
        exact ⟨_, rfl, HFI.out, HBL.out⟩
end Go.Proofs.YtellilpeakpbfaaGreatDoor

end
