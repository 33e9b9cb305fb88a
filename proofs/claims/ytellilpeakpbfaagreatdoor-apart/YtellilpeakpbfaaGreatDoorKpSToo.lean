import Derived.Test.YtellilpeakpbfaaGreatDoorCardLToo
import Derived.Test.YtellilpeakpbfaaGreatDoorSiteGToo
import Derived.Test.YtellilpeakpbfaaGreatDoorFolToo
import Derived.Test.YtellilpeakpbfaaGreatDoorStkToo
import Derived.ProofKit
import Derived.OpenShut
import Derived.Deep.DeepHandedRow
import Derived.Lib.LaidTab
import Derived.Test.YtellilpeakpbfaaGreatDoorShelfToo
import Derived.Test.YtellilpeakpbfaaGreatDoorRefCToo
section
/-
  Lists of steps as they are read.
-/
namespace Go.Proofs.YtellilpeakpbfaaGreatDoor.Scd
open Go.ChangeShapes Go.WideShapes Go.ChangeAt Go.RowKit

section
variable {H : Type} {enc : TypeId × Value → H}

theorem cellsStep : Tryz.prog.cellsOf 32 = 3 := by kernel_rfl
theorem bytesStep : Tryz.prog.bytesOf 32 = 24 := by kernel_rfl

theorem num_of {W : World} {fuel : Nat} {v : Value} {x : DataW H × List MemPlace} (h : DataW.trod enc Tryz.prog W 0 (fun _ => true) true fuel 3 [v] = some x) : ∃ k : Int, v = .int .i64 k ∧ B64 k := by
  obtain ⟨k, e, -, w1⟩ := DataW.trod_int Tryz.underlying3 h
  simp only [List.cons.injEq, and_true] at e
  simp [Lit.wf] at w1
  exact ⟨k, e, w1.1, w1.2⟩

set_option maxRecDepth 100000 in
theorem step_of {W : World} {fuel : Nat} {cs : List Value} {x : DataW H × List MemPlace} (h : DataW.trod enc Tryz.prog W 0 (fun _ => true) true fuel 32 cs = some x) :
    ∃ p : Int × Int × Int, cs = [.int .i64 p.1, .int .i64 p.2.1, .int .i64 p.2.2] ∧ StepB p := by
  obtain ⟨xs, n, _, hx, hl, hxl, hf⟩ := DataW.trod_struct Tryz.underlying32 h
  rw [cellsStep] at hl
  match cs, hl, xs, hxl with
  | [c0, c1, c2], _, [y0, y1, y2], _ =>
    have g0 := hf 0 _ rfl
    have g1 := hf 1 _ rfl
    have g2 := hf 2 _ rfl
    simp [cInt] at g0 g1 g2
    obtain ⟨k0, rfl, b0⟩ := num_of g0
    obtain ⟨k1, rfl, b1⟩ := num_of g1
    obtain ⟨k2, rfl, b2⟩ := num_of g2
    exact ⟨(k0, k1, k2), rfl, b0, b1, b2⟩

/-- a list of steps, opened. -/
theorem steps_of {W : World} {fuel : Nat} {v : Value} {x : DataW H × List MemPlace} (h : DataW.trod enc Tryz.prog W 0 (fun _ => true) true fuel 26 [v] = some x) :
    ∃ ps, ((∀ n ∈ x.1.weights Tryz.prog 26, n ≤ reachBytes) → StepsOf W v ps) := by
  rcases Deep.open_slice Tryz.underlying26 h with ⟨e, -⟩ | ⟨a, len, cap, m, n, D, Pl, e, -, hl, -, hm, hx, hi⟩
  · simp at e
    subst e
    exact ⟨[], fun _ => ⟨none, 0, rfl, by simp, by simp, by simp⟩⟩
  · simp at e
    subst e
    have hlm : len ≤ m := by rw [hm]; simpa using hl
    rw [cellsStep] at hi
    have each : ∀ i, i < len → ∃ p : Int × Int × Int, (W.cell? (a.add (i * 3 + 0)) = some (.int .i64 p.1) ∧ W.cell? (a.add (i * 3 + 1)) = some (.int .i64 p.2.1) ∧ W.cell? (a.add (i * 3 + 2)) = some (.int .i64 p.2.2)) ∧ StepB p := by
      intro i hil
      obtain ⟨cs', h1, h2⟩ := hi i (by omega)
      obtain ⟨_, hlen, hcell⟩ := World.cells?_some h1
      obtain ⟨p, rfl, hb⟩ := step_of h2
      have c0 := hcell 0 (by omega)
      have c1 := hcell 1 (by omega)
      have c2 := hcell 2 (by omega)
      rw [Deep.add_add] at c0 c1 c2
      exact ⟨p, ⟨by rw [c0]; rfl, by rw [c1]; rfl, by rw [c2]; rfl⟩, hb⟩
    obtain ⟨q, hq⟩ := Deep.choose_lt each
    have hget : ∀ k o, ((List.range len).map q)[k]? = some o → k < len ∧ o = q k := by
      intro k o ho
      rw [List.getElem?_map] at ho
      by_cases hk : k < len
      · rw [List.getElem?_range hk] at ho
        simp at ho
        exact ⟨hk, ho.symm⟩
      · rw [List.getElem?_eq_none (by simp; omega)] at ho
        simp at ho
    refine ⟨(List.range len).map q, fun hw => ⟨some a, cap, by simp, ?_, ?_, ?_⟩⟩
    · intro h0
      simp at h0
      obtain ⟨g, z, sp⟩ := a
      have c0 := (hq 0 h0).1.1
      have hspot : sp = none := by simpa [Addr.add] using World.cell?_spot c0
      subst hspot
      have hadd : ∀ j, (Addr.add ⟨g, z, none⟩ j) = ⟨g, z + j, none⟩ := by
        intro j
        unfold Addr.add
        split <;> simp_all
      refine ⟨g, z, rfl, World.block_lt_of_cell? W _ c0, ?_⟩
      intro k p hp
      obtain ⟨hk, rfl⟩ := hget k p hp
      obtain ⟨⟨e0, e1, e2⟩, -⟩ := hq k hk
      rw [hadd] at e0 e1 e2
      simp only [Nat.add_assoc] at e0 e1 e2 ⊢
      exact ⟨e0, e1, e2⟩
    · intro o ho
      obtain ⟨k, hk, rfl⟩ := List.mem_map.1 ho
      exact (hq k (List.mem_range.1 hk)).2
    · have h9 := hw ((len + (m - len)) * 24) (by
        rw [hx]
        simp [DataW.weights, Tryz.underlying26, bytesStep])
      simp only [reachBytes] at h9
      simp
      omega

/-- a list of numbers, opened. -/
theorem ints_of {W : World} {fuel : Nat} {v : Value} {x : DataW H × List MemPlace} (h : DataW.trod enc Tryz.prog W 0 (fun _ => true) true fuel 24 [v] = some x) :
    ∃ l, ((∀ n ∈ x.1.weights Tryz.prog 24, n ≤ reachBytes) → IntsAt W v l ∧ InLow v l W.heap.size ∧ l.length ≤ 18000000000000 ∧ ∀ a ∈ l, B64 a) := by
  obtain ⟨lo, ln, lc, l, rfl, hl⟩ := list_of h
  refine ⟨l, fun hw => ⟨hl.ints, hl.low, ?_, hl.nums⟩⟩
  rcases hl.size with rfl | ⟨n, hn, hs⟩
  · simp
  · have := hw n hn
    simp only [reachBytes] at this
    omega
end
end Go.Proofs.YtellilpeakpbfaaGreatDoor.Scd

end

section
/-
  What the rows share: from the listed variables to what the walks ask.
-/
namespace Go.Proofs.YtellilpeakpbfaaGreatDoor.Ckd
open Go.ChangeShapes Go.WideShapes Go.ChangeAt Go.RowKit

theorem own : ownKnob Tryz.prog.godebug = none := by kernel_rfl
theorem gTab : Tryz.prog.globalNamed (Rows.keepsRow.named.headD "") = some 0 := by kernel_rfl
theorem gTabType : (Tryz.prog.globals[0]?).map (·.type) = some 199 := by kernel_rfl
theorem cellsWords : Tryz.prog.cellsOf 199 = 16 := by kernel_rfl
theorem cellsStr : Tryz.prog.cellsOf 9 = 1 := by kernel_rfl

/-- An array of texts as a row lists it. -/
def strData {H : Type} (ls : List (List UInt8)) : DataW H := .agg (ls.map fun l => .lit (.string l))
theorem cells_of_strs {H : Type} {enc : TypeId × Value → H} {P : Program} {w : World} {base : Nat} {sp : Nat → Bool} {held : Bool} {fuel : Nat} {t e : TypeId} {n : Nat} {cs : List Value} {ls : List (List UInt8)} {p : List MemPlace}
    (ht : P.underlying t = some (.array n e)) (he : P.underlying e = some .string) (hce : P.cellsOf e = 1) (hct : P.cellsOf t = n)
    (h : DataW.trod enc P w base sp held fuel t cs = some (strData ls, p)) : cs = ls.map T := by
  cases fuel with
  | zero => simp [DataW.trod] at h
  | succ fuel =>
    simp only [DataW.trod, ht, hce, hct, Nat.mul_one] at h
    split at h
    · rename_i hl
      obtain ⟨xs, hm, hx⟩ := Option.map_eq_some_iff.1 h
      have hxs : xs.map (·.1) = ls.map fun l => (DataW.lit (.string l) : DataW H) := by
        have := congrArg Prod.fst hx
        simpa [strData] using this
      have hxl : xs.length = n := by simpa using Lib.mapM_length hm
      have hzl : ls.length = n := by
        have := congrArg List.length hxs
        simp at this
        omega
      apply List.ext_getElem?
      intro i
      by_cases hi : i < n
      · obtain ⟨b, hb, hf⟩ := Lib.mapM_at hm i i (by simp [hi])
        obtain ⟨s, hc, rfl, _⟩ := DataW.trod_string he hf
        have h1 : cs[i]? = some (.string s) := by
          have := congrArg (·[0]?) hc
          simpa [List.getElem?_take, List.getElem?_drop] using this
        have h2 : (xs.map (·.1))[i]? = some (DataW.lit (.string s.data.toList) : DataW H) := by simp [hb]
        rw [hxs] at h2
        simp only [List.getElem?_map, Option.map_eq_some_iff, DataW.lit.injEq, Lit.string.injEq] at h2
        obtain ⟨l, hl', rfl⟩ := h2
        simp [h1, hl', T]
      · rw [List.getElem?_eq_none (by omega), List.getElem?_eq_none (by simp; omega)]
    · cases h

theorem words_of {W : World} {rest : List (String × DataW Unit)} {ps : List MemPlace} (h : DataW.LaidVars Tryz.prog W ((Rows.keepsRow.named.headD "", Rows.laid_cellar_source_words) :: rest) ps) : WordsAt W := by
  obtain ⟨g', t', cs, fuel, p, q, hg', ht', hvar, hd, _, _⟩ := h
  obtain rfl := Option.some.inj (gTab.symm.trans hg')
  obtain rfl := Option.some.inj (gTabType.symm.trans ht')
  have hcs : cs.toList = Ck.wordsL.map T := cells_of_strs (ls := Ck.wordsL) Tryz.underlying199 Tryz.underlying9 cellsStr cellsWords hd
  have hall : ∀ k, k < 16 → W.cell? ⟨0, k, none⟩ = some (.string ⟨(Ck.wordsL.getD k []).toArray⟩) := by
    intro k hk
    have := World.var?_cell gTab hvar k
    rw [this]
    have e : cs[k]? = (Ck.wordsL.map T)[k]? := by rw [← hcs]; simp
    rw [e]
    have hl : k < Ck.wordsL.length := hk
    simp [List.getD, hl, T]
  exact ⟨World.block_lt_of_cell? W ⟨0, 0, none⟩ (hall 0 (by omega)), hall⟩

/-- FOR A WITNESS: a variable's cells as its initialiser lays them. -/
def litVal : DataW Unit → Value
  | .lit (.int k z) => .int k z
  | .lit (.string l) => T l
  | _ => .bool false
def layVar (d : DataW Unit) : Obj → Obj
  | .cells c t frozen => match d with
    | .agg ds => .cells (ds.map litVal).toArray t frozen
    | _ => .cells c t frozen
  | o => o

end Go.Proofs.YtellilpeakpbfaaGreatDoor.Ckd

end

section
/-
  From the listed powers of ten to what the walks ask.
-/
namespace Go.Proofs.YtellilpeakpbfaaGreatDoor.Ckd
open Go.ChangeShapes Go.WideShapes Go.ChangeAt Go.RowKit

theorem gPowType : (Tryz.prog.globals[1]?).map (·.type) = some 237 := by kernel_rfl
theorem cellsPow : Tryz.prog.cellsOf 237 = 20 := by kernel_rfl
theorem cellsU64 : Tryz.prog.cellsOf 227 = 1 := by kernel_rfl
theorem powData : (Rows.laid_internal_strconv_uint64pow10 : DataW Unit) = Lib.tabData .u64 Lib.pow10Tab := by kernel_rfl
theorem pow_of {W : World} {rest : List (String × DataW Unit)} {ps : List MemPlace} (h : DataW.LaidVars Tryz.prog W ((Rows.keepsRow.named.getD 1 "", Rows.laid_internal_strconv_uint64pow10) :: rest) ps) : PowAt W := by
  obtain ⟨g', t', cs, fuel, p, q, hg', ht', hvar, hd, _, _⟩ := h
  obtain rfl := Option.some.inj (gPow.symm.trans hg')
  obtain rfl := Option.some.inj (gPowType.symm.trans ht')
  rw [powData] at hd
  have hcs := Lib.cells_of_tab Tryz.underlying237 Tryz.underlying227 cellsU64 cellsPow hd
  have htab : Lib.TabIs Tryz.prog W (Rows.keepsRow.named.getD 1 "") .u64 Lib.pow10Tab := by
    unfold Lib.TabIs
    rw [hvar, ← hcs]
  exact ⟨World.block_lt_of_cell? W ⟨1, 0, none⟩ (htab.cell gPow 0 (by rw [Lib.pow10Tab_length]; omega)), htab⟩
end Go.Proofs.YtellilpeakpbfaaGreatDoor.Ckd

end

section
/-
  The walks of cellarkeep's sameCells and sameProcs.
-/
namespace Go.Proofs.YtellilpeakpbfaaGreatDoor
open Go.RowKit

set_option maxHeartbeats 2000000 in
set_option maxRecDepth 100000 in
theorem ksameCells_any (a b : Nat) (va vb : Value) (la lb : List (Int × Int)) (w : World) (ha : CRow w a va la) (hb : CRow w b vb lb) (hl : la.length ≤ 1000) :
    Calls Tryz.prog 16 #[va, vb] w fun e w' => e = .returned (.bool (decide (la = lb))) ∧ Below w.heap.size w w' := by
  obtain ⟨ao, ac, rfl, hA⟩ := ha.shape
  obtain ⟨bo, bc, rfl, hB⟩ := hb.shape
  have HA := hide hA
  have HB := hide hB
  clear hA hB ha hb
  by_cases hln : la.length = lb.length
  · have t0 : ((la.length : Int) != (lb.length : Int)) = false := by simp; omega
    have HLN := hide hln
    have hln2 : lb.length ≤ 1000 := by omega
    clear hln
    go_enter Tryz.func16, Tryz.ntmps16
    go_wp2
    go_loopw [5] (fun i wr => SmCRel la lb w i wr) (fun i _ => la.length - (intOf i).toNat)
    case atStart => exact ⟨0, Nat.zero_le _, rfl, rfl, Below.refl _ _⟩
    case round =>
    obtain ⟨k, hk, rfl, heq, hbel⟩ := hrel
    have HE := hide heq
    have HBL := hide hbel
    clear heq hbel
    by_cases hlt : k < la.length
    · have hlt2 : k < lb.length := by rw [← HLN.out]; exact hlt
      obtain ⟨g, cur, rfl, -, -, hcs⟩ := HA.out (by omega)
      obtain ⟨g', cur', rfl, -, -, hcs'⟩ := HB.out (by omega)
      obtain ⟨p, hp⟩ : ∃ p, la[k]? = some p := ⟨la[k], by simp [hlt]⟩
      obtain ⟨r, hr⟩ : ∃ p, lb[k]? = some p := ⟨lb[k], by simp [hlt2]⟩
      obtain ⟨c1, c2⟩ := hcs k p hp
      obtain ⟨b1, b2⟩ := hcs' k r hr
      have d1 := at_old HBL.out c1
      have d2 := at_old HBL.out c2
      have e1 := at_old HBL.out b1
      have e2 := at_old HBL.out b2
      have HS1 : Hid (la.take (k + 1) = la.take k ++ [p]) := by
        show _ = _
        rw [List.take_succ_eq_append_getElem hlt]; congr 2; exact (List.getElem?_eq_some_iff.1 hp).2
      have HS2 : Hid (lb.take (k + 1) = lb.take k ++ [r]) := by
        show _ = _
        rw [List.take_succ_eq_append_getElem hlt2]; congr 2; exact (List.getElem?_eq_some_iff.1 hr).2
      have HNE : Hid (p ≠ r → la ≠ lb) := by
        intro h e
        rw [e, hr] at hp
        exact h (Option.some.inj hp).symm
      clear hcs hcs' c1 c2 b1 b2 hp hr
      obtain ⟨p1, p2⟩ := p
      obtain ⟨r1, r2⟩ := r
      cases t1 : (p1 == r1) with
      | true =>
        have q1 : p1 = r1 := by simpa using t1
        cases t2 : (p2 == r2) with
        | true =>
          have q2 : p2 = r2 := by simpa using t2
          have HQ : Hid (la.take (k + 1) = lb.take (k + 1)) := by show _ = _; rw [HS1.out, HS2.out, HE.out, q1, q2]
          clear q1 q2
          go_wp2
          go_quiet (fail)
          go_wp2
          go_roundw
          case rel => exact ⟨k + 1, by omega, by go_num, HQ.out, below_drewN HBL.out _⟩
          case measure => simp [intOf]; omega
        | false =>
          have q2 : ¬ p2 = r2 := by simpa using t2
          have HF : Hid (decide (la = lb) = false) := decide_eq_false (HNE.out (by simp only [ne_eq, Prod.mk.injEq, not_and]; exact fun _ => q2))
          clear q1 q2
          go_wp2
          go_quiet (fail)
          go_wp2
          go_ret
          exact ⟨ret_bool HF.out.symm, below_drewN HBL.out _⟩
      | false =>
        have q1 : ¬ p1 = r1 := by simpa using t1
        have HF : Hid (decide (la = lb) = false) := decide_eq_false (HNE.out (by simp only [ne_eq, Prod.mk.injEq, not_and]; exact fun h => absurd h q1))
        clear q1
        cases t2 : (p2 == r2) with
        | true =>
          go_wp2
          go_quiet (fail)
          go_wp2
          go_ret
          exact ⟨ret_bool HF.out.symm, below_drewN HBL.out _⟩
        | false =>
          go_wp2
          go_quiet (fail)
          go_wp2
          go_ret
          exact ⟨ret_bool HF.out.symm, below_drewN HBL.out _⟩
    · have HT : Hid (decide (la = lb) = true) := by
        show _ = _
        have h := HE.out
        have h2 := HLN.out
        rw [List.take_of_length_le (by omega), List.take_of_length_le (by omega)] at h
        exact decide_eq_true h
      go_wp2
      go_ret
      exact ⟨ret_bool HT.out.symm, HBL.out⟩
  · have t0 : ((la.length : Int) != (lb.length : Int)) = true := by simp; omega
    have HF : Hid (decide (la = lb) = false) := decide_eq_false (fun e => hln (by rw [e]))
    go_enter Tryz.func16, Tryz.ntmps16
    go_wp2
    go_ret
    exact ⟨ret_bool HF.out.symm, Below.refl _ _⟩

set_option maxHeartbeats 2000000 in
set_option maxRecDepth 100000 in
theorem ksameProcs_any (a b : Nat) (va vb : Value) (la lb : List (List UInt8 × List UInt8)) (w : World) (ha : PRow w a va la) (hb : PRow w b vb lb) (hl : la.length ≤ 1000) :
    Calls Tryz.prog 18 #[va, vb] w fun e w' => e = .returned (.bool (decide (la = lb))) ∧ Below w.heap.size w w' := by
  obtain ⟨ao, ac, rfl, hA⟩ := ha.shape
  obtain ⟨bo, bc, rfl, hB⟩ := hb.shape
  have HA := hide hA
  have HB := hide hB
  clear hA hB ha hb
  by_cases hln : la.length = lb.length
  · have t0 : ((la.length : Int) != (lb.length : Int)) = false := by simp; omega
    have HLN := hide hln
    have hln2 : lb.length ≤ 1000 := by omega
    clear hln
    go_enter Tryz.func18, Tryz.ntmps18
    go_wp2
    go_loopw [5] (fun i wr => SmPRel la lb w i wr) (fun i _ => la.length - (intOf i).toNat)
    case atStart => exact ⟨0, Nat.zero_le _, rfl, rfl, Below.refl _ _⟩
    case round =>
    obtain ⟨k, hk, rfl, heq, hbel⟩ := hrel
    have HE := hide heq
    have HBL := hide hbel
    clear heq hbel
    by_cases hlt : k < la.length
    · have hlt2 : k < lb.length := by rw [← HLN.out]; exact hlt
      obtain ⟨g, cur, rfl, -, -, hcs⟩ := HA.out (by omega)
      obtain ⟨g', cur', rfl, -, -, hcs'⟩ := HB.out (by omega)
      obtain ⟨p, hp⟩ : ∃ p, la[k]? = some p := ⟨la[k], by simp [hlt]⟩
      obtain ⟨r, hr⟩ : ∃ p, lb[k]? = some p := ⟨lb[k], by simp [hlt2]⟩
      obtain ⟨c1, c2⟩ := hcs k p hp
      obtain ⟨b1, b2⟩ := hcs' k r hr
      have d1 := at_old HBL.out c1
      have d2 := at_old HBL.out c2
      have e1 := at_old HBL.out b1
      have e2 := at_old HBL.out b2
      have HS1 : Hid (la.take (k + 1) = la.take k ++ [p]) := by
        show _ = _
        rw [List.take_succ_eq_append_getElem hlt]; congr 2; exact (List.getElem?_eq_some_iff.1 hp).2
      have HS2 : Hid (lb.take (k + 1) = lb.take k ++ [r]) := by
        show _ = _
        rw [List.take_succ_eq_append_getElem hlt2]; congr 2; exact (List.getElem?_eq_some_iff.1 hr).2
      have HNE : Hid (p ≠ r → la ≠ lb) := by
        intro h e
        rw [e, hr] at hp
        exact h (Option.some.inj hp).symm
      clear hcs hcs' c1 c2 b1 b2 hp hr
      obtain ⟨p1, p2⟩ := p
      obtain ⟨r1, r2⟩ := r
      simp only [T] at d1 d2 e1 e2
      obtain ⟨x1, hx1⟩ : ∃ x : ByteArray, x = ⟨p1.toArray⟩ := ⟨_, rfl⟩
      obtain ⟨x2, hx2⟩ : ∃ x : ByteArray, x = ⟨p2.toArray⟩ := ⟨_, rfl⟩
      obtain ⟨y1, hy1⟩ : ∃ x : ByteArray, x = ⟨r1.toArray⟩ := ⟨_, rfl⟩
      obtain ⟨y2, hy2⟩ : ∃ x : ByteArray, x = ⟨r2.toArray⟩ := ⟨_, rfl⟩
      rw [← hx1] at d1
      rw [← hx2] at d2
      rw [← hy1] at e1
      rw [← hy2] at e2
      have HX1 := hide hx1
      have HX2 := hide hx2
      have HY1 := hide hy1
      have HY2 := hide hy2
      clear hx1 hx2 hy1 hy2
      cases t1 : (x1.toList == y1.toList) with
      | true =>
        have q1 : p1 = r1 := by rw [ByteArray.toList_eq, ByteArray.toList_eq, HX1.out, HY1.out] at t1; simpa using t1
        cases t2 : (x2.toList == y2.toList) with
        | true =>
          have q2 : p2 = r2 := by rw [ByteArray.toList_eq, ByteArray.toList_eq, HX2.out, HY2.out] at t2; simpa using t2
          have HQ : Hid (la.take (k + 1) = lb.take (k + 1)) := by show _ = _; rw [HS1.out, HS2.out, HE.out, q1, q2]
          clear q1 q2
          go_wp2
          go_quiet (fail)
          go_wp2
          go_roundw
          case rel => exact ⟨k + 1, by omega, by go_num, HQ.out, below_drewN HBL.out _⟩
          case measure => simp [intOf]; omega
        | false =>
          have q2 : ¬ p2 = r2 := by rw [ByteArray.toList_eq, ByteArray.toList_eq, HX2.out, HY2.out] at t2; simpa using t2
          have HF : Hid (decide (la = lb) = false) := decide_eq_false (HNE.out (by simp only [ne_eq, Prod.mk.injEq, not_and]; exact fun _ => q2))
          clear q1 q2
          go_wp2
          go_quiet (fail)
          go_wp2
          go_ret
          exact ⟨ret_bool HF.out.symm, below_drewN HBL.out _⟩
      | false =>
        have q1 : ¬ p1 = r1 := by rw [ByteArray.toList_eq, ByteArray.toList_eq, HX1.out, HY1.out] at t1; simpa using t1
        have HF : Hid (decide (la = lb) = false) := decide_eq_false (HNE.out (by simp only [ne_eq, Prod.mk.injEq, not_and]; exact fun h => absurd h q1))
        clear q1
        cases t2 : (x2.toList == y2.toList) with
        | true =>
          go_wp2
          go_quiet (fail)
          go_wp2
          go_ret
          exact ⟨ret_bool HF.out.symm, below_drewN HBL.out _⟩
        | false =>
          go_wp2
          go_quiet (fail)
          go_wp2
          go_ret
          exact ⟨ret_bool HF.out.symm, below_drewN HBL.out _⟩
    · have HT : Hid (decide (la = lb) = true) := by
        show _ = _
        have h := HE.out
        have h2 := HLN.out
        rw [List.take_of_length_le (by omega), List.take_of_length_le (by omega)] at h
        exact decide_eq_true h
      go_wp2
      go_ret
      exact ⟨ret_bool HT.out.symm, HBL.out⟩
  · have t0 : ((la.length : Int) != (lb.length : Int)) = true := by simp; omega
    have HF : Hid (decide (la = lb) = false) := decide_eq_false (fun e => hln (by rw [e]))
    go_enter Tryz.func18, Tryz.ntmps18
    go_wp2
    go_ret
    exact ⟨ret_bool HF.out.symm, Below.refl _ _⟩
end Go.Proofs.YtellilpeakpbfaaGreatDoor

end
