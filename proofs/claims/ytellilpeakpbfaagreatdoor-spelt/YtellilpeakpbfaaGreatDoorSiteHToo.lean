import Derived.Test.YtellilpeakpbfaaGreatDoorCardLToo
import Derived.Test.YtellilpeakpbfaaGreatDoorSiteGToo
import Derived.Test.YtellilpeakpbfaaGreatDoorCardI1Too
import Derived.Test.YtellilpeakpbfaaGreatDoorStkToo
import Derived.ProofKit
import Derived.OpenShut
import Derived.Deep.DeepHandedRow
import Derived.Lib.LaidTab
import Derived.Test.YtellilpeakpbfaaGreatDoorShelfToo
section
/-
  Lists of steps as they are read.
-/
namespace Go.Proofs.YtellilpeakpbfaaGreatDoor.Scd
open Go.ChangeShapes Go.WideShapes Go.ChangeAt Go.RowKit

section
variable {H : Type} {enc : TypeId × Value → H}

theorem cellsStep : Tryz.prog.cellsOf 32 = 3 := by kernel_rfl
theorem bytesStep : Tryz.prog.bytesOf 32 = 24 := by kernel_rfl

theorem num_of {W : World} {fuel : Nat} {v : Value} {x : DataW H × List MemPlace} (h : DataW.trod enc Tryz.prog W 0 (fun _ => true) true fuel 3 [v] = some x) : ∃ k : Int, v = .int .i64 k ∧ B64 k := by
  obtain ⟨k, e, -, w1⟩ := DataW.trod_int Tryz.underlying3 h
  simp only [List.cons.injEq, and_true] at e
  simp [Lit.wf] at w1
  exact ⟨k, e, w1.1, w1.2⟩

set_option maxRecDepth 100000 in
theorem step_of {W : World} {fuel : Nat} {cs : List Value} {x : DataW H × List MemPlace} (h : DataW.trod enc Tryz.prog W 0 (fun _ => true) true fuel 32 cs = some x) :
    ∃ p : Int × Int × Int, cs = [.int .i64 p.1, .int .i64 p.2.1, .int .i64 p.2.2] ∧ StepB p := by
  obtain ⟨xs, n, _, hx, hl, hxl, hf⟩ := DataW.trod_struct Tryz.underlying32 h
  rw [cellsStep] at hl
  match cs, hl, xs, hxl with
  | [c0, c1, c2], _, [y0, y1, y2], _ =>
    have g0 := hf 0 _ rfl
    have g1 := hf 1 _ rfl
    have g2 := hf 2 _ rfl
    simp [cInt] at g0 g1 g2
    obtain ⟨k0, rfl, b0⟩ := num_of g0
    obtain ⟨k1, rfl, b1⟩ := num_of g1
    obtain ⟨k2, rfl, b2⟩ := num_of g2
    exact ⟨(k0, k1, k2), rfl, b0, b1, b2⟩

/-- a list of steps, opened. -/
theorem steps_of {W : World} {fuel : Nat} {v : Value} {x : DataW H × List MemPlace} (h : DataW.trod enc Tryz.prog W 0 (fun _ => true) true fuel 26 [v] = some x) :
    ∃ ps, ((∀ n ∈ x.1.weights Tryz.prog 26, n ≤ reachBytes) → StepsOf W v ps) := by
  rcases Deep.open_slice Tryz.underlying26 h with ⟨e, -⟩ | ⟨a, len, cap, m, n, D, Pl, e, -, hl, -, hm, hx, hi⟩
  · simp at e
    subst e
    exact ⟨[], fun _ => ⟨none, 0, rfl, by simp, by simp, by simp⟩⟩
  · simp at e
    subst e
    have hlm : len ≤ m := by rw [hm]; simpa using hl
    rw [cellsStep] at hi
    have each : ∀ i, i < len → ∃ p : Int × Int × Int, (W.cell? (a.add (i * 3 + 0)) = some (.int .i64 p.1) ∧ W.cell? (a.add (i * 3 + 1)) = some (.int .i64 p.2.1) ∧ W.cell? (a.add (i * 3 + 2)) = some (.int .i64 p.2.2)) ∧ StepB p := by
      intro i hil
      obtain ⟨cs', h1, h2⟩ := hi i (by omega)
      obtain ⟨_, hlen, hcell⟩ := World.cells?_some h1
      obtain ⟨p, rfl, hb⟩ := step_of h2
      have c0 := hcell 0 (by omega)
      have c1 := hcell 1 (by omega)
      have c2 := hcell 2 (by omega)
      rw [Deep.add_add] at c0 c1 c2
      exact ⟨p, ⟨by rw [c0]; rfl, by rw [c1]; rfl, by rw [c2]; rfl⟩, hb⟩
    obtain ⟨q, hq⟩ := Deep.choose_lt each
    have hget : ∀ k o, ((List.range len).map q)[k]? = some o → k < len ∧ o = q k := by
      intro k o ho
      rw [List.getElem?_map] at ho
      by_cases hk : k < len
      · rw [List.getElem?_range hk] at ho
        simp at ho
        exact ⟨hk, ho.symm⟩
      · rw [List.getElem?_eq_none (by simp; omega)] at ho
        simp at ho
    refine ⟨(List.range len).map q, fun hw => ⟨some a, cap, by simp, ?_, ?_, ?_⟩⟩
    · intro h0
      simp at h0
      obtain ⟨g, z, sp⟩ := a
      have c0 := (hq 0 h0).1.1
      have hspot : sp = none := by simpa [Addr.add] using World.cell?_spot c0
      subst hspot
      have hadd : ∀ j, (Addr.add ⟨g, z, none⟩ j) = ⟨g, z + j, none⟩ := by
        intro j
        unfold Addr.add
        split <;> simp_all
      refine ⟨g, z, rfl, World.block_lt_of_cell? W _ c0, ?_⟩
      intro k p hp
      obtain ⟨hk, rfl⟩ := hget k p hp
      obtain ⟨⟨e0, e1, e2⟩, -⟩ := hq k hk
      rw [hadd] at e0 e1 e2
      simp only [Nat.add_assoc] at e0 e1 e2 ⊢
      exact ⟨e0, e1, e2⟩
    · intro o ho
      obtain ⟨k, hk, rfl⟩ := List.mem_map.1 ho
      exact (hq k (List.mem_range.1 hk)).2
    · have h9 := hw ((len + (m - len)) * 24) (by
        rw [hx]
        simp [DataW.weights, Tryz.underlying26, bytesStep])
      simp only [reachBytes] at h9
      simp
      omega

/-- a list of numbers, opened. -/
theorem ints_of {W : World} {fuel : Nat} {v : Value} {x : DataW H × List MemPlace} (h : DataW.trod enc Tryz.prog W 0 (fun _ => true) true fuel 24 [v] = some x) :
    ∃ l, ((∀ n ∈ x.1.weights Tryz.prog 24, n ≤ reachBytes) → IntsAt W v l ∧ InLow v l W.heap.size ∧ l.length ≤ 18000000000000 ∧ ∀ a ∈ l, B64 a) := by
  obtain ⟨lo, ln, lc, l, rfl, hl⟩ := list_of h
  refine ⟨l, fun hw => ⟨hl.ints, hl.low, ?_, hl.nums⟩⟩
  rcases hl.size with rfl | ⟨n, hn, hs⟩
  · simp
  · have := hw n hn
    simp only [reachBytes] at this
    omega
end
end Go.Proofs.YtellilpeakpbfaaGreatDoor.Scd

end

section
/-
  What the rows share: from the listed variables to what the walks ask.
-/
namespace Go.Proofs.YtellilpeakpbfaaGreatDoor.Ckd
open Go.ChangeShapes Go.WideShapes Go.ChangeAt Go.RowKit

theorem own : ownKnob Tryz.prog.godebug = none := by kernel_rfl
theorem gTab : Tryz.prog.globalNamed (Rows.keepsRow.named.headD "") = some 0 := by kernel_rfl
theorem gTabType : (Tryz.prog.globals[0]?).map (·.type) = some 199 := by kernel_rfl
theorem cellsWords : Tryz.prog.cellsOf 199 = 16 := by kernel_rfl
theorem cellsStr : Tryz.prog.cellsOf 9 = 1 := by kernel_rfl

/-- An array of texts as a row lists it. -/
def strData {H : Type} (ls : List (List UInt8)) : DataW H := .agg (ls.map fun l => .lit (.string l))
theorem cells_of_strs {H : Type} {enc : TypeId × Value → H} {P : Program} {w : World} {base : Nat} {sp : Nat → Bool} {held : Bool} {fuel : Nat} {t e : TypeId} {n : Nat} {cs : List Value} {ls : List (List UInt8)} {p : List MemPlace}
    (ht : P.underlying t = some (.array n e)) (he : P.underlying e = some .string) (hce : P.cellsOf e = 1) (hct : P.cellsOf t = n)
    (h : DataW.trod enc P w base sp held fuel t cs = some (strData ls, p)) : cs = ls.map T := by
  cases fuel with
  | zero => simp [DataW.trod] at h
  | succ fuel =>
    simp only [DataW.trod, ht, hce, hct, Nat.mul_one] at h
    split at h
    · rename_i hl
      obtain ⟨xs, hm, hx⟩ := Option.map_eq_some_iff.1 h
      have hxs : xs.map (·.1) = ls.map fun l => (DataW.lit (.string l) : DataW H) := by
        have := congrArg Prod.fst hx
        simpa [strData] using this
      have hxl : xs.length = n := by simpa using Lib.mapM_length hm
      have hzl : ls.length = n := by
        have := congrArg List.length hxs
        simp at this
        omega
      apply List.ext_getElem?
      intro i
      by_cases hi : i < n
      · obtain ⟨b, hb, hf⟩ := Lib.mapM_at hm i i (by simp [hi])
        obtain ⟨s, hc, rfl, _⟩ := DataW.trod_string he hf
        have h1 : cs[i]? = some (.string s) := by
          have := congrArg (·[0]?) hc
          simpa [List.getElem?_take, List.getElem?_drop] using this
        have h2 : (xs.map (·.1))[i]? = some (DataW.lit (.string s.data.toList) : DataW H) := by simp [hb]
        rw [hxs] at h2
        simp only [List.getElem?_map, Option.map_eq_some_iff, DataW.lit.injEq, Lit.string.injEq] at h2
        obtain ⟨l, hl', rfl⟩ := h2
        simp [h1, hl', T]
      · rw [List.getElem?_eq_none (by omega), List.getElem?_eq_none (by simp; omega)]
    · cases h

theorem words_of {W : World} {rest : List (String × DataW Unit)} {ps : List MemPlace} (h : DataW.LaidVars Tryz.prog W ((Rows.keepsRow.named.headD "", Rows.laid_cellar_source_words) :: rest) ps) : WordsAt W := by
  obtain ⟨g', t', cs, fuel, p, q, hg', ht', hvar, hd, _, _⟩ := h
  obtain rfl := Option.some.inj (gTab.symm.trans hg')
  obtain rfl := Option.some.inj (gTabType.symm.trans ht')
  have hcs : cs.toList = Ck.wordsL.map T := cells_of_strs (ls := Ck.wordsL) Tryz.underlying199 Tryz.underlying9 cellsStr cellsWords hd
  have hall : ∀ k, k < 16 → W.cell? ⟨0, k, none⟩ = some (.string ⟨(Ck.wordsL.getD k []).toArray⟩) := by
    intro k hk
    have := World.var?_cell gTab hvar k
    rw [this]
    have e : cs[k]? = (Ck.wordsL.map T)[k]? := by rw [← hcs]; simp
    rw [e]
    have hl : k < Ck.wordsL.length := hk
    simp [List.getD, hl, T]
  exact ⟨World.block_lt_of_cell? W ⟨0, 0, none⟩ (hall 0 (by omega)), hall⟩

/-- FOR A WITNESS: a variable's cells as its initialiser lays them. -/
def litVal : DataW Unit → Value
  | .lit (.int k z) => .int k z
  | .lit (.string l) => T l
  | _ => .bool false
def layVar (d : DataW Unit) : Obj → Obj
  | .cells c t frozen => match d with
    | .agg ds => .cells (ds.map litVal).toArray t frozen
    | _ => .cells c t frozen
  | o => o

end Go.Proofs.YtellilpeakpbfaaGreatDoor.Ckd

end

section
/-
  From the listed powers of ten to what the walks ask.
-/
namespace Go.Proofs.YtellilpeakpbfaaGreatDoor.Ckd
open Go.ChangeShapes Go.WideShapes Go.ChangeAt Go.RowKit

theorem gPowType : (Tryz.prog.globals[1]?).map (·.type) = some 237 := by kernel_rfl
theorem cellsPow : Tryz.prog.cellsOf 237 = 20 := by kernel_rfl
theorem cellsU64 : Tryz.prog.cellsOf 227 = 1 := by kernel_rfl
theorem powData : (Rows.laid_internal_strconv_uint64pow10 : DataW Unit) = Lib.tabData .u64 Lib.pow10Tab := by kernel_rfl
theorem pow_of {W : World} {rest : List (String × DataW Unit)} {ps : List MemPlace} (h : DataW.LaidVars Tryz.prog W ((Rows.keepsRow.named.getD 1 "", Rows.laid_internal_strconv_uint64pow10) :: rest) ps) : PowAt W := by
  obtain ⟨g', t', cs, fuel, p, q, hg', ht', hvar, hd, _, _⟩ := h
  obtain rfl := Option.some.inj (gPow.symm.trans hg')
  obtain rfl := Option.some.inj (gPowType.symm.trans ht')
  rw [powData] at hd
  have hcs := Lib.cells_of_tab Tryz.underlying237 Tryz.underlying227 cellsU64 cellsPow hd
  have htab : Lib.TabIs Tryz.prog W (Rows.keepsRow.named.getD 1 "") .u64 Lib.pow10Tab := by
    unfold Lib.TabIs
    rw [hvar, ← hcs]
  exact ⟨World.block_lt_of_cell? W ⟨1, 0, none⟩ (htab.cell gPow 0 (by rw [Lib.pow10Tab_length]; omega)), htab⟩
end Go.Proofs.YtellilpeakpbfaaGreatDoor.Ckd

end

section
/-
  The walk of keeps.
-/
set_option linter.unusedVariables false
namespace Go.Proofs.YtellilpeakpbfaaGreatDoor
open Go.RowKit

namespace Kp
/-- the contents without the first procedures. -/
def bare (C : Jn.Con) (k : Nat) : Jn.Con := ⟨C.cells, C.procs.drop k⟩
theorem bare_ok {C : Jn.Con} (h : Jn.Ok C) (k : Nat) : Jn.Ok (bare C k) :=
  ⟨h.len, h.val, by show (C.procs.drop k).length ≤ 8; rw [List.length_drop]; have := h.cnt; omega, fun p hp => h.prc p (List.mem_of_mem_drop hp), List.Pairwise.sublist (List.drop_sublist k _) h.srt⟩
theorem bare_drop {C : Jn.Con} (h : Jn.Ok C) (k : Nat) (p : Jn.Bytes × Jn.Bytes) (hp : C.procs[k]? = some p) : Jn.drop (bare C k) p.1 = (bare C (k + 1), 0) := by
  have hk : k < C.procs.length := (List.getElem?_eq_some_iff.1 hp).1
  have e : C.procs.drop k = p :: C.procs.drop (k + 1) := by rw [List.drop_eq_getElem_cons hk, (List.getElem?_eq_some_iff.1 hp).2]
  have hs := (bare_ok h k).srt
  have hs2 : (p :: C.procs.drop (k + 1)).Pairwise (fun p q => Jn.ltB p.1 q.1 = true) := by rw [← e]; exact hs
  have ho : Jn.others (p :: C.procs.drop (k + 1)) p.1 = C.procs.drop (k + 1) := by
    unfold Jn.others
    rw [List.filter_cons_of_neg (by simp), List.filter_eq_self]
    intro q hq
    have := (List.pairwise_cons.1 hs2).1 q hq
    simp only [bne_iff_ne, ne_eq]
    intro e
    rw [e, Jn.ltB_irr] at this
    cases this
  unfold Jn.drop bare
  simp only
  rw [e, ho, if_neg (by simp)]
theorem bare_install {C : Jn.Con} (n s : Jn.Bytes) (k : Nat) (hk : C.procs.length ≤ k) (hn : Jn.isName n = true) (hs : (Ck.read s).2 = 0) : Jn.install (bare C k) n s = (⟨C.cells, [(n, s)]⟩, 0, 0) := by
  have e : C.procs.drop k = [] := List.drop_eq_nil_of_le hk
  unfold Jn.install bare
  rw [if_neg (by rw [hn]; decide), if_neg (by rw [hs]; decide)]
  simp only [e, Jn.others, List.filter_nil, List.length_nil]
  rw [if_neg (by decide)]
  rfl
end Kp

def KsRel (L s D : Nat) (C : Jn.Con) (n : Nat) (w w1 : World) (vl : Value) (S B : Nat) (f : Int) (i : Value) (wr : World) : Prop :=
  ∃ k : Nat, k ≤ C.procs.length ∧ i = .int .i64 k ∧ (∃ d, SiteAt L wr s S B D (Kp.bare C k) f d ∧ DiskFit d f (Kp.bare C k) (n + 2000 * k)) ∧ FrX L [s, S, B, D] w wr ∧ PRow wr w.heap.size vl C.procs

set_option maxHeartbeats 4000000 in
set_option maxRecDepth 100000 in
theorem kkeeps_any (L s S B D n : Nat) (C : Jn.Con) (f : Int) (d : DS) (w : World) (nm sr : ByteArray) (hn : Jn.isName nm.data.toList = true) (hsr : (Ck.read sr.data.toList).2 = 0) (h : SiteAt L w s S B D C f d) (hd : DiskFit d f C n) (hN : n ≤ 900000000000000000) (hP : PowAt w) (hWd : WordsAt w) (hpL : 1 < L) :
    Calls Tryz.prog 25 #[.pointer (some ⟨s, 0, none⟩), .string nm, .string sr] w (PlayPost L s S B D ⟨C.cells, [(nm.data.toList, sr.data.toList)]⟩ (n + 30000) w) := by
  have HPR := hide (procsS_any L S B C f w h.st)
  have hok := h.st.con.ok
  have hcnt := hok.cnt
  obtain ⟨s0, s1⟩ := h.cells
  have hLw := h.lowL
  have HH := hide h
  have HD := hide hd
  have HOK := hide hok
  have HN := hide hn
  have HSR := hide hsr
  have HP := hide hP
  have HW := hide hWd
  clear h hd hok hn hsr hP hWd
  go_enter Tryz.func25, Tryz.ntmps25
  go_wp2_with fail
  refine HPR.out.mono ?_
  rintro e w1 ⟨vl, rfl, hrow, hb1⟩
  have HR0 : Hid (KsRel L s D C n w w1 vl S B f (.int .i64 (0 : Int)) w1) := ⟨0, Nat.zero_le _, rfl, ⟨d, HH.out.below hb1, HD.out⟩, (FrX.old hb1 hLw).mono (by simp), hrow⟩
  obtain ⟨ao, cap, hvl, -⟩ := hrow.shape
  subst hvl
  clear hrow hb1 HPR s0 s1
  go_wp2_with fail
  go_loopw [8] (fun i wr => KsRel L s D C n w w1 (.slice ao C.procs.length cap) S B f i wr) (fun i _ => C.procs.length - (intOf i).toNat)
  case atStart => exact HR0.out
  case round =>
    clear HR0
    obtain ⟨k, hk, rfl, ⟨dk, hs, hd⟩, hx, hrow⟩ := hrel
    have hbL : Below L w wr := hx.below
    obtain ⟨c0, c1⟩ := hs.cells
    by_cases hkl : k < C.procs.length
    · obtain ⟨p, hp⟩ : ∃ p, C.procs[k]? = some p := ⟨C.procs[k], List.getElem?_eq_getElem hkl⟩
      obtain ⟨ao', cap', heq, hsh⟩ := hrow.shape
      obtain ⟨g, cur, hg, hgb, hgh, hcs⟩ := hsh (by omega)
      cases heq
      subst hg
      obtain ⟨e0, -⟩ := hcs k p hp
      have tk : decide ((k : Int) < (C.procs.length : Int)) = true := by simp; omega
      have hdr := Kp.bare_drop HOK.out k p hp
      have hpn := (HOK.out.prc p (List.mem_of_getElem? hp)).1
      have HDS : Hid (∀ x, Below wr.heap.size wr x → Calls Tryz.prog 35 #[.pointer (some ⟨S, 0, none⟩), T p.1] x (ChgOwn L S B (Kp.bare C (k + 1)) f 0 (Jn.dropE p.1) x)) := by
        intro x hb
        have := dropS_own L S B (Kp.bare C k) f ⟨p.1.toArray⟩ x (hs.below hb).st
        rw [T_bytes, hdr] at this
        exact this
      obtain ⟨hre, hno, hlen⟩ := drop_redo (Kp.bare_ok HOK.out k) p.1 (by rw [hdr])
      rw [hdr] at hre
      obtain ⟨d', hpd, hfit⟩ := hd.change (Kp.bare_ok HOK.out k) (Kp.bare_ok HOK.out (k + 1)) hno hre (by omega) (by omega)
      have HKP := hide (fun x (hx : Fr L [] (some B) wr x) => (⟨(cell_of_row x s 0 _ _ _ (hx.block s _ _ _ hs.mem (by simp) (by obtain ⟨cb, vb, hB, -⟩ := hs.st.con.mem; intro e; cases e; have := hs.mem; rw [hB] at this; cases this))).trans rfl, (hx.block g _ _ _ hgh (by simp) (by obtain ⟨cb, vb, hB, -⟩ := hs.st.con.mem; intro e; cases e; rw [hB] at hgh; cases hgh))⟩ : x.cell? ⟨s, 0, none⟩ = some (.pointer (some ⟨S, 0, none⟩)) ∧ x.heap[g]? = _))
      have HKC := hide (fun x (hx : Fr L [] (some B) wr x) => (⟨(HKP.out x hx).1, (cell_of_row x g _ _ _ _ (HKP.out x hx).2).trans ((cell_of_row wr g _ _ _ _ hgh).symm.trans e0)⟩ : x.cell? ⟨s, 0, none⟩ = some (.pointer (some ⟨S, 0, none⟩)) ∧ x.cell? ⟨g, k * 2, none⟩ = some (T p.1)))
      have HAL := hide (fun x v b hdx har => allD_own L D b dk d' v [(1, f, Jn.record (Jn.dropE p.1))] x hdx hs.low.2 har (by simp) hpd)
      have HCH := hide (fun wp w3 hst g hd3 g3 => site_change (C' := Kp.bare C (k + 1)) (d' := d') (wp := wp) (w3 := w3) hs hst g hd3 g3)
      have HDX : Hid (∀ x, Fr L [] (some B) wr x → DsAt x D dk ∧ x.cell? ⟨s, 1, none⟩ = some (.pointer (some ⟨D, 0, none⟩))) := by
        intro x hx
        obtain ⟨cb, vb, hB, -⟩ := hs.st.con.mem
        have hD : wr.heap[D]? = _ := hs.disk
        have hm := hs.mem
        refine ⟨hx.block D _ _ _ hD (by simp) (by intro e; cases e; rw [hB] at hD; cases hD), ?_⟩
        exact (cell_of_row x s 1 _ _ _ (hx.block s _ _ _ hm (by simp) (by intro e; cases e; rw [hB] at hm; cases hm))).trans rfl
      have HEND : Hid (∀ w3, SiteAt L w3 s S B D (Kp.bare C (k + 1)) f d' → FrX L [s, S, B, D] wr w3 → KsRel L s D C n w w1 (.slice (some ⟨g, 0, none⟩) C.procs.length cap) S B f (.int .i64 ((k : Int) + 1)) w3) := by
        intro w3 hs3 hx3
        refine ⟨k + 1, by omega, by go_num, ⟨d', hs3, ⟨hfit.1, hfit.2.1, Nat.le_trans hfit.2.2 (by omega)⟩⟩, (hx.trans hx3).mono (by simp), ?_⟩
        exact own_fr hrow (hx3.typed siteT hs.types) (by decide) (.inl rfl)
      clear hs hd hx hrow hsh hcs hp hre hno hpd hfit hdr hgh HKP hbL
      obtain ⟨pn, psrc⟩ := p
      simp only at HDS HKC HAL e0
      go_wp2_with fail
      go_region_held3 (fun w' => w'.cell? ⟨s, 0, none⟩ = some (.pointer (some ⟨S, 0, none⟩)) ∧ w'.cell? ⟨g, k * 2, none⟩ = some (T pn))
        (first | with_reducible exact HKC.out _ hfr | go_keep)
        (first | (go_at_call 35; refine (HDS.out _ (by first | exact Below.refl _ _ | exact Below.drew (Below.refl _ _))).mono ?_; rintro e wp ⟨v, rfl, hst, hfr0, hor⟩; have hfr : Fr L [] (some B) wr wp := Fr.undrew hfr0))
      have har : ARow wp wr.heap.size v [(1, f, Jn.record (Jn.dropE pn))] := by
        rcases hor with ⟨g, -⟩ | ⟨-, g⟩
        · exact absurd rfl g
        · exact g
      obtain ⟨hdx, g1⟩ := HDX.out wp hfr
      have HA := hide (HAL.out wp v _ hdx har)
      have HF := hide (fun w3 hd3 g3 => HCH.out wp w3 hst hfr hd3 g3)
      obtain ⟨vo, vn, vk, rfl⟩ : ∃ vo vn vk, v = .slice vo vn vk := by obtain ⟨x, y, e, -⟩ := har.shape; exact ⟨x, _, y, e⟩
      clear har hst hfr hfr0 hor hdx HDS HKC HAL HCH HDX c0 c1 e0
      go_wp2_with fail
      refine HA.out.mono ?_
      rintro e w3 ⟨rfl, hd3, g3⟩
      obtain ⟨hs3, hx3⟩ := HF.out w3 hd3 g3
      have HRR := hide (HEND.out w3 hs3 hx3)
      clear hs3 hx3 hd3 g3 HA HF HEND
      go_wp2_with fail
      go_roundw
      case rel => exact HRR.out
      case measure => simp [intOf]; omega
    · have tk : decide ((k : Int) < (C.procs.length : Int)) = false := by simp; omega
      have hkn : k = C.procs.length := by omega
      have hbw : Below 1 w wr := hbL.mono (Nat.le_of_lt hpL)
      have hin := Kp.bare_install (C := C) nm.data.toList sr.data.toList k (by omega) HN.out HSR.out
      obtain ⟨hre, hno, hlen⟩ := install_redo (Kp.bare C k) nm.data.toList sr.data.toList (by rw [hin])
      have hfa := install_facts (Kp.bare C k) nm.data.toList sr.data.toList (by rw [hin])
      have hwl : 0 < L := Nat.lt_of_le_of_lt (by decide) hpL
      have HIS : Hid (Calls Tryz.prog 29 #[.pointer (some ⟨S, 0, none⟩), .string nm, .string sr] wr (InsOwn L S B ⟨C.cells, [(nm.data.toList, sr.data.toList)]⟩ f 0 0 (Jn.installE nm.data.toList sr.data.toList) wr)) := by
        have := installS_own L S B (Kp.bare C k) f nm sr wr hs.st (HW.out.below hwl hbL)
        rw [hin] at this
        exact this
      rw [hin] at hre
      have hn8 := name_len _ HN.out
      have hs4 := read_len _ HSR.out
      have HNEW : Hid (Jn.Ok ⟨C.cells, [(nm.data.toList, sr.data.toList)]⟩) := ⟨HOK.out.len, HOK.out.val, by simp, by simp; exact ⟨HN.out, HSR.out⟩, by simp⟩
      obtain ⟨d', hpd, hfit⟩ := hd.change (Kp.bare_ok HOK.out k) HNEW.out hno hre (by omega) (by omega)
      have HAL := hide (fun x v b hdx har => allD_own L D b dk d' v [(1, f, Jn.record (Jn.installE nm.data.toList sr.data.toList))] x hdx hs.low.2 har (by simp) hpd)
      have HCH := hide (fun wp w3 hst g hd3 g3 => site_change (C' := ⟨C.cells, [(nm.data.toList, sr.data.toList)]⟩) (d' := d') (wp := wp) (w3 := w3) hs hst g hd3 g3)
      have HDX : Hid (∀ x, Fr L [] (some B) wr x → DsAt x D dk ∧ x.cell? ⟨s, 1, none⟩ = some (.pointer (some ⟨D, 0, none⟩))) := by
        intro x hx
        obtain ⟨cb, vb, hB, -⟩ := hs.st.con.mem
        have hD : wr.heap[D]? = _ := hs.disk
        have hm := hs.mem
        refine ⟨hx.block D _ _ _ hD (by simp) (by intro e; cases e; rw [hB] at hD; cases hD), ?_⟩
        exact (cell_of_row x s 1 _ _ _ (hx.block s _ _ _ hm (by simp) (by intro e; cases e; rw [hB] at hm; cases hm))).trans rfl
      have HEND : Hid (∀ w3, SiteAt L w3 s S B D ⟨C.cells, [(nm.data.toList, sr.data.toList)]⟩ f d' → FrX L [s, S, B, D] wr w3 → PlayPost L s S B D ⟨C.cells, [(nm.data.toList, sr.data.toList)]⟩ (n + 30000) w (.returned (.bool true)) w3) := by
        intro w3 hs3 hx3
        exact ⟨rfl, S, B, f, d', hs3, ⟨hfit.1, hfit.2.1, Nat.le_trans hfit.2.2 (by omega)⟩, (hx.trans hx3).mono (by simp), .inl rfl, .inl rfl⟩
      clear hs hd hx hrow hre hno hlen hfa hin hpd hfit hbL hbw hkn hn8 hs4
      go_wp2_with fail
      refine HIS.out.mono ?_
      rintro e wp ⟨v, rfl, hst, hfr, hor⟩
      have har : ARow wp wr.heap.size v [(1, f, Jn.record (Jn.installE nm.data.toList sr.data.toList))] := by
        rcases hor with ⟨g, -⟩ | ⟨-, g⟩
        · exact absurd rfl g
        · exact g
      obtain ⟨hdx, g1⟩ := HDX.out wp hfr
      have HA := hide (HAL.out wp v _ hdx har)
      have HF := hide (fun w3 hd3 g3 => HCH.out wp w3 hst hfr hd3 g3)
      obtain ⟨vo, vn, vk, rfl⟩ : ∃ vo vn vk, v = .slice vo vn vk := by obtain ⟨x, y, e, -⟩ := har.shape; exact ⟨x, _, y, e⟩
      clear har hst hfr hor hdx HIS HAL HCH HDX c0 c1
      go_wp2_with fail
      refine HA.out.mono ?_
      rintro e w3 ⟨rfl, hd3, g3⟩
      obtain ⟨hs3, hx3⟩ := HF.out w3 hd3 g3
      have HFIN := hide (HEND.out w3 hs3 hx3)
      clear hs3 hx3 hd3 g3 HA HF HEND
      go_wp2_with fail
      go_ret
      exact HFIN.out
end Go.Proofs.YtellilpeakpbfaaGreatDoor

end
