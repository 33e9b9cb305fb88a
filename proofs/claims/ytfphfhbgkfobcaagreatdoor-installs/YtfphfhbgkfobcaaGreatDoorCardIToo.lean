import Derived.Test.YtfphfhbgkfobcaaGreatDoorInsPToo
import Derived.Test.YtfphfhbgkfobcaaGreatDoorStpIToo
import Derived.ProofKit
import Derived.OpenShut
import Derived.Deep.Slices
import Derived.ChangeSame
import Derived.Carry
import Derived.Test.YtfphfhbgkfobcaaGreatDoorTokToo
import Derived.Deep.DeepHandedRow
import Derived.Lib.LaidTab
import Derived.Test.YtfphfhbgkfobcaaGreatDoorShelfToo
import Derived.Test.YtfphfhbgkfobcaaGreatDoorCards
import Derived.Test.YtfphfhbgkfobcaaGreatDoorTie
import Derived.SizedLaws
section
/-
  Installs.
-/
namespace Go.Proofs.YtfphfhbgkfobcaaGreatDoor
open Go.RowKit

set_option maxHeartbeats 4000000 in
set_option maxRecDepth 100000 in
theorem installs_any (w : World) (ao : Option Addr) (cap : Nat) (ops : List OpD) (hs : 0 < ops.length → ∃ g z, ao = some ⟨g, z, none⟩ ∧ ScrAt w g z ops) (hP : PowAt w) (hWd : WordsAt w) (hn : ops.length ≤ 1299999999999)
    (hm : ∀ o ∈ ops, -9223372036854775808 ≤ o.m ∧ o.m ≤ 9223372036854775807) :
    Calls Tryz.prog 4 #[.slice ao ops.length cap] w fun e w' => e = .returned (.bool true) ∧ Below w.heap.size w w' := by
  obtain ⟨w1, hw1⟩ : ∃ w1, w1 = w.alloc (.cells #[.int .i64 7, .int .i64 8, .int .i64 9, .int .i64 11, .int .i64 13] 3) := ⟨_, rfl⟩
  have hB1 : Below w.heap.size w w1 := by rw [hw1]; exact (Below.refl _ _).alloc (Nat.le_refl _) _
  have hbk : w1.heap[w.heap.size]? = some (.cells #[.int .i64 7, .int .i64 8, .int .i64 9, .int .i64 11, .int .i64 13] 3 (0, 0)) := by rw [hw1]; exact heap_alloc_new w _
  have hkn : KnAt w1 w.heap.size [7, 8, 9, 11, 13] := by
    refine ⟨(Array.getElem?_eq_some_iff.1 hbk).1, fun k x hx => ?_⟩
    rw [cell_of_row w1 w.heap.size k _ _ _ hbk]
    match k, hx with
    | 0, hx => simp at hx; subst hx; rfl
    | 1, hx => simp at hx; subst hx; rfl
    | 2, hx => simp at hx; subst hx; rfl
    | 3, hx => simp at hx; subst hx; rfl
    | 4, hx => simp at hx; subst hx; rfl
    | k + 5, hx => simp at hx
  have hP1 := hP.below hP.1 hB1
  have HPL := hide (plays_any w1 ao cap w.heap.size ops [7, 8, 9, 11, 13] (fun h0 => by obtain ⟨g, z, e, hsc⟩ := hs h0; exact ⟨g, z, e, hsc.below hB1⟩) hkn hP1 (hWd.below hWd.1 hB1) hn (by simp)
    (fun x W D m C o ho hk hi hm' hp hw => step_installs w1.heap.size W D m x C o hk hi hm' hp hw hP1.1 (hm o ho).1 (hm o ho).2))
  simp only [List.length_cons, List.length_nil] at HPL
  have HB1 := hide hB1
  clear hs hP hWd hm hB1 hbk hkn hP1
  go_enter Tryz.func4, Tryz.ntmps4
  go_wp2_with fail
  rw [← hw1]
  refine HPL.out.mono ?_
  rintro e w9 ⟨rfl, hb9⟩
  have HFIN := hide (HB1.out.trans (hb9.mono HB1.out.size))
  clear hb9 HPL hw1
  go_wp2_with fail
  go_ret
  exact ⟨rfl, HFIN.out⟩
end Go.Proofs.YtfphfhbgkfobcaaGreatDoor

end

section
/-
  From the script as it is read to what the walks ask.
-/
namespace Go.Proofs.YtfphfhbgkfobcaaGreatDoor.Scd
open Go.ChangeShapes Go.WideShapes Go.ChangeAt Go.RowKit

section
variable {H : Type} {enc : TypeId × Value → H}

theorem cellsOp : Tryz.prog.cellsOf 83 = 8 := by kernel_rfl
theorem bytesOp : Tryz.prog.bytesOf 83 = 112 := by kernel_rfl
theorem cInt : Tryz.prog.cellsOf 3 = 1 := by kernel_rfl
theorem cStr : Tryz.prog.cellsOf 9 = 1 := by kernel_rfl
theorem cInts : Tryz.prog.cellsOf 24 = 1 := by kernel_rfl

/-- a slice of numbers is some slice. -/
theorem some_slice {W : World} {fuel : Nat} {v : Value} {x : DataW H × List MemPlace} (h : DataW.trod enc Tryz.prog W 0 (fun _ => true) true fuel 24 [v] = some x) : ∃ lo ln lc, v = .slice lo ln lc := by
  rcases DataW.trod_slice Tryz.underlying24 h with ⟨e, -⟩ | ⟨a, len, cap, elems, rest, n, _, e, _⟩
  · exact ⟨none, 0, 0, by simpa using e⟩
  · exact ⟨some a, len, cap, by simpa using e⟩

set_option maxRecDepth 100000 in
theorem op_of {W : World} {fuel : Nat} {cs : List Value} {x : DataW H × List MemPlace} (h : DataW.trod enc Tryz.prog W 0 (fun _ => true) true fuel 83 cs = some x) :
    ∃ o : OpD, cs = o.cells.toList ∧ -9223372036854775808 ≤ o.m ∧ o.m ≤ 9223372036854775807 := by
  obtain ⟨xs, n, _, -, hl, hxl, hf⟩ := DataW.trod_struct Tryz.underlying83 h
  rw [cellsOp] at hl
  match cs, hl, xs, hxl with
  | [c0, c1, c2, c3, c4, c5, c6, c7], _, [y0, y1, y2, y3, y4, y5, y6, y7], _ =>
    have g0 := hf 0 _ rfl
    have g1 := hf 1 _ rfl
    have g2 := hf 2 _ rfl
    have g3 := hf 3 _ rfl
    have g4 := hf 4 _ rfl
    have g5 := hf 5 _ rfl
    have g6 := hf 6 _ rfl
    have g7 := hf 7 _ rfl
    simp [cInt, cStr, cInts] at g0 g1 g2 g3 g4 g5 g6 g7
    obtain ⟨k0, e0, -, -⟩ := DataW.trod_int Tryz.underlying3 g0
    obtain ⟨k1, e1, -, -⟩ := DataW.trod_int Tryz.underlying3 g1
    obtain ⟨k2, e2, -, w2⟩ := DataW.trod_int Tryz.underlying3 g2
    obtain ⟨s, e3, -, -⟩ := DataW.trod_string Tryz.underlying9 g3
    obtain ⟨t, e4, -, -⟩ := DataW.trod_string Tryz.underlying9 g4
    obtain ⟨lo, ln, lc, e5⟩ := some_slice g5
    obtain ⟨k6, e6, -, -⟩ := DataW.trod_int Tryz.underlying3 g6
    obtain ⟨wo, wn, wc, e7⟩ := some_slice g7
    simp only [List.cons.injEq, and_true] at e0 e1 e2 e3 e4 e6
    subst e0 e1 e2 e3 e4 e5 e6 e7
    refine ⟨⟨k0, k1, k2, s, t, lo, ln, lc, k6, wo, wn, wc⟩, rfl, ?_⟩
    have := w2
    simp [Lit.wf] at this
    exact ⟨this.1, this.2⟩

/-- The script, opened. -/
theorem scr_of {W : World} {fuel : Nat} {v : Value} {x : DataW H × List MemPlace} (h : DataW.trod enc Tryz.prog W 0 (fun _ => true) true fuel 22 [v] = some x) :
    ∃ ao cap ops, v = .slice ao (List.length ops) cap ∧ (0 < ops.length → ∃ g z, ao = some ⟨g, z, none⟩ ∧ ScrAt W g z ops) ∧ (∀ o ∈ ops, -9223372036854775808 ≤ o.m ∧ o.m ≤ 9223372036854775807) ∧
      (ops = [] ∨ ∃ el sp, x.1 = .slice el sp ∧ el.length = ops.length) := by
  rcases Deep.open_slice Tryz.underlying22 h with ⟨e, -⟩ | ⟨a, len, cap, m, n, D, Pl, e, -, hl, -, hm, hx, hi⟩
  · exact ⟨none, 0, [], by simpa using e, by simp, by simp, .inl rfl⟩
  · have hlm : len ≤ m := by rw [hm]; simpa using hl
    rw [cellsOp] at hi
    have each : ∀ i, i < len → ∃ o : OpD, (∀ j u, o.cells[j]? = some u → W.cell? (a.add (i * 8 + j)) = some u) ∧ -9223372036854775808 ≤ o.m ∧ o.m ≤ 9223372036854775807 := by
      intro i hil
      obtain ⟨cs', h1, h2⟩ := hi i (by omega)
      obtain ⟨_, hlen, hcell⟩ := World.cells?_some h1
      obtain ⟨o, rfl, hb⟩ := op_of h2
      refine ⟨o, fun j u hu => ?_, hb⟩
      have hj : j < 8 := by have := (Array.getElem?_eq_some_iff.1 hu).1; simpa [OpD.cells] using this
      have := hcell j hj
      rw [Deep.add_add] at this
      rw [this]
      simpa using hu
    have : Inhabited OpD := ⟨⟨0, 0, 0, ⟨#[]⟩, ⟨#[]⟩, none, 0, 0, 0, none, 0, 0⟩⟩
    obtain ⟨q, hq⟩ := Deep.choose_lt each
    have hops : ∀ k o, ((List.range len).map q)[k]? = some o → k < len ∧ o = q k := by
      intro k o ho
      rw [List.getElem?_map] at ho
      by_cases hk : k < len
      · rw [List.getElem?_range hk] at ho
        simp at ho
        exact ⟨hk, ho.symm⟩
      · rw [List.getElem?_eq_none (by simp; omega)] at ho
        simp at ho
    refine ⟨some a, cap, (List.range len).map q, by simpa using e, ?_, ?_, .inr ⟨_, _, by rw [hx], by simp⟩⟩
    · intro h0
      simp at h0
      obtain ⟨g, z, sp⟩ := a
      have c0 := (hq 0 h0).1 0 _ rfl
      have hspot : sp = none := by simpa [Addr.add] using World.cell?_spot c0
      subst hspot
      refine ⟨g, z, rfl, World.block_lt_of_cell? W _ c0, ?_⟩
      intro k o ho j u hu
      obtain ⟨hk, rfl⟩ := hops k o ho
      have := (hq k hk).1 j u hu
      rw [← this]
      congr 1
      unfold Addr.add
      split <;> simp_all [Nat.add_assoc]
    · intro o ho
      obtain ⟨k, hk, rfl⟩ := List.mem_map.1 ho
      exact (hq k (List.mem_range.1 hk)).2
end
end Go.Proofs.YtfphfhbgkfobcaaGreatDoor.Scd

end

section
/-
  What the rows share: from the listed variables to what the walks ask.
-/
namespace Go.Proofs.YtfphfhbgkfobcaaGreatDoor.Ckd
open Go.ChangeShapes Go.WideShapes Go.ChangeAt Go.RowKit

theorem own : ownKnob Tryz.prog.godebug = none := by kernel_rfl
theorem gTab : Tryz.prog.globalNamed (Rows.keepsRow.named.headD "") = some 0 := by kernel_rfl
theorem gTabType : (Tryz.prog.globals[0]?).map (·.type) = some 198 := by kernel_rfl
theorem cellsWords : Tryz.prog.cellsOf 198 = 16 := by kernel_rfl
theorem cellsStr : Tryz.prog.cellsOf 9 = 1 := by kernel_rfl

/-- An array of texts as a row lists it. -/
def strData {H : Type} (ls : List (List UInt8)) : DataW H := .agg (ls.map fun l => .lit (.string l))
theorem cells_of_strs {H : Type} {enc : TypeId × Value → H} {P : Program} {w : World} {base : Nat} {sp : Nat → Bool} {held : Bool} {fuel : Nat} {t e : TypeId} {n : Nat} {cs : List Value} {ls : List (List UInt8)} {p : List MemPlace}
    (ht : P.underlying t = some (.array n e)) (he : P.underlying e = some .string) (hce : P.cellsOf e = 1) (hct : P.cellsOf t = n)
    (h : DataW.trod enc P w base sp held fuel t cs = some (strData ls, p)) : cs = ls.map T := by
  cases fuel with
  | zero => simp [DataW.trod] at h
  | succ fuel =>
    simp only [DataW.trod, ht, hce, hct, Nat.mul_one] at h
    split at h
    · rename_i hl
      obtain ⟨xs, hm, hx⟩ := Option.map_eq_some_iff.1 h
      have hxs : xs.map (·.1) = ls.map fun l => (DataW.lit (.string l) : DataW H) := by
        have := congrArg Prod.fst hx
        simpa [strData] using this
      have hxl : xs.length = n := by simpa using Lib.mapM_length hm
      have hzl : ls.length = n := by
        have := congrArg List.length hxs
        simp at this
        omega
      apply List.ext_getElem?
      intro i
      by_cases hi : i < n
      · obtain ⟨b, hb, hf⟩ := Lib.mapM_at hm i i (by simp [hi])
        obtain ⟨s, hc, rfl, _⟩ := DataW.trod_string he hf
        have h1 : cs[i]? = some (.string s) := by
          have := congrArg (·[0]?) hc
          simpa [List.getElem?_take, List.getElem?_drop] using this
        have h2 : (xs.map (·.1))[i]? = some (DataW.lit (.string s.data.toList) : DataW H) := by simp [hb]
        rw [hxs] at h2
        simp only [List.getElem?_map, Option.map_eq_some_iff, DataW.lit.injEq, Lit.string.injEq] at h2
        obtain ⟨l, hl', rfl⟩ := h2
        simp [h1, hl', T]
      · rw [List.getElem?_eq_none (by omega), List.getElem?_eq_none (by simp; omega)]
    · cases h

theorem words_of {W : World} {rest : List (String × DataW Unit)} {ps : List MemPlace} (h : DataW.LaidVars Tryz.prog W ((Rows.keepsRow.named.headD "", Rows.laid_cellar_source_words) :: rest) ps) : WordsAt W := by
  obtain ⟨g', t', cs, fuel, p, q, hg', ht', hvar, hd, _, _⟩ := h
  obtain rfl := Option.some.inj (gTab.symm.trans hg')
  obtain rfl := Option.some.inj (gTabType.symm.trans ht')
  have hcs : cs.toList = Ck.wordsL.map T := cells_of_strs (ls := Ck.wordsL) Tryz.underlying198 Tryz.underlying9 cellsStr cellsWords hd
  have hall : ∀ k, k < 16 → W.cell? ⟨0, k, none⟩ = some (.string ⟨(Ck.wordsL.getD k []).toArray⟩) := by
    intro k hk
    have := World.var?_cell gTab hvar k
    rw [this]
    have e : cs[k]? = (Ck.wordsL.map T)[k]? := by rw [← hcs]; simp
    rw [e]
    have hl : k < Ck.wordsL.length := hk
    simp [List.getD, hl, T]
  exact ⟨World.block_lt_of_cell? W ⟨0, 0, none⟩ (hall 0 (by omega)), hall⟩

/-- FOR A WITNESS: a variable's cells as its initialiser lays them. -/
def litVal : DataW Unit → Value
  | .lit (.int k z) => .int k z
  | .lit (.string l) => T l
  | _ => .bool false
def layVar (d : DataW Unit) : Obj → Obj
  | .cells c t frozen => match d with
    | .agg ds => .cells (ds.map litVal).toArray t frozen
    | _ => .cells c t frozen
  | o => o

end Go.Proofs.YtfphfhbgkfobcaaGreatDoor.Ckd

end

section
/-
  From the listed powers of ten to what the walks ask.
-/
namespace Go.Proofs.YtfphfhbgkfobcaaGreatDoor.Ckd
open Go.ChangeShapes Go.WideShapes Go.ChangeAt Go.RowKit

theorem gPowType : (Tryz.prog.globals[1]?).map (·.type) = some 237 := by kernel_rfl
theorem cellsPow : Tryz.prog.cellsOf 237 = 20 := by kernel_rfl
theorem cellsU64 : Tryz.prog.cellsOf 227 = 1 := by kernel_rfl
theorem powData : (Rows.laid_internal_strconv_uint64pow10 : DataW Unit) = Lib.tabData .u64 Lib.pow10Tab := by kernel_rfl
theorem pow_of {W : World} {rest : List (String × DataW Unit)} {ps : List MemPlace} (h : DataW.LaidVars Tryz.prog W ((Rows.keepsRow.named.getD 1 "", Rows.laid_internal_strconv_uint64pow10) :: rest) ps) : PowAt W := by
  obtain ⟨g', t', cs, fuel, p, q, hg', ht', hvar, hd, _, _⟩ := h
  obtain rfl := Option.some.inj (gPow.symm.trans hg')
  obtain rfl := Option.some.inj (gPowType.symm.trans ht')
  rw [powData] at hd
  have hcs := Lib.cells_of_tab Tryz.underlying237 Tryz.underlying227 cellsU64 cellsPow hd
  have htab : Lib.TabIs Tryz.prog W (Rows.keepsRow.named.getD 1 "") .u64 Lib.pow10Tab := by
    unfold Lib.TabIs
    rw [hvar, ← hcs]
  exact ⟨World.block_lt_of_cell? W ⟨1, 0, none⟩ (htab.cell gPow 0 (by rw [Lib.pow10Tab_length]; omega)), htab⟩
end Go.Proofs.YtfphfhbgkfobcaaGreatDoor.Ckd

end

section
/-
  The row of the law Installs, and its tied card.
-/
namespace Go.Proofs.YtfphfhbgkfobcaaGreatDoor.Ind
open Go.ChangeShapes Go.WideShapes Go.ChangeAt Go.RowKit
open Go.ChangeMaps (open_string shut_string)
open Ckd (words_of pow_of layVar own)

theorem laidOut : laidOutB Tryz.prog = true := by kernel_rfl

set_option maxRecDepth 100000 in
theorem contract (H : Type) (enc : TypeId × Value → H) (W : World) (base : Nat) (args : Array Value) (ds gs : List (DataW H)) (before : List MemPlace)
    (hval : ∀ (j : Nat) t v, Tryz.f4.params[j]? = some t → args[j]? = some v → Value.okWide Tryz.prog W .any base t v)
    (hW : DataW.Whole enc Tryz.prog Tryz.f4.params.toList Rows.installsSpec.vars false W args.toList ds gs before) (hz : (DataW.weightsEach Tryz.prog (Tryz.f4.params.toList ++ (OpenSpec.ofChange Rows.installsSpec).bare.plain.varTypes Tryz.prog) (ds ++ gs)).all (· ≤ reachBytes) = true) (hL : laidMetH Tryz.prog Rows.installsRow.laid W) :
    Calls Tryz.prog 4 args W fun e W' => ∃ v, e = .returned v ∧ Rows.installsSpec.post enc Tryz.prog Tryz.f4 false true false false W args v W' := by
  have hW' := hW
  obtain ⟨p, q, hA0, hV, rfl, hfz, hnd⟩ := hW
  have hA : DataW.TrodAll enc Tryz.prog W 0 (fun _ => true) true Tryz.f4.params.toList args.toList ds p := hA0
  rw [Tryz.params4] at hA hval hz
  obtain ⟨v0, vs0, d0, ds0, p0, q0, hargs, rfl, rfl, h0, r0⟩ := trodAll_cons hA
  obtain ⟨rfl, rfl, rfl⟩ := trodAll_nil r0
  obtain rfl : args = #[v0] := Array.toList_inj.1 (by rw [hargs])
  obtain ⟨rfl, rfl⟩ := trodVars_none hV
  obtain ⟨a0, len0, cap0, rfl⟩ := okWide_slice Tryz.underlying22 (hval 0 22 v0 rfl rfl)
  obtain ⟨fuel, h0'⟩ := h0
  obtain ⟨ao, cap, ops, hv0, hscr, hbd, hor⟩ := Scd.scr_of (v := .slice a0 len0 cap0) h0'
  rw [hv0] at hW' h0' ⊢
  have hn : ops.length ≤ 1299999999999 := by
    rcases hor with rfl | ⟨el, sp, hd, he⟩
    · simp
    · have hd' : d0 = .slice el sp := hd
      subst hd'
      have := sized_slice hz (j := 0) (t := 22) rfl rfl Tryz.underlying22
      rw [Scd.bytesOp] at this
      simp only [reachBytes] at this
      omega
  clear hA0
  simp only [List.append_nil] at hW'
  have hlt : ∀ x ∈ p0, x.block < W.heap.size := fun x hx => by simpa using hW'.lt x (by simpa using hx)
  obtain ⟨ps, hl, _⟩ := hL
  obtain ⟨_, _, _, _, _, q0, _, _, _, _, hl, _⟩ := hl
  obtain ⟨_, _, _, _, _, q1, _, _, _, _, hl, _⟩ := hl
  have hP := pow_of hl
  obtain ⟨_, _, _, _, _, q2, _, _, _, _, hl, _⟩ := hl
  refine (installs_any W ao cap ops hscr hP (words_of hl) hn hbd).mono fun e W' ⟨he, hb⟩ => ?_
  subst he
  refine ⟨_, rfl, _, _, _, [], p0 ++ [], [], hW', ?_, ?_, rfl, hb.frame _, fun h => by cases h⟩
  · exact trodAll_cons_mk (shut_bool Tryz.underlying4 _) trodAll_mk0
  · exact trodAll_cons_mk (Below.trod laidOut (by kernel_rfl) (of_decide_eq_true (by kernel_rfl)) ⟨fuel, h0'⟩ hb hlt) trodAll_mk0

theorem laid_met (os : Os) : laidMet Tryz.prog Rows.installsRow.laid (({ World.holding Tryz.prog os ⟨#[], #[], []⟩ with heap := (World.holding Tryz.prog os ⟨#[], #[], []⟩).heap.modify 0 (layVar Rows.laid_cellar_source_words) |>.modify 1 (layVar Rows.laid_internal_strconv_uint64pow10) |>.modify 2 (layVar Rows.laid_math_bits_deBruijn32tab) |>.modify 3 (layVar Rows.laid_math_bits_deBruijn64tab) }).forCall (fun _ _ => 0) ⟨#[], #[.slice none 0 0], []⟩).memory :=
  laidMet_of_run' 8 (by kernel_rfl) (by kernel_rfl)
theorem reads (os : Os) {H : Type} (enc : TypeId × Value → H) : ∃ places, DataW.whole enc Tryz.prog (({ World.holding Tryz.prog os ⟨#[], #[], []⟩ with heap := (World.holding Tryz.prog os ⟨#[], #[], []⟩).heap.modify 0 (layVar Rows.laid_cellar_source_words) |>.modify 1 (layVar Rows.laid_internal_strconv_uint64pow10) |>.modify 2 (layVar Rows.laid_math_bits_deBruijn32tab) |>.modify 3 (layVar Rows.laid_math_bits_deBruijn64tab) }).forCall (fun _ _ => 0) ⟨#[], #[.slice none 0 0], []⟩).memory Tryz.f4.params.toList Rows.installsSpec.vars false #[Value.slice none 0 0].toList 8 = some ([.nil], [], places) :=
  ⟨[], by kernel_rfl⟩

set_option maxRecDepth 100000 in
theorem lifted (os : Os) (started : os.Started) (H : Type) (enc : TypeId × Value → H) (F : Stop.Interp) :
    ReturnsInHanded {} Tryz.checked os 4 .any ((OpenSpec.ofChange Rows.installsSpec).preRow enc Tryz.prog Tryz.f4 Rows.installsRow.domain false Rows.installsRow.laid) (((OpenSpec.ofChange Rows.installsSpec).at F).post enc Tryz.prog Tryz.f4 false true false false) := by
  obtain ⟨places, hx⟩ := reads os enc
  refine returnsInHanded_of_row (C := Tryz.checked) (s := OpenSpec.ofChange Rows.installsSpec) own started (by kernel_rfl) Tryz.func4
    (witness_row_at (enc := enc) (C := Tryz.checked) false ({ World.holding Tryz.prog os ⟨#[], #[], []⟩ with heap := (World.holding Tryz.prog os ⟨#[], #[], []⟩).heap.modify 0 (layVar Rows.laid_cellar_source_words) |>.modify 1 (layVar Rows.laid_internal_strconv_uint64pow10) |>.modify 2 (layVar Rows.laid_math_bits_deBruijn32tab) |>.modify 3 (layVar Rows.laid_math_bits_deBruijn64tab) }) #[.slice none 0 0] rfl (by kernel_rfl) (by kernel_rfl) (by kernel_rfl)
      (OpenSpec.preRow_of_cond 8 hx (by kernel_rfl) (fun k hk => by cases hk) (by kernel_rfl) (laid_met os))) ?_
  intro W base args ds gs before hval hW _ _ hz hL _ _
  exact contract H enc W base args ds gs before hval hW hz hL

theorem said : Rows.InstallsSaid :=
  OpenClaim.holds_of_cond 4 Tryz.f4 rfl rfl rfl rfl rfl rfl rfl ⟨rfl, rfl, rfl, rfl, rfl⟩ rfl rfl rfl rfl rfl (by kernel_rfl) Tryz.func4 (by kernel_rfl)
    (of_decide_eq_true (by kernel_rfl)) (by unfold Func.isWrapper; first | (rw [if_pos (by decide +kernel)]; kernel_rfl) | (rw [if_neg (by decide +kernel)]; exact ⟨rfl, rfl⟩))
    (fun os started H enc _ F => by rw [OpenClaim.pre_eq_preRow]; exact lifted os started H enc F)

theorem plain (f : FuncId) (fn : Func) (hf : Tryz.pinned.checked.prog.funcNamed Rows.installsRow.func = some f) (hfn : Tryz.pinned.checked.prog.funcs[f]? = some fn) :
    false = Tryz.pinned.checked.prog.looks [] ∧ ∀ (j : Nat) t, fn.params[j]? = some t → Tryz.pinned.checked.prog.wantsStandIn t = false := by
  obtain rfl : f = 4 := Option.some.inj ((show Tryz.prog.funcNamed Rows.installsRow.func = some 4 by kernel_rfl).symm.trans hf) |>.symm
  obtain rfl : fn = Tryz.f4 := (Option.some.inj (Tryz.func4.symm.trans hfn)).symm
  refine ⟨by kernel_rfl, fun j t ht => ?_⟩
  rw [Tryz.params4] at ht
  obtain rfl : t = 22 := by simpa using Array.mem_of_getElem? ht
  exact (show Tryz.prog.wantsStandIn 22 = false by kernel_rfl)

/-- ████ THE CARD ████ -/
theorem card : Rows.InstallsCardSaid :=
  Claim7.holds_tied_plain_at .later [] _ _ _ _ said (fun _ h => by cases h) (by kernel_rfl) (fun _ h => by cases h) installs_row_tie rfl ⟨rfl, rfl⟩ (by kernel_rfl) rfl plain (by kernel_rfl)
end Go.Proofs.YtfphfhbgkfobcaaGreatDoor.Ind
namespace Go.Proofs.YtfphfhbgkfobcaaGreatDoor
theorem installs_card : Rows.InstallsCardSaid := Ind.card
end Go.Proofs.YtfphfhbgkfobcaaGreatDoor

end
