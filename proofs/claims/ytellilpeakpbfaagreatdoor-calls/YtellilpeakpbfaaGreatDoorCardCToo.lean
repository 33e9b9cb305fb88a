import Derived.Test.YtellilpeakpbfaaGreatDoorCardWToo
import Derived.Test.YtellilpeakpbfaaGreatDoorShelfToo
import Derived.Test.YtellilpeakpbfaaGreatDoorCards
import Derived.Test.YtellilpeakpbfaaGreatDoorTie
import Derived.Test.YtellilpeakpbfaaGreatDoorCardRToo
import Derived.ProofKit
import Derived.OpenShut
import Derived.Deep.DeepHandedRow
import Derived.Lib.LaidTab
import Derived.SizedLaws
section
/-
  From the listed powers of ten to what the walks ask.
-/
namespace Go.Proofs.YtellilpeakpbfaaGreatDoor.Ckd
open Go.ChangeShapes Go.WideShapes Go.ChangeAt Go.RowKit

theorem gPowType : (Tryz.prog.globals[1]?).map (·.type) = some 237 := by kernel_rfl
theorem cellsPow : Tryz.prog.cellsOf 237 = 20 := by kernel_rfl
theorem cellsU64 : Tryz.prog.cellsOf 227 = 1 := by kernel_rfl
theorem powData : (Rows.laid_internal_strconv_uint64pow10 : DataW Unit) = Lib.tabData .u64 Lib.pow10Tab := by kernel_rfl
theorem pow_of {W : World} {rest : List (String × DataW Unit)} {ps : List MemPlace} (h : DataW.LaidVars Tryz.prog W ((Rows.keepsRow.named.getD 1 "", Rows.laid_internal_strconv_uint64pow10) :: rest) ps) : PowAt W := by
  obtain ⟨g', t', cs, fuel, p, q, hg', ht', hvar, hd, _, _⟩ := h
  obtain rfl := Option.some.inj (gPow.symm.trans hg')
  obtain rfl := Option.some.inj (gPowType.symm.trans ht')
  rw [powData] at hd
  have hcs := Lib.cells_of_tab Tryz.underlying237 Tryz.underlying227 cellsU64 cellsPow hd
  have htab : Lib.TabIs Tryz.prog W (Rows.keepsRow.named.getD 1 "") .u64 Lib.pow10Tab := by
    unfold Lib.TabIs
    rw [hvar, ← hcs]
  exact ⟨World.block_lt_of_cell? W ⟨1, 0, none⟩ (htab.cell gPow 0 (by rw [Lib.pow10Tab_length]; omega)), htab⟩
end Go.Proofs.YtellilpeakpbfaaGreatDoor.Ckd

end

section
/-
  The row of the law Calls, and its tied card.
-/
namespace Go.Proofs.YtellilpeakpbfaaGreatDoor.Cld
open Go.ChangeShapes Go.WideShapes Go.ChangeAt Go.RowKit
open Go.ChangeMaps (open_string shut_string)
open Ckd (words_of pow_of layVar own)

theorem laidOut : laidOutB Tryz.prog = true := by kernel_rfl

set_option maxRecDepth 100000 in
theorem contract (H : Type) (enc : TypeId × Value → H) (W : World) (base : Nat) (args : Array Value) (ds gs : List (DataW H)) (before : List MemPlace)
    (hval : ∀ (j : Nat) t v, Tryz.f6.params[j]? = some t → args[j]? = some v → Value.okWide Tryz.prog W .any base t v)
    (hW : DataW.Whole enc Tryz.prog Tryz.f6.params.toList Rows.callsSpec.vars false W args.toList ds gs before) (hz : (DataW.weightsEach Tryz.prog (Tryz.f6.params.toList ++ (OpenSpec.ofChange Rows.callsSpec).bare.plain.varTypes Tryz.prog) (ds ++ gs)).all (· ≤ reachBytes) = true) (hL : laidMetH Tryz.prog Rows.callsRow.laid W) :
    Calls Tryz.prog 6 args W fun e W' => ∃ v, e = .returned v ∧ Rows.callsSpec.post enc Tryz.prog Tryz.f6 false true false false W args v W' := by
  have hW' := hW
  obtain ⟨p, q, hA0, hV, rfl, hfz, hnd⟩ := hW
  have hA : DataW.TrodAll enc Tryz.prog W 0 (fun _ => true) true Tryz.f6.params.toList args.toList ds p := hA0
  rw [Tryz.params6] at hA hval hz
  obtain ⟨v0, vs0, d0, ds0, p0, q0, hargs, rfl, rfl, h0, r0⟩ := trodAll_cons hA
  obtain ⟨rfl, rfl, rfl⟩ := trodAll_nil r0
  obtain rfl : args = #[v0] := Array.toList_inj.1 (by rw [hargs])
  obtain ⟨rfl, rfl⟩ := trodVars_none hV
  obtain ⟨a0, len0, cap0, rfl⟩ := okWide_slice Tryz.underlying22 (hval 0 22 v0 rfl rfl)
  obtain ⟨fuel, h0'⟩ := h0
  obtain ⟨ao, cap, ops, hv0, hscr, hbd, hor⟩ := Scd.scr_of2 (v := .slice a0 len0 cap0) h0'
  rw [hv0] at hW' h0' ⊢
  have hn : ops.length ≤ 1299999999999 := by
    rcases hor with rfl | ⟨el, sp, hd, he⟩
    · simp
    · have hd' : d0 = .slice el sp := hd
      subst hd'
      have := sized_slice hz (j := 0) (t := 22) rfl rfl Tryz.underlying22
      rw [Scd.bytesOp] at this
      simp only [reachBytes] at this
      omega
  have hbd2 : ∀ o ∈ ops, (-9223372036854775808 ≤ o.m ∧ o.m ≤ 9223372036854775807) ∧ ∃ l, ArgsAt W.heap.size W (.slice o.lo o.ln o.lc) l := by
    intro o ho
    obtain ⟨-, b, -, ⟨l, hl⟩, -⟩ := hbd o ho
    refine ⟨b, l, hl.ints, hl.low, ?_, hl.nums⟩
    rcases hl.size with rfl | ⟨n, hn, hs⟩
    · simp
    · have h9 : n ≤ reachBytes := of_decide_eq_true (List.all_eq_true.1 hz n (DataW.weights_mem_each (j := 0) (t := 22) (d := d0) rfl rfl n hn))
      simp only [reachBytes] at h9
      omega
  clear hA0
  simp only [List.append_nil] at hW'
  have hlt : ∀ x ∈ p0, x.block < W.heap.size := fun x hx => by simpa using hW'.lt x (by simpa using hx)
  obtain ⟨ps, hl, _⟩ := hL
  obtain ⟨_, _, _, _, _, q0, _, _, _, _, hl, _⟩ := hl
  obtain ⟨_, _, _, _, _, q1, _, _, _, _, hl, _⟩ := hl
  have hP := pow_of hl
  obtain ⟨_, _, _, _, _, q2, _, _, _, _, hl, _⟩ := hl
  refine (calls_any W ao cap ops hscr hP (words_of hl) hn hbd2).mono fun e W' ⟨he, hb⟩ => ?_
  subst he
  refine ⟨_, rfl, _, _, _, [], p0 ++ [], [], hW', ?_, ?_, rfl, hb.frame _, fun h => by cases h⟩
  · exact trodAll_cons_mk (shut_bool Tryz.underlying4 _) trodAll_mk0
  · exact trodAll_cons_mk (Below.trod laidOut (by kernel_rfl) (of_decide_eq_true (by kernel_rfl)) ⟨fuel, h0'⟩ hb hlt) trodAll_mk0

theorem laid_met (os : Os) : laidMet Tryz.prog Rows.callsRow.laid (({ World.holding Tryz.prog os ⟨#[], #[], []⟩ with heap := (World.holding Tryz.prog os ⟨#[], #[], []⟩).heap.modify 0 (layVar Rows.laid_cellar_source_words) |>.modify 1 (layVar Rows.laid_internal_strconv_uint64pow10) |>.modify 2 (layVar Rows.laid_math_bits_deBruijn32tab) |>.modify 3 (layVar Rows.laid_math_bits_deBruijn64tab) }).forCall (fun _ _ => 0) ⟨#[], #[.slice none 0 0], []⟩).memory :=
  laidMet_of_run' 8 (by kernel_rfl) (by kernel_rfl)
theorem reads (os : Os) {H : Type} (enc : TypeId × Value → H) : ∃ places, DataW.whole enc Tryz.prog (({ World.holding Tryz.prog os ⟨#[], #[], []⟩ with heap := (World.holding Tryz.prog os ⟨#[], #[], []⟩).heap.modify 0 (layVar Rows.laid_cellar_source_words) |>.modify 1 (layVar Rows.laid_internal_strconv_uint64pow10) |>.modify 2 (layVar Rows.laid_math_bits_deBruijn32tab) |>.modify 3 (layVar Rows.laid_math_bits_deBruijn64tab) }).forCall (fun _ _ => 0) ⟨#[], #[.slice none 0 0], []⟩).memory Tryz.f6.params.toList Rows.callsSpec.vars false #[Value.slice none 0 0].toList 8 = some ([.nil], [], places) :=
  ⟨[], by kernel_rfl⟩

set_option maxRecDepth 100000 in
theorem lifted (os : Os) (started : os.Started) (H : Type) (enc : TypeId × Value → H) (F : Stop.Interp) :
    ReturnsInHanded {} Tryz.checked os 6 .any ((OpenSpec.ofChange Rows.callsSpec).preRow enc Tryz.prog Tryz.f6 Rows.callsRow.domain false Rows.callsRow.laid) (((OpenSpec.ofChange Rows.callsSpec).at F).post enc Tryz.prog Tryz.f6 false true false false) := by
  obtain ⟨places, hx⟩ := reads os enc
  refine returnsInHanded_of_row (C := Tryz.checked) (s := OpenSpec.ofChange Rows.callsSpec) own started (by kernel_rfl) Tryz.func6
    (witness_row_at (enc := enc) (C := Tryz.checked) false ({ World.holding Tryz.prog os ⟨#[], #[], []⟩ with heap := (World.holding Tryz.prog os ⟨#[], #[], []⟩).heap.modify 0 (layVar Rows.laid_cellar_source_words) |>.modify 1 (layVar Rows.laid_internal_strconv_uint64pow10) |>.modify 2 (layVar Rows.laid_math_bits_deBruijn32tab) |>.modify 3 (layVar Rows.laid_math_bits_deBruijn64tab) }) #[.slice none 0 0] rfl (by kernel_rfl) (by kernel_rfl) (by kernel_rfl)
      (OpenSpec.preRow_of_cond 8 hx (by kernel_rfl) (fun k hk => by cases hk) (by kernel_rfl) (laid_met os))) ?_
  intro W base args ds gs before hval hW _ _ hz hL _ _
  exact contract H enc W base args ds gs before hval hW hz hL

theorem said : Rows.CallsSaid :=
  OpenClaim.holds_of_cond 6 Tryz.f6 rfl rfl rfl rfl rfl rfl rfl ⟨rfl, rfl, rfl, rfl, rfl⟩ rfl rfl rfl rfl rfl (by kernel_rfl) Tryz.func6 (by kernel_rfl)
    (of_decide_eq_true (by kernel_rfl)) (by unfold Func.isWrapper; first | (rw [if_pos (by decide +kernel)]; kernel_rfl) | (rw [if_neg (by decide +kernel)]; exact ⟨rfl, rfl⟩))
    (fun os started H enc _ F => by rw [OpenClaim.pre_eq_preRow]; exact lifted os started H enc F)

theorem plain (f : FuncId) (fn : Func) (hf : Tryz.pinned.checked.prog.funcNamed Rows.callsRow.func = some f) (hfn : Tryz.pinned.checked.prog.funcs[f]? = some fn) :
    false = Tryz.pinned.checked.prog.looks [] ∧ ∀ (j : Nat) t, fn.params[j]? = some t → Tryz.pinned.checked.prog.wantsStandIn t = false := by
  obtain rfl : f = 6 := Option.some.inj ((show Tryz.prog.funcNamed Rows.callsRow.func = some 6 by kernel_rfl).symm.trans hf) |>.symm
  obtain rfl : fn = Tryz.f6 := (Option.some.inj (Tryz.func6.symm.trans hfn)).symm
  refine ⟨by kernel_rfl, fun j t ht => ?_⟩
  rw [Tryz.params6] at ht
  obtain rfl : t = 22 := by simpa using Array.mem_of_getElem? ht
  exact (show Tryz.prog.wantsStandIn 22 = false by kernel_rfl)

/-- ████ THE CARD ████ -/
theorem card : Rows.CallsCardSaid :=
  Claim7.holds_tied_plain_at .later [] _ _ _ _ said (fun _ h => by cases h) (by kernel_rfl) (fun _ h => by cases h) calls_row_tie rfl ⟨rfl, rfl⟩ (by kernel_rfl) rfl plain (by kernel_rfl)
end Go.Proofs.YtellilpeakpbfaaGreatDoor.Cld
namespace Go.Proofs.YtellilpeakpbfaaGreatDoor
theorem calls_card : Rows.CallsCardSaid := Cld.card
end Go.Proofs.YtellilpeakpbfaaGreatDoor

end
