/-
  The walk of mark.
-/
import Derived.Test.YthehkgglblohfaaGreatDoorHoldP
import Derived.Test.YthehkgglblohfaaGreatDoorDec
namespace Go.Proofs.YthehkgglblohfaaGreatDoor
open Go.RowKit

/-- a number as letters. -/
def markR : Nat → Nat → List UInt8
  | 0, _ => []
  | f + 1, n => if n = 0 then [] else UInt8.ofNat (65 + n % 10) :: markR f (n / 10)
def markL (n : Nat) : List UInt8 := 77 :: markR 20 n
def mkP (i : Nat) : List Value := [T (markL i), T []]
theorem mkP_of {X : ByteArray} {q : Nat} (h : X.data.toList = markL q) : ([.string X, .string ⟨#[]⟩] : List Value) = mkP q := by
  unfold mkP
  rw [← h]; rfl

theorem conv_mark (w : World) (n : Nat) : (convert 118 9 (.slice (some ⟨w.heap.size, 0, none⟩) 1 1)).run Tryz.prog (w.alloc (.cells #[.int .u8 (65 + (n : Int) % 10)] 5)) =
    .ok (.string ⟨#[UInt8.ofNat (65 + n % 10)]⟩) (w.alloc (.cells #[.int .u8 (65 + (n : Int) % 10)] 5)) := by
  refine run_convert_bytes_back (P := Tryz.prog) _ 118 9 5 ⟨w.heap.size, 0, none⟩ 1 [UInt8.ofNat (65 + n % 10)] Tryz.underlying118 Tryz.underlying5 Tryz.underlying9 ?_
  intro j hj
  have : j = 0 := by simp at hj; omega
  subst this
  have e : ((UInt8.ofNat (65 + n % 10)).toNat : Int) = 65 + (n : Int) % 10 := by simp; omega
  simp [Addr.add]
  omega

def MkRel (q : Nat) (w : World) (x i : Value) (wr : World) : Prop :=
  ∃ (f n : Nat) (u : ByteArray), i = .int .i64 n ∧ x = .string u ∧ n < 10 ^ f ∧ f ≤ 20 ∧ u.size + f ≤ 21 ∧ u.data.toList ++ markR f n = markL q ∧ Below w.heap.size w wr ∧ n ≤ 9000000000000

set_option maxHeartbeats 1000000 in
set_option maxRecDepth 100000 in
theorem mark_any (q : Nat) (hq : q ≤ 9000000000000) (w : World) :
    Calls Tryz.prog 19 #[.int .i64 q] w fun e w' => ∃ X : ByteArray, e = .returned (.string X) ∧ X.data.toList = markL q ∧ X.size ≤ 21 ∧ Below w.heap.size w w' := by
  have hs : MkRel q w (.string ⟨#[77]⟩) (.int .i64 q) w := ⟨20, q, ⟨#[77]⟩, rfl, rfl, by omega, by omega, by show 1 + 20 ≤ 21; omega, rfl, Below.refl _ _, hq⟩
  have HS := hide hs
  clear hs
  go_enter Tryz.func19, Tryz.ntmps19
  go_wp2
  go_loopw [0, 3] (fun i x wr => MkRel q w x i wr) (fun i _ _ => (intOf i).toNat)
  case atStart => exact HS.out
  case round =>
    obtain ⟨f, n, u, rfl, rfl, hn, hf, hu, hl, hb, hn9⟩ := hrel
    have HL := hide hl
    have HB := hide hb
    have HN := hide hn
    clear hl hb hn HS
    by_cases h0 : n = 0
    · have t1 : decide (0 < n) = false := decide_eq_false (by omega)
      have HE : Hid (u.data.toList = markL q) := by
        show _ = _
        rw [← HL.out]
        cases f with
        | zero => simp [markR]
        | succ f => simp [markR, h0]
      clear h0
      go_wp2
      go_ret
      exact ⟨u, rfl, HE.out, by omega, HB.out⟩
    · have t1 : decide (0 < n) = true := decide_eq_true (by omega)
      have hrun := conv_mark wr n
      obtain ⟨c, hc⟩ : ∃ c, c = UInt8.ofNat (65 + n % 10) := ⟨_, rfl⟩
      rw [← hc] at hrun
      have HR2 : Hid (MkRel q w (.string (u ++ ⟨#[c]⟩)) (.int .i64 ((n : Int) / 10)) (wr.alloc (.cells #[.int .u8 (65 + (n : Int) % 10)] 5))) := by
        have hf1 : f ≠ 0 := by
          intro e
          have := HN.out
          rw [e] at this; simp at this; omega
        obtain ⟨f', rfl⟩ : ∃ f', f = f' + 1 := ⟨f - 1, by omega⟩
        refine ⟨f', n / 10, _, by go_num, rfl, ?_, by omega, ?_, ?_, HB.out.alloc HB.out.size _, by omega⟩
        · have := HN.out
          rw [Nat.pow_succ] at this; omega
        · simp only [ByteArray.size_append, one_size]; omega
        · rw [← HL.out, app_list, markR, if_neg h0, hc]
          simp
      clear hc
      go_wp2
      go_roundw
      case rel => exact HR2.out
      case measure => simp [intOf]; omega
end Go.Proofs.YthehkgglblohfaaGreatDoor
