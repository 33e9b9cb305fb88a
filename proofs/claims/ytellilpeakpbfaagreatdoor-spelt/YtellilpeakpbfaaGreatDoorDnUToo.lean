import Derived.Test.YtellilpeakpbfaaGreatDoorKpPToo
import Derived.Test.YtellilpeakpbfaaGreatDoorKeepPToo
import Derived.Test.YtellilpeakpbfaaGreatDoorRnToo
import Derived.Deep.DeepCutAuto
import Derived.Test.YtellilpeakpbfaaGreatDoorDecToo
import Derived.Test.YtellilpeakpbfaaGreatDoorDnTToo
section
/-
  The walks of pick, bent, key, value, name, decimal.
-/
namespace Go.Proofs.YtellilpeakpbfaaGreatDoor
open Go.RowKit

set_option maxHeartbeats 1000000 in
set_option maxRecDepth 100000 in
theorem kpick_any (c : Int) (n : Nat) (h0 : 0 < n) (h1 : n ≤ 100000) (c0 : -9223372036854775808 ≤ c) (c1 : c ≤ 9223372036854775807) (w : World) :
    Calls Tryz.prog 36 #[.int .i64 c, .int .i64 n] w fun e w' => e = .returned (.int .i64 (Kp.pick c n)) ∧ w' = w := by
  obtain ⟨r, hr⟩ : ∃ r, r = Kp.pick c n := ⟨_, rfl⟩
  rw [← hr]
  by_cases hc : c < 0
  · obtain ⟨k, hk⟩ : ∃ k : Nat, (k : Int) = -(c + 1) := ⟨(-(c + 1)).toNat, by omega⟩
    obtain rfl : c = -(k : Int) - 1 := by omega
    have t1 : decide (-(k : Int) - 1 < 0) = true := decide_eq_true hc
    have hr2 : r = (k : Int) % n := by rw [hr]; unfold Kp.pick Kp.raw; rw [if_pos hc]; congr 1; omega
    clear hr hk hc
    go_enter Tryz.func36, Tryz.ntmps36
    go_wp2
    go_ret
    exact ⟨by rw [hr2]; rfl, rfl⟩
  · obtain ⟨k, rfl⟩ : ∃ k : Nat, c = (k : Int) := ⟨c.toNat, by omega⟩
    have t1 : decide ((k : Int) < 0) = false := decide_eq_false hc
    have hr2 : r = (k : Int) % n := by rw [hr]; unfold Kp.pick Kp.raw; rw [if_neg hc]
    clear hr hc
    go_enter Tryz.func36, Tryz.ntmps36
    go_wp2
    go_ret
    exact ⟨by rw [hr2]; rfl, rfl⟩

set_option maxHeartbeats 1000000 in
set_option maxRecDepth 100000 in
theorem kbent_any (c lo hi : Int) (m : Nat) (hm : hi - lo + 1 = (m : Int)) (m0 : 0 < m) (m1 : m ≤ 4000000000) (l0 : -2000000000 ≤ lo) (l1 : lo ≤ 2000000000) (c0 : -9223372036854775808 ≤ c) (c1 : c ≤ 9223372036854775807) (w : World) :
    Calls Tryz.prog 28 #[.int .i64 c, .int .i64 lo, .int .i64 hi] w fun e w' => e = .returned (.int .i64 (Kp.bent c lo hi)) ∧ w' = w := by
  obtain ⟨r, hr⟩ : ∃ r, r = Kp.bent c lo hi := ⟨_, rfl⟩
  rw [← hr]
  unfold Kp.bent at hr
  have h2 : -2000000000 ≤ hi := by omega
  have h3 : hi ≤ 6000000000 := by omega
  by_cases hc : lo ≤ c ∧ c ≤ hi
  · have t1 : decide (lo ≤ c) = true := decide_eq_true hc.1
    have t2 : decide (c ≤ hi) = true := decide_eq_true hc.2
    rw [if_pos hc] at hr
    subst hr
    clear hc hm
    go_enter Tryz.func28, Tryz.ntmps28
    go_wp2
    go_ret
    exact ⟨rfl, rfl⟩
  · rw [if_neg hc, hm] at hr
    have hand : (decide (lo ≤ c) && decide (c ≤ hi)) = false := by
      rw [← Bool.decide_and]; exact decide_eq_false hc
    clear hc
    by_cases hn : c < 0
    · obtain ⟨k, hk⟩ : ∃ k : Nat, (k : Int) = -(c + 1) := ⟨(-(c + 1)).toNat, by omega⟩
      obtain rfl : c = -(k : Int) - 1 := by omega
      have t1 : decide (-(k : Int) - 1 < 0) = true := decide_eq_true hn
      have hr2 : r = lo + (k : Int) % m := by rw [hr]; unfold Kp.raw; rw [if_pos hn]; congr 2; omega
      have e0 : 0 ≤ (k : Int) % m := Int.emod_nonneg _ (by omega)
      have e1 : (k : Int) % m < 4000000000 := by have := Int.emod_lt_of_pos (k : Int) (b := (m : Int)) (by omega); omega
      have HR := hide hr2
      clear hr hk hr2
      cases ha : decide (lo ≤ -(k : Int) - 1) with
      | true =>
        rw [ha, Bool.true_and] at hand
        clear hn
        go_enter Tryz.func28, Tryz.ntmps28
        go_wp2
        go_ret
        exact ⟨by rw [HR.out]; rfl, rfl⟩
      | false =>
        clear hand hn
        go_enter Tryz.func28, Tryz.ntmps28
        go_wp2
        go_ret
        exact ⟨by rw [HR.out]; rfl, rfl⟩
    · obtain ⟨k, rfl⟩ : ∃ k : Nat, c = (k : Int) := ⟨c.toNat, by omega⟩
      have t1 : decide ((k : Int) < 0) = false := decide_eq_false hn
      have hr2 : r = lo + (k : Int) % m := by rw [hr]; unfold Kp.raw; rw [if_neg hn]
      have e0 : 0 ≤ (k : Int) % m := Int.emod_nonneg _ (by omega)
      have e1 : (k : Int) % m < 4000000000 := by have := Int.emod_lt_of_pos (k : Int) (b := (m : Int)) (by omega); omega
      have HR := hide hr2
      clear hr hr2
      cases ha : decide (lo ≤ (k : Int)) with
      | true =>
        rw [ha, Bool.true_and] at hand
        clear hn
        go_enter Tryz.func28, Tryz.ntmps28
        go_wp2
        go_ret
        exact ⟨by rw [HR.out]; rfl, rfl⟩
      | false =>
        clear hand hn
        go_enter Tryz.func28, Tryz.ntmps28
        go_wp2
        go_ret
        exact ⟨by rw [HR.out]; rfl, rfl⟩

set_option maxHeartbeats 1000000 in
theorem kkey_any (c : Int) (c0 : -9223372036854775808 ≤ c) (c1 : c ≤ 9223372036854775807) (w : World) :
    Calls Tryz.prog 30 #[.int .i64 c] w fun e w' => e = .returned (.int .i64 (Kp.key c)) ∧ w' = w := by
  have HB := hide (kbent_any c 0 99 100 (by decide) (by decide) (by decide) (by decide) (by decide) c0 c1 w)
  obtain ⟨r, hr⟩ : ∃ r, r = Kp.bent c 0 99 := ⟨_, rfl⟩
  unfold Kp.key
  rw [← hr] at HB ⊢
  clear hr
  go_enter Tryz.func30, Tryz.ntmps30
  go_wp2_with fail
  refine HB.out.mono ?_
  rintro e w1 ⟨rfl, rfl⟩
  go_wp2_with fail
  go_ret
  exact ⟨rfl, rfl⟩
set_option maxHeartbeats 1000000 in
theorem kvalue_any (c : Int) (c0 : -9223372036854775808 ≤ c) (c1 : c ≤ 9223372036854775807) (w : World) :
    Calls Tryz.prog 31 #[.int .i64 c] w fun e w' => e = .returned (.int .i64 (Kp.value c)) ∧ w' = w := by
  have HB := hide (kbent_any c (-1000000000) 1000000000 2000000001 (by decide) (by decide) (by decide) (by decide) (by decide) c0 c1 w)
  obtain ⟨r, hr⟩ : ∃ r, r = Kp.bent c (-1000000000) 1000000000 := ⟨_, rfl⟩
  unfold Kp.value
  rw [← hr] at HB ⊢
  clear hr
  go_enter Tryz.func31, Tryz.ntmps31
  go_wp2_with fail
  refine HB.out.mono ?_
  rintro e w1 ⟨rfl, rfl⟩
  go_wp2_with fail
  go_ret
  exact ⟨rfl, rfl⟩

theorem conv_dig (w : World) (n : Nat) : (convert 140 9 (.slice (some ⟨w.heap.size, 0, none⟩) 1 1)).run Tryz.prog (w.alloc (.cells #[.int .u8 (48 + (n : Int) % 10)] 5)) =
    .ok (.string ⟨#[UInt8.ofNat (48 + n % 10)]⟩) (w.alloc (.cells #[.int .u8 (48 + (n : Int) % 10)] 5)) := by
  refine run_convert_bytes_back (P := Tryz.prog) _ 140 9 5 ⟨w.heap.size, 0, none⟩ 1 [UInt8.ofNat (48 + n % 10)] Tryz.underlying140 Tryz.underlying5 Tryz.underlying9 ?_
  intro j hj
  have : j = 0 := by simp at hj; omega
  subst this
  have e : ((UInt8.ofNat (48 + n % 10)).toNat : Int) = 48 + (n : Int) % 10 := by simp; omega
  simp [Addr.add]
  omega

def DcRel (q : Nat) (w : World) (x i : Value) (wr : World) : Prop :=
  ∃ (n : Nat) (u : ByteArray), i = .int .i64 n ∧ x = .string u ∧ Lib.decDigits q = Lib.decDigits n ++ u.data.toList ∧ Below w.heap.size w wr ∧ n ≤ 999999 ∧ u.size ≤ 6

set_option maxHeartbeats 1000000 in
set_option maxRecDepth 100000 in
theorem kdecimal_any (q : Nat) (hq : q ≤ 999999) (w : World) :
    Calls Tryz.prog 46 #[.int .i64 q] w fun e w' => ∃ X : ByteArray, e = .returned (.string X) ∧ X.data.toList = Lib.decDigits q ∧ X.size ≤ 6 ∧ Below w.heap.size w w' := by
  have hs : DcRel q w (.string ⟨#[]⟩) (.int .i64 q) w := ⟨q, ⟨#[]⟩, rfl, rfl, by simp, Below.refl _ _, hq, Nat.zero_le _⟩
  have HS := hide hs
  have hql := Ck.dec_len q (by omega)
  have HQL := hide hql
  clear hs hql
  go_enter Tryz.func46, Tryz.ntmps46
  go_wp2
  go_loopw [0, 3] (fun i x wr => DcRel q w x i wr) (fun i _ _ => (intOf i).toNat)
  case atStart => exact HS.out
  case round =>
    obtain ⟨n, u, rfl, rfl, hl, hb, hn, hu⟩ := hrel
    have HL := hide hl
    have HB := hide hb
    clear hl hb HS
    have hrun := conv_dig wr n
    obtain ⟨c, hc⟩ : ∃ c, c = UInt8.ofNat (48 + n % 10) := ⟨_, rfl⟩
    rw [← hc] at hrun
    have hone : (⟨#[c]⟩ : ByteArray).size = 1 := rfl
    by_cases h0 : n ≤ 9
    · have t1 : decide (9 < (n : Int)) = false := decide_eq_false (by omega)
      have HE : Hid (((⟨#[c]⟩ : ByteArray) ++ u).data.toList = Lib.decDigits q) := by
        show _ = _
        rw [app_list, HL.out, hc]
        conv => rhs; rw [Lib.decDigits, dif_pos (by omega)]
        rw [Nat.mod_eq_of_lt (by omega)]
      clear h0 hc
      go_wp2
      go_ret
      refine ⟨_, rfl, HE.out, ?_, HB.out.alloc HB.out.size _⟩
      have := HQL.out
      rw [size_list, HE.out]; exact this
    · have t1 : decide (9 < (n : Int)) = true := decide_eq_true (by omega)
      have HR2 : Hid (DcRel q w (.string ((⟨#[c]⟩ : ByteArray) ++ u)) (.int .i64 ((n : Int) / 10)) (wr.alloc (.cells #[.int .u8 (48 + (n : Int) % 10)] 5))) := by
        have hl2 : Lib.decDigits q = Lib.decDigits (n / 10) ++ ((⟨#[c]⟩ : ByteArray) ++ u).data.toList := by
          rw [app_list, HL.out, hc]
          conv => lhs; rw [Lib.decDigits, dif_neg (by omega)]
          simp
        refine ⟨n / 10, _, by go_num, rfl, hl2, HB.out.alloc HB.out.size _, by omega, ?_⟩
        have h6 := HQL.out
        rw [hl2, List.length_append, ← size_list] at h6
        omega
      clear hc
      go_wp2
      go_roundw
      case rel => exact HR2.out
      case measure => simp [intOf]; omega

set_option maxHeartbeats 1000000 in
set_option maxRecDepth 100000 in
theorem kname_any (c : Int) (c0 : -9223372036854775808 ≤ c) (c1 : c ≤ 9223372036854775807) (w : World) :
    Calls Tryz.prog 45 #[.int .i64 c] w fun e w' => ∃ X : ByteArray, e = .returned (.string X) ∧ X.data.toList = Kp.name c ∧ X.size = 1 ∧ w' = w := by
  have HP := hide (kpick_any c 10 (by decide) (by decide) c0 c1 w)
  have hb := Kp.pick_bd c 10 (by decide)
  obtain ⟨k, hk⟩ : ∃ k : Nat, Kp.pick c 10 = (k : Int) := ⟨(Kp.pick c 10).toNat, by omega⟩
  have hk9 : k ≤ 9 := by omega
  have hn : Kp.name c = [UInt8.ofNat (97 + k)] := by unfold Kp.name; rw [hk]; rfl
  have HP2 : Hid (Calls Tryz.prog 36 #[.int .i64 c, .int .i64 10] w fun e w' => e = .returned (.int .i64 (k : Int)) ∧ w' = w) := by rw [← hk]; exact HP.out
  have HN := hide hn
  clear HP hb hk hn
  go_enter Tryz.func45, Tryz.ntmps45
  go_wp2_with fail
  refine HP2.out.mono ?_
  rintro e w1 ⟨rfl, rfl⟩
  go_wp2_with fail
  go_ret
  have h1 : ∀ k : Fin 10, ((⟨#[97, 98, 99, 100, 101, 102, 103, 104, 105, 106]⟩ : ByteArray).extract k.val (k.val + 1)).data.toList = [UInt8.ofNat (97 + k.val)] := by decide
  have h2 := h1 ⟨k, by omega⟩
  refine ⟨_, rfl, by rw [HN.out]; exact h2, ?_, rfl⟩
  rw [size_list]
  show (ByteArray.data _).toList.length = 1
  rw [h2]
  rfl
end Go.Proofs.YtellilpeakpbfaaGreatDoor

end

section
/-
  The walks of small and rests.
-/
namespace Go.Proofs.YtellilpeakpbfaaGreatDoor
open Go.RowKit

/-- the room that contents may take. -/
def roomP : List (List UInt8 × List UInt8) → Nat
  | [] => 0
  | p :: r => 64 + 2 * p.2.length + roomP r
theorem roomP_app (a b : List (List UInt8 × List UInt8)) : roomP (a ++ b) = roomP a + roomP b := by
  induction a with
  | nil => simp [roomP]
  | cons p r ih => simp only [List.cons_append, roomP, ih]; omega
def room (C : Jn.Con) : Nat := 64 + 32 * C.list.length + roomP C.procs
theorem roomP_take (l : List (List UInt8 × List UInt8)) (k : Nat) (p : List UInt8 × List UInt8) (h : l[k]? = some p) : roomP (l.take (k + 1)) = roomP (l.take k) + (64 + 2 * p.2.length) := by
  have hk := (List.getElem?_eq_some_iff.1 h).1
  have e := (List.getElem?_eq_some_iff.1 h).2
  rw [List.take_succ_eq_append_getElem hk, e, roomP_app]
  simp [roomP]
theorem roomP_le (l : List (List UInt8 × List UInt8)) (h : ∀ p ∈ l, p.2.length ≤ 1000) : roomP l ≤ 2064 * l.length := by
  induction l with
  | nil => simp [roomP]
  | cons p r ih =>
    have h1 := h p (by simp)
    have h2 := ih (fun q hq => h q (by simp [hq]))
    simp only [roomP, List.length_cons]
    omega

theorem cellsE_len (l : List (Int × Int)) (h : ∀ p ∈ l, (0 ≤ p.1 ∧ p.1 ≤ 99) ∧ -1000000000 ≤ p.2 ∧ p.2 ≤ 1000000000) : (Jn.cellsE l).length ≤ 25 * l.length := by
  induction l with
  | nil => simp [Jn.cellsE]
  | cons p r ih =>
    obtain ⟨⟨b1, b2⟩, b3, b4⟩ := h p (by simp)
    have h1 := itoa_len p.1 (by omega) (by omega)
    have h2 := itoa_len p.2 b3 b4
    have h3 := ih (fun q hq => h q (by simp [hq]))
    have e : (Jn.cellsE (p :: r)).length = (Jn.putE p.1 p.2).length + (Jn.cellsE r).length := by simp [Jn.cellsE]
    have e2 : (Jn.putE p.1 p.2).length = (Lib.itoa p.1).length + (Lib.itoa p.2).length + 3 := by simp [Jn.putE]; omega
    rw [e, e2, List.length_cons]
    omega
theorem procsE_len (l : List (List UInt8 × List UInt8)) (h : ∀ p ∈ l, p.1.length ≤ 8) : (Jn.procsE l).length ≤ roomP l := by
  induction l with
  | nil => simp [Jn.procsE, roomP]
  | cons p r ih =>
    have h1 := h p (by simp)
    have h3 := ih (fun q hq => h q (by simp [hq]))
    have e : (Jn.procsE (p :: r)).length = (Jn.installE p.1 p.2).length + (Jn.procsE r).length := by simp [Jn.procsE]
    have e2 : (Jn.installE p.1 p.2).length = p.1.length + p.2.length + 3 := by simp [Jn.installE]; omega
    rw [e, e2, roomP]
    omega
/-- P12: what is written anew fits. -/
theorem all_room {C : Jn.Con} (h : Jn.Ok C) : (Jn.all C).length ≤ room C ∧ room C ≤ 30000 := by
  have h1 := cellsE_len C.list (list_bd C.cells h.val 0 (by have := h.len; omega))
  have h2 := procsE_len C.procs (fun p hp => name_len _ (h.prc p hp).1)
  have h3 := roomP_le C.procs (fun p hp => (proc_bd h p hp).2)
  have h4 : C.list.length ≤ 100 := Nat.le_trans (list_len _ _) (Nat.le_of_eq h.len)
  have h5 := h.cnt
  unfold room
  simp only [Jn.all, Jn.record, List.length_append, List.length_cons, List.length_nil]
  omega

def SmRel (l : List (List UInt8 × List UInt8)) (n0 : Nat) (n i : Value) : Prop := ∃ k : Nat, k ≤ l.length ∧ i = .int .i64 k ∧ n = .int .i64 ((n0 + roomP (l.take k) : Nat) : Int)

set_option maxHeartbeats 2000000 in
set_option maxRecDepth 100000 in
theorem small_any (W D : Nat) (w : World) (vx vp vc vq va s1 s2 : Value) (a b : ByteArray) (la lb : Int) (C : Jn.Con) (hW : WAt w W vx (.pointer (some ⟨D, 0, none⟩)) vp vc vq va) (hD : DAt w D a b la lb)
    (h1 : CRow w 0 s1 C.list) (h2 : PRow w 0 s2 C.procs) (hok : Jn.Ok C) (hs : a.size + b.size ≤ room C) :
    Calls Tryz.prog 105 #[.pointer (some ⟨W, 0, none⟩), .agg #[s1, s2]] w fun e w' => e = .returned (.bool true) ∧ Below w.heap.size w w' := by
  obtain ⟨o1, k1, rfl⟩ := crow_slice h1
  obtain ⟨o2, k2, rfl, hcs⟩ := h2.shape
  obtain ⟨-, c1, -, -, -, -⟩ := hW.cell
  have hcn := hok.cnt
  have hl1 : C.list.length ≤ 100 := Nat.le_trans (list_len _ _) (Nat.le_of_eq hok.len)
  have hpb := fun p hp => (proc_bd hok p hp).2
  have hr3 := (all_room hok).2
  unfold room at hs hr3
  obtain ⟨w1, hw1⟩ : ∃ w1, w1 = w.alloc (.cells #[.slice o1 C.list.length k1, .slice o2 C.procs.length k2] 128) := ⟨_, rfl⟩
  obtain ⟨B0, hB0⟩ : ∃ B0, B0 = w.heap.size := ⟨_, rfl⟩
  have hB1 : Below w.heap.size w w1 := by rw [hw1]; exact (Below.refl _ _).alloc (Nat.le_refl _) _
  have hbo : w1.heap[B0]? = some (.cells #[.slice o1 C.list.length k1, .slice o2 C.procs.length k2] 128 (0, 0)) := by rw [hw1, hB0]; exact heap_alloc_new w _
  have q0 : w1.cell? ⟨B0, 0, none⟩ = some (.slice o1 C.list.length k1) := (cell_of_row w1 B0 0 _ _ _ hbo).trans rfl
  have q1 : w1.cell? ⟨B0, 1, none⟩ = some (.slice o2 C.procs.length k2) := (cell_of_row w1 B0 1 _ _ _ hbo).trans rfl
  have hD1 : DAt w1 D a b la lb := hD.fr (Fr.of (L := 0) (T := []) (X := none) hB1 (Nat.zero_le _)) (by simp) (by simp)
  have e1 := at_old hB1 c1
  have HSZ := hide (size_any D a b la lb w1 hD1 (by omega) (by omega))
  have HC := hide hcs
  have HB1 := hide hB1
  have HPB := hide hpb
  clear hcs hB1 hbo hD1 hD hW h1 h2 hok hpb c1
  generalize C.procs = ps at *
  generalize C.list.length = nl at *
  go_enter Tryz.func105, Tryz.ntmps105
  go_wp2
  rw [← hw1, ← hB0]
  clear hw1 hB0
  go_loop [5, 6] (fun n i => SmRel ps (64 + 32 * nl) n i) (fun _ i => ps.length - (intOf i).toNat)
  case atStart => exact ⟨0, Nat.zero_le _, rfl, by simp [roomP]⟩
  case round =>
    obtain ⟨k, hk, rfl, rfl⟩ := hrel
    have hrk : roomP (ps.take k) ≤ roomP ps := by
      have := roomP_app (ps.take k) (ps.drop k)
      rw [List.take_append_drop] at this
      omega
    by_cases hlt : k < ps.length
    · obtain ⟨g, cur, rfl, -, -, hcc⟩ := HC.out (by omega)
      obtain ⟨p, hp⟩ : ∃ p, ps[k]? = some p := ⟨ps[k], by simp [hlt]⟩
      obtain ⟨-, x2⟩ := hcc k p hp
      have d2 := at_old HB1.out x2
      have hpl := HPB.out p (List.mem_of_getElem? hp)
      have HT := hide (roomP_take ps k p hp)
      clear hcc x2 hp
      obtain ⟨p1, p2⟩ := p
      simp only [T] at d2 hpl
      obtain ⟨q2, hq2⟩ : ∃ q : ByteArray, q = ⟨p2.toArray⟩ := ⟨_, rfl⟩
      have hqs : q2.size = p2.length := by rw [hq2]; rfl
      rw [← hq2] at d2
      have hqb : q2.size ≤ 1000 := by omega
      have HQ := hide hqs
      clear hq2 hqs
      generalize roomP (ps.take k) = z at *
      go_wp2
      go_round
      case rel => exact ⟨k + 1, by omega, by go_num, by rw [HT.out]; simp only; rw [← HQ.out]; go_num⟩
      case measure => simp [intOf]; omega
    · have hkl : ps.take k = ps := List.take_of_length_le (by omega)
      rw [hkl]
      clear hkl hrk
      generalize roomP ps = z at *
      go_wp2_with fail
      refine HSZ.out.mono ?_
      rintro e w2 ⟨rfl, hb2⟩
      have HB2 : Hid (Below w.heap.size w w2) := HB1.out.trans (hb2.mono HB1.out.size)
      clear hb2
      go_wp2
      go_ret
      refine ⟨ret_bool ?_, HB2.out⟩
      simp
      omega

/-- the list of contents is laid anew. -/
theorem past_new {L W : Nat} {w : World} {vx vd vp vc vq va s1 s2 : Value} {C : Jn.Con} (hW : WAt w W vx vd vp vc vq va) (hLW : L ≤ W) (hL : L ≤ w.heap.size) (h1 : CRow w 0 s1 C.list) (h2 : PRow w 0 s2 C.procs) (hok : Jn.Ok C) :
    WAt (w.alloc (.cells #[s1, s2] 128)) W vx vd vp vc vq va ∧
    WAt ((w.alloc (.cells #[s1, s2] 128)).setCell ⟨W, 2, none⟩ (.slice (some ⟨w.heap.size, 0, none⟩) 1 1)) W vx vd (.slice (some ⟨w.heap.size, 0, none⟩) 1 1) vc vq va ∧
    PastAt L ((w.alloc (.cells #[s1, s2] 128)).setCell ⟨W, 2, none⟩ (.slice (some ⟨w.heap.size, 0, none⟩) 1 1)) (.slice (some ⟨w.heap.size, 0, none⟩) 1 1) [C] ∧
    Fr L [92] none w ((w.alloc (.cells #[s1, s2] 128)).setCell ⟨W, 2, none⟩ (.slice (some ⟨w.heap.size, 0, none⟩) 1 1)) := by
  have hb : Below w.heap.size w (w.alloc (.cells #[s1, s2] 128)) := (Below.refl _ _).alloc (Nat.le_refl _) _
  have hW1 : WAt (w.alloc (.cells #[s1, s2] 128)) W vx vd vp vc vq va := hW.fr (Fr.of (L := 0) (T := []) (X := none) hb (Nat.zero_le _)) (by simp) (by simp)
  have f1 : Fr L [92] none w (w.alloc (.cells #[s1, s2] 128)) := Fr.of hb hL
  have f2 : Fr L [92] none (w.alloc (.cells #[s1, s2] 128)) ((w.alloc (.cells #[s1, s2] 128)).setCell ⟨W, 2, none⟩ (.slice (some ⟨w.heap.size, 0, none⟩) 1 1)) :=
    (fr_setCell _ W 2 _ hLW).typed (fun k hk => by cases hk; exact ⟨_, _, _, hW1, by simp⟩) none
  refine ⟨hW1, wat_set hW1 2 _, ⟨[(s1, s2)], ?_, rfl, ?_⟩, f1.trans f2⟩
  · have ho : (w.alloc (.cells #[s1, s2] 128)).ownsRow L 128 2 (.slice (some ⟨w.heap.size, 0, none⟩) 1 1) 1 (pairs [(s1, s2)]) :=
      ⟨rfl, .inr ⟨w.heap.size, 1, #[s1, s2], rfl, hL, heap_alloc_new w _, Nat.le_refl _, by decide, rfl, rfl⟩⟩
    exact own_fr ho f2 (by decide) (.inl rfl)
  · intro i s C' hs hC'
    match i, hs, hC' with
    | 0, hs, hC' =>
      simp at hs hC'
      subst hs hC'
      exact ⟨own_fr h1 (f1.trans f2) (by decide) (.inl rfl), own_fr h2 (f1.trans f2) (by decide) (.inl rfl), hok⟩
    | i + 1, hs, hC' => simp at hs

set_option maxHeartbeats 2000000 in
set_option maxRecDepth 100000 in
theorem rests_any (L W D N M : Nat) (w : World) (vx : Value) (past : List Jn.Con) (d : DS) (nc nq na : Nat) (C : Jn.Con) (hlaw : LawAt L W D N M w vx past d nc nq na) (hC : past[past.length - 1]? = some C) (hok : Jn.Ok C) (hb : past.length ≤ 9000000000000) :
    Calls Tryz.prog 121 #[.pointer (some ⟨W, 0, none⟩)] w fun e w' => e = .returned (.tuple #[]) ∧ LawAt L W D N M w' vx [C] d nc nq na ∧ Fr L [92] none w w' := by
  obtain ⟨vp, vc, vq, va, lcs, lqs, lxs, hW, hpast, hh1, e1, hh2, e2, hh3, e3⟩ := hlaw.rest
  have HN := hide (now_any L W w _ _ vp vc vq va past C hW hpast hC hb)
  have HL := hide hlaw
  have HW := hide hW
  have HH : Hid (HoldRow L N w 102 35 mkC vc lcs ∧ lcs.length = nc ∧ HoldRow L N w 62 42 mkP vq lqs ∧ lqs.length = nq ∧ HoldRow L M w 136 58 mkA va lxs ∧ lxs.length = na) := ⟨hh1, e1, hh2, e2, hh3, e3⟩
  have hLw := hlaw.low
  clear hlaw hW hpast hC hh1 e1 hh2 e2 hh3 e3
  go_enter Tryz.func121, Tryz.ntmps121
  go_wp2_with fail
  refine HN.out.mono ?_
  rintro e w1 ⟨sc, sp, rfl, hcr, hpr, hb1⟩
  obtain ⟨o1, k1, rfl⟩ := crow_slice hcr
  obtain ⟨o2, k2, rfl, -⟩ := hpr.shape
  obtain ⟨w2, hw2⟩ : ∃ w2, w2 = w1.alloc (.cells #[.slice o1 C.list.length k1, .slice o2 C.procs.length k2] 128) := ⟨_, rfl⟩
  have hb2 : Below w1.heap.size w1 w2 := by rw [hw2]; exact (Below.refl _ _).alloc (Nat.le_refl _) _
  have hB : Below w.heap.size w w2 := hb1.trans (hb2.mono hb1.size)
  have hW2 := HW.out.fr (Fr.of (L := 0) (T := []) (X := none) hB (Nat.zero_le _)) (by simp) (by simp)
  have q0 : w2.cell? ⟨w1.heap.size, 0, none⟩ = some (.slice o1 C.list.length k1) := by rw [hw2]; simp
  have q1 : w2.cell? ⟨w1.heap.size, 1, none⟩ = some (.slice o2 C.procs.length k2) := by rw [hw2]; simp
  have hfin := past_new (L := L) hW2 HL.out.lw (Nat.le_trans hLw hB.size) (hcr.below hb2) (hpr.below hb2) hok
  obtain ⟨W3, W4, P4, F4⟩ := hfin
  obtain ⟨-, -, c2, -, -, -⟩ := W3.cell
  have z2 := W3.fz 2
  have HW4 := hide W4
  have HP4 := hide P4
  have HF4 : Hid (Fr L [92] none w ((w2.alloc (.cells #[.slice o1 C.list.length k1, .slice o2 C.procs.length k2] 128)).setCell ⟨W, 2, none⟩ (.slice (some ⟨w2.heap.size, 0, none⟩) 1 1))) := (Fr.of hB hLw).trans F4
  have HE : Hid (w1.alloc (.cells #[.slice o1 C.list.length k1, .slice o2 C.procs.length k2] 128) = w2) := hw2.symm
  clear hcr hpr hb1 hb2 hB hW2 W3 W4 P4 F4 hw2 HN
  go_upto_region 1 with fail
  rw [HE.out]
  go_wp2
  go_end0
  obtain ⟨hh1, e1, hh2, e2, hh3, e3⟩ := HH.out
  refine ⟨rfl, ⟨HL.out.lw, HL.out.ld, HL.out.disk.fr HF4.out (by decide) (by simp), _, vc, vq, va, lcs, lqs, lxs, HW4.out, HP4.out, hh1.fr HF4.out (by decide) (by decide) (by simp) (.inl rfl), e1, hh2.fr HF4.out (by decide) (by decide) (by simp) (.inl rfl), e2, hh3.fr HF4.out (by decide) (by decide) (by simp) (.inl rfl), e3⟩, HF4.out⟩
end Go.Proofs.YtellilpeakpbfaaGreatDoor

end

section
/-
  The walk of Sync.
-/
namespace Go.Proofs.YtellilpeakpbfaaGreatDoor
open Go.RowKit

set_option maxHeartbeats 400000 in
set_option maxRecDepth 100000 in
theorem sync_any (L S B : Nat) (C : Jn.Con) (f : Int) (w : World) (h : StAt L w S B C f) : Calls Tryz.prog 43 #[.pointer (some ⟨S, 0, none⟩)] w fun e w' => ∃ v, e = .returned v ∧ ARow w' w.heap.size v [(2, f, [])] ∧ Below w.heap.size w w' := by
  obtain ⟨-, c1, -, -⟩ := h.cells
  clear h
  go_enter Tryz.func43, Tryz.ntmps43
  go_wp2
  go_ret
  refine ⟨_, rfl, arow_new w w.heap.size (Nat.le_refl _) [(2, f, [])] 1 rfl _ ?_ (by decide), (Below.refl w.heap.size w).alloc (Nat.le_refl _) _⟩
  simp only [acts3, List.flatMap_cons, List.flatMap_nil]
  rfl

/-- the file that tells is made lasting. -/
theorem DiskOk.sync {d : DS} {f : Int} {C : Jn.Con} (h : DiskOk d f C) : ∃ d', playL d [(2, f, [])] = some d' ∧ DiskOk d' f C ∧ d'.1 = d.1 ∧ d'.2.1 = d.2.1 := by
  obtain ⟨a, b, la, lb⟩ := d
  rcases h with ⟨rfl, h1, h2⟩ | ⟨rfl, h1, h2⟩
  · exact ⟨(a, b, (a.size : Int), lb), rfl, .inl ⟨rfl, h1, h2⟩, rfl, rfl⟩
  · exact ⟨(a, b, la, (b.size : Int)), rfl, .inr ⟨rfl, h1, h2⟩, rfl, rfl⟩

end Go.Proofs.YtellilpeakpbfaaGreatDoor

end

section
/-
  Small facts on worlds.
-/
namespace Go.Proofs.YtellilpeakpbfaaGreatDoor
open Go.RowKit

theorem below_undrew {n : Nat} {w w' : World} (h : Below n w.drew w') : Below n w w' := ⟨h.os, h.tape, h.output, h.size, h.block⟩
theorem below_then {w x y : World} (h : Below w.heap.size w x) (g : Below x.heap.size x y) : Below w.heap.size w y := h.trans (g.mono h.size)
theorem belowA {w x : World} (h : Below w.heap.size w x) (o : Obj) : Below w.heap.size w (x.alloc o) := h.alloc h.size o
theorem belowS {w x : World} {b j : Nat} (h : Below w.heap.size w x) (hb : w.heap.size ≤ b) (v : Value) : Below w.heap.size w (x.setCell ⟨b, j, none⟩ v) := h.setCell (p := ⟨b, j, none⟩) hb v
theorem leA {n : Nat} {x : World} (h : n ≤ x.heap.size) (o : Obj) : n ≤ (x.alloc o).heap.size := by rw [World.size_alloc]; omega
theorem leD {n : Nat} {x : World} (h : n ≤ x.heap.size) : n ≤ x.drew.heap.size := h

theorem frA {L : Nat} {T : List TypeId} {w x : World} (h : Fr L T none w x) (hL : L ≤ w.heap.size) (o : Obj) : Fr L T none w (x.alloc o) := h.trans (Fr.of ((Below.refl _ _).alloc (Nat.le_refl _) _) (Nat.le_trans hL h.size))
theorem frS {L : Nat} {T : List TypeId} {w x : World} {b j : Nat} (h : Fr L T none w x) (hL : L ≤ w.heap.size) (hb : w.heap.size ≤ b) (v : Value) : Fr L T none w (x.setCell ⟨b, j, none⟩ v) := by
  have f0 : Fr L [] (some b) x (x.setCell ⟨b, j, none⟩ v) := fr_setCell x b j v (Nat.le_trans hL hb)
  refine ⟨h.below.trans f0.below, fun k cur t z hk ht hX => f0.block k cur t z (h.block k cur t z hk ht hX) (by simp) ?_⟩
  have hlt := (Array.getElem?_eq_some_iff.1 hk).1
  intro e
  cases e
  omega
end Go.Proofs.YtellilpeakpbfaaGreatDoor

end

section
/-
  What trees leave as it was, and units over trees; no Go text.
-/
namespace Go.Proofs.YtellilpeakpbfaaGreatDoor
open Go.RowKit
open Tr (Ex Sm Sms Tok kind)
namespace Rn

open Tr
theorem texpr_fit (E : En) (e : Ex) : ∀ s, Fit E s → Fit E (texpr E e s).2.2 ∧ Same s (texpr E e s).2.2 ∧ (-1000000000 ≤ (texpr E e s).1 ∧ (texpr E e s).1 ≤ 1000000000) := by
  induction e with
  | leaf t =>
    intro s h
    rw [texpr]
    split
    · exact ⟨h, Same.refl s, by simp⟩
    · rename_i hu
      refine ⟨h.use (by omega), Same.use s, ?_⟩
      have tb := token_bd t
      unfold leafV
      simp only
      split
      · omega
      · split
        · exact h.arg _
        · exact h.var _
  | un t e ih =>
    intro s h
    rw [texpr]
    split
    · exact ⟨h, Same.refl s, by simp⟩
    · rename_i hu
      obtain ⟨f1, m1, -⟩ := ih (use s) (h.use (by omega))
      rw [look_snd]
      exact ⟨f1, (Same.use s).trans m1, look_bd _ _ f1⟩
  | bin t a b iha ihb =>
    intro s h
    rw [texpr]
    split
    · exact ⟨h, Same.refl s, by simp⟩
    · rename_i hu
      obtain ⟨f1, m1, -⟩ := iha (use s) (h.use (by omega))
      obtain ⟨f2, m2, -⟩ := ihb _ f1
      unfold two
      split
      · exact ⟨f1, (Same.use s).trans m1, by simp⟩
      · split
        · exact ⟨f2, ((Same.use s).trans m1).trans m2, by simp⟩
        · exact ⟨f2, ((Same.use s).trans m1).trans m2, reckon_bd _ _ _⟩
theorem Up.texpr {E : En} {u : Nat} {s : St} (h : Up E u s) (e : Ex) : Up E u (texpr E e s).2.2 ∧ (-1000000000 ≤ (Rn.texpr E e s).1 ∧ (Rn.texpr E e s).1 ≤ 1000000000) := by
  obtain ⟨h1, h2, h3⟩ := texpr_fit E e s h.1
  exact ⟨⟨h1, Nat.le_trans h.2 h2.used⟩, h3⟩

theorem tr_up (E : En) (n : Nat) : (∀ b s, Fit E s → Up E s.used (tstmts E n b s).2) ∧ (∀ m s, Fit E s → Up E s.used (tstmt E n m s).2 ∧ (s.stopped = false → (tstmt E n m s).1 = 0 → Up E (s.used + 1) (tstmt E n m s).2)) ∧
    (∀ e b s, Fit E s → Up E s.used (tloop E n e b s).2 ∧ (s.stopped = false → (tloop E n e b s).1 = 0 → Up E (s.used + 1) (tloop E n e b s).2)) := by
  induction n with
  | zero =>
    refine ⟨fun b s h => ?_, fun m s h => ?_, fun e b s h => ?_⟩
    · rw [tstmts]; exact ⟨h, Nat.le_refl _⟩
    · rw [tstmt]; exact ⟨⟨h, Nat.le_refl _⟩, fun _ h0 => by simp at h0⟩
    · rw [tloop]; exact ⟨⟨h, Nat.le_refl _⟩, fun _ h0 => by simp at h0⟩
  | succ n ih =>
    obtain ⟨i1, i2, i3⟩ := ih
    refine ⟨fun b s h => ?_, fun m s h => ?_, fun e b s h => ?_⟩
    · cases b with
      | nil => rw [tstmts]; exact ⟨h, Nat.le_refl _⟩
      | cons m r =>
        rw [tstmts]
        split
        · exact ⟨h, Nat.le_refl _⟩
        · obtain ⟨h1, -⟩ := i2 m s h
          split
          · exact h1
          · exact (i1 r _ h1.1).mono h1.2
    · have key : ∀ r : Int × St, Up E (s.used + 1) r.2 → Up E s.used r.2 ∧ (s.stopped = false → r.1 = 0 → Up E (s.used + 1) r.2) := fun r hr => ⟨hr.mono (Nat.le_succ _), fun _ _ => hr⟩
      have out : ∀ r : Int × St, r = (10, s) → Up E s.used r.2 ∧ (s.stopped = false → r.1 = 0 → Up E (s.used + 1) r.2) := fun r hr => by subst hr; exact ⟨⟨h, Nat.le_refl _⟩, fun _ h0 => by simp at h0⟩
      cases m with
      | whl e b => rw [tstmt]; exact i3 e b s h
      | set v e =>
        rw [tstmt]
        split
        · exact out _ rfl
        · rename_i hu
          obtain ⟨a1, a2⟩ := (Up.use h (by omega)).texpr e
          exact key _ (Up.setS _ a1 a2)
      | put a b =>
        rw [tstmt]
        split
        · exact out _ rfl
        · rename_i hu
          obtain ⟨a1, a2⟩ := (Up.use h (by omega)).texpr a
          obtain ⟨b1, b2⟩ := a1.texpr b
          exact key _ (Up.putS a1 b1 b2)
      | del a =>
        rw [tstmt]
        split
        · exact out _ rfl
        · rename_i hu
          obtain ⟨a1, a2⟩ := (Up.use h (by omega)).texpr a
          exact key _ (Up.delS a1)
      | stop a =>
        rw [tstmt]
        split
        · exact out _ rfl
        · rename_i hu
          obtain ⟨a1, a2⟩ := (Up.use h (by omega)).texpr a
          exact key _ (Up.stopS a1)
      | fail =>
        rw [tstmt]
        split
        · exact out _ rfl
        · rename_i hu
          exact key _ (Up.use h (by omega))
      | ite e a b =>
        rw [tstmt]
        split
        · exact out _ rfl
        · rename_i hu
          obtain ⟨a1, a2⟩ := (Up.use h (by omega)).texpr e
          refine key _ ?_
          split
          · exact a1
          · split
            · exact (i1 _ _ a1.1).mono a1.2
            · exact (i1 _ _ a1.1).mono a1.2
    · rw [tloop]
      split
      · rename_i hs; exact ⟨⟨h, Nat.le_refl _⟩, fun h0 => by rw [hs] at h0; cases h0⟩
      · split
        · exact ⟨⟨h, Nat.le_refl _⟩, fun _ h0 => by simp at h0⟩
        · rename_i hu
          obtain ⟨a1, a2⟩ := (Up.use h (by omega)).texpr e
          have key : ∀ r : Int × St, Up E (s.used + 1) r.2 → Up E s.used r.2 ∧ (s.stopped = false → r.1 = 0 → Up E (s.used + 1) r.2) := fun r hr => ⟨hr.mono (Nat.le_succ _), fun _ _ => hr⟩
          refine key _ ?_
          split
          · exact a1
          · split
            · exact a1
            · have h2 := (i1 b _ a1.1).mono a1.2
              split
              · exact h2
              · exact (i3 e b _ h2.1).1.mono h2.2
end Rn
end Go.Proofs.YtellilpeakpbfaaGreatDoor

end
