/- Texts laid together: Event1, Event2. -/
import Derived.Test.YtondnbnaoacanaaGreatDoorRows
import Derived.Test.YtondnbnaoacanaaGreatDoorBase
import Derived.WalkKit
import Derived.ProofKit
import Derived.WalkLawsBesides
import Derived.Lib.Hide
import Derived.RegionTactic
import Derived.Deep.Draws
import Derived.Deep.RegionWith
/- Contracts of layer 5 (event) and of its reference: kinds, names, bounds. -/
namespace Go.Proofs.YtondnbnaoacanaaGreatDoor
open Go.ChangeShapes Go.WideShapes Go.ChangeAt Go.RowKit Fb

def roI (k : Int) : Int := if k < 1 ∨ 10 < k then -1 else if k ≤ 2 then 0 else if k ≤ 4 then 1 else if k ≤ 7 then 2 else 3
def mnI (k : Int) : Int := if k < 1 ∨ 10 < k then 0 else if k = 2 then 3 else if k = 3 then 2 else 1
def loI (k : Int) : Int := if k = 1 ∨ k = 8 ∨ k = 10 then 1 else 0
def hiI (k : Int) : Int := if k < 1 ∨ 10 < k then 0 else if k = 1 then 3 else if k = 3 ∨ k = 4 then 2 else 2147483647
def hjI (k : Int) : Int := if k = 2 ∨ k = 3 then 2147483647 else 0
def hkI (k : Int) : Int := if k = 2 then 2147483647 else 0
/-- a kind's rule, as the program has it -/
def ruV (k : Int) : Array Value := #[.int .i64 (roI k), .int .i64 (mnI k), .int .i64 (loI k), .int .i64 (hiI k), .int .i64 0, .int .i64 (hjI k), .int .i64 0, .int .i64 (hkI k)]
theorem kinds (k : Int) : k = 1 ∨ k = 2 ∨ k = 3 ∨ k = 4 ∨ k = 5 ∨ k = 6 ∨ k = 7 ∨ k = 8 ∨ k = 9 ∨ k = 10 ∨ k < 1 ∨ 10 < k := by omega

theorem ret_bool {a b : Bool} (h : a = b) : Ending.returned (.bool a) = .returned (.bool b) := by rw [h]

theorem within_any (n lo hi : Int) (w : World) :
    Calls Tryz.prog 92 #[.int .i64 n, .agg #[.int .i64 lo, .int .i64 hi]] w fun e w' => e = .returned (.bool (decide (lo ≤ n ∧ n ≤ hi))) ∧ Below w.heap.size w w' := by
  by_cases h1 : lo ≤ n <;> by_cases h2 : n ≤ hi
  all_goals
    go_enter Tryz.func92, Tryz.ntmps92
    go_wp2
    go_ret
    exact ⟨ret_bool (by simp [h1, h2]), (Below.refl _ _).alloc (Nat.le_refl _) _⟩
theorem within_yes {n lo hi : Int} (h : lo ≤ n ∧ n ≤ hi) (w : World) :
    Calls Tryz.prog 92 #[.int .i64 n, .agg #[.int .i64 lo, .int .i64 hi]] w fun e w' => e = .returned (.bool true) ∧ Below w.heap.size w w' := by
  have := within_any n lo hi w
  rwa [decide_eq_true h] at this
theorem within_no {n lo hi : Int} (h : ¬ (lo ≤ n ∧ n ≤ hi)) (w : World) :
    Calls Tryz.prog 92 #[.int .i64 n, .agg #[.int .i64 lo, .int .i64 hi]] w fun e w' => e = .returned (.bool false) ∧ Below w.heap.size w w' := by
  have := within_any n lo hi w
  rwa [decide_eq_false h] at this
/-- may it be a name? -/
def nmB (s : ByteArray) : Bool := decide (1 ≤ s.size ∧ s.size ≤ 24)
theorem Named_any (s : ByteArray) (w : World) :
    Calls Tryz.prog 87 #[.string s] w fun e w' => e = .returned (.bool (nmB s)) ∧ w = w' := by
  by_cases h1 : 1 ≤ (s.size : Int) <;> by_cases h2 : (s.size : Int) ≤ 24
  all_goals
    go_enter Tryz.func87, Tryz.ntmps87
    go_wp2
    go_ret
    exact ⟨ret_bool (by unfold nmB; first | (exact (decide_eq_true (by omega)).symm) | (exact (decide_eq_false (by omega)).symm)), rfl⟩
set_option maxHeartbeats 2000000 in
theorem ruleOf_any (k : Int) (w : World) :
    Calls Tryz.prog 90 #[.int .i64 k] w fun e w' => e = .returned (.agg (ruV k)) ∧ Below w.heap.size w w' := by
  have bel : ∀ (o1 o2 : Obj), Below w.heap.size w ((w.alloc o1).alloc o2) := fun o1 o2 => ((Below.refl _ _).alloc (Nat.le_refl _) o1).alloc (by simp) o2
  rcases kinds k with rfl | rfl | rfl | rfl | rfl | rfl | rfl | rfl | rfl | rfl | h | h
  all_goals
    go_enter Tryz.func90, Tryz.ntmps90
    go_wp2
    refine bodyPost_ret (v := .agg (ruV _)) (by simp [results, Tryz.results90, go_sem, ruV] <;> (unfold roI mnI loI hiI hjI hkI; omega)) rfl ⟨rfl, ?_⟩
    repeat (first | exact Below.refl _ _ | refine Below.setCell ?_ (by simp) _ | refine Below.alloc ?_ (by simp) _)
theorem field_role (x y : Int) (c d e f g h : Value) (w : World) : (Instr.field 137 (.agg #[.int .i64 x, .int .i64 y, c, d, e, f, g, h]) 0).run Tryz.prog w = .ok (.int .i64 x) w := by kernel_rfl
theorem field_many (x y : Int) (c d e f g h : Value) (w : World) : (Instr.field 137 (.agg #[.int .i64 x, .int .i64 y, c, d, e, f, g, h]) 1).run Tryz.prog w = .ok (.int .i64 y) w := by kernel_rfl
theorem Many_any (k : Int) (w : World) :
    Calls Tryz.prog 94 #[.int .i64 k] w fun e w' => e = .returned (.int .i64 (mnI k)) ∧ Below w.heap.size w w' := by
  have P := ruleOf_any k
  have kf := field_many
  unfold ruV at P
  go_enter Tryz.func94, Tryz.ntmps94
  go_wp2_with fail
  refine (P _).mono ?_
  rintro e w1 ⟨rfl, hb⟩
  go_wp2
  go_ret
  exact ⟨rfl, hb⟩
set_option maxHeartbeats 2000000 in
theorem RMany_any (k : Int) (w : World) :
    Calls Tryz.prog 59 #[.int .i64 k] w fun e w' => e = .returned (.int .i64 (mnI k)) ∧ w = w' := by
  rcases kinds k with rfl | rfl | rfl | rfl | rfl | rfl | rfl | rfl | rfl | rfl | h | h
  all_goals
    go_enter Tryz.func59, Tryz.ntmps59
    go_wp2
    go_ret
    exact ⟨ret_int (by unfold mnI; omega), rfl⟩
theorem some_any (n : Int) (w : World) :
    Calls Tryz.prog 107 #[.int .i64 n] w fun e w' => e = .returned (.bool (decide (0 ≤ n ∧ n ≤ 2147483647))) ∧ w = w' := by
  by_cases h1 : 0 ≤ n <;> by_cases h2 : n ≤ 2147483647
  all_goals
    go_enter Tryz.func107, Tryz.ntmps107
    go_wp2
    go_ret
    exact ⟨ret_bool (by simp [h1, h2]), rfl⟩
theorem some_yes {n : Int} (h : 0 ≤ n ∧ n ≤ 2147483647) (w : World) :
    Calls Tryz.prog 107 #[.int .i64 n] w fun e w' => e = .returned (.bool true) ∧ w = w' := by
  have := some_any n w
  rwa [decide_eq_true h] at this
theorem some_no {n : Int} (h : ¬ (0 ≤ n ∧ n ≤ 2147483647)) (w : World) :
    Calls Tryz.prog 107 #[.int .i64 n] w fun e w' => e = .returned (.bool false) ∧ w = w' := by
  have := some_any n w
  rwa [decide_eq_false h] at this
end Go.Proofs.YtondnbnaoacanaaGreatDoor
/- Contracts of layer 5 (event) and of its reference: the numbers of an event, checked. -/
namespace Go.Proofs.YtondnbnaoacanaaGreatDoor
open Go.ChangeShapes Go.WideShapes Go.ChangeAt Go.RowKit Fb

def inB (lo hi n : Int) : Bool := decide (lo ≤ n ∧ n ≤ hi)
theorem bound_at0 (a b : Int) (c d e f : Value) (w : World) : (Instr.index 135 (.agg #[.int .i64 a, .int .i64 b, c, d, e, f]) (.int .i64 0)).run Tryz.prog w = .ok (.agg #[.int .i64 a, .int .i64 b]) w := by kernel_rfl
theorem bound_at1 (a b : Int) (c d e f : Value) (w : World) : (Instr.index 135 (.agg #[c, d, .int .i64 a, .int .i64 b, e, f]) (.int .i64 1)).run Tryz.prog w = .ok (.agg #[.int .i64 a, .int .i64 b]) w := by kernel_rfl
theorem bound_at2 (a b : Int) (c d e f : Value) (w : World) : (Instr.index 135 (.agg #[c, d, e, f, .int .i64 a, .int .i64 b]) (.int .i64 2)).run Tryz.prog w = .ok (.agg #[.int .i64 a, .int .i64 b]) w := by kernel_rfl

set_option maxHeartbeats 4000000 in
theorem fits_any (x y l0 h0 l1 h1 l2 h2 a b c : Int) (w : World) :
    Calls Tryz.prog 91 #[.agg #[.int .i64 x, .int .i64 y, .int .i64 l0, .int .i64 h0, .int .i64 l1, .int .i64 h1, .int .i64 l2, .int .i64 h2], .agg #[.int .i64 a, .int .i64 b, .int .i64 c]] w fun e w' => e = .returned (.bool (inB l0 h0 a && inB l1 h1 b && inB l2 h2 c)) ∧ Below w.heap.size w w' := by
  have b0 := bound_at0
  have b1 := bound_at1
  have b2 := bound_at2
  go_enter Tryz.func91, Tryz.ntmps91
  go_wp2
  go_loopw [9] (fun i wr => (i = .int .i64 0 ∨ (i = .int .i64 1 ∧ inB l0 h0 a = true) ∨ (i = .int .i64 2 ∧ inB l0 h0 a = true ∧ inB l1 h1 b = true) ∨ (i = .int .i64 3 ∧ inB l0 h0 a = true ∧ inB l1 h1 b = true ∧ inB l2 h2 c = true)) ∧ wr.heap[w.heap.size + 1]? = some (.cells #[.int .i64 a, .int .i64 b, .int .i64 c] 140 (0, 0)) ∧ Below w.heap.size w wr) (fun i _ => 3 - (intOf i).toNat)
  case atStart => exact ⟨.inl rfl, (kept2 (w := w) (Below.refl _ _)).2, ((Below.refl _ _).alloc (Nat.le_refl _) _).alloc (by simp) _⟩
  case round =>
    obtain ⟨hi, K, hb⟩ := hrel
    have K' := hid K
    have hz : w.heap.size + 1 < wr.heap.size := by
      rcases Nat.lt_or_ge (w.heap.size + 1) wr.heap.size with h | h
      · exact h
      · rw [Array.getElem?_eq_none h] at K; cases K
    obtain ⟨k0, k1, k2, -, -, -⟩ := blk3 K
    clear K
    rcases hi with rfl | ⟨rfl, p0⟩ | ⟨rfl, p0, p1⟩ | ⟨rfl, p0, p1, p2⟩
    · by_cases q : inB l0 h0 a = true
      · have Q := hid q
        clear q
        go_wp2_with fail
        go_region_with (go_at_call 92; refine (within_yes (of_decide_eq_true Q.out) _).mono ?_; rintro e w1 ⟨rfl, hb1⟩)
        all_goals
          go_wp2_with fail
          go_roundw
          case rel => exact ⟨.inr (.inl ⟨rfl, Q.out⟩), (hb1.block (w.heap.size + 1) (by simp; omega)).trans ((Below.heap_alloc wr _ (w.heap.size + 1) hz).trans K'.out), ((hb.alloc hb.size (.cells #[.int .i64 l0, .int .i64 h0] 134)).drew).trans (hb1.mono ((hb.alloc hb.size (.cells #[.int .i64 l0, .int .i64 h0] 134)).drew).size)⟩
          case measure => simp [intOf]
      · have Q := hid q
        clear q
        go_wp2_with fail
        go_region_with (go_at_call 92; refine (within_no (of_decide_eq_false (by simpa [inB] using Q.out)) _).mono ?_; rintro e w1 ⟨rfl, hb1⟩)
        all_goals
          go_wp2_with fail
          go_ret
          exact ⟨ret_bool (a := false) (by have q := Q.out; simp only [Bool.not_eq_true] at q; simp [q]), ((hb.alloc hb.size (.cells #[.int .i64 l0, .int .i64 h0] 134)).drew).trans (hb1.mono ((hb.alloc hb.size (.cells #[.int .i64 l0, .int .i64 h0] 134)).drew).size)⟩
    · by_cases q : inB l1 h1 b = true
      · have Q := hid q
        have P0 := hid p0
        clear p0
        clear q
        go_wp2_with fail
        go_region_with (go_at_call 92; refine (within_yes (of_decide_eq_true Q.out) _).mono ?_; rintro e w1 ⟨rfl, hb1⟩)
        all_goals
          go_wp2_with fail
          go_roundw
          case rel => exact ⟨.inr (.inr (.inl ⟨rfl, P0.out, Q.out⟩)), (hb1.block (w.heap.size + 1) (by simp; omega)).trans ((Below.heap_alloc wr _ (w.heap.size + 1) hz).trans K'.out), ((hb.alloc hb.size (.cells #[.int .i64 l1, .int .i64 h1] 134)).drew).trans (hb1.mono ((hb.alloc hb.size (.cells #[.int .i64 l1, .int .i64 h1] 134)).drew).size)⟩
          case measure => simp [intOf]
      · have Q := hid q
        have P0 := hid p0
        clear p0
        clear q
        go_wp2_with fail
        go_region_with (go_at_call 92; refine (within_no (of_decide_eq_false (by simpa [inB] using Q.out)) _).mono ?_; rintro e w1 ⟨rfl, hb1⟩)
        all_goals
          go_wp2_with fail
          go_ret
          exact ⟨ret_bool (a := false) (by have q := Q.out; simp only [Bool.not_eq_true] at q; simp [P0.out, q]), ((hb.alloc hb.size (.cells #[.int .i64 l1, .int .i64 h1] 134)).drew).trans (hb1.mono ((hb.alloc hb.size (.cells #[.int .i64 l1, .int .i64 h1] 134)).drew).size)⟩
    · by_cases q : inB l2 h2 c = true
      · have Q := hid q
        have P0 := hid p0
        have P1 := hid p1
        clear p0 p1
        clear q
        go_wp2_with fail
        go_region_with (go_at_call 92; refine (within_yes (of_decide_eq_true Q.out) _).mono ?_; rintro e w1 ⟨rfl, hb1⟩)
        all_goals
          go_wp2_with fail
          go_roundw
          case rel => exact ⟨.inr (.inr (.inr ⟨rfl, P0.out, P1.out, Q.out⟩)), (hb1.block (w.heap.size + 1) (by simp; omega)).trans ((Below.heap_alloc wr _ (w.heap.size + 1) hz).trans K'.out), ((hb.alloc hb.size (.cells #[.int .i64 l2, .int .i64 h2] 134)).drew).trans (hb1.mono ((hb.alloc hb.size (.cells #[.int .i64 l2, .int .i64 h2] 134)).drew).size)⟩
          case measure => simp [intOf]
      · have Q := hid q
        have P0 := hid p0
        have P1 := hid p1
        clear p0 p1
        clear q
        go_wp2_with fail
        go_region_with (go_at_call 92; refine (within_no (of_decide_eq_false (by simpa [inB] using Q.out)) _).mono ?_; rintro e w1 ⟨rfl, hb1⟩)
        all_goals
          go_wp2_with fail
          go_ret
          exact ⟨ret_bool (a := false) (by have q := Q.out; simp only [Bool.not_eq_true] at q; simp [P0.out, P1.out, q]), ((hb.alloc hb.size (.cells #[.int .i64 l2, .int .i64 h2] 134)).drew).trans (hb1.mono ((hb.alloc hb.size (.cells #[.int .i64 l2, .int .i64 h2] 134)).drew).size)⟩
    · go_wp2
      go_ret
      exact ⟨ret_bool (by simp [p0, p1, p2]), hb⟩
end Go.Proofs.YtondnbnaoacanaaGreatDoor
