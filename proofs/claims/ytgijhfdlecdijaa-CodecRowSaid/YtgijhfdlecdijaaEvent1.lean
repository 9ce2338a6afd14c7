/- Contracts of layer 5 (event) and of its reference: kinds, names, bounds. -/
import Derived.Test.YtgijhfdlecdijaaRows
import Derived.Test.YtgijhfdlecdijaaLib
import Derived.WalkKit
import Derived.ProofKit
import Derived.WalkLawsBesides
import Derived.Lib.Hide
import Derived.RegionTactic
namespace Go.Proofs.Ytgijhfdlecdijaa
open Go.ChangeShapes Go.WideShapes Go.ChangeAt Go.RowKit Fb

def roI (k : Int) : Int := if k < 1 ∨ 10 < k then -1 else if k ≤ 2 then 0 else if k ≤ 4 then 1 else if k ≤ 7 then 2 else 3
def mnI (k : Int) : Int := if k < 1 ∨ 10 < k then 0 else if k = 2 then 3 else if k = 3 then 2 else 1
def loI (k : Int) : Int := if k = 1 ∨ k = 8 ∨ k = 10 then 1 else 0
def hiI (k : Int) : Int := if k < 1 ∨ 10 < k then 0 else if k = 1 then 3 else if k = 3 ∨ k = 4 then 2 else 2147483647
def hjI (k : Int) : Int := if k = 2 ∨ k = 3 then 2147483647 else 0
def hkI (k : Int) : Int := if k = 2 then 2147483647 else 0
/-- a kind's rule, as the program has it -/
def ruV (k : Int) : Array Value := #[.int .i64 (roI k), .int .i64 (mnI k), .int .i64 (loI k), .int .i64 (hiI k), .int .i64 0, .int .i64 (hjI k), .int .i64 0, .int .i64 (hkI k)]
theorem kinds (k : Int) : k = 1 ∨ k = 2 ∨ k = 3 ∨ k = 4 ∨ k = 5 ∨ k = 6 ∨ k = 7 ∨ k = 8 ∨ k = 9 ∨ k = 10 ∨ k < 1 ∨ 10 < k := by omega

theorem ret_bool {a b : Bool} (h : a = b) : Ending.returned (.bool a) = .returned (.bool b) := by rw [h]
theorem ret_int {k : IntKind} {a b : Int} (h : a = b) : Ending.returned (.int k a) = .returned (.int k b) := by rw [h]

theorem within_any (n lo hi : Int) (w : World) :
    Calls Try.prog 38 #[.int .i64 n, .agg #[.int .i64 lo, .int .i64 hi]] w fun e w' => e = .returned (.bool (decide (lo ≤ n ∧ n ≤ hi))) ∧ Below w.heap.size w w' := by
  by_cases h1 : lo ≤ n <;> by_cases h2 : n ≤ hi
  all_goals
    go_enter Try.func38, Try.ntmps38
    go_wp2
    go_ret
    exact ⟨ret_bool (by simp [h1, h2]), (Below.refl _ _).alloc (Nat.le_refl _) _⟩
theorem within_yes {n lo hi : Int} (h : lo ≤ n ∧ n ≤ hi) (w : World) :
    Calls Try.prog 38 #[.int .i64 n, .agg #[.int .i64 lo, .int .i64 hi]] w fun e w' => e = .returned (.bool true) ∧ Below w.heap.size w w' := by
  have := within_any n lo hi w
  rwa [decide_eq_true h] at this
theorem within_no {n lo hi : Int} (h : ¬ (lo ≤ n ∧ n ≤ hi)) (w : World) :
    Calls Try.prog 38 #[.int .i64 n, .agg #[.int .i64 lo, .int .i64 hi]] w fun e w' => e = .returned (.bool false) ∧ Below w.heap.size w w' := by
  have := within_any n lo hi w
  rwa [decide_eq_false h] at this
/-- may it be a name? -/
def nmB (s : ByteArray) : Bool := decide (1 ≤ s.size ∧ s.size ≤ 24)
theorem Named_any (s : ByteArray) (w : World) :
    Calls Try.prog 36 #[.string s] w fun e w' => e = .returned (.bool (nmB s)) ∧ w = w' := by
  by_cases h1 : 1 ≤ (s.size : Int) <;> by_cases h2 : (s.size : Int) ≤ 24
  all_goals
    go_enter Try.func36, Try.ntmps36
    go_wp2
    go_ret
    exact ⟨ret_bool (by unfold nmB; first | (exact (decide_eq_true (by omega)).symm) | (exact (decide_eq_false (by omega)).symm)), rfl⟩
set_option maxHeartbeats 2000000 in
theorem ruleOf_any (k : Int) (w : World) :
    Calls Try.prog 35 #[.int .i64 k] w fun e w' => e = .returned (.agg (ruV k)) ∧ Below w.heap.size w w' := by
  have bel : ∀ (o1 o2 : Obj), Below w.heap.size w ((w.alloc o1).alloc o2) := fun o1 o2 => ((Below.refl _ _).alloc (Nat.le_refl _) o1).alloc (by simp) o2
  rcases kinds k with rfl | rfl | rfl | rfl | rfl | rfl | rfl | rfl | rfl | rfl | h | h
  all_goals
    go_enter Try.func35, Try.ntmps35
    go_wp2
    refine bodyPost_ret (v := .agg (ruV _)) (by simp [results, Try.results35, go_sem, ruV] <;> (unfold roI mnI loI hiI hjI hkI; omega)) rfl ⟨rfl, ?_⟩
    repeat (first | exact Below.refl _ _ | refine Below.setCell ?_ (by simp) _ | refine Below.alloc ?_ (by simp) _)
theorem field_role (x y : Int) (c d e f g h : Value) (w : World) : (Instr.field 75 (.agg #[.int .i64 x, .int .i64 y, c, d, e, f, g, h]) 0).run Try.prog w = .ok (.int .i64 x) w := by kernel_rfl
theorem field_many (x y : Int) (c d e f g h : Value) (w : World) : (Instr.field 75 (.agg #[.int .i64 x, .int .i64 y, c, d, e, f, g, h]) 1).run Try.prog w = .ok (.int .i64 y) w := by kernel_rfl
theorem Many_any (k : Int) (w : World) :
    Calls Try.prog 30 #[.int .i64 k] w fun e w' => e = .returned (.int .i64 (mnI k)) ∧ Below w.heap.size w w' := by
  have P := ruleOf_any k
  have kf := field_many
  unfold ruV at P
  go_enter Try.func30, Try.ntmps30
  go_wp2_with fail
  refine (P _).mono ?_
  rintro e w1 ⟨rfl, hb⟩
  go_wp2
  go_ret
  exact ⟨rfl, hb⟩
end Go.Proofs.Ytgijhfdlecdijaa
