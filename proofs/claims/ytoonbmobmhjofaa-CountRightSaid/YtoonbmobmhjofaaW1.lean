/- Contracts of layer 1's functions (count) and of their reference. -/
import Derived.Test.YtoonbmobmhjofaaRows
import Derived.WalkKit
import Derived.ProofKit
import Derived.WalkLawsBesides
import Derived.Lib.Hide
namespace Go.Proofs.Ytoonbmobmhjofaa
open Go.ChangeShapes Go.WideShapes Go.ChangeAt Go.RowKit

/-- a number held between 0 and 2^40 -/
def holdI (n : Int) : Int := if n < 0 then 0 else if 1099511627776 < n then 1099511627776 else n
theorem hold_lo (n : Int) : 0 ≤ holdI n := by unfold holdI; split <;> (try split) <;> omega
theorem hold_hi (n : Int) : holdI n ≤ 1099511627776 := by unfold holdI; split <;> (try split) <;> omega
theorem hold_in (n : Int) (h : 0 ≤ n) (h' : n ≤ 1099511627776) : holdI n = n := by unfold holdI; split <;> (try split) <;> omega
def upI (a b : Int) : Int := holdI (holdI a + holdI b)
def downI (a b : Int) : Int := holdI (holdI a - holdI b)
theorem ret_true {b : Bool} (h : b = true) : Ending.returned (.bool b) = .returned (.bool true) := by rw [h]
theorem ret_int {k : IntKind} {a b : Int} (h : a = b) : Ending.returned (.int k a) = .returned (.int k b) := by rw [h]

set_option maxHeartbeats 400000 in
theorem Hold_any (n : Int) (w : World) :
    Calls Try.prog 8 #[.int .i64 n] w fun e w' => e = .returned (.int .i64 (holdI n)) ∧ w = w' := by
  by_cases h : n < 0
  · go_enter Try.func8, Try.ntmps8
    go_wp2
    go_ret
    exact ⟨ret_int (by unfold holdI; omega), rfl⟩
  · by_cases h' : 1099511627776 < n
    all_goals
      go_enter Try.func8, Try.ntmps8
      go_wp2
      go_ret
      exact ⟨ret_int (by unfold holdI; omega), rfl⟩

set_option maxHeartbeats 400000 in
theorem RHold_any (n : Int) (w : World) :
    Calls Try.prog 9 #[.int .i64 n] w fun e w' => e = .returned (.int .i64 (holdI n)) ∧ w = w' := by
  by_cases h : n < 0
  · go_enter Try.func9, Try.ntmps9
    go_wp2
    go_ret
    exact ⟨ret_int (by unfold holdI; omega), rfl⟩
  · by_cases h' : 1099511627776 < n
    all_goals
      go_enter Try.func9, Try.ntmps9
      go_wp2
      go_ret
      exact ⟨ret_int (by unfold holdI; omega), rfl⟩

set_option maxHeartbeats 400000 in
theorem Up_any (a b : Int) (w : World) :
    Calls Try.prog 10 #[.int .i64 a, .int .i64 b] w fun e w' => e = .returned (.int .i64 (upI a b)) ∧ w = w' := by
  have := hold_lo a; have := hold_hi a; have := hold_lo b; have := hold_hi b
  go_enter Try.func10, Try.ntmps10
  go_wp2_with (go_at_call 8; refine (Hold_any _ _).mono ?_; rintro e w' ⟨rfl, rfl⟩)
  go_ret
  exact ⟨rfl, rfl⟩

set_option maxHeartbeats 400000 in
theorem Down_any (a b : Int) (w : World) :
    Calls Try.prog 11 #[.int .i64 a, .int .i64 b] w fun e w' => e = .returned (.int .i64 (downI a b)) ∧ w = w' := by
  have := hold_lo a; have := hold_hi a; have := hold_lo b; have := hold_hi b
  go_enter Try.func11, Try.ntmps11
  go_wp2_with (go_at_call 8; refine (Hold_any _ _).mono ?_; rintro e w' ⟨rfl, rfl⟩)
  go_ret
  exact ⟨rfl, rfl⟩

set_option maxHeartbeats 400000 in
theorem RUp_any (a b : Int) (w : World) :
    Calls Try.prog 7 #[.int .i64 a, .int .i64 b] w fun e w' => e = .returned (.int .i64 (upI a b)) ∧ w = w' := by
  have h1 := hold_lo a; have h2 := hold_hi a; have h3 := hold_lo b; have h4 := hold_hi b
  by_cases h : 1099511627776 - holdI b < holdI a
  all_goals
    go_enter Try.func7, Try.ntmps7
    go_wp2_with (go_at_call 9; refine (RHold_any _ _).mono ?_; rintro e w' ⟨rfl, rfl⟩)
    go_ret
    exact ⟨ret_int (by unfold upI; generalize holdI a = x at *; generalize holdI b = y at *; unfold holdI; omega), rfl⟩

set_option maxHeartbeats 400000 in
theorem RDown_any (a b : Int) (w : World) :
    Calls Try.prog 12 #[.int .i64 a, .int .i64 b] w fun e w' => e = .returned (.int .i64 (downI a b)) ∧ w = w' := by
  have h1 := hold_lo a; have h2 := hold_hi a; have h3 := hold_lo b; have h4 := hold_hi b
  by_cases h : holdI a < holdI b
  all_goals
    go_enter Try.func12, Try.ntmps12
    go_wp2_with (go_at_call 9; refine (RHold_any _ _).mono ?_; rintro e w' ⟨rfl, rfl⟩)
    go_ret
    exact ⟨ret_int (by unfold downI; generalize holdI a = x at *; generalize holdI b = y at *; unfold holdI; omega), rfl⟩
end Go.Proofs.Ytoonbmobmhjofaa
