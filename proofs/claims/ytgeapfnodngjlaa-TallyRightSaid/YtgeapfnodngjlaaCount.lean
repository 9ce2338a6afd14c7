/- Contracts of layer 1's functions (count) and of their reference, as far as the translation has them. -/
import Derived.Test.YtgeapfnodngjlaaRows
import Derived.Test.YtgeapfnodngjlaaLib
import Derived.WalkKit
import Derived.ProofKit
import Derived.WalkLawsBesides
import Derived.Lib.Hide
namespace Go.Proofs.Ytgeapfnodngjlaa
open Go.ChangeShapes Go.WideShapes Go.ChangeAt Go.RowKit Fb

/-- a number held between 0 and 2^40 -/
def holdI (n : Int) : Int := if n < 0 then 0 else if 1099511627776 < n then 1099511627776 else n
theorem hold_lo (n : Int) : 0 ≤ holdI n := by unfold holdI; split <;> (try split) <;> omega
theorem hold_hi (n : Int) : holdI n ≤ 1099511627776 := by unfold holdI; split <;> (try split) <;> omega
theorem hold_in (n : Int) (h : 0 ≤ n) (h' : n ≤ 1099511627776) : holdI n = n := by unfold holdI; split <;> (try split) <;> omega
def upI (a b : Int) : Int := holdI (holdI a + holdI b)
def downI (a b : Int) : Int := holdI (holdI a - holdI b)
theorem ret_true {b : Bool} (h : b = true) : Ending.returned (.bool b) = .returned (.bool true) := by rw [h]
theorem ret_int {k : IntKind} {a b : Int} (h : a = b) : Ending.returned (.int k a) = .returned (.int k b) := by rw [h]
def ints (l : List Int) : List Value := l.map (Value.int .i64)
def totI (l : List Int) : Int := l.foldl upI 0
theorem totI_snoc (l : List Int) (k : Nat) (h : k < l.length) : totI (l.take (k + 1)) = upI (totI (l.take k)) l[k] := by
  unfold totI
  rw [List.take_succ_eq_append_getElem h, List.foldl_append]; rfl

set_option maxHeartbeats 400000 in
theorem Hold_any (n : Int) (w : World) :
    Calls Try.prog 17 #[.int .i64 n] w fun e w' => e = .returned (.int .i64 (holdI n)) ∧ w = w' := by
  by_cases h : n < 0
  · go_enter Try.func17, Try.ntmps17
    go_wp2
    go_ret
    exact ⟨ret_int (by unfold holdI; omega), rfl⟩
  · by_cases h' : 1099511627776 < n
    all_goals
      go_enter Try.func17, Try.ntmps17
      go_wp2
      go_ret
      exact ⟨ret_int (by unfold holdI; omega), rfl⟩
set_option maxHeartbeats 400000 in
theorem RHold_any (n : Int) (w : World) :
    Calls Try.prog 8 #[.int .i64 n] w fun e w' => e = .returned (.int .i64 (holdI n)) ∧ w = w' := by
  by_cases h : n < 0
  · go_enter Try.func8, Try.ntmps8
    go_wp2
    go_ret
    exact ⟨ret_int (by unfold holdI; omega), rfl⟩
  · by_cases h' : 1099511627776 < n
    all_goals
      go_enter Try.func8, Try.ntmps8
      go_wp2
      go_ret
      exact ⟨ret_int (by unfold holdI; omega), rfl⟩
end Go.Proofs.Ytgeapfnodngjlaa
