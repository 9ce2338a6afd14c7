/- Contracts of layer 5 (event) and of its reference: kinds, names, bounds. -/
import Derived.Test.YtmcfmpafoanajaaRows
import Derived.Test.YtmcfmpafoanajaaLib
import Derived.WalkKit
import Derived.ProofKit
import Derived.WalkLawsBesides
import Derived.Lib.Hide
import Derived.RegionTactic
namespace Go.Proofs.Ytmcfmpafoanajaa
open Go.ChangeShapes Go.WideShapes Go.ChangeAt Go.RowKit Fb

def roI (k : Int) : Int := if k < 1 ∨ 10 < k then -1 else if k ≤ 2 then 0 else if k ≤ 4 then 1 else if k ≤ 7 then 2 else 3
def mnI (k : Int) : Int := if k < 1 ∨ 10 < k then 0 else if k = 2 then 3 else if k = 3 then 2 else 1
def loI (k : Int) : Int := if k = 1 ∨ k = 8 ∨ k = 10 then 1 else 0
def hiI (k : Int) : Int := if k < 1 ∨ 10 < k then 0 else if k = 1 then 3 else if k = 3 ∨ k = 4 then 2 else 2147483647
def hjI (k : Int) : Int := if k = 2 ∨ k = 3 then 2147483647 else 0
def hkI (k : Int) : Int := if k = 2 then 2147483647 else 0
/-- a kind's rule, as the program has it -/
def ruV (k : Int) : Array Value := #[.int .i64 (roI k), .int .i64 (mnI k), .int .i64 (loI k), .int .i64 (hiI k), .int .i64 0, .int .i64 (hjI k), .int .i64 0, .int .i64 (hkI k)]
theorem kinds (k : Int) : k = 1 ∨ k = 2 ∨ k = 3 ∨ k = 4 ∨ k = 5 ∨ k = 6 ∨ k = 7 ∨ k = 8 ∨ k = 9 ∨ k = 10 ∨ k < 1 ∨ 10 < k := by omega

theorem ret_bool {a b : Bool} (h : a = b) : Ending.returned (.bool a) = .returned (.bool b) := by rw [h]
theorem ret_int {k : IntKind} {a b : Int} (h : a = b) : Ending.returned (.int k a) = .returned (.int k b) := by rw [h]

/-- may it be a name? -/
def nmB (s : ByteArray) : Bool := decide (1 ≤ s.size ∧ s.size ≤ 24)
theorem Named_any (s : ByteArray) (w : World) :
    Calls Try.prog 22 #[.string s] w fun e w' => e = .returned (.bool (nmB s)) ∧ w = w' := by
  by_cases h1 : 1 ≤ (s.size : Int) <;> by_cases h2 : (s.size : Int) ≤ 24
  all_goals
    go_enter Try.func22, Try.ntmps22
    go_wp2
    go_ret
    exact ⟨ret_bool (by unfold nmB; first | (exact (decide_eq_true (by omega)).symm) | (exact (decide_eq_false (by omega)).symm)), rfl⟩
end Go.Proofs.Ytmcfmpafoanajaa
