/- Contracts of layer 5's reference: the numbers of an event, and what may be told. -/
import Derived.Test.YtondnbnaoacanaaDoorEa
namespace Go.Proofs.YtondnbnaoacanaaDoor
open Go.ChangeShapes Go.WideShapes Go.ChangeAt Go.RowKit Fb

/-- are an event's numbers what its kind says? -/
def vlB (k a b c : Int) : Bool := decide (loI k ≤ a ∧ a ≤ hiI k ∧ 0 ≤ b ∧ b ≤ hjI k ∧ 0 ≤ c ∧ c ≤ hkI k)
theorem vlB_yes {k a b c : Int} (h : loI k ≤ a ∧ a ≤ hiI k ∧ 0 ≤ b ∧ b ≤ hjI k ∧ 0 ≤ c ∧ c ≤ hkI k) : vlB k a b c = true := decide_eq_true h
theorem vlB_no {k a b c : Int} (h : ¬ (loI k ≤ a ∧ a ≤ hiI k ∧ 0 ≤ b ∧ b ≤ hjI k ∧ 0 ≤ c ∧ c ≤ hkI k)) : vlB k a b c = false := decide_eq_false h
theorem vlB_in (k a b c : Int) : (inB (loI k) (hiI k) a && inB 0 (hjI k) b && inB 0 (hkI k) c) = vlB k a b c := by
  unfold vlB inB
  by_cases h1 : loI k ≤ a <;> by_cases h2 : a ≤ hiI k <;> by_cases h3 : 0 ≤ b <;> by_cases h4 : b ≤ hjI k <;> by_cases h5 : 0 ≤ c <;> by_cases h6 : c ≤ hkI k <;> simp [h1, h2, h3, h4, h5, h6]
theorem chain3 (p q r : Prop) : (p ∧ q ∧ r) ∨ ¬ p ∨ (p ∧ ¬ q) ∨ (p ∧ q ∧ ¬ r) := by
  by_cases h1 : p <;> by_cases h2 : q <;> by_cases h3 : r <;> simp [h1, h2, h3]
theorem chain4 (p q r s : Prop) : (p ∧ q ∧ r ∧ s) ∨ ¬ p ∨ (p ∧ ¬ q) ∨ (p ∧ q ∧ ¬ r) ∨ (p ∧ q ∧ r ∧ ¬ s) := by
  by_cases h1 : p <;> by_cases h2 : q <;> by_cases h3 : r <;> by_cases h4 : s <;> simp [h1, h2, h3, h4]

end Go.Proofs.YtondnbnaoacanaaDoor
