/- Layer 7: contract of the reference: Same. -/
import Derived.Test.YtgijhfdlecdijaaCodec5
namespace Go.Proofs.Ytgijhfdlecdijaa
open Go.ChangeShapes Go.WideShapes Go.ChangeAt Go.RowKit Fb Go.Maps

set_option maxHeartbeats 4000000 in
theorem RSame7 {q0 t0 q1 t1 : Int} {A A' : Option Addr} {n c n' c' : Nat} {xs ys : List ByteArray} {w : World} (hS : Rs w A n c xs) (hS' : Rs w A' n' c' ys) (hn : n ≤ 1000000) :
    Calls Try.prog 9 #[.agg #[.int .i64 q0, .int .i64 t0, .slice A n c], .agg #[.int .i64 q1, .int .i64 t1, .slice A' n' c']] w fun e w' => e = .returned (.bool (decide (q0 = q1 ∧ t0 = t1 ∧ xs = ys))) ∧ Below w.heap.size w w' := by
  have hbA : Below w.heap.size w ((w.alloc (.cells #[.int .i64 q0, .int .i64 t0, .slice A n c] 24)).alloc (.cells #[.int .i64 q1, .int .i64 t1, .slice A' n' c'] 24)) := ((Below.refl _ _).alloc (Nat.le_refl _) _).alloc (by simp) _
  have PS := hid (RSame_any (c := c) (c' := c') (hS.below hbA).1 (hS'.below hbA).1 (Nat.le_refl _) (Nat.le_refl _) hn)
  clear hS hS'
  by_cases h1 : q0 = q1
  · by_cases h2 : t0 = t1
    · have e : decide (q0 = q1 ∧ t0 = t1 ∧ xs = ys) = decide (xs = ys) := by simp [h1, h2]
      rw [e]
      subst h1 h2
      go_enter Try.func9, Try.ntmps9
      go_wp2_with fail
      refine PS.out.mono ?_
      rintro e w1 ⟨rfl, hb1⟩
      go_wp2_with fail
      go_ret
      exact ⟨rfl, hbA.trans (hb1.mono hbA.size)⟩
    · have e : decide (q0 = q1 ∧ t0 = t1 ∧ xs = ys) = false := decide_eq_false (fun h => h2 h.2.1)
      rw [e]
      subst h1
      clear e
      go_enter Try.func9, Try.ntmps9
      go_wp2_with fail
      go_ret
      exact ⟨rfl, hbA⟩
  · have e : decide (q0 = q1 ∧ t0 = t1 ∧ xs = ys) = false := decide_eq_false (fun h => h1 h.1)
    rw [e]
    clear e
    go_enter Try.func9, Try.ntmps9
    go_wp2_with fail
    go_ret
    exact ⟨rfl, hbA⟩

end Go.Proofs.Ytgijhfdlecdijaa
