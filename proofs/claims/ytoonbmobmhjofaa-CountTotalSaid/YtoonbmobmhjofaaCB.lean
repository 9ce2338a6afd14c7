/- The walk of CountBack. -/
import Derived.Test.YtoonbmobmhjofaaW2
namespace Go.Proofs.Ytoonbmobmhjofaa
open Go.ChangeShapes Go.WideShapes Go.ChangeAt Go.RowKit Fb

theorem up_min (a b : Int) : upI a b = if holdI a + holdI b ≤ 1099511627776 then holdI a + holdI b else 1099511627776 := by
  have := hold_lo a; have := hold_lo b
  unfold upI; generalize holdI a = x at *; generalize holdI b = y at *; unfold holdI; omega
theorem down_max (a b : Int) : downI a b = if holdI a ≤ holdI b then 0 else holdI a - holdI b := by
  have := hold_lo a; have := hold_lo b; have := hold_hi a
  unfold downI; generalize holdI a = x at *; generalize holdI b = y at *; unfold holdI; omega
theorem hold_hold (a : Int) : holdI (holdI a) = holdI a := hold_in _ (hold_lo a) (hold_hi a)
theorem up_lo (a b : Int) : 0 ≤ upI a b := hold_lo _
theorem up_hi (a b : Int) : upI a b ≤ 1099511627776 := hold_hi _
theorem hold_up (a b : Int) : holdI (upI a b) = upI a b := hold_hold _
theorem hold_down (a b : Int) : holdI (downI a b) = downI a b := hold_hold _

set_option maxHeartbeats 1000000 in
theorem back_walk (a b : Int) (w : World) :
    Calls Try.prog 4 #[.int .i64 a, .int .i64 b] w fun e w' => e = .returned (.bool true) ∧ Below w.heap.size w w' := by
  have a0 := hold_lo a; have a1 := hold_hi a; have b0 := hold_lo b; have b1 := hold_hi b
  have u1 := up_hi a b
  have um := up_min a b
  have u2 : holdI a ≤ upI a b := by rw [um]; omega
  have u3 : holdI b ≤ upI a b := by rw [um]; omega
  have ec : upI b a = upI a b := by rw [um, up_min b a]; omega
  have eh := hold_hold a
  have d1 : downI a a = 0 := by rw [down_max]; simp
  have d2 : downI a 0 = holdI a := by rw [down_max, show holdI 0 = 0 from by decide +kernel]; omega
  have m1 : holdI a ≤ holdI b → upI (downI a b) b = holdI b := fun h => by rw [up_min, hold_down, down_max, if_pos h]; omega
  have m2 : holdI b ≤ holdI a → upI (downI a b) b = holdI a := fun h => by rw [up_min, hold_down, down_max]; omega
  have dd : upI a b < 1099511627776 → downI (upI a b) b = holdI a ∧ downI (upI a b) a = holdI b := fun h => by
    have h' : upI a b = holdI a + holdI b := by rw [um] at h ⊢; omega
    rw [down_max, down_max, hold_up, h']; constructor <;> omega
  clear um
  have m3 : upI (downI a b) b = holdI a ∨ upI (downI a b) b = holdI b := by
    by_cases hm : holdI a ≤ holdI b
    · exact .inr (m1 hm)
    · exact .inl (m2 (by omega))
  have m4 : upI (downI a b) b = max (holdI a) (holdI b) := by
    by_cases hm : holdI a ≤ holdI b
    · rw [m1 hm]; omega
    · rw [m2 (by omega)]; omega
  clear m1 m2 m3
  by_cases hu : upI a b < 1099511627776
  · obtain ⟨dd1, dd2⟩ := dd hu
    clear dd
    go_enter Try.func4, Try.ntmps4
    go_wp2_with (first
      | (go_at_call 6; refine (awake_any _).mono ?_; rintro e w' ⟨rfl, hb⟩)
      | (go_at_call 8; refine (Hold_any _ _).mono ?_; rintro e w' ⟨rfl, rfl⟩)
      | (go_at_call 10; refine (Up_any _ _ _).mono ?_; rintro e w' ⟨rfl, rfl⟩)
      | (go_at_call 11; refine (Down_any _ _ _).mono ?_; rintro e w' ⟨rfl, rfl⟩))
    all_goals
      go_ret
      exact ⟨ret_true (by first | rfl | (simp; omega)), hb⟩
  · clear dd
    go_enter Try.func4, Try.ntmps4
    go_wp2_with (first
      | (go_at_call 6; refine (awake_any _).mono ?_; rintro e w' ⟨rfl, hb⟩)
      | (go_at_call 8; refine (Hold_any _ _).mono ?_; rintro e w' ⟨rfl, rfl⟩)
      | (go_at_call 10; refine (Up_any _ _ _).mono ?_; rintro e w' ⟨rfl, rfl⟩)
      | (go_at_call 11; refine (Down_any _ _ _).mono ?_; rintro e w' ⟨rfl, rfl⟩))
    all_goals
      go_ret
      exact ⟨ret_true (by first | rfl | (simp; omega)), hb⟩
end Go.Proofs.Ytoonbmobmhjofaa
