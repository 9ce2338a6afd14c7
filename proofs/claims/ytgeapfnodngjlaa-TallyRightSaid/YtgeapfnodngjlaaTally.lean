/- Contracts of layer 2's functions (tally). -/
import Derived.Test.YtgeapfnodngjlaaCount
import Derived.Test.YtgeapfnodngjlaaFk
import Derived.BigQuiet
namespace Go.Proofs.Ytgeapfnodngjlaa
open Go.ChangeShapes Go.WideShapes Go.ChangeAt Go.RowKit Fb

theorem Bi_num : Bi = 4503599627370496 := by rw [Bi_eq]
theorem isW_hi : IsW 4845873199050653696 ((2 * Bi : Nat) : Int) := by
  have e : FloatKind.f64.nearest 9007199254740992 = 4845873199050653696 := by decide +kernel
  rw [← e, Bi_num]
  exact isW_of_int 9007199254740992 (by rw [Bi_num]; decide +kernel)
theorem isW_lo : IsW 14069245235905429504 (-((2 * Bi : Nat) : Int)) := by
  have e : FloatKind.f64.nearest (-9007199254740992) = 14069245235905429504 := by decide +kernel
  rw [← e, Bi_num]
  exact isW_of_int (-9007199254740992) (by rw [Bi_num]; decide +kernel)

theorem run_neg_float (P : Program) (w : World) (k : FloatKind) (b : Nat) : (Op.unary .neg (.float k b)).run P w = .ok (.float k (Op.negFloat k b)) w := by simp [Op.unary]
theorem run_neg_complex (P : Program) (w : World) (k : FloatKind) (a b : Nat) : (Op.unary .neg (.complex k a b)).run P w = .ok (.complex k (Op.negFloat k a) (Op.negFloat k b)) w := by simp [Op.unary]

/-- the value v is a tally of the whole parts a and b -/
def Cx (v : Value) (a b : Int) : Prop := ∃ x y, v = .complex .f64 x y ∧ IsW x a ∧ IsW y b
/-- a call that answers a tally of the parts a and b, and does nothing else -/
def Gives (w : World) (a b : Int) (e : Ending) (w' : World) : Prop := ∃ x y, e = .returned (.complex .f64 x y) ∧ (IsW x a ∧ IsW y b) ∧ w = w'

attribute [local irreducible] FloatKind.decode in
theorem integral_num (n : String) (way : Ieee.Toward) (x : Nat) (s : Bool) (m : Nat) (p : Int) (hd : FloatKind.f64.decode x = .number s m p) :
    Extern.MathFloor.toIntegral n way #[.float .f64 x] = pure (.float .f64 (FloatKind.f64.encode ((Ieee.Datum.number s m p).integral way))) := by
  conv => lhs; whnf
  rw [hd]
theorem call_archTrunc (x : Nat) (w : World) (h : ∃ u, Un x u) : (callFunc 20 #[.float .f64 x]).run Try.prog w = .ok (.value (.float .f64 (truncW x))) w := by
  rw [run_callFunc_extern Try.func20 (by kernel_rfl) (by kernel_rfl) (by kernel_rfl) (show Extern.find Try.f20 = some (Extern.MathFloor.toIntegral "math.archTrunc" .zero) from by kernel_rfl)]
  obtain ⟨u, s, m, p, hr, -, -⟩ := h
  have ht : truncW x = Ieee.double.write ((Ieee.Datum.number s m p).integral .zero) := by unfold truncW; rw [hr]
  rw [integral_num _ _ x s m p hr, ht]
  rfl
set_option maxHeartbeats 400000 in
theorem Trunc_any (x : Nat) (w : World) (h : ∃ u, Un x u) :
    Calls Try.prog 19 #[.float .f64 x] w fun e w' => e = .returned (.float .f64 (truncW x)) ∧ w = w' := by
  have hc := fun w => call_archTrunc x w h
  clear h
  go_enter Try.func19, Try.ntmps19
  go_wp2
  go_ret
  exact ⟨rfl, rfl⟩

theorem wide_lo (u : Int) (h : -(2 * Bi : Nat) * (sc : Int) ≤ u) (h' : u ≤ (2 * Bi : Nat) * (sc : Int)) : (u.tdiv sc).natAbs ≤ 2 * Bi := by
  rw [natAbs_tdiv_sc]
  refine Nat.div_le_of_le_mul ?_
  rw [Nat.mul_comm]
  have : ((2 * Bi : Nat) : Int) * (sc : Int) = ((2 * Bi * sc : Nat) : Int) := by rw [Int.natCast_mul (2 * Bi)]
  rw [Int.neg_mul] at h
  omega

set_option maxHeartbeats 1000000 in
theorem whole_any (x : Nat) (u : Int) (w : World) (h : Rd x u) :
    Calls Try.prog 16 #[.float .f64 x] w fun e w' => e = .returned (.int .i64 (wholeI u)) ∧ w = w' := by
  have hlo : FloatKind.f64.format.order x 14069245235905429504 = some (compare u (-((2 * Bi : Nat) : Int) * (sc : Int))) := order_rd h isW_lo (by omega)
  have hhi : FloatKind.f64.format.order x 4845873199050653696 = some (compare u (((2 * Bi : Nat) : Int) * (sc : Int))) := order_rd h isW_hi (by omega)
  by_cases c1 : compare u (-((2 * Bi : Nat) : Int) * (sc : Int)) = .lt
  · have hr := hid (whole_low u c1)
    rw [c1] at hlo
    clear c1 hhi h
    have b1 : (FloatKind.f64.format.order x 14069245235905429504 == some Ordering.gt || FloatKind.f64.format.order x 14069245235905429504 == some Ordering.eq) = false := by rw [hlo]; rfl
    clear hlo
    go_enter Try.func16, Try.ntmps16
    go_wp2
    go_ret
    exact ⟨ret_int hr.out.symm, rfl⟩
  have b1 : (FloatKind.f64.format.order x 14069245235905429504 == some Ordering.gt || FloatKind.f64.format.order x 14069245235905429504 == some Ordering.eq) = true := by
    rw [hlo]
    cases hc : compare u (-((2 * Bi : Nat) : Int) * (sc : Int)) with
    | lt => exact absurd hc c1
    | eq => rfl
    | gt => rfl
  by_cases c2 : compare u (((2 * Bi : Nat) : Int) * (sc : Int)) = .gt
  · have hr := hid (whole_high u c2)
    have b2 : (FloatKind.f64.format.order x 4845873199050653696 == some Ordering.lt || FloatKind.f64.format.order x 4845873199050653696 == some Ordering.eq) = false := by rw [hhi, c2]; rfl
    clear c1 c2 hhi hlo h
    go_enter Try.func16, Try.ntmps16
    go_wp2
    go_ret
    exact ⟨ret_int hr.out.symm, rfl⟩
  have b2 : (FloatKind.f64.format.order x 4845873199050653696 == some Ordering.lt || FloatKind.f64.format.order x 4845873199050653696 == some Ordering.eq) = true := by
    rw [hhi]
    cases hc : compare u (((2 * Bi : Nat) : Int) * (sc : Int)) with
    | lt => rfl
    | eq => rfl
    | gt => exact absurd hc c2
  rw [Int.compare_eq_lt] at c1
  rw [Int.compare_eq_gt] at c2
  clear hlo hhi
  have hu : Un x u := by
    rcases h with h | ⟨s, -, he⟩
    · exact h
    · exfalso
      have hs := sc_pos
      have e1 : ((2 * Bi + 1 : Nat) : Int) * (sc : Int) = ((2 * Bi : Nat) : Int) * (sc : Int) + sc := by
        rw [Int.natCast_add, Int.add_mul]; simp
      cases s
      · simp only [Bool.false_eq_true, if_false, Int.one_mul] at he
        omega
      · simp only [if_true, Int.neg_mul, Int.one_mul] at he c1
        omega
  have hw := wide_lo u (by omega) (by omega)
  have ht := trunc_of hu hw
  have ho : FloatKind.f64.format.order x (truncW x) = some (compare u (u.tdiv sc * sc)) := order_of hu ht
  have hi : floatToIntVal .f64 x .i64 = some (u.tdiv sc) := by
    unfold floatToIntVal
    rw [show (FloatKind.f64.decode x).toInt .zero = some (u.tdiv sc) from toInt_of hu]
    have hB := Bi_num
    simp only
    rw [if_pos]
    have e1 : IntKind.i64.min = -9223372036854775808 := by decide +kernel
    have e2 : IntKind.i64.max = 9223372036854775807 := by decide +kernel
    rw [e1, e2]
    omega
  have hcv := fun w => run_convert_float_int (P := Try.prog) w 34 2 .f64 .i64 x _ (by kernel_rfl) Try.underlying2 hi
  clear hi hw
  have htr := fun w => Trunc_any x w ⟨u, hu⟩
  have Htr := hid htr
  clear htr ht hu h
  by_cases hd : (sc : Int) ∣ u
  · have hr : Hid (wholeI u = u.tdiv sc) := by
      show _ = _
      unfold wholeI; rw [if_pos ⟨by omega, by omega, hd⟩]
    have b3 : (FloatKind.f64.format.order x (truncW x) == some Ordering.eq) = true := by
      rw [ho, Int.tdiv_mul_cancel hd]; simp
    clear ho hd c1 c2
    generalize wholeI u = r at *
    generalize Int.tdiv u sc = t at *
    go_enter Try.func16, Try.ntmps16
    go_wp2_with (go_at_call 19; refine (Htr.out _).mono ?_; rintro e w' ⟨rfl, rfl⟩)
    go_ret
    exact ⟨ret_int hr.out.symm, rfl⟩
  · have hr : Hid (wholeI u = 0) := by
      show _ = _
      unfold wholeI; rw [if_neg (fun hh => hd hh.2.2)]
    have b3 : (FloatKind.f64.format.order x (truncW x) == some Ordering.eq) = false := by
      rw [ho]
      cases hc : compare u (u.tdiv sc * sc) with
      | lt => rfl
      | gt => rfl
      | eq => exact absurd (Int.compare_eq_eq.1 hc ▸ Int.dvd_mul_left _ _) hd
    clear ho hd c1 c2
    generalize wholeI u = r at *
    go_enter Try.func16, Try.ntmps16
    go_wp2_with (go_at_call 19; refine (Htr.out _).mono ?_; rintro e w' ⟨rfl, rfl⟩)
    go_ret
    exact ⟨ret_int hr.out.symm, rfl⟩
end Go.Proofs.Ytgeapfnodngjlaa
