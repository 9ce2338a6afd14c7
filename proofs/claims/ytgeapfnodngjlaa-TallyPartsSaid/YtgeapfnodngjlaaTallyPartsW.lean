/- The walk of TallyParts. -/
import Derived.Test.YtgeapfnodngjlaaTallyA
namespace Go.Proofs.Ytgeapfnodngjlaa
open Go.ChangeShapes Go.WideShapes Go.ChangeAt Go.RowKit Fb

def loW : Nat := 14069245235905429504
def hiW : Nat := 4845873199050653696
abbrev ord (x y : Nat) : Option Ordering := FloatKind.f64.format.order x y

/-- X is below all that is asked for; above it; or between -/
structure Low (X : Nat) : Prop where
  lt : (FloatKind.f64.format.order X 14069245235905429504 == some Ordering.lt) = true
  ge : (FloatKind.f64.format.order X 14069245235905429504 == some Ordering.gt || FloatKind.f64.format.order X 14069245235905429504 == some Ordering.eq) = false
structure High (X : Nat) : Prop where
  lt : (FloatKind.f64.format.order X 14069245235905429504 == some Ordering.lt) = false
  ge : (FloatKind.f64.format.order X 14069245235905429504 == some Ordering.gt || FloatKind.f64.format.order X 14069245235905429504 == some Ordering.eq) = true
  gt : (FloatKind.f64.format.order X 4845873199050653696 == some Ordering.gt) = true
  le : (FloatKind.f64.format.order X 4845873199050653696 == some Ordering.lt || FloatKind.f64.format.order X 4845873199050653696 == some Ordering.eq) = false
structure Mid (X : Nat) : Prop where
  lt : (FloatKind.f64.format.order X 14069245235905429504 == some Ordering.lt) = false
  ge : (FloatKind.f64.format.order X 14069245235905429504 == some Ordering.gt || FloatKind.f64.format.order X 14069245235905429504 == some Ordering.eq) = true
  gt : (FloatKind.f64.format.order X 4845873199050653696 == some Ordering.gt) = false
  le : (FloatKind.f64.format.order X 4845873199050653696 == some Ordering.lt || FloatKind.f64.format.order X 4845873199050653696 == some Ordering.eq) = true

theorem classes {X : Nat} {u : Int} (h : Rd X u) : (Low X ∧ wholeI u = 0) ∨ (High X ∧ wholeI u = 0) ∨
    (Mid X ∧ Un X u ∧ -(2 * Bi : Nat) * (sc : Int) ≤ u ∧ u ≤ (2 * Bi : Nat) * (sc : Int)) := by
  have hlo : FloatKind.f64.format.order X 14069245235905429504 = some (compare u (-((2 * Bi : Nat) : Int) * (sc : Int))) := order_rd h isW_lo (by omega)
  have hhi : FloatKind.f64.format.order X 4845873199050653696 = some (compare u (((2 * Bi : Nat) : Int) * (sc : Int))) := order_rd h isW_hi (by omega)
  have hs := sc_pos
  have hB := Bi_pos
  have hpos : 0 ≤ ((2 * Bi : Nat) : Int) * (sc : Int) := Int.mul_nonneg (by omega) (by omega)
  rcases hc : compare u (-((2 * Bi : Nat) : Int) * (sc : Int)) with _ | _ | _
  · rw [hc] at hlo
    exact .inl ⟨⟨by rw [hlo]; rfl, by rw [hlo]; rfl⟩, whole_low u hc⟩
  all_goals
    rw [hc] at hlo
    right
    rcases hc' : compare u (((2 * Bi : Nat) : Int) * (sc : Int)) with _ | _ | _
    case gt =>
      rw [hc'] at hhi
      exact .inl ⟨⟨by rw [hlo]; rfl, by rw [hlo]; rfl, by rw [hhi]; rfl, by rw [hhi]; rfl⟩, whole_high u hc'⟩
    all_goals
      rw [hc'] at hhi
      right
      refine ⟨⟨by rw [hlo]; rfl, by rw [hlo]; rfl, by rw [hhi]; rfl, by rw [hhi]; rfl⟩, ?_⟩
      have h1 : -((2 * Bi : Nat) : Int) * (sc : Int) ≤ u := by
        first
          | (have := Int.compare_eq_eq.1 hc; omega)
          | (have := Int.compare_eq_gt.1 hc; omega)
      have h2 : u ≤ ((2 * Bi : Nat) : Int) * (sc : Int) := by
        first
          | (have := Int.compare_eq_eq.1 hc'; omega)
          | (have := Int.compare_eq_lt.1 hc'; omega)
      refine ⟨?_, h1, h2⟩
      rcases h with h | ⟨s, -, he⟩
      · exact h
      · exfalso
        have e1 : ((2 * Bi + 1 : Nat) : Int) * (sc : Int) = ((2 * Bi : Nat) : Int) * (sc : Int) + sc := by
          rw [Int.natCast_add, Int.add_mul]; simp
        rw [Int.neg_mul] at h1
        cases s
        · simp only [Bool.false_eq_true, if_false, Int.one_mul] at he
          omega
        · simp only [if_true, Int.neg_mul, Int.one_mul] at he
          omega

/-- one half -/
theorem un_half : Un 4602678819172646912 ((2 ^ (K - 1) : Nat) : Int) := by
  have hK := K_eq
  refine ⟨false, 4503599627370496, -53, by decide +kernel, by omega, ?_⟩
  rw [un_eq]
  have e : (4503599627370496 : Nat) = 2 ^ 52 := by decide +kernel
  rw [e, ← Nat.pow_add, show 52 + (-53 + (K : Int)).toNat = K - 1 by omega]
  simp
theorem add_any {x y : Nat} {u v : Int} (hx : Rd x u) (hy : Un y v) : ∃ z u', Ieee.double.add x y = some z ∧ Rd z u' := by
  obtain ⟨t, n, j, hr', -, -⟩ := hy
  rcases hx with ⟨s, m, i, hr, -, -⟩ | ⟨s, hr, -⟩
  · unfold Ieee.Format.add
    rw [hr, hr']
    unfold Ieee.Datum.sum
    simp only [Option.map_some]
    obtain ⟨u', h⟩ := nearest_any (if Ieee.signed s m (i - min i j).toNat + Ieee.signed t n (j - min i j).toNat = 0 then s && t else decide (Ieee.signed s m (i - min i j).toNat + Ieee.signed t n (j - min i j).toNat < 0)) (Ieee.signed s m (i - min i j).toNat + Ieee.signed t n (j - min i j).toNat).natAbs (min i j)
    exact ⟨_, u', rfl, h⟩
  · unfold Ieee.Format.add
    rw [hr, hr']
    obtain ⟨u', h⟩ := read_any s Ieee.double.infRung (by rw [d_inf]; exact Nat.le_refl _)
    exact ⟨_, u', rfl, h⟩
theorem half_small (a : Int) (h1 : -1000000 ≤ a) (h2 : a ≤ 1000000) : ∃ z u, Ieee.double.add (FloatKind.f64.nearest a) 4602678819172646912 = some z ∧ Rd z u ∧ wholeI u = 0 := by
  have hK := K_eq
  have hsc : sc = 2 * 2 ^ (K - 1) := by rw [sc_eq, ← Nat.pow_succ']; congr 1; omega
  have hu : a * sc + ((2 ^ (K - 1) : Nat) : Int) = (2 * a + 1) * ((2 ^ (K - 1) : Nat) : Int) := by
    rw [hsc, Int.natCast_mul 2, ← Int.mul_assoc, Int.add_mul, Int.one_mul, Int.mul_comm a]; rfl
  obtain ⟨z, hz, hz'⟩ := add_of (isW_of_int a (by rw [two_Bi]; omega)) un_half (2 * a + 1).natAbs (K - 1) (by rw [two_Bi]; omega) (by omega) (by rw [hu, Int.natAbs_mul, Int.natAbs_natCast])
  rw [hu] at hz'
  refine ⟨z, _, hz, .inl hz', ?_⟩
  unfold wholeI
  rw [if_neg]
  rintro ⟨-, -, hd⟩
  rw [hsc, Int.natCast_mul 2] at hd
  have := Int.dvd_of_mul_dvd_mul_right (by have := Nat.two_pow_pos (K - 1); omega) hd
  omega

theorem to_int {Y : Nat} {u : Int} (h : Un Y u) (h1 : -(2 * Bi : Nat) * (sc : Int) ≤ u) (h2 : u ≤ (2 * Bi : Nat) * (sc : Int)) (hd : (sc : Int) ∣ u) (w : World) :
    (convert 34 2 (.float .f64 Y)).run Try.prog w = .ok (.int .i64 (wholeI u)) w := by
  have hw := wide_lo u h1 h2
  have hi : floatToIntVal .f64 Y .i64 = some (wholeI u) := by
    have e : wholeI u = u.tdiv sc := by unfold wholeI; rw [if_pos ⟨h1, h2, hd⟩]
    rw [e]
    unfold floatToIntVal
    rw [show (FloatKind.f64.decode Y).toInt .zero = some (u.tdiv sc) from toInt_of h]
    have hB := Bi_num
    simp only
    rw [if_pos]
    have e1 : IntKind.i64.min = -9223372036854775808 := by decide +kernel
    have e2 : IntKind.i64.max = 9223372036854775807 := by decide +kernel
    rw [e1, e2]
    omega
  exact run_convert_float_int (P := Try.prog) w 34 2 .f64 .i64 Y _ (by kernel_rfl) Try.underlying2 hi
/-- a whole number's word, and the word that it came from -/
theorem back_same {X : Nat} {u : Int} (h : Un X u) (h1 : -(2 * Bi : Nat) * (sc : Int) ≤ u) (h2 : u ≤ (2 * Bi : Nat) * (sc : Int)) (hd : (sc : Int) ∣ u) :
    (FloatKind.f64.format.order (floatOfInt .f64 (wholeI u)) X == some Ordering.eq) = true := by
  have hw := wide_lo u h1 h2
  have e : wholeI u = u.tdiv sc := by unfold wholeI; rw [if_pos ⟨h1, h2, hd⟩]
  rw [e]
  have h3 := isW_of_int (u.tdiv sc) hw
  have h4 : FloatKind.f64.format.order (floatOfInt .f64 (u.tdiv sc)) X = some (compare (u.tdiv sc * sc) u) := order_of h3 h
  rw [h4, Int.tdiv_mul_cancel hd]
  simp
theorem back_other {X : Nat} {u : Int} (h : Un X u) (hd : ¬ (sc : Int) ∣ u) :
    (FloatKind.f64.format.order (floatOfInt .f64 0) X == some Ordering.eq) = false := by
  have h3 := isW_of_int 0 (by omega)
  have h4 : FloatKind.f64.format.order (floatOfInt .f64 0) X = some (compare ((0 : Int) * sc) u) := order_of h3 h
  rw [h4]
  cases hc : compare ((0 : Int) * sc) u with
  | lt => rfl
  | gt => rfl
  | eq =>
    exfalso
    have := Int.compare_eq_eq.1 hc
    rw [Int.zero_mul] at this
    exact hd (this ▸ Int.dvd_zero _)
theorem whole_other {u : Int} (hd : ¬ (sc : Int) ∣ u) : wholeI u = 0 := by
  unfold wholeI; rw [if_neg (fun h => hd h.2.2)]

/-- what is known of b's word -/
def KnowY (Y : Nat) (q : Int) : Prop := (Low Y ∧ q = 0) ∨ (High Y ∧ q = 0) ∨ (Mid Y ∧ ∀ w, (convert 34 2 (.float .f64 Y)).run Try.prog w = .ok (.int .i64 q) w)
theorem knowY {Y : Nat} {u : Int} (h : Rd Y u) (hd : (sc : Int) ∣ u) : KnowY Y (wholeI u) := by
  rcases classes h with h | h | ⟨h, hu, h1, h2⟩
  · exact .inl h
  · exact .inr (.inl h)
  · exact .inr (.inr ⟨h, to_int hu h1 h2 hd⟩)
/-- what is known of the other word -/
def KnowX (X : Nat) (p : Int) (half : Bool) : Prop := (Low X ∧ p = 0) ∨ (High X ∧ p = 0) ∨ (Mid X ∧ (FloatKind.f64.format.order (floatOfInt .f64 p) X == some Ordering.eq) = true) ∨
  (Mid X ∧ (FloatKind.f64.format.order (floatOfInt .f64 0) X == some Ordering.eq) = false ∧ p = 0 ∧ half = true)
theorem knowX {X : Nat} {u : Int} {half : Bool} (h : Rd X u) (hd : half = true ∨ (sc : Int) ∣ u) : KnowX X (wholeI u) half := by
  rcases classes h with h | h | ⟨h, hu, h1, h2⟩
  · exact .inl h
  · exact .inr (.inl h)
  · by_cases hdv : (sc : Int) ∣ u
    · exact .inr (.inr (.inl ⟨h, back_same hu h1 h2 hdv⟩))
    · exact .inr (.inr (.inr ⟨h, back_other hu hdv, whole_other hdv, by rcases hd with hd | hd; exact hd; exact absurd hd hdv⟩))

theorem parts_call (X Y : Nat) (u v : Int) (hx : Rd X u) (hy : Rd Y v) (w : World) :
    Calls Try.prog 9 #[.complex .f64 X Y] w fun e w' => e = .returned (.tuple #[.int .i64 (wholeI u), .int .i64 (wholeI v)]) ∧ w = w' := Parts_any X Y u v w hx hy

set_option maxHeartbeats 4000000 in
theorem parts_whole (a b p q : Int) (w : World) (hx : KnowX (floatOfInt .f64 a) p false) (hy : KnowY (floatOfInt .f64 b) q)
    (hP : ∀ w, Calls Try.prog 9 #[.complex .f64 (floatOfInt .f64 a) (floatOfInt .f64 b)] w fun e w' => e = .returned (.tuple #[.int .i64 p, .int .i64 q]) ∧ w = w') :
    Calls Try.prog 4 #[.int .i64 a, .int .i64 b, .bool false] w fun e w' => e = .returned (.bool true) ∧ Below w.heap.size w w' := by
  have HP := hid hP
  clear hP
  rcases hx with ⟨⟨x1, x2⟩, rfl⟩ | ⟨⟨x1, x2, x3, x4⟩, rfl⟩ | ⟨⟨x1, x2, x3, x4⟩, xe⟩ | ⟨⟨x1, x2, x3, x4⟩, xe, rfl, hh⟩
  case inr.inr.inr => cases hh
  all_goals
    rcases hy with ⟨⟨y1, y2⟩, rfl⟩ | ⟨⟨y1, y2, y3, y4⟩, rfl⟩ | ⟨⟨y1, y2, y3, y4⟩, ye⟩
    all_goals
      go_enter Try.func4, Try.ntmps4
      go_wp2_with fail
      refine (awake_any _).mono ?_
      rintro e w1 ⟨rfl, hbel⟩
      go_wp2_with fail
      refine (HP.out _).mono ?_
      rintro e w' ⟨rfl, rfl⟩
      go_wp2_with fail
      all_goals (go_ret; exact ⟨rfl, hbel⟩)

set_option maxHeartbeats 4000000 in
theorem parts_half (a b p q : Int) (X : Nat) (w : World) (hadd : Ieee.double.add (floatOfInt .f64 a) 4602678819172646912 = some X) (hx : KnowX X p true) (hy : KnowY (floatOfInt .f64 b) q) (hsm : -1000000 ≤ a → a ≤ 1000000 → p = 0)
    (hP : ∀ w, Calls Try.prog 9 #[.complex .f64 X (floatOfInt .f64 b)] w fun e w' => e = .returned (.tuple #[.int .i64 p, .int .i64 q]) ∧ w = w') :
    Calls Try.prog 4 #[.int .i64 a, .int .i64 b, .bool true] w fun e w' => e = .returned (.bool true) ∧ Below w.heap.size w w' := by
  have HP := hid hP
  clear hP
  have hrun : ∀ w, (binOp .add 34 (.float .f64 (floatOfInt .f64 a)) (.float .f64 4602678819172646912)).run Try.prog w = .ok (.float .f64 X) w := fun w => run_float_arith w .add 34 .f64 _ _ X hadd
  clear hadd
  by_cases hs1 : -1000000 ≤ a
  · by_cases hs2 : a ≤ 1000000
    · obtain rfl := hsm hs1 hs2
      clear hsm hx
      rcases hy with ⟨⟨y1, y2⟩, rfl⟩ | ⟨⟨y1, y2, y3, y4⟩, rfl⟩ | ⟨⟨y1, y2, y3, y4⟩, ye⟩
      all_goals
        go_enter Try.func4, Try.ntmps4
        go_wp2_with fail
        refine (awake_any _).mono ?_
        rintro e w1 ⟨rfl, hbel⟩
        go_wp2_with fail
        refine (HP.out _).mono ?_
        rintro e w' ⟨rfl, rfl⟩
        go_wp2_with fail
        all_goals (go_ret; exact ⟨rfl, hbel⟩)
    · clear hsm
      rcases hx with ⟨⟨x1, x2⟩, rfl⟩ | ⟨⟨x1, x2, x3, x4⟩, rfl⟩ | ⟨⟨x1, x2, x3, x4⟩, xe⟩ | ⟨⟨x1, x2, x3, x4⟩, xe, rfl, -⟩
      all_goals
        rcases hy with ⟨⟨y1, y2⟩, rfl⟩ | ⟨⟨y1, y2, y3, y4⟩, rfl⟩ | ⟨⟨y1, y2, y3, y4⟩, ye⟩
        all_goals
          go_enter Try.func4, Try.ntmps4
          go_wp2_with fail
          refine (awake_any _).mono ?_
          rintro e w1 ⟨rfl, hbel⟩
          go_wp2_with fail
          refine (HP.out _).mono ?_
          rintro e w' ⟨rfl, rfl⟩
          go_wp2_with fail
          all_goals (go_ret; exact ⟨rfl, hbel⟩)
  · clear hsm
    rcases hx with ⟨⟨x1, x2⟩, rfl⟩ | ⟨⟨x1, x2, x3, x4⟩, rfl⟩ | ⟨⟨x1, x2, x3, x4⟩, xe⟩ | ⟨⟨x1, x2, x3, x4⟩, xe, rfl, -⟩
    all_goals
      rcases hy with ⟨⟨y1, y2⟩, rfl⟩ | ⟨⟨y1, y2, y3, y4⟩, rfl⟩ | ⟨⟨y1, y2, y3, y4⟩, ye⟩
      all_goals
        go_enter Try.func4, Try.ntmps4
        go_wp2_with fail
        refine (awake_any _).mono ?_
        rintro e w1 ⟨rfl, hbel⟩
        go_wp2_with fail
        refine (HP.out _).mono ?_
        rintro e w' ⟨rfl, rfl⟩
        go_wp2_with fail
        all_goals (go_ret; exact ⟨rfl, hbel⟩)

theorem parts_walk (a b : Int) (half : Bool) (w : World) :
    Calls Try.prog 4 #[.int .i64 a, .int .i64 b, .bool half] w fun e w' => e = .returned (.bool true) ∧ Below w.heap.size w w' := by
  obtain ⟨ua, hx, hxd⟩ := int_any a
  obtain ⟨ub, hy, hyd⟩ := int_any b
  cases half
  · exact parts_whole a b _ _ w (knowX hx (.inr hxd)) (knowY hy hyd) (parts_call _ _ _ _ hx hy)
  · by_cases hs : -1000000 ≤ a ∧ a ≤ 1000000
    · obtain ⟨z, u, hz, hzu, h0⟩ := half_small a hs.1 hs.2
      have hc := parts_call z _ u _ hzu hy
      have hk := knowX (half := true) hzu (.inl rfl)
      rw [h0] at hc hk
      exact parts_half a b 0 _ z w hz hk (knowY hy hyd) (fun _ _ => rfl) hc
    · obtain ⟨z, u, hz, hzu⟩ := add_any hx un_half
      exact parts_half a b _ _ z w hz (knowX hzu (.inl rfl)) (knowY hy hyd) (fun h1 h2 => absurd ⟨h1, h2⟩ hs) (parts_call z _ u _ hzu hy)
end Go.Proofs.Ytgeapfnodngjlaa
