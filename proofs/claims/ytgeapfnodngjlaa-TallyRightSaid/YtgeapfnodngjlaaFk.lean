/- Doubles that stand for whole numbers, second part: cuts towards zero, numbers of any size, infinities. Nothing here speaks of a program. -/
import Derived.Test.YtgeapfnodngjlaaFl
namespace Fb
open Ieee

theorem cut_zero (neg : Bool) (n drop : Nat) : Toward.zero.cut neg n drop = n / 2 ^ drop := by
  unfold Toward.cut
  rw [Nat.shiftLeft_eq, Nat.one_mul]
  simp only [Bool.toNat_false, Nat.add_zero]
  rcases Nat.le_total drop (n.log2 + 2) with h | h
  · rw [Nat.min_eq_left h]
  · rw [Nat.min_eq_right h]
    by_cases hn : n = 0
    · subst hn; rw [Nat.zero_div, Nat.zero_div]
    have h1 : n < 2 ^ (n.log2 + 1) := Nat.lt_log2_self
    have h2 : 2 ^ (n.log2 + 1) ≤ 2 ^ (n.log2 + 2) := Nat.pow_le_pow_right (by omega) (by omega)
    have h3 : 2 ^ (n.log2 + 2) ≤ 2 ^ drop := Nat.pow_le_pow_right (by omega) h
    rw [Nat.div_eq_of_lt (by omega), Nat.div_eq_of_lt (by omega)]

/-- a magnitude in units, cut to a whole number -/
theorem cut_units (m : Nat) (p : Int) (hp : -(K : Int) ≤ p) : (m <<< p.toNat) / 2 ^ (-p).toNat = m * 2 ^ (p + K).toNat / sc := by
  rw [Nat.shiftLeft_eq, sc_eq]
  rcases Int.le_total 0 p with h | h
  · have e1 : (-p).toNat = 0 := by omega
    have e2 : (p + K).toNat = p.toNat + K := by omega
    rw [e1, e2, Nat.pow_add, ← Nat.mul_assoc, Nat.mul_div_cancel _ (Nat.two_pow_pos _), Nat.pow_zero, Nat.div_one]
  · have e1 : p.toNat = 0 := by omega
    have e2 : K = (-p).toNat + (p + K).toNat := by omega
    rw [e1, Nat.pow_zero, Nat.mul_one]
    conv => rhs; rw [show 2 ^ K = 2 ^ (-p).toNat * 2 ^ (p + K).toNat by rw [← Nat.pow_add, ← e2]]
    rw [Nat.mul_div_mul_right _ _ (Nat.two_pow_pos _)]

theorem natAbs_tdiv_sc (u : Int) : (u.tdiv sc).natAbs = u.natAbs / sc := by rw [Int.natAbs_tdiv]; rfl
theorem un_tdiv (s : Bool) (m : Nat) (p : Int) : (un s m p).tdiv sc = (if s then -1 else 1) * ((m * 2 ^ (p + K).toNat / sc : Nat) : Int) := by
  rw [un_eq]
  generalize m * 2 ^ (p + K).toNat = t
  cases s
  · simp [Int.ofNat_tdiv]
  · simp only [if_true, Int.neg_mul, Int.one_mul, Int.neg_tdiv, Int.ofNat_tdiv]

/-- int64(x) -/
theorem toInt_of {x : Nat} {u : Int} (h : Un x u) : (double.read x).toInt .zero = some (u.tdiv sc) := by
  obtain ⟨s, m, p, hr, hp, hu⟩ := h
  rw [hr]
  unfold Datum.toInt Datum.integral
  simp only
  rw [cut_zero, cut_units _ _ hp, ← hu, un_tdiv, signed_eq, Nat.pow_zero, Nat.mul_one]

/-- math.Trunc(x) -/
def truncW (x : Nat) : Nat := double.write ((double.read x).integral .zero)
theorem trunc_of {x : Nat} {u : Int} (h : Un x u) (hb : (u.tdiv sc).natAbs ≤ 2 * Bi) : IsW (truncW x) (u.tdiv sc) := by
  obtain ⟨s, m, p, hr, hp, hu⟩ := h
  unfold truncW
  rw [hr]
  unfold Datum.integral
  simp only
  show IsW (double.nearest _ _ _) _
  rw [cut_zero, cut_units _ _ hp]
  rw [← hu, un_tdiv] at hb ⊢
  generalize m * 2 ^ (p + K).toNat / sc = t at *
  unfold IsW
  have e : (if s then -1 else 1) * (t : Int) * sc = un s t 0 := by
    rw [un_eq, show ((0 : Int) + K).toNat = K by omega, sc_eq, Int.natCast_mul, Int.mul_assoc]
  rw [e]
  refine nearest_of s t 0 t K ?_ (Nat.le_refl _) (by omega) (by rw [show ((0 : Int) + K).toNat = K by omega])
  cases s <;> simp at hb <;> omega

/-- the word x stands for u units, or for an infinity, of which u is just beyond all that is asked for -/
def Rd (x : Nat) (u : Int) : Prop := Un x u ∨ ∃ s, double.read x = .infinity s ∧ u = (if s then -1 else 1) * ((2 * Bi + 1 : Nat) : Int) * sc
theorem order_rd {x y : Nat} {u : Int} {m : Int} (hx : Rd x u) (hy : IsW y m) (hm : m.natAbs ≤ 2 * Bi) : double.order x y = some (compare u (m * sc)) := by
  rcases hx with hx | ⟨s, hr, hu⟩
  · exact order_of hx hy
  · obtain ⟨t, n, j, hr', _, _⟩ := hy
    unfold Format.order
    rw [hr, hr', hu, cmp_mul _ _ _ sc_pos]
    unfold Datum.order
    cases s
    · simp only [Bool.false_eq_true, if_false, Int.one_mul]
      rw [show compare ((2 * Bi + 1 : Nat) : Int) m = .gt from by rw [Int.compare_eq_gt]; omega]
    · simp only [if_true, Int.neg_mul, Int.one_mul]
      rw [show compare (-((2 * Bi + 1 : Nat) : Int)) m = .lt from by rw [Int.compare_eq_lt]; omega]

/-- what is read of any word that is no more than an infinity -/
theorem read_any (neg : Bool) (r : Nat) (h : r ≤ 2047 * Bi) : ∃ u, Rd (double.word neg r) u := by
  have hB := Bi_pos
  have hr := read_word neg r (by omega)
  by_cases h1 : r < Bi
  · rw [if_pos h1] at hr
    exact ⟨_, .inl ⟨_, _, _, hr, by omega, rfl⟩⟩
  · rw [if_neg h1] at hr
    by_cases h2 : r < 2047 * Bi
    · rw [if_pos h2] at hr
      exact ⟨_, .inl ⟨_, _, _, hr, by omega, rfl⟩⟩
    · rw [if_neg h2, if_pos (by omega)] at hr
      exact ⟨_, .inr ⟨_, hr, rfl⟩⟩
theorem nearest_any (neg : Bool) (mag : Nat) (place : Int) : ∃ u, Rd (double.nearest neg mag place) u := by
  unfold Format.nearest
  split
  · exact read_any _ _ (by omega)
  · simp only [d_inf]
    exact read_any _ _ (Nat.min_le_right ..)

/-- a whole number as a word is a whole number, or an infinity -/
theorem int_any (n : Int) : ∃ u, Rd (Go.FloatKind.f64.nearest n) u ∧ ((sc : Int) ∣ u) := by
  by_cases hn : n.natAbs ≤ 2 * Bi
  · exact ⟨_, .inl (isW_of_int n hn), Int.dvd_mul_left _ _⟩
  show ∃ u, Rd (double.nearest (decide (n < 0)) n.natAbs 0) u ∧ _
  generalize n.natAbs = mag at *
  generalize decide (n < 0) = neg
  have hB := Bi_pos
  have hK := K_eq
  have e53 : 2 * Bi = 2 ^ 53 := by rw [Bi_eq]
  have hm : mag ≠ 0 := by omega
  have hlog : 53 ≤ mag.log2 := by
    rw [Nat.le_log2 hm]; omega
  unfold Format.nearest
  rw [if_neg hm]
  simp only [d_least, d_binade, d_frac, d_inf]
  have hlast : max (0 + (mag.log2 : Int) - ((52 : Nat) : Int)) (-(K : Int)) = ((mag.log2 - 52 : Nat) : Int) := by
    rw [Int.max_eq_left (by omega)]; omega
  rw [hlast]
  generalize hl : mag.log2 - 52 = last
  have e1 : ((0 : Int) - (last : Int)).toNat = 0 := by omega
  have e2 : ((last : Int) - 0).toNat = last := by omega
  have e3 : ((last : Int) - -(K : Int)).toNat = last + K := by omega
  rw [e1, e2, e3]
  have hkept : Bi ≤ Toward.even.cut neg (mag <<< 0) last := by
    have hlow : Bi ≤ mag / 2 ^ last := by
      rw [Nat.le_div_iff_mul_le (Nat.two_pow_pos _), Bi_eq, ← Nat.pow_add]
      refine Nat.le_trans (Nat.pow_le_pow_right (by omega) ?_) (Nat.log2_self_le hm)
      omega
    unfold Toward.cut
    rw [Nat.shiftLeft_zero, Nat.min_eq_left (by omega), Nat.shiftLeft_eq, Nat.one_mul]
    exact Nat.le_trans hlow (Nat.le_add_right _ _)
  generalize Toward.even.cut neg (mag <<< 0) last = kept at *
  generalize hr : min ((last + K) * Bi + kept) (2047 * Bi) = r
  have hr1 : r ≤ 2047 * Bi := by rw [← hr]; exact Nat.min_le_right ..
  have hread := read_word neg r (by omega)
  by_cases h2 : r < 2047 * Bi
  · have hr2 : r = (last + K) * Bi + kept := by
      rw [← hr] at h2 ⊢
      exact Nat.min_eq_left (by rw [Nat.min_def] at h2; split at h2 <;> omega)
    have hge : (last + K + 1) * Bi ≤ r := by rw [hr2, Nat.add_mul (last + K) 1]; omega
    have hdiv : last + K + 1 ≤ r / Bi := (Nat.le_div_iff_mul_le hB).2 hge
    have hb1 : 1 * Bi ≤ (last + K + 1) * Bi := Nat.mul_le_mul_right _ (by omega)
    rw [if_neg (by omega), if_pos h2] at hread
    refine ⟨_, .inl ⟨_, _, _, hread, by omega, rfl⟩, ?_⟩
    rw [un_eq, sc_eq]
    have e4 : (-(K : Int) + ((r / Bi - 1 : Nat) : Int) + K).toNat = (r / Bi - 1 - K) + K := by omega
    rw [e4, Nat.pow_add, ← Nat.mul_assoc, Int.natCast_mul, ← Int.mul_assoc]
    exact Int.dvd_mul_left _ _
  · rw [if_neg (by omega), if_neg h2, if_pos (by omega)] at hread
    exact ⟨_, .inr ⟨_, hread, rfl⟩, Int.dvd_mul_left _ _⟩

/-- what 'whole' makes of u units -/
def wholeI (u : Int) : Int := if -(2 * Bi : Nat) * (sc : Int) ≤ u ∧ u ≤ (2 * Bi : Nat) * (sc : Int) ∧ (sc : Int) ∣ u then u.tdiv sc else 0
theorem whole_low (u : Int) (h : compare u (-(2 * Bi : Nat) * (sc : Int)) = .lt) : wholeI u = 0 := by
  rw [Int.compare_eq_lt] at h
  unfold wholeI; rw [if_neg (fun hh => by omega)]
theorem whole_high (u : Int) (h : compare u ((2 * Bi : Nat) * (sc : Int)) = .gt) : wholeI u = 0 := by
  rw [Int.compare_eq_gt] at h
  unfold wholeI; rw [if_neg (fun hh => by omega)]
end Fb
