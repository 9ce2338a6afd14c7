/- Plain facts about IEEE doubles that stand for whole numbers (over the kit's Ieee): what a word stands for, in units of 2^-1074; that small whole numbers and halves are written exactly; sums, opposites, orders, cuts towards zero. Nothing here speaks of a program. -/
import Ieee.Arith
import Derived.Laws.FloatArith
namespace Fb
open Ieee

/-- the least place is -1074 -/
def K : Nat := 1074
theorem K_eq : K = 1074 := rfl
attribute [irreducible] K
/-- the scale: 2^1074 -/
def sc : Nat := 2 ^ K
theorem sc_eq : sc = 2 ^ K := rfl
theorem sc_pos : 0 < sc := Nat.two_pow_pos _
attribute [irreducible] sc

theorem signed_eq (s : Bool) (m k : Nat) : signed s m k = (if s then -1 else 1) * ((m * 2 ^ k : Nat) : Int) := by
  unfold signed
  rw [Nat.shiftLeft_eq]
  cases s <;> simp

/-- the number 'm * 2^p' (p at least -1074), in units of 2^-1074 -/
def un (s : Bool) (m : Nat) (p : Int) : Int := signed s m (p + K).toNat
/-- the word x stands for u units -/
def Un (x : Nat) (u : Int) : Prop := ∃ s m p, double.read x = .number s m p ∧ -(K : Int) ≤ p ∧ un s m p = u
/-- the word x stands for the whole number n -/
def IsW (x : Nat) (n : Int) : Prop := Un x (n * sc)

theorem un_eq (s : Bool) (m : Nat) (p : Int) : un s m p = (if s then -1 else 1) * ((m * 2 ^ (p + K).toNat : Nat) : Int) := signed_eq _ _ _
theorem un_base (s : Bool) (m : Nat) {p base : Int} (hb : base ≤ p) (h : -(K : Int) ≤ base) : signed s m (p - base).toNat * ((2 ^ (base + K).toNat : Nat) : Int) = un s m p := by
  rw [un_eq, signed_eq, Int.mul_assoc, ← Int.natCast_mul, Nat.mul_assoc, ← Nat.pow_add, show (p - base).toNat + (base + K).toNat = (p + K).toNat by omega]
theorem un_natAbs (s : Bool) (m : Nat) (p : Int) : (un s m p).natAbs = m * 2 ^ (p + K).toNat := by
  rw [un_eq]
  generalize m * 2 ^ (p + K).toNat = t
  cases s <;> simp
theorem un_opp (s : Bool) (m : Nat) (p : Int) : un (!s) m p = - un s m p := by
  rw [un_eq, un_eq]
  generalize m * 2 ^ (p + K).toNat = t
  cases s <;> simp

theorem Un.det {x : Nat} {u v : Int} (h : Un x u) (h' : Un x v) : u = v := by
  obtain ⟨s, m, p, hr, _, hu⟩ := h
  obtain ⟨s', m', p', hr', _, hu'⟩ := h'
  rw [hr] at hr'; cases hr'
  exact hu.symm.trans hu'

/-- a cut that leaves nothing over -/
theorem cut_exact (way : Toward) (neg : Bool) (n drop : Nat) (hn : n ≠ 0) (hd : 2 ^ drop ∣ n) : way.cut neg n drop = n / 2 ^ drop := by
  have hl : drop ≤ n.log2 := by
    rw [Nat.le_log2 hn]
    exact Nat.le_of_dvd (by omega) hd
  have hm : min drop (n.log2 + 2) = drop := Nat.min_eq_left (by omega)
  have hz : n % 2 ^ drop = 0 := Nat.mod_eq_zero_of_dvd hd
  have h2 : 0 < 2 ^ drop := Nat.two_pow_pos _
  have h3 : (2 ^ drop == 0) = false := by rw [beq_eq_false_iff_ne]; omega
  unfold Toward.cut
  rw [hm, Nat.shiftLeft_eq, Nat.one_mul]
  simp only [hz, h3]
  cases way <;> simp

theorem d_least : double.leastPlace = -(K : Int) := by rw [K_eq]; decide +kernel
/-- rungs to one binade -/
def Bi : Nat := 4503599627370496
theorem Bi_eq : Bi = 2 ^ 52 := by decide +kernel
theorem Bi_pos : 0 < Bi := by decide +kernel
theorem d_binade : double.binade = Bi := by decide +kernel
theorem d_sign : double.signWeight = 2048 * Bi := by decide +kernel
theorem d_inf : double.infRung = 2047 * Bi := by decide +kernel
theorem d_frac : double.fractionBits = 52 := rfl
attribute [irreducible] Bi

theorem word_div (neg : Bool) (r : Nat) (h : r < 2048 * Bi) : double.word neg r / (2048 * Bi) % 2 = if neg then 1 else 0 := by
  unfold Format.word; rw [d_sign]
  cases neg
  · simp [Nat.div_eq_of_lt h]
  · simp only [if_true]
    rw [Nat.add_div_left _ (by have := Bi_pos; omega), Nat.div_eq_of_lt h]
theorem word_mod (neg : Bool) (r : Nat) (h : r < 2048 * Bi) : double.word neg r % (2048 * Bi) = r := by
  unfold Format.word; rw [d_sign]
  cases neg
  · simp [Nat.mod_eq_of_lt h]
  · simp only [if_true]
    rw [Nat.add_mod_left, Nat.mod_eq_of_lt h]

theorem read_eq (x : Nat) : double.read x =
    if x % (2048 * Bi) < Bi then .number (x / (2048 * Bi) % 2 == 1) (x % (2048 * Bi)) (-(K : Int))
    else if x % (2048 * Bi) < 2047 * Bi then .number (x / (2048 * Bi) % 2 == 1) (Bi + x % (2048 * Bi) % Bi) (-(K : Int) + (x % (2048 * Bi) / Bi - 1 : Nat))
    else if x % (2048 * Bi) = 2047 * Bi then .infinity (x / (2048 * Bi) % 2 == 1)
    else .nan (x / (2048 * Bi) % 2 == 1) (x % (2048 * Bi) - 2047 * Bi) := by
  unfold Format.read
  simp only [d_least, d_binade, d_sign, d_inf]
theorem read_word (neg : Bool) (r : Nat) (h : r < 2048 * Bi) : double.read (double.word neg r) =
    if r < Bi then .number neg r (-(K : Int))
    else if r < 2047 * Bi then .number neg (Bi + r % Bi) (-(K : Int) + (r / Bi - 1 : Nat))
    else if r = 2047 * Bi then .infinity neg
    else .nan neg (r - 2047 * Bi) := by
  rw [read_eq, word_div _ _ h, word_mod _ _ h]
  cases neg <;> rfl
/-- a rung below the second binade's end -/
theorem read_low (neg : Bool) (kept : Nat) (h : kept < 2 * Bi) : double.read (double.word neg kept) = .number neg kept (-(K : Int)) := by
  have := Bi_pos
  rw [read_word _ _ (by omega)]
  by_cases hlt : kept < Bi
  · rw [if_pos hlt]
  · rw [if_neg hlt, if_pos (by omega)]
    have e1 : kept / Bi = 1 := Nat.div_eq_of_lt_le (by omega) (by omega)
    have e2 : kept % Bi = kept - Bi := by have := Nat.div_add_mod kept Bi; rw [e1] at this; omega
    rw [e1, e2]
    congr 1
    · omega
    · simp
theorem read_high (neg : Bool) (e kept : Nat) (h : kept < 2 * Bi) (h' : Bi ≤ kept) (he : e ≤ 2045) : double.read (double.word neg (e * Bi + kept)) = .number neg kept (-(K : Int) + e) := by
  have hp := Bi_pos
  have hb : e * Bi ≤ 2045 * Bi := Nat.mul_le_mul_right _ he
  rw [read_word _ _ (by omega), if_neg (by omega), if_pos (by omega)]
  have e1 : (e * Bi + kept) / Bi = e + 1 := by
    rw [Nat.mul_comm, Nat.mul_add_div hp, Nat.div_eq_of_lt_le (show 1 * Bi ≤ kept by omega) (by omega)]
  have e2 : (e * Bi + kept) % Bi = kept - Bi := by
    rw [Nat.mul_comm, Nat.mul_add_mod]
    have e1 : kept / Bi = 1 := Nat.div_eq_of_lt_le (by omega) (by omega)
    have := Nat.div_add_mod kept Bi; rw [e1] at this; omega
  rw [e1, e2]
  congr 1
  omega

/-- what is written of 'mag * 2^place', where no more than 53 digits stand between its first one and its last one -/
theorem nearest_units (neg : Bool) (mag : Nat) (place : Int) (q d : Nat) (hq : 0 < q) (hq' : q < 2 * Bi) (hm : mag = q * 2 ^ d) (hp : -(K : Int) ≤ place) (hover : place + mag.log2 ≤ 1023) :
    Un (double.nearest neg mag place) (un neg mag place) := by
  have hK := K_eq
  have h2d : 0 < 2 ^ d := Nat.two_pow_pos _
  have hmz : mag ≠ 0 := by
    rw [hm]; exact Nat.mul_ne_zero (by omega) (by omega)
  have hlo : 2 ^ mag.log2 ≤ mag := Nat.log2_self_le hmz
  have hhi : mag < 2 ^ (mag.log2 + 1) := Nat.lt_log2_self
  have e53 : 2 * Bi = 2 ^ 53 := by rw [Bi_eq]
  -- the first digit is at most 52 above the last one
  have hld : mag.log2 ≤ d + 52 := by
    have : mag < 2 ^ (d + 53) := by
      rw [hm, Nat.pow_add, Nat.mul_comm, ← e53]
      exact Nat.mul_lt_mul_of_pos_left hq' h2d
    have := (Nat.log2_lt hmz).2 this
    omega
  unfold Format.nearest
  rw [if_neg hmz]
  simp only [d_least, d_binade, d_frac, d_inf]
  have hlm : ∃ last : Int, last = max (place + (mag.log2 : Int) - 52) (-(K : Int)) := ⟨_, rfl⟩
  obtain ⟨last, hlast⟩ := hlm
  have hcast : ((52 : Nat) : Int) = 52 := rfl
  rw [hcast, ← hlast]
  have hl1 : -(K : Int) ≤ last := by rw [hlast]; exact Int.le_max_right ..
  have hl0 : place + (mag.log2 : Int) - 52 ≤ last := by rw [hlast]; exact Int.le_max_left ..
  have hl3 : last = place + (mag.log2 : Int) - 52 ∨ last = -(K : Int) := by
    rw [hlast, Int.max_def]; split
    · exact .inr rfl
    · exact .inl rfl
  clear hlast hcast
  have hl2 : last ≤ 971 := by omega
  -- what is kept
  generalize hk : Toward.even.cut neg (mag <<< (place - last).toNat) (last - place).toNat = kept
  have hkept : kept * 2 ^ (last - place).toNat = mag * 2 ^ (place - last).toNat := by
    rw [← hk, Nat.shiftLeft_eq]
    have hdvd : 2 ^ (last - place).toNat ∣ mag * 2 ^ (place - last).toNat := by
      by_cases hc : place < last
      · have : (last - place).toNat ≤ d := by omega
        refine Nat.dvd_trans (Nat.pow_dvd_pow 2 this) ?_
        rw [hm, Nat.mul_assoc, Nat.mul_left_comm]
        exact Nat.dvd_mul_right _ _
      · have : (last - place).toNat = 0 := by omega
        rw [this]; simp
    rw [cut_exact _ _ _ _ (Nat.mul_ne_zero hmz (by have := Nat.two_pow_pos (place - last).toNat; omega)) hdvd, Nat.div_mul_cancel hdvd]
  clear hk
  have hk2 : kept < 2 * Bi := by
    have hlt : kept * 2 ^ (last - place).toNat < 2 * Bi * 2 ^ (last - place).toNat := by
      rw [hkept, e53, ← Nat.pow_add]
      refine Nat.lt_of_lt_of_le (Nat.mul_lt_mul_of_pos_right hhi (Nat.two_pow_pos _)) ?_
      rw [← Nat.pow_add]
      exact Nat.pow_le_pow_right (by omega) (by omega)
    exact Nat.lt_of_mul_lt_mul_right hlt
  have hk3 : -(K : Int) < last → Bi ≤ kept := fun h => by
    have hle : Bi * 2 ^ (last - place).toNat ≤ kept * 2 ^ (last - place).toNat := by
      rw [hkept, Bi_eq, ← Nat.pow_add]
      refine Nat.le_trans ?_ (Nat.mul_le_mul_right _ hlo)
      rw [← Nat.pow_add]
      exact Nat.pow_le_pow_right (by omega) (by omega)
    exact Nat.le_of_mul_le_mul_right hle (Nat.two_pow_pos _)
  have hun : un neg kept last = un neg mag place := by
    rw [un_eq, un_eq]
    congr 2
    have h1 : (last + K).toNat + (place - last).toNat = (last - place).toNat + (place + K).toNat := by omega
    have hc : kept * 2 ^ (last + K).toNat * 2 ^ (place - last).toNat = mag * 2 ^ (place + K).toNat * 2 ^ (place - last).toNat := by
      rw [Nat.mul_right_comm mag, ← hkept, Nat.mul_assoc, Nat.mul_assoc, ← Nat.pow_add, ← Nat.pow_add, h1]
    exact Nat.eq_of_mul_eq_mul_right (Nat.two_pow_pos _) hc
  have he : (last - -(K : Int)).toNat ≤ 2045 := by omega
  have hle : (last - -(K : Int)).toNat * Bi ≤ 2045 * Bi := Nat.mul_le_mul_right _ he
  rw [Nat.min_eq_left (by omega)]
  by_cases h0 : last = -(K : Int)
  · refine ⟨neg, kept, -(K : Int), ?_, by omega, h0 ▸ hun⟩
    rw [h0, show (-(K : Int) - -(K : Int)).toNat = 0 by omega, Nat.zero_mul, Nat.zero_add, read_low _ _ hk2]
  · refine ⟨neg, kept, last, ?_, hl1, hun⟩
    rw [read_high _ _ _ hk2 (hk3 (by omega)) he]
    congr 1
    omega

theorem un_zero (s : Bool) (p : Int) : un s 0 p = 0 := by rw [un_eq]; cases s <;> simp
theorem nearest_zero (neg : Bool) (place : Int) : Un (double.nearest neg 0 place) 0 := by
  refine ⟨neg, 0, -(K : Int), ?_, by omega, un_zero _ _⟩
  unfold Format.nearest
  rw [if_pos rfl, read_low _ _ (by have := Bi_pos; omega)]
/-- a magnitude that is N (at most 2^53) times a power of two is written as it is -/
theorem nearest_of (neg : Bool) (mag : Nat) (place : Int) (N k : Nat) (hN : N ≤ 2 * Bi) (hk : k ≤ K) (hp : -(K : Int) ≤ place) (h : mag * 2 ^ (place + K).toNat = N * 2 ^ k) :
    Un (double.nearest neg mag place) (un neg mag place) := by
  have hK := K_eq
  by_cases hm : mag = 0
  · subst hm; rw [un_zero]; exact nearest_zero _ _
  have hB := Bi_pos
  have e53 : 2 * Bi = 2 ^ 53 := by rw [Bi_eq]
  have hN0 : 0 < N := by
    rcases Nat.eq_zero_or_pos N with h0 | h0
    · rw [h0, Nat.zero_mul] at h
      exact absurd h (Nat.mul_ne_zero hm (by have := Nat.two_pow_pos (place + K).toNat; omega))
    · exact h0
  have hover : place + mag.log2 ≤ 1023 := by
    have h1 : 2 ^ (mag.log2 + (place + K).toNat) ≤ 2 ^ (53 + K) := by
      rw [Nat.pow_add, Nat.pow_add, ← e53]
      refine Nat.le_trans (Nat.mul_le_mul_right _ (Nat.log2_self_le hm)) ?_
      rw [h]
      exact Nat.mul_le_mul hN (Nat.pow_le_pow_right (by omega) hk)
    have := (Nat.pow_le_pow_iff_right (a := 2) (by omega)).1 h1
    omega
  -- N may be taken below 2^53
  obtain ⟨N', k', hN', hN0', h'⟩ : ∃ N' k', N' < 2 * Bi ∧ 0 < N' ∧ mag * 2 ^ (place + K).toNat = N' * 2 ^ k' ∧ (N' = 1 ∨ k' = k) := by
    by_cases he : N = 2 * Bi
    · exact ⟨1, 53 + k, by omega, by omega, by rw [h, he, e53, Nat.one_mul, Nat.pow_add], .inl rfl⟩
    · exact ⟨N, k, by omega, hN0, h, .inr rfl⟩
  obtain ⟨h', hc⟩ := h'
  rcases Nat.le_total (place + K).toNat k' with hle | hle
  · refine nearest_units neg mag place N' (k' - (place + K).toNat) hN0' hN' ?_ hp hover
    have : mag * 2 ^ (place + K).toNat = N' * 2 ^ (k' - (place + K).toNat) * 2 ^ (place + K).toNat := by
      rw [h', Nat.mul_assoc, ← Nat.pow_add, Nat.sub_add_cancel hle]
    exact Nat.eq_of_mul_eq_mul_right (Nat.two_pow_pos _) this
  · refine nearest_units neg mag place mag 0 (by omega) ?_ (by simp) hp hover
    have : mag * 2 ^ ((place + K).toNat - k') * 2 ^ k' = N' * 2 ^ k' := by
      rw [← h', Nat.mul_assoc, ← Nat.pow_add, Nat.sub_add_cancel hle]
    have := Nat.eq_of_mul_eq_mul_right (Nat.two_pow_pos _) this
    have hge : mag * 1 ≤ mag * 2 ^ ((place + K).toNat - k') := Nat.mul_le_mul_left _ (Nat.two_pow_pos _)
    omega

theorem un_int (n : Int) : un (decide (n < 0)) n.natAbs 0 = n * sc := by
  rw [un_eq, sc_eq, show ((0 : Int) + K).toNat = K by omega, Int.natCast_mul]
  generalize ((2 ^ K : Nat) : Int) = t
  by_cases h : n < 0
  · simp only [h, decide_true, if_true]
    rw [show ((n.natAbs : Nat) : Int) = -n by omega]
    rw [Int.neg_mul, Int.neg_mul, Int.one_mul, Int.neg_neg]
  · simp only [h, decide_false]
    rw [show ((n.natAbs : Nat) : Int) = n by omega]
    simp
/-- a small whole number as a word -/
theorem isW_of_int (n : Int) (h : n.natAbs ≤ 2 * Bi) : IsW (Go.FloatKind.f64.nearest n) n := by
  unfold IsW
  rw [← un_int]
  exact nearest_of _ _ _ n.natAbs K h (Nat.le_refl _) (by omega) (by rw [show ((0 : Int) + K).toNat = K by omega])

/-- a sum that has no more than 53 digits -/
theorem add_of {x y : Nat} {u v : Int} (hx : Un x u) (hy : Un y v) (N k : Nat) (hN : N ≤ 2 * Bi) (hk : k ≤ K) (h : (u + v).natAbs = N * 2 ^ k) : ∃ z, double.add x y = some z ∧ Un z (u + v) := by
  obtain ⟨s, m, i, hr, hi, hu⟩ := hx
  obtain ⟨t, n, j, hr', hj, hv⟩ := hy
  have hb1 : min i j ≤ i := Int.min_le_left ..
  have hb2 : min i j ≤ j := Int.min_le_right ..
  have hb3 : -(K : Int) ≤ min i j := by rw [Int.min_def]; split <;> assumption
  unfold Format.add
  rw [hr, hr']
  unfold Datum.sum
  simp only [Option.map_some]
  generalize min i j = base at *
  have hs : (signed s m (i - base).toNat + signed t n (j - base).toNat) * ((2 ^ (base + K).toNat : Nat) : Int) = u + v := by
    rw [Int.add_mul, un_base _ _ hb1 hb3, un_base _ _ hb2 hb3, hu, hv]
  generalize signed s m (i - base).toNat + signed t n (j - base).toNat = total at *
  refine ⟨_, rfl, ?_⟩
  show Un (double.nearest _ _ _) _
  by_cases h0 : total = 0
  · subst h0
    rw [Int.zero_mul] at hs
    rw [← hs]
    exact nearest_zero _ _
  · rw [if_neg h0]
    have hn : total.natAbs * 2 ^ (base + K).toNat = N * 2 ^ k := by
      rw [← h, ← hs, Int.natAbs_mul, Int.natAbs_natCast]
    have := nearest_of (decide (total < 0)) total.natAbs base N k hN hk hb3 hn
    have e : un (decide (total < 0)) total.natAbs base = u + v := by
      rw [← hs, un_eq, Int.natCast_mul]
      generalize ((2 ^ (base + K).toNat : Nat) : Int) = t
      by_cases h : total < 0
      · simp only [h, decide_true, if_true]
        rw [show ((total.natAbs : Nat) : Int) = -total by omega, Int.neg_mul, Int.neg_mul, Int.one_mul, Int.neg_neg]
      · simp only [h, decide_false]
        rw [show ((total.natAbs : Nat) : Int) = total by omega]
        simp
    rwa [e] at this
theorem addW {x y : Nat} {n m : Int} (hx : IsW x n) (hy : IsW y m) (h : (n + m).natAbs ≤ 2 * Bi) : ∃ z, double.add x y = some z ∧ IsW z (n + m) := by
  obtain ⟨z, h1, h2⟩ := add_of hx hy (n + m).natAbs K h (Nat.le_refl _) (by rw [← Int.add_mul, Int.natAbs_mul, sc_eq]; simp)
  exact ⟨z, h1, by unfold IsW; rw [Int.add_mul]; exact h2⟩

theorem cmp_mul (a b : Int) (t : Nat) (ht : 0 < t) : compare (a * t) (b * t) = compare a b := by
  have h1 : a * t < b * t ↔ a < b := Int.mul_lt_mul_right (by omega)
  have h2 : a * t = b * t ↔ a = b := ⟨fun h => Int.eq_of_mul_eq_mul_right (by omega) h, fun h => by rw [h]⟩
  show (compareOfLessAndEq _ _) = compareOfLessAndEq _ _
  unfold compareOfLessAndEq
  simp only [h1, h2]
/-- how two words stand to each other -/
theorem order_of {x y : Nat} {u v : Int} (hx : Un x u) (hy : Un y v) : double.order x y = some (compare u v) := by
  obtain ⟨s, m, i, hr, hi, hu⟩ := hx
  obtain ⟨t, n, j, hr', hj, hv⟩ := hy
  have hb1 : min i j ≤ i := Int.min_le_left ..
  have hb2 : min i j ≤ j := Int.min_le_right ..
  have hb3 : -(K : Int) ≤ min i j := by rw [Int.min_def]; split <;> assumption
  unfold Format.order
  rw [hr, hr']
  unfold Datum.order
  simp only
  generalize min i j = base at *
  rw [← hu, ← hv, ← un_base s m hb1 hb3, ← un_base t n hb2 hb3, cmp_mul _ _ _ (Nat.two_pow_pos _)]
theorem orderW {x y : Nat} {n m : Int} (hx : IsW x n) (hy : IsW y m) : double.order x y = some (compare n m) := by
  rw [order_of hx hy, cmp_mul _ _ _ sc_pos]

/-- the opposite of a word -/
theorem negU {x : Nat} {u : Int} (h : Un x u) : Un (Go.Op.negFloat .f64 x) (-u) := by
  obtain ⟨s, m, p, hr, hp, hu⟩ := h
  have hB : 2048 * Bi = 2 ^ 63 := by rw [Bi_eq]
  have hx : Go.Op.negFloat .f64 x = x ^^^ 2 ^ 63 := rfl
  have hmod : (x ^^^ 2 ^ 63) % (2048 * Bi) = x % (2048 * Bi) := by
    rw [hB, Nat.xor_mod_two_pow, Nat.mod_self, Nat.xor_zero]
  have hdiv : ((x ^^^ 2 ^ 63) / (2048 * Bi) % 2 == 1) = !(x / (2048 * Bi) % 2 == 1) := by
    rw [hB, Nat.xor_div_two_pow, Nat.div_self (Nat.two_pow_pos _)]
    generalize x / 2 ^ 63 = y
    have h1 : (y ^^^ 1) % 2 = (y % 2) ^^^ 1 := Nat.xor_mod_two_pow (n := 1)
    rw [h1]
    rcases Nat.mod_two_eq_zero_or_one y with h | h <;> rw [h] <;> rfl
  refine ⟨!s, m, p, ?_, hp, by rw [un_opp, hu]⟩
  rw [read_eq] at hr ⊢
  rw [hx, hmod, hdiv]
  split at hr
  · rename_i hc
    injection hr with h1 h2 h3
    rw [if_pos hc, h1, h2, h3]
  · split at hr
    · rename_i hc hc'
      injection hr with h1 h2 h3
      rw [if_neg hc, if_pos hc', h1, h2, h3]
    · split at hr <;> cases hr
theorem negW {x : Nat} {n : Int} (h : IsW x n) : IsW (Go.Op.negFloat .f64 x) (-n) := by
  unfold IsW; rw [Int.neg_mul]; exact negU h
end Fb
