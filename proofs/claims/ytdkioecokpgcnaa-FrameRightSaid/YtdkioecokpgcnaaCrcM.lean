/- Sums of bytes by steps over bits: they are sums of their parts, and none is lost. Nothing here speaks of a program. -/
import Derived.ProofKit
namespace Fb

/-- half of it, and, if it was odd, turned -/
def cstep (n : Nat) : Nat := if n % 2 = 1 then (n / 2) ^^^ 3988292384 else n / 2
def csteps : Nat → Nat → Nat
  | 0, n => n
  | k + 1, n => csteps k (cstep n)
theorem csteps_add (j : Nat) : ∀ k n, csteps (k + j) n = csteps j (csteps k n)
  | 0, n => by rw [Nat.zero_add]; rfl
  | k + 1, n => by rw [Nat.add_right_comm]; exact csteps_add j k (cstep n)
theorem cstep_zero : cstep 0 = 0 := by decide
theorem csteps_zero : ∀ k, csteps k 0 = 0
  | 0 => rfl
  | k + 1 => by rw [csteps, cstep_zero]; exact csteps_zero k
theorem cstep_xor (a b : Nat) : cstep (a ^^^ b) = cstep a ^^^ cstep b := by
  unfold cstep
  have h1 : ((a ^^^ b) % 2 = 1) ↔ ¬(a % 2 = 1 ↔ b % 2 = 1) := Nat.xor_mod_two_eq_one
  rw [Nat.xor_div_two]
  by_cases ha : a % 2 = 1
  · by_cases hb : b % 2 = 1
    · rw [if_neg (by rw [h1]; simp [ha, hb]), if_pos ha, if_pos hb, Nat.xor_assoc, ← Nat.xor_assoc 3988292384, Nat.xor_comm 3988292384, Nat.xor_assoc, Nat.xor_self, Nat.xor_zero]
    · rw [if_pos (by rw [h1]; simp [ha, hb]), if_pos ha, if_neg hb, Nat.xor_assoc, Nat.xor_assoc, Nat.xor_comm (b / 2)]
  · by_cases hb : b % 2 = 1
    · rw [if_pos (by rw [h1]; simp [ha, hb]), if_neg ha, if_pos hb, Nat.xor_assoc]
    · rw [if_neg (by rw [h1]; simp [ha, hb]), if_neg ha, if_neg hb]
theorem csteps_xor : ∀ k a b, csteps k (a ^^^ b) = csteps k a ^^^ csteps k b
  | 0, _, _ => rfl
  | k + 1, a, b => by rw [csteps, cstep_xor]; exact csteps_xor k _ _
theorem cstep_lt {n : Nat} (h : n < 2 ^ 32) : cstep n < 2 ^ 32 := by
  unfold cstep
  split
  · exact Nat.xor_lt_two_pow (by omega) (by decide)
  · omega
theorem csteps_lt : ∀ k {n : Nat}, n < 2 ^ 32 → csteps k n < 2 ^ 32
  | 0, _, h => h
  | k + 1, _, h => csteps_lt k (cstep_lt h)
theorem xor_eq_zero {a b : Nat} (h : a ^^^ b = 0) : a = b := by
  have : (a ^^^ b) ^^^ b = b := by rw [h, Nat.zero_xor]
  rw [Nat.xor_assoc, Nat.xor_self, Nat.xor_zero] at this
  exact this
theorem cstep_none {n : Nat} (h : n < 2 ^ 32) (h0 : cstep n = 0) : n = 0 := by
  unfold cstep at h0
  split at h0
  · have := xor_eq_zero h0; omega
  · omega
theorem csteps_none : ∀ k {n : Nat}, n < 2 ^ 32 → csteps k n = 0 → n = 0
  | 0, _, _, h0 => h0
  | k + 1, _, h, h0 => cstep_none h (csteps_none k (cstep_lt h) h0)
theorem csteps_inj (k : Nat) {a b : Nat} (ha : a < 2 ^ 32) (hb : b < 2 ^ 32) (h : csteps k a = csteps k b) : a = b := by
  refine xor_eq_zero (csteps_none k (Nat.xor_lt_two_pow ha hb) ?_)
  rw [csteps_xor, h, Nat.xor_self]
theorem csteps_shift : ∀ k n, csteps k (2 ^ k * n) = n
  | 0, n => by simp [csteps]
  | k + 1, n => by
    have e : cstep (2 ^ (k + 1) * n) = 2 ^ k * n := by
      unfold cstep
      have h : 2 ^ (k + 1) * n = 2 * (2 ^ k * n) := by rw [Nat.pow_succ, Nat.mul_comm (2 ^ k) 2, Nat.mul_assoc]
      rw [h, if_neg (by omega)]; omega
    rw [csteps, e, csteps_shift k n]
/-- the number of the table at k -/
def ctab (k : Nat) : Nat := csteps 8 k
/-- a byte's xor within the lowest eight bits -/
theorem xor_parts (n b : Nat) (hb : b < 256) : (n ^^^ b) / 256 = n / 256 ∧ (n ^^^ b) % 256 = (n % 256) ^^^ b := by
  have h1 : b / 256 = 0 := by omega
  have h2 : b % 256 = b := by omega
  refine ⟨?_, ?_⟩
  · have := Nat.xor_div_two_pow (a := n) (b := b) (n := 8)
    simpa [h1] using this
  · have := Nat.xor_mod_two_pow (a := n) (b := b) (n := 8)
    simpa [h2] using this
/-- a byte by the table is eight steps -/
theorem ctab_byte (n : Nat) : csteps 8 n = ctab (n % 256) ^^^ (n / 256) := by
  have e : n = (2 ^ 8 * (n / 256)) ^^^ (n % 256) := by
    have h1 := xor_parts (2 ^ 8 * (n / 256)) (n % 256) (by omega)
    have h2 : 2 ^ 8 * (n / 256) / 256 = n / 256 := by omega
    have h3 : 2 ^ 8 * (n / 256) % 256 = 0 := by omega
    rw [h2] at h1
    rw [h3, Nat.zero_xor] at h1
    omega
  conv => lhs; rw [e]
  rw [csteps_xor, csteps_shift, Nat.xor_comm]; rfl
/-- what a register becomes by bytes -/
def creg (r : Nat) (l : List Nat) : Nat := l.foldl (fun r b => csteps 8 (r ^^^ b)) r
theorem creg_nil (r : Nat) : creg r [] = r := rfl
theorem creg_cons (r b : Nat) (l : List Nat) : creg r (b :: l) = creg (csteps 8 (r ^^^ b)) l := rfl
theorem creg_append (r : Nat) (a b : List Nat) : creg r (a ++ b) = creg (creg r a) b := List.foldl_append
theorem creg_lt : ∀ (l : List Nat) {r : Nat}, r < 2 ^ 32 → (∀ b ∈ l, b < 256) → creg r l < 2 ^ 32
  | [], _, h, _ => h
  | b :: l, r, h, hb => creg_lt l (csteps_lt 8 (Nat.xor_lt_two_pow h (Nat.lt_of_lt_of_le (hb b (by simp)) (by decide)))) (fun x hx => hb x (by simp [hx]))
theorem creg_inj : ∀ (l : List Nat) {r s : Nat}, r < 2 ^ 32 → s < 2 ^ 32 → (∀ b ∈ l, b < 256) → creg r l = creg s l → r = s
  | [], _, _, _, _, _, h => h
  | b :: l, r, s, hr, hs, hb, h => by
    have hb1 : b < 2 ^ 32 := Nat.lt_of_lt_of_le (hb b (by simp)) (by decide)
    have h1 := creg_inj l (csteps_lt 8 (Nat.xor_lt_two_pow hr hb1)) (csteps_lt 8 (Nat.xor_lt_two_pow hs hb1)) (fun x hx => hb x (by simp [hx])) h
    have h2 := csteps_inj 8 (Nat.xor_lt_two_pow hr hb1) (Nat.xor_lt_two_pow hs hb1) h1
    have h3 : (r ^^^ b) ^^^ b = (s ^^^ b) ^^^ b := by rw [h2]
    rw [Nat.xor_assoc, Nat.xor_assoc, Nat.xor_self, Nat.xor_zero, Nat.xor_zero] at h3
    exact h3
/-- two registers behind two rows of bytes: their difference is what the difference becomes behind the rows' -/
theorem creg_xor : ∀ (a b : List Nat) (r s : Nat), a.length = b.length → creg (r ^^^ s) (List.zipWith (· ^^^ ·) a b) = creg r a ^^^ creg s b
  | [], [], _, _, _ => rfl
  | x :: a, y :: b, r, s, h => by
    have e : (r ^^^ s) ^^^ (x ^^^ y) = (r ^^^ x) ^^^ (s ^^^ y) := by
      rw [Nat.xor_assoc, ← Nat.xor_assoc s, Nat.xor_comm s x, Nat.xor_assoc x, ← Nat.xor_assoc r]
    rw [List.zipWith_cons_cons, creg_cons, creg_cons, creg_cons, e, csteps_xor]
    exact creg_xor a b _ _ (by simpa using h)
  | [], _ :: _, _, _, h => by simp at h
  | _ :: _, [], _, _, h => by simp at h
theorem creg_zeros : ∀ n, creg 0 (List.replicate n 0) = 0
  | 0 => rfl
  | n + 1 => by rw [List.replicate_succ, creg_cons, Nat.xor_zero, csteps_zero]; exact creg_zeros n
theorem creg_zeros_none : ∀ n {r : Nat}, r < 2 ^ 32 → creg r (List.replicate n 0) = 0 → r = 0
  | 0, _, _, h => h
  | n + 1, r, hr, h => by
    rw [List.replicate_succ, creg_cons, Nat.xor_zero] at h
    exact csteps_none 8 hr (creg_zeros_none n (csteps_lt 8 hr) h)
/-- four bytes as a number, the lowest first -/
def word4 (a b c d : Nat) : Nat := ((a ^^^ (2 ^ 8 * b)) ^^^ (2 ^ 16 * c)) ^^^ (2 ^ 24 * d)
theorem creg_four (r a b c d : Nat) : creg r [a, b, c, d] = csteps 32 (r ^^^ word4 a b c d) := by
  have s1 : ∀ x, csteps 8 x ^^^ b = csteps 8 (x ^^^ (2 ^ 8 * b)) := fun x => by
    rw [csteps_xor 8 x (2 ^ 8 * b), csteps_shift 8 b]
  have s2 : ∀ x, csteps 16 x ^^^ c = csteps 16 (x ^^^ (2 ^ 16 * c)) := fun x => by
    rw [csteps_xor 16 x (2 ^ 16 * c), csteps_shift 16 c]
  have s3 : ∀ x, csteps 24 x ^^^ d = csteps 24 (x ^^^ (2 ^ 24 * d)) := fun x => by
    rw [csteps_xor 24 x (2 ^ 24 * d), csteps_shift 24 d]
  have e16 : ∀ n, csteps 8 (csteps 8 n) = csteps 16 n := fun n => (csteps_add 8 8 n).symm
  have e24 : ∀ n, csteps 8 (csteps 16 n) = csteps 24 n := fun n => (csteps_add 16 8 n).symm
  have e32 : ∀ n, csteps 8 (csteps 24 n) = csteps 32 n := fun n => (csteps_add 24 8 n).symm
  have e : r ^^^ word4 a b c d = (((r ^^^ a) ^^^ (2 ^ 8 * b)) ^^^ (2 ^ 16 * c)) ^^^ (2 ^ 24 * d) := by
    unfold word4
    simp only [Nat.xor_assoc]
  rw [e, creg_cons, creg_cons, creg_cons, creg_cons, creg_nil, s1 (r ^^^ a)]
  generalize (r ^^^ a) ^^^ (2 ^ 8 * b) = x
  rw [e16, s2 x]
  generalize x ^^^ (2 ^ 16 * c) = y
  rw [e24, s3 y, e32]
theorem word4_lt {a b c d : Nat} (ha : a < 256) (hb : b < 256) (hc : c < 256) (hd : d < 256) : word4 a b c d < 2 ^ 32 := by
  unfold word4
  exact Nat.xor_lt_two_pow (Nat.xor_lt_two_pow (Nat.xor_lt_two_pow (by omega) (by omega)) (by omega)) (by omega)
/-- four bytes that make no number are none -/
theorem word4_none {a b c d : Nat} (ha : a < 256) (hb : b < 256) (hc : c < 256) (h : word4 a b c d = 0) : a = 0 ∧ b = 0 ∧ c = 0 ∧ d = 0 := by
  unfold word4 at h
  have h1 := xor_eq_zero h
  have l1 : (a ^^^ (2 ^ 8 * b)) ^^^ (2 ^ 16 * c) < 2 ^ 24 := Nat.xor_lt_two_pow (Nat.xor_lt_two_pow (by omega) (by omega)) (by omega)
  have hd0 : d = 0 := by omega
  subst hd0
  have h2 := xor_eq_zero (h1.trans (Nat.mul_zero _))
  have l2 : a ^^^ (2 ^ 8 * b) < 2 ^ 16 := Nat.xor_lt_two_pow (by omega) (by omega)
  have hc0 : c = 0 := by omega
  subst hc0
  have h3 := xor_eq_zero (h2.trans (Nat.mul_zero _))
  omega
/-- differences within four bytes, with none before and behind: the register tells them -/
theorem creg_burst (p q : Nat) {a b c d : Nat} (ha : a < 256) (hb : b < 256) (hc : c < 256) (hd : d < 256)
    (h : creg 0 (List.replicate p 0 ++ [a, b, c, d] ++ List.replicate q 0) = 0) : a = 0 ∧ b = 0 ∧ c = 0 ∧ d = 0 := by
  rw [creg_append, creg_append, creg_zeros, creg_four, Nat.zero_xor] at h
  have l := word4_lt ha hb hc hd
  exact word4_none ha hb hc (csteps_none 32 l (creg_zeros_none q (csteps_lt 32 l) h))
end Fb
