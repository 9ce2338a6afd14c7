/- Layer 2, the plain part: turns and sums of tallies, on words and on whole numbers. Nothing here speaks of a program. -/
import Derived.Test.YtgeapfnodngjlaaFk
import Derived.Laws.Entries
namespace Fb
open Ieee Go

theorem bits_and3 (q : Int) : bits .and .i64 q 3 = q % 4 := by
  unfold bits
  have e : (BitVec.ofInt IntKind.i64.bits q &&& BitVec.ofInt IntKind.i64.bits 3).toNat = (q % 4).toNat := by
    rw [BitVec.toNat_and]
    have e3 : (BitVec.ofInt IntKind.i64.bits 3).toNat = 2 ^ 2 - 1 := by decide +kernel
    rw [e3, Nat.and_two_pow_sub_one_eq_mod, BitVec.toNat_ofInt]
    have eb : ((2 ^ IntKind.i64.bits : Nat) : Int) = 18446744073709551616 := by decide +kernel
    rw [eb]
    omega
  simp only [e]
  unfold IntKind.wrap
  have h0 : 0 ≤ q % 4 := by omega
  have h4 : q % 4 < 4 := by omega
  rw [Int.toNat_of_nonneg h0]
  generalize q % 4 = r at *
  obtain rfl | rfl | rfl | rfl : r = 0 ∨ r = 1 ∨ r = 2 ∨ r = 3 := by omega
  all_goals decide +kernel

/-- a quarter of a turn, on words and on whole numbers -/
def q1 (p : Nat × Nat) : Nat × Nat := (Op.negFloat .f64 p.2, p.1)
def i1 (v : Int × Int) : Int × Int := (-v.2, v.1)
def turnW : Nat → Nat × Nat → Nat × Nat
  | 0, p => p
  | n + 1, p => q1 (turnW n p)
def turnI : Nat → Int × Int → Int × Int
  | 0, v => v
  | n + 1, v => i1 (turnI n v)
def IsW2 (p : Nat × Nat) (v : Int × Int) : Prop := IsW p.1 v.1 ∧ IsW p.2 v.2
theorem IsW2.turn {p : Nat × Nat} {v : Int × Int} (h : IsW2 p v) (n : Nat) : IsW2 (turnW n p) (turnI n v) := by
  induction n with
  | zero => exact h
  | succ n ih => exact ⟨negW ih.2, ih.1⟩
theorem turnI_add (a b : Nat) (v : Int × Int) : turnI (a + b) v = turnI b (turnI a v) := by
  induction b with
  | zero => rfl
  | succ b ih => show i1 (turnI (a + b) v) = i1 (turnI b (turnI a v)); rw [ih]
theorem turnI_four (v : Int × Int) : turnI 4 v = v := by
  simp [turnI, i1]
theorem turnI_mod (n : Nat) (v : Int × Int) : turnI (n % 4) v = turnI n v := by
  conv => rhs; rw [← Nat.div_add_mod n 4]
  generalize n / 4 = k
  rw [Nat.add_comm, turnI_add]
  generalize turnI (n % 4) v = u
  induction k with
  | zero => rfl
  | succ k ih => rw [Nat.mul_succ, turnI_add, turnI_four]; exact ih
theorem turnI_sum (n : Nat) (u v : Int × Int) : turnI n (u.1 + v.1, u.2 + v.2) = ((turnI n u).1 + (turnI n v).1, (turnI n u).2 + (turnI n v).2) := by
  induction n with
  | zero => rfl
  | succ n ih =>
    show i1 (turnI n _) = _
    rw [ih]
    show (_, _) = ((i1 (turnI n u)).1 + _, _)
    simp [i1, turnI]
    omega
theorem turnI_small (n : Nat) (v : Int × Int) (B : Nat) (h1 : v.1.natAbs ≤ B) (h2 : v.2.natAbs ≤ B) : (turnI n v).1.natAbs ≤ B ∧ (turnI n v).2.natAbs ≤ B := by
  induction n with
  | zero => exact ⟨h1, h2⟩
  | succ n ih =>
    show (-(turnI n v).2).natAbs ≤ B ∧ (turnI n v).1.natAbs ≤ B
    exact ⟨by rw [Int.natAbs_neg]; exact ih.2, ih.1⟩

/-- words one by one stand for numbers -/
def Are (ps : List (Nat × Nat)) (vs : List (Int × Int)) : Prop := ps.length = vs.length ∧ ∀ (k : Nat) (h1 : k < ps.length) (h2 : k < vs.length), IsW2 ps[k] vs[k]
def sum1 (vs : List (Int × Int)) : Int := (vs.map Prod.fst).sum
def sum2 (vs : List (Int × Int)) : Int := (vs.map Prod.snd).sum
theorem sum1_app (a b : List (Int × Int)) : sum1 (a ++ b) = sum1 a + sum1 b := by
  unfold sum1; rw [List.map_append, List.sum_append]
theorem sum2_app (a b : List (Int × Int)) : sum2 (a ++ b) = sum2 a + sum2 b := by
  unfold sum2; rw [List.map_append, List.sum_append]
theorem sum1_one (v : Int × Int) : sum1 [v] = v.1 := by simp [sum1]
theorem sum2_one (v : Int × Int) : sum2 [v] = v.2 := by simp [sum2]
theorem sum1_snoc (vs : List (Int × Int)) (k : Nat) (h : k < vs.length) : sum1 (vs.take (k + 1)) = sum1 (vs.take k) + vs[k].1 := by
  rw [List.take_succ_eq_append_getElem h, sum1_app, sum1_one]
theorem sum2_snoc (vs : List (Int × Int)) (k : Nat) (h : k < vs.length) : sum2 (vs.take (k + 1)) = sum2 (vs.take k) + vs[k].2 := by
  rw [List.take_succ_eq_append_getElem h, sum2_app, sum2_one]
theorem Are.nil : Are [] [] := ⟨rfl, fun k h => absurd h (by simp)⟩
theorem Are.snoc {ps : List (Nat × Nat)} {vs : List (Int × Int)} (h : Are ps vs) {p : Nat × Nat} {v : Int × Int} (hp : IsW2 p v) : Are (ps ++ [p]) (vs ++ [v]) := by
  refine ⟨by simp [h.1], fun k h1 h2 => ?_⟩
  by_cases hk : k < ps.length
  · rw [List.getElem_append_left hk, List.getElem_append_left (h.1 ▸ hk)]; exact h.2 k hk _
  · have e : k = ps.length := by simp at h1; omega
    subst e
    rw [List.getElem_append_right (Nat.le_refl _), List.getElem_append_right (by rw [h.1]; exact Nat.le_refl _)]
    simpa using hp
theorem sums_small (vs : List (Int × Int)) (B : Nat) (h : ∀ v ∈ vs, v.1.natAbs ≤ B ∧ v.2.natAbs ≤ B) : (sum1 vs).natAbs ≤ vs.length * B ∧ (sum2 vs).natAbs ≤ vs.length * B := by
  induction vs with
  | nil => simp [sum1, sum2]
  | cons v vs ih =>
    have h1 := ih (fun x hx => h x (List.mem_cons_of_mem _ hx))
    have h2 := h v (List.mem_cons_self ..)
    have e1 : sum1 (v :: vs) = v.1 + sum1 vs := by simp [sum1]
    have e2 : sum2 (v :: vs) = v.2 + sum2 vs := by simp [sum2]
    rw [e1, e2, List.length_cons, Nat.add_mul, Nat.one_mul]
    omega
theorem isW_zero : IsW 0 0 := by
  have e : FloatKind.f64.nearest 0 = 0 := by decide +kernel
  conv => lhs; rw [← e]
  exact isW_of_int 0 (by omega)

/-- what each number of a list adds to its beat -/
def beatL (h : Int → Int) (l : List Int) : List (Int × Int) := l.mapIdx fun i n => turnI i (h n, 0)
theorem beatL_len (h : Int → Int) (l : List Int) : (beatL h l).length = l.length := by simp [beatL]
theorem beatL_get (h : Int → Int) (l : List Int) (k : Nat) (hk : k < (beatL h l).length) (hk' : k < l.length) : (beatL h l)[k] = turnI k (h l[k], 0) := by simp [beatL]
theorem i1_sums (vs : List (Int × Int)) : sum1 (vs.map i1) = -sum2 vs ∧ sum2 (vs.map i1) = sum1 vs := by
  induction vs with
  | nil => simp [sum1, sum2]
  | cons v vs ih =>
    have e1 : sum1 (List.map i1 (v :: vs)) = -v.2 + sum1 (vs.map i1) := by simp [sum1, i1]
    have e2 : sum2 (List.map i1 (v :: vs)) = v.1 + sum2 (vs.map i1) := by simp [sum2, i1]
    have e3 : sum1 (v :: vs) = v.1 + sum1 vs := by simp [sum1]
    have e4 : sum2 (v :: vs) = v.2 + sum2 vs := by simp [sum2]
    rw [e1, e2, e3, e4, ih.1, ih.2]
    omega
/-- behind one number more the beat is turned by a quarter -/
theorem beat_behind (h : Int → Int) (l : List Int) (h0 : h 0 = 0) : sum1 (beatL h (0 :: l)) = -sum2 (beatL h l) ∧ sum2 (beatL h (0 :: l)) = sum1 (beatL h l) := by
  have e : beatL h (0 :: l) = (0, 0) :: (beatL h l).map i1 := by
    unfold beatL
    rw [List.mapIdx_cons, h0]
    congr 1
    apply List.ext_getElem
    · simp
    · intro i h1 h2
      simp [turnI]
  rw [e]
  have e3 : sum1 ((0, 0) :: (beatL h l).map i1) = sum1 ((beatL h l).map i1) := by simp [sum1]
  have e4 : sum2 ((0, 0) :: (beatL h l).map i1) = sum2 ((beatL h l).map i1) := by simp [sum2]
  rw [e3, e4]
  exact i1_sums _
/-- a list of one number, four times as many, has no beat -/
theorem beat_same (h : Int → Int) (n : Int) (t : Nat) : sum1 (beatL h (List.replicate (4 * t) n)) = 0 ∧ sum2 (beatL h (List.replicate (4 * t) n)) = 0 := by
  have hm : ∀ (t k : Nat), sum1 ((List.replicate (4 * t) n).mapIdx fun i n => turnI (i + 4 * k) (h n, 0)) = 0 ∧ sum2 ((List.replicate (4 * t) n).mapIdx fun i n => turnI (i + 4 * k) (h n, 0)) = 0 := by
    intro t
    induction t with
    | zero => intro k; simp [sum1, sum2]
    | succ t ih =>
      intro k
      have e : List.replicate (4 * (t + 1)) n = n :: n :: n :: n :: List.replicate (4 * t) n := by
        rw [show 4 * (t + 1) = 4 * t + 4 by omega]; rfl
      have h' := ih (k + 1)
      rw [e]
      simp only [List.mapIdx_cons]
      have e2 : (fun (i : Nat) (n : Int) => turnI (i + 1 + 1 + 1 + 1 + 4 * k) (h n, 0)) = fun i n => turnI (i + 4 * (k + 1)) (h n, 0) := by
        funext i n; congr 1; omega
      rw [e2]
      generalize List.mapIdx (fun i n => turnI (i + 4 * (k + 1)) (h n, 0)) (List.replicate (4 * t) n) = r at *
      have t0 : turnI (0 + 4 * k) (h n, 0) = (h n, 0) := by rw [← turnI_mod, show (0 + 4 * k) % 4 = 0 by omega]; rfl
      have t1 : turnI (0 + 1 + 4 * k) (h n, 0) = (0, h n) := by rw [← turnI_mod, show (0 + 1 + 4 * k) % 4 = 1 by omega]; rfl
      have t2 : turnI (0 + 1 + 1 + 4 * k) (h n, 0) = (-h n, 0) := by rw [← turnI_mod, show (0 + 1 + 1 + 4 * k) % 4 = 2 by omega]; rfl
      have t3 : turnI (0 + 1 + 1 + 1 + 4 * k) (h n, 0) = (0, -h n) := by rw [← turnI_mod, show (0 + 1 + 1 + 1 + 4 * k) % 4 = 3 by omega]; rfl
      rw [t0, t1, t2, t3]
      have e3 : sum1 ((h n, 0) :: (0, h n) :: (-h n, 0) :: (0, -h n) :: r) = h n + (-h n + sum1 r) := by simp [sum1]
      have e4 : sum2 ((h n, 0) :: (0, h n) :: (-h n, 0) :: (0, -h n) :: r) = h n + (-h n + sum2 r) := by simp [sum2]
      rw [e3, e4, h'.1, h'.2]
      omega
  have := hm t 0
  simpa [beatL] using this
theorem beat_small (h : Int → Int) (hh : ∀ n, 0 ≤ h n ∧ h n ≤ 1099511627776) (l : List Int) (k : Nat) : (sum1 ((beatL h l).take k)).natAbs ≤ l.length * 1099511627776 ∧ (sum2 ((beatL h l).take k)).natAbs ≤ l.length * 1099511627776 := by
  have h1 := sums_small ((beatL h l).take k) 1099511627776 (fun v hv => by
    obtain ⟨i, hi, hg⟩ := List.getElem_of_mem (List.mem_of_mem_take hv)
    rw [← hg, beatL_get h l i hi (by simpa [beatL_len] using hi)]
    have := hh (l[i]'(by simpa [beatL_len] using hi))
    exact turnI_small _ _ _ (by simp; omega) (by simp))
  have h2 : ((beatL h l).take k).length ≤ l.length := by rw [List.length_take, beatL_len]; omega
  have h3 : ((beatL h l).take k).length * 1099511627776 ≤ l.length * 1099511627776 := Nat.mul_le_mul_right _ h2
  exact ⟨Nat.le_trans h1.1 h3, Nat.le_trans h1.2 h3⟩
/-- the beat -/
def beatI (h : Int → Int) (l : List Int) : Int × Int := if 4096 < l.length then (0, 0) else (sum1 (beatL h l), sum2 (beatL h l))
end Fb
