/- Numbers by sevens: the bytes of a number, and what bytes are read as. Nothing here speaks of a program. -/
import Derived.ProofKit
import Derived.Test.YtgijhfdlecdijaaLib
namespace Fb

/-- the bytes of a number -/
def leb (n : Nat) : List Int := if n < 128 then [(n : Int)] else (((n % 128 : Nat) : Int) + 128) :: leb (n / 128)
/-- how many bytes stand ahead of the first that is below 128 -/
def fi : List Int → Nat
  | [] => 0
  | x :: r => if x < 128 then 0 else fi r + 1
/-- the number whose sevens these are -/
def vl : List Int → Nat
  | [] => 0
  | x :: r => (x % 128).toNat + 128 * vl r

theorem leb_small {n : Nat} (h : n < 128) : leb n = [(n : Int)] := by rw [leb, if_pos h]
theorem leb_big {n : Nat} (h : 128 ≤ n) : leb n = (((n % 128 : Nat) : Int) + 128) :: leb (n / 128) := by rw [leb, if_neg (by omega)]
theorem leb_bytes (n : Nat) : Bytes (leb n) := by
  induction n using Nat.strongRecOn with
  | _ n ih =>
    by_cases h : n < 128
    · rw [leb_small h]; intro x hx; simp at hx; omega
    · rw [leb_big (by omega)]
      intro x hx
      rcases List.mem_cons.1 hx with rfl | hx
      · omega
      · exact ih (n / 128) (by omega) x hx
theorem leb_pos (n : Nat) : 1 ≤ (leb n).length := by
  by_cases h : n < 128
  · simp [leb_small h]
  · simp [leb_big (n := n) (by omega)]
theorem leb_len (n : Nat) : ∀ k, n < 128 ^ (k + 1) → (leb n).length ≤ k + 1 := by
  induction n using Nat.strongRecOn with
  | _ n ih =>
    intro k hk
    by_cases h : n < 128
    · simp [leb_small h]
    · rw [leb_big (by omega)]
      rcases k with _ | k
      · simp at hk; omega
      · have := ih (n / 128) (by omega) k (by rw [Nat.pow_succ] at hk; omega)
        simpa using this
theorem leb_ten {n : Nat} (h : n < 18446744073709551616) : (leb n).length ≤ 10 := leb_len n 9 (by simpa using Nat.lt_of_lt_of_le h (by decide))
theorem vl_leb (n : Nat) : vl (leb n) = n := by
  induction n using Nat.strongRecOn with
  | _ n ih =>
    by_cases h : n < 128
    · rw [leb_small h]; simp [vl]; omega
    · rw [leb_big (by omega)]
      simp only [vl, ih (n / 128) (by omega)]
      omega
theorem fi_leb (n : Nat) (r : List Int) : fi (leb n ++ r) + 1 = (leb n).length := by
  induction n using Nat.strongRecOn with
  | _ n ih =>
    by_cases h : n < 128
    · rw [leb_small h]; simp [fi]; omega
    · have := ih (n / 128) (by omega)
      rw [leb_big (by omega), List.cons_append, fi, if_neg (by omega), List.length_cons]
      omega
theorem fi_le : ∀ l : List Int, fi l ≤ l.length
  | [] => Nat.le_refl _
  | x :: r => by
    have := fi_le r
    rw [fi]; split
    · omega
    · simp; omega
theorem fi_take : ∀ (l : List Int) (k : Nat), fi (l.take k) = min (fi l) (min k l.length)
  | [], k => by simp [fi]
  | x :: r, 0 => by simp [fi]
  | x :: r, k + 1 => by
    have := fi_take r k
    simp only [List.take_succ_cons, fi, List.length_cons]
    split
    · omega
    · omega
/-- what stands ahead of it is at least 128 -/
theorem fi_ahead : ∀ (l : List Int) (k : Nat) (h : k < l.length), k < fi l → 128 ≤ l[k]
  | [], k, h, _ => absurd h (by simp)
  | x :: r, 0, _, h1 => by
    rw [fi] at h1; split at h1
    · omega
    · simp; omega
  | x :: r, k + 1, h, h1 => by
    rw [fi] at h1; split at h1
    · omega
    · simpa using fi_ahead r k (by simpa using h) (by omega)
theorem fi_at : ∀ (l : List Int) (h : fi l < l.length), l[fi l] < 128
  | [], h => absurd h (by simp)
  | x :: r, h => by
    by_cases h1 : x < 128
    · have e : fi (x :: r) = 0 := by rw [fi, if_pos h1]
      simp only [e, List.getElem_cons_zero]; exact h1
    · have e : fi (x :: r) = fi r + 1 := by rw [fi, if_neg h1]
      simp only [e, List.getElem_cons_succ]
      exact fi_at r (by rw [e] at h; simpa using h)
theorem fi_next {l : List Int} {k : Nat} (h : k < l.length) (hk : k ≤ fi l) (hx : 128 ≤ l[k]) : k + 1 ≤ fi l := by
  rcases Nat.lt_or_eq_of_le hk with h1 | rfl
  · exact h1
  · have := fi_at l h; omega
theorem fi_here {l : List Int} {k : Nat} (h : k < l.length) (hk : k ≤ fi l) (hx : l[k] < 128) : fi l = k := by
  rcases Nat.lt_or_eq_of_le hk with h1 | h1
  · have := fi_ahead l k h h1; omega
  · exact h1.symm
theorem vl_append : ∀ a b : List Int, vl (a ++ b) = vl a + 128 ^ a.length * vl b
  | [], b => by simp [vl]
  | x :: r, b => by
    have := vl_append r b
    simp only [List.cons_append, vl, List.length_cons, this, Nat.pow_succ, Nat.mul_add]
    rw [Nat.mul_comm (128 ^ r.length) 128, Nat.mul_assoc, Nat.add_assoc]
theorem vl_lt : ∀ l : List Int, vl l < 128 ^ l.length
  | [] => by simp [vl]
  | x :: r => by
    have := vl_lt r
    simp only [vl, List.length_cons, Nat.pow_succ]
    omega
/-- bytes of which the last alone is below 128, and is not 0 unless it is the first: they are its number's -/
theorem leb_vl : ∀ l : List Int, Bytes l → fi l + 1 = l.length → (l.length = 1 ∨ l[l.length - 1]?.getD 0 ≠ 0) → leb (vl l) = l
  | [], _, h, _ => by simp at h
  | x :: r, hb, hf, hz => by
    have hx := hb x (by simp)
    by_cases h1 : x < 128
    · have e : fi (x :: r) = 0 := by rw [fi, if_pos h1]
      rw [e] at hf
      have hr : r = [] := by simp at hf; exact hf
      subst hr
      have : vl [x] = x.toNat := by simp [vl]; omega
      rw [this, leb_small (by omega)]
      simp; omega
    · have e : fi (x :: r) = fi r + 1 := by rw [fi, if_neg h1]
      rw [e] at hf
      have hfr : fi r + 1 = r.length := by simpa using hf
      have hz' : r[r.length - 1]?.getD 0 ≠ 0 := by
        rcases hz with hz | hz
        · simp at hz; subst hz; simp at hfr
        · have e2 : (x :: r).length - 1 = (r.length - 1) + 1 := by simp; omega
          rw [e2] at hz; simpa using hz
      have ih := leb_vl r (fun y hy => hb y (by simp [hy])) hfr (.inr hz')
      have hpos : 0 < vl r := by
        rcases Nat.eq_zero_or_pos (vl r) with h0 | h0
        · exfalso
          rw [h0, leb_small (by omega)] at ih
          subst ih
          simp at hz'
        · exact h0
      have hv : vl (x :: r) = (x % 128).toNat + 128 * vl r := rfl
      have h2 : 128 ≤ vl (x :: r) := by rw [hv]; omega
      rw [leb_big h2]
      have h3 : vl (x :: r) / 128 = vl r := by rw [hv]; omega
      have h4 : ((vl (x :: r) % 128 : Nat) : Int) + 128 = x := by rw [hv]; omega
      rw [h3, h4, ih]

theorem vl_next {l : List Int} {k : Nat} (h : k < l.length) : vl (l.take (k + 1)) = vl (l.take k) + 128 ^ k * (l[k] % 128).toNat := by
  rw [List.take_succ_eq_append_getElem h, vl_append, List.length_take, Nat.min_eq_left (by omega)]
  simp [vl]

/-- the error of the number with which some bytes (ten at most) begin -/
def uE (b : List Int) : Int :=
  if fi b = b.length then (if b.length < 10 then 10 else 11)
  else if (fi b = 9 ∧ 1 < b[fi b]?.getD 0) ∨ (0 < fi b ∧ b[fi b]?.getD 0 = 0) then 11 else 0

theorem uE_lt {b : List Int} (h : uE b = 0) : fi b < b.length := by
  have := fi_le b
  unfold uE at h
  split at h
  · split at h <;> omega
  · omega
theorem uE_no {b : List Int} (h : uE b = 0) : ¬((fi b = 9 ∧ 1 < b[fi b]?.getD 0) ∨ (0 < fi b ∧ b[fi b]?.getD 0 = 0)) := by
  have := uE_lt h
  unfold uE at h
  rw [if_neg (by omega)] at h
  split at h
  · omega
  · assumption
theorem uE_cases (b : List Int) : uE b = 0 ∨ uE b = 10 ∨ uE b = 11 := by
  unfold uE
  split
  · split <;> simp
  · split <;> simp
/-- what is read as a number has just its bytes, and is a number -/
theorem uE_leb {b : List Int} (hb : Bytes b) (h10 : b.length ≤ 10) (h : uE b = 0) : leb (vl (b.take (fi b + 1))) = b.take (fi b + 1) := by
  have hl := uE_lt h
  have hn := uE_no h
  refine leb_vl _ (fun x hx => hb x (List.mem_of_mem_take hx)) (by rw [fi_take, List.length_take]; omega) ?_
  rw [List.length_take]
  have e : min (fi b + 1) b.length = fi b + 1 := by omega
  rw [e]
  rcases Nat.eq_zero_or_pos (fi b) with h0 | h0
  · exact .inl (by omega)
  · refine .inr fun hz => hn (.inr ⟨h0, ?_⟩)
    rw [List.getElem?_take_of_lt (by omega)] at hz
    simpa using hz
theorem uE_val {b : List Int} (hb : Bytes b) (h10 : b.length ≤ 10) (h : uE b = 0) : vl (b.take (fi b + 1)) < 18446744073709551616 := by
  have hl := uE_lt h
  have hn := uE_no h
  by_cases h9 : fi b = 9
  · have hlen : b.length = 10 := by omega
    have h1 : b[9]?.getD 0 ≤ 1 := by
      have : ¬ 1 < b[fi b]?.getD 0 := fun h2 => hn (.inl ⟨h9, h2⟩)
      rw [h9] at this; omega
    have e : b.take (fi b + 1) = b.take 9 ++ [b[9]'(by omega)] := by
      rw [h9, List.take_succ_eq_append_getElem (by omega)]
    rw [List.getElem?_eq_getElem (by omega)] at h1
    simp only [Option.getD_some] at h1
    have h2 := hb b[9] (List.getElem_mem (by omega))
    have h3 := vl_lt (b.take 9)
    have h4 : (b.take 9).length = 9 := by simp; omega
    rw [h4] at h3
    rw [e, vl_append, h4]
    simp only [vl]
    generalize vl (b.take 9) = q at *
    generalize b[9] = x at *
    have h5 : (128 : Nat) ^ 9 = 9223372036854775808 := by decide
    rw [h5] at *
    have h6 : (x % 128).toNat ≤ 1 := by omega
    omega
  · have h3 := vl_lt (b.take (fi b + 1))
    have h4 : (b.take (fi b + 1)).length ≤ 9 := by rw [List.length_take]; omega
    have h5 : 128 ^ (b.take (fi b + 1)).length ≤ 128 ^ 9 := Nat.pow_le_pow_right (by decide) h4
    have h6 : (128 : Nat) ^ 9 = 9223372036854775808 := by decide
    omega
/-- a number's bytes, whatever stands behind them, are read as it -/
theorem uE_of_leb {n : Nat} (h : n < 18446744073709551616) (r : List Int) :
    uE ((leb n ++ r).take 10) = 0 ∧ fi ((leb n ++ r).take 10) + 1 = (leb n).length ∧ ((leb n ++ r).take 10).take (fi ((leb n ++ r).take 10) + 1) = leb n := by
  have h1 := leb_ten h
  have h0 := leb_pos n
  have hf := fi_leb n r
  have hft : fi ((leb n ++ r).take 10) = (leb n).length - 1 := by
    rw [fi_take]; simp only [List.length_append]; omega
  have e : ((leb n ++ r).take 10).take (fi ((leb n ++ r).take 10) + 1) = leb n := by
    rw [List.take_take, hft]
    have : min ((leb n).length - 1 + 1) 10 = (leb n).length := by omega
    rw [this, List.take_left]
  refine ⟨?_, by omega, e⟩
  have hlast : ∀ k, k < (leb n).length → ((leb n ++ r).take 10)[k]? = (leb n)[k]? := fun k hk => by
    rw [List.getElem?_take_of_lt (by omega), List.getElem?_append_left hk]
  have key : ∀ m : Nat, ((leb m).length = 1 ∨ (leb m)[(leb m).length - 1]?.getD 0 ≠ 0) := by
    intro m
    induction m using Nat.strongRecOn with
    | _ m ih =>
      by_cases hm : m < 128
      · left; simp [leb_small hm]
      · right
        rw [leb_big (by omega)]
        have hp := leb_pos (m / 128)
        simp only [List.length_cons, Nat.add_sub_cancel]
        have e1 : (leb (m / 128)).length = ((leb (m / 128)).length - 1) + 1 := by omega
        rw [e1, List.getElem?_cons_succ]
        rcases ih (m / 128) (by omega) with h1 | h1
        · by_cases hs : m / 128 < 128
          · rw [leb_small hs]; simp; omega
          · rw [leb_big (by omega)] at h1
            have := leb_pos (m / 128 / 128)
            simp only [List.length_cons] at h1; omega
        · exact h1
  have top : ∀ k m : Nat, (leb m).length = k + 1 → 128 ^ k * ((leb m)[k]?.getD 0).toNat ≤ m := by
    intro k
    induction k with
    | zero =>
      intro m hm
      by_cases hs : m < 128
      · rw [leb_small hs]; simp
      · rw [leb_big (by omega)] at hm
        have := leb_pos (m / 128)
        simp only [List.length_cons] at hm; omega
    | succ k ih =>
      intro m hm
      by_cases hs : m < 128
      · rw [leb_small hs] at hm; simp at hm
      · rw [leb_big (by omega)] at hm ⊢
        have := ih (m / 128) (by simpa using hm)
        rw [List.getElem?_cons_succ, Nat.pow_succ, Nat.mul_comm (128 ^ k) 128, Nat.mul_assoc]
        omega
  unfold uE
  rw [if_neg (by rw [hft]; simp only [List.length_take, List.length_append]; omega), hft, hlast _ (by omega), if_neg]
  rintro (⟨h9, h2⟩ | ⟨h2, h3⟩)
  · have ht := top 9 n (by omega)
    rw [h9] at h2
    have h6 : (128 : Nat) ^ 9 = 9223372036854775808 := by decide
    rw [h6] at ht
    omega
  · rcases key n with h4 | h4
    · omega
    · exact h4 h3
/-- cut off anywhere, a number's bytes are too few -/
theorem uE_cut {n : Nat} (h : n < 18446744073709551616) {k : Nat} (hk : k < (leb n).length) : uE (((leb n).take k).take 10) = 10 := by
  have h1 := leb_ten h
  have hf := fi_leb n []
  rw [List.append_nil] at hf
  have e : ((leb n).take k).take 10 = (leb n).take k := List.take_of_length_le (by simp; omega)
  have hl : ((leb n).take k).length = k := by rw [List.length_take]; omega
  rw [e]
  unfold uE
  rw [fi_take, hl, if_pos (by omega), if_pos (by omega)]
/-- the bytes that are looked at: ten at most, from p on -/
def win (zs : List Int) (p : Int) : List Int := (zs.drop p.toNat).take 10
/-- where a number is read: the place behind it, the error, the number -/
def uintS (zs : List Int) (p er : Int) : Int × Int × Nat :=
  if er = 0 ∧ 0 ≤ p ∧ p ≤ zs.length then
    (if uE (win zs p) = 0 then (p + ((fi (win zs p) + 1 : Nat) : Int), 0, vl ((win zs p).take (fi (win zs p) + 1))) else (p, uE (win zs p), 0))
  else (p, if er = 0 then 1 else er, 0)
theorem uintS_no {zs : List Int} {p er : Int} (h : ¬(er = 0 ∧ 0 ≤ p ∧ p ≤ zs.length)) : uintS zs p er = (p, if er = 0 then 1 else er, 0) := by unfold uintS; rw [if_neg h]
theorem uintS_bad {zs : List Int} {p : Int} (h : 0 ≤ p ∧ p ≤ zs.length) (hE : uE (win zs p) ≠ 0) : uintS zs p 0 = (p, uE (win zs p), 0) := by
  unfold uintS; rw [if_pos ⟨rfl, h⟩, if_neg hE]
theorem uintS_ok {zs : List Int} {p : Int} (h : 0 ≤ p ∧ p ≤ zs.length) (hE : uE (win zs p) = 0) : uintS zs p 0 = (p + ((fi (win zs p) + 1 : Nat) : Int), 0, vl ((win zs p).take (fi (win zs p) + 1))) := by
  unfold uintS; rw [if_pos ⟨rfl, h⟩, if_pos hE]
theorem uS_err {zs : List Int} {q : Nat} {E p' e' : Int} {v : Nat} (hp : 0 ≤ (q : Int) ∧ (q : Int) ≤ zs.length) (hE : uE (win zs q) = E) (hne : E ≠ 0) (hu : uintS zs q 0 = (p', e', v)) : (q : Int) = p' ∧ E = e' ∧ 0 = v := by
  rw [uintS_bad hp (by omega), hE] at hu
  simpa only [Prod.mk.injEq] using hu
theorem uS_good {zs : List Int} {q k : Nat} {p' e' : Int} {v : Nat} (hp : 0 ≤ (q : Int) ∧ (q : Int) ≤ zs.length) (hE : uE (win zs q) = 0) (hk : fi (win zs q) = k) (hu : uintS zs q 0 = (p', e', v)) :
    (q : Int) + (k : Int) + 1 = p' ∧ 0 = e' ∧ vl ((win zs q).take (k + 1)) = v := by
  rw [uintS_ok hp hE, hk] at hu
  simp only [Prod.mk.injEq] at hu
  exact ⟨by omega, hu.2⟩
theorem uE_end {b : List Int} (h : fi b = b.length) : uE b = if b.length < 10 then 10 else 11 := by unfold uE; rw [if_pos h]
theorem uE_here {b : List Int} {k : Nat} {x : Int} (h : fi b = k) (hk : k < b.length) (hx : b[k]? = some x) : uE b = if (k = 9 ∧ 1 < x) ∨ (0 < k ∧ x = 0) then 11 else 0 := by
  unfold uE
  rw [if_neg (by omega), h, hx, Option.getD_some]
theorem uS_lt {zs : List Int} {p er p' e' : Int} {v : Nat} (hb : Bytes zs) (hu : uintS zs p er = (p', e', v)) : v < 18446744073709551616 := by
  unfold uintS at hu
  split at hu
  · split at hu
    · rename_i h
      simp only [Prod.mk.injEq] at hu
      rw [← hu.2.2]
      exact uE_val (fun x hx => hb x (List.mem_of_mem_drop (List.mem_of_mem_take hx))) (by simp [win]; omega) h
    · simp only [Prod.mk.injEq] at hu; omega
  · simp only [Prod.mk.injEq] at hu; omega
/-- the signed number of which this is twice, or twice what it is below 0, less 1 -/
def zag (v : Nat) : Int := if v % 2 = 1 then -((v / 2 : Nat) : Int) - 1 else ((v / 2 : Nat) : Int)
open Go in
theorem u64_in (x : Int) (h0 : 0 ≤ x) (h1 : x < 18446744073709551616) : IntKind.u64.wrap x = x := by
  unfold IntKind.wrap
  simp [IntKind.bits, IntKind.signed]
  omega
end Fb
