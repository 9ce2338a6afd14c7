/- Texts laid together: WireM, WireV, Wire1, Wire2. -/
import Derived.ProofKit
import Derived.Test.YtondnbnaoacanaaGreatDoorBase
import Derived.Test.YtondnbnaoacanaaGreatDoorRows
import Derived.RangeFuncNested
import Derived.RangeFuncBound
import Derived.RangeFuncCalls
import Derived.RangeFuncLeaves
import Derived.RangeFuncBox
import Derived.Shelf.Abstract
import Derived.Shelf.RegionOpen
import Derived.WalkKit
import Derived.OwnWalkIn
import Derived.TacticsInMore
import Derived.LoopNIn
import Derived.LoopIn
import Derived.WalkLawsBesides
import Derived.Lib.Hide
import Derived.Lib.SliceRun
import Derived.OwnWalk
import Derived.Lib.AppendStr
/- Numbers by sevens: the bytes of a number, and what bytes are read as. Nothing here speaks of a program. -/
namespace Fb

/-- the bytes of a number -/
def leb (n : Nat) : List Int := if n < 128 then [(n : Int)] else (((n % 128 : Nat) : Int) + 128) :: leb (n / 128)
/-- how many bytes stand ahead of the first that is below 128 -/
def fi : List Int → Nat
  | [] => 0
  | x :: r => if x < 128 then 0 else fi r + 1
/-- the number whose sevens these are -/
def vl : List Int → Nat
  | [] => 0
  | x :: r => (x % 128).toNat + 128 * vl r

theorem leb_small {n : Nat} (h : n < 128) : leb n = [(n : Int)] := by rw [leb, if_pos h]
theorem leb_big {n : Nat} (h : 128 ≤ n) : leb n = (((n % 128 : Nat) : Int) + 128) :: leb (n / 128) := by rw [leb, if_neg (by omega)]
theorem leb_bytes (n : Nat) : Bytes (leb n) := by
  induction n using Nat.strongRecOn with
  | _ n ih =>
    by_cases h : n < 128
    · rw [leb_small h]; intro x hx; simp at hx; omega
    · rw [leb_big (by omega)]
      intro x hx
      rcases List.mem_cons.1 hx with rfl | hx
      · omega
      · exact ih (n / 128) (by omega) x hx
theorem leb_pos (n : Nat) : 1 ≤ (leb n).length := by
  by_cases h : n < 128
  · simp [leb_small h]
  · simp [leb_big (n := n) (by omega)]
theorem leb_len (n : Nat) : ∀ k, n < 128 ^ (k + 1) → (leb n).length ≤ k + 1 := by
  induction n using Nat.strongRecOn with
  | _ n ih =>
    intro k hk
    by_cases h : n < 128
    · simp [leb_small h]
    · rw [leb_big (by omega)]
      rcases k with _ | k
      · simp at hk; omega
      · have := ih (n / 128) (by omega) k (by rw [Nat.pow_succ] at hk; omega)
        simpa using this
theorem leb_ten {n : Nat} (h : n < 18446744073709551616) : (leb n).length ≤ 10 := leb_len n 9 (by simpa using Nat.lt_of_lt_of_le h (by decide))
theorem vl_leb (n : Nat) : vl (leb n) = n := by
  induction n using Nat.strongRecOn with
  | _ n ih =>
    by_cases h : n < 128
    · rw [leb_small h]; simp [vl]; omega
    · rw [leb_big (by omega)]
      simp only [vl, ih (n / 128) (by omega)]
      omega
theorem fi_leb (n : Nat) (r : List Int) : fi (leb n ++ r) + 1 = (leb n).length := by
  induction n using Nat.strongRecOn with
  | _ n ih =>
    by_cases h : n < 128
    · rw [leb_small h]; simp [fi]; omega
    · have := ih (n / 128) (by omega)
      rw [leb_big (by omega), List.cons_append, fi, if_neg (by omega), List.length_cons]
      omega
theorem fi_le : ∀ l : List Int, fi l ≤ l.length
  | [] => Nat.le_refl _
  | x :: r => by
    have := fi_le r
    rw [fi]; split
    · omega
    · simp; omega
theorem fi_take : ∀ (l : List Int) (k : Nat), fi (l.take k) = min (fi l) (min k l.length)
  | [], k => by simp [fi]
  | x :: r, 0 => by simp [fi]
  | x :: r, k + 1 => by
    have := fi_take r k
    simp only [List.take_succ_cons, fi, List.length_cons]
    split
    · omega
    · omega
/-- what stands ahead of it is at least 128 -/
theorem fi_ahead : ∀ (l : List Int) (k : Nat) (h : k < l.length), k < fi l → 128 ≤ l[k]
  | [], k, h, _ => absurd h (by simp)
  | x :: r, 0, _, h1 => by
    rw [fi] at h1; split at h1
    · omega
    · simp; omega
  | x :: r, k + 1, h, h1 => by
    rw [fi] at h1; split at h1
    · omega
    · simpa using fi_ahead r k (by simpa using h) (by omega)
theorem fi_at : ∀ (l : List Int) (h : fi l < l.length), l[fi l] < 128
  | [], h => absurd h (by simp)
  | x :: r, h => by
    by_cases h1 : x < 128
    · have e : fi (x :: r) = 0 := by rw [fi, if_pos h1]
      simp only [e, List.getElem_cons_zero]; exact h1
    · have e : fi (x :: r) = fi r + 1 := by rw [fi, if_neg h1]
      simp only [e, List.getElem_cons_succ]
      exact fi_at r (by rw [e] at h; simpa using h)
theorem fi_next {l : List Int} {k : Nat} (h : k < l.length) (hk : k ≤ fi l) (hx : 128 ≤ l[k]) : k + 1 ≤ fi l := by
  rcases Nat.lt_or_eq_of_le hk with h1 | rfl
  · exact h1
  · have := fi_at l h; omega
theorem fi_here {l : List Int} {k : Nat} (h : k < l.length) (hk : k ≤ fi l) (hx : l[k] < 128) : fi l = k := by
  rcases Nat.lt_or_eq_of_le hk with h1 | h1
  · have := fi_ahead l k h h1; omega
  · exact h1.symm
theorem vl_append : ∀ a b : List Int, vl (a ++ b) = vl a + 128 ^ a.length * vl b
  | [], b => by simp [vl]
  | x :: r, b => by
    have := vl_append r b
    simp only [List.cons_append, vl, List.length_cons, this, Nat.pow_succ, Nat.mul_add]
    rw [Nat.mul_comm (128 ^ r.length) 128, Nat.mul_assoc, Nat.add_assoc]
theorem vl_lt : ∀ l : List Int, vl l < 128 ^ l.length
  | [] => by simp [vl]
  | x :: r => by
    have := vl_lt r
    simp only [vl, List.length_cons, Nat.pow_succ]
    omega
/-- bytes of which the last alone is below 128, and is not 0 unless it is the first: they are its number's -/
theorem leb_vl : ∀ l : List Int, Bytes l → fi l + 1 = l.length → (l.length = 1 ∨ l[l.length - 1]?.getD 0 ≠ 0) → leb (vl l) = l
  | [], _, h, _ => by simp at h
  | x :: r, hb, hf, hz => by
    have hx := hb x (by simp)
    by_cases h1 : x < 128
    · have e : fi (x :: r) = 0 := by rw [fi, if_pos h1]
      rw [e] at hf
      have hr : r = [] := by simp at hf; exact hf
      subst hr
      have : vl [x] = x.toNat := by simp [vl]; omega
      rw [this, leb_small (by omega)]
      simp; omega
    · have e : fi (x :: r) = fi r + 1 := by rw [fi, if_neg h1]
      rw [e] at hf
      have hfr : fi r + 1 = r.length := by simpa using hf
      have hz' : r[r.length - 1]?.getD 0 ≠ 0 := by
        rcases hz with hz | hz
        · simp at hz; subst hz; simp at hfr
        · have e2 : (x :: r).length - 1 = (r.length - 1) + 1 := by simp; omega
          rw [e2] at hz; simpa using hz
      have ih := leb_vl r (fun y hy => hb y (by simp [hy])) hfr (.inr hz')
      have hpos : 0 < vl r := by
        rcases Nat.eq_zero_or_pos (vl r) with h0 | h0
        · exfalso
          rw [h0, leb_small (by omega)] at ih
          subst ih
          simp at hz'
        · exact h0
      have hv : vl (x :: r) = (x % 128).toNat + 128 * vl r := rfl
      have h2 : 128 ≤ vl (x :: r) := by rw [hv]; omega
      rw [leb_big h2]
      have h3 : vl (x :: r) / 128 = vl r := by rw [hv]; omega
      have h4 : ((vl (x :: r) % 128 : Nat) : Int) + 128 = x := by rw [hv]; omega
      rw [h3, h4, ih]

theorem vl_next {l : List Int} {k : Nat} (h : k < l.length) : vl (l.take (k + 1)) = vl (l.take k) + 128 ^ k * (l[k] % 128).toNat := by
  rw [List.take_succ_eq_append_getElem h, vl_append, List.length_take, Nat.min_eq_left (by omega)]
  simp [vl]

/-- the error of the number with which some bytes (ten at most) begin -/
def uE (b : List Int) : Int :=
  if fi b = b.length then (if b.length < 10 then 10 else 11)
  else if (fi b = 9 ∧ 1 < b[fi b]?.getD 0) ∨ (0 < fi b ∧ b[fi b]?.getD 0 = 0) then 11 else 0

theorem uE_lt {b : List Int} (h : uE b = 0) : fi b < b.length := by
  have := fi_le b
  unfold uE at h
  split at h
  · split at h <;> omega
  · omega
theorem uE_no {b : List Int} (h : uE b = 0) : ¬((fi b = 9 ∧ 1 < b[fi b]?.getD 0) ∨ (0 < fi b ∧ b[fi b]?.getD 0 = 0)) := by
  have := uE_lt h
  unfold uE at h
  rw [if_neg (by omega)] at h
  split at h
  · omega
  · assumption
theorem uE_cases (b : List Int) : uE b = 0 ∨ uE b = 10 ∨ uE b = 11 := by
  unfold uE
  split
  · split <;> simp
  · split <;> simp
/-- what is read as a number has just its bytes, and is a number -/
theorem uE_leb {b : List Int} (hb : Bytes b) (_ : b.length ≤ 10) (h : uE b = 0) : leb (vl (b.take (fi b + 1))) = b.take (fi b + 1) := by
  have hl := uE_lt h
  have hn := uE_no h
  refine leb_vl _ (fun x hx => hb x (List.mem_of_mem_take hx)) (by rw [fi_take, List.length_take]; omega) ?_
  rw [List.length_take]
  have e : min (fi b + 1) b.length = fi b + 1 := by omega
  rw [e]
  rcases Nat.eq_zero_or_pos (fi b) with h0 | h0
  · exact .inl (by omega)
  · refine .inr fun hz => hn (.inr ⟨h0, ?_⟩)
    rw [List.getElem?_take_of_lt (by omega)] at hz
    simpa using hz
theorem uE_val {b : List Int} (hb : Bytes b) (h10 : b.length ≤ 10) (h : uE b = 0) : vl (b.take (fi b + 1)) < 18446744073709551616 := by
  have hl := uE_lt h
  have hn := uE_no h
  by_cases h9 : fi b = 9
  · have hlen : b.length = 10 := by omega
    have h1 : b[9]?.getD 0 ≤ 1 := by
      have : ¬ 1 < b[fi b]?.getD 0 := fun h2 => hn (.inl ⟨h9, h2⟩)
      rw [h9] at this; omega
    have e : b.take (fi b + 1) = b.take 9 ++ [b[9]'(by omega)] := by
      rw [h9, List.take_succ_eq_append_getElem (by omega)]
    rw [List.getElem?_eq_getElem (by omega)] at h1
    simp only [Option.getD_some] at h1
    have h2 := hb b[9] (List.getElem_mem (by omega))
    have h3 := vl_lt (b.take 9)
    have h4 : (b.take 9).length = 9 := by simp; omega
    rw [h4] at h3
    rw [e, vl_append, h4]
    simp only [vl]
    generalize vl (b.take 9) = q at *
    generalize b[9] = x at *
    have h5 : (128 : Nat) ^ 9 = 9223372036854775808 := by decide
    rw [h5] at *
    have h6 : (x % 128).toNat ≤ 1 := by omega
    omega
  · have h3 := vl_lt (b.take (fi b + 1))
    have h4 : (b.take (fi b + 1)).length ≤ 9 := by rw [List.length_take]; omega
    have h5 : 128 ^ (b.take (fi b + 1)).length ≤ 128 ^ 9 := Nat.pow_le_pow_right (by decide) h4
    have h6 : (128 : Nat) ^ 9 = 9223372036854775808 := by decide
    omega
/-- a number's bytes, whatever stands behind them, are read as it -/
theorem uE_of_leb {n : Nat} (h : n < 18446744073709551616) (r : List Int) :
    uE ((leb n ++ r).take 10) = 0 ∧ fi ((leb n ++ r).take 10) + 1 = (leb n).length ∧ ((leb n ++ r).take 10).take (fi ((leb n ++ r).take 10) + 1) = leb n := by
  have h1 := leb_ten h
  have h0 := leb_pos n
  have hf := fi_leb n r
  have hft : fi ((leb n ++ r).take 10) = (leb n).length - 1 := by
    rw [fi_take]; simp only [List.length_append]; omega
  have e : ((leb n ++ r).take 10).take (fi ((leb n ++ r).take 10) + 1) = leb n := by
    rw [List.take_take, hft]
    have : min ((leb n).length - 1 + 1) 10 = (leb n).length := by omega
    rw [this, List.take_left]
  refine ⟨?_, by omega, e⟩
  have hlast : ∀ k, k < (leb n).length → ((leb n ++ r).take 10)[k]? = (leb n)[k]? := fun k hk => by
    rw [List.getElem?_take_of_lt (by omega), List.getElem?_append_left hk]
  have key : ∀ m : Nat, ((leb m).length = 1 ∨ (leb m)[(leb m).length - 1]?.getD 0 ≠ 0) := by
    intro m
    induction m using Nat.strongRecOn with
    | _ m ih =>
      by_cases hm : m < 128
      · left; simp [leb_small hm]
      · right
        rw [leb_big (by omega)]
        have hp := leb_pos (m / 128)
        simp only [List.length_cons, Nat.add_sub_cancel]
        have e1 : (leb (m / 128)).length = ((leb (m / 128)).length - 1) + 1 := by omega
        rw [e1, List.getElem?_cons_succ]
        rcases ih (m / 128) (by omega) with h1 | h1
        · by_cases hs : m / 128 < 128
          · rw [leb_small hs]; simp; omega
          · rw [leb_big (by omega)] at h1
            have := leb_pos (m / 128 / 128)
            simp only [List.length_cons] at h1; omega
        · exact h1
  have top : ∀ k m : Nat, (leb m).length = k + 1 → 128 ^ k * ((leb m)[k]?.getD 0).toNat ≤ m := by
    intro k
    induction k with
    | zero =>
      intro m hm
      by_cases hs : m < 128
      · rw [leb_small hs]; simp
      · rw [leb_big (by omega)] at hm
        have := leb_pos (m / 128)
        simp only [List.length_cons] at hm; omega
    | succ k ih =>
      intro m hm
      by_cases hs : m < 128
      · rw [leb_small hs] at hm; simp at hm
      · rw [leb_big (by omega)] at hm ⊢
        have := ih (m / 128) (by simpa using hm)
        rw [List.getElem?_cons_succ, Nat.pow_succ, Nat.mul_comm (128 ^ k) 128, Nat.mul_assoc]
        omega
  unfold uE
  rw [if_neg (by rw [hft]; simp only [List.length_take, List.length_append]; omega), hft, hlast _ (by omega), if_neg]
  rintro (⟨h9, h2⟩ | ⟨h2, h3⟩)
  · have ht := top 9 n (by omega)
    rw [h9] at h2
    have h6 : (128 : Nat) ^ 9 = 9223372036854775808 := by decide
    rw [h6] at ht
    omega
  · rcases key n with h4 | h4
    · omega
    · exact h4 h3
/-- cut off anywhere, a number's bytes are too few -/
theorem uE_cut {n : Nat} (h : n < 18446744073709551616) {k : Nat} (hk : k < (leb n).length) : uE (((leb n).take k).take 10) = 10 := by
  have h1 := leb_ten h
  have hf := fi_leb n []
  rw [List.append_nil] at hf
  have e : ((leb n).take k).take 10 = (leb n).take k := List.take_of_length_le (by simp; omega)
  have hl : ((leb n).take k).length = k := by rw [List.length_take]; omega
  rw [e]
  unfold uE
  rw [fi_take, hl, if_pos (by omega), if_pos (by omega)]
/-- the bytes that are looked at: ten at most, from p on -/
def win (zs : List Int) (p : Int) : List Int := (zs.drop p.toNat).take 10
/-- where a number is read: the place behind it, the error, the number -/
def uintS (zs : List Int) (p er : Int) : Int × Int × Nat :=
  if er = 0 ∧ 0 ≤ p ∧ p ≤ zs.length then
    (if uE (win zs p) = 0 then (p + ((fi (win zs p) + 1 : Nat) : Int), 0, vl ((win zs p).take (fi (win zs p) + 1))) else (p, uE (win zs p), 0))
  else (p, if er = 0 then 1 else er, 0)
theorem uintS_no {zs : List Int} {p er : Int} (h : ¬(er = 0 ∧ 0 ≤ p ∧ p ≤ zs.length)) : uintS zs p er = (p, if er = 0 then 1 else er, 0) := by unfold uintS; rw [if_neg h]
theorem uintS_bad {zs : List Int} {p : Int} (h : 0 ≤ p ∧ p ≤ zs.length) (hE : uE (win zs p) ≠ 0) : uintS zs p 0 = (p, uE (win zs p), 0) := by
  unfold uintS; rw [if_pos ⟨rfl, h⟩, if_neg hE]
theorem uintS_ok {zs : List Int} {p : Int} (h : 0 ≤ p ∧ p ≤ zs.length) (hE : uE (win zs p) = 0) : uintS zs p 0 = (p + ((fi (win zs p) + 1 : Nat) : Int), 0, vl ((win zs p).take (fi (win zs p) + 1))) := by
  unfold uintS; rw [if_pos ⟨rfl, h⟩, if_pos hE]
theorem uS_err {zs : List Int} {q : Nat} {E p' e' : Int} {v : Nat} (hp : 0 ≤ (q : Int) ∧ (q : Int) ≤ zs.length) (hE : uE (win zs q) = E) (hne : E ≠ 0) (hu : uintS zs q 0 = (p', e', v)) : (q : Int) = p' ∧ E = e' ∧ 0 = v := by
  rw [uintS_bad hp (by omega), hE] at hu
  simpa only [Prod.mk.injEq] using hu
theorem uS_good {zs : List Int} {q k : Nat} {p' e' : Int} {v : Nat} (hp : 0 ≤ (q : Int) ∧ (q : Int) ≤ zs.length) (hE : uE (win zs q) = 0) (hk : fi (win zs q) = k) (hu : uintS zs q 0 = (p', e', v)) :
    (q : Int) + (k : Int) + 1 = p' ∧ 0 = e' ∧ vl ((win zs q).take (k + 1)) = v := by
  rw [uintS_ok hp hE, hk] at hu
  simp only [Prod.mk.injEq] at hu
  exact ⟨by omega, hu.2⟩
theorem uE_end {b : List Int} (h : fi b = b.length) : uE b = if b.length < 10 then 10 else 11 := by unfold uE; rw [if_pos h]
theorem uE_here {b : List Int} {k : Nat} {x : Int} (h : fi b = k) (hk : k < b.length) (hx : b[k]? = some x) : uE b = if (k = 9 ∧ 1 < x) ∨ (0 < k ∧ x = 0) then 11 else 0 := by
  unfold uE
  rw [if_neg (by omega), h, hx, Option.getD_some]
theorem uS_lt {zs : List Int} {p er p' e' : Int} {v : Nat} (hb : Bytes zs) (hu : uintS zs p er = (p', e', v)) : v < 18446744073709551616 := by
  unfold uintS at hu
  split at hu
  · split at hu
    · rename_i h
      simp only [Prod.mk.injEq] at hu
      rw [← hu.2.2]
      exact uE_val (fun x hx => hb x (List.mem_of_mem_drop (List.mem_of_mem_take hx))) (by simp [win]; omega) h
    · simp only [Prod.mk.injEq] at hu; omega
  · simp only [Prod.mk.injEq] at hu; omega
/-- the signed number of which this is twice, or twice what it is below 0, less 1 -/
def zag (v : Nat) : Int := if v % 2 = 1 then -((v / 2 : Nat) : Int) - 1 else ((v / 2 : Nat) : Int)
open Go in
theorem u64_in (x : Int) (h0 : 0 ≤ x) (h1 : x < 18446744073709551616) : IntKind.u64.wrap x = x := by
  unfold IntKind.wrap
  simp [IntKind.bits, IntKind.signed]
  omega
end Fb
/- The number whose sevens some bytes are: a range over a function, from the last byte on. -/
namespace Go.Proofs.YtondnbnaoacanaaGreatDoor
open Go.RowKit Go.Shelf Fb
attribute [local go_sem] Oper.semAt_some

/-- a byte -/
abbrev B8 := { x : Int // 0 ≤ x ∧ x ≤ 255 }
def at8 {zs : List Int} (h : Bytes zs) (j : Nat) : B8 := ⟨zs[j]?.getD 0, by
  rcases Nat.lt_or_ge j zs.length with hj | hj
  · rw [List.getElem?_eq_getElem hj]; exact h _ (List.getElem_mem hj)
  · rw [List.getElem?_eq_none hj]; simp⟩
/-- what has come when k rounds are over: the last k, the last one first -/
def dn {zs : List Int} (h : Bytes zs) (k : Nat) : List (Nat × B8) := (List.range k).map fun j => (zs.length - 1 - j, at8 h (zs.length - 1 - j))
theorem dn_succ {zs : List Int} (h : Bytes zs) (k : Nat) : dn h (k + 1) = dn h k ++ [(zs.length - 1 - k, at8 h (zs.length - 1 - k))] := by simp [dn, List.range_succ]
theorem dn_length {zs : List Int} (h : Bytes zs) (k : Nat) : (dn h k).length = k := by simp [dn]

/-- what a round keeps: what lay below n₀, and the cell of the slice that is gone through -/
def KB (n₀ Bs : Nat) (A B : World) : Prop := Below n₀ A B ∧ B.cell? ⟨Bs, 0, none⟩ = A.cell? ⟨Bs, 0, none⟩
theorem KB.trans {n₀ Bs : Nat} {A B C : World} (h : KB n₀ Bs A B) (k : KB n₀ Bs B C) : KB n₀ Bs A C := ⟨h.1.trans k.1, k.2.trans h.2⟩
theorem KB.refl (n₀ Bs : Nat) (A : World) : KB n₀ Bs A A := ⟨Below.refl _ _, rfl⟩
theorem KB.put {n₀ Bs : Nat} {w : World} (hn : n₀ ≤ w.heap.size) (hB : Bs < w.heap.size) (W : World) (l : Nat) (o o' : Obj) (hl : w.heap.size ≤ l) (h : W.heap[l]? = some o) (ho : o.isCells = false) (hw : o.isWalk = false) : KB n₀ Bs W (W.putObj l o') :=
  ⟨belowK_b hn W l o o' hl h ho hw, World.cell?_of_block ((grownBy_putObj' W l o').block Bs (by have := (Array.getElem?_eq_some_iff.1 h).1; omega) (fun e => by cases e; omega))⟩

set_option maxRecDepth 100000 in
set_option maxHeartbeats 2000000 in
theorem back1_in (F : Fence) (n : Nat) (hf : F.fn 123) (hro : F.round = none) (hn : 1 ≤ n) (l Bs n₀ b off cap : Nat) (zs : List Int) (hz : Bytes zs) (hlen : zs.length ≤ 1000000) (hb : b < n₀) (J Jx : List (Nat × B8) → World → Prop)
    (hY : ∀ pre x W, J pre W → pre.length < zs.length → YieldAt F (n - 1) Tryz.prog l #[.int .i64 (x.1 : Int), .int .u8 x.2.1] W fun e W' =>
      (e = .returned (.bool true) ∧ J (pre ++ [x]) W' ∧ KB n₀ Bs W W') ∨ (e = .returned (.bool false) ∧ Jx (pre ++ [x]) W'))
    (W : World) (hBs : W.cell? ⟨Bs, 0, none⟩ = some (.slice (some ⟨b, off, none⟩) zs.length cap)) (hc : ∀ j, j < zs.length → W.cell? ⟨b, off + j, none⟩ = some (.int .u8 (zs[j]?.getD 0))) (h0 : J [] W) :
    CallsIn F n Tryz.prog 123 #[.func (.yield l) #[] #[], .pointer (some ⟨Bs, 0, none⟩)] W fun e W' => (∃ v, e = .returned v) ∧
      ((∃ ys, ys = dn hz zs.length ∧ J ys W') ∨ (∃ pre, (∃ k, k ≤ zs.length ∧ pre = dn hz k) ∧ Jx pre W')) := by
  refine callsIn_of_wp Tryz.func123 rfl hf ?_ hro
  simp only [Tryz.ntmps123, List.size_toArray, List.length_cons, List.length_nil, Nat.reduceAdd, Nat.reduceSub, Array.replicate_succ, Array.replicate_zero, List.push_toArray, List.append_toArray, List.nil_append, List.cons_append]
  gi_wp2
  gi_loopw [3] (fun i wr => ∃ (q : Int) (k : Nat), Hid (q = (k : Int) - 1) ∧ k ≤ zs.length ∧ i = .int .i64 q ∧ J (dn hz (zs.length - k)) wr ∧ KB n₀ Bs W wr)
    (fun i _ => (intOf i + 1).toNat)
  case atStart => exact ⟨_, zs.length, rfl, Nat.le_refl _, rfl, by simpa [dn] using h0, KB.refl _ _ _⟩
  case round =>
    obtain ⟨q, k, hq, hk, rfl, hJs, hnx⟩ := hrel
    have hs : wr.cell? ⟨Bs, 0, none⟩ = some (.slice (some ⟨b, off, none⟩) zs.length cap) := hnx.2.trans hBs
    rcases k with _ | i
    · obtain rfl : q = -1 := by have := hq.out; simpa using this
      clear hq
      gi_wp2
      go_end0
      exact ⟨⟨_, rfl⟩, .inl ⟨_, rfl, by simpa using hJs⟩⟩
    · obtain rfl : q = (i : Int) := by have := hq.out; omega
      clear hq
      obtain ⟨fn, tmps, assign, body, hy, hR⟩ := hY _ (i, at8 hz i) wr hJs (by rw [dn_length]; omega)
      have hcx : wr.cell? ⟨b, off + i, none⟩ = some (.int .u8 (at8 hz i).1) := (hnx.1.cell (p := ⟨b, _, none⟩) hb).trans (hc _ (by omega))
      have hd : dn hz (zs.length - i) = dn hz (zs.length - (i + 1)) ++ [(i, at8 hz i)] := by
        have e1 : zs.length - i = (zs.length - (i + 1)) + 1 := by omega
        have e2 : zs.length - 1 - (zs.length - (i + 1)) = i := by omega
        rw [e1, dn_succ, e2]
      have HD := hid hd
      clear hd
      generalize (at8 hz i) = x at *
      dsimp only at hy
      gi_wp2
      refine hR.mono ?_
      rintro e W3 (⟨rfl, hJ3, hk3⟩ | ⟨rfl, hJx3⟩)
      · gi_wp2
        go_roundw
        case rel => exact ⟨_, i, rfl, by omega, rfl, by rw [HD.out]; exact hJ3, hnx.trans hk3⟩
        case measure => simp [intOf]
      · gi_wp2
        refine bodyPost_ret (results_none rfl _ _ _) rfl ?_
        exact ⟨⟨_, rfl⟩, .inr ⟨_, ⟨zs.length - i, by omega, HD.out.symm⟩, hJx3⟩⟩

set_option maxHeartbeats 1000000 in
theorem back_in (F : Fence) (n : Nat) (hf : F.fn 120) (hro : F.round = none) (a : Option Addr) (len cap : Nat) (w : World) :
    CallsIn F n Tryz.prog 120 #[.slice a len cap] w fun e w' => e = .returned (.func (.func 123) #[] #[.pointer (some ⟨w.heap.size, 0, none⟩)]) ∧ w' = w.alloc (.cells #[.slice a len cap] 26) := by
  refine callsIn_of_wp Tryz.func120 rfl hf ?_ hro
  simp only [Tryz.ntmps120, List.size_toArray, List.length_cons, List.length_nil, Nat.reduceAdd, Nat.reduceSub, Array.replicate_succ, Array.replicate_zero, List.push_toArray, List.append_toArray, List.nil_append, List.cons_append]
  gi_wp2
  go_ret
  exact ⟨rfl, rfl⟩

theorem back_stops (F : Fence) (n : Nat) (hf : F.fn 123) (hro : F.round = none) (hn : 1 ≤ n) (Bs n₀ b off cap : Nat) (zs : List Int) (hz : Bytes zs) (hlen : zs.length ≤ 1000000) (w : World) (hBs : Bs < w.heap.size) (hn₀ : n₀ ≤ w.heap.size) (hb : b < n₀)
    (hcs : w.cell? ⟨Bs, 0, none⟩ = some (.slice (some ⟨b, off, none⟩) zs.length cap)) (hc : ∀ j, j < zs.length → w.cell? ⟨b, off + j, none⟩ = some (.int .u8 (zs[j]?.getD 0))) :
    SeqStopsK F n Tryz.prog 123 #[.pointer (some ⟨Bs, 0, none⟩)] (fun x : Nat × B8 => #[Value.int .i64 (x.1 : Int), Value.int .u8 x.2.1]) (KB n₀ Bs) (fun ys => ys = dn hz zs.length)
      (fun pre => ∃ k, k ≤ zs.length ∧ pre = dn hz k) zs.length w := fun l J Jx W hW _ _ hY h0 =>
  back1_in F n hf hro hn l Bs n₀ b off cap zs hz hlen hb J Jx hY W ((hW.cell (p := ⟨Bs, 0, none⟩) hBs).trans hcs) (fun j hj => (hW.cell (p := ⟨b, off + j, none⟩) (by show b < _; omega)).trans (hc j hj)) h0

/-- what the rounds make of the number -/
def accI : List (Nat × B8) → Int := List.foldl (fun s x => IntKind.u64.wrap (IntKind.u64.wrap (s * 128) + x.2.1 % 128)) 0
theorem accI_snoc (l : List (Nat × B8)) (x : Nat × B8) : accI (l ++ [x]) = IntKind.u64.wrap (IntKind.u64.wrap (accI l * 128) + x.2.1 % 128) := by simp [accI]
set_option maxRecDepth 100000 in
set_option maxHeartbeats 2000000 in
theorem value_in (F : Fence) (n : Nat) (h3 : F.fn 116) (h5 : F.fn 120) (h7 : F.fn 123) (hro : F.round = none) (hn : 3 ≤ n) (b off cap : Nat) (zs : List Int) (hz : Bytes zs) (hlen : zs.length ≤ 1000000)
    (w : World) (hb : b < w.heap.size) (hc : ∀ j, j < zs.length → w.cell? ⟨b, off + j, none⟩ = some (.int .u8 (zs[j]?.getD 0))) :
    CallsIn F n Tryz.prog 116 #[.slice (some ⟨b, off, none⟩) zs.length cap] w fun e W' => e = .returned (.int .u64 (accI (dn hz zs.length))) ∧ Below w.heap.size w W' := by
  have h1 : 1 ≤ n := by omega
  refine callsIn_of_wp_marks Tryz.func116 rfl h3 ?_ hro
  simp only [Tryz.ntmps116, List.size_toArray, List.length_cons, List.length_nil, Nat.reduceAdd, Nat.reduceSub, Array.replicate_succ, Array.replicate_zero, List.push_toArray, List.append_toArray, List.nil_append, List.cons_append]
  gi_wp2_with (gi_at_call 120; refine (back_in F (n - 1) h5 hro _ _ _ _).mono ?_; rintro e w' ⟨rfl, rfl⟩)
  have bS := Boxed.new w 58 (.int .u64 0)
  have bN := Boxed.new (w.alloc (.cells #[.int .u64 0] 58)) 26 (.slice (some ⟨b, off, none⟩) zs.length cap)
  rw [World.size_alloc] at bN
  have hB0 : Below w.heap.size w ((w.alloc (.cells #[.int .u64 0] 58)).alloc (.cells #[.slice (some ⟨b, off, none⟩) zs.length cap] 26)) := ((Below.refl _ w).alloc (Nat.le_refl _) _).alloc (by simp) _
  refine wpIn_rangeFunc_ownG hro h1 (gf := 123) (lb := #[.pointer (some ⟨w.heap.size + 1, 0, none⟩)]) rfl h7 (enters_of Tryz.func123 (by kernel_rfl) rfl)
    (back_stops F (n - 1) h7 hro (by omega) (w.heap.size + 1) w.heap.size b off cap zs hz hlen _ (by simp) (by simp; omega) hb bN.cell (fun j hj => (hB0.cell (p := ⟨b, off + j, none⟩) hb).trans (hc j hj))) KB.trans (KB.put (by simp; omega) (by simp)) (Below.refl _ _) (fun _ => rfl)
    (fun pre W => (W.cell? ⟨w.heap.size, 0, none⟩ = some (.int .u64 (accI pre)) ∧ W.frozen? ⟨w.heap.size, 0, none⟩ = false) ∧ Below w.heap.size w W)
    (fun _ _ _ => False)
    (OwnFrom.and (Own.from (fun s A B row hs hg hr => ⟨cell_kept hs.1 hg hr, (frozen_kept hs.1 hg hr).trans hs.2⟩) _) (ownFrom_below (Nat.le_refl _) (by simp; omega)))
    (fun _ _ _ _ _ hs _ _ => hs)
    ⟨⟨(bS.alloc _).cell, (bS.alloc _).frozen⟩, hB0⟩
    (fun x => { tmps := #[.slice (some ⟨b, off, none⟩) zs.length cap, undef, .int .u64 0, .pointer (some ⟨w.heap.size, 0, none⟩), undef, .int .u8 x.2.1, .slice (some ⟨b, off, none⟩) zs.length cap, .func (.func 123) #[] #[.pointer (some ⟨w.heap.size + 1, 0, none⟩)], .int .i64 (x.1 : Int), .int .u8 x.2.1, undef, undef, undef, undef, undef, undef, undef], defers := [] }) ?assign ?body ?done ?stop
  case assign =>
    intro l x W K hK
    gi_wp2
    exact hK
  case body =>
    rintro l pre x W ⟨⟨hc, hf⟩, hB⟩ _
    obtain ⟨x1, x2, h0, h255⟩ := x
    gi_wp2
    refine ⟨(KeepsOthers.setCell _ _ _).from _, ⟨(Below.refl w.heap.size W).setCell (p := ⟨w.heap.size, 0, none⟩) (Nat.le_refl _) _, World.cell?_setCell_other _ _ _ _ (fun e => by simp at e)⟩, ⟨?_, by rw [World.frozen?_setCell]; exact hf⟩, hB.setCell (p := ⟨w.heap.size, 0, none⟩) (Nat.le_refl _) _⟩
    rw [accI_snoc]
    exact World.cell?_setCell_same' _ _ _ (by rw [hc]; rfl)
  case done =>
    rintro D ys W hD rfl ⟨⟨hc, _⟩, hB⟩ hK
    gi_wp2
    refine ⟨by simp, .inl ⟨_, _, rfl, run_takeDeferred hK, ?_⟩⟩
    exact ⟨_, results_tmp rfl _ _ _, rfl, hB.trans (belowK_b (w := w) (Nat.le_refl _) W D _ _ (by simp at hD; omega) hK rfl rfl)⟩
  case stop =>
    rintro D c pre W _ _ h _
    exact h.elim

theorem accI_eq {zs : List Int} (hz : Bytes zs) (hv : vl zs < 18446744073709551616) : ∀ k, k ≤ zs.length → accI (dn hz k) = ((vl (zs.drop (zs.length - k)) : Nat) : Int)
  | 0, _ => by simp [dn, accI, vl]
  | k + 1, hk => by
    have ih := accI_eq hz hv k (by omega)
    have e1 : zs.length - k = (zs.length - 1 - k) + 1 := by omega
    have e2 : zs.length - (k + 1) = zs.length - 1 - k := by omega
    have hi : zs.length - 1 - k < zs.length := by omega
    have e3 : zs.drop (zs.length - (k + 1)) = zs[zs.length - 1 - k] :: zs.drop (zs.length - k) := by
      rw [e2, e1]; exact List.drop_eq_getElem_cons hi
    have h8 : (at8 hz (zs.length - 1 - k)).1 = zs[zs.length - 1 - k] := by
      show zs[zs.length - 1 - k]?.getD 0 = _
      rw [List.getElem?_eq_getElem hi]; rfl
    have hb := hz _ (List.getElem_mem hi)
    have hle : vl (zs.drop (zs.length - (k + 1))) ≤ vl zs := by
      have := vl_append (zs.take (zs.length - (k + 1))) (zs.drop (zs.length - (k + 1)))
      rw [List.take_append_drop] at this
      have h1 : 0 < 128 ^ (zs.take (zs.length - (k + 1))).length := Nat.pow_pos (by decide)
      have h2 := Nat.le_mul_of_pos_left (vl (zs.drop (zs.length - (k + 1)))) h1
      omega
    rw [dn_succ, accI_snoc, ih, h8]
    rw [e3] at hle ⊢
    have hv2 : vl (zs[zs.length - 1 - k] :: zs.drop (zs.length - k)) = (zs[zs.length - 1 - k] % 128).toNat + 128 * vl (zs.drop (zs.length - k)) := rfl
    rw [hv2] at hle ⊢
    generalize zs[zs.length - 1 - k] = x at *
    generalize vl (zs.drop (zs.length - k)) = q at *
    rw [u64_in (↑q * 128) (by omega) (by omega), u64_in _ (by omega) (by omega)]
    omega

theorem value_any {b off cap : Nat} {zs : List Int} (hz : Bytes zs) (hlen : zs.length ≤ 10) (hv : vl zs < 18446744073709551616) (w : World) (hS : Sl w w.heap.size (some ⟨b, off, none⟩) zs.length (zs.map (Value.int .u8))) (h0 : 0 < zs.length) :
    Calls Tryz.prog 116 #[.slice (some ⟨b, off, none⟩) zs.length cap] w fun e W' => e = .returned (.int .u64 (vl zs : Nat)) ∧ Below w.heap.size w W' := by
  obtain ⟨b', o', e, hb, hc⟩ := hS.2 h0
  obtain ⟨rfl, rfl⟩ : b = b' ∧ off = o' := by simpa using e
  have h := callsIn_wide.1 (value_in Fence.wide 3 trivial trivial trivial rfl (Nat.le_refl _) b off cap zs hz (by omega) w hb (fun j hj => hc j _ (by rw [List.getElem?_map, List.getElem?_eq_getElem hj]; rfl)))
  rw [accI_eq hz hv zs.length (Nat.le_refl _), Nat.sub_self, List.drop_zero] at h
  exact h
end Go.Proofs.YtondnbnaoacanaaGreatDoor
/- Contracts of layer 3 (wire) and of its reference: the small functions of cursors and slices. -/
namespace Go.Proofs.YtondnbnaoacanaaGreatDoor
open Go.ChangeShapes Go.WideShapes Go.ChangeAt Go.RowKit Fb

/-- a cursor is right -/
def Rgt (n : Nat) (at_ er : Int) : Prop := er = 0 ∧ 0 ≤ at_ ∧ at_ ≤ n

set_option maxHeartbeats 1000000 in
theorem right_yes {A : Option Addr} {n c : Nat} {p er : Int} (h : Rgt n p er) (w : World) :
    Calls Tryz.prog 111 #[.agg #[.slice A n c, .int .i64 p, .int .i64 er]] w fun e w' => e = .returned (.bool true) ∧ w.alloc (.cells #[.slice A n c, .int .i64 p, .int .i64 er] 94) = w' := by
  obtain ⟨rfl, h1, h2⟩ := h
  go_enter Tryz.func111, Tryz.ntmps111
  go_wp2
  go_ret
  exact ⟨rfl, rfl⟩
set_option maxHeartbeats 1000000 in
theorem right_no {A : Option Addr} {n c : Nat} {p er : Int} (h : ¬ Rgt n p er) (w : World) :
    Calls Tryz.prog 111 #[.agg #[.slice A n c, .int .i64 p, .int .i64 er]] w fun e w' => e = .returned (.bool false) ∧ w.alloc (.cells #[.slice A n c, .int .i64 p, .int .i64 er] 94) = w' := by
  unfold Rgt at h
  by_cases h0 : er = 0
  · subst h0
    by_cases h1 : p < 0
    · clear h
      go_enter Tryz.func111, Tryz.ntmps111
      go_wp2
      go_ret
      exact ⟨rfl, rfl⟩
    · have h2 : decide (p ≤ (n : Int)) = false := by simp; omega
      have h3 : 0 ≤ p := by omega
      clear h h1
      go_enter Tryz.func111, Tryz.ntmps111
      go_wp2
      go_ret
      exact ⟨by first | rfl | simp [h2], rfl⟩
  · clear h
    go_enter Tryz.func111, Tryz.ntmps111
    go_wp2
    go_ret
    exact ⟨rfl, rfl⟩

set_option maxHeartbeats 1000000 in
theorem Right_yes {A : Option Addr} {n c : Nat} {p er : Int} (h : Rgt n p er) (w : World) :
    Calls Tryz.prog 83 #[.agg #[.slice A n c, .int .i64 p, .int .i64 er]] w fun e w' => e = .returned (.bool true) ∧ w.alloc (.cells #[.slice A n c, .int .i64 p, .int .i64 er] 94) = w' := by
  obtain ⟨rfl, h1, h2⟩ := h
  go_enter Tryz.func83, Tryz.ntmps83
  go_wp2
  go_ret
  exact ⟨rfl, rfl⟩
set_option maxHeartbeats 1000000 in
theorem Right_no {A : Option Addr} {n c : Nat} {p er : Int} (h : ¬ Rgt n p er) (w : World) :
    Calls Tryz.prog 83 #[.agg #[.slice A n c, .int .i64 p, .int .i64 er]] w fun e w' => e = .returned (.bool false) ∧ w.alloc (.cells #[.slice A n c, .int .i64 p, .int .i64 er] 94) = w' := by
  unfold Rgt at h
  by_cases h0 : er = 0
  · subst h0
    by_cases h1 : p < 0
    · clear h
      go_enter Tryz.func83, Tryz.ntmps83
      go_wp2
      go_ret
      exact ⟨rfl, rfl⟩
    · have h2 : decide (p ≤ (n : Int)) = false := by simp; omega
      have h3 : 0 ≤ p := by omega
      clear h h1
      go_enter Tryz.func83, Tryz.ntmps83
      go_wp2
      go_ret
      exact ⟨by first | rfl | simp [h2], rfl⟩
  · clear h
    go_enter Tryz.func83, Tryz.ntmps83
    go_wp2
    go_ret
    exact ⟨rfl, rfl⟩

set_option maxHeartbeats 1000000 in
theorem stay_any {A : Option Addr} {n c : Nat} {p er e2 e3 : Int} (h : (if er = 0 then e2 else er) = e3) (w : World) :
    Calls Tryz.prog 112 #[.agg #[.slice A n c, .int .i64 p, .int .i64 er], .int .i64 e2] w fun e w' => e = .returned (.agg #[.slice A n c, .int .i64 p, .int .i64 e3]) ∧ Below w.heap.size w w' := by
  by_cases h0 : er = 0
  · subst h0
    rw [if_pos rfl] at h
    subst h
    go_enter Tryz.func112, Tryz.ntmps112
    go_wp2
    refine bodyPost_ret (v := .agg #[.slice A n c, .int .i64 p, .int .i64 e2]) (by simp [results, Tryz.results112, go_sem]) rfl ⟨rfl, ?_⟩
    repeat (first | exact Below.refl _ _ | refine Below.setCell ?_ (by simp) _ | refine Below.alloc ?_ (by simp) _)
  · rw [if_neg h0] at h
    subst h
    go_enter Tryz.func112, Tryz.ntmps112
    go_wp2
    refine bodyPost_ret (v := .agg #[.slice A n c, .int .i64 p, .int .i64 er]) (by simp [results, Tryz.results112, go_sem]) rfl ⟨rfl, ?_⟩
    repeat (first | exact Below.refl _ _ | refine Below.setCell ?_ (by simp) _ | refine Below.alloc ?_ (by simp) _)
set_option maxHeartbeats 1000000 in
theorem stays_any {A : Option Addr} {n c : Nat} {p er e2 e3 : Int} (h : (if er = 0 then e2 else er) = e3) (w : World) :
    Calls Tryz.prog 84 #[.agg #[.slice A n c, .int .i64 p, .int .i64 er], .int .i64 e2] w fun e w' => e = .returned (.agg #[.slice A n c, .int .i64 p, .int .i64 e3]) ∧ Below w.heap.size w w' := by
  by_cases h0 : er = 0
  · subst h0
    rw [if_pos rfl] at h
    subst h
    go_enter Tryz.func84, Tryz.ntmps84
    go_wp2
    refine bodyPost_ret (v := .agg #[.slice A n c, .int .i64 p, .int .i64 e2]) (by simp [results, Tryz.results84, go_sem]) rfl ⟨rfl, ?_⟩
    repeat (first | exact Below.refl _ _ | refine Below.setCell ?_ (by simp) _ | refine Below.alloc ?_ (by simp) _)
  · rw [if_neg h0] at h
    subst h
    go_enter Tryz.func84, Tryz.ntmps84
    go_wp2
    refine bodyPost_ret (v := .agg #[.slice A n c, .int .i64 p, .int .i64 er]) (by simp [results, Tryz.results84, go_sem]) rfl ⟨rfl, ?_⟩
    repeat (first | exact Below.refl _ _ | refine Below.setCell ?_ (by simp) _ | refine Below.alloc ?_ (by simp) _)
set_option maxHeartbeats 1000000 in
theorem Left_yes {A : Option Addr} {n c : Nat} {p er : Int} (h : Rgt n p er) (hn : n ≤ 9223372036854775807) (w : World) :
    Calls Tryz.prog 113 #[.agg #[.slice A n c, .int .i64 p, .int .i64 er]] w fun e w' => e = .returned (.int .i64 (n - p)) ∧ Below w.heap.size w w' := by
  have h1 := h.2.1
  have h2 := h.2.2
  go_enter Tryz.func113, Tryz.ntmps113
  go_wp2_with fail
  refine (right_yes h _).mono ?_
  rintro e w' ⟨rfl, rfl⟩
  go_wp2
  go_ret
  refine ⟨rfl, ?_⟩
  repeat (first | exact Below.refl _ _ | refine Below.setCell ?_ (by simp) _ | refine Below.alloc ?_ (by simp) _)
set_option maxHeartbeats 1000000 in
theorem Left_no {A : Option Addr} {n c : Nat} {p er : Int} (h : ¬ Rgt n p er) (w : World) :
    Calls Tryz.prog 113 #[.agg #[.slice A n c, .int .i64 p, .int .i64 er]] w fun e w' => e = .returned (.int .i64 0) ∧ Below w.heap.size w w' := by
  go_enter Tryz.func113, Tryz.ntmps113
  go_wp2_with fail
  refine (right_no h _).mono ?_
  rintro e w' ⟨rfl, rfl⟩
  go_wp2
  go_ret
  refine ⟨rfl, ?_⟩
  repeat (first | exact Below.refl _ _ | refine Below.setCell ?_ (by simp) _ | refine Below.alloc ?_ (by simp) _)

set_option maxHeartbeats 1000000 in
theorem Start_any (A : Option Addr) (n c : Nat) (w : World) :
    Calls Tryz.prog 103 #[.slice A n c] w fun e w' => e = .returned (.agg #[.slice A n c, .int .i64 0, .int .i64 0]) ∧ Below w.heap.size w w' := by
  go_enter Tryz.func103, Tryz.ntmps103
  go_wp2
  refine bodyPost_ret (v := .agg #[.slice A n c, .int .i64 0, .int .i64 0]) (by simp [results, Tryz.results103, go_sem]) rfl ⟨rfl, ?_⟩
  repeat (first | exact Below.refl _ _ | refine Below.setCell ?_ (by simp) _ | refine Below.alloc ?_ (by simp) _)

/-- what the seeking of a byte answers -/
def fiI (zs : List Int) : Int := if fi zs = zs.length then -1 else (fi zs : Int)
set_option maxHeartbeats 1000000 in
set_option maxRecDepth 100000 in
theorem index_any {A : Option Addr} {n c B : Nat} {zs : List Int} {w : World} (hS : Sl w B A n (by8 zs)) (hn : zs.length ≤ 1000000) :
    Calls Tryz.prog 118 #[.slice A n c, .func (.func 119) #[] #[]] w fun e w' => e = .returned (.int .i64 (fiI zs)) ∧ w = w' := by
  have hl : n = zs.length := by have := hS.len; rw [by8_len] at this; exact this.symm
  subst hl
  go_enter Tryz.func118, Tryz.ntmps118
  go_wp2
  go_loop [8] (fun i => ∃ k : Nat, k ≤ zs.length ∧ k ≤ fi zs ∧ i = .int .i64 k) (fun i => zs.length - (intOf i).toNat)
  case atStart => exact ⟨0, Nat.zero_le _, Nat.zero_le _, rfl⟩
  case round =>
    obtain ⟨k, hk, hf, rfl⟩ := hrel
    by_cases hlt : k < zs.length
    · obtain ⟨b, o, u, rfl, hb, hu, hc⟩ := hS.get (k := k) hlt
      obtain rfl : u = .int .u8 zs[k] := by
        simp only [by8, List.getElem?_map, List.getElem?_eq_getElem hlt, Option.map_some, Option.some.injEq] at hu
        exact hu.symm
      have hnx := fun h => fi_next hlt hf h
      have hre := fun h => fi_here hlt hf h
      generalize zs[k] = x at *
      have NX := hid hnx
      have RE := hid hre
      clear hnx hre hu
      by_cases hx : x < 128
      · go_wp2
        go_ret
        have := RE.out hx
        exact ⟨ret_int8 (by rw [fiI, if_neg (by omega)]; omega), rfl⟩
      · have hx' : 128 ≤ x := by omega
        clear hx
        go_wp2
        go_round
        case rel => exact ⟨k + 1, by omega, NX.out hx', by go_num⟩
        case measure => simp [intOf]; omega
    · go_wp2
      go_ret
      have := fi_le zs
      exact ⟨ret_int8 (by rw [fiI, if_pos (by omega)]), rfl⟩

theorem take_min {A : Option Addr} {n B : Nat} {zs : List Int} {w : World} (hS : Sl w B A n (by8 zs)) : ∃ m, m = min n 10 ∧ Sl w B A m (by8 (zs.take 10)) ∧ m = (zs.take 10).length := by
  have hl : n = zs.length := by have := hS.len; rw [by8_len] at this; exact this.symm
  refine ⟨min n 10, rfl, ?_, by rw [List.length_take, hl]; omega⟩
  have := hS.take (k := min n 10) (Nat.min_le_left _ _)
  have e : (by8 zs).take (min n 10) = by8 (zs.take 10) := by
    unfold by8
    rw [← List.map_take, hl]
    rcases Nat.le_total zs.length 10 with h | h
    · rw [Nat.min_eq_left h, List.take_of_length_le (Nat.le_refl _), List.take_of_length_le h]
    · rw [Nat.min_eq_right h]
  rw [e] at this; exact this
set_option maxHeartbeats 2000000 in
set_option maxRecDepth 100000 in
theorem number_ok {A : Option Addr} {n c B : Nat} {zs : List Int} {w : World} (hS : Sl w B A n (by8 zs)) (hn : n ≤ 1000000) (hc : n ≤ c) (hcm : c ≤ maxLen) (hE : uE (zs.take 10) = 0) :
    Calls Tryz.prog 115 #[.slice A n c] w fun e w' => e = .returned (.tuple #[.slice A (fi (zs.take 10) + 1) c, .int .i64 0]) ∧ w = w' := by
  unfold maxLen at hcm
  obtain ⟨m, hm, hST, hml⟩ := take_min hS
  have hlt := uE_lt hE
  have hno := uE_no hE
  have hidx := index_any (c := c) hST (by rw [List.length_take]; omega)
  have hfi : fiI (zs.take 10) = (fi (zs.take 10) : Int) := by unfold fiI; rw [if_neg (by omega)]
  rw [hfi] at hidx
  generalize zs.take 10 = b at *
  have hk : fi b < m := by omega
  obtain ⟨g, o, u, rfl, hb, hu, hcell⟩ := hST.get hk
  obtain rfl : u = .int .u8 (b[fi b]?.getD 0) := by
    simp only [by8, List.getElem?_map, List.getElem?_eq_getElem hlt, Option.map_some, Option.some.injEq] at hu
    rw [List.getElem?_eq_getElem hlt]; exact hu.symm
  have hat := fi_at b hlt
  have hx : b[fi b]?.getD 0 < 128 := by rw [List.getElem?_eq_getElem hlt]; exact hat
  clear hS hST hml hu hlt hfi hE hat
  generalize fi b = k at *
  generalize b[k]?.getD 0 = x at *
  have hm10 : m ≤ 10 := by omega
  have hcs : (k = 0) ∨ (0 < k ∧ k < 9 ∧ x ≠ 0) ∨ (k = 9 ∧ x ≤ 1 ∧ x ≠ 0) := by omega
  clear hno
  by_cases h10 : n ≤ 10
  · obtain rfl : m = n := by omega
    clear hm
    rcases hcs with rfl | ⟨h1, h2, h3⟩ | ⟨rfl, h2, h3⟩
    all_goals
      go_enter Tryz.func115, Tryz.ntmps115
      go_wp2_with fail
      refine hidx.mono ?_
      rintro e w' ⟨rfl, rfl⟩
      go_wp2
      go_ret2
      exact ⟨rfl, rfl⟩
  · obtain rfl : m = 10 := by omega
    clear hm
    rcases hcs with rfl | ⟨h1, h2, h3⟩ | ⟨rfl, h2, h3⟩
    all_goals
      go_enter Tryz.func115, Tryz.ntmps115
      go_wp2_with fail
      refine hidx.mono ?_
      rintro e w' ⟨rfl, rfl⟩
      go_wp2
      go_ret2
      exact ⟨rfl, rfl⟩
set_option maxHeartbeats 2000000 in
set_option maxRecDepth 100000 in
theorem number_no {A : Option Addr} {n c B : Nat} {zs : List Int} {w : World} (hS : Sl w B A n (by8 zs)) (hn : n ≤ 1000000) (hc : n ≤ c) (hcm : c ≤ maxLen) (hE : uE (zs.take 10) ≠ 0) :
    Calls Tryz.prog 115 #[.slice A n c] w fun e w' => e = .returned (.tuple #[.slice none 0 0, .int .i64 (uE (zs.take 10))]) ∧ w = w' := by
  unfold maxLen at hcm
  obtain ⟨m, hm, hST, hml⟩ := take_min hS
  have hidx := index_any (c := c) hST (by rw [List.length_take]; omega)
  generalize zs.take 10 = b at *
  by_cases hlt : fi b = b.length
  · have hfi : fiI b = -1 := by unfold fiI; rw [if_pos hlt]
    rw [hfi] at hidx
    have hr : (uE b = 10 ∧ m < 10) ∨ (uE b = 11 ∧ ¬ m < 10) := by
      unfold uE; rw [if_pos hlt, ← hml]
      by_cases h : m < 10
      · left; rw [if_pos h]; exact ⟨rfl, h⟩
      · right; rw [if_neg h]; exact ⟨rfl, h⟩
    clear hS hST hml hlt hfi
    rcases hr with ⟨hr, hm9⟩ | ⟨hr, hm9⟩
    · obtain rfl : m = n := by omega
      clear hm
      rw [hr]
      go_enter Tryz.func115, Tryz.ntmps115
      go_wp2_with fail
      refine hidx.mono ?_
      rintro e w' ⟨rfl, rfl⟩
      go_wp2
      go_ret2
      exact ⟨rfl, rfl⟩
    · obtain rfl : m = 10 := by omega
      rw [hr]
      have h10 : 10 ≤ n := by omega
      clear hm hm9 hr
      rcases Nat.lt_or_ge 10 n with h11 | h11
      · go_enter Tryz.func115, Tryz.ntmps115
        go_wp2_with fail
        refine hidx.mono ?_
        rintro e w' ⟨rfl, rfl⟩
        go_wp2
        go_ret2
        exact ⟨rfl, rfl⟩
      · obtain rfl : n = 10 := by omega
        go_enter Tryz.func115, Tryz.ntmps115
        go_wp2_with fail
        refine hidx.mono ?_
        rintro e w' ⟨rfl, rfl⟩
        go_wp2
        go_ret2
        exact ⟨rfl, rfl⟩
  · have hlt2 : fi b < b.length := by have := fi_le b; omega
    have hfi : fiI b = (fi b : Int) := by unfold fiI; rw [if_neg hlt]
    rw [hfi] at hidx
    have hr : uE b = 11 ∧ ((fi b = 9 ∧ 1 < b[fi b]?.getD 0) ∨ (0 < fi b ∧ b[fi b]?.getD 0 = 0)) := by
      unfold uE at hE ⊢
      rw [if_neg hlt] at hE ⊢
      by_cases h : (fi b = 9 ∧ 1 < b[fi b]?.getD 0) ∨ (0 < fi b ∧ b[fi b]?.getD 0 = 0)
      · rw [if_pos h]; exact ⟨rfl, h⟩
      · rw [if_neg h] at hE; exact absurd rfl hE
    obtain ⟨hr1, hr2⟩ := hr
    rw [hr1]
    have hk : fi b < m := by omega
    obtain ⟨g, o, u, rfl, hb, hu, hcell⟩ := hST.get hk
    obtain rfl : u = .int .u8 (b[fi b]?.getD 0) := by
      simp only [by8, List.getElem?_map, List.getElem?_eq_getElem hlt2, Option.map_some, Option.some.injEq] at hu
      rw [List.getElem?_eq_getElem hlt2]; exact hu.symm
    clear hS hST hml hu hlt hlt2 hfi hE hr1
    generalize fi b = k at *
    generalize b[k]?.getD 0 = x at *
    have hm10 : m ≤ 10 := by omega
    have hcs : (k = 9 ∧ 1 < x) ∨ (0 < k ∧ k < 9 ∧ x = 0) ∨ (k = 9 ∧ x = 0) := by omega
    clear hr2
    by_cases h10 : n ≤ 10
    · obtain rfl : m = n := by omega
      clear hm
      rcases hcs with ⟨rfl, h3⟩ | ⟨h1, h2, rfl⟩ | ⟨rfl, rfl⟩
      all_goals
        go_enter Tryz.func115, Tryz.ntmps115
        go_wp2_with fail
        refine hidx.mono ?_
        rintro e w' ⟨rfl, rfl⟩
        go_wp2
        go_ret2
        exact ⟨rfl, rfl⟩
    · obtain rfl : m = 10 := by omega
      clear hm
      rcases hcs with ⟨rfl, h3⟩ | ⟨h1, h2, rfl⟩ | ⟨rfl, rfl⟩
      all_goals
        go_enter Tryz.func115, Tryz.ntmps115
        go_wp2_with fail
        refine hidx.mono ?_
        rintro e w' ⟨rfl, rfl⟩
        go_wp2
        go_ret2
        exact ⟨rfl, rfl⟩

end Go.Proofs.YtondnbnaoacanaaGreatDoor
/- Contracts of layer 3 (wire) and of its reference: the bytes of numbers and texts. -/
namespace Go.Proofs.YtondnbnaoacanaaGreatDoor
open Go.ChangeShapes Go.WideShapes Go.ChangeAt Go.RowKit Fb

/-- a slice of the call's own that has these bytes is handed back, and nothing that lay is otherwise -/
def Puts (base : Nat) (w : World) (zs : List Int) (e : Ending) (w' : World) : Prop := (∃ v, e = .returned v ∧ w'.ownsRow base 5 1 v zs.length (by8 zs)) ∧ Below base w w'
/-- twice the number, or twice what it is below 0, less 1 -/
def zig (k : Int) : Nat := if k < 0 then (2 * (-k - 1) + 1).toNat else (2 * k).toNat
theorem zig_lt {k : Int} (h1 : -9223372036854775808 ≤ k) (h2 : k ≤ 9223372036854775807) : zig k < 18446744073709551616 := by unfold zig; split <;> omega
/-- a string's bytes as numbers -/
def sI (s : ByteArray) : List Int := s.data.toList.map fun b => (b.toNat : Int)
theorem sI_len (s : ByteArray) : (sI s).length = s.size := by rw [sI, List.length_map, Array.length_toList]; rfl
theorem sI_cells (s : ByteArray) : Go.Lib.strCells s = by8 (sI s) := by simp [Go.Lib.strCells, by8, sI]
theorem sI_bytes (s : ByteArray) : Bytes (sI s) := by
  intro x hx
  obtain ⟨b, -, rfl⟩ := List.mem_map.1 hx
  have := b.toNat_lt
  omega
theorem sI_snoc (s : ByteArray) (k : Nat) (h : k < s.size) : (sI s).take (k + 1) = (sI s).take k ++ [(s[k].toNat : Int)] := by
  rw [List.take_succ_eq_append_getElem (by rw [sI_len]; exact h)]
  congr 2
  simp only [sI, List.getElem_map]
  rfl
/-- 'v = append(v, s...)', v a slice of the call's own, s a string -/
theorem wpList_pushStr {P : Program} {w : World} {ops : Array Oper} {rest : List Oper} {o : Oper} {a : Act} {Q : Exit → Act → World → Prop} (hgd : o.guard = none) (sl x : Operand) (t u : TypeId)
    (ho : o.op = .call { callee := .builtin .append, args := #[sl, x], argTypes := #[t, u] })
    {base : Nat} {e : TypeId} {i : TypeInfo} (ht : P.underlying t = some (.slice e)) (hu : P.underlying u = some .string) (hi : P.info? e = some i) (hz : i.zero = some (.int .u8 0))
    (hsize : i.size = 1) (hby : i.bytes = 1)
    {v : Value} {n : Nat} {zs : List Int} (hs : a.eval sl = v) (hown : w.ownsRow base e 1 v n (by8 zs)) (s : ByteArray) (hx : a.eval x = .string s)
    (h : ∀ v' w', w'.ownsRow base e 1 v' (n + s.size) (by8 (zs ++ sI s)) → Below base w w' → wpList P ops Q rest (a.put o.dst v') w')
    (h63 : n + s.size ≤ maxLen) (hbytes : n + s.size ≤ 140737488355328) (hbase : base ≤ w.heap.size) : wpList P ops Q (o :: rest) a w := by
  refine Go.Lib.wpList_append_own_string w hgd sl x t u ho base e i ht hu hi hz hsize hby v n (by8 zs) hs hown s hx h63 hbytes hbase (fun v' w' h2 h3 _ => ?_)
  refine h v' w' (by rw [by8_append, ← sI_cells]; exact h2) ((Below.refl _ _).grown h3 hbase fun k hk => ?_)
  obtain ⟨_, hh | ⟨g, cap, cur, hv, hg, _⟩⟩ := hown
  · rw [hh.1] at hk; simp [Value.ownBlock] at hk
  · rw [hv] at hk; simp [Value.ownBlock] at hk; omega

set_option maxHeartbeats 2000000 in
set_option maxRecDepth 100000 in
theorem PutUint_any {A : Option Addr} {n c m : Nat} {zs : List Int} {w : World} (hS : Sl w w.heap.size A n (by8 zs)) (hnil : A = none → c = 0) (hn : zs.length ≤ 100000) (hm : m < 18446744073709551616) :
    Calls Tryz.prog 46 #[.slice A n c, .int .u64 m] w (Puts w.heap.size w (zs ++ leb m)) := by
  obtain ⟨i0, hi0, hz0, hz1, hz2⟩ := info_parts u8_info
  have hl : n = zs.length := by have := hS.len; rw [by8_len] at this; exact this.symm
  subst hl
  have hlt := leb_ten hm
  have HM := hid hm
  have HN := hid hnil
  clear hm hnil
  go_enter Tryz.func46, Tryz.ntmps46
  go_wp2_with fail
  refine (Clone_any hS (Nat.le_refl _) HN.out (by omega)).mono ?_
  rintro e w1 ⟨⟨v, rfl, hown⟩, hbel⟩
  go_wp2
  go_loopw [0, 1] (fun v i wr => ∃ (q : Nat) (pre : List Int), Hid (leb m = pre ++ leb q) ∧ i = .int .u64 q ∧ wr.ownsRow w.heap.size 5 1 v (zs.length + pre.length) (by8 (zs ++ pre)) ∧ Below w.heap.size w wr ∧ Hid (q < 18446744073709551616))
    (fun _ i _ => (intOf i).toNat)
  case atStart => exact ⟨m, [], rfl, rfl, by simpa using hown, hbel, HM⟩
  case round =>
    obtain ⟨q, pre, he, rfl, hown', hbr, hq⟩ := hrel
    have hpre : pre.length + 1 ≤ 10 := by
      have h1 := congrArg List.length he.out
      have h2 := leb_pos q
      rw [List.length_append] at h1; omega
    by_cases h128 : 128 ≤ q
    · have he2 : leb m = (pre ++ [((q % 128 : Nat) : Int) + 128]) ++ leb (q / 128) := by rw [he.out, leb_big h128]; simp
      have HE := hid he2
      clear he he2
      have hq2 : q / 128 < 18446744073709551616 := by have := hq.out; omega
      have HQ := hid hq2
      clear hq hq2
      go_wp2_with (at_builtin; refine wpList_push rfl (.tmp 9) (.tmp 14) 26 rfl Tryz.underlying26 hi0 hz0 hz1 hz2 rfl (by decide) rfl hown' rfl rfl ?_ ?c1 ?c2 ?c3 ?c4; intro v' w'' hown'' hb'')
      case c1 => simp [Value.oneCell']
      case c2 => simp [maxLen]; omega
      case c3 => omega
      case c4 => exact hbr.size
      have hw : IntKind.u64.wrap (↑q / 128) = ((q / 128 : Nat) : Int) := by rw [u64_in _ (by omega) (by have := HQ.out; omega)]; omega
      go_roundw
      case rel => exact ⟨q / 128, _, HE, by rw [hw], by simpa [by8, Nat.add_assoc] using hown'', hbr.trans hb'', HQ⟩
      case measure => rw [hw]; simp [intOf]; omega
    · have he2 : leb m = pre ++ [(q : Int)] := by rw [he.out, leb_small (by omega)]
      have HE := hid he2
      clear he he2 hq
      go_wp2_with (at_builtin; refine wpList_push rfl (.tmp 18) (.tmp 21) 26 rfl Tryz.underlying26 hi0 hz0 hz1 hz2 rfl (by decide) rfl hown' rfl rfl ?_ ?c1 ?c2 ?c3 ?c4; intro v' w'' hown'' hb'')
      case c1 => simp [Value.oneCell']
      case c2 => simp [maxLen]; omega
      case c3 => omega
      case c4 => exact hbr.size
      go_ret
      refine ⟨⟨_, rfl, ?_⟩, hbr.trans hb''⟩
      rw [HE.out]
      simpa [by8, Nat.add_assoc] using hown''

set_option maxHeartbeats 2000000 in
set_option maxRecDepth 100000 in
theorem RPutUint_any {A : Option Addr} {n c m : Nat} {zs : List Int} {w : World} (hS : Sl w w.heap.size A n (by8 zs)) (hnil : A = none → c = 0) (hn : zs.length ≤ 100000) (hm : m < 18446744073709551616) :
    Calls Tryz.prog 29 #[.slice A n c, .int .u64 m] w (Puts w.heap.size w (zs ++ leb m)) := by
  obtain ⟨i0, hi0, hz0, hz1, hz2⟩ := info_parts u8_info
  have hl : n = zs.length := by have := hS.len; rw [by8_len] at this; exact this.symm
  subst hl
  have hlt := leb_ten hm
  have HM := hid hm
  have HN := hid hnil
  clear hm hnil
  go_enter Tryz.func29, Tryz.ntmps29
  go_wp2_with (at_builtin; refine wpList_pushAll (B := w.heap.size) rfl (.tmp 7) (.tmp 8) _ rfl Tryz.underlying26 hi0 hz0 hz1 hz2 rfl rfl (own_fresh w #[] 5 (base := w.heap.size) (n := 0) (xs := []) rfl (Nat.le_refl _) rfl rfl (Nat.zero_le _)) rfl HN.out (m := zs.length) (news := by8 zs) (hS.below ((Below.refl _ _).alloc (Nat.le_refl _) _)) ?_ (by8_one zs) (by simp only [maxLen]; omega) (by omega) (by simp); intro v w1 hown hbel0)
  have hbel : Below w.heap.size w w1 := ((Below.refl _ _).alloc (Nat.le_refl _) _).trans hbel0
  go_loopw [1, 5] (fun i v wr => ∃ (q : Nat) (pre : List Int), Hid (leb m = pre ++ leb q) ∧ i = .int .u64 q ∧ wr.ownsRow w.heap.size 5 1 v (zs.length + pre.length) (by8 (zs ++ pre)) ∧ Below w.heap.size w wr ∧ Hid (q < 18446744073709551616))
    (fun i _ _ => (intOf i).toNat)
  case atStart => exact ⟨m, [], rfl, rfl, by simpa using hown, hbel, HM⟩
  case round =>
    obtain ⟨q, pre, he, rfl, hown', hbr, hq⟩ := hrel
    have hpre : pre.length + 1 ≤ 10 := by
      have h1 := congrArg List.length he.out
      have h2 := leb_pos q
      rw [List.length_append] at h1; omega
    by_cases h128 : 128 ≤ q
    · obtain ⟨r, hr⟩ : ∃ r, q / 128 = r := ⟨_, rfl⟩
      have he2 : leb m = (pre ++ [((q % 128 : Nat) : Int) + 128]) ++ leb r := by rw [he.out, leb_big h128, hr]; simp
      have HE := hid he2
      clear he he2
      have hq2 : r < 18446744073709551616 := by have := hq.out; omega
      have hr0 : 0 < r := by omega
      have hrq : r < q := by omega
      have hw : IntKind.u64.wrap (↑q / 128) = (r : Int) := by rw [u64_in _ (by omega) (by have := hq.out; omega)]; omega
      have HQ := hid hq2
      clear hq hq2 hr
      go_wp2_with (at_builtin; refine wpList_push rfl (.tmp 21) (.tmp 24) 26 rfl Tryz.underlying26 hi0 hz0 hz1 hz2 rfl (by decide) rfl hown' rfl rfl ?_ ?c1 ?c2 ?c3 ?c4; intro v' w'' hown'' hb'')
      case c1 => simp [Value.oneCell']
      case c2 => simp [maxLen]; omega
      case c3 => omega
      case c4 => exact hbr.size
      go_roundw
      case rel => exact ⟨r, _, HE, rfl, by simpa [by8, Nat.add_assoc] using hown'', hbr.trans hb'', HQ⟩
      case measure => simp [intOf]; omega
    · have he2 : leb m = pre ++ [(q : Int)] := by rw [he.out, leb_small (by omega)]
      have HE := hid he2
      have hw : IntKind.u64.wrap (↑q / 128) = 0 := by rw [u64_in _ (by omega) (by omega)]; omega
      have hmod : (q : Int) % 128 = (q : Int) := by omega
      have HO := hid hmod
      clear he he2 hq hmod
      go_wp2_with (at_builtin; refine wpList_push rfl (.tmp 17) (.tmp 19) 26 rfl Tryz.underlying26 hi0 hz0 hz1 hz2 rfl (by decide) rfl hown' rfl rfl ?_ ?c1 ?c2 ?c3 ?c4; intro v' w'' hown'' hb'')
      case c1 => simp [Value.oneCell']
      case c2 => simp [maxLen]; omega
      case c3 => omega
      case c4 => exact hbr.size
      go_ret
      refine ⟨⟨_, rfl, ?_⟩, hbr.trans hb''⟩
      rw [HE.out]
      simpa [by8, Nat.add_assoc, HO.out] using hown''

/-- '^k' of an int64 -/
theorem i64_turn (k : Int) (h1 : -9223372036854775808 ≤ k) (h2 : k ≤ 9223372036854775807) : bits .xor .i64 (-1) k = -k - 1 := by
  show IntKind.i64.wrap ((BitVec.ofInt 64 (-1) ^^^ BitVec.ofInt 64 k).toNat : Int) = _
  have h3 : BitVec.ofInt 64 (-1) = BitVec.allOnes 64 := by decide
  rw [h3, BitVec.allOnes_xor, BitVec.toNat_not, BitVec.toNat_ofInt]
  simp [IntKind.wrap, IntKind.bits, IntKind.signed]
  omega

set_option maxHeartbeats 2000000 in
theorem PutText_any {A : Option Addr} {n c : Nat} {zs : List Int} {w : World} (hS : Sl w w.heap.size A n (by8 zs)) (hnil : A = none → c = 0) (hn : zs.length ≤ 100000) (s : ByteArray) (hs : s.size ≤ 100000) :
    Calls Tryz.prog 71 #[.slice A n c, .string s] w (Puts w.heap.size w (zs ++ (leb s.size ++ sI s))) := by
  have hz := PutUint_any (m := s.size) hS hnil hn (by omega)
  obtain ⟨i0, hi0, hz0, hz1, hz2⟩ := info_parts u8_info
  have hl := leb_ten (n := s.size) (by omega)
  have HN := hid hnil
  clear hnil
  go_enter Tryz.func71, Tryz.ntmps71
  go_wp2_with fail
  refine hz.mono ?_
  rintro e w1 ⟨⟨v, rfl, hown⟩, hbel⟩
  go_wp2_with (at_builtin; refine wpList_pushStr rfl (.tmp 9) (.tmp 10) 26 9 rfl Tryz.underlying26 Tryz.underlying9 hi0 hz0 hz1 hz2 rfl hown s rfl ?_ ?c1 ?c2 ?c3; intro v' w'' hown'' hb'')
  case c1 => simp [maxLen]; omega
  case c2 => simp; omega
  case c3 => exact hbel.size
  go_ret
  refine ⟨⟨_, rfl, ?_⟩, hbel.trans hb''⟩
  have e : (zs ++ (leb s.size ++ sI s)).length = (zs ++ leb s.size).length + s.size := by simp [sI_len]; omega
  rw [e, ← List.append_assoc]
  exact hown''
set_option maxHeartbeats 2000000 in
set_option maxRecDepth 100000 in
theorem RPutText_any {A : Option Addr} {n c : Nat} {zs : List Int} {w : World} (hS : Sl w w.heap.size A n (by8 zs)) (hnil : A = none → c = 0) (hn : zs.length ≤ 100000) (s : ByteArray) (hs : s.size ≤ 100000) :
    Calls Tryz.prog 52 #[.slice A n c, .string s] w (Puts w.heap.size w (zs ++ (leb s.size ++ sI s))) := by
  have hz := RPutUint_any (m := s.size) hS hnil hn (by omega)
  obtain ⟨i0, hi0, hz0, hz1, hz2⟩ := info_parts u8_info
  have hl := leb_ten (n := s.size) (by omega)
  have HN := hid hnil
  clear hnil
  go_enter Tryz.func52, Tryz.ntmps52
  go_wp2_with fail
  refine hz.mono ?_
  rintro e w1 ⟨⟨v, rfl, hown⟩, hbel⟩
  generalize leb s.size = L at *
  go_wp2
  go_loopw [5, 6] (fun v i wr => ∃ k : Nat, k ≤ s.size ∧ i = .int .i64 k ∧ wr.ownsRow w.heap.size 5 1 v ((zs ++ L).length + k) (by8 ((zs ++ L) ++ (sI s).take k)) ∧ Below w.heap.size w wr)
    (fun _ i _ => s.size - (intOf i).toNat)
  case atStart => exact ⟨0, Nat.zero_le _, rfl, by simpa using hown, hbel⟩
  case round =>
    obtain ⟨k, hk, rfl, hown', hbr⟩ := hrel
    by_cases hlt : k < s.size
    · have hsn := sI_snoc s k hlt
      have HS := hid hsn
      clear hsn
      go_wp2_with (at_builtin; refine wpList_push rfl (.tmp 18) (.tmp 22) 26 rfl Tryz.underlying26 hi0 hz0 hz1 hz2 rfl (by decide) rfl hown' rfl rfl ?_ ?c1 ?c2 ?c3 ?c4; intro v' w'' hown'' hb'')
      case c1 => simp [Value.oneCell']
      case c2 => simp [maxLen]; omega
      case c3 => simp; omega
      case c4 => exact hbr.size
      go_roundw
      case rel => exact ⟨k + 1, by omega, by go_num, by rw [HS.out]; simpa [by8, Nat.add_assoc] using hown'', hbr.trans hb''⟩
      case measure => simp [intOf]; omega
    · obtain rfl : k = s.size := by omega
      go_wp2
      go_ret
      refine ⟨⟨_, rfl, ?_⟩, hbr⟩
      have e : (zs ++ (L ++ sI s)).length = (zs ++ L).length + s.size := by simp [sI_len]; omega
      rw [e, ← List.append_assoc]
      rw [List.take_of_length_le (by rw [sI_len]; omega)] at hown'
      exact hown'
end Go.Proofs.YtondnbnaoacanaaGreatDoor
