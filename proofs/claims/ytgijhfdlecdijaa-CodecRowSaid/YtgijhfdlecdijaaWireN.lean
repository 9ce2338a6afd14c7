/- Layer 3: what is read is what was put, as lists. -/
import Derived.Test.YtgijhfdlecdijaaWire7
namespace Go.Proofs.Ytgijhfdlecdijaa
open Fb

theorem zig_zag {v : Nat} : zig (zag v) = v := by
  unfold zag zig
  split <;> split <;> omega
theorem zag_zig (k : Int) : zag (zig k) = k := by
  unfold zag zig
  split <;> split <;> omega
theorem zag_in {v : Nat} (h : v < 18446744073709551616) : -9223372036854775808 ≤ zag v ∧ zag v ≤ 9223372036854775807 := by
  unfold zag; split <;> omega
theorem sI_str {bs : List Int} (hb : Bytes bs) : sI (strOfNums bs) = bs := by
  unfold sI
  rw [strOfNums_data, List.map_map]
  conv => rhs; rw [← List.map_id bs]
  refine List.map_congr_left fun x hx => ?_
  have := hb x hx
  simp [UInt8.toNat_ofNat']
  omega
theorem str_sI (s : ByteArray) : strOfNums (sI s) = s := by
  unfold strOfNums sI
  rw [List.map_map]
  have e : (fun n : Int => UInt8.ofNat n.toNat) ∘ (fun b : UInt8 => (b.toNat : Int)) = id := by
    funext b; simp
  rw [e, List.map_id, Array.toArray_toList]
/-- what is read as a number is just its bytes -/
theorem uS_one {zs : List Int} {k : Nat} {p1 : Int} {v : Nat} (hb : Bytes zs) (hk : k ≤ zs.length) (hu : uintS zs k 0 = (p1, 0, v)) :
    ∃ q : Nat, p1 = q ∧ k ≤ q ∧ q ≤ zs.length ∧ zs.take k ++ leb v = zs.take q ∧ v < 18446744073709551616 := by
  have hlt := uS_lt hb hu
  have hz := uS_zero hu
  have hE : uE (win zs k) = 0 := by
    rcases Int.decEq (uE (win zs k)) 0 with h | h
    · rw [uintS_bad (by omega) h] at hu
      simp only [Prod.mk.injEq] at hu; omega
    · exact h
  rw [uintS_ok (by omega) hE] at hu
  simp only [Prod.mk.injEq] at hu
  obtain ⟨h1, -, h2⟩ := hu
  have hbw : Bytes (win zs k) := fun x hx => hb x (List.mem_of_mem_drop (List.mem_of_mem_take hx))
  have h3 := uE_leb hbw (by simp [win]; omega) hE
  have h4 := uE_lt hE
  have h5 : (win zs k).length ≤ 10 := by simp [win]; omega
  refine ⟨k + (fi (win zs k) + 1), by omega, by omega, by omega, ?_, hlt⟩
  rw [← h2, h3]
  have h6 : fi (win zs k) + 1 ≤ 10 := by omega
  generalize fi (win zs k) + 1 = j at *
  have h7 : (win zs k).take j = (zs.drop k).take j := by
    unfold win; rw [List.take_take, Nat.min_eq_left h6, Int.toNat_natCast]
  rw [h7, List.take_add]
theorem uS_stay {zs : List Int} {k : Nat} {p1 e1 : Int} {v : Nat} (hk : k ≤ zs.length) (he : e1 ≠ 0) (hu : uintS zs k 0 = (p1, e1, v)) : p1 = k ∧ v = 0 := by
  rcases Int.decEq (uE (win zs k)) 0 with h | h
  · rw [uintS_bad (by omega) h] at hu
    simp only [Prod.mk.injEq] at hu; omega
  · rw [uintS_ok (by omega) h] at hu
    simp only [Prod.mk.injEq] at hu; omega
theorem tx_one {zs : List Int} {k : Nat} {p2 most : Int} {bs : List Int} (hb : Bytes zs) (hk : k ≤ zs.length) (ht : textS zs k 0 most = (p2, 0, bs)) :
    ∃ q : Nat, p2 = q ∧ k ≤ q ∧ q ≤ zs.length ∧ zs.take k ++ (leb bs.length ++ bs) = zs.take q ∧ (bs.length : Int) ≤ most ∧ Bytes bs := by
  obtain ⟨p1, e1, v, hu⟩ : ∃ p1 e1 v, uintS zs k 0 = (p1, e1, v) := ⟨_, _, _, rfl⟩
  by_cases he : e1 = 0
  · subst he
    obtain ⟨q, rfl, h1, h2, h3, h4⟩ := uS_one hb hk hu
    by_cases hm : most < 0 ∨ most < v
    · rw [tx_many hu hm] at ht; simp only [Prod.mk.injEq] at ht; omega
    · by_cases hs : (zs.length : Int) - q < v
      · rw [tx_short hu hm hs] at ht; simp only [Prod.mk.injEq] at ht; omega
      · rw [tx_ok hu hm hs] at ht
        simp only [Prod.mk.injEq, Int.toNat_natCast] at ht
        obtain ⟨h5, -, rfl⟩ := ht
        have hl : ((zs.drop q).take v).length = v := by rw [List.length_take, List.length_drop]; omega
        refine ⟨q + v, by omega, by omega, by omega, ?_, by omega, fun x hx => hb x (List.mem_of_mem_drop (List.mem_of_mem_take hx))⟩
        rw [hl, ← List.append_assoc, h3, List.take_add]
  · rw [tx_err hu he] at ht
    simp only [Prod.mk.injEq] at ht; omega
theorem tx_stay {zs : List Int} {k : Nat} {p2 e2 most : Int} {bs : List Int} (hk : k ≤ zs.length) (he2 : e2 ≠ 0) (ht : textS zs k 0 most = (p2, e2, bs)) : p2 = k ∧ bs = [] := by
  obtain ⟨p1, e1, v, hu⟩ : ∃ p1 e1 v, uintS zs k 0 = (p1, e1, v) := ⟨_, _, _, rfl⟩
  by_cases he : e1 = 0
  · subst he
    by_cases hm : most < 0 ∨ most < v
    · rw [tx_many hu hm] at ht; simp only [Prod.mk.injEq] at ht; exact ⟨ht.1.symm, ht.2.2.symm⟩
    · by_cases hs : (zs.length : Int) - p1 < v
      · rw [tx_short hu hm hs] at ht; simp only [Prod.mk.injEq] at ht; exact ⟨ht.1.symm, ht.2.2.symm⟩
      · rw [tx_ok hu hm hs] at ht
        simp only [Prod.mk.injEq] at ht; omega
  · have := uS_stay hk he hu
    rw [tx_err hu he] at ht
    simp only [Prod.mk.injEq] at ht
    exact ⟨by omega, ht.2.2.symm⟩
theorem tx_no {zs : List Int} {k : Nat} {p1 e1 p2 e2 most : Int} {v : Nat} {bs : List Int} (he : e1 ≠ 0) (hu : uintS zs k 0 = (p1, e1, v)) (ht : textS zs k 0 most = (p2, e2, bs)) : e2 ≠ 0 := by
  rw [tx_err hu he] at ht
  simp only [Prod.mk.injEq] at ht; omega

/-- a number that was put is read as it was -/
theorem uS_at {pre rest : List Int} {m : Nat} (hm : m < 18446744073709551616) :
    uintS (pre ++ (leb m ++ rest)) pre.length 0 = (((pre.length + (leb m).length : Nat) : Int), 0, m) := by
  have hw : win (pre ++ (leb m ++ rest)) pre.length = (leb m ++ rest).take 10 := by
    unfold win; rw [Int.toNat_natCast, List.drop_left]
  have h := uE_of_leb hm rest
  rw [uintS_ok (by simp; omega) (by rw [hw]; exact h.1), hw, h.2.2, h.2.1, vl_leb]
  simp
theorem tx_at {pre rest s : List Int} {most : Int} (hs : (s.length : Int) ≤ most) (h0 : s.length ≤ 100000) :
    textS (pre ++ ((leb s.length ++ s) ++ rest)) pre.length 0 most = (((pre.length + (leb s.length ++ s).length : Nat) : Int), 0, s) := by
  have hu := uS_at (pre := pre) (rest := s ++ rest) (m := s.length) (by omega)
  rw [← List.append_assoc (leb s.length) s rest] at hu
  rw [tx_ok hu (by omega) (by simp; omega)]
  simp only [Prod.mk.injEq, true_and]
  refine ⟨by simp; omega, ?_⟩
  have e : (pre ++ ((leb s.length ++ s) ++ rest)).drop (pre.length + (leb s.length).length) = s ++ rest := by
    rw [← List.drop_drop, List.drop_left, List.append_assoc, List.drop_left]
  rw [Int.toNat_natCast, e, List.take_left]
end Go.Proofs.Ytgijhfdlecdijaa
