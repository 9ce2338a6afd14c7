/- Layer 4, plain: which bytes are sealed by the table, and what becomes of them if four that follow one another are changed. -/
import Derived.Test.YtdoehcecpfadbaaCrcA
namespace Go.Proofs.Ytdoehcecpfadbaa
open Fb Go.RowKit

theorem zero_size : (Array.replicate 256 (Value.int .u32 0)).size = (c32 tabN).size := by rw [Array.size_replicate, c32_size, tabN_len]

theorem xor_add (k x y : Nat) (h : x < 2 ^ k) : x ^^^ (2 ^ k * y) = x + 2 ^ k * y := by
  have h1 := Nat.xor_div_two_pow (a := x) (b := 2 ^ k * y) (n := k)
  have h2 := Nat.xor_mod_two_pow (a := x) (b := 2 ^ k * y) (n := k)
  rw [Nat.div_eq_of_lt h, Nat.zero_xor, Nat.mul_div_cancel_left _ (Nat.two_pow_pos k)] at h1
  rw [Nat.mod_eq_of_lt h, Nat.mul_mod_right, Nat.xor_zero] at h2
  have h3 := Nat.div_add_mod (x ^^^ (2 ^ k * y)) (2 ^ k)
  rw [h1, h2] at h3
  omega
theorem word4_sum {a b c : Nat} (d : Nat) (ha : a < 256) (hb : b < 256) (hc : c < 256) : word4 a b c d = a + 256 * b + 65536 * c + 16777216 * d := by
  have h1 : a ^^^ (2 ^ 8 * b) = a + 2 ^ 8 * b := xor_add 8 a b (by omega)
  have h2 : (a + 2 ^ 8 * b) ^^^ (2 ^ 16 * c) = (a + 2 ^ 8 * b) + 2 ^ 16 * c := xor_add 16 _ c (by omega)
  have h3 : ((a + 2 ^ 8 * b) + 2 ^ 16 * c) ^^^ (2 ^ 24 * d) = ((a + 2 ^ 8 * b) + 2 ^ 16 * c) + 2 ^ 24 * d := xor_add 24 _ d (by omega)
  unfold word4
  rw [h1, h2, h3]
/-- what each sealed row leaves -/
def res : Nat := csteps 32 4294967295
theorem sealed_iff {Y : List Int} (hb : Bytes Y) {m : Nat} (hl : Y.length = m + 4) : sealed tabN (Y.take m) = Y ↔ creg 4294967295 (n8 Y) = res := by
  obtain ⟨f0, f1, f2, f3, hf⟩ : ∃ a b c d, Y.drop m = [a, b, c, d] := by
    have h4 : (Y.drop m).length = 4 := by rw [List.length_drop]; omega
    match h : Y.drop m with
    | [a, b, c, d] => exact ⟨a, b, c, d, rfl⟩
    | [] | [_] | [_, _] | [_, _, _] | _ :: _ :: _ :: _ :: _ :: _ => rw [h] at h4; simp at h4
  have hY : Y = Y.take m ++ [f0, f1, f2, f3] := by rw [← hf, List.take_append_drop]
  have hba : Bytes (Y.take m) := fun x hx => hb x (List.mem_of_mem_take hx)
  have hbf : ∀ x ∈ [f0, f1, f2, f3], 0 ≤ x ∧ x ≤ 255 := fun x hx => hb x (by rw [hY]; exact List.mem_append_right _ hx)
  have b0 := hbf f0 (by simp); have b1 := hbf f1 (by simp); have b2 := hbf f2 (by simp); have b3 := hbf f3 (by simp)
  generalize Y.take m = a at *
  subst hY
  have hR : creg 4294967295 (n8 a) < 4294967296 := creg_lt _ (by omega) (n8_lt hba)
  have hs : sumT tabN 0 (n8 a) = cpl (creg 4294967295 (n8 a)) := by
    show cpl (regT tabN (cpl 0) _) = _
    rw [regT_tabN _ _ (n8_lt hba)]; rfl
  have hw := word4_sum f3.toNat (a := f0.toNat) (b := f1.toNat) (c := f2.toNat) (by omega) (by omega) (by omega)
  have hwl : word4 f0.toNat f1.toNat f2.toNat f3.toNat < 4294967296 := word4_lt (by omega) (by omega) (by omega) (by omega)
  have he : creg 4294967295 (n8 (a ++ [f0, f1, f2, f3])) = csteps 32 (creg 4294967295 (n8 a) ^^^ word4 f0.toNat f1.toNat f2.toNat f3.toNat) := by
    rw [n8_append, creg_append]
    exact creg_four _ _ _ _ _
  rw [he]
  unfold sealed res
  rw [hs]
  generalize creg 4294967295 (n8 a) = R at *
  generalize word4 f0.toNat f1.toNat f2.toNat f3.toNat = W at *
  have hc : cpl R < 4294967296 := cpl_lt hR
  constructor
  · intro h
    have h1 := List.append_cancel_left h
    simp only [foot, List.cons.injEq, and_true] at h1
    have h2 : W = cpl R := by omega
    rw [h2]
    unfold cpl
    rw [← Nat.xor_assoc, Nat.xor_self, Nat.zero_xor]
  · intro h
    have h1 := csteps_inj 32 (Nat.xor_lt_two_pow (n := 32) hR hwl) (by omega) h
    have h2 : W = cpl R := by
      have : R ^^^ (R ^^^ W) = R ^^^ 4294967295 := by rw [h1]
      rw [← Nat.xor_assoc, Nat.xor_self, Nat.zero_xor] at this
      exact this
    have hq : foot (cpl R) = [f0, f1, f2, f3] := by
      rw [← h2, hw]
      clear h h1 h2 he hs hR hwl hc hw
      simp only [foot, List.cons.injEq, and_true]
      omega
    rw [hq]

/-- bytes of which the first i of four, from a place on, are turned -/
def xr (z y : Int) : Int := ((z.toNat ^^^ y.toNat : Nat) : Int)
def chg (Z : List Int) (k : Nat) (ys : List Int) : Nat → List Int
  | 0 => Z
  | i + 1 => (chg Z k ys i).set (k + i) (xr ((chg Z k ys i)[k + i]?.getD 0) (ys[i]?.getD 0))
theorem chg_len (Z : List Int) (k : Nat) (ys : List Int) : ∀ i, (chg Z k ys i).length = Z.length
  | 0 => rfl
  | i + 1 => by rw [chg, List.length_set]; exact chg_len Z k ys i
theorem xr_byte {z y : Int} (hz : 0 ≤ z ∧ z ≤ 255) (hy : 0 ≤ y ∧ y ≤ 255) : 0 ≤ xr z y ∧ xr z y ≤ 255 := by
  have := Nat.xor_lt_two_pow (n := 8) (x := z.toNat) (y := y.toNat) (by omega) (by omega)
  unfold xr
  omega
theorem getD_byte {Z : List Int} (h : Bytes Z) (j : Nat) : 0 ≤ Z[j]?.getD 0 ∧ Z[j]?.getD 0 ≤ 255 := by
  rcases Nat.lt_or_ge j Z.length with hj | hj
  · rw [List.getElem?_eq_getElem hj]; exact h _ (List.getElem_mem hj)
  · rw [List.getElem?_eq_none hj]; simp
theorem chg_bytes {Z : List Int} (k : Nat) {ys : List Int} (hZ : Bytes Z) (hy : Bytes ys) : ∀ i, Bytes (chg Z k ys i)
  | 0 => hZ
  | i + 1 => by
    have ih := chg_bytes k hZ hy i
    intro x hx
    rw [chg] at hx
    rcases List.mem_or_eq_of_mem_set hx with h | rfl
    · exact ih x h
    · exact xr_byte (getD_byte ih _) (getD_byte hy _)
theorem chg_four (P Q : List Int) (z0 z1 z2 z3 y0 y1 y2 y3 : Int) :
    chg (P ++ ([z0, z1, z2, z3] ++ Q)) P.length [y0, y1, y2, y3] 4 = P ++ ([xr z0 y0, xr z1 y1, xr z2 y2, xr z3 y3] ++ Q) := by
  simp [chg, List.set_append, List.getElem?_append]
theorem zip_zero : ∀ l : List Nat, List.zipWith (· ^^^ ·) l (List.replicate l.length 0) = l
  | [] => rfl
  | x :: l => by rw [List.length_cons, List.replicate_succ, List.zipWith_cons_cons, Nat.xor_zero, zip_zero l]
/-- sealed bytes that are changed within four are sealed only if they weren't -/
theorem burst {Z : List Int} (hZ : Bytes Z) {m k : Nat} (hl : Z.length = m + 4) (hk : k ≤ m) (hs : sealed tabN (Z.take m) = Z) {y0 y1 y2 y3 : Int} (hy : Bytes [y0, y1, y2, y3]) :
    sealed tabN ((chg Z k [y0, y1, y2, y3] 4).take m) = chg Z k [y0, y1, y2, y3] 4 ↔ y0 = 0 ∧ y1 = 0 ∧ y2 = 0 ∧ y3 = 0 := by
  have h1 := (sealed_iff hZ hl).1 hs
  rw [sealed_iff (chg_bytes k hZ hy 4) (by rw [chg_len]; exact hl)]
  obtain ⟨P, z0, z1, z2, z3, Q, hp, hz⟩ : ∃ P z0 z1 z2 z3 Q, P.length = k ∧ Z = P ++ ([z0, z1, z2, z3] ++ Q) := by
    have h4 : 4 ≤ (Z.drop k).length := by rw [List.length_drop]; omega
    match h : Z.drop k with
    | a :: b :: c :: d :: Q => exact ⟨Z.take k, a, b, c, d, Q, by rw [List.length_take]; omega, by rw [List.cons_append, List.cons_append, List.cons_append, List.cons_append, List.nil_append, ← h, List.take_append_drop]⟩
    | [] | [_] | [_, _] | [_, _, _] => rw [h] at h4; simp at h4
  subst hz hp
  have b0 := hy y0 (by simp); have b1 := hy y1 (by simp); have b2 := hy y2 (by simp); have b3 := hy y3 (by simp)
  rw [chg_four]
  have e : n8 (P ++ ([xr z0 y0, xr z1 y1, xr z2 y2, xr z3 y3] ++ Q)) = List.zipWith (· ^^^ ·) (n8 (P ++ ([z0, z1, z2, z3] ++ Q))) (List.replicate (n8 P).length 0 ++ ([y0.toNat, y1.toNat, y2.toNat, y3.toNat] ++ List.replicate (n8 Q).length 0)) := by
    rw [n8_append, n8_append, n8_append, n8_append, List.zipWith_append (by simp), List.zipWith_append (by simp [n8]), zip_zero, zip_zero]
    simp [n8, xr]
  have hx := creg_xor (n8 (P ++ ([z0, z1, z2, z3] ++ Q))) (List.replicate (n8 P).length 0 ++ ([y0.toNat, y1.toNat, y2.toNat, y3.toNat] ++ List.replicate (n8 Q).length 0)) 4294967295 0 (by simp [n8])
  rw [Nat.xor_zero, ← e, h1] at hx
  rw [hx]
  constructor
  · intro h
    have h2 : creg 0 (List.replicate (n8 P).length 0 ++ ([y0.toNat, y1.toNat, y2.toNat, y3.toNat] ++ List.replicate (n8 Q).length 0)) = 0 := by
      have : res ^^^ (res ^^^ creg 0 (List.replicate (n8 P).length 0 ++ ([y0.toNat, y1.toNat, y2.toNat, y3.toNat] ++ List.replicate (n8 Q).length 0))) = res ^^^ res := by rw [h]
      rw [← Nat.xor_assoc, Nat.xor_self, Nat.zero_xor] at this
      exact this
    rw [← List.append_assoc] at h2
    have := creg_burst _ _ (by omega) (by omega) (by omega) (by omega) h2
    omega
  · rintro ⟨rfl, rfl, rfl, rfl⟩
    have : creg 0 (List.replicate (n8 P).length 0 ++ ([(0 : Int).toNat, (0 : Int).toNat, (0 : Int).toNat, (0 : Int).toNat] ++ List.replicate (n8 Q).length 0)) = 0 := by
      rw [creg_append, creg_append, creg_zeros]
      exact creg_zeros _
    rw [this, Nat.xor_zero]
/-- bytes that are turned by none are as they were -/
theorem chg_none {Z : List Int} (hZ : Bytes Z) {k : Nat} (hk : k + 4 ≤ Z.length) : chg Z k [0, 0, 0, 0] 4 = Z := by
  have st : ∀ i, i < 4 → chg Z k [0, 0, 0, 0] i = Z → chg Z k [0, 0, 0, 0] (i + 1) = Z := by
    intro i hi h
    rw [chg, h]
    have hj : k + i < Z.length := by omega
    have h0 : ([0, 0, 0, 0] : List Int)[i]?.getD 0 = 0 := by
      have hc : i = 0 ∨ i = 1 ∨ i = 2 ∨ i = 3 := by omega
      rcases hc with rfl | rfl | rfl | rfl <;> rfl
    have hb := hZ _ (List.getElem_mem hj)
    rw [h0, List.getElem?_eq_getElem hj]
    have e : xr Z[k + i] 0 = Z[k + i] := by unfold xr; simp; omega
    show Z.set (k + i) (xr Z[k + i] 0) = Z
    rw [e, List.set_getElem_self]
  exact st 3 (by omega) (st 2 (by omega) (st 1 (by omega) (st 0 (by omega) rfl)))
end Go.Proofs.Ytdoehcecpfadbaa
