/- Contracts of layer 3's reference: numbers that are read. -/
import Derived.Test.YtgijhfdlecdijaaWire3
namespace Go.Proofs.Ytgijhfdlecdijaa
open Go.ChangeShapes Go.WideShapes Go.ChangeAt Go.RowKit Fb

/-- what the rounds know: of the bytes that are over, the number and the unit -/
def RU (b : List Int) (k : Nat) (x y : Int) : Prop := k < 10 → x = (vl (b.take k) : Nat) ∧ y = ((128 ^ k : Nat) : Int)
theorem RU.step {b : List Int} {k : Nat} {x y z : Int} (h : RU b k x y) (hk : k < b.length) (hz : b[k] = z) (h1 : 128 ≤ z) (h2 : z ≤ 255) :
    RU b (k + 1) (IntKind.u64.wrap (x + IntKind.u64.wrap (y * (z - 128)))) (IntKind.u64.wrap (y * 128)) := by
  intro hk9
  obtain ⟨rfl, rfl⟩ := h (by omega)
  have hp : 128 ^ k ≤ 128 ^ 8 := Nat.pow_le_pow_right (by decide) (by omega)
  have hv := vl_lt (b.take k)
  rw [List.length_take, Nat.min_eq_left (by omega)] at hv
  rw [vl_next hk, hz, Nat.pow_succ]
  have e8 : (128 : Nat) ^ 8 = 72057594037927936 := by decide
  rw [e8] at hp
  generalize 128 ^ k = u at *
  generalize vl (b.take k) = q at *
  obtain ⟨d, rfl⟩ : ∃ d : Nat, z = (d : Int) + 128 := ⟨(z - 128).toNat, by omega⟩
  have hd : d ≤ 127 := by omega
  have e1 : (u : Int) * ((d : Int) + 128 - 128) = ((u * d : Nat) : Int) := by simp
  have e2 : (((d : Int) + 128) % 128).toNat = d := by omega
  have e3 : u * d ≤ u * 127 := Nat.mul_le_mul_left u hd
  rw [e1, e2, u64_in ((u * d : Nat) : Int) (by omega) (by omega), u64_in _ (by omega) (by omega), u64_in _ (by omega) (by omega)]
  exact ⟨by omega, by omega⟩
theorem RU.last {b : List Int} {k : Nat} {x y z : Int} (h : RU b k x y) (hk : k < b.length) (h10 : k < 10) (hz : b[k] = z) (h1 : 0 ≤ z) (h2 : z < 128) (hv : vl (b.take (k + 1)) < 18446744073709551616) :
    IntKind.u64.wrap (x + IntKind.u64.wrap (y * z)) = (vl (b.take (k + 1)) : Nat) := by
  obtain ⟨rfl, rfl⟩ := h h10
  rw [vl_next hk, hz] at hv ⊢
  obtain ⟨d, rfl⟩ : ∃ d : Nat, z = (d : Int) := ⟨z.toNat, by omega⟩
  have e2 : ((d : Int) % 128).toNat = d := by omega
  rw [e2] at hv ⊢
  have e1 : ((128 ^ k : Nat) : Int) * (d : Int) = ((128 ^ k * d : Nat) : Int) := by simp
  rw [e1]
  generalize 128 ^ k * d = u at *
  generalize vl (b.take k) = q at *
  rw [u64_in (u : Int) (by omega) (by omega), u64_in _ (by omega) (by omega)]
  omega

end Go.Proofs.Ytgijhfdlecdijaa
