/- Layer 8, plain: a frame's bytes, and what stands at a place of some bytes. -/
import Derived.Test.YtdkioecokpgcnaaCrc3
namespace Go.Proofs.Ytdkioecokpgcnaa
open Fb Go.RowKit

theorem wrap_i64 {x : Int} (h0 : -9223372036854775808 ≤ x) (h1 : x ≤ 9223372036854775807) : Go.IntKind.i64.wrap x = x := by
  unfold Go.IntKind.wrap
  simp [Go.IntKind.bits, Go.IntKind.signed]
  omega

/-- a frame's bytes ahead of its sum -/
def hdB (k : Int) (zs : List Int) : List Int := [0, (zs.length : Int), k] ++ zs
/-- a frame's bytes -/
def frB (k : Int) (zs : List Int) : List Int := sealed tabN (hdB k zs)
/-- what Put tells beside the bytes, and these -/
def fpE (k : Int) (n : Nat) : Int := if k < 1 ∨ 3 < k then 2 else if 200 < n then 9 else 0
def fpB (k : Int) (zs : List Int) : List Int := if fpE k zs.length = 0 then frB k zs else []
theorem hdB_len (k : Int) (zs : List Int) : (hdB k zs).length = 3 + zs.length := by simp [hdB]; omega
theorem frB_len (k : Int) (zs : List Int) : (frB k zs).length = zs.length + 7 := by unfold frB; rw [sealed_len, hdB_len]; omega
theorem hdB_bytes {k : Int} {zs : List Int} (hk : 0 ≤ k ∧ k ≤ 255) (hn : zs.length ≤ 255) (hb : Bytes zs) : Bytes (hdB k zs) := by
  refine bytes_append (fun x hx => ?_) hb
  simp only [List.mem_cons, List.not_mem_nil, or_false] at hx
  rcases hx with rfl | rfl | rfl <;> omega
theorem frB_bytes {k : Int} {zs : List Int} (hk : 0 ≤ k ∧ k ≤ 255) (hn : zs.length ≤ 255) (hb : Bytes zs) : Bytes (frB k zs) := sealed_bytes tabN (hdB_bytes hk hn hb)
theorem fpE_kind {k : Int} {n : Nat} (h : k < 1 ∨ 3 < k) : fpE k n = 2 := by unfold fpE; rw [if_pos h]
theorem fpE_many {k : Int} {n : Nat} (h : ¬ (k < 1 ∨ 3 < k)) (hn : 200 < n) : fpE k n = 9 := by unfold fpE; rw [if_neg h, if_pos hn]
theorem fpE_ok {k : Int} {n : Nat} (h : ¬ (k < 1 ∨ 3 < k)) (hn : n ≤ 200) : fpE k n = 0 := by unfold fpE; rw [if_neg h, if_neg (by omega)]
theorem fpE_zero {k : Int} {n : Nat} (h : fpE k n = 0) : 1 ≤ k ∧ k ≤ 3 ∧ n ≤ 200 := by
  unfold fpE at h
  split at h
  · cases h
  · split at h
    · cases h
    · omega
theorem fpB_ok {k : Int} {zs : List Int} (h : fpE k zs.length = 0) : fpB k zs = frB k zs := by unfold fpB; rw [if_pos h]
theorem fpB_no {k : Int} {zs : List Int} (h : fpE k zs.length ≠ 0) : fpB k zs = [] := by unfold fpB; rw [if_neg h]
theorem fpB_bytes {k : Int} {zs : List Int} (hb : Bytes zs) : Bytes (fpB k zs) := by
  unfold fpB
  split
  · rename_i h
    have := fpE_zero h
    exact frB_bytes (by omega) (by omega) hb
  · intro x hx; cases hx

/-- a byte at a place, or 0 -/
def at0 (ys : List Int) (j : Nat) : Int := ys[j]?.getD 0
theorem at0_byte {ys : List Int} (h : Bytes ys) (j : Nat) : 0 ≤ at0 ys j ∧ at0 ys j ≤ 255 := by
  unfold at0
  rcases Nat.lt_or_ge j ys.length with hj | hj
  · rw [List.getElem?_eq_getElem hj]; exact h _ (List.getElem_mem hj)
  · rw [List.getElem?_eq_none hj]; simp
/-- the length that the first two bytes tell, and the payload of so many -/
def fsN (ys : List Int) : Nat := (256 * at0 ys 0 + at0 ys 1).toNat
def fsP (ys : List Int) : List Int := (ys.drop 3).take (fsN ys)
/-- what some bytes begin with -/
def fiS (ys : List Int) : Int :=
  if ys.length = 0 then 1 else if ys.length < 7 then 2 else if 200 < fsN ys then 3 else if ys.length < 7 + fsN ys then 2 else
  if (1 ≤ at0 ys 2 ∧ at0 ys 2 ≤ 3) ∧ frB (at0 ys 2) (fsP ys) = ys.take (7 + fsN ys) then 0 else 3
theorem fsN_val {ys : List Int} (h : Bytes ys) : ((fsN ys : Nat) : Int) = 256 * at0 ys 0 + at0 ys 1 := by
  have h0 := at0_byte h 0
  have h1 := at0_byte h 1
  unfold fsN
  omega
theorem fi_end {ys : List Int} (h : ys.length = 0) : fiS ys = 1 := by unfold fiS; rw [if_pos h]
theorem fi_few {ys : List Int} (h0 : ys.length ≠ 0) (h : ys.length < 7) : fiS ys = 2 := by unfold fiS; rw [if_neg h0, if_pos h]
theorem fi_long {ys : List Int} (h : ¬ ys.length < 7) (h1 : 200 < fsN ys) : fiS ys = 3 := by unfold fiS; rw [if_neg (by omega), if_neg h, if_pos h1]
theorem fi_torn {ys : List Int} (h : ¬ ys.length < 7) (h1 : ¬ 200 < fsN ys) (h2 : ys.length < 7 + fsN ys) : fiS ys = 2 := by unfold fiS; rw [if_neg (by omega), if_neg h, if_neg h1, if_pos h2]
theorem fi_yes {ys : List Int} (h : ¬ ys.length < 7) (h1 : ¬ 200 < fsN ys) (h2 : ¬ ys.length < 7 + fsN ys) (h3 : 1 ≤ at0 ys 2 ∧ at0 ys 2 ≤ 3) (h4 : frB (at0 ys 2) (fsP ys) = ys.take (7 + fsN ys)) : fiS ys = 0 := by
  unfold fiS; rw [if_neg (by omega), if_neg h, if_neg h1, if_neg h2, if_pos ⟨h3, h4⟩]
theorem fi_no {ys : List Int} (h : ¬ ys.length < 7) (h1 : ¬ 200 < fsN ys) (h2 : ¬ ys.length < 7 + fsN ys) (h3 : ¬ ((1 ≤ at0 ys 2 ∧ at0 ys 2 ≤ 3) ∧ frB (at0 ys 2) (fsP ys) = ys.take (7 + fsN ys))) : fiS ys = 3 := by
  unfold fiS; rw [if_neg (by omega), if_neg h, if_neg h1, if_neg h2, if_neg h3]
theorem fi_zero {ys : List Int} (h : fiS ys = 0) : 7 + fsN ys ≤ ys.length ∧ fsN ys ≤ 200 ∧ 1 ≤ at0 ys 2 ∧ at0 ys 2 ≤ 3 ∧ frB (at0 ys 2) (fsP ys) = ys.take (7 + fsN ys) := by
  unfold fiS at h
  split at h
  · cases h
  · split at h
    · cases h
    · split at h
      · cases h
      · split at h
        · cases h
        · split at h
          · rename_i h1 h2 h3 h4 h5
            exact ⟨by omega, by omega, h5.1.1, h5.1.2, h5.2⟩
          · cases h
theorem fi_one {ys : List Int} : fiS ys = 1 ↔ ys.length = 0 := by
  refine ⟨fun h => ?_, fi_end⟩
  unfold fiS at h
  split at h
  · assumption
  · repeat (split at h; · cases h)
    cases h
theorem fsP_len {ys : List Int} (h : 7 + fsN ys ≤ ys.length) : (fsP ys).length = fsN ys := by
  unfold fsP; rw [List.length_take, List.length_drop]; omega
/-- a frame's bytes, whatever is behind them -/
theorem fi_frame {k : Int} {zs rest : List Int} (hk : 1 ≤ k ∧ k ≤ 3) (hn : zs.length ≤ 200) :
    fiS (frB k zs ++ rest) = 0 ∧ fsN (frB k zs ++ rest) = zs.length ∧ fsP (frB k zs ++ rest) = zs ∧ at0 (frB k zs ++ rest) 2 = k := by
  have e : frB k zs ++ rest = 0 :: (zs.length : Int) :: k :: (zs ++ (foot (sumT tabN 0 (n8 (hdB k zs))) ++ rest)) := by
    unfold frB sealed
    generalize foot _ = F
    simp [hdB]
  have e0 : at0 (frB k zs ++ rest) 0 = 0 := by rw [e]; rfl
  have e1 : at0 (frB k zs ++ rest) 1 = zs.length := by rw [e]; rfl
  have e2 : at0 (frB k zs ++ rest) 2 = k := by rw [e]; rfl
  have eN : fsN (frB k zs ++ rest) = zs.length := by unfold fsN; rw [e0, e1]; omega
  have eP : fsP (frB k zs ++ rest) = zs := by
    unfold fsP
    rw [eN, e]
    show (zs ++ _).take zs.length = zs
    exact List.take_left
  have hl : (frB k zs ++ rest).length = zs.length + 7 + rest.length := by rw [List.length_append, frB_len]
  refine ⟨fi_yes (by omega) (by omega) (by omega) (by omega) ?_, eN, eP, e2⟩
  rw [e2, eP, eN]
  have : 7 + zs.length = (frB k zs).length := by rw [frB_len]; omega
  rw [this, List.take_left]

/-- what stands at a place, and of a whole frame its type, its payload, how many bytes it has -/
def nxS (zs : List Int) (p : Int) : Int := if p < 0 ∨ (zs.length : Int) < p then 3 else fiS (zs.drop p.toNat)
def nxK (zs : List Int) (p : Int) : Int := if nxS zs p = 0 then at0 (zs.drop p.toNat) 2 else 0
def nxP (zs : List Int) (p : Int) : List Int := if nxS zs p = 0 then fsP (zs.drop p.toNat) else []
def nxN (zs : List Int) (p : Int) : Int := if nxS zs p = 0 then 7 + (fsN (zs.drop p.toNat) : Int) else 0
theorem nx_out {zs : List Int} {p : Int} (h : p < 0 ∨ (zs.length : Int) < p) : nxS zs p = 3 ∧ nxK zs p = 0 ∧ nxP zs p = [] ∧ nxN zs p = 0 := by
  have e : nxS zs p = 3 := by unfold nxS; rw [if_pos h]
  unfold nxK nxP nxN
  rw [e]
  exact ⟨rfl, if_neg (by decide), if_neg (by decide), if_neg (by decide)⟩
theorem nx_in {zs : List Int} {p : Int} (h : ¬ (p < 0 ∨ (zs.length : Int) < p)) : nxS zs p = fiS (zs.drop p.toNat) := by unfold nxS; rw [if_neg h]
theorem nx_no {zs : List Int} {p : Int} (h : nxS zs p ≠ 0) : nxK zs p = 0 ∧ nxP zs p = [] ∧ nxN zs p = 0 := by
  unfold nxK nxP nxN
  exact ⟨if_neg h, if_neg h, if_neg h⟩
theorem nx_yes {zs : List Int} {p : Int} (h : nxS zs p = 0) : nxK zs p = at0 (zs.drop p.toNat) 2 ∧ nxP zs p = fsP (zs.drop p.toNat) ∧ nxN zs p = 7 + (fsN (zs.drop p.toNat) : Int) := by
  unfold nxK nxP nxN
  exact ⟨if_pos h, if_pos h, if_pos h⟩
/-- what is whole is a frame that Put has, and lies there -/
theorem nx_whole {zs : List Int} {p : Int} (h : nxS zs p = 0) : 0 ≤ p ∧ fpE (nxK zs p) (nxP zs p).length = 0 ∧ nxN zs p = ((frB (nxK zs p) (nxP zs p)).length : Nat) ∧ nxN zs p ≤ zs.length ∧ p ≤ zs.length - nxN zs p ∧ (zs.drop p.toNat).take (nxN zs p).toNat = frB (nxK zs p) (nxP zs p) := by
  have hin : ¬ (p < 0 ∨ (zs.length : Int) < p) := by
    intro hh
    rw [(nx_out hh).1] at h
    cases h
  obtain ⟨eK, eP, eN⟩ := nx_yes h
  rw [nx_in hin] at h
  obtain ⟨h1, h2, h3, h4, h5⟩ := fi_zero h
  have hl := fsP_len h1
  have hd : (zs.drop p.toNat).length = zs.length - p.toNat := List.length_drop
  rw [eK, eP, eN, frB_len, hl]
  refine ⟨by omega, fpE_ok (by omega) (by omega), by omega, by omega, by omega, ?_⟩
  rw [h5]
  congr 1
/-- a frame that lies behind others is read as it was -/
theorem nx_frame {k : Int} {zs ahead rest : List Int} (hk : 1 ≤ k ∧ k ≤ 3) (hn : zs.length ≤ 200) :
    nxS (ahead ++ frB k zs ++ rest) ahead.length = 0 ∧ nxK (ahead ++ frB k zs ++ rest) ahead.length = k ∧ nxP (ahead ++ frB k zs ++ rest) ahead.length = zs ∧ nxN (ahead ++ frB k zs ++ rest) ahead.length = ((frB k zs).length : Nat) := by
  have hd : (ahead ++ frB k zs ++ rest).drop (ahead.length : Int).toNat = frB k zs ++ rest := by
    rw [Int.toNat_natCast, List.append_assoc, List.drop_left]
  have hin : ¬ ((ahead.length : Int) < 0 ∨ ((ahead ++ frB k zs ++ rest).length : Int) < ahead.length) := by
    simp only [List.length_append]
    omega
  obtain ⟨f1, f2, f3, f4⟩ := fi_frame (rest := rest) hk hn
  have hs : nxS (ahead ++ frB k zs ++ rest) ahead.length = 0 := by rw [nx_in hin, hd]; exact f1
  obtain ⟨eK, eP, eN⟩ := nx_yes hs
  rw [eK, eP, eN, hd, f2, f3, f4, frB_len]
  exact ⟨hs, rfl, rfl, by omega⟩
theorem nx_end {zs : List Int} {p : Int} : nxS zs p = 1 ↔ p = zs.length := by
  by_cases hin : p < 0 ∨ (zs.length : Int) < p
  · rw [(nx_out hin).1]
    constructor
    · intro h; cases h
    · intro h; omega
  · rw [nx_in hin, fi_one, List.length_drop]
    omega
end Go.Proofs.Ytdkioecokpgcnaa
