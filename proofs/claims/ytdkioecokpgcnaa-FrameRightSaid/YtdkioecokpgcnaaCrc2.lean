/- Contracts of layer 4 (crc) and of its reference: sums, by any table; the sum without a table. -/
import Derived.Test.YtdkioecokpgcnaaCrc1
namespace Go.Proofs.Ytdkioecokpgcnaa
open Go.ChangeShapes Go.WideShapes Go.ChangeAt Go.RowKit Fb

/-- bytes as numbers -/
def n8 (zs : List Int) : List Nat := zs.map Int.toNat
theorem n8_append (a b : List Int) : n8 (a ++ b) = n8 a ++ n8 b := by simp [n8]
theorem n8_len (a : List Int) : (n8 a).length = a.length := by simp [n8]
theorem n8_lt {zs : List Int} (h : Bytes zs) : ∀ b ∈ n8 zs, b < 256 := by
  intro b hb
  simp only [n8, List.mem_map] at hb
  obtain ⟨x, hx, rfl⟩ := hb
  have := h x hx
  omega
/-- a register goes on by a byte, by a table -/
def tstep (T : List Nat) (r b : Nat) : Nat := (T[r % 256 ^^^ b]?.getD 0) ^^^ (r / 256)
def regT (T : List Nat) (r : Nat) (l : List Nat) : Nat := l.foldl (tstep T) r
/-- all bits turned -/
def cpl (n : Nat) : Nat := n ^^^ 4294967295
/-- a sum goes on by bytes, by a table -/
def sumT (T : List Nat) (s : Nat) (l : List Nat) : Nat := cpl (regT T (cpl s) l)
theorem cpl_lt {n : Nat} (h : n < 4294967296) : cpl n < 4294967296 := Nat.xor_lt_two_pow (n := 32) h (by decide)
theorem cpl_cpl (n : Nat) : cpl (cpl n) = n := by unfold cpl; rw [Nat.xor_assoc, Nat.xor_self, Nat.xor_zero]
theorem low_lt {r b : Nat} (hb : b < 256) : r % 256 ^^^ b < 256 := Nat.xor_lt_two_pow (n := 8) (by omega) hb
theorem tstep_lt {T : List Nat} (hT : Tb T) {r b : Nat} (hr : r < 4294967296) (hb : b < 256) : tstep T r b < 4294967296 := by
  have hi : r % 256 ^^^ b < T.length := by rw [hT.1]; exact low_lt hb
  unfold tstep
  rw [List.getElem?_eq_getElem hi]
  have := hT.2 _ (List.getElem_mem hi)
  exact Nat.xor_lt_two_pow (n := 32) (by simpa using this) (by omega)
theorem regT_lt {T : List Nat} (hT : Tb T) : ∀ (l : List Nat) {r : Nat}, r < 4294967296 → (∀ b ∈ l, b < 256) → regT T r l < 4294967296
  | [], _, h, _ => h
  | b :: l, _, h, hb => regT_lt hT l (tstep_lt hT h (hb b (by simp))) (fun x hx => hb x (by simp [hx]))
theorem regT_append (T : List Nat) (r : Nat) (a b : List Nat) : regT T r (a ++ b) = regT T (regT T r a) b := List.foldl_append
theorem sumT_lt {T : List Nat} (hT : Tb T) {s : Nat} {l : List Nat} (hs : s < 4294967296) (hb : ∀ b ∈ l, b < 256) : sumT T s l < 4294967296 := cpl_lt (regT_lt hT l (cpl_lt hs) hb)
theorem sumT_nil (T : List Nat) (s : Nat) : sumT T s [] = s := cpl_cpl s
theorem sumT_append (T : List Nat) (s : Nat) (a b : List Nat) : sumT T s (a ++ b) = sumT T (sumT T s a) b := by
  unfold sumT
  rw [cpl_cpl, regT_append]
theorem take_n8 {zs : List Int} {k : Nat} (h : k < zs.length) : n8 (zs.take (k + 1)) = n8 (zs.take k) ++ [(zs[k]).toNat] := by
  rw [List.take_add_one, List.getElem?_eq_getElem h, n8_append]; rfl
/-- by the table, a register goes on by eight steps -/
theorem regT_tabN : ∀ (l : List Nat) (r : Nat), (∀ b ∈ l, b < 256) → regT tabN r l = creg r l
  | [], _, _ => rfl
  | b :: l, r, hb => by
    have hb1 := hb b (by simp)
    have h1 := xor_parts r b hb1
    have e : tstep tabN r b = csteps 8 (r ^^^ b) := by
      unfold tstep
      rw [tabN_get (low_lt hb1), ctab_byte, h1.1, h1.2]; rfl
    show regT tabN (tstep tabN r b) l = _
    rw [e, creg_cons]
    exact regT_tabN l _ (fun x hx => hb x (by simp [hx]))
theorem not_u32 (n : Nat) (h : n < 4294967296) : bits .xor .u32 IntKind.u32.max (n : Int) = ((cpl n : Nat) : Int) := by
  have e : bits .xor .u32 IntKind.u32.max (n : Int) = bits .xor .u32 4294967295 (n : Int) := rfl
  have := u32_xor_nat 4294967295 n (by omega) h
  unfold cpl
  rw [e, Nat.xor_comm n]
  simpa using this
theorem xor_u32 (a b : Nat) (ha : a < 4294967296) (hb : b < 4294967296) : bits .xor .u32 (a : Int) (b : Int) = ((a ^^^ b : Nat) : Int) := u32_xor_nat a b ha hb
theorem turn_u32 (n : Nat) (h : n < 4294967296) : bits .xor .u32 (n : Int) 4294967295 = ((cpl n : Nat) : Int) := by
  have := u32_xor_nat n 4294967295 h (by omega)
  unfold cpl
  simpa using this
/-- a byte of a slice, as the walk reads it -/
theorem _root_.Fb.Sl.byte {w : World} {B n : Nat} {A : Option Addr} {zs : List Int} (hS : Sl w B A n (by8 zs)) (hb : Bytes zs) {k : Nat} (hk : k < n) :
    ∃ b o x, A = some ⟨b, o, none⟩ ∧ b < B ∧ w.cell? ⟨b, o + k, none⟩ = some (.int .u8 ((x : Nat) : Int)) ∧ x < 256 ∧ n8 (zs.take (k + 1)) = n8 (zs.take k) ++ [x] := by
  have hl : n = zs.length := by have := hS.len; rw [by8_len] at this; exact this.symm
  obtain ⟨b, o, u, hA, hbB, hu, hc⟩ := hS.get hk
  have hkl : k < zs.length := by omega
  have hx := hb _ (List.getElem_mem hkl)
  obtain rfl : u = .int .u8 zs[k] := by
    simp only [by8, List.getElem?_map, List.getElem?_eq_getElem hkl, Option.map_some, Option.some.injEq] at hu
    exact hu.symm
  refine ⟨b, o, zs[k].toNat, hA, hbB, ?_, by omega, take_n8 hkl⟩
  rw [hc, Int.toNat_of_nonneg hx.1]

set_option maxHeartbeats 2000000 in
set_option maxRecDepth 100000 in
theorem Sum_crc {T : List Nat} (hT : Tb T) {A : Option Addr} {n c B s : Nat} {zs : List Int} {w : World} (hS : Sl w B A n (by8 zs)) (hB : B ≤ w.heap.size) (hb : Bytes zs) (hn : n ≤ 1000000) (hs : s < 4294967296) :
    Calls Try.prog 15 #[.agg (c32 T), .int .u32 s, .slice A n c] w fun e w' => e = .returned (.int .u32 (sumT T s (n8 zs) : Nat)) ∧ Below w.heap.size w w' := by
  have hl : n = zs.length := by have := hS.len; rw [by8_len] at this; exact this.symm
  have hS' := hS.below ((Below.refl B w).alloc hB (.cells (c32 T) 37))
  have hsN := not_u32 s hs
  have hsg : IntKind.u32.signed = false := rfl
  have Hl := hid hl
  have Hs := hid (cpl_lt hs)
  clear hS hl
  go_enter Try.func15, Try.ntmps15
  go_wp2
  go_loop [1, 12] (fun x i => ∃ k : Nat, k ≤ n ∧ i = .int .i64 k ∧ x = .int .u32 (regT T (cpl s) (n8 (zs.take k)) : Nat)) (fun _ i => n - (intOf i).toNat)
  case atStart => exact ⟨0, by omega, rfl, rfl⟩
  case round =>
    obtain ⟨k, hk, rfl, rfl⟩ := hrel
    have hr : regT T (cpl s) (n8 (zs.take k)) < 4294967296 := regT_lt hT _ Hs.out (n8_lt fun x hx => hb x (List.mem_of_mem_take hx))
    by_cases hlt : k < n
    · obtain ⟨g, o, x, rfl, hgB, hc, hx, htk⟩ := hS'.byte hb hlt
      have he : regT T (cpl s) (n8 (zs.take (k + 1))) = tstep T (regT T (cpl s) (n8 (zs.take k))) x := by rw [htk, regT_append]; rfl
      have He := hid he
      clear he htk
      generalize regT T (cpl s) (n8 (zs.take k)) = r at *
      have hi : r % 256 ^^^ x < T.length := by rw [hT.1]; exact low_lt hx
      have hi' : r % 256 ^^^ x < 256 := low_lt hx
      have ht : (c32 T)[r % 256 ^^^ x]? = some (.int .u32 ((T[r % 256 ^^^ x]?.getD 0 : Nat) : Int)) := by rw [c32_get T hi, List.getElem?_eq_getElem hi]; rfl
      have htl : T[r % 256 ^^^ x]?.getD 0 < 4294967296 := by rw [List.getElem?_eq_getElem hi]; exact hT.2 _ (List.getElem_mem hi)
      have hx8 : bits .xor .u8 ((r : Int) % 256) (x : Int) = ((r % 256 ^^^ x : Nat) : Int) := by
        have := u8_xor_nat (r % 256) x (by omega) hx
        simpa using this
      have hx32 : bits .xor .u32 ((T[r % 256 ^^^ x]?.getD 0 : Nat) : Int) ((r : Int) / 256) = ((tstep T r x : Nat) : Int) := by
        have := u32_xor_nat (T[r % 256 ^^^ x]?.getD 0) (r / 256) htl (by omega)
        unfold tstep
        simpa using this
      clear hi htl
      generalize T[r % 256 ^^^ x]?.getD 0 = y at *
      generalize r % 256 ^^^ x = j at *
      generalize tstep T r x = r' at *
      go_wp2
      go_round
      case rel => exact ⟨k + 1, by omega, by go_num, by rw [He.out]⟩
      case measure => simp [intOf]; omega
    · obtain rfl : k = n := by omega
      rw [List.take_of_length_le (by have := Hl.out; omega)] at hr
      rw [List.take_of_length_le (by have := Hl.out; omega)]
      have hrN := not_u32 _ hr
      have He : Hid (sumT T s (n8 zs) = cpl (regT T (cpl s) (n8 zs))) := rfl
      generalize regT T (cpl s) (n8 zs) = r at *
      go_wp2
      go_ret
      exact ⟨by rw [He.out]; rfl, (Below.refl _ _).alloc (Nat.le_refl _) _⟩
set_option maxHeartbeats 2000000 in
set_option maxRecDepth 100000 in
theorem Plain_any {A : Option Addr} {n c B : Nat} {zs : List Int} {w : World} (hS : Sl w B A n (by8 zs)) (hb : Bytes zs) (hn : n ≤ 1000000) :
    Calls Try.prog 18 #[.slice A n c] w fun e w' => e = .returned (.int .u32 (sumT tabN 0 (n8 zs) : Nat)) ∧ w = w' := by
  have hl : n = zs.length := by have := hS.len; rw [by8_len] at this; exact this.symm
  have he : sumT tabN 0 (n8 zs) = cpl (creg 4294967295 (n8 zs)) := by
    show cpl (regT tabN (cpl 0) _) = _
    rw [regT_tabN _ _ (n8_lt hb)]; rfl
  have Hl := hid hl
  have HE := hid he
  clear hl he
  go_enter Try.func18, Try.ntmps18
  go_wp2
  go_loop [3, 4] (fun x i => ∃ k : Nat, k ≤ n ∧ i = .int .i64 k ∧ x = .int .u32 (creg 4294967295 (n8 (zs.take k)) : Nat)) (fun _ i => n - (intOf i).toNat)
  case atStart => exact ⟨0, by omega, rfl, rfl⟩
  case round =>
    obtain ⟨k, hk, rfl, rfl⟩ := hrel
    have hr : creg 4294967295 (n8 (zs.take k)) < 4294967296 := creg_lt _ (by omega) (n8_lt fun x hx => hb x (List.mem_of_mem_take hx))
    by_cases hlt : k < n
    · obtain ⟨g, o, x, rfl, hgB, hc, hx, htk⟩ := hS.byte hb hlt
      have he : creg 4294967295 (n8 (zs.take (k + 1))) = csteps 8 (creg 4294967295 (n8 (zs.take k)) ^^^ x) := by rw [htk, creg_append]; rfl
      have He := hid he
      clear he htk
      generalize creg 4294967295 (n8 (zs.take k)) = r at *
      have hx32 : bits .xor .u32 (r : Int) (x : Int) = ((r ^^^ x : Nat) : Int) := u32_xor_nat r x hr (by omega)
      have hy : r ^^^ x < 4294967296 := Nat.xor_lt_two_pow (n := 32) hr (by omega)
      generalize r ^^^ x = y at *
      go_wp2
      go_loop [3, 5] (fun z i => ∃ m : Nat, m ≤ 8 ∧ i = .int .i64 m ∧ z = .int .u32 (csteps m y : Nat)) (fun _ i => 8 - (intOf i).toNat)
      case atStart => exact ⟨0, by omega, rfl, rfl⟩
      case round =>
        obtain ⟨m, hm, rfl, rfl⟩ := hrel
        by_cases hlt8 : m < 8
        · have hz : csteps m y < 4294967296 := csteps_lt m hy
          have hs : csteps (m + 1) y = cstep (csteps m y) := csteps_add 1 m y
          have Hs := hid hs
          clear hs
          generalize csteps m y = z at *
          have P := hid (fun w => Step_any hz w)
          go_wp2_with fail
          refine (P.out _).mono ?_
          rintro e w' ⟨rfl, rfl⟩
          go_wp2_with fail
          go_round
          case rel => exact ⟨m + 1, by omega, by go_num, by rw [Hs.out]⟩
          case measure => simp [intOf]; omega
        · obtain rfl : m = 8 := by omega
          go_wp2
          go_round
          case rel => exact ⟨k + 1, by omega, by go_num, by rw [He.out]⟩
          case measure => simp [intOf]; omega
    · obtain rfl : k = n := by omega
      rw [List.take_of_length_le (by have := Hl.out; omega)] at hr
      rw [List.take_of_length_le (by have := Hl.out; omega)]
      have hrN := turn_u32 _ hr
      generalize creg 4294967295 (n8 zs) = r at *
      go_wp2
      go_ret
      exact ⟨by rw [HE.out]; rfl, rfl⟩
end Go.Proofs.Ytdkioecokpgcnaa
