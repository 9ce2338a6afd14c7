/- Texts laid together: FrameM, Frame1, Frame2, Frame3. -/
import Derived.Test.YtondnbnaoacanaaGreatDoorXa
/- Layer 8, plain: a frame's bytes, and what stands at a place of some bytes. -/
namespace Go.Proofs.YtondnbnaoacanaaGreatDoor
open Fb Go.RowKit

theorem wrap_i64 {x : Int} (h0 : -9223372036854775808 ≤ x) (h1 : x ≤ 9223372036854775807) : Go.IntKind.i64.wrap x = x := by
  unfold Go.IntKind.wrap
  simp [Go.IntKind.bits, Go.IntKind.signed]
  omega

/-- a frame's bytes ahead of its sum -/
def hdB (k : Int) (zs : List Int) : List Int := [0, (zs.length : Int), k] ++ zs
/-- a frame's bytes -/
def frB (k : Int) (zs : List Int) : List Int := sealed tabN (hdB k zs)
/-- what Put tells beside the bytes, and these -/
def fpE (k : Int) (n : Nat) : Int := if k < 1 ∨ 3 < k then 2 else if 200 < n then 9 else 0
def fpB (k : Int) (zs : List Int) : List Int := if fpE k zs.length = 0 then frB k zs else []
theorem hdB_len (k : Int) (zs : List Int) : (hdB k zs).length = 3 + zs.length := by simp [hdB]; omega
theorem frB_len (k : Int) (zs : List Int) : (frB k zs).length = zs.length + 7 := by unfold frB; rw [sealed_len, hdB_len]; omega
theorem hdB_bytes {k : Int} {zs : List Int} (hk : 0 ≤ k ∧ k ≤ 255) (hn : zs.length ≤ 255) (hb : Bytes zs) : Bytes (hdB k zs) := by
  refine bytes_append (fun x hx => ?_) hb
  simp only [List.mem_cons, List.not_mem_nil, or_false] at hx
  rcases hx with rfl | rfl | rfl <;> omega
theorem frB_bytes {k : Int} {zs : List Int} (hk : 0 ≤ k ∧ k ≤ 255) (hn : zs.length ≤ 255) (hb : Bytes zs) : Bytes (frB k zs) := sealed_bytes tabN (hdB_bytes hk hn hb)
theorem fpE_kind {k : Int} {n : Nat} (h : k < 1 ∨ 3 < k) : fpE k n = 2 := by unfold fpE; rw [if_pos h]
theorem fpE_many {k : Int} {n : Nat} (h : ¬ (k < 1 ∨ 3 < k)) (hn : 200 < n) : fpE k n = 9 := by unfold fpE; rw [if_neg h, if_pos hn]
theorem fpE_ok {k : Int} {n : Nat} (h : ¬ (k < 1 ∨ 3 < k)) (hn : n ≤ 200) : fpE k n = 0 := by unfold fpE; rw [if_neg h, if_neg (by omega)]
theorem fpE_zero {k : Int} {n : Nat} (h : fpE k n = 0) : 1 ≤ k ∧ k ≤ 3 ∧ n ≤ 200 := by
  unfold fpE at h
  split at h
  · cases h
  · split at h
    · cases h
    · omega
theorem fpB_ok {k : Int} {zs : List Int} (h : fpE k zs.length = 0) : fpB k zs = frB k zs := by unfold fpB; rw [if_pos h]
theorem fpB_no {k : Int} {zs : List Int} (h : fpE k zs.length ≠ 0) : fpB k zs = [] := by unfold fpB; rw [if_neg h]
theorem fpB_bytes {k : Int} {zs : List Int} (hb : Bytes zs) : Bytes (fpB k zs) := by
  unfold fpB
  split
  · rename_i h
    have := fpE_zero h
    exact frB_bytes (by omega) (by omega) hb
  · intro x hx; cases hx

/-- a byte at a place, or 0 -/
def at0 (ys : List Int) (j : Nat) : Int := ys[j]?.getD 0
theorem at0_byte {ys : List Int} (h : Bytes ys) (j : Nat) : 0 ≤ at0 ys j ∧ at0 ys j ≤ 255 := by
  unfold at0
  rcases Nat.lt_or_ge j ys.length with hj | hj
  · rw [List.getElem?_eq_getElem hj]; exact h _ (List.getElem_mem hj)
  · rw [List.getElem?_eq_none hj]; simp
/-- the length that the first two bytes tell, and the payload of so many -/
def fsN (ys : List Int) : Nat := (256 * at0 ys 0 + at0 ys 1).toNat
def fsP (ys : List Int) : List Int := (ys.drop 3).take (fsN ys)
/-- what some bytes begin with -/
def fiS (ys : List Int) : Int :=
  if ys.length = 0 then 1 else if ys.length < 7 then 2 else if 200 < fsN ys then 3 else if ys.length < 7 + fsN ys then 2 else
  if (1 ≤ at0 ys 2 ∧ at0 ys 2 ≤ 3) ∧ frB (at0 ys 2) (fsP ys) = ys.take (7 + fsN ys) then 0 else 3
theorem fsN_val {ys : List Int} (h : Bytes ys) : ((fsN ys : Nat) : Int) = 256 * at0 ys 0 + at0 ys 1 := by
  have h0 := at0_byte h 0
  have h1 := at0_byte h 1
  unfold fsN
  omega
theorem fi_end {ys : List Int} (h : ys.length = 0) : fiS ys = 1 := by unfold fiS; rw [if_pos h]
theorem fi_few {ys : List Int} (h0 : ys.length ≠ 0) (h : ys.length < 7) : fiS ys = 2 := by unfold fiS; rw [if_neg h0, if_pos h]
theorem fi_long {ys : List Int} (h : ¬ ys.length < 7) (h1 : 200 < fsN ys) : fiS ys = 3 := by unfold fiS; rw [if_neg (by omega), if_neg h, if_pos h1]
theorem fi_torn {ys : List Int} (h : ¬ ys.length < 7) (h1 : ¬ 200 < fsN ys) (h2 : ys.length < 7 + fsN ys) : fiS ys = 2 := by unfold fiS; rw [if_neg (by omega), if_neg h, if_neg h1, if_pos h2]
theorem fi_yes {ys : List Int} (h : ¬ ys.length < 7) (h1 : ¬ 200 < fsN ys) (h2 : ¬ ys.length < 7 + fsN ys) (h3 : 1 ≤ at0 ys 2 ∧ at0 ys 2 ≤ 3) (h4 : frB (at0 ys 2) (fsP ys) = ys.take (7 + fsN ys)) : fiS ys = 0 := by
  unfold fiS; rw [if_neg (by omega), if_neg h, if_neg h1, if_neg h2, if_pos ⟨h3, h4⟩]
theorem fi_no {ys : List Int} (h : ¬ ys.length < 7) (h1 : ¬ 200 < fsN ys) (h2 : ¬ ys.length < 7 + fsN ys) (h3 : ¬ ((1 ≤ at0 ys 2 ∧ at0 ys 2 ≤ 3) ∧ frB (at0 ys 2) (fsP ys) = ys.take (7 + fsN ys))) : fiS ys = 3 := by
  unfold fiS; rw [if_neg (by omega), if_neg h, if_neg h1, if_neg h2, if_neg h3]
theorem fi_zero {ys : List Int} (h : fiS ys = 0) : 7 + fsN ys ≤ ys.length ∧ fsN ys ≤ 200 ∧ 1 ≤ at0 ys 2 ∧ at0 ys 2 ≤ 3 ∧ frB (at0 ys 2) (fsP ys) = ys.take (7 + fsN ys) := by
  unfold fiS at h
  split at h
  · cases h
  · split at h
    · cases h
    · split at h
      · cases h
      · split at h
        · cases h
        · split at h
          · rename_i h1 h2 h3 h4 h5
            exact ⟨by omega, by omega, h5.1.1, h5.1.2, h5.2⟩
          · cases h
theorem fi_one {ys : List Int} : fiS ys = 1 ↔ ys.length = 0 := by
  refine ⟨fun h => ?_, fi_end⟩
  unfold fiS at h
  split at h
  · assumption
  · repeat (split at h; · cases h)
    cases h
theorem fsP_len {ys : List Int} (h : 7 + fsN ys ≤ ys.length) : (fsP ys).length = fsN ys := by
  unfold fsP; rw [List.length_take, List.length_drop]; omega
/-- a frame's bytes, whatever is behind them -/
theorem fi_frame {k : Int} {zs rest : List Int} (hk : 1 ≤ k ∧ k ≤ 3) (hn : zs.length ≤ 200) :
    fiS (frB k zs ++ rest) = 0 ∧ fsN (frB k zs ++ rest) = zs.length ∧ fsP (frB k zs ++ rest) = zs ∧ at0 (frB k zs ++ rest) 2 = k := by
  have e : frB k zs ++ rest = 0 :: (zs.length : Int) :: k :: (zs ++ (foot (sumT tabN 0 (n8 (hdB k zs))) ++ rest)) := by
    unfold frB sealed
    generalize foot _ = F
    simp [hdB]
  have e0 : at0 (frB k zs ++ rest) 0 = 0 := by rw [e]; rfl
  have e1 : at0 (frB k zs ++ rest) 1 = zs.length := by rw [e]; rfl
  have e2 : at0 (frB k zs ++ rest) 2 = k := by rw [e]; rfl
  have eN : fsN (frB k zs ++ rest) = zs.length := by unfold fsN; rw [e0, e1]; omega
  have eP : fsP (frB k zs ++ rest) = zs := by
    unfold fsP
    rw [eN, e]
    show (zs ++ _).take zs.length = zs
    exact List.take_left
  have hl : (frB k zs ++ rest).length = zs.length + 7 + rest.length := by rw [List.length_append, frB_len]
  refine ⟨fi_yes (by omega) (by omega) (by omega) (by omega) ?_, eN, eP, e2⟩
  rw [e2, eP, eN]
  have : 7 + zs.length = (frB k zs).length := by rw [frB_len]; omega
  rw [this, List.take_left]

/-- what stands at a place, and of a whole frame its type, its payload, how many bytes it has -/
def nxS (zs : List Int) (p : Int) : Int := if p < 0 ∨ (zs.length : Int) < p then 3 else fiS (zs.drop p.toNat)
def nxK (zs : List Int) (p : Int) : Int := if nxS zs p = 0 then at0 (zs.drop p.toNat) 2 else 0
def nxP (zs : List Int) (p : Int) : List Int := if nxS zs p = 0 then fsP (zs.drop p.toNat) else []
def nxN (zs : List Int) (p : Int) : Int := if nxS zs p = 0 then 7 + (fsN (zs.drop p.toNat) : Int) else 0
theorem nx_out {zs : List Int} {p : Int} (h : p < 0 ∨ (zs.length : Int) < p) : nxS zs p = 3 ∧ nxK zs p = 0 ∧ nxP zs p = [] ∧ nxN zs p = 0 := by
  have e : nxS zs p = 3 := by unfold nxS; rw [if_pos h]
  unfold nxK nxP nxN
  rw [e]
  exact ⟨rfl, if_neg (by decide), if_neg (by decide), if_neg (by decide)⟩
theorem nx_in {zs : List Int} {p : Int} (h : ¬ (p < 0 ∨ (zs.length : Int) < p)) : nxS zs p = fiS (zs.drop p.toNat) := by unfold nxS; rw [if_neg h]
theorem nx_no {zs : List Int} {p : Int} (h : nxS zs p ≠ 0) : nxK zs p = 0 ∧ nxP zs p = [] ∧ nxN zs p = 0 := by
  unfold nxK nxP nxN
  exact ⟨if_neg h, if_neg h, if_neg h⟩
theorem nx_yes {zs : List Int} {p : Int} (h : nxS zs p = 0) : nxK zs p = at0 (zs.drop p.toNat) 2 ∧ nxP zs p = fsP (zs.drop p.toNat) ∧ nxN zs p = 7 + (fsN (zs.drop p.toNat) : Int) := by
  unfold nxK nxP nxN
  exact ⟨if_pos h, if_pos h, if_pos h⟩
/-- what is whole is a frame that Put has, and lies there -/
theorem nx_whole {zs : List Int} {p : Int} (h : nxS zs p = 0) : 0 ≤ p ∧ fpE (nxK zs p) (nxP zs p).length = 0 ∧ nxN zs p = ((frB (nxK zs p) (nxP zs p)).length : Nat) ∧ nxN zs p ≤ zs.length ∧ p ≤ zs.length - nxN zs p ∧ (zs.drop p.toNat).take (nxN zs p).toNat = frB (nxK zs p) (nxP zs p) := by
  have hin : ¬ (p < 0 ∨ (zs.length : Int) < p) := by
    intro hh
    rw [(nx_out hh).1] at h
    cases h
  obtain ⟨eK, eP, eN⟩ := nx_yes h
  rw [nx_in hin] at h
  obtain ⟨h1, h2, h3, h4, h5⟩ := fi_zero h
  have hl := fsP_len h1
  have hd : (zs.drop p.toNat).length = zs.length - p.toNat := List.length_drop
  rw [eK, eP, eN, frB_len, hl]
  refine ⟨by omega, fpE_ok (by omega) (by omega), by omega, by omega, by omega, ?_⟩
  rw [h5]
  congr 1
/-- a frame that lies behind others is read as it was -/
theorem nx_frame {k : Int} {zs ahead rest : List Int} (hk : 1 ≤ k ∧ k ≤ 3) (hn : zs.length ≤ 200) :
    nxS (ahead ++ frB k zs ++ rest) ahead.length = 0 ∧ nxK (ahead ++ frB k zs ++ rest) ahead.length = k ∧ nxP (ahead ++ frB k zs ++ rest) ahead.length = zs ∧ nxN (ahead ++ frB k zs ++ rest) ahead.length = ((frB k zs).length : Nat) := by
  have hd : (ahead ++ frB k zs ++ rest).drop (ahead.length : Int).toNat = frB k zs ++ rest := by
    rw [Int.toNat_natCast, List.append_assoc, List.drop_left]
  have hin : ¬ ((ahead.length : Int) < 0 ∨ ((ahead ++ frB k zs ++ rest).length : Int) < ahead.length) := by
    simp only [List.length_append]
    omega
  obtain ⟨f1, f2, f3, f4⟩ := fi_frame (rest := rest) hk hn
  have hs : nxS (ahead ++ frB k zs ++ rest) ahead.length = 0 := by rw [nx_in hin, hd]; exact f1
  obtain ⟨eK, eP, eN⟩ := nx_yes hs
  rw [eK, eP, eN, hd, f2, f3, f4, frB_len]
  exact ⟨hs, rfl, rfl, by omega⟩
theorem nx_end {zs : List Int} {p : Int} : nxS zs p = 1 ↔ p = zs.length := by
  by_cases hin : p < 0 ∨ (zs.length : Int) < p
  · rw [(nx_out hin).1]
    constructor
    · intro h; cases h
    · intro h; omega
  · rw [nx_in hin, fi_one, List.length_drop]
    omega
theorem at0_take {ys : List Int} {i j : Nat} (h : i < j) : at0 (ys.take j) i = at0 ys i := by unfold at0; rw [List.getElem?_take_of_lt h]
/-- a frame's bytes that are cut -/
theorem fi_cut {k : Int} {zs : List Int} {j : Nat} (hk : 1 ≤ k ∧ k ≤ 3) (hn : zs.length ≤ 200) (h0 : j ≠ 0) (h : j < (frB k zs).length) : fiS ((frB k zs).take j) = 2 := by
  have hl : ((frB k zs).take j).length = j := by rw [List.length_take]; omega
  by_cases h7 : j < 7
  · exact fi_few (by omega) (by omega)
  · have e : fsN ((frB k zs).take j) = zs.length := by
      have := (fi_frame (k := k) (zs := zs) (rest := []) hk hn).2.1
      rw [List.append_nil] at this
      rw [← this]
      unfold fsN
      rw [at0_take (by omega), at0_take (by omega)]
    have := frB_len k zs
    exact fi_torn (by omega) (by omega) (by omega)
end Go.Proofs.YtondnbnaoacanaaGreatDoor
/- Layer 8: contracts of Put on both sides. -/
namespace Go.Proofs.YtondnbnaoacanaaGreatDoor
open Go.ChangeShapes Go.WideShapes Go.ChangeAt Go.RowKit Fb

/-- the bytes in a slice of the call's own, and what is told beside them -/
def FPuts (w : World) (k : Int) (zs : List Int) (e : Ending) (w' : World) : Prop :=
  (∃ v, e = .returned (.tuple #[v, .int .i64 (fpE k zs.length)]) ∧ w'.ownsRow w.heap.size 5 1 v (fpB k zs).length (by8 (fpB k zs))) ∧ Below w.heap.size w w'
theorem FPuts.none {w w' : World} {k : Int} {zs : List Int} {E : Int} (h : fpE k zs.length = E) (h0 : E ≠ 0) (hb : Below w.heap.size w w') : FPuts w k zs (.returned (.tuple #[.slice none 0 0, .int .i64 E])) w' := by
  refine ⟨⟨_, by rw [h], ?_⟩, hb⟩
  rw [fpB_no (by rw [h]; exact h0)]
  exact ⟨rfl, .inl ⟨rfl, rfl⟩⟩
theorem hd_cells (k : Int) (zs : List Int) : [Value.int .u8 0, .int .u8 (zs.length : Int), .int .u8 k] ++ by8 zs = by8 (hdB k zs) := by simp [hdB, by8]

set_option maxRecDepth 100000 in
set_option maxHeartbeats 2000000 in
theorem FPut_any (k : Int) {A : Option Addr} {n c : Nat} {zs : List Int} {w : World} (hS : Rw w A n c zs) (hb : Bytes zs) :
    Calls Tryz.prog 27 #[.int .i64 k, .slice A n c] w (FPuts w k zs) := by
  have hl : n = zs.length := by have := hS.1.len; rw [by8_len] at this; exact this.symm
  by_cases hk : k < 1
  · have E := hid (fpE_kind (n := zs.length) (Or.inl hk))
    clear hS hl
    go_enter Tryz.func27, Tryz.ntmps27
    go_wp2
    go_ret2
    exact FPuts.none E.out (by decide) (Below.refl _ _)
  · by_cases hk3 : 3 < k
    · have E := hid (fpE_kind (n := zs.length) (Or.inr hk3))
      clear hS hl
      go_enter Tryz.func27, Tryz.ntmps27
      go_wp2
      go_ret2
      exact FPuts.none E.out (by decide) (Below.refl _ _)
    · by_cases hn : 200 < n
      · have E := hid (fpE_many (n := zs.length) (k := k) (by omega) (by omega))
        clear hS hl
        go_enter Tryz.func27, Tryz.ntmps27
        go_wp2
        go_ret2
        exact FPuts.none E.out (by decide) (Below.refl _ _)
      · have E := hid (fpE_ok (n := zs.length) (k := k) (by omega) (by omega))
        have EB := hid (fpB_ok (k := k) (zs := zs) E.out)
        have HB := hid (hdB_bytes (k := k) (zs := zs) (by omega) (by omega) hb)
        have hnil := hS.2.2.2
        have hSl := hid hS.1
        obtain ⟨i0, hi0, hz0, hz1, hz2⟩ := info_parts u8_info
        have e1 : k % 256 = k := by omega
        have e2 : (n : Int) / 256 = 0 := by omega
        have e3 : (n : Int) % 256 = n := by omega
        have HL := hid hl
        clear hS hl
        have HC := hid (show [Value.int .u8 0, .int .u8 (n : Int), .int .u8 k] ++ by8 zs = by8 (hdB k zs) by rw [HL.out]; exact hd_cells k zs)
        have HN := hid (show 3 + n = (hdB k zs).length by rw [hdB_len, HL.out])
        go_enter Tryz.func27, Tryz.ntmps27
        go_wp2_with (at_builtin; refine wpList_pushAll (B := w.heap.size) rfl (.tmp 26) (.tmp 27) _ rfl Tryz.underlying26 hi0 hz0 hz1 hz2 rfl rfl (own_fresh w #[.int .u8 0, .int .u8 (n : Int), .int .u8 k] 5 (base := w.heap.size) (n := 3) (xs := [.int .u8 0, .int .u8 (n : Int), .int .u8 k]) rfl (Nat.le_refl _) rfl rfl (by simp [maxLen])) rfl hnil (m := n) (news := by8 zs) ?SL (fun v' w' hown hbel => ?_) (by8_one zs) (by simp only [maxLen]; omega) (by omega) (by simp))
        case SL => exact hSl.out.below ((Below.refl _ _).alloc (Nat.le_refl _) _)
        rw [HC.out, HN.out] at hown
        obtain ⟨A1, c1, rfl, hR, -⟩ := own_rw hown
        have hb1 : Below w.heap.size w w' := ((Below.refl _ _).alloc (Nat.le_refl _) _).trans hbel
        have HR := hid hR
        clear hown hR
        go_wp2_with fail
        refine (Table_any _).mono ?_
        rintro e w1 ⟨rfl, hb2⟩
        have PS := hid (Seal_any tabN_tb (c := c1) (HR.out.below hb2).1 (Nat.le_refl _) HB.out HR.out.2.2.2 (by rw [← HN.out]; omega))
        go_wp2_with fail
        refine PS.out.mono ?_
        rintro e w2 ⟨⟨v, rfl, hown⟩, hb3⟩
        have H3 : Below w.heap.size w w2 := (hb1.trans (hb2.mono hb1.size)).trans (hb3.mono (hb1.trans (hb2.mono hb1.size)).size)
        have hlow := own_down hown (base' := w.heap.size) (hb1.trans (hb2.mono hb1.size)).size
        clear hown
        go_wp2_with fail
        go_ret2
        exact ⟨⟨v, by rw [E.out]; rfl, by rw [EB.out]; exact hlow⟩, H3⟩

set_option maxRecDepth 100000 in
set_option maxHeartbeats 2000000 in
theorem RFPut_any {k : Int} {A : Option Addr} {n c : Nat} {zs : List Int} {w : World} (hS : Rw w A n c zs) (hb : Bytes zs) (hk : fpE k zs.length = 0) :
    Calls Tryz.prog 30 #[.int .i64 k, .slice A n c] w (PutsB w.heap.size w (frB k zs)) := by
  have hl : n = zs.length := by have := hS.1.len; rw [by8_len] at this; exact this.symm
  obtain ⟨k1, k3, hn⟩ := fpE_zero hk
  have HB := hid (hdB_bytes (k := k) (zs := zs) (by omega) (by omega) hb)
  have hnil := hS.2.2.2
  have hSl := hid hS.1
  obtain ⟨i0, hi0, hz0, hz1, hz2⟩ := info_parts u8_info
  have e1 : k % 256 = k := by omega
  have e2 : (n : Int) / 256 = 0 := by omega
  have e3 : (n : Int) % 256 = n := by omega
  have hn2 : n ≤ 200 := by omega
  have HL := hid hl
  clear hS hl hn hk
  have HC := hid (show [Value.int .u8 0, .int .u8 (n : Int), .int .u8 k] ++ by8 zs = by8 (hdB k zs) by rw [HL.out]; exact hd_cells k zs)
  have HN := hid (show 3 + n = (hdB k zs).length by rw [hdB_len, HL.out])
  go_enter Tryz.func30, Tryz.ntmps30
  go_wp2_with (at_builtin; refine wpList_pushAll (B := w.heap.size) rfl (.tmp 17) (.tmp 18) _ rfl Tryz.underlying26 hi0 hz0 hz1 hz2 rfl rfl (own_fresh w #[.int .u8 0, .int .u8 (n : Int), .int .u8 k] 5 (base := w.heap.size) (n := 3) (xs := [.int .u8 0, .int .u8 (n : Int), .int .u8 k]) rfl (Nat.le_refl _) rfl rfl (by simp [maxLen])) rfl hnil (m := n) (news := by8 zs) ?SL (fun v' w' hown hbel => ?_) (by8_one zs) (by simp only [maxLen]; omega) (by omega) (by simp))
  case SL => exact hSl.out.below ((Below.refl _ _).alloc (Nat.le_refl _) _)
  rw [HC.out, HN.out] at hown
  obtain ⟨A1, c1, rfl, hR, -⟩ := own_rw hown
  have hb1 : Below w.heap.size w w' := ((Below.refl _ _).alloc (Nat.le_refl _) _).trans hbel
  have PS := hid (RSeal_any (c := c1) hR.1 (Nat.le_refl _) HB.out hR.2.2.2 (by rw [← HN.out]; omega))
  clear hown hR
  go_wp2_with fail
  refine PS.out.mono ?_
  rintro e w2 ⟨⟨v, rfl, hown⟩, hb3⟩
  go_wp2_with fail
  go_ret
  exact ⟨⟨_, rfl, own_down hown hb1.size⟩, hb1.trans (hb3.mono hb1.size)⟩
end Go.Proofs.YtondnbnaoacanaaGreatDoor
/- Layer 8: contracts of HasPrefix and of first. -/
namespace Go.Proofs.YtondnbnaoacanaaGreatDoor
open Go.ChangeShapes Go.WideShapes Go.ChangeAt Go.RowKit Fb

set_option maxHeartbeats 2000000 in
theorem HasPrefix_any {A A' : Option Addr} {n n' c c' B' : Nat} {zs zs' : List Int} {w : World} (hS : Rw w A n c zs) (hS' : Sl w B' A' n' (by8 zs')) (hb : Bytes zs) (hb' : Bytes zs') :
    Calls Tryz.prog 101 #[.slice A n c, .slice A' n' c'] w fun e w' => e = .returned (.bool (decide (zs.take n' = zs'))) ∧ w = w' := by
  have hl : n = zs.length := by have := hS.1.len; rw [by8_len] at this; exact this.symm
  have hl' : n' = zs'.length := by have := hS'.len; rw [by8_len] at this; exact this.symm
  by_cases h : n' ≤ n
  · have hT := hS.1.take h
    have e8 : (by8 zs).take n' = by8 (zs.take n') := by unfold by8; rw [List.map_take]
    rw [e8] at hT
    have PE := hid (Equal_any (c := c) (c' := c') hT hS' (fun x hx => hb x (List.mem_of_mem_take hx)) hb')
    have hc1 := hS.2.1
    have hc2 := hS.2.2.1
    unfold maxLen at hc2
    have h2 : n' ≤ c := by omega
    have h3 : (decide ((n' : Int) ≤ (n : Int))) = true := decide_eq_true (by omega)
    clear hS hS' hl hl' hT e8 hb hb'
    go_enter Tryz.func101, Tryz.ntmps101
    go_wp2_with fail
    refine PE.out.mono ?_
    rintro e w1 ⟨rfl, rfl⟩
    go_wp2_with fail
    go_ret
    exact ⟨rfl, rfl⟩
  · have e : decide (zs.take n' = zs') = false := decide_eq_false fun e => by
      have := congrArg List.length e
      rw [List.length_take] at this
      omega
    rw [e]
    have h3 : (decide ((n' : Int) ≤ (n : Int))) = false := decide_eq_false (by omega)
    clear hS hS' hl hl' e hb hb'
    go_enter Tryz.func101, Tryz.ntmps101
    go_wp2_with fail
    go_ret
    exact ⟨rfl, rfl⟩
/-- the whole frame that some bytes begin with, or none -/
def fiB (ys : List Int) : List Int := if fiS ys = 0 then ys.take (7 + fsN ys) else []
def FFirst (w : World) (ys : List Int) (e : Ending) (w' : World) : Prop :=
  (∃ v, e = .returned (.tuple #[v, .int .i64 (fiS ys)]) ∧ w'.ownsRow w.heap.size 5 1 v (fiB ys).length (by8 (fiB ys))) ∧ Below w.heap.size w w'
theorem FFirst.none {w w' : World} {ys : List Int} {E : Int} (h : fiS ys = E) (h0 : E ≠ 0) (hb : Below w.heap.size w w') : FFirst w ys (.returned (.tuple #[.slice none 0 0, .int .i64 E])) w' := by
  refine ⟨⟨_, by rw [h], ?_⟩, hb⟩
  unfold fiB
  rw [if_neg (by rw [h]; exact h0)]
  exact ⟨rfl, .inl ⟨rfl, rfl⟩⟩
/-- a byte of a slice, as a walk reads it -/
theorem cell_at0 {w : World} {B n : Nat} {A : Option Addr} {ys : List Int} (hS : Sl w B A n (by8 ys)) (hn : 0 < n) :
    ∃ b o, A = some ⟨b, o, none⟩ ∧ b < B ∧ ∀ j, j < n → w.cell? ⟨b, o + j, none⟩ = some (.int .u8 (at0 ys j)) := by
  have hl : n = ys.length := by have := hS.len; rw [by8_len] at this; exact this.symm
  obtain ⟨b, o, hA, hb, hc⟩ := hS.2 hn
  refine ⟨b, o, hA, hb, fun j hj => hc j _ ?_⟩
  have hj2 : j < ys.length := by omega
  simp [by8, at0, List.getElem?_eq_getElem hj2]

set_option maxRecDepth 100000 in
set_option maxHeartbeats 4000000 in
theorem first_any {A : Option Addr} {n c : Nat} {ys : List Int} {w : World} (hS : Rw w A n c ys) (hb : Bytes ys) :
    Calls Tryz.prog 79 #[.slice A n c] w (FFirst w ys) := by
  have hl : n = ys.length := by have := hS.1.len; rw [by8_len] at this; exact this.symm
  by_cases h0 : n = 0
  · have E := hid (fi_end (ys := ys) (by omega))
    subst h0
    clear hS hl
    go_enter Tryz.func79, Tryz.ntmps79
    go_wp2
    go_ret2
    exact FFirst.none E.out (by decide) (Below.refl _ _)
  · by_cases h7 : n < 7
    · have E := hid (fi_few (ys := ys) (by omega) (by omega))
      clear hS hl
      go_enter Tryz.func79, Tryz.ntmps79
      go_wp2
      go_ret2
      exact FFirst.none E.out (by decide) (Below.refl _ _)
    · obtain ⟨b, o, rfl, hbB, hcell⟩ := cell_at0 hS.1 (by omega)
      have c0 := hcell 0 (by omega)
      have c1 := hcell 1 (by omega)
      have c2 := hcell 2 (by omega)
      rw [Nat.add_zero] at c0
      have b0 := at0_byte hb 0
      have b1 := at0_byte hb 1
      have b2 := at0_byte hb 2
      have hN := fsN_val hb
      have hc1 := hS.2.1
      have hc2 := hS.2.2.1
      unfold maxLen at hc2
      have HS := hid hS
      have HL := hid hl
      have HB := hid hb
      obtain ⟨x0, hx0⟩ : ∃ x, at0 ys 0 = x := ⟨_, rfl⟩
      obtain ⟨x1, hx1⟩ : ∃ x, at0 ys 1 = x := ⟨_, rfl⟩
      obtain ⟨x2, hx2⟩ : ∃ x, at0 ys 2 = x := ⟨_, rfl⟩
      obtain ⟨m, hm⟩ : ∃ m, fsN ys = m := ⟨_, rfl⟩
      rw [hx0, hx1, hm] at hN
      rw [hx0] at c0 b0
      rw [hx1] at c1 b1
      rw [hx2] at c2 b2
      have e5 : x0 * 256 + x1 = (m : Int) := by omega
      have HX := hid hx2
      have HM := hid hm
      have z0 : ((n : Int) == 0) = false := by simp; omega
      have b2a := b2.1
      have b2b := b2.2
      clear hcell hS hl hb hx0 hx1 hx2 hm hN h0 b2
      by_cases hm2 : 200 < m
      · have E := hid (fi_long (ys := ys) (by rw [← HL.out]; exact h7) (by rw [HM.out]; exact hm2))
        go_enter Tryz.func79, Tryz.ntmps79
        go_wp2_with fail
        go_region
        go_wp2
        go_ret2
        exact FFirst.none E.out (by decide) (Below.drew (Below.refl _ _))
      · by_cases hm3 : n < 7 + m
        · have E := hid (fi_torn (ys := ys) (by rw [← HL.out]; exact h7) (by rw [HM.out]; exact hm2) (by rw [← HL.out, HM.out]; exact hm3))
          go_enter Tryz.func79, Tryz.ntmps79
          go_wp2_with fail
          go_region
          go_wp2
          go_ret2
          exact FFirst.none E.out (by decide) (Below.drew (Below.refl _ _))
        · have hT : Rw w (some ⟨b, o + 3, none⟩) m (c - 3) (fsP ys) := by
            have hD := HS.out.1.drop (k := 3) (c := c) (by omega) hc1
            rw [if_neg (by omega)] at hD
            have hD2 := hD.take (k := m) (by omega)
            have e8 : ((by8 ys).drop 3).take m = by8 (fsP ys) := by unfold by8 fsP; rw [HM.out, List.map_take, List.map_drop]
            rw [e8] at hD2
            exact ⟨hD2, by omega, by unfold maxLen; omega, fun h => by cases h⟩
          have HPL := hid (show (fsP ys).length = m by rw [fsP_len (by rw [← HL.out, HM.out]; omega), HM.out])
          have HPB := hid (show Bytes (fsP ys) from fun x hx => HB.out x (List.mem_of_mem_drop (List.mem_of_mem_take hx)))
          have PP := hid (fun (w1 : World) (h : Below w.heap.size w w1) => FPut_any x2 (hT.below h) HPB.out)
          obtain ⟨PE, hPE⟩ : ∃ PE, fpE x2 m = PE := ⟨_, rfl⟩
          unfold FPuts at PP
          rw [HPL.out, hPE] at PP
          have HPE := hid hPE
          clear hT hPE
          go_enter Tryz.func79, Tryz.ntmps79
          go_wp2_with fail
          go_region
          go_wp2_with fail
          -- r10
          refine wp_region_env (A := fun vs => { tmps := #[Value.slice (some { block := b, off := o }) n c, undef, Value.slice none 0 0, Value.int IntKind.i64 0, Value.int IntKind.i64 ↑m, vs 12, vs 13, Value.bool false, Value.slice (some { block := b, off := o }) n c, Value.int IntKind.i64 ↑n, Value.bool false, Value.bool (decide ((↑n : Int) < 7)), Value.slice (some { block := b, off := o }) n c, Value.int IntKind.i64 ↑n, Value.bool (decide ((↑n : Int) < 7)), Value.slice (some { block := b, off := o }) n c, Value.pointer (some { block := b, off := o }), Value.int IntKind.u8 x0, Value.int IntKind.i64 x0, Value.int IntKind.i64 (x0 * 256), Value.slice (some { block := b, off := o }) n c, Value.pointer (some { block := b, off := o + 1 }), Value.int IntKind.u8 x1, Value.int IntKind.i64 x1, Value.int IntKind.i64 ↑m, Value.bool (decide ((200 : Int) < ↑m)), Value.int IntKind.i64 ↑m, Value.bool (decide ((200 : Int) < ↑m)), Value.bool (decide ((↑n : Int) < 3 + ↑m + 4)), Value.slice (some { block := b, off := o }) n c, Value.int IntKind.i64 ↑n, Value.int IntKind.i64 ↑m, Value.int IntKind.i64 (3 + ↑m), Value.int IntKind.i64 (3 + ↑m + 4), Value.bool (decide ((↑n : Int) < 3 + ↑m + 4)), vs 9, vs 0, vs 1, vs 2, vs 3, vs 4, vs 5, vs 6, vs 7, vs 8, vs 10, vs 11, undef, undef, undef, undef, undef, undef, undef, undef, undef], defers := [] }) (E := fun i yv wq => match i with | 0 => yv = .slice (some ⟨b, o, none⟩) n c | 1 => yv = .pointer (some ⟨b, o + 2, none⟩) | 2 => yv = .int .u8 x2 | 3 => yv = .int .i64 x2 | 4 => yv = .slice (some ⟨b, o, none⟩) n c | 5 => yv = .int .i64 ↑m | 6 => yv = .int .i64 (3 + ↑m) | 7 => yv = .slice (some ⟨b, o + 3, none⟩) m (c - 3) | 8 => ∃ v, yv = .tuple #[v, .int .i64 PE] ∧ wq.ownsRow w.heap.size 5 1 v (fpB x2 (fsP ys)).length (by8 (fpB x2 (fsP ys))) | 9 => ∃ v, yv = .tuple #[v, .int .i64 PE] ∧ wq.ownsRow w.heap.size 5 1 v (fpB x2 (fsP ys)).length (by8 (fpB x2 (fsP ys))) | 10 => wq.ownsRow w.heap.size 5 1 (yv) (fpB x2 (fsP ys)).length (by8 (fpB x2 (fsP ys))) | 11 => yv = .int .i64 PE | 12 => wq.ownsRow w.heap.size 5 1 (yv) (fpB x2 (fsP ys)).length (by8 (fpB x2 (fsP ys))) | 13 => yv = .int .i64 PE | _ => True) (C := fun wq => Below w.heap.size w wq) (Ext := fun a b => Below a.heap.size a b) (fun _ => undef) (by kernel_rfl) (by rfl) ?hC ?hstep ?hstab (low_of (by kernel_rfl)) ?hend
          case hC => exact Below.drew (Below.drew (Below.refl _ _))
          case hstab =>
            intro i yv wa wb hx h
            match i, h with
            | 0, h => exact h
            | 1, h => exact h
            | 2, h => exact h
            | 3, h => exact h
            | 4, h => exact h
            | 5, h => exact h
            | 6, h => exact h
            | 7, h => exact h
            | 8, h => exact (by obtain ⟨v, h1, h2⟩ := h; exact ⟨v, h1, own_below h2 hx⟩)
            | 9, h => exact (by obtain ⟨v, h1, h2⟩ := h; exact ⟨v, h1, own_below h2 hx⟩)
            | 10, h => exact (own_below h hx)
            | 11, h => exact h
            | 12, h => exact (own_below h hx)
            | 13, h => exact h
            | (_ + 14), _ => trivial
          case hstep =>
            intro i o ho
            match i, ho with
            | 0, ho =>
              obtain rfl := Option.some.inj (show some _ = some o from ho)
              intro vs wq hC hE K hK
              go_simp
              have hh := hK.out (.slice (some ⟨b, o, none⟩) n c) wq rfl (Below.refl _ _) hC
              simp only [upd, Nat.reduceEqDiff, ↓reduceIte] at hh
              exact hh
            | 1, ho =>
              obtain rfl := Option.some.inj (show some _ = some o from ho)
              intro vs wq hC hE K hK
              obtain d0 : vs 0 = .slice (some ⟨b, o, none⟩) n c := hE { on := 0, ground := Ground.data } (by simp) rfl
              have i2 : (2 : Int) < n := by omega
              have i3 : 2 < n := by omega
              go_simp
              have hh := hK.out (.pointer (some ⟨b, o + 2, none⟩)) wq rfl (Below.refl _ _) hC
              simp only [upd, Nat.reduceEqDiff, ↓reduceIte, d0] at hh
              exact hh
            | 2, ho =>
              obtain rfl := Option.some.inj (show some _ = some o from ho)
              intro vs wq hC hE K hK
              obtain d1 : vs 1 = .pointer (some ⟨b, o + 2, none⟩) := hE { on := 1, ground := Ground.data } (by simp) rfl
              have g2 : wq.cell? ⟨b, o + 2, none⟩ = some (.int .u8 x2) := (hC.cell (p := ⟨b, o + 2, none⟩) hbB).trans c2
              go_simp
              have hh := hK.out (.int .u8 x2) wq rfl (Below.refl _ _) hC
              simp only [upd, Nat.reduceEqDiff, ↓reduceIte, d1] at hh
              exact hh
            | 3, ho =>
              obtain rfl := Option.some.inj (show some _ = some o from ho)
              intro vs wq hC hE K hK
              obtain d2 : vs 2 = .int .u8 x2 := hE { on := 2, ground := Ground.data } (by simp) rfl
              have i2 : IntKind.i64.wrap x2 = x2 := wrap_i64 (by omega) (by omega)
              go_simp
              have hh := hK.out (.int .i64 x2) wq rfl (Below.refl _ _) hC
              simp only [upd, Nat.reduceEqDiff, ↓reduceIte, d2] at hh
              exact hh
            | 4, ho =>
              obtain rfl := Option.some.inj (show some _ = some o from ho)
              intro vs wq hC hE K hK
              go_simp
              have hh := hK.out (.slice (some ⟨b, o, none⟩) n c) wq rfl (Below.refl _ _) hC
              simp only [upd, Nat.reduceEqDiff, ↓reduceIte] at hh
              exact hh
            | 5, ho =>
              obtain rfl := Option.some.inj (show some _ = some o from ho)
              intro vs wq hC hE K hK
              go_simp
              have hh := hK.out (.int .i64 ↑m) wq rfl (Below.refl _ _) hC
              simp only [upd, Nat.reduceEqDiff, ↓reduceIte] at hh
              exact hh
            | 6, ho =>
              obtain rfl := Option.some.inj (show some _ = some o from ho)
              intro vs wq hC hE K hK
              obtain d5 : vs 5 = .int .i64 ↑m := hE { on := 5, ground := Ground.data } (by simp) rfl
              have i2 : IntKind.i64.wrap (3 + ↑m) = 3 + ↑m := wrap_i64 (by omega) (by omega)
              go_simp
              have hh := hK.out (.int .i64 (3 + ↑m)) wq rfl (Below.refl _ _) hC
              simp only [upd, Nat.reduceEqDiff, ↓reduceIte, d5] at hh
              exact hh
            | 7, ho =>
              obtain rfl := Option.some.inj (show some _ = some o from ho)
              intro vs wq hC hE K hK
              obtain d4 : vs 4 = .slice (some ⟨b, o, none⟩) n c := hE { on := 4, ground := Ground.data } (by simp) rfl
              obtain d6 : vs 6 = .int .i64 (3 + ↑m) := hE { on := 6, ground := Ground.data } (by simp) rfl
              have i2 : (3 : Int) ≤ 3 + ↑m := by omega
              have i3 : 3 + (↑m : Int) ≤ ↑c := by omega
              have i4 : (3 + (↑m : Int)).toNat = 3 + m := by omega
              have i5 : ¬ c = 3 := by omega
              have i6 : 0 ≤ 3 + (↑m : Int) := by omega
              go_simp
              have hh := hK.out (.slice (some ⟨b, o + 3, none⟩) m (c - 3)) wq rfl (Below.refl _ _) hC
              simp only [upd, Nat.reduceEqDiff, ↓reduceIte, d4, d6] at hh
              exact hh
            | 8, ho =>
              obtain rfl := Option.some.inj (show some _ = some o from ho)
              intro vs wq hC hE K hK
              obtain d3 : vs 3 = .int .i64 x2 := hE { on := 3, ground := Ground.data } (by simp) rfl
              obtain d7 : vs 7 = .slice (some ⟨b, o + 3, none⟩) m (c - 3) := hE { on := 7, ground := Ground.data } (by simp) rfl
              go_simp
              go_at_call 27
              refine (PP.out wq hC).mono ?_
              rintro e w3 ⟨⟨v, rfl, hown⟩, hb3⟩
              have hh := hK.out (.tuple #[v, .int .i64 PE]) w3 ⟨v, rfl, own_down hown hC.size⟩ hb3 (hC.trans (hb3.mono hC.size))
              simp only [upd, Nat.reduceEqDiff, ↓reduceIte, d3, d7] at hh
              exact hh
            | 9, ho =>
              obtain rfl := Option.some.inj (show some _ = some o from ho)
              intro vs wq hC hE K hK
              obtain ⟨v, d8, hown⟩ : ∃ v, vs 8 = .tuple #[v, .int .i64 PE] ∧ wq.ownsRow w.heap.size 5 1 v (fpB x2 (fsP ys)).length (by8 (fpB x2 (fsP ys))) := hE { on := 8, ground := Ground.data } (by simp) rfl
              go_simp
              have hh := hK.out (.tuple #[v, .int .i64 PE]) wq ⟨v, rfl, hown⟩ (Below.refl _ _) hC
              simp only [upd, Nat.reduceEqDiff, ↓reduceIte, d8] at hh
              exact hh
            | 10, ho =>
              obtain rfl := Option.some.inj (show some _ = some o from ho)
              intro vs wq hC hE K hK
              obtain ⟨v, d9, hown⟩ : ∃ v, vs 9 = .tuple #[v, .int .i64 PE] ∧ wq.ownsRow w.heap.size 5 1 v (fpB x2 (fsP ys)).length (by8 (fpB x2 (fsP ys))) := hE { on := 9, ground := Ground.data } (by simp) rfl
              go_simp
              have hh := hK.out (v) wq hown (Below.refl _ _) hC
              simp only [upd, Nat.reduceEqDiff, ↓reduceIte, d9] at hh
              exact hh
            | 11, ho =>
              obtain rfl := Option.some.inj (show some _ = some o from ho)
              intro vs wq hC hE K hK
              obtain ⟨v, d9, hown⟩ : ∃ v, vs 9 = .tuple #[v, .int .i64 PE] ∧ wq.ownsRow w.heap.size 5 1 v (fpB x2 (fsP ys)).length (by8 (fpB x2 (fsP ys))) := hE { on := 9, ground := Ground.data } (by simp) rfl
              go_simp
              have hh := hK.out (.int .i64 PE) wq rfl (Below.refl _ _) hC
              simp only [upd, Nat.reduceEqDiff, ↓reduceIte, d9] at hh
              exact hh
            | 12, ho =>
              obtain rfl := Option.some.inj (show some _ = some o from ho)
              intro vs wq hC hE K hK
              obtain hown : wq.ownsRow w.heap.size 5 1 (vs 10) (fpB x2 (fsP ys)).length (by8 (fpB x2 (fsP ys))) := hE { on := 10, ground := Ground.data } (by simp) rfl
              go_simp
              have hh := hK.out (vs 10) wq hown (Below.refl _ _) hC
              simp only [upd, Nat.reduceEqDiff, ↓reduceIte] at hh
              exact hh
            | 13, ho =>
              obtain rfl := Option.some.inj (show some _ = some o from ho)
              intro vs wq hC hE K hK
              obtain d11 : vs 11 = .int .i64 PE := hE { on := 11, ground := Ground.data } (by simp) rfl
              go_simp
              have hh := hK.out (.int .i64 PE) wq rfl (Below.refl _ _) hC
              simp only [upd, Nat.reduceEqDiff, ↓reduceIte, d11] at hh
              exact hh
            | (_ + 14), ho => exact absurd ho (by simp)
          case hend =>
            intro vs wq hC hE
            have hW := hE 12 (by decide)
            have r13 : vs 13 = .int .i64 PE := hE 13 (by decide)
            simp only at hW
            by_cases hk : 1 ≤ x2 ∧ x2 ≤ 3
            · obtain rfl : PE = 0 := HPE.out.symm.trans (fpE_ok (by omega) (by omega))
              have EB := fpB_ok (k := x2) (zs := fsP ys) (by rw [HPL.out]; exact HPE.out)
              have HL8 : (frB x2 (fsP ys)).length = m + 7 := by rw [frB_len, HPL.out]
              rw [EB, HL8] at hW
              obtain ⟨A3, c3, r12, hR, -⟩ := own_rw hW
              rw [r12] at hW
              have PH := hid (HasPrefix_any (c' := c3) (HS.out.below hC) hR.1 HB.out (frB_bytes (by omega) (by rw [HPL.out]; omega) HPB.out))
              have HW := hid hW
              have H8 := hid HL8
              clear hW hR EB HL8
              by_cases he : ys.take (m + 7) = frB x2 (fsP ys)
              · have E := hid (fi_yes (ys := ys) (by rw [← HL.out]; exact h7) (by rw [HM.out]; exact hm2) (by rw [← HL.out, HM.out]; exact hm3) (by rw [HX.out]; exact hk) (by rw [HX.out, HM.out, ← he]; congr 1; omega))
                have EF := hid (show fiB ys = frB x2 (fsP ys) by unfold fiB; rw [if_pos E.out, HM.out, ← he]; congr 1; omega)
                rw [decide_eq_true he] at PH
                clear he
                go_wp2_with fail
                refine PH.out.mono ?_
                rintro e w5 ⟨rfl, rfl⟩
                go_wp2_with fail
                go_ret2
                exact ⟨⟨_, by rw [E.out]; rfl, by rw [EF.out, H8.out]; exact HW.out⟩, hC⟩
              · have E := hid (fi_no (ys := ys) (by rw [← HL.out]; exact h7) (by rw [HM.out]; exact hm2) (by rw [← HL.out, HM.out]; exact hm3) (fun h => he (by rw [← HX.out, h.2, HM.out]; congr 1; omega)))
                rw [decide_eq_false he] at PH
                clear he
                go_wp2_with fail
                refine PH.out.mono ?_
                rintro e w5 ⟨rfl, rfl⟩
                go_wp2_with fail
                go_ret2
                exact FFirst.none E.out (by decide) hC
            · obtain rfl : PE = 2 := HPE.out.symm.trans (fpE_kind (by omega))
              have E := hid (fi_no (ys := ys) (by rw [← HL.out]; exact h7) (by rw [HM.out]; exact hm2) (by rw [← HL.out, HM.out]; exact hm3) (fun h => hk (by rw [← HX.out]; exact h.1)))
              clear hW
              go_wp2_with fail
              go_ret2
              exact FFirst.none E.out (by decide) hC
          -- endr10
end Go.Proofs.YtondnbnaoacanaaGreatDoor
/- Layer 8: contract of Next. -/
namespace Go.Proofs.YtondnbnaoacanaaGreatDoor
open Go.ChangeShapes Go.WideShapes Go.ChangeAt Go.RowKit Fb

theorem below_drewN {B : Nat} {w w' : World} (h : Below B w w') (k : Nat) : Below B w (w'.drewN k) := ⟨h.os, h.tape, h.output, h.size, h.block⟩
/-- 's[q:]' -/
theorem cut_at {w : World} {A : Option Addr} {n c q : Nat} {zs : List Int} (hS : Rw w A n c zs) (hq : q ≤ n) :
    ∃ A2 n2 c2, (q = c ∧ A2 = A ∧ n2 = 0 ∧ c2 = 0 ∨ c ≠ q ∧ A2 = A.map (·.add q) ∧ n2 = n - q ∧ c2 = c - q) ∧ Rw w A2 n2 c2 (zs.drop q) ∧ n2 + q = n := by
  have hD := hS.1.drop hq hS.2.1
  have e1 : (by8 zs).drop q = by8 (zs.drop q) := by simp [by8]
  rw [e1] at hD
  have h1 := hS.2.1
  have h2 := hS.2.2.1
  by_cases h : c = q
  · rw [if_pos h] at hD
    have e2 : n - q = 0 := by omega
    rw [e2] at hD
    exact ⟨A, 0, 0, .inl ⟨h.symm, rfl, rfl, rfl⟩, ⟨hD, Nat.le_refl _, Nat.zero_le _, fun _ => rfl⟩, by omega⟩
  · rw [if_neg h] at hD
    refine ⟨_, n - q, c - q, .inr ⟨h, rfl, rfl, rfl⟩, ⟨hD, by omega, by omega, fun h3 => ?_⟩, by omega⟩
    have : A = none := by cases A with | none => rfl | some a => simp at h3
    have := hS.2.2.2 this
    omega
/-- what stands there -/
def FNext (w : World) (zs : List Int) (p : Int) (e : Ending) (w' : World) : Prop :=
  (∃ A2 c2, e = .returned (.tuple #[.int .i64 (nxS zs p), .int .i64 (nxK zs p), .slice A2 (nxP zs p).length c2, .int .i64 (nxN zs p)]) ∧ Rw w' A2 (nxP zs p).length c2 (nxP zs p)) ∧ Below w.heap.size w w'
theorem FNext.none {w w' : World} {zs : List Int} {p E : Int} (h : nxS zs p = E) (h0 : E ≠ 0) (hb : Below w.heap.size w w') : FNext w zs p (.returned (.tuple #[.int .i64 E, .int .i64 0, .slice none 0 0, .int .i64 0])) w' := by
  obtain ⟨e1, e2, e3⟩ := nx_no (zs := zs) (p := p) (by rw [h]; exact h0)
  unfold FNext
  rw [h, e1, e2, e3]
  exact ⟨⟨_, _, rfl, Rw.nil w'⟩, hb⟩

set_option maxRecDepth 100000 in
set_option maxHeartbeats 4000000 in
theorem FNext_any {A : Option Addr} {n c : Nat} {zs : List Int} (p : Int) {w : World} (hS : Rw w A n c zs) (hb : Bytes zs) :
    Calls Tryz.prog 55 #[.slice A n c, .int .i64 p] w (FNext w zs p) := by
  have hl : n = zs.length := by have := hS.1.len; rw [by8_len] at this; exact this.symm
  by_cases h0 : p < 0
  · have E := hid (nx_out (zs := zs) (p := p) (Or.inl h0)).1
    clear hS hl
    go_enter Tryz.func55, Tryz.ntmps55
    go_wp2
    refine bodyPost_ret (v := .tuple #[.int .i64 3, .int .i64 0, .slice none 0 0, .int .i64 0]) (by simp [results, Tryz.results55, go_sem]) rfl ?_
    exact FNext.none E.out (by decide) (Below.refl _ _)
  · by_cases h1 : (n : Int) < p
    · have E := hid (nx_out (zs := zs) (p := p) (Or.inr (by omega))).1
      have hp : decide (p < 0) = false := decide_eq_false h0
      clear hS hl
      go_enter Tryz.func55, Tryz.ntmps55
      go_wp2
      refine bodyPost_ret (v := .tuple #[.int .i64 3, .int .i64 0, .slice none 0 0, .int .i64 0]) (by simp [results, Tryz.results55, go_sem]) rfl ?_
      exact FNext.none E.out (by decide) (Below.refl _ _)
    · obtain ⟨q, rfl⟩ : ∃ q : Nat, p = (q : Int) := ⟨p.toNat, by omega⟩
      have EI := hid (nx_in (zs := zs) (p := (q : Int)) (by omega))
      rw [Int.toNat_natCast] at EI
      obtain ⟨A2, n2, c2, hcs, hR, hn2⟩ := cut_at hS (show q ≤ n by omega)
      have hc1 := hS.2.1
      have hc2 := hS.2.2.1
      unfold maxLen at hc2
      have PF := hid (first_any hR (fun x hx => hb x (List.mem_of_mem_drop hx)))
      unfold FFirst at PF
      have HYB := hid (show Bytes (zs.drop q) from fun x hx => hb x (List.mem_of_mem_drop hx))
      have i1 : (0 : Int) ≤ (q : Int) := by omega
      have i2 : (q : Int) ≤ (n : Int) := by omega
      have hp : decide ((q : Int) < 0) = false := decide_eq_false h0
      have hp1 : decide ((n : Int) < (q : Int)) = false := decide_eq_false h1
      have HYL := hid (show (zs.drop q).length = n - q by rw [List.length_drop]; omega)
      clear hS hl hR h0 h1
      obtain ⟨E, hE⟩ : ∃ E, fiS (zs.drop q) = E := ⟨_, rfl⟩
      rw [hE] at PF
      have HE := hid hE
      have HES := hid (EI.out.trans hE)
      clear hE EI
      by_cases hz : E = 0
      · subst hz
        obtain ⟨y1, y2, y3, y4, y5⟩ := fi_zero HE.out
        have n7 : q + 7 ≤ n := by rw [HYL.out] at y1; omega
        have EB := hid (show fiB (zs.drop q) = (zs.drop q).take (7 + fsN (zs.drop q)) by unfold fiB; rw [if_pos HE.out])
        have EL := hid (show (fiB (zs.drop q)).length = 7 + fsN (zs.drop q) by rw [EB.out, List.length_take]; omega)
        rw [EB.out] at PF EL
        rw [EL.out] at PF
        obtain ⟨YK, YP, YN⟩ := nx_yes HES.out
        rw [Int.toNat_natCast] at YK YP YN
        have a2 : at0 ((zs.drop q).take (7 + fsN (zs.drop q))) 2 = at0 (zs.drop q) 2 := by unfold at0; rw [List.getElem?_take_of_lt (by omega)]
        have b2 := at0_byte HYB.out 2
        have HPL := hid (fsP_len y1)
        have HPP := hid (show (((zs.drop q).take (7 + fsN (zs.drop q))).drop 3).take (fsN (zs.drop q)) = fsP (zs.drop q) by
          unfold fsP
          rw [List.drop_take, List.take_take]
          congr 1
          omega)
        generalize zs.drop q = ys at *
        generalize fsN ys = m at *
        generalize hL : 7 + m = L at *
        have HY := hid (And.intro YK (And.intro YP YN))
        obtain ⟨x2, hx2⟩ : ∃ x, at0 ys 2 = x := ⟨_, rfl⟩
        rw [hx2] at a2 b2 HY
        have A2' := hid a2
        clear HYL y1 y2 y3 y4 y5 YK YP YN hx2 EB EL HYB a2
        have b2a := b2.1
        have b2b := b2.2
        clear b2
        rcases hcs with ⟨rfl, rfl, rfl, rfl⟩ | ⟨hne, rfl, rfl, rfl⟩
        · omega
        · clear n7
          go_enter Tryz.func55, Tryz.ntmps55
          go_wp2_with fail
          refine PF.out.mono ?_
          rintro e w1 ⟨⟨v, rfl, hown⟩, hb1⟩
          obtain ⟨A3, c3, rfl, hR, -⟩ := own_rw hown
          obtain ⟨b, o, rfl, hbB, hcell⟩ := cell_at0 hR.1 (by omega)
          have g2 := hcell 2 (by omega)
          rw [A2'.out] at g2
          have j1 : L ≤ c3 := hR.2.1
          have j2 : c3 ≤ 9223372036854775807 := by have := hR.2.2.1; unfold maxLen at this; omega
          have hT : Rw w1 (some ⟨b, o + 3, none⟩) m (c3 - 3) (fsP ys) := by
            have hD := hR.1.drop (k := 3) (c := c3) (by omega) j1
            rw [if_neg (by omega)] at hD
            have hD2 := hD.take (k := m) (by omega)
            have e8 : ((by8 (ys.take L)).drop 3).take m = by8 (fsP ys) := by rw [← HPP.out]; simp only [by8, List.map_take, List.map_drop]
            rw [e8] at hD2
            exact ⟨hD2, by omega, by unfold maxLen; omega, fun h => by cases h⟩
          have HT := hid hT
          have k1 : (2 : Int) < (L : Int) := by omega
          have k2 : (L : Int) - 4 = (m : Int) + 3 := by omega
          have k3 : (3 : Int) ≤ (m : Int) + 3 := by omega
          have k4 : (m : Int) + 3 ≤ (c3 : Int) := by omega
          have k5 : ((m : Int) + 3).toNat = m + 3 := by omega
          have k6 : ¬ c3 = 3 := by omega
          have HLL := hid hL
          clear hown hR hcell hT hL
          go_wp2_with fail
          go_region
          go_wp2
          refine bodyPost_ret (v := .tuple #[.int .i64 0, .int .i64 x2, .slice (some ⟨b, o + 3, none⟩) m (c3 - 3), .int .i64 L]) (by simp [results, Tryz.results55, go_sem]) rfl ?_
          have e9 : (7 + (m : Int)) = (L : Int) := by have := HLL.out; omega
          unfold FNext
          rw [HES.out, HY.out.1, HY.out.2.1, HY.out.2.2, HPL.out, e9]
          exact ⟨⟨_, _, rfl, HT.out⟩, Below.drew hb1⟩
      · have HN := hid (nx_no (zs := zs) (p := (q : Int)) (by rw [HES.out]; exact hz))
        clear HE HYB HYL
        rcases hcs with ⟨rfl, rfl, rfl, rfl⟩ | ⟨hne, rfl, rfl, rfl⟩
        · go_enter Tryz.func55, Tryz.ntmps55
          go_wp2_with fail
          refine PF.out.mono ?_
          rintro e w1 ⟨⟨v, rfl, -⟩, hb1⟩
          go_wp2_with fail
          refine bodyPost_ret (v := .tuple #[.int .i64 E, .int .i64 0, .slice none 0 0, .int .i64 0]) (by simp [results, Tryz.results55, go_sem]) rfl ?_
          exact FNext.none HES.out hz hb1
        · go_enter Tryz.func55, Tryz.ntmps55
          go_wp2_with fail
          refine PF.out.mono ?_
          rintro e w1 ⟨⟨v, rfl, -⟩, hb1⟩
          go_wp2_with fail
          refine bodyPost_ret (v := .tuple #[.int .i64 E, .int .i64 0, .slice none 0 0, .int .i64 0]) (by simp [results, Tryz.results55, go_sem]) rfl ?_
          exact FNext.none HES.out hz hb1
end Go.Proofs.YtondnbnaoacanaaGreatDoor
