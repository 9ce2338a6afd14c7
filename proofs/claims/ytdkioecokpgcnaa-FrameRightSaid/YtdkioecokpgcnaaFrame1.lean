/- Layer 8: contracts of Put on both sides. -/
import Derived.Test.YtdkioecokpgcnaaFrameM
namespace Go.Proofs.Ytdkioecokpgcnaa
open Go.ChangeShapes Go.WideShapes Go.ChangeAt Go.RowKit Fb

/-- the bytes in a slice of the call's own, and what is told beside them -/
def FPuts (w : World) (k : Int) (zs : List Int) (e : Ending) (w' : World) : Prop :=
  (∃ v, e = .returned (.tuple #[v, .int .i64 (fpE k zs.length)]) ∧ w'.ownsRow w.heap.size 5 1 v (fpB k zs).length (by8 (fpB k zs))) ∧ Below w.heap.size w w'
theorem FPuts.none {w w' : World} {k : Int} {zs : List Int} {E : Int} (h : fpE k zs.length = E) (h0 : E ≠ 0) (hb : Below w.heap.size w w') : FPuts w k zs (.returned (.tuple #[.slice none 0 0, .int .i64 E])) w' := by
  refine ⟨⟨_, by rw [h], ?_⟩, hb⟩
  rw [fpB_no (by rw [h]; exact h0)]
  exact ⟨rfl, .inl ⟨rfl, rfl⟩⟩
theorem hd_cells (k : Int) (zs : List Int) : [Value.int .u8 0, .int .u8 (zs.length : Int), .int .u8 k] ++ by8 zs = by8 (hdB k zs) := by simp [hdB, by8]

set_option maxRecDepth 100000 in
set_option maxHeartbeats 2000000 in
theorem FPut_any (k : Int) {A : Option Addr} {n c : Nat} {zs : List Int} {w : World} (hS : Rw w A n c zs) (hb : Bytes zs) :
    Calls Try.prog 6 #[.int .i64 k, .slice A n c] w (FPuts w k zs) := by
  have hl : n = zs.length := by have := hS.1.len; rw [by8_len] at this; exact this.symm
  by_cases hk : k < 1
  · have E := hid (fpE_kind (n := zs.length) (Or.inl hk))
    clear hS hl
    go_enter Try.func6, Try.ntmps6
    go_wp2
    go_ret2
    exact FPuts.none E.out (by decide) (Below.refl _ _)
  · by_cases hk3 : 3 < k
    · have E := hid (fpE_kind (n := zs.length) (Or.inr hk3))
      clear hS hl
      go_enter Try.func6, Try.ntmps6
      go_wp2
      go_ret2
      exact FPuts.none E.out (by decide) (Below.refl _ _)
    · by_cases hn : 200 < n
      · have E := hid (fpE_many (n := zs.length) (k := k) (by omega) (by omega))
        clear hS hl
        go_enter Try.func6, Try.ntmps6
        go_wp2
        go_ret2
        exact FPuts.none E.out (by decide) (Below.refl _ _)
      · have E := hid (fpE_ok (n := zs.length) (k := k) (by omega) (by omega))
        have EB := hid (fpB_ok (k := k) (zs := zs) E.out)
        have HB := hid (hdB_bytes (k := k) (zs := zs) (by omega) (by omega) hb)
        have hnil := hS.2.2.2
        have hSl := hid hS.1
        obtain ⟨i0, hi0, hz0, hz1, hz2⟩ := info_parts u8_info
        have e1 : k % 256 = k := by omega
        have e2 : (n : Int) / 256 = 0 := by omega
        have e3 : (n : Int) % 256 = n := by omega
        have HL := hid hl
        clear hS hl
        have HC := hid (show [Value.int .u8 0, .int .u8 (n : Int), .int .u8 k] ++ by8 zs = by8 (hdB k zs) by rw [HL.out]; exact hd_cells k zs)
        have HN := hid (show 3 + n = (hdB k zs).length by rw [hdB_len, HL.out])
        go_enter Try.func6, Try.ntmps6
        go_wp2_with (at_builtin; refine wpList_pushAll (B := w.heap.size) rfl (.tmp 26) (.tmp 27) _ rfl Try.underlying22 hi0 hz0 hz1 hz2 rfl rfl (own_fresh w #[.int .u8 0, .int .u8 (n : Int), .int .u8 k] 5 (base := w.heap.size) (n := 3) (xs := [.int .u8 0, .int .u8 (n : Int), .int .u8 k]) rfl (Nat.le_refl _) rfl rfl (by simp [maxLen])) rfl hnil (m := n) (news := by8 zs) ?SL (fun v' w' hown hbel => ?_) (by8_one zs) (by simp only [maxLen]; omega) (by omega) (by simp))
        case SL => exact hSl.out.below ((Below.refl _ _).alloc (Nat.le_refl _) _)
        rw [HC.out, HN.out] at hown
        obtain ⟨A1, c1, rfl, hR, -⟩ := own_rw hown
        have hb1 : Below w.heap.size w w' := ((Below.refl _ _).alloc (Nat.le_refl _) _).trans hbel
        have HR := hid hR
        clear hown hR
        go_wp2_with fail
        refine (Table_any _).mono ?_
        rintro e w1 ⟨rfl, hb2⟩
        have PS := hid (Seal_any tabN_tb (c := c1) (HR.out.below hb2).1 (Nat.le_refl _) HB.out HR.out.2.2.2 (by rw [← HN.out]; omega))
        go_wp2_with fail
        refine PS.out.mono ?_
        rintro e w2 ⟨⟨v, rfl, hown⟩, hb3⟩
        have H3 : Below w.heap.size w w2 := (hb1.trans (hb2.mono hb1.size)).trans (hb3.mono (hb1.trans (hb2.mono hb1.size)).size)
        have hlow := own_down hown (base' := w.heap.size) (hb1.trans (hb2.mono hb1.size)).size
        clear hown
        go_wp2_with fail
        go_ret2
        exact ⟨⟨v, by rw [E.out]; rfl, by rw [EB.out]; exact hlow⟩, H3⟩

set_option maxRecDepth 100000 in
set_option maxHeartbeats 2000000 in
theorem RFPut_any {k : Int} {A : Option Addr} {n c : Nat} {zs : List Int} {w : World} (hS : Rw w A n c zs) (hb : Bytes zs) (hk : fpE k zs.length = 0) :
    Calls Try.prog 7 #[.int .i64 k, .slice A n c] w (PutsB w.heap.size w (frB k zs)) := by
  have hl : n = zs.length := by have := hS.1.len; rw [by8_len] at this; exact this.symm
  obtain ⟨k1, k3, hn⟩ := fpE_zero hk
  have HB := hid (hdB_bytes (k := k) (zs := zs) (by omega) (by omega) hb)
  have hnil := hS.2.2.2
  have hSl := hid hS.1
  obtain ⟨i0, hi0, hz0, hz1, hz2⟩ := info_parts u8_info
  have e1 : k % 256 = k := by omega
  have e2 : (n : Int) / 256 = 0 := by omega
  have e3 : (n : Int) % 256 = n := by omega
  have hn2 : n ≤ 200 := by omega
  have HL := hid hl
  clear hS hl hn hk
  have HC := hid (show [Value.int .u8 0, .int .u8 (n : Int), .int .u8 k] ++ by8 zs = by8 (hdB k zs) by rw [HL.out]; exact hd_cells k zs)
  have HN := hid (show 3 + n = (hdB k zs).length by rw [hdB_len, HL.out])
  go_enter Try.func7, Try.ntmps7
  go_wp2_with (at_builtin; refine wpList_pushAll (B := w.heap.size) rfl (.tmp 17) (.tmp 18) _ rfl Try.underlying22 hi0 hz0 hz1 hz2 rfl rfl (own_fresh w #[.int .u8 0, .int .u8 (n : Int), .int .u8 k] 5 (base := w.heap.size) (n := 3) (xs := [.int .u8 0, .int .u8 (n : Int), .int .u8 k]) rfl (Nat.le_refl _) rfl rfl (by simp [maxLen])) rfl hnil (m := n) (news := by8 zs) ?SL (fun v' w' hown hbel => ?_) (by8_one zs) (by simp only [maxLen]; omega) (by omega) (by simp))
  case SL => exact hSl.out.below ((Below.refl _ _).alloc (Nat.le_refl _) _)
  rw [HC.out, HN.out] at hown
  obtain ⟨A1, c1, rfl, hR, -⟩ := own_rw hown
  have hb1 : Below w.heap.size w w' := ((Below.refl _ _).alloc (Nat.le_refl _) _).trans hbel
  have PS := hid (RSeal_any (c := c1) hR.1 (Nat.le_refl _) HB.out hR.2.2.2 (by rw [← HN.out]; omega))
  clear hown hR
  go_wp2_with fail
  refine PS.out.mono ?_
  rintro e w2 ⟨⟨v, rfl, hown⟩, hb3⟩
  go_wp2_with fail
  go_ret
  exact ⟨⟨_, rfl, own_down hown hb1.size⟩, hb1.trans (hb3.mono hb1.size)⟩
end Go.Proofs.Ytdkioecokpgcnaa
