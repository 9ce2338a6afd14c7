/- Layer 8: awake, the fixed answer that each statement begins with. -/
import Derived.Test.YtdkioecokpgcnaaFrame3
namespace Go.Proofs.Ytdkioecokpgcnaa
open Go.ChangeShapes Go.WideShapes Go.ChangeAt Go.RowKit Fb

theorem at0_take {ys : List Int} {i j : Nat} (h : i < j) : at0 (ys.take j) i = at0 ys i := by unfold at0; rw [List.getElem?_take_of_lt h]
/-- a frame's bytes that are cut -/
theorem fi_cut {k : Int} {zs : List Int} {j : Nat} (hk : 1 ≤ k ∧ k ≤ 3) (hn : zs.length ≤ 200) (h0 : j ≠ 0) (h : j < (frB k zs).length) : fiS ((frB k zs).take j) = 2 := by
  have hl : ((frB k zs).take j).length = j := by rw [List.length_take]; omega
  by_cases h7 : j < 7
  · exact fi_few (by omega) (by omega)
  · have e : fsN ((frB k zs).take j) = zs.length := by
      have := (fi_frame (k := k) (zs := zs) (rest := []) hk hn).2.1
      rw [List.append_nil] at this
      rw [← this]
      unfold fsN
      rw [at0_take (by omega), at0_take (by omega)]
    have := frB_len k zs
    exact fi_torn (by omega) (by omega) (by omega)
/-- a frame's bytes alone -/
theorem nx_alone {k : Int} {zs : List Int} (hk : 1 ≤ k ∧ k ≤ 3) (hn : zs.length ≤ 200) : nxS (frB k zs) 0 = 0 ∧ nxK (frB k zs) 0 = k ∧ nxP (frB k zs) 0 = zs ∧ nxN (frB k zs) 0 = ((frB k zs).length : Nat) := by
  have := nx_frame (ahead := []) (rest := []) hk hn
  simpa using this
def eight : List Int := [9, 9]
theorem eight_bytes : Bytes eight := by intro x hx; simp [eight] at hx; omega
theorem eight_len : (frB 2 eight).length = 9 := by rw [frB_len]; rfl
theorem eight_str : strOfNums eight = ⟨#[9, 9]⟩ := by decide
theorem eight_E : fpE 2 eight.length = 0 := fpE_ok (by omega) (by decide)
theorem eight_at : at0 (frB 2 eight) 1 = 2 ∧ at0 (frB 2 eight) 2 = 2 := by
  unfold frB sealed
  generalize foot _ = F
  exact ⟨rfl, rfl⟩
theorem eight_cut : nxS ((frB 2 eight).take 8) 0 = 2 := by
  have h : ¬ ((0 : Int) < 0 ∨ ((((frB 2 eight).take 8).length : Nat) : Int) < 0) := by omega
  rw [nx_in h]
  exact fi_cut (by omega) (by decide) (by omega) (by rw [eight_len]; omega)

set_option maxHeartbeats 4000000 in
set_option maxRecDepth 100000 in
theorem awake8 (w : World) :
    Calls Try.prog 5 #[] w fun e w' => e = .returned (.bool true) ∧ Below w.heap.size w w' := by
  have hbA : Below w.heap.size w (w.alloc (.cells #[.int .u8 9, .int .u8 9] 5)) := (Below.refl _ _).alloc (Nat.le_refl _) _
  have hS0 : Rw (w.alloc (.cells #[.int .u8 9, .int .u8 9] 5)) (some ⟨w.heap.size, 0, none⟩) 2 2 eight := ⟨Sl.freshAt w #[.int .u8 9, .int .u8 9] 5 rfl (by simp) rfl rfl, Nat.le_refl _, by unfold maxLen; omega, fun h => by cases h⟩
  have PP := hid (FPut_any 2 hS0 eight_bytes)
  unfold FPuts at PP
  rw [eight_E, fpB_ok eight_E, eight_len] at PP
  clear hS0
  go_enter Try.func5, Try.ntmps5
  go_wp2_with fail
  refine PP.out.mono ?_
  rintro e w1 ⟨⟨v, rfl, hown⟩, hb1⟩
  obtain ⟨A1, c1, rfl, hR, -⟩ := own_rw hown
  have hbB : Below w.heap.size w w1 := hbA.trans (hb1.mono hbA.size)
  have hF := frB_bytes (k := 2) (zs := eight) (by omega) (by decide) eight_bytes
  have j1 : 9 ≤ c1 := hR.2.1
  have j2 : c1 ≤ 9223372036854775807 := by have := hR.2.2.1; unfold maxLen at this; omega
  have hT : Rw w1 A1 8 c1 ((frB 2 eight).take 8) := by
    have h1 := hR.1.take (k := 8) (by omega)
    have e8 : (by8 (frB 2 eight)).take 8 = by8 ((frB 2 eight).take 8) := by simp only [by8, List.map_take]
    rw [e8] at h1
    exact ⟨h1, by omega, by unfold maxLen; omega, hR.2.2.2⟩
  have P1 := hid (FNext_any 0 hR hF)
  have P2 := hid (fun (w' : World) (h : Below w1.heap.size w1 w') => FNext_any 0 (hT.below h) (fun x hx => hF x (List.mem_of_mem_take hx)))
  have P3 := hid (fun (w' : World) (h : Below w1.heap.size w1 w') => FNext_any 9 (hR.below h) hF)
  obtain ⟨n1, n2, n3, n4⟩ := nx_alone (k := 2) (zs := eight) (by omega) (by decide)
  have m1 := eight_cut
  have m2 := nx_no (zs := (frB 2 eight).take 8) (p := 0) (by rw [m1]; decide)
  have l1 : nxS (frB 2 eight) 9 = 1 := nx_end.2 (by rw [eight_len]; rfl)
  have l2 := nx_no (zs := frB 2 eight) (p := 9) (by rw [l1]; decide)
  unfold FNext at P1 P2 P3
  rw [n1, n2, n3, n4, eight_len] at P1
  rw [m1, m2.1, m2.2.1, m2.2.2] at P2
  rw [l1, l2.1, l2.2.1, l2.2.2] at P3
  have HR := hid hR
  clear n1 n2 n3 n4 m1 m2 l1 l2 hown hR hT hF PP
  go_wp2_with fail
  refine P1.out.mono ?_
  rintro e w2 ⟨⟨A2, c2, rfl, hR2⟩, hb2⟩
  go_wp2_with fail
  refine (P2.out _ hb2).mono ?_
  rintro e w3 ⟨⟨A3, c3, rfl, -⟩, hb3⟩
  have hb13 : Below w1.heap.size w1 w3 := hb2.trans (hb3.mono hb2.size)
  go_wp2_with fail
  refine (P3.out _ hb13).mono ?_
  rintro e w4 ⟨⟨A4, c4, rfl, -⟩, hb4⟩
  have hb14 : Below w1.heap.size w1 w4 := hb13.trans (hb4.mono hb13.size)
  have cv := conv8 c2 ((hR2.below hb3).below hb4).1
  rw [eight_str] at cv
  obtain ⟨b, o, rfl, hbB2, hcell⟩ := cell_at0 (HR.out.below hb14).1 (by omega)
  have g1 := hcell 1 (by omega)
  have g2 := hcell 2 (by omega)
  rw [eight_at.1] at g1
  rw [eight_at.2] at g2
  clear hcell hR2
  go_wp2_with fail
  go_ret
  exact ⟨rfl, hbB.trans (hb14.mono hbB.size)⟩
end Go.Proofs.Ytdkioecokpgcnaa
