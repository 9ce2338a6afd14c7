/- Layer 6: awake, the fixed answer that each statement begins with. -/
import Derived.Test.YtmcfmpafoanajaaNames7
namespace Go.Proofs.Ytmcfmpafoanajaa
open Go.ChangeShapes Go.WideShapes Go.ChangeAt Go.RowKit Fb Go.Maps

theorem ok_a : Ok9 [⟨#[97]⟩] := ⟨by decide, fun s hs => by simp at hs; subst hs; unfold maxLen; decide⟩
theorem ok_ab : Ok9 [⟨#[97]⟩, ⟨#[98]⟩] := ⟨by decide, fun s hs => by simp at hs; rcases hs with rfl | rfl <;> (unfold maxLen; decide)⟩
theorem e_ab : puE [⟨#[97]⟩] ⟨#[98]⟩ = 0 := by decide
theorem l_ab : puL [⟨#[97]⟩] ⟨#[98]⟩ = [⟨#[97]⟩, ⟨#[98]⟩] := by decide
theorem e_aba : puE [⟨#[97]⟩, ⟨#[98]⟩] ⟨#[97]⟩ = 7 := by decide
theorem p_ab : plc ⟨#[98]⟩ [⟨#[97]⟩, ⟨#[98]⟩] = 2 := by decide
theorem r_ab : rgB [⟨#[97]⟩, ⟨#[98]⟩] = true := by decide

set_option maxHeartbeats 4000000 in
set_option maxRecDepth 100000 in
theorem awake_any (w : World) :
    Calls Try.prog 5 #[] w fun e w' => e = .returned (.bool true) ∧ Below w.heap.size w w' := by
  have PA := hid (fun (A : Option Addr) (n c B : Nat) (w1 : World) hS hB hn => Put_any (A := A) (n := n) (cap := c) (B := B) (w := w1) ok_a (s := ⟨#[98]⟩) (by unfold maxLen; decide) hS hB hn)
  rw [e_ab, l_ab] at PA
  have hSa : Sl (w.alloc (.cells #[.string ⟨#[97]⟩] 9)) (w.heap.size + 1) (some ⟨w.heap.size, 0, none⟩) 1 (st9 [⟨#[97]⟩]) := Sl.freshAt w #[.string ⟨#[97]⟩] 9 rfl (by omega) rfl rfl
  have P1 := hid (PA.out _ _ 1 _ _ hSa (by simp) (by simp))
  clear hSa PA
  go_enter Try.func5, Try.ntmps5
  go_wp2_with fail
  refine P1.out.mono ?_
  rintro e w1 ⟨⟨A, m, c, rfl, hR⟩, hb1⟩
  have hB1 : Below w.heap.size w w1 := ((Below.refl _ _).alloc (Nat.le_refl _) _).trans (hb1.mono (by simp))
  obtain rfl : m = 2 := hR.len
  have P2 := hid (At_yes (cap := c) (k := 1) (s := ⟨#[98]⟩) hR.1 rfl (by omega))
  have P3 := hid (Put_any (cap := c) ok_ab (s := ⟨#[97]⟩) (by unfold maxLen; decide) hR.1 (Nat.le_refl _) hR.2.2.2)
  rw [e_aba] at P3
  have HR := hid hR
  clear hR P1
  go_wp2_with fail
  refine P2.out.mono ?_
  rintro e w2 ⟨rfl, rfl⟩
  go_wp2_with fail
  refine P3.out.mono ?_
  rintro e w3 ⟨⟨A3, m3, c3, rfl, -⟩, hb3⟩
  have HR3 := hid (HR.out.below hb3)
  have P4 := hid (Place_any (cap := c) ok_ab (s := ⟨#[98]⟩) (by unfold maxLen; decide) HR3.out.1 (Nat.le_refl _))
  rw [p_ab] at P4
  clear P2 P3
  go_wp2_with fail
  refine P4.out.mono ?_
  rintro e w4 ⟨rfl, hb4⟩
  have P5 := hid (Right_any (cap := c) ok_ab (HR3.out.below hb4).1 (Nat.le_refl _))
  rw [r_ab] at P5
  clear P4
  go_wp2_with fail
  refine P5.out.mono ?_
  rintro e w5 ⟨rfl, hb5⟩
  go_wp2_with fail
  go_ret
  have B3 := hB1.trans (hb3.mono hB1.size)
  have B4 := B3.trans (hb4.mono B3.size)
  exact ⟨rfl, B4.trans (hb5.mono B4.size)⟩
end Go.Proofs.Ytmcfmpafoanajaa
