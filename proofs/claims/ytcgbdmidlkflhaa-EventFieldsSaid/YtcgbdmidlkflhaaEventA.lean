/- Layer 5: awake, the fixed answer that each statement begins with. -/
import Derived.Test.YtcgbdmidlkflhaaEvent6
namespace Go.Proofs.Ytcgbdmidlkflhaa
open Go.ChangeShapes Go.WideShapes Go.ChangeAt Go.RowKit Fb

set_option maxHeartbeats 4000000 in
set_option maxRecDepth 100000 in
theorem awake_any (w : World) :
    Calls Try.prog 5 #[] w fun e w' => e = .returned (.bool true) ∧ Below w.heap.size w w' := by
  have PN := hid (Numbers_any 0 0 3 ⟨#[100, 98]⟩ 2 40 0)
  have PC := hid (Check_any 0 0 3 ⟨#[100, 98]⟩ 2 40 0)
  have PD := hid (Check_any 0 0 4 ⟨#[100, 98]⟩ 3 0 0)
  have PR := hid (Role_any 9)
  have PM := hid (Named_any ⟨#[120]⟩)
  have PF := hid (fun (w : World) => Fill_any 0 0 3 ⟨#[100, 98]⟩ 2 40 0 (A := none) (n := 0) (cp := 0) (B := 0) (zs := []) (w := w) (Sl.nil _ _ _) (Nat.zero_le _) (by omega))
  rw [show (mnI 3).toNat = 2 by decide] at PN
  rw [show chI 0 0 3 ⟨#[100, 98]⟩ 2 40 0 = 0 by decide] at PC
  rw [show chI 0 0 4 ⟨#[100, 98]⟩ 3 0 0 = 4 by decide] at PD
  rw [show roI 9 = 3 by decide] at PR
  rw [show nmB ⟨#[120]⟩ = true by decide] at PM
  rw [show at3 [] 0 = 0 by decide, show at3 [] 1 = 0 by decide, show at3 [] 2 = 0 by decide] at PF
  have hE := eq_event 0 0 3 0 0 0 ⟨#[100, 98]⟩
  have HK := hid (heap_alloc_new w (.cells #[.int .i64 0, .int .i64 0, .int .i64 3, .string ⟨#[100, 98]⟩, .int .i64 2, .int .i64 40, .int .i64 0] 23))
  have hbA : Below w.heap.size w (w.alloc (.cells #[.int .i64 0, .int .i64 0, .int .i64 3, .string ⟨#[100, 98]⟩, .int .i64 2, .int .i64 40, .int .i64 0] 23)) := (Below.refl _ _).alloc (Nat.le_refl _) _
  go_enter Try.func5, Try.ntmps5
  go_wp2_with fail
  refine (PN.out _).mono ?_
  rintro e w1 ⟨⟨A, cp, rfl, hcp, -, -, hS⟩, hb1⟩
  have K1 := (hb1.block w.heap.size (by simp)).trans HK.out
  have z1 := blk_lt K1
  obtain ⟨d0, d1, d2, d3, d4, d5, d6⟩ := blk7 K1
  have hbB := hbA.trans (hb1.mono hbA.size)
  have HK1 := hid K1
  clear K1
  obtain ⟨b, o, rfl, hbl, hc⟩ := hS.2 (by omega)
  have c1 := hid (hc 1 (.int .i64 40) rfl)
  clear hc hS
  go_wp2_with fail
  refine (PC.out _).mono ?_
  rintro e w2 ⟨rfl, hb2⟩
  have hbC : Below w.heap.size w w2 := hbB.trans (hb2.mono hbB.size)
  go_wp2_with fail
  refine (PD.out _).mono ?_
  rintro e w3 ⟨rfl, hb3⟩
  have B13 : Below w1.heap.size w1 w3 := hb2.trans (hb3.mono hb2.size)
  have hbD : Below w.heap.size w w3 := hbC.trans (hb3.mono hbC.size)
  have l1 := (B13.cell (p := ⟨b, o + 1, none⟩) hbl).trans c1.out
  have hbl3 : b < w3.heap.size := Nat.lt_of_lt_of_le hbl B13.size
  go_wp2_with fail
  refine (PR.out _).mono ?_
  rintro e w4 ⟨rfl, hb4⟩
  have hbE : Below w.heap.size w w4 := hbD.trans (hb4.mono hbD.size)
  go_wp2_with fail
  refine (PM.out _).mono ?_
  rintro e w5 ⟨rfl, rfl⟩
  have B14 : Below w1.heap.size w1 w4 := B13.trans (hb4.mono B13.size)
  have K4 := (B14.block w.heap.size z1).trans HK1.out
  have z4 := blk_lt K4
  clear d0 d1 d2 d3 d4 d5 d6 l1
  obtain ⟨d0, d1, d2, d3, d4, d5, d6⟩ := blk7 K4
  clear K4
  go_wp2_with fail
  refine (PF.out _).mono ?_
  rintro e w6 ⟨rfl, hb6⟩
  go_wp2_with fail
  go_ret
  exact ⟨rfl, hbE.trans (hb6.mono hbE.size)⟩
end Go.Proofs.Ytcgbdmidlkflhaa
