/- Layer 4: awake, the fixed answer that each statement begins with. -/
import Derived.Test.YtdoehcecpfadbaaCrc5
namespace Go.Proofs.Ytdoehcecpfadbaa
open Go.ChangeShapes Go.WideShapes Go.ChangeAt Go.RowKit Fb

def nine : List Int := [49, 50, 51, 52, 53, 54, 55, 56, 57]
theorem nine_bytes : Bytes nine := by intro x hx; simp [nine] at hx; omega
theorem nine_sum : sumT tabN 0 (n8 nine) = 3421780262 := by
  show cpl (regT tabN (cpl 0) _) = _
  rw [regT_tabN _ _ (n8_lt nine_bytes)]
  decide +kernel
def thirteen : List Int := [49, 50, 51, 52, 53, 54, 55, 56, 57, 38, 57, 244, 203]
theorem nine_sealed : sealed tabN nine = thirteen := by unfold sealed; rw [nine_sum]; decide +kernel
theorem thirteen_bytes : Bytes thirteen := by intro x hx; simp [thirteen] at hx; omega
theorem thirteen_take : thirteen.take (13 - 4) = nine := rfl
theorem nine_str : strOfNums nine = ⟨#[49, 50, 51, 52, 53, 54, 55, 56, 57]⟩ := by decide
theorem nine_cells : (#[Value.int .u8 49, .int .u8 50, .int .u8 51, .int .u8 52, .int .u8 53, .int .u8 54, .int .u8 55, .int .u8 56, .int .u8 57] : Array Value).toList = by8 nine := rfl
theorem t256_own : (Try.prog.info? 23).map (·.size) = some (c32 tabN).size := by rw [c32_size, tabN_len]; exact t256_size
set_option maxHeartbeats 4000000 in
set_option maxRecDepth 100000 in
theorem awake_any (w : World) :
    Calls Try.prog 7 #[] w fun e w' => e = .returned (.bool true) ∧ Below w.heap.size w w' := by
  have hz := (zero_of_info t256_info).1
  have ho : (Array.replicate 256 (Value.int .u32 0)).size = (c32 tabN).size := by rw [Array.size_replicate, c32_size, tabN_len]
  have Ho := hid ho
  clear ho
  go_enter Try.func7, Try.ntmps7
  go_wp2_with fail
  refine (Table_any _).mono ?_
  rintro e w1 ⟨rfl, hb1⟩
  have h0 := hid (heap_alloc_new w1 (.cells (c32 tabN) 23))
  have h00 := hid (heap_alloc_new w1 (.cells (Array.replicate 256 (Value.int .u32 0)) 23))
  have hbA : Below w.heap.size w (w1.alloc (.cells (c32 tabN) 23)) := hb1.alloc hb1.size _
  have hg0 : w.heap.size ≤ w1.heap.size := hb1.size
  have kc1 := lit8 (w1.alloc (.cells (c32 tabN) 23)) #[.int .u8 49, .int .u8 50, .int .u8 51, .int .u8 52, .int .u8 53, .int .u8 54, .int .u8 55, .int .u8 56, .int .u8 57] 9 9 (w1.heap.size + 1) (by simp)
  have hS1 := hid (Sl.marked (w1.alloc (.cells (c32 tabN) 23)) #[.int .u8 49, .int .u8 50, .int .u8 51, .int .u8 52, .int .u8 53, .int .u8 54, .int .u8 55, .int .u8 56, .int .u8 57] 5 (9, 10) (b := w1.heap.size + 1) (B := w1.heap.size + 2) (n := 9) (xs := by8 nine) (by simp) (by omega) rfl nine_cells)
  have PS := hid (Seal_any tabN_tb (c := 9) hS1.out (by simp) nine_bytes (fun h => by cases h) (by omega))
  rw [nine_sealed] at PS
  go_wp2_with (first
    | (refine wpList_store_row rfl 23 (.tmp 1) (.tmp 5) rfl w1.heap.size (c32 tabN) rfl rfl 23 _ h00.out t256_own Ho.out (c32_one _) ?_; rw [World.setRow_alloc_new])
    | (refine wpList_load_row rfl 23 (.tmp 1) rfl w1.heap.size rfl 23 _ (0, 0) _ h0.out Try.underlying23 rfl t256_own ?_))
  refine PS.out.mono ?_
  rintro e w4 ⟨⟨v, rfl, hown⟩, hb4⟩
  rw [show thirteen.length = 13 from rfl] at hown
  obtain ⟨A4, c4, rfl, hR, -⟩ := own_rw hown
  have hbB : Below w.heap.size w w4 := (hbA.alloc hbA.size _).trans (hb4.mono (by simp; omega))
  have k4 := hid ((hb4.block w1.heap.size (by simp; omega)).trans ((Below.heap_alloc (w1.alloc _) _ _ (by simp)).trans h0.out))
  have g4 : w1.heap.size + 2 ≤ w4.heap.size := by have := hb4.size; simp at this; omega
  have PO := hid (Open_any tabN_tb (c := c4) hR.1 thirteen_bytes hR.2.2.2 (by omega) hR.2.1 hR.2.2.1 (by omega))
  have HR := hid hR
  clear hown hR PS hS1 kc1 h0 h00 Ho hz hb4
  go_wp2_with (refine wpList_load_row rfl 23 (.tmp 1) rfl w1.heap.size rfl 23 _ (0, 0) _ k4.out Try.underlying23 rfl t256_own ?_)
  refine PO.out.mono ?_
  rintro e w5 ⟨hO, hb5⟩
  unfold OpensP at hO
  rw [thirteen_take, if_pos nine_sealed] at hO
  obtain ⟨A5, c5, rfl, hS5⟩ := hO
  have hbC : Below w.heap.size w w5 := hbB.trans (hb5.mono hbB.size)
  have k5 := hid ((hb5.block w1.heap.size (by omega)).trans k4.out)
  have g5 : w1.heap.size + 2 ≤ w5.heap.size := Nat.le_trans g4 hb5.size
  have g0 : w.heap.size ≤ w5.heap.size := hbC.size
  have kc5 := lit8 w5 #[.int .u8 49, .int .u8 50, .int .u8 51, .int .u8 52, .int .u8 53, .int .u8 54, .int .u8 55, .int .u8 56, .int .u8 57] 9 9 w5.heap.size rfl
  have hS6 := hid (Sl.marked w5 #[.int .u8 49, .int .u8 50, .int .u8 51, .int .u8 52, .int .u8 53, .int .u8 54, .int .u8 55, .int .u8 56, .int .u8 57] 5 (9, 10) (b := w5.heap.size) (B := w5.heap.size + 1) (n := 9) (xs := by8 nine) rfl (by omega) rfl nine_cells)
  have PU := hid (Sum_crc tabN_tb (c := 9) (s := 0) hS6.out (by simp) nine_bytes (by omega) (by omega))
  rw [nine_sum] at PU
  have HS5 := hid hS5
  have R5 := hid (HR.out.below hb5)
  clear hS5 PO k4 hS6 HR
  go_wp2_with (refine wpList_load_row rfl 23 (.tmp 1) rfl w1.heap.size rfl 23 _ (0, 0) _ k5.out Try.underlying23 rfl t256_own ?_)
  refine PU.out.mono ?_
  rintro e w6 ⟨rfl, hb6⟩
  have hbW : Below w5.heap.size w5 w6 := ((Below.refl _ _).alloc (Nat.le_refl _) _).trans (hb6.mono (by simp))
  have R6 := R5.out.below hbW
  obtain ⟨bb, oo, xx, rfl, -, hxx, hcell⟩ := R6.1.get (k := 9) (by omega)
  obtain rfl : xx = .int .u8 38 := by simp [by8, thirteen] at hxx; exact hxx.symm
  have cv := conv8 c5 (HS5.out.below hbW)
  rw [nine_str] at cv
  have g4c : 13 ≤ c4 := R6.2.1
  clear hxx R6 R5 HS5 PU kc5
  go_wp2_with fail
  go_ret
  exact ⟨rfl, hbC.trans (hbW.mono hbC.size)⟩
end Go.Proofs.Ytdoehcecpfadbaa
