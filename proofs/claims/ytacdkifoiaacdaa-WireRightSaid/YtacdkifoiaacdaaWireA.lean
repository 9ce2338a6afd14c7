/- Layer 3: what the statements compare by, and awake, the fixed answer that each statement begins with. -/
import Derived.Test.YtacdkifoiaacdaaWire7
namespace Go.Proofs.Ytacdkifoiaacdaa
open Go.ChangeShapes Go.WideShapes Go.ChangeAt Go.RowKit Fb

theorem set3 {w : World} {g : Nat} {t : TypeId} {a b c a' b' c' : Value} (h : w.heap[g]? = some (.cells #[a, b, c] t (0, 0))) :
    (((w.setCell ⟨g, 0, none⟩ a').setCell ⟨g, 1, none⟩ b').setCell ⟨g, 2, none⟩ c').heap[g]? = some (.cells #[a', b', c'] t (0, 0)) := by
  simp [World.setCell, Array.getElem?_modify, h]
theorem far3 {w : World} {g k : Nat} {a' b' c' : Value} (h : k ≠ g) :
    (((w.setCell ⟨g, 0, none⟩ a').setCell ⟨g, 1, none⟩ b').setCell ⟨g, 2, none⟩ c').heap[k]? = w.heap[k]? := by
  rw [Below.heap_setCell _ _ _ _ h, Below.heap_setCell _ _ _ _ h, Below.heap_setCell _ _ _ _ h]

set_option maxHeartbeats 2000000 in
theorem Same_yes {A A' : Option Addr} {n c n' c' : Nat} {p er : Int} {zs : List Int} {B B' : Nat} {w : World} (hS : Sl w B A n (by8 zs)) (hS' : Sl w B' A' n' (by8 zs)) (hB : B ≤ w.heap.size) (hB' : B' ≤ w.heap.size) :
    Calls Try.prog 15 #[.agg #[.slice A n c, .int .i64 p, .int .i64 er], .agg #[.slice A' n' c', .int .i64 p, .int .i64 er]] w fun e w' => e = .returned (.bool true) ∧ Below w.heap.size w w' := by
  have kc := fun (o1 o2 : Obj) => conv8 c (hS.below (((Below.refl B w).alloc hB o1).alloc (by simp; omega) o2))
  have kc' := fun (o1 o2 : Obj) => conv8 c' (hS'.below (((Below.refl B' w).alloc hB' o1).alloc (by simp; omega) o2))
  clear hS hS' hB hB'
  go_enter Try.func15, Try.ntmps15
  go_wp2
  go_ret
  exact ⟨rfl, ((Below.refl _ _).alloc (Nat.le_refl _) _).alloc (by simp) _⟩

def bytes6 : List Int := [172, 2, 1, 2, 97, 98]
theorem six1 : ([] : List Int) ++ leb 300 = [172, 2] := by rw [leb_big (by omega), leb_small (by omega)]; decide
theorem six2 : ([172, 2] : List Int) ++ leb (zig (-1)) = [172, 2, 1] := by
  have e : zig (-1) = 1 := by decide
  rw [e, leb_small (by omega)]; decide
theorem six3 : ([172, 2, 1] : List Int) ++ (leb (ByteArray.size ⟨#[97, 98]⟩) ++ sI ⟨#[97, 98]⟩) = bytes6 := by
  have e : ByteArray.size ⟨#[97, 98]⟩ = 2 := rfl
  rw [e, leb_small (by omega)]; decide
theorem six_u : uintS bytes6 0 0 = (2, 0, 300) := by decide
theorem six_i : uintS bytes6 2 0 = (3, 0, 1) := by decide
theorem six_z : zag 1 = -1 := by decide
theorem six_t : textS bytes6 3 0 9 = (6, 0, [97, 98]) := by decide
theorem six_e : uintS bytes6 6 0 = (6, 10, 0) := by decide
theorem six_b : Bytes bytes6 := by intro x hx; simp [bytes6] at hx; omega

set_option maxHeartbeats 4000000 in
set_option maxRecDepth 100000 in
theorem awake_any (w : World) :
    Calls Try.prog 6 #[] w fun e w' => e = .returned (.bool true) ∧ Below w.heap.size w w' := by
  have h300 : (300 : Nat) < 18446744073709551616 := by omega
  have H300 := hid h300
  clear h300
  go_enter Try.func6, Try.ntmps6
  go_wp2_with fail
  refine (PutUint_any (m := 300) (zs := []) (Sl.nil _ _ _) (fun _ => rfl) (by simp) H300.out).mono ?_
  rw [six1]
  rintro e w1 ⟨⟨v, rfl, hown⟩, hb1⟩
  obtain ⟨A1, c1, rfl, -, -, hnil, hSl, -⟩ := own_reads hown (Nat.le_refl _)
  have P2 := hid (PutInt_any (c := c1) (k := -1) hSl hnil (by simp) (by omega) (by omega))
  clear hown hSl hnil
  go_wp2_with fail
  refine P2.out.mono ?_
  rw [six2]
  rintro e w2 ⟨⟨v, rfl, hown⟩, hb2⟩
  obtain ⟨A2, c2, rfl, -, -, hnil, hSl, -⟩ := own_reads hown (Nat.le_refl _)
  have P3 := hid (PutText_any (c := c2) hSl hnil (by simp) ⟨#[97, 98]⟩ (by decide))
  clear hown hSl hnil
  go_wp2_with fail
  refine P3.out.mono ?_
  rw [six3]
  rintro e w3 ⟨⟨v, rfl, hown⟩, hb3⟩
  rw [show bytes6.length = 6 from rfl] at hown
  obtain ⟨A3, c3, rfl, hc, hcm, hnil, hSl, -⟩ := own_reads hown (Nat.le_refl _)
  have hb : Below w.heap.size w w3 := (hb1.trans (hb2.mono hb1.size)).trans (hb3.mono (Nat.le_trans hb1.size hb2.size))
  clear hown P2 P3 hb1 hb2 hb3 H300
  go_wp2_with fail
  with_reducible refine (Start_any _ _ _ _).mono ?_
  rintro e w4 ⟨rfl, hb4⟩
  have B4 : Below w3.heap.size w3 w4 := hb4
  have P5 := hid (Uint_any (c := c3) six_u ((hSl.below B4).up B4.size) six_b (by omega) hc hcm)
  go_wp2_with fail
  with_reducible refine P5.out.mono ?_
  rintro e w5 ⟨rfl, hb5⟩
  have B5 : Below w3.heap.size w3 w5 := B4.trans (hb5.mono B4.size)
  have B5' := B5.alloc B5.size (.cells #[.slice A3 6 c3, .int .i64 2, .int .i64 0] 26)
  have P6 := hid (Int_any (c := c3) six_i ((hSl.below B5').up B5'.size) six_b (by omega) hc hcm)
  rw [six_z] at P6
  clear P5
  go_wp2_with fail
  with_reducible refine P6.out.mono ?_
  rintro e w6 ⟨rfl, hb6⟩
  have K6 := (hb6.block w5.heap.size (by simp)).trans (heap_alloc_new w5 _)
  have B6 : Below w3.heap.size w3 w6 := B5'.trans (hb6.mono B5'.size)
  have hg : w3.heap.size ≤ w5.heap.size := B5.size
  have B6' := ((B6.setCell (p := ⟨w5.heap.size, 0, none⟩) hg (.slice A3 6 c3)).setCell (p := ⟨w5.heap.size, 1, none⟩) hg (.int .i64 3)).setCell (p := ⟨w5.heap.size, 2, none⟩) hg (.int .i64 0)
  have K6' := set3 (a' := .slice A3 6 c3) (b' := .int .i64 3) (c' := .int .i64 0) K6
  have P7 := hid (Text_any (c := c3) six_t ((hSl.below B6').up B6'.size) six_b hnil (by omega) hc hcm (by omega))
  obtain ⟨c60, c61, c62, f60, f61, f62⟩ := blk3 K6
  clear P6 K6
  go_wp2_with fail
  with_reducible refine P7.out.mono ?_
  rintro e w7 ⟨rfl, hb7⟩
  have hz6 : w5.heap.size < w6.heap.size := by have := hb6.size; simp at this; omega
  have K7 := (hb7.block w5.heap.size (by simp; omega)).trans K6'
  have B7 : Below w3.heap.size w3 w7 := B6'.trans (hb7.mono B6'.size)
  have B7' := ((B7.setCell (p := ⟨w5.heap.size, 0, none⟩) hg (.slice A3 6 c3)).setCell (p := ⟨w5.heap.size, 1, none⟩) hg (.int .i64 6)).setCell (p := ⟨w5.heap.size, 2, none⟩) hg (.int .i64 0)
  have K7' := set3 (a' := .slice A3 6 c3) (b' := .int .i64 6) (c' := .int .i64 0) K7
  have P8 := hid (Uint_any (c := c3) six_e ((hSl.below B7').up B7'.size) six_b (by omega) hc hcm)
  obtain ⟨c70, c71, c72, f70, f71, f72⟩ := blk3 K7
  have hz7 : w5.heap.size < w7.heap.size := by have := hb7.size; simp at this; omega
  clear P7 K7 K6' c60 c61 c62 f60 f61 f62
  go_wp2_with fail
  with_reducible refine P8.out.mono ?_
  rintro e w8 ⟨rfl, hb8⟩
  have K8 := (hb8.block w5.heap.size (by simp; omega)).trans K7'
  have B8 : Below w3.heap.size w3 w8 := B7'.trans (hb8.mono B7'.size)
  have B8' := B8.alloc B8.size (.cells #[.slice A3 6 c3, .int .i64 6, .int .i64 10] 26)
  have hz8 : w5.heap.size < w8.heap.size := by have := hb8.size; simp at this; omega
  obtain ⟨c80, c81, c82, f80, f81, f82⟩ := blk3 K8
  have cv := conv8 c3 (hSl.below B8')
  have s1 : strOfNums bytes6 = ⟨#[172, 2, 1, 2, 97, 98]⟩ := by decide
  have s2 : strOfNums [97, 98] = ⟨#[97, 98]⟩ := by decide
  rw [s1] at cv
  rw [s2]
  clear P8 K8 K7' c70 c71 c72 f70 f71 f72 s1 s2
  go_wp2_with fail
  with_reducible refine (Left_yes (show Rgt 6 6 0 by unfold Rgt; omega) (by omega) _).mono ?_
  rintro e w9 ⟨rfl, hb9⟩
  have K9 := (hb9.block w8.heap.size (by simp)).trans (heap_alloc_new w8 _)
  obtain ⟨c90, c91, c92, f90, f91, f92⟩ := blk3 K9
  go_wp2_with fail
  go_ret
  exact ⟨rfl, hb.trans ((B8'.trans (hb9.mono B8'.size)).mono hb.size)⟩
end Go.Proofs.Ytacdkifoiaacdaa
