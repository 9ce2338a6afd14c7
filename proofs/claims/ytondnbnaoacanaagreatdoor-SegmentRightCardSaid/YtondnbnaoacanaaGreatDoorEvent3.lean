/- Contracts of layer 5's reference: the numbers of an event, and what may be told. -/
import Derived.Test.YtondnbnaoacanaaGreatDoorEa
namespace Go.Proofs.YtondnbnaoacanaaGreatDoor
open Go.ChangeShapes Go.WideShapes Go.ChangeAt Go.RowKit Fb

/-- are an event's numbers what its kind says? -/
def vlB (k a b c : Int) : Bool := decide (loI k ≤ a ∧ a ≤ hiI k ∧ 0 ≤ b ∧ b ≤ hjI k ∧ 0 ≤ c ∧ c ≤ hkI k)
theorem vlB_yes {k a b c : Int} (h : loI k ≤ a ∧ a ≤ hiI k ∧ 0 ≤ b ∧ b ≤ hjI k ∧ 0 ≤ c ∧ c ≤ hkI k) : vlB k a b c = true := decide_eq_true h
theorem vlB_no {k a b c : Int} (h : ¬ (loI k ≤ a ∧ a ≤ hiI k ∧ 0 ≤ b ∧ b ≤ hjI k ∧ 0 ≤ c ∧ c ≤ hkI k)) : vlB k a b c = false := decide_eq_false h
theorem vlB_in (k a b c : Int) : (inB (loI k) (hiI k) a && inB 0 (hjI k) b && inB 0 (hkI k) c) = vlB k a b c := by
  unfold vlB inB
  by_cases h1 : loI k ≤ a <;> by_cases h2 : a ≤ hiI k <;> by_cases h3 : 0 ≤ b <;> by_cases h4 : b ≤ hjI k <;> by_cases h5 : 0 ≤ c <;> by_cases h6 : c ≤ hkI k <;> simp [h1, h2, h3, h4, h5, h6]
theorem chain3 (p q r : Prop) : (p ∧ q ∧ r) ∨ ¬ p ∨ (p ∧ ¬ q) ∨ (p ∧ q ∧ ¬ r) := by
  by_cases h1 : p <;> by_cases h2 : q <;> by_cases h3 : r <;> simp [h1, h2, h3]
theorem chain4 (p q r s : Prop) : (p ∧ q ∧ r ∧ s) ∨ ¬ p ∨ (p ∧ ¬ q) ∨ (p ∧ q ∧ ¬ r) ∨ (p ∧ q ∧ r ∧ ¬ s) := by
  by_cases h1 : p <;> by_cases h2 : q <;> by_cases h3 : r <;> by_cases h4 : s <;> simp [h1, h2, h3, h4]

set_option maxRecDepth 100000 in
set_option maxHeartbeats 4000000 in
theorem values_1 (q t : Int) (s : ByteArray) (a b c : Int) (w : World) :
    Calls Tryz.prog 95 #[.agg #[.int .i64 q, .int .i64 t, .int .i64 1, .string s, .int .i64 a, .int .i64 b, .int .i64 c]] w fun e w' => e = .returned (.bool (vlB 1 a b c)) ∧ Below w.heap.size w w' := by
  rcases chain4 (1 ≤ a) (a ≤ 3) (b = 0) (c = 0) with ⟨g0, g1, g2, g3⟩ | g0 | ⟨g0, g1⟩ | ⟨g0, g1, g2⟩ | ⟨g0, g1, g2, g3⟩
  · go_enter Tryz.func95, Tryz.ntmps95
    go_wp2_with fail
    go_ret
    exact ⟨ret_bool (vlB_yes (by unfold loI hiI hjI hkI; omega)).symm, (Below.refl _ _).alloc (Nat.le_refl _) _⟩
  · go_enter Tryz.func95, Tryz.ntmps95
    go_wp2_with fail
    go_ret
    exact ⟨ret_bool (vlB_no (by unfold loI hiI hjI hkI; omega)).symm, (Below.refl _ _).alloc (Nat.le_refl _) _⟩
  · go_enter Tryz.func95, Tryz.ntmps95
    go_wp2_with fail
    go_ret
    exact ⟨ret_bool (vlB_no (by unfold loI hiI hjI hkI; omega)).symm, (Below.refl _ _).alloc (Nat.le_refl _) _⟩
  · go_enter Tryz.func95, Tryz.ntmps95
    go_wp2_with fail
    go_ret
    exact ⟨ret_bool (vlB_no (by unfold loI hiI hjI hkI; omega)).symm, (Below.refl _ _).alloc (Nat.le_refl _) _⟩
  · go_enter Tryz.func95, Tryz.ntmps95
    go_wp2_with fail
    go_ret
    exact ⟨ret_bool ((show (c == 0) = false by simpa using g3).trans (vlB_no (by unfold loI hiI hjI hkI; omega)).symm), (Below.refl _ _).alloc (Nat.le_refl _) _⟩
set_option maxRecDepth 100000 in
set_option maxHeartbeats 4000000 in
theorem values_2 (q t : Int) (s : ByteArray) (a b c : Int) (w : World) :
    Calls Tryz.prog 95 #[.agg #[.int .i64 q, .int .i64 t, .int .i64 2, .string s, .int .i64 a, .int .i64 b, .int .i64 c]] w fun e w' => e = .returned (.bool (vlB 2 a b c)) ∧ Below w.heap.size w w' := by
  rcases chain3 (0 ≤ a ∧ a ≤ 2147483647) (0 ≤ b ∧ b ≤ 2147483647) (0 ≤ c ∧ c ≤ 2147483647) with ⟨g0, g1, g2⟩ | g0 | ⟨g0, g1⟩ | ⟨g0, g1, g2⟩
  · go_enter Tryz.func95, Tryz.ntmps95
    go_wp2_with (first | (go_at_call 107; refine (some_yes g0 _).mono ?_; rintro e w1 ⟨rfl, rfl⟩) | (go_at_call 107; refine (some_yes g1 _).mono ?_; rintro e w1 ⟨rfl, rfl⟩) | (go_at_call 107; refine (some_yes g2 _).mono ?_; rintro e w1 ⟨rfl, rfl⟩))
    go_ret
    exact ⟨ret_bool (vlB_yes (by unfold loI hiI hjI hkI; omega)).symm, (Below.refl _ _).alloc (Nat.le_refl _) _⟩
  · go_enter Tryz.func95, Tryz.ntmps95
    go_wp2_with (go_at_call 107; refine (some_no g0 _).mono ?_; rintro e w1 ⟨rfl, rfl⟩)
    go_ret
    exact ⟨ret_bool (vlB_no (by unfold loI hiI hjI hkI; omega)).symm, (Below.refl _ _).alloc (Nat.le_refl _) _⟩
  · go_enter Tryz.func95, Tryz.ntmps95
    go_wp2_with (first | (go_at_call 107; refine (some_yes g0 _).mono ?_; rintro e w1 ⟨rfl, rfl⟩) | (go_at_call 107; refine (some_no g1 _).mono ?_; rintro e w1 ⟨rfl, rfl⟩))
    go_ret
    exact ⟨ret_bool (vlB_no (by unfold loI hiI hjI hkI; omega)).symm, (Below.refl _ _).alloc (Nat.le_refl _) _⟩
  · go_enter Tryz.func95, Tryz.ntmps95
    go_wp2_with (first | (go_at_call 107; refine (some_yes g0 _).mono ?_; rintro e w1 ⟨rfl, rfl⟩) | (go_at_call 107; refine (some_yes g1 _).mono ?_; rintro e w1 ⟨rfl, rfl⟩) | (go_at_call 107; refine (some_no g2 _).mono ?_; rintro e w1 ⟨rfl, rfl⟩))
    go_ret
    exact ⟨ret_bool (vlB_no (by unfold loI hiI hjI hkI; omega)).symm, (Below.refl _ _).alloc (Nat.le_refl _) _⟩
set_option maxRecDepth 100000 in
set_option maxHeartbeats 4000000 in
theorem values_3 (q t : Int) (s : ByteArray) (a b c : Int) (w : World) :
    Calls Tryz.prog 95 #[.agg #[.int .i64 q, .int .i64 t, .int .i64 3, .string s, .int .i64 a, .int .i64 b, .int .i64 c]] w fun e w' => e = .returned (.bool (vlB 3 a b c)) ∧ Below w.heap.size w w' := by
  rcases chain4 (0 ≤ a) (a ≤ 2) (0 ≤ b ∧ b ≤ 2147483647) (c = 0) with ⟨g0, g1, g2, g3⟩ | g0 | ⟨g0, g1⟩ | ⟨g0, g1, g2⟩ | ⟨g0, g1, g2, g3⟩
  · go_enter Tryz.func95, Tryz.ntmps95
    go_wp2_with (go_at_call 107; refine (some_yes g2 _).mono ?_; rintro e w1 ⟨rfl, rfl⟩)
    go_ret
    exact ⟨ret_bool (vlB_yes (by unfold loI hiI hjI hkI; omega)).symm, (Below.refl _ _).alloc (Nat.le_refl _) _⟩
  · go_enter Tryz.func95, Tryz.ntmps95
    go_wp2_with fail
    go_ret
    exact ⟨ret_bool (vlB_no (by unfold loI hiI hjI hkI; omega)).symm, (Below.refl _ _).alloc (Nat.le_refl _) _⟩
  · go_enter Tryz.func95, Tryz.ntmps95
    go_wp2_with fail
    go_ret
    exact ⟨ret_bool (vlB_no (by unfold loI hiI hjI hkI; omega)).symm, (Below.refl _ _).alloc (Nat.le_refl _) _⟩
  · go_enter Tryz.func95, Tryz.ntmps95
    go_wp2_with (go_at_call 107; refine (some_no g2 _).mono ?_; rintro e w1 ⟨rfl, rfl⟩)
    go_ret
    exact ⟨ret_bool (vlB_no (by unfold loI hiI hjI hkI; omega)).symm, (Below.refl _ _).alloc (Nat.le_refl _) _⟩
  · go_enter Tryz.func95, Tryz.ntmps95
    go_wp2_with (go_at_call 107; refine (some_yes g2 _).mono ?_; rintro e w1 ⟨rfl, rfl⟩)
    go_ret
    exact ⟨ret_bool ((show (c == 0) = false by simpa using g3).trans (vlB_no (by unfold loI hiI hjI hkI; omega)).symm), (Below.refl _ _).alloc (Nat.le_refl _) _⟩
set_option maxRecDepth 100000 in
set_option maxHeartbeats 4000000 in
theorem values_4 (q t : Int) (s : ByteArray) (a b c : Int) (w : World) :
    Calls Tryz.prog 95 #[.agg #[.int .i64 q, .int .i64 t, .int .i64 4, .string s, .int .i64 a, .int .i64 b, .int .i64 c]] w fun e w' => e = .returned (.bool (vlB 4 a b c)) ∧ Below w.heap.size w w' := by
  rcases chain4 (0 ≤ a) (a ≤ 2) (b = 0) (c = 0) with ⟨g0, g1, g2, g3⟩ | g0 | ⟨g0, g1⟩ | ⟨g0, g1, g2⟩ | ⟨g0, g1, g2, g3⟩
  · go_enter Tryz.func95, Tryz.ntmps95
    go_wp2_with fail
    go_ret
    exact ⟨ret_bool (vlB_yes (by unfold loI hiI hjI hkI; omega)).symm, (Below.refl _ _).alloc (Nat.le_refl _) _⟩
  · go_enter Tryz.func95, Tryz.ntmps95
    go_wp2_with fail
    go_ret
    exact ⟨ret_bool (vlB_no (by unfold loI hiI hjI hkI; omega)).symm, (Below.refl _ _).alloc (Nat.le_refl _) _⟩
  · go_enter Tryz.func95, Tryz.ntmps95
    go_wp2_with fail
    go_ret
    exact ⟨ret_bool (vlB_no (by unfold loI hiI hjI hkI; omega)).symm, (Below.refl _ _).alloc (Nat.le_refl _) _⟩
  · go_enter Tryz.func95, Tryz.ntmps95
    go_wp2_with fail
    go_ret
    exact ⟨ret_bool (vlB_no (by unfold loI hiI hjI hkI; omega)).symm, (Below.refl _ _).alloc (Nat.le_refl _) _⟩
  · go_enter Tryz.func95, Tryz.ntmps95
    go_wp2_with fail
    go_ret
    exact ⟨ret_bool ((show (c == 0) = false by simpa using g3).trans (vlB_no (by unfold loI hiI hjI hkI; omega)).symm), (Below.refl _ _).alloc (Nat.le_refl _) _⟩
set_option maxRecDepth 100000 in
set_option maxHeartbeats 4000000 in
theorem values_8 (q t : Int) (s : ByteArray) (a b c : Int) (w : World) :
    Calls Tryz.prog 95 #[.agg #[.int .i64 q, .int .i64 t, .int .i64 8, .string s, .int .i64 a, .int .i64 b, .int .i64 c]] w fun e w' => e = .returned (.bool (vlB 8 a b c)) ∧ Below w.heap.size w w' := by
  rcases chain4 (1 ≤ a) (0 ≤ a ∧ a ≤ 2147483647) (b = 0) (c = 0) with ⟨g0, g1, g2, g3⟩ | g0 | ⟨g0, g1⟩ | ⟨g0, g1, g2⟩ | ⟨g0, g1, g2, g3⟩
  · go_enter Tryz.func95, Tryz.ntmps95
    go_wp2_with (go_at_call 107; refine (some_yes g1 _).mono ?_; rintro e w1 ⟨rfl, rfl⟩)
    go_ret
    exact ⟨ret_bool (vlB_yes (by unfold loI hiI hjI hkI; omega)).symm, (Below.refl _ _).alloc (Nat.le_refl _) _⟩
  · go_enter Tryz.func95, Tryz.ntmps95
    go_wp2_with fail
    go_ret
    exact ⟨ret_bool (vlB_no (by unfold loI hiI hjI hkI; omega)).symm, (Below.refl _ _).alloc (Nat.le_refl _) _⟩
  · go_enter Tryz.func95, Tryz.ntmps95
    go_wp2_with (go_at_call 107; refine (some_no g1 _).mono ?_; rintro e w1 ⟨rfl, rfl⟩)
    go_ret
    exact ⟨ret_bool (vlB_no (by unfold loI hiI hjI hkI; omega)).symm, (Below.refl _ _).alloc (Nat.le_refl _) _⟩
  · go_enter Tryz.func95, Tryz.ntmps95
    go_wp2_with (go_at_call 107; refine (some_yes g1 _).mono ?_; rintro e w1 ⟨rfl, rfl⟩)
    go_ret
    exact ⟨ret_bool (vlB_no (by unfold loI hiI hjI hkI; omega)).symm, (Below.refl _ _).alloc (Nat.le_refl _) _⟩
  · go_enter Tryz.func95, Tryz.ntmps95
    go_wp2_with (go_at_call 107; refine (some_yes g1 _).mono ?_; rintro e w1 ⟨rfl, rfl⟩)
    go_ret
    exact ⟨ret_bool ((show (c == 0) = false by simpa using g3).trans (vlB_no (by unfold loI hiI hjI hkI; omega)).symm), (Below.refl _ _).alloc (Nat.le_refl _) _⟩
set_option maxRecDepth 100000 in
set_option maxHeartbeats 4000000 in
theorem values_10 (q t : Int) (s : ByteArray) (a b c : Int) (w : World) :
    Calls Tryz.prog 95 #[.agg #[.int .i64 q, .int .i64 t, .int .i64 10, .string s, .int .i64 a, .int .i64 b, .int .i64 c]] w fun e w' => e = .returned (.bool (vlB 10 a b c)) ∧ Below w.heap.size w w' := by
  rcases chain4 (1 ≤ a) (0 ≤ a ∧ a ≤ 2147483647) (b = 0) (c = 0) with ⟨g0, g1, g2, g3⟩ | g0 | ⟨g0, g1⟩ | ⟨g0, g1, g2⟩ | ⟨g0, g1, g2, g3⟩
  · go_enter Tryz.func95, Tryz.ntmps95
    go_wp2_with (go_at_call 107; refine (some_yes g1 _).mono ?_; rintro e w1 ⟨rfl, rfl⟩)
    go_ret
    exact ⟨ret_bool (vlB_yes (by unfold loI hiI hjI hkI; omega)).symm, (Below.refl _ _).alloc (Nat.le_refl _) _⟩
  · go_enter Tryz.func95, Tryz.ntmps95
    go_wp2_with fail
    go_ret
    exact ⟨ret_bool (vlB_no (by unfold loI hiI hjI hkI; omega)).symm, (Below.refl _ _).alloc (Nat.le_refl _) _⟩
  · go_enter Tryz.func95, Tryz.ntmps95
    go_wp2_with (go_at_call 107; refine (some_no g1 _).mono ?_; rintro e w1 ⟨rfl, rfl⟩)
    go_ret
    exact ⟨ret_bool (vlB_no (by unfold loI hiI hjI hkI; omega)).symm, (Below.refl _ _).alloc (Nat.le_refl _) _⟩
  · go_enter Tryz.func95, Tryz.ntmps95
    go_wp2_with (go_at_call 107; refine (some_yes g1 _).mono ?_; rintro e w1 ⟨rfl, rfl⟩)
    go_ret
    exact ⟨ret_bool (vlB_no (by unfold loI hiI hjI hkI; omega)).symm, (Below.refl _ _).alloc (Nat.le_refl _) _⟩
  · go_enter Tryz.func95, Tryz.ntmps95
    go_wp2_with (go_at_call 107; refine (some_yes g1 _).mono ?_; rintro e w1 ⟨rfl, rfl⟩)
    go_ret
    exact ⟨ret_bool ((show (c == 0) = false by simpa using g3).trans (vlB_no (by unfold loI hiI hjI hkI; omega)).symm), (Below.refl _ _).alloc (Nat.le_refl _) _⟩
set_option maxRecDepth 100000 in
set_option maxHeartbeats 4000000 in
theorem values_5 (q t : Int) (s : ByteArray) (a b c : Int) (w : World) :
    Calls Tryz.prog 95 #[.agg #[.int .i64 q, .int .i64 t, .int .i64 5, .string s, .int .i64 a, .int .i64 b, .int .i64 c]] w fun e w' => e = .returned (.bool (vlB 5 a b c)) ∧ Below w.heap.size w w' := by
  rcases chain3 (0 ≤ a ∧ a ≤ 2147483647) (b = 0) (c = 0) with ⟨g0, g1, g2⟩ | g0 | ⟨g0, g1⟩ | ⟨g0, g1, g2⟩
  · go_enter Tryz.func95, Tryz.ntmps95
    go_wp2_with (go_at_call 107; refine (some_yes g0 _).mono ?_; rintro e w1 ⟨rfl, rfl⟩)
    go_ret
    exact ⟨ret_bool (vlB_yes (by unfold loI hiI hjI hkI; omega)).symm, (Below.refl _ _).alloc (Nat.le_refl _) _⟩
  · go_enter Tryz.func95, Tryz.ntmps95
    go_wp2_with (go_at_call 107; refine (some_no g0 _).mono ?_; rintro e w1 ⟨rfl, rfl⟩)
    go_ret
    exact ⟨ret_bool (vlB_no (by unfold loI hiI hjI hkI; omega)).symm, (Below.refl _ _).alloc (Nat.le_refl _) _⟩
  · go_enter Tryz.func95, Tryz.ntmps95
    go_wp2_with (go_at_call 107; refine (some_yes g0 _).mono ?_; rintro e w1 ⟨rfl, rfl⟩)
    go_ret
    exact ⟨ret_bool (vlB_no (by unfold loI hiI hjI hkI; omega)).symm, (Below.refl _ _).alloc (Nat.le_refl _) _⟩
  · go_enter Tryz.func95, Tryz.ntmps95
    go_wp2_with (go_at_call 107; refine (some_yes g0 _).mono ?_; rintro e w1 ⟨rfl, rfl⟩)
    go_ret
    exact ⟨ret_bool ((show (c == 0) = false by simpa using g2).trans (vlB_no (by unfold loI hiI hjI hkI; omega)).symm), (Below.refl _ _).alloc (Nat.le_refl _) _⟩
set_option maxRecDepth 100000 in
set_option maxHeartbeats 4000000 in
theorem values_6 (q t : Int) (s : ByteArray) (a b c : Int) (w : World) :
    Calls Tryz.prog 95 #[.agg #[.int .i64 q, .int .i64 t, .int .i64 6, .string s, .int .i64 a, .int .i64 b, .int .i64 c]] w fun e w' => e = .returned (.bool (vlB 6 a b c)) ∧ Below w.heap.size w w' := by
  rcases chain3 (0 ≤ a ∧ a ≤ 2147483647) (b = 0) (c = 0) with ⟨g0, g1, g2⟩ | g0 | ⟨g0, g1⟩ | ⟨g0, g1, g2⟩
  · go_enter Tryz.func95, Tryz.ntmps95
    go_wp2_with (go_at_call 107; refine (some_yes g0 _).mono ?_; rintro e w1 ⟨rfl, rfl⟩)
    go_ret
    exact ⟨ret_bool (vlB_yes (by unfold loI hiI hjI hkI; omega)).symm, (Below.refl _ _).alloc (Nat.le_refl _) _⟩
  · go_enter Tryz.func95, Tryz.ntmps95
    go_wp2_with (go_at_call 107; refine (some_no g0 _).mono ?_; rintro e w1 ⟨rfl, rfl⟩)
    go_ret
    exact ⟨ret_bool (vlB_no (by unfold loI hiI hjI hkI; omega)).symm, (Below.refl _ _).alloc (Nat.le_refl _) _⟩
  · go_enter Tryz.func95, Tryz.ntmps95
    go_wp2_with (go_at_call 107; refine (some_yes g0 _).mono ?_; rintro e w1 ⟨rfl, rfl⟩)
    go_ret
    exact ⟨ret_bool (vlB_no (by unfold loI hiI hjI hkI; omega)).symm, (Below.refl _ _).alloc (Nat.le_refl _) _⟩
  · go_enter Tryz.func95, Tryz.ntmps95
    go_wp2_with (go_at_call 107; refine (some_yes g0 _).mono ?_; rintro e w1 ⟨rfl, rfl⟩)
    go_ret
    exact ⟨ret_bool ((show (c == 0) = false by simpa using g2).trans (vlB_no (by unfold loI hiI hjI hkI; omega)).symm), (Below.refl _ _).alloc (Nat.le_refl _) _⟩
set_option maxRecDepth 100000 in
set_option maxHeartbeats 4000000 in
theorem values_7 (q t : Int) (s : ByteArray) (a b c : Int) (w : World) :
    Calls Tryz.prog 95 #[.agg #[.int .i64 q, .int .i64 t, .int .i64 7, .string s, .int .i64 a, .int .i64 b, .int .i64 c]] w fun e w' => e = .returned (.bool (vlB 7 a b c)) ∧ Below w.heap.size w w' := by
  rcases chain3 (0 ≤ a ∧ a ≤ 2147483647) (b = 0) (c = 0) with ⟨g0, g1, g2⟩ | g0 | ⟨g0, g1⟩ | ⟨g0, g1, g2⟩
  · go_enter Tryz.func95, Tryz.ntmps95
    go_wp2_with (go_at_call 107; refine (some_yes g0 _).mono ?_; rintro e w1 ⟨rfl, rfl⟩)
    go_ret
    exact ⟨ret_bool (vlB_yes (by unfold loI hiI hjI hkI; omega)).symm, (Below.refl _ _).alloc (Nat.le_refl _) _⟩
  · go_enter Tryz.func95, Tryz.ntmps95
    go_wp2_with (go_at_call 107; refine (some_no g0 _).mono ?_; rintro e w1 ⟨rfl, rfl⟩)
    go_ret
    exact ⟨ret_bool (vlB_no (by unfold loI hiI hjI hkI; omega)).symm, (Below.refl _ _).alloc (Nat.le_refl _) _⟩
  · go_enter Tryz.func95, Tryz.ntmps95
    go_wp2_with (go_at_call 107; refine (some_yes g0 _).mono ?_; rintro e w1 ⟨rfl, rfl⟩)
    go_ret
    exact ⟨ret_bool (vlB_no (by unfold loI hiI hjI hkI; omega)).symm, (Below.refl _ _).alloc (Nat.le_refl _) _⟩
  · go_enter Tryz.func95, Tryz.ntmps95
    go_wp2_with (go_at_call 107; refine (some_yes g0 _).mono ?_; rintro e w1 ⟨rfl, rfl⟩)
    go_ret
    exact ⟨ret_bool ((show (c == 0) = false by simpa using g2).trans (vlB_no (by unfold loI hiI hjI hkI; omega)).symm), (Below.refl _ _).alloc (Nat.le_refl _) _⟩
set_option maxRecDepth 100000 in
set_option maxHeartbeats 4000000 in
theorem values_9 (q t : Int) (s : ByteArray) (a b c : Int) (w : World) :
    Calls Tryz.prog 95 #[.agg #[.int .i64 q, .int .i64 t, .int .i64 9, .string s, .int .i64 a, .int .i64 b, .int .i64 c]] w fun e w' => e = .returned (.bool (vlB 9 a b c)) ∧ Below w.heap.size w w' := by
  rcases chain3 (0 ≤ a ∧ a ≤ 2147483647) (b = 0) (c = 0) with ⟨g0, g1, g2⟩ | g0 | ⟨g0, g1⟩ | ⟨g0, g1, g2⟩
  · go_enter Tryz.func95, Tryz.ntmps95
    go_wp2_with (go_at_call 107; refine (some_yes g0 _).mono ?_; rintro e w1 ⟨rfl, rfl⟩)
    go_ret
    exact ⟨ret_bool (vlB_yes (by unfold loI hiI hjI hkI; omega)).symm, (Below.refl _ _).alloc (Nat.le_refl _) _⟩
  · go_enter Tryz.func95, Tryz.ntmps95
    go_wp2_with (go_at_call 107; refine (some_no g0 _).mono ?_; rintro e w1 ⟨rfl, rfl⟩)
    go_ret
    exact ⟨ret_bool (vlB_no (by unfold loI hiI hjI hkI; omega)).symm, (Below.refl _ _).alloc (Nat.le_refl _) _⟩
  · go_enter Tryz.func95, Tryz.ntmps95
    go_wp2_with (go_at_call 107; refine (some_yes g0 _).mono ?_; rintro e w1 ⟨rfl, rfl⟩)
    go_ret
    exact ⟨ret_bool (vlB_no (by unfold loI hiI hjI hkI; omega)).symm, (Below.refl _ _).alloc (Nat.le_refl _) _⟩
  · go_enter Tryz.func95, Tryz.ntmps95
    go_wp2_with (go_at_call 107; refine (some_yes g0 _).mono ?_; rintro e w1 ⟨rfl, rfl⟩)
    go_ret
    exact ⟨ret_bool ((show (c == 0) = false by simpa using g2).trans (vlB_no (by unfold loI hiI hjI hkI; omega)).symm), (Below.refl _ _).alloc (Nat.le_refl _) _⟩
theorem values_any {k : Int} (hk : 1 ≤ k ∧ k ≤ 10) (q t : Int) (s : ByteArray) (a b c : Int) (w : World) :
    Calls Tryz.prog 95 #[.agg #[.int .i64 q, .int .i64 t, .int .i64 k, .string s, .int .i64 a, .int .i64 b, .int .i64 c]] w fun e w' => e = .returned (.bool (vlB k a b c)) ∧ Below w.heap.size w w' := by
  rcases kinds k with rfl | rfl | rfl | rfl | rfl | rfl | rfl | rfl | rfl | rfl | h | h
  · exact values_1 q t s a b c w
  · exact values_2 q t s a b c w
  · exact values_3 q t s a b c w
  · exact values_4 q t s a b c w
  · exact values_5 q t s a b c w
  · exact values_6 q t s a b c w
  · exact values_7 q t s a b c w
  · exact values_8 q t s a b c w
  · exact values_9 q t s a b c w
  · exact values_10 q t s a b c w
  · omega
  · omega
end Go.Proofs.YtondnbnaoacanaaGreatDoor
