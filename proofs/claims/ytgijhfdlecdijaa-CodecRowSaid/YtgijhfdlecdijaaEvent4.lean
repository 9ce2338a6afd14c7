/- Contracts of layer 5 (event) and of its reference: may an event be told? -/
import Derived.Test.YtgijhfdlecdijaaEvent3
import Derived.Test.YtgijhfdlecdijaaEvent5
namespace Go.Proofs.Ytgijhfdlecdijaa
open Go.ChangeShapes Go.WideShapes Go.ChangeAt Go.RowKit Fb

/-- what is said of an event -/
def chI (q t k : Int) (s : ByteArray) (a b c : Int) : Int :=
  if k < 1 ∨ 10 < k then 2 else if nmB s = false then 3 else if vlB k a b c = false then 4 else if inB 0 1099511627776 t = false then 5 else if inB 0 4294967296 q = false then 1 else 0
theorem ch_kind {q t k : Int} {s : ByteArray} {a b c : Int} (h : k < 1 ∨ 10 < k) : chI q t k s a b c = 2 := by simp [chI, h]
theorem ch_name {q t k : Int} {s : ByteArray} {a b c : Int} (h : ¬ (k < 1 ∨ 10 < k)) (h1 : nmB s = false) : chI q t k s a b c = 3 := by simp [chI, h, h1]
theorem ch_value {q t k : Int} {s : ByteArray} {a b c : Int} (h : ¬ (k < 1 ∨ 10 < k)) (h1 : nmB s = true) (h2 : vlB k a b c = false) : chI q t k s a b c = 4 := by simp [chI, h, h1, h2]
theorem ch_time {q t k : Int} {s : ByteArray} {a b c : Int} (h : ¬ (k < 1 ∨ 10 < k)) (h1 : nmB s = true) (h2 : vlB k a b c = true) (h3 : inB 0 1099511627776 t = false) : chI q t k s a b c = 5 := by simp [chI, h, h1, h2, h3]
theorem ch_seq {q t k : Int} {s : ByteArray} {a b c : Int} (h : ¬ (k < 1 ∨ 10 < k)) (h1 : nmB s = true) (h2 : vlB k a b c = true) (h3 : inB 0 1099511627776 t = true) (h4 : inB 0 4294967296 q = false) : chI q t k s a b c = 1 := by simp [chI, h, h1, h2, h3, h4]
theorem ch_ok {q t k : Int} {s : ByteArray} {a b c : Int} (h : ¬ (k < 1 ∨ 10 < k)) (h1 : nmB s = true) (h2 : vlB k a b c = true) (h3 : inB 0 1099511627776 t = true) (h4 : inB 0 4294967296 q = true) : chI q t k s a b c = 0 := by simp [chI, h, h1, h2, h3, h4]
theorem ch_all (q t k : Int) (s : ByteArray) (a b c : Int) : (k < 1 ∨ 10 < k) ∨ (¬ (k < 1 ∨ 10 < k) ∧ nmB s = false) ∨ (¬ (k < 1 ∨ 10 < k) ∧ nmB s = true ∧ vlB k a b c = false) ∨ (¬ (k < 1 ∨ 10 < k) ∧ nmB s = true ∧ vlB k a b c = true ∧ inB 0 1099511627776 t = false) ∨ (¬ (k < 1 ∨ 10 < k) ∧ nmB s = true ∧ vlB k a b c = true ∧ inB 0 1099511627776 t = true ∧ inB 0 4294967296 q = false) ∨ (¬ (k < 1 ∨ 10 < k) ∧ nmB s = true ∧ vlB k a b c = true ∧ inB 0 1099511627776 t = true ∧ inB 0 4294967296 q = true) := by
  by_cases h : k < 1 ∨ 10 < k
  · exact .inl h
  · cases h1 : nmB s <;> cases h2 : vlB k a b c <;> cases h3 : inB 0 1099511627776 t <;> cases h4 : inB 0 4294967296 q <;> simp [h]

theorem Named_is {s : ByteArray} {r : Bool} (h : nmB s = r) (w : World) :
    Calls Try.prog 36 #[.string s] w fun e w' => e = .returned (.bool r) ∧ w = w' := h ▸ Named_any s w
theorem within_is {lo hi n : Int} {r : Bool} (h : inB lo hi n = r) (w : World) :
    Calls Try.prog 38 #[.int .i64 n, .agg #[.int .i64 lo, .int .i64 hi]] w fun e w' => e = .returned (.bool r) ∧ Below w.heap.size w w' := h ▸ within_any n lo hi w
theorem fits_is {k a b c : Int} {r : Bool} (h : vlB k a b c = r) (x y : Int) (w : World) :
    Calls Try.prog 37 #[.agg #[.int .i64 x, .int .i64 y, .int .i64 (loI k), .int .i64 (hiI k), .int .i64 0, .int .i64 (hjI k), .int .i64 0, .int .i64 (hkI k)], .agg #[.int .i64 a, .int .i64 b, .int .i64 c]] w fun e w' => e = .returned (.bool r) ∧ Below w.heap.size w w' := by
  have := fits_any x y (loI k) (hiI k) 0 (hjI k) 0 (hkI k) a b c w
  rw [vlB_in, h] at this
  exact this

set_option maxHeartbeats 4000000 in
theorem Check_any (q t k : Int) (s : ByteArray) (a b c : Int) (w : World) :
    Calls Try.prog 21 #[.agg #[.int .i64 q, .int .i64 t, .int .i64 k, .string s, .int .i64 a, .int .i64 b, .int .i64 c]] w fun e w' => e = .returned (.int .i64 (chI q t k s a b c)) ∧ Below w.heap.size w w' := by
  have hbA : Below w.heap.size w (w.alloc (.cells #[.int .i64 q, .int .i64 t, .int .i64 k, .string s, .int .i64 a, .int .i64 b, .int .i64 c] 26)) := (Below.refl _ _).alloc (Nat.le_refl _) _
  have HK := hid (heap_alloc_new w (.cells #[.int .i64 q, .int .i64 t, .int .i64 k, .string s, .int .i64 a, .int .i64 b, .int .i64 c] 26))
  have P := ruleOf_any k
  unfold ruV at P
  have HP := hid P
  clear P
  rcases ch_all q t k s a b c with h | ⟨h, h1⟩ | ⟨h, h1, h2⟩ | ⟨h, h1, h2, h3⟩ | ⟨h, h1, h2, h3, h4⟩ | ⟨h, h1, h2, h3, h4⟩
  · rw [ch_kind h]
    have m0 : (mnI k == 0) = true := by unfold mnI; rw [if_pos h]; rfl
    clear h
    go_enter Try.func21, Try.ntmps21
    go_wp2_with fail
    refine (HP.out _).mono ?_
    rintro e w1 ⟨rfl, hb1⟩
    have hbB := hbA.trans (hb1.mono hbA.size)
    go_wp2_with fail
    go_ret
    exact ⟨rfl, hbB.alloc hbB.size _⟩
  all_goals
    have m0 : (mnI k == 0) = false := by unfold mnI; rw [if_neg h]; split <;> (try split) <;> rfl
    have HN := hid (Named_is h1)
  · rw [ch_name h h1]
    clear h h1
    go_enter Try.func21, Try.ntmps21
    go_wp2_with fail
    refine (HP.out _).mono ?_
    rintro e w1 ⟨rfl, hb1⟩
    have K1 := (hb1.block w.heap.size (by simp)).trans HK.out
    have z1 := blk_lt K1
    obtain ⟨d0, d1, d2, d3, d4, d5, d6⟩ := blk7 K1
    have hbB := hbA.trans (hb1.mono hbA.size)
    go_wp2_with fail
    refine (HN.out _).mono ?_
    rintro e w2 ⟨rfl, rfl⟩
    go_wp2_with fail
    go_ret
    exact ⟨rfl, hbB.alloc hbB.size _⟩
  all_goals
    have HF := hid (fits_is h2 (roI k) (mnI k))
  · rw [ch_value h h1 h2]
    clear h h1 h2
    go_enter Try.func21, Try.ntmps21
    go_wp2_with fail
    refine (HP.out _).mono ?_
    rintro e w1 ⟨rfl, hb1⟩
    have K1 := (hb1.block w.heap.size (by simp)).trans HK.out
    have z1 := blk_lt K1
    obtain ⟨d0, d1, d2, d3, d4, d5, d6⟩ := blk7 K1
    have hbB := hbA.trans (hb1.mono hbA.size)
    go_wp2_with fail
    refine (HN.out _).mono ?_
    rintro e w2 ⟨rfl, rfl⟩
    go_wp2_with fail
    refine (HF.out _).mono ?_
    rintro e w3 ⟨rfl, hb3⟩
    have hbC := hbB.alloc hbB.size (.cells (ruV k) 75)
    have hbD : Below w.heap.size w w3 := hbC.trans (hb3.mono hbC.size)
    go_wp2_with fail
    go_ret
    exact ⟨rfl, hbD⟩
  all_goals
    have HT := hid (within_is h3)
  · rw [ch_time h h1 h2 h3]
    clear h h1 h2 h3
    go_enter Try.func21, Try.ntmps21
    go_wp2_with fail
    refine (HP.out _).mono ?_
    rintro e w1 ⟨rfl, hb1⟩
    have K1 := (hb1.block w.heap.size (by simp)).trans HK.out
    have z1 := blk_lt K1
    obtain ⟨d0, d1, d2, d3, d4, d5, d6⟩ := blk7 K1
    have hbB := hbA.trans (hb1.mono hbA.size)
    have HK1 := hid K1
    clear K1
    go_wp2_with fail
    refine (HN.out _).mono ?_
    rintro e w2 ⟨rfl, rfl⟩
    go_wp2_with fail
    refine (HF.out _).mono ?_
    rintro e w3 ⟨rfl, hb3⟩
    have hbC := hbB.alloc hbB.size (.cells (ruV k) 75)
    have hbD : Below w.heap.size w w3 := hbC.trans (hb3.mono hbC.size)
    have K3 := (hb3.block w.heap.size (by simp; omega)).trans ((Below.heap_alloc _ _ _ z1).trans HK1.out)
    have z3 := blk_lt K3
    clear d0 d1 d2 d3 d4 d5 d6
    obtain ⟨d0, d1, d2, d3, d4, d5, d6⟩ := blk7 K3
    clear K3
    go_wp2_with fail
    refine (HT.out _).mono ?_
    rintro e w4 ⟨rfl, hb4⟩
    go_wp2_with fail
    go_ret
    exact ⟨rfl, hbD.trans (hb4.mono hbD.size)⟩
  all_goals
    have HQ := hid (within_is h4)
  · rw [ch_seq h h1 h2 h3 h4]
    clear h h1 h2 h3 h4
    go_enter Try.func21, Try.ntmps21
    go_wp2_with fail
    refine (HP.out _).mono ?_
    rintro e w1 ⟨rfl, hb1⟩
    have K1 := (hb1.block w.heap.size (by simp)).trans HK.out
    have z1 := blk_lt K1
    obtain ⟨d0, d1, d2, d3, d4, d5, d6⟩ := blk7 K1
    have hbB := hbA.trans (hb1.mono hbA.size)
    have HK1 := hid K1
    clear K1
    go_wp2_with fail
    refine (HN.out _).mono ?_
    rintro e w2 ⟨rfl, rfl⟩
    go_wp2_with fail
    refine (HF.out _).mono ?_
    rintro e w3 ⟨rfl, hb3⟩
    have hbC := hbB.alloc hbB.size (.cells (ruV k) 75)
    have hbD : Below w.heap.size w w3 := hbC.trans (hb3.mono hbC.size)
    have K3 := (hb3.block w.heap.size (by simp; omega)).trans ((Below.heap_alloc _ _ _ z1).trans HK1.out)
    have z3 := blk_lt K3
    clear d0 d1 d2 d3 d4 d5 d6
    obtain ⟨d0, d1, d2, d3, d4, d5, d6⟩ := blk7 K3
    have HK3 := hid K3
    clear K3
    go_wp2_with fail
    refine (HT.out _).mono ?_
    rintro e w4 ⟨rfl, hb4⟩
    have hbE : Below w.heap.size w w4 := hbD.trans (hb4.mono hbD.size)
    have K4 := (hb4.block w.heap.size z3).trans HK3.out
    have z4 := blk_lt K4
    clear d0 d1 d2 d3 d4 d5 d6
    obtain ⟨d0, d1, d2, d3, d4, d5, d6⟩ := blk7 K4
    clear K4
    go_wp2_with fail
    refine (HQ.out _).mono ?_
    rintro e w5 ⟨rfl, hb5⟩
    go_wp2_with fail
    go_ret
    exact ⟨rfl, hbE.trans (hb5.mono hbE.size)⟩
  · rw [ch_ok h h1 h2 h3 h4]
    clear h h1 h2 h3 h4
    go_enter Try.func21, Try.ntmps21
    go_wp2_with fail
    refine (HP.out _).mono ?_
    rintro e w1 ⟨rfl, hb1⟩
    have K1 := (hb1.block w.heap.size (by simp)).trans HK.out
    have z1 := blk_lt K1
    obtain ⟨d0, d1, d2, d3, d4, d5, d6⟩ := blk7 K1
    have hbB := hbA.trans (hb1.mono hbA.size)
    have HK1 := hid K1
    clear K1
    go_wp2_with fail
    refine (HN.out _).mono ?_
    rintro e w2 ⟨rfl, rfl⟩
    go_wp2_with fail
    refine (HF.out _).mono ?_
    rintro e w3 ⟨rfl, hb3⟩
    have hbC := hbB.alloc hbB.size (.cells (ruV k) 75)
    have hbD : Below w.heap.size w w3 := hbC.trans (hb3.mono hbC.size)
    have K3 := (hb3.block w.heap.size (by simp; omega)).trans ((Below.heap_alloc _ _ _ z1).trans HK1.out)
    have z3 := blk_lt K3
    clear d0 d1 d2 d3 d4 d5 d6
    obtain ⟨d0, d1, d2, d3, d4, d5, d6⟩ := blk7 K3
    have HK3 := hid K3
    clear K3
    go_wp2_with fail
    refine (HT.out _).mono ?_
    rintro e w4 ⟨rfl, hb4⟩
    have hbE : Below w.heap.size w w4 := hbD.trans (hb4.mono hbD.size)
    have K4 := (hb4.block w.heap.size z3).trans HK3.out
    have z4 := blk_lt K4
    clear d0 d1 d2 d3 d4 d5 d6
    obtain ⟨d0, d1, d2, d3, d4, d5, d6⟩ := blk7 K4
    clear K4
    go_wp2_with fail
    refine (HQ.out _).mono ?_
    rintro e w5 ⟨rfl, hb5⟩
    go_wp2_with fail
    go_ret
    exact ⟨rfl, hbE.trans (hb5.mono hbE.size)⟩
end Go.Proofs.Ytgijhfdlecdijaa
