/- Contracts of layer 5 (event) and of its reference: the numbers of an event, checked. -/
import Derived.Test.YtgijhfdlecdijaaEvent1
import Derived.Deep.Draws
import Derived.RegionTactic
import Derived.Deep.RegionWith
namespace Go.Proofs.Ytgijhfdlecdijaa
open Go.ChangeShapes Go.WideShapes Go.ChangeAt Go.RowKit Fb

def inB (lo hi n : Int) : Bool := decide (lo ≤ n ∧ n ≤ hi)
theorem bound_at0 (a b : Int) (c d e f : Value) (w : World) : (Instr.index 73 (.agg #[.int .i64 a, .int .i64 b, c, d, e, f]) (.int .i64 0)).run Try.prog w = .ok (.agg #[.int .i64 a, .int .i64 b]) w := by kernel_rfl
theorem bound_at1 (a b : Int) (c d e f : Value) (w : World) : (Instr.index 73 (.agg #[c, d, .int .i64 a, .int .i64 b, e, f]) (.int .i64 1)).run Try.prog w = .ok (.agg #[.int .i64 a, .int .i64 b]) w := by kernel_rfl
theorem bound_at2 (a b : Int) (c d e f : Value) (w : World) : (Instr.index 73 (.agg #[c, d, e, f, .int .i64 a, .int .i64 b]) (.int .i64 2)).run Try.prog w = .ok (.agg #[.int .i64 a, .int .i64 b]) w := by kernel_rfl

set_option maxHeartbeats 4000000 in
theorem fits_any (x y l0 h0 l1 h1 l2 h2 a b c : Int) (w : World) :
    Calls Try.prog 37 #[.agg #[.int .i64 x, .int .i64 y, .int .i64 l0, .int .i64 h0, .int .i64 l1, .int .i64 h1, .int .i64 l2, .int .i64 h2], .agg #[.int .i64 a, .int .i64 b, .int .i64 c]] w fun e w' => e = .returned (.bool (inB l0 h0 a && inB l1 h1 b && inB l2 h2 c)) ∧ Below w.heap.size w w' := by
  have b0 := bound_at0
  have b1 := bound_at1
  have b2 := bound_at2
  go_enter Try.func37, Try.ntmps37
  go_wp2
  go_loopw [9] (fun i wr => (i = .int .i64 0 ∨ (i = .int .i64 1 ∧ inB l0 h0 a = true) ∨ (i = .int .i64 2 ∧ inB l0 h0 a = true ∧ inB l1 h1 b = true) ∨ (i = .int .i64 3 ∧ inB l0 h0 a = true ∧ inB l1 h1 b = true ∧ inB l2 h2 c = true)) ∧ wr.heap[w.heap.size + 1]? = some (.cells #[.int .i64 a, .int .i64 b, .int .i64 c] 78 (0, 0)) ∧ Below w.heap.size w wr) (fun i _ => 3 - (intOf i).toNat)
  case atStart => exact ⟨.inl rfl, (kept2 (w := w) (Below.refl _ _)).2, ((Below.refl _ _).alloc (Nat.le_refl _) _).alloc (by simp) _⟩
  case round =>
    obtain ⟨hi, K, hb⟩ := hrel
    have K' := hid K
    have hz : w.heap.size + 1 < wr.heap.size := by
      rcases Nat.lt_or_ge (w.heap.size + 1) wr.heap.size with h | h
      · exact h
      · rw [Array.getElem?_eq_none h] at K; cases K
    obtain ⟨k0, k1, k2, -, -, -⟩ := blk3 K
    clear K
    rcases hi with rfl | ⟨rfl, p0⟩ | ⟨rfl, p0, p1⟩ | ⟨rfl, p0, p1, p2⟩
    · by_cases q : inB l0 h0 a = true
      · have Q := hid q
        clear q
        go_wp2_with fail
        go_region_with (go_at_call 38; refine (within_yes (of_decide_eq_true Q.out) _).mono ?_; rintro e w1 ⟨rfl, hb1⟩)
        all_goals
          go_wp2_with fail
          go_roundw
          case rel => exact ⟨.inr (.inl ⟨rfl, Q.out⟩), (hb1.block (w.heap.size + 1) (by simp; omega)).trans ((Below.heap_alloc wr _ (w.heap.size + 1) hz).trans K'.out), ((hb.alloc hb.size (.cells #[.int .i64 l0, .int .i64 h0] 72)).drew).trans (hb1.mono ((hb.alloc hb.size (.cells #[.int .i64 l0, .int .i64 h0] 72)).drew).size)⟩
          case measure => simp [intOf]
      · have Q := hid q
        clear q
        go_wp2_with fail
        go_region_with (go_at_call 38; refine (within_no (of_decide_eq_false (by simpa [inB] using Q.out)) _).mono ?_; rintro e w1 ⟨rfl, hb1⟩)
        all_goals
          go_wp2_with fail
          go_ret
          exact ⟨ret_bool (a := false) (by have q := Q.out; simp only [Bool.not_eq_true] at q; simp [q]), ((hb.alloc hb.size (.cells #[.int .i64 l0, .int .i64 h0] 72)).drew).trans (hb1.mono ((hb.alloc hb.size (.cells #[.int .i64 l0, .int .i64 h0] 72)).drew).size)⟩
    · by_cases q : inB l1 h1 b = true
      · have Q := hid q
        have P0 := hid p0
        clear p0
        clear q
        go_wp2_with fail
        go_region_with (go_at_call 38; refine (within_yes (of_decide_eq_true Q.out) _).mono ?_; rintro e w1 ⟨rfl, hb1⟩)
        all_goals
          go_wp2_with fail
          go_roundw
          case rel => exact ⟨.inr (.inr (.inl ⟨rfl, P0.out, Q.out⟩)), (hb1.block (w.heap.size + 1) (by simp; omega)).trans ((Below.heap_alloc wr _ (w.heap.size + 1) hz).trans K'.out), ((hb.alloc hb.size (.cells #[.int .i64 l1, .int .i64 h1] 72)).drew).trans (hb1.mono ((hb.alloc hb.size (.cells #[.int .i64 l1, .int .i64 h1] 72)).drew).size)⟩
          case measure => simp [intOf]
      · have Q := hid q
        have P0 := hid p0
        clear p0
        clear q
        go_wp2_with fail
        go_region_with (go_at_call 38; refine (within_no (of_decide_eq_false (by simpa [inB] using Q.out)) _).mono ?_; rintro e w1 ⟨rfl, hb1⟩)
        all_goals
          go_wp2_with fail
          go_ret
          exact ⟨ret_bool (a := false) (by have q := Q.out; simp only [Bool.not_eq_true] at q; simp [P0.out, q]), ((hb.alloc hb.size (.cells #[.int .i64 l1, .int .i64 h1] 72)).drew).trans (hb1.mono ((hb.alloc hb.size (.cells #[.int .i64 l1, .int .i64 h1] 72)).drew).size)⟩
    · by_cases q : inB l2 h2 c = true
      · have Q := hid q
        have P0 := hid p0
        have P1 := hid p1
        clear p0 p1
        clear q
        go_wp2_with fail
        go_region_with (go_at_call 38; refine (within_yes (of_decide_eq_true Q.out) _).mono ?_; rintro e w1 ⟨rfl, hb1⟩)
        all_goals
          go_wp2_with fail
          go_roundw
          case rel => exact ⟨.inr (.inr (.inr ⟨rfl, P0.out, P1.out, Q.out⟩)), (hb1.block (w.heap.size + 1) (by simp; omega)).trans ((Below.heap_alloc wr _ (w.heap.size + 1) hz).trans K'.out), ((hb.alloc hb.size (.cells #[.int .i64 l2, .int .i64 h2] 72)).drew).trans (hb1.mono ((hb.alloc hb.size (.cells #[.int .i64 l2, .int .i64 h2] 72)).drew).size)⟩
          case measure => simp [intOf]
      · have Q := hid q
        have P0 := hid p0
        have P1 := hid p1
        clear p0 p1
        clear q
        go_wp2_with fail
        go_region_with (go_at_call 38; refine (within_no (of_decide_eq_false (by simpa [inB] using Q.out)) _).mono ?_; rintro e w1 ⟨rfl, hb1⟩)
        all_goals
          go_wp2_with fail
          go_ret
          exact ⟨ret_bool (a := false) (by have q := Q.out; simp only [Bool.not_eq_true] at q; simp [P0.out, P1.out, q]), ((hb.alloc hb.size (.cells #[.int .i64 l2, .int .i64 h2] 72)).drew).trans (hb1.mono ((hb.alloc hb.size (.cells #[.int .i64 l2, .int .i64 h2] 72)).drew).size)⟩
    · go_wp2
      go_ret
      exact ⟨ret_bool (by simp [p0, p1, p2]), hb⟩
end Go.Proofs.Ytgijhfdlecdijaa
