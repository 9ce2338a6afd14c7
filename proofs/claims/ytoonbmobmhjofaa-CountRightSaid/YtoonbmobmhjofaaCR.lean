/- The walk of CountRight. -/
import Derived.Test.YtoonbmobmhjofaaW2
namespace Go.Proofs.Ytoonbmobmhjofaa
open Go.ChangeShapes Go.WideShapes Go.ChangeAt Go.RowKit Fb

set_option maxHeartbeats 1000000 in
theorem right_walk (a b : Int) (l : List Int) (A : Option Addr) (c : Nat) (w : World) (h : Sl w w.heap.size A l.length (ints l)) :
    Calls Try.prog 3 #[.int .i64 a, .int .i64 b, .slice A l.length c] w fun e w' => e = .returned (.bool true) ∧ Below w.heap.size w w' := by
  by_cases hl : 300 < l.length
  · go_enter Try.func3, Try.ntmps3
    go_wp2_with (first
      | (go_at_call 6; refine (awake_any _).mono ?_; rintro e w' ⟨rfl, hb⟩))
    go_ret
    exact ⟨rfl, hb⟩
  · go_enter Try.func3, Try.ntmps3
    go_wp2_with (first
      | (go_at_call 6; refine (awake_any _).mono ?_; rintro e w' ⟨rfl, hb⟩))
    have h' := h.below hb
    go_loop [7, 8] (fun s i => ∃ k : Nat, k ≤ l.length ∧ i = .int .i64 k ∧ s = .int .i64 (totI (l.take k))) (fun _ i => l.length - (intOf i).toNat)
    case atStart => exact ⟨0, Nat.zero_le _, rfl, rfl⟩
    case round =>
      obtain ⟨k, hk, rfl, rfl⟩ := hrel
      by_cases hlt : k < l.length
      · obtain ⟨bb, o, u, hA, -, hu, hc⟩ := h'.get hlt
        have hu' : u = .int .i64 l[k] := by
          unfold ints at hu; simp [List.getElem?_map, List.getElem?_eq_getElem hlt] at hu; exact hu.symm
        subst hu' hA
        have hs := hid (totI_snoc l k hlt)
        go_wp2_with (go_at_call 7; refine (RUp_any _ _ _).mono ?_; rintro e w' ⟨rfl, rfl⟩)
        go_round
        case rel => exact ⟨k + 1, by omega, by go_num, by rw [hs.out]⟩
        case measure => simp [intOf]; omega
      · have hs : Hid (totI (l.take k) = totI l) := by show _ = _; rw [List.take_of_length_le (by omega)]
        go_wp2_with (first
          | (go_at_call 8; refine (Hold_any _ _).mono ?_; rintro e w' ⟨rfl, rfl⟩)
          | (go_at_call 9; refine (RHold_any _ _).mono ?_; rintro e w' ⟨rfl, rfl⟩)
          | (go_at_call 10; refine (Up_any _ _ _).mono ?_; rintro e w' ⟨rfl, rfl⟩)
          | (go_at_call 7; refine (RUp_any _ _ _).mono ?_; rintro e w' ⟨rfl, rfl⟩)
          | (go_at_call 11; refine (Down_any _ _ _).mono ?_; rintro e w' ⟨rfl, rfl⟩)
          | (go_at_call 12; refine (RDown_any _ _ _).mono ?_; rintro e w' ⟨rfl, rfl⟩)
          | (go_at_call 13; refine (Total_any l A _ c _ h' (by omega)).mono ?_; rintro e w' ⟨rfl, rfl⟩))
        go_ret
        exact ⟨ret_true (by rw [hs.out]; simp), hb⟩
end Go.Proofs.Ytoonbmobmhjofaa
