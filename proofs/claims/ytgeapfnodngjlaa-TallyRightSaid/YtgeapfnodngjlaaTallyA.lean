/- Layer 2: awake, the fixed answer that each statement begins with. -/
import Derived.Test.YtgeapfnodngjlaaTally3
namespace Go.Proofs.Ytgeapfnodngjlaa
open Go.ChangeShapes Go.WideShapes Go.ChangeAt Go.RowKit Fb

set_option maxHeartbeats 1000000 in
theorem awake_any (w : World) :
    Calls Try.prog 7 #[] w fun e w' => e = .returned (.bool true) ∧ Below w.heap.size w w' := by
  have h34 : holdI 3 = 3 := by decide +kernel
  have h44 : holdI 4 = 4 := by decide +kernel
  have h11 : holdI 1 = 1 := by decide +kernel
  have o1 := ofW_is 3 4
  have o2 := ofW_is 1 1
  rw [h34, h44] at o1
  rw [h11] at o2
  have t1 : IsW2 (turnW 1 (ofW 3 4)) (-4, 3) := o1.turn 1
  have hbeat : beatI holdI [5, 1, 0, 0, 5] = (10, 1) := by decide +kernel
  have Hb := hid hbeat
  clear h34 h44 h11 hbeat
  go_enter Try.func7, Try.ntmps7
  go_wp2_with fail
  refine (Of_any _ _ _).mono ?_
  rintro e w' ⟨rfl, rfl⟩
  go_wp2_with fail
  refine (Of_any _ _ _).mono ?_
  rintro e w' ⟨rfl, rfl⟩
  go_wp2_with fail
  refine (Sum_any [ofW 3 4, ofW 1 1] [(3, 4), (1, 1)] 2 (some ⟨w.heap.size, 0, none⟩) (w.heap.size + 1) 2 _ (Sl.fresh w #[.complex .f64 _ _, .complex .f64 _ _] _ (Nat.lt_succ_self _)) rfl (by omega) ((Are.nil.snoc o1).snoc o2) ?_).mono ?_
  · intro k
    rw [two_Bi]
    match k with
    | 0 => decide +kernel
    | 1 => decide +kernel
    | k + 2 =>
      have e : ∀ a b : Int × Int, [a, b].take (k + 2) = [a, b] := fun a b => by simp
      rw [e]
      decide +kernel
  rintro e w' ⟨q, rfl, hq, rfl⟩
  have e1 : sum1 [((3 : Int), (4 : Int)), (1, 1)] = 4 := by decide +kernel
  have e2 : sum2 [((3 : Int), (4 : Int)), (1, 1)] = 5 := by decide +kernel
  rw [e1, e2] at hq
  clear e1 e2
  go_wp2_with fail
  refine (Parts_W q.1 q.2 4 5 _ hq (by rw [two_Bi]; omega) (by rw [two_Bi]; omega)).mono ?_
  rintro e w' ⟨rfl, rfl⟩
  go_wp2_with fail
  refine (Of_any _ _ _).mono ?_
  rintro e w' ⟨rfl, rfl⟩
  go_wp2_with fail
  refine (Turn_any _ _ _ _).mono ?_
  rintro e w' ⟨rfl, rfl⟩
  rw [show ((5 : Int) % 4).toNat = 1 from by decide +kernel]
  go_wp2_with fail
  refine (Parts_W _ _ (-4) 3 _ t1 (by rw [two_Bi]; omega) (by rw [two_Bi]; omega)).mono ?_
  rintro e w' ⟨rfl, rfl⟩
  go_wp2_with fail
  refine (Beat_any [5, 1, 0, 0, 5] 5 rfl (some ⟨w.heap.size + 1, 0, none⟩) (w.heap.size + 2) 5 _ ?_ (by simp) (by omega)).mono ?_
  · exact Sl.freshAt (w.alloc _) #[.int .i64 5, .int .i64 1, .int .i64 0, .int .i64 0, .int .i64 5] _ (by simp) (by omega) rfl rfl
  rw [Hb.out]
  rintro e w' ⟨rfl, hb⟩
  go_wp2_with fail
  go_ret
  exact ⟨rfl, (((Below.refl _ _).alloc (Nat.le_refl _) _).alloc (by simp) _).trans (hb.mono (by simp; omega))⟩
end Go.Proofs.Ytgeapfnodngjlaa
