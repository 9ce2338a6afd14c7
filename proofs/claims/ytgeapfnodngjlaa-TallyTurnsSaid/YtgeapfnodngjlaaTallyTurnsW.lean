/- The walk of TallyTurns. -/
import Derived.Test.YtgeapfnodngjlaaTallyA
namespace Go.Proofs.Ytgeapfnodngjlaa
open Go.ChangeShapes Go.WideShapes Go.ChangeAt Go.RowKit Fb
attribute [local go_sem] run_neg_float run_neg_complex

theorem Of_W (a b : Int) (w : World) : Calls Try.prog 10 #[.int .i64 a, .int .i64 b] w (GivesW w (holdI a, holdI b)) :=
  (Of_any a b w).mono fun _ _ ⟨he, hw⟩ => ⟨_, he, ofW_is a b, hw⟩
theorem Turn_W (p : Nat × Nat) (v : Int × Int) (q : Int) (w : World) (h : IsW2 p v) :
    Calls Try.prog 11 #[.complex .f64 p.1 p.2, .int .i64 q] w (GivesW w (turnI (q % 4).toNat v)) :=
  (Turn_any p.1 p.2 q w).mono fun _ _ ⟨he, hw⟩ => ⟨_, he, IsW2.turn (p := (p.1, p.2)) h _, hw⟩
theorem same_word {x y : Nat} {n : Int} (hx : IsW x n) (hy : IsW y n) : FloatKind.f64.format.order x y = some .eq := by
  have := orderW hx hy
  rw [show compare n n = .eq from Int.compare_eq_eq.2 rfl] at this
  exact this

set_option maxHeartbeats 1000000 in
theorem turns_walk (a b c d m n : Int) (w : World) (hm1 : -32768 ≤ m) (hm2 : m ≤ 32767) (hn1 : -32768 ≤ n) (hn2 : n ≤ 32767) :
    Calls Try.prog 5 #[.int .i64 a, .int .i64 b, .int .i64 c, .int .i64 d, .int .i16 m, .int .i16 n] w fun e w' => e = .returned (.bool true) ∧ Below w.heap.size w w' := by
  have ha1 := hold_lo a; have ha2 := hold_hi a; have hb1 := hold_lo b; have hb2 := hold_hi b
  have hc1 := hold_lo c; have hc2 := hold_hi c; have hd1 := hold_lo d; have hd2 := hold_hi d
  go_enter Try.func5, Try.ntmps5
  go_wp2_with fail
  refine (awake_any _).mono ?_
  rintro e w1 ⟨rfl, hbel⟩
  go_wp2_with fail
  refine (Of_W a b _).mono ?_
  rintro e w' ⟨s, rfl, hs, rfl⟩
  go_wp2_with fail
  refine (Of_W c d _).mono ?_
  rintro e w' ⟨t, rfl, ht, rfl⟩
  generalize holdI a = A at *
  generalize holdI b = B at *
  generalize holdI c = C at *
  generalize holdI d = D at *
  -- four quarters
  go_wp2_with fail
  refine (Turn_W s (A, B) 4 _ hs).mono ?_
  rintro e w' ⟨s4, rfl, hs4, rfl⟩
  rw [show ((4 : Int) % 4).toNat = 0 from by decide +kernel] at hs4
  have o1 := same_word hs4.1 hs.1
  have o2 := same_word hs4.2 hs.2
  go_wp2_with fail
  clear o1 o2
  -- two quarters
  refine (Turn_W s (A, B) 2 _ hs).mono ?_
  rintro e w' ⟨s2, rfl, hs2, rfl⟩
  rw [show ((2 : Int) % 4).toNat = 2 from by decide +kernel] at hs2
  have o1 := same_word hs2.1 (negW hs.1)
  have o2 := same_word hs2.2 (negW hs.2)
  go_wp2_with fail
  clear o1 o2
  -- one behind the other
  refine (Turn_W s (A, B) m _ hs).mono ?_
  rintro e w' ⟨sm, rfl, hsm, rfl⟩
  go_wp2_with fail
  refine (Turn_W sm _ n _ hsm).mono ?_
  rintro e w' ⟨smn, rfl, hsmn, rfl⟩
  go_wp2_with fail
  refine (Turn_W s (A, B) (m + n) _ hs).mono ?_
  rintro e w' ⟨su, rfl, hsu, rfl⟩
  have he : turnI ((m + n) % 4).toNat (A, B) = turnI (n % 4).toNat (turnI (m % 4).toNat (A, B)) := by
    rw [← turnI_add, ← turnI_mod ((m % 4).toNat + (n % 4).toNat)]
    congr 1
    omega
  rw [he] at hsu
  have o1 := same_word hsmn.1 hsu.1
  have o2 := same_word hsmn.2 hsu.2
  clear he
  go_wp2_with fail
  clear o1 o2
  -- a sum turned
  refine (Sum_any [s, t] [(A, B), (C, D)] 2 (some ⟨w1.heap.size, 0, none⟩) (w1.heap.size + 1) 2 _ (Sl.freshAt w1 #[.complex .f64 _ _, .complex .f64 _ _] _ rfl (Nat.lt_succ_self _) rfl rfl) rfl (by omega) ((Are.nil.snoc hs).snoc ht) ?_).mono ?_
  · intro k
    rw [two_Bi]
    match k with
    | 0 => simp [sum1, sum2]
    | 1 => simp [sum1, sum2]; omega
    | k + 2 =>
      have e : ∀ a b : Int × Int, [a, b].take (k + 2) = [a, b] := fun a b => by simp
      rw [e]
      simp [sum1, sum2]; omega
  rintro e w' ⟨z, rfl, hz, rfl⟩
  have e1 : sum1 [(A, B), (C, D)] = A + C := by simp [sum1]
  have e2 : sum2 [(A, B), (C, D)] = B + D := by simp [sum2]
  rw [e1, e2] at hz
  clear e1 e2
  go_wp2_with fail
  refine (Turn_W z _ m _ hz).mono ?_
  rintro e w' ⟨zm, rfl, hzm, rfl⟩
  go_wp2_with fail
  refine (Turn_W s (A, B) m _ hs).mono ?_
  rintro e w' ⟨sm', rfl, hsm', rfl⟩
  go_wp2_with fail
  refine (Turn_W t (C, D) m _ ht).mono ?_
  rintro e w' ⟨tm, rfl, htm, rfl⟩
  have hA := turnI_small (m % 4).toNat (A, B) 1099511627776 (by simp; omega) (by simp; omega)
  have hC := turnI_small (m % 4).toNat (C, D) 1099511627776 (by simp; omega) (by simp; omega)
  have hS := turnI_sum (m % 4).toNat (A, B) (C, D)
  have hzm' : IsW2 zm (turnI (m % 4).toNat ((A, B).1 + (C, D).1, (A, B).2 + (C, D).2)) := hzm
  rw [hS] at hzm'
  generalize turnI (m % 4).toNat (A, B) = P at *
  generalize turnI (m % 4).toNat (C, D) = Q at *
  clear hS hzm hsmn hsu
  go_wp2_with fail
  refine (Sum_any [sm', tm] [P, Q] 2 (some ⟨w1.heap.size + 1, 0, none⟩) (w1.heap.size + 2) 2 _ (Sl.freshAt (w1.alloc _) #[.complex .f64 _ _, .complex .f64 _ _] _ (by simp) (by omega) rfl rfl) rfl (by omega) ((Are.nil.snoc hsm').snoc htm) ?_).mono ?_
  · intro k
    rw [two_Bi]
    match k with
    | 0 => simp [sum1, sum2]
    | 1 => simp [sum1, sum2]; omega
    | k + 2 =>
      have e : ∀ a b : Int × Int, [a, b].take (k + 2) = [a, b] := fun a b => by simp
      rw [e]
      simp [sum1, sum2]; omega
  rintro e w' ⟨y, rfl, hy, rfl⟩
  have e1 : sum1 [P, Q] = P.1 + Q.1 := by simp [sum1]
  have e2 : sum2 [P, Q] = P.2 + Q.2 := by simp [sum2]
  rw [e1, e2] at hy
  have o1 := same_word hzm'.1 hy.1
  have o2 := same_word hzm'.2 hy.2
  clear e1 e2
  go_wp2_with fail
  go_ret
  exact ⟨rfl, (hbel.trans (((Below.refl _ _).alloc hbel.size _).alloc (by have := hbel.size; simp; omega) _))⟩
end Go.Proofs.Ytgeapfnodngjlaa
