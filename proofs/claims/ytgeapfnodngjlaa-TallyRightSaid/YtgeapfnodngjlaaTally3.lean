/- Contracts of layer 2: Beat, and the reference. -/
import Derived.Test.YtgeapfnodngjlaaTally2
namespace Go.Proofs.Ytgeapfnodngjlaa
open Go.ChangeShapes Go.WideShapes Go.ChangeAt Go.RowKit Fb

theorem hold_both (n : Int) : 0 ≤ holdI n ∧ holdI n ≤ 1099511627776 := ⟨hold_lo n, hold_hi n⟩
set_option maxHeartbeats 1000000 in
theorem Beat_any (l : List Int) (n : Nat) (hn : l.length = n) (A : Option Addr) (B c : Nat) (w : World) (h : Sl w B A n (ints l)) (hB : B ≤ w.heap.size) (hm : n ≤ 9223372036854775807) :
    Calls Try.prog 14 #[.slice A n c] w fun e w' => e = .returned (.tuple #[.int .i64 (beatI holdI l).1, .int .i64 (beatI holdI l).2]) ∧ Below w.heap.size w w' := by
  have Hn := hid hn
  clear hn
  by_cases hl : 4096 < n
  · have hr : Hid (beatI holdI l = (0, 0)) := by show _ = _; unfold beatI; rw [if_pos (by rw [Hn.out]; exact hl)]
    go_enter Try.func14, Try.ntmps14
    go_wp2
    go_ret2
    exact ⟨by rw [hr.out]; rfl, Below.refl _ _⟩
  · have hr : Hid (beatI holdI l = (sum1 (beatL holdI l), sum2 (beatL holdI l))) := by show _ = _; unfold beatI; rw [if_neg (by rw [Hn.out]; exact hl)]
    go_enter Try.func14, Try.ntmps14
    go_wp2
    go_loopw [4, 12] (fun s i wr => ∃ (k : Nat) (p : Nat × Nat), k ≤ n ∧ i = .int .i64 k ∧ s = .complex .f64 p.1 p.2 ∧ IsW2 p (sum1 ((beatL holdI l).take k), sum2 ((beatL holdI l).take k)) ∧ Below w.heap.size w wr) (fun _ i _ => n - (intOf i).toNat)
    case atStart => exact ⟨0, (0, 0), Nat.zero_le _, rfl, rfl, by simpa [sum1, sum2] using ⟨isW_zero, isW_zero⟩, Below.refl _ _⟩
    case round =>
      obtain ⟨k, p, hk, rfl, rfl, hp, hbw⟩ := hrel
      have hn := Hn.out
      by_cases hlt : k < n
      · obtain ⟨b, o, u, hA, hbB, hu, hc⟩ := (h.below (hbw.mono hB)).get hlt
        have hkl : k < l.length := by omega
        have hu' : u = .int .i64 l[k] := by
          unfold ints at hu; simp [List.getElem?_map, List.getElem?_eq_getElem hkl] at hu; exact hu.symm
        subst hu' hA
        have hkb : k < (beatL holdI l).length := by rw [beatL_len]; exact hkl
        have hv := hold_both l[k]
        have hsm := beat_small holdI hold_both l
        have hle : l.length * 1099511627776 ≤ 4096 * 1099511627776 := Nat.mul_le_mul_right _ (by omega)
        -- the turned number
        have ht := (ofW_is l[k] 0).turn k
        have ht' : turnI k (holdI l[k], holdI 0) = (beatL holdI l)[k] := by rw [beatL_get holdI l k hkb hkl]; rfl
        have htm : turnW (((k : Int) % 4).toNat) (ofW l[k] 0) = turnW (k % 4) (ofW l[k] 0) := by rw [show (((k : Int) % 4).toNat) = k % 4 by omega]
        have ht4 := (ofW_is l[k] 0).turn (k % 4)
        rw [turnI_mod, ht', ← htm] at ht4
        clear ht ht' htm
        have hs1 := sum1_snoc (beatL holdI l) k hkb
        have hs2 := sum2_snoc (beatL holdI l) k hkb
        have hAre : Are [p, turnW (((k : Int) % 4).toNat) (ofW l[k] 0)] [(sum1 ((beatL holdI l).take k), sum2 ((beatL holdI l).take k)), (beatL holdI l)[k]] := by
          have := (Are.nil.snoc hp).snoc ht4
          exact this
        have hbnd : ∀ j, (sum1 ([(sum1 ((beatL holdI l).take k), sum2 ((beatL holdI l).take k)), (beatL holdI l)[k]].take j)).natAbs ≤ 2 * Bi ∧ (sum2 ([(sum1 ((beatL holdI l).take k), sum2 ((beatL holdI l).take k)), (beatL holdI l)[k]].take j)).natAbs ≤ 2 * Bi := by
          rw [two_Bi]
          have h1 := hsm k
          have h2 := hsm (k + 1)
          rw [hs1, hs2] at h2
          intro j
          match j with
          | 0 => simp [sum1, sum2]
          | 1 => simp [sum1, sum2] at h1 ⊢; omega
          | j + 2 =>
            have e : ∀ a b : Int × Int, [a, b].take (j + 2) = [a, b] := fun a b => by simp
            rw [e]
            have e1 : ∀ a b : Int × Int, sum1 [a, b] = a.1 + b.1 := fun a b => by simp [sum1]
            have e2 : ∀ a b : Int × Int, sum2 [a, b] = a.2 + b.2 := fun a b => by simp [sum2]
            rw [e1, e2]
            omega
        have hrel' : ∀ q, IsW2 q (sum1 [(sum1 ((beatL holdI l).take k), sum2 ((beatL holdI l).take k)), (beatL holdI l)[k]], sum2 [(sum1 ((beatL holdI l).take k), sum2 ((beatL holdI l).take k)), (beatL holdI l)[k]]) →
            IsW2 q (sum1 ((beatL holdI l).take (k + 1)), sum2 ((beatL holdI l).take (k + 1))) := fun q hq => by
          have e1 : ∀ a b : Int × Int, sum1 [a, b] = a.1 + b.1 := fun a b => by simp [sum1]
          have e2 : ∀ a b : Int × Int, sum2 [a, b] = a.2 + b.2 := fun a b => by simp [sum2]
          rw [e1, e2] at hq
          rw [hs1, hs2]; exact hq
        have Hrel := hid hrel'
        have Hbnd := hid hbnd
        have HAre := hid hAre
        clear hrel' hbnd hAre hs1 hs2 hsm hle ht4 hp hv hn
        generalize (beatL holdI l)[k] = v at *
        generalize (sum1 ((beatL holdI l).take k), sum2 ((beatL holdI l).take k)) = v0 at *
        go_wp2_with fail
        refine (Of_any _ _ _).mono ?_
        rintro e w' ⟨rfl, rfl⟩
        go_wp2_with fail
        refine (Turn_any _ _ _ _).mono ?_
        rintro e w' ⟨rfl, rfl⟩
        go_wp2_with fail
        refine (Sum_any [p, turnW (((k : Int) % 4).toNat) (ofW l[k] 0)] [v0, v] 2 (some ⟨wr.heap.size, 0, none⟩) (wr.heap.size + 1) 2 _ (Sl.fresh wr #[.complex .f64 p.1 p.2, .complex .f64 _ _] _ (Nat.lt_succ_self _)) rfl (by omega) HAre.out Hbnd.out).mono ?_
        rintro e w' ⟨q, rfl, hq, rfl⟩
        have Hq := hid (Hrel.out q hq)
        clear hq
        go_wp2_with fail
        go_roundw
        case rel => exact ⟨k + 1, q, by omega, by go_num, rfl, Hq.out, hbw.alloc hbw.size _⟩
        case measure => simp [intOf]; omega
      · have hk' : k = n := by omega
        have hp' : IsW2 (p.1, p.2) (sum1 (beatL holdI l), sum2 (beatL holdI l)) := by
          rw [List.take_of_length_le (by rw [beatL_len]; omega)] at hp; exact hp
        have hsm := beat_small holdI hold_both l n
        have hle : l.length * 1099511627776 ≤ 4096 * 1099511627776 := Nat.mul_le_mul_right _ (by omega)
        rw [List.take_of_length_le (by rw [beatL_len]; omega)] at hsm
        have Hp := hid hp'
        have hb1 := hid (show (sum1 (beatL holdI l)).natAbs ≤ 2 * Bi by rw [two_Bi]; omega)
        have hb2 := hid (show (sum2 (beatL holdI l)).natAbs ≤ 2 * Bi by rw [two_Bi]; omega)
        clear hp hp' hsm hle hk' hn
        go_wp2_with fail
        refine (Parts_W p.1 p.2 _ _ _ Hp.out hb1.out hb2.out).mono ?_
        rintro e w' ⟨rfl, rfl⟩
        go_wp2_with fail
        go_ret2
        exact ⟨by rw [hr.out]; rfl, hbw⟩
set_option maxHeartbeats 1000000 in
theorem RTurn_any (a b : Int) (q : Int) (w : World) (ha : a.natAbs ≤ 9007199254740992) (hb : b.natAbs ≤ 9007199254740992) :
    Calls Try.prog 12 #[.int .i64 a, .int .i64 b, .int .i64 q] w fun e w' => e = .returned (.tuple #[.int .i64 (turnI (q % 4).toNat (a, b)).1, .int .i64 (turnI (q % 4).toNat (a, b)).2]) ∧ w = w' := by
  obtain ⟨m, hm, hm4⟩ : ∃ m : Nat, (m : Int) = q % 4 ∧ m < 4 := ⟨(q % 4).toNat, by omega, by omega⟩
  have hmt : (q % 4).toNat = m := by omega
  rw [hmt]
  clear hmt
  have hsm := fun k => turnI_small k (a, b) 9007199254740992 ha hb
  have Hsm := hid hsm
  clear hsm ha hb
  have ht1 : -4 < q.tmod 4 := by
    have := Int.lt_tmod_of_pos q (b := 4) (by omega); omega
  have ht2 : q.tmod 4 < 4 := Int.tmod_lt_of_pos q (by omega)
  have ht3 : 0 ≤ q → q.tmod 4 = q % 4 := fun h => Int.tmod_eq_emod_of_nonneg h
  have ht4 : q.tmod 4 < 0 → q.tmod 4 + 4 = m := fun h => by
    have := Int.mul_tdiv_add_tmod q 4
    omega
  have ht5 : ¬ q.tmod 4 < 0 → q.tmod 4 = m := fun h => by
    have := Int.mul_tdiv_add_tmod q 4
    omega
  have Hm := hid hm
  have Ht4 := hid ht4
  have Ht5 := hid ht5
  clear hm ht3 ht4 ht5
  by_cases hr : q.tmod 4 < 0
  · have e := hid (Ht4.out hr)
    by_cases hq : 0 ≤ q
    · exact absurd hr (by rw [Int.tmod_eq_emod_of_nonneg hq]; omega)
    · go_enter Try.func12, Try.ntmps12
      go_wp2
      rw [e.out]
      go_loop [0, 1, 9] (fun x y i => ∃ k : Nat, k ≤ m ∧ i = .int .i64 k ∧ x = .int .i64 (turnI k (a, b)).1 ∧ y = .int .i64 (turnI k (a, b)).2) (fun _ _ i => m - (intOf i).toNat)
      case atStart => exact ⟨0, Nat.zero_le _, rfl, rfl, rfl⟩
      case round =>
        obtain ⟨k, hk, rfl, rfl, rfl⟩ := hrel
        by_cases hlt : k < m
        · have h1 := (Hsm.out k).2
          have h2 : -9007199254740992 ≤ (turnI k (a, b)).2 := by omega
          have h3 : (turnI k (a, b)).2 ≤ 9007199254740992 := by omega
          clear h1
          go_wp2
          go_round
          case rel => exact ⟨k + 1, by omega, by go_num, rfl, rfl⟩
          case measure => simp [intOf]; omega
        · obtain rfl : k = m := by omega
          go_wp2
          go_ret2
          exact ⟨rfl, rfl⟩
  · have e := hid (Ht5.out hr)
    by_cases hq : 0 ≤ q
    · have e' : Hid (q % 4 = m) := Hm.out.symm
      go_enter Try.func12, Try.ntmps12
      go_wp2
      rw [e'.out]
      go_loop [0, 1, 9] (fun x y i => ∃ k : Nat, k ≤ m ∧ i = .int .i64 k ∧ x = .int .i64 (turnI k (a, b)).1 ∧ y = .int .i64 (turnI k (a, b)).2) (fun _ _ i => m - (intOf i).toNat)
      case atStart => exact ⟨0, Nat.zero_le _, rfl, rfl, rfl⟩
      case round =>
        obtain ⟨k, hk, rfl, rfl, rfl⟩ := hrel
        by_cases hlt : k < m
        · have h1 := (Hsm.out k).2
          have h2 : -9007199254740992 ≤ (turnI k (a, b)).2 := by omega
          have h3 : (turnI k (a, b)).2 ≤ 9007199254740992 := by omega
          clear h1
          go_wp2
          go_round
          case rel => exact ⟨k + 1, by omega, by go_num, rfl, rfl⟩
          case measure => simp [intOf]; omega
        · obtain rfl : k = m := by omega
          go_wp2
          go_ret2
          exact ⟨rfl, rfl⟩
    · go_enter Try.func12, Try.ntmps12
      go_wp2
      rw [e.out]
      go_loop [0, 1, 9] (fun x y i => ∃ k : Nat, k ≤ m ∧ i = .int .i64 k ∧ x = .int .i64 (turnI k (a, b)).1 ∧ y = .int .i64 (turnI k (a, b)).2) (fun _ _ i => m - (intOf i).toNat)
      case atStart => exact ⟨0, Nat.zero_le _, rfl, rfl, rfl⟩
      case round =>
        obtain ⟨k, hk, rfl, rfl, rfl⟩ := hrel
        by_cases hlt : k < m
        · have h1 := (Hsm.out k).2
          have h2 : -9007199254740992 ≤ (turnI k (a, b)).2 := by omega
          have h3 : (turnI k (a, b)).2 ≤ 9007199254740992 := by omega
          clear h1
          go_wp2
          go_round
          case rel => exact ⟨k + 1, by omega, by go_num, rfl, rfl⟩
          case measure => simp [intOf]; omega
        · obtain rfl : k = m := by omega
          go_wp2
          go_ret2
          exact ⟨rfl, rfl⟩
theorem turn_by (k : Nat) (n : Int) : turnI k (n, 0) = if k % 4 = 0 then (n, 0) else if k % 4 = 1 then (0, n) else if k % 4 = 2 then (-n, 0) else (0, -n) := by
  rw [← turnI_mod]
  obtain h | h | h | h : k % 4 = 0 ∨ k % 4 = 1 ∨ k % 4 = 2 ∨ k % 4 = 3 := by omega
  all_goals rw [h]; simp [turnI, i1]
set_option maxHeartbeats 1000000 in
theorem RBeat_any (l : List Int) (n : Nat) (hn : l.length = n) (A : Option Addr) (B c : Nat) (w : World) (h : Sl w B A n (ints l)) (hm : n ≤ 9223372036854775807) :
    Calls Try.prog 15 #[.slice A n c] w fun e w' => e = .returned (.tuple #[.int .i64 (beatI holdI l).1, .int .i64 (beatI holdI l).2]) ∧ w = w' := by
  have Hn := hid hn
  clear hn
  by_cases hl : 4096 < n
  · have hr : Hid (beatI holdI l = (0, 0)) := by show _ = _; unfold beatI; rw [if_pos (by rw [Hn.out]; exact hl)]
    go_enter Try.func15, Try.ntmps15
    go_wp2
    go_ret2
    exact ⟨by rw [hr.out]; rfl, rfl⟩
  · have hr : Hid (beatI holdI l = (sum1 (beatL holdI l), sum2 (beatL holdI l))) := by show _ = _; unfold beatI; rw [if_neg (by rw [Hn.out]; exact hl)]
    go_enter Try.func15, Try.ntmps15
    go_wp2
    go_loop [4, 5, 6] (fun x y i => ∃ k : Nat, k ≤ n ∧ i = .int .i64 k ∧ x = .int .i64 (sum1 ((beatL holdI l).take k)) ∧ y = .int .i64 (sum2 ((beatL holdI l).take k))) (fun _ _ i => n - (intOf i).toNat)
    case atStart => exact ⟨0, Nat.zero_le _, rfl, by simp [sum1], by simp [sum2]⟩
    case round =>
      obtain ⟨k, hk, rfl, rfl, rfl⟩ := hrel
      have hn := Hn.out
      by_cases hlt : k < n
      · obtain ⟨b, o, u, hA, hbB, hu, hc⟩ := h.get hlt
        have hkl : k < l.length := by omega
        have hu' : u = .int .i64 l[k] := by
          unfold ints at hu; simp [List.getElem?_map, List.getElem?_eq_getElem hkl] at hu; exact hu.symm
        subst hu' hA
        have hkb : k < (beatL holdI l).length := by rw [beatL_len]; exact hkl
        have hv1 := hold_lo l[k]
        have hv2 := hold_hi l[k]
        have hsm := beat_small holdI hold_both l k
        have hle : l.length * 1099511627776 ≤ 4096 * 1099511627776 := Nat.mul_le_mul_right _ (by omega)
        have g1 : -4503599627370496 ≤ sum1 ((beatL holdI l).take k) := by omega
        have g2 : sum1 ((beatL holdI l).take k) ≤ 4503599627370496 := by omega
        have g3 : -4503599627370496 ≤ sum2 ((beatL holdI l).take k) := by omega
        have g4 : sum2 ((beatL holdI l).take k) ≤ 4503599627370496 := by omega
        have hs1 := sum1_snoc (beatL holdI l) k hkb
        have hs2 := sum2_snoc (beatL holdI l) k hkb
        rw [beatL_get holdI l k hkb hkl, turn_by] at hs1 hs2
        clear hsm hle hn
        obtain hq | hq | hq | hq : k % 4 = 0 ∨ k % 4 = 1 ∨ k % 4 = 2 ∨ k % 4 = 3 := by omega
        all_goals
          rw [hq] at hs1 hs2
          simp only [if_true, Nat.reduceEqDiff, if_false, Nat.succ_ne_self, reduceIte, Int.add_zero] at hs1 hs2
          have Hs1 := hid hs1
          have Hs2 := hid hs2
          have hqi : (k : Int) % 4 = ((k % 4 : Nat) : Int) := by omega
          rw [hq] at hqi
          clear hs1 hs2 hq
          generalize sum1 ((beatL holdI l).take k) = x at *
          generalize sum2 ((beatL holdI l).take k) = y at *
          go_wp2_with (go_at_call 8; refine (RHold_any _ _).mono ?_; rintro e w' ⟨rfl, rfl⟩)
          go_round
          case rel => exact ⟨k + 1, by omega, by go_num, by first | (rw [Hs1.out]; done) | (rw [Hs1.out]; congr 1 <;> omega), by first | (rw [Hs2.out]; done) | (rw [Hs2.out]; congr 1 <;> omega)⟩
          case measure => simp [intOf]; omega
      · have hk' : k = n := by omega
        have e1 := hid (show sum1 ((beatL holdI l).take k) = sum1 (beatL holdI l) by rw [List.take_of_length_le (by rw [beatL_len]; omega)])
        have e2 := hid (show sum2 ((beatL holdI l).take k) = sum2 (beatL holdI l) by rw [List.take_of_length_le (by rw [beatL_len]; omega)])
        clear hn hk'
        go_wp2
        go_ret2
        exact ⟨by rw [hr.out, e1.out, e2.out]; rfl, rfl⟩
end Go.Proofs.Ytgeapfnodngjlaa
