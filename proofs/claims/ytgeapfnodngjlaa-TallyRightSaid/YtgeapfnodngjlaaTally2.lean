/- Contracts of layer 2's functions (tally), second part, and of their reference. -/
import Derived.Test.YtgeapfnodngjlaaTally
import Derived.Test.YtgeapfnodngjlaaTallyM
namespace Go.Proofs.Ytgeapfnodngjlaa
open Go.ChangeShapes Go.WideShapes Go.ChangeAt Go.RowKit Fb
attribute [local go_sem] run_neg_float run_neg_complex

theorem wholeI_int (n : Int) (h : n.natAbs ≤ 2 * Bi) : wholeI (n * sc) = n := by
  have hs := sc_pos
  unfold wholeI
  have h1 : -((2 * Bi : Nat) : Int) * (sc : Int) ≤ n * sc := Int.mul_le_mul_of_nonneg_right (by omega) (by omega)
  have h2 : n * sc ≤ ((2 * Bi : Nat) : Int) * (sc : Int) := Int.mul_le_mul_of_nonneg_right (by omega) (by omega)
  rw [if_pos ⟨h1, h2, Int.dvd_mul_left _ _⟩]
  exact Int.mul_tdiv_cancel _ (by omega)
theorem two_Bi : 2 * Bi = 9007199254740992 := by rw [Bi_num]
def pairI (a b : Int) : Value := .tuple #[.int .i64 a, .int .i64 b]
theorem ret_pair {a b c d : Int} (h : a = c) (h' : b = d) : Ending.returned (.tuple #[.int .i64 a, .int .i64 b]) = .returned (.tuple #[.int .i64 c, .int .i64 d]) := by rw [h, h']

set_option maxHeartbeats 400000 in
theorem Parts_any (x y : Nat) (u v : Int) (w : World) (hx : Rd x u) (hy : Rd y v) :
    Calls Try.prog 9 #[.complex .f64 x y] w fun e w' => e = .returned (.tuple #[.int .i64 (wholeI u), .int .i64 (wholeI v)]) ∧ w = w' := by
  have Hx := hid hx
  have Hy := hid hy
  clear hx hy
  go_enter Try.func9, Try.ntmps9
  go_wp2_with fail
  refine (whole_any x u _ Hx.out).mono ?_
  rintro e w' ⟨rfl, rfl⟩
  go_wp2_with fail
  refine (whole_any y v _ Hy.out).mono ?_
  rintro e w' ⟨rfl, rfl⟩
  go_wp2_with fail
  go_ret2
  exact ⟨rfl, rfl⟩
theorem Parts_W (x y : Nat) (a b : Int) (w : World) (h : IsW2 (x, y) (a, b)) (ha : a.natAbs ≤ 2 * Bi) (hb : b.natAbs ≤ 2 * Bi) :
    Calls Try.prog 9 #[.complex .f64 x y] w fun e w' => e = .returned (.tuple #[.int .i64 a, .int .i64 b]) ∧ w = w' := by
  have := Parts_any x y _ _ w (.inl h.1) (.inl h.2)
  rw [wholeI_int a ha, wholeI_int b hb] at this
  exact this
/-- the words of a tally of two numbers, each held -/
def ofW (a b : Int) : Nat × Nat := (FloatKind.f64.nearest (holdI a), FloatKind.f64.nearest (holdI b))
theorem ofW_is (a b : Int) : IsW2 (ofW a b) (holdI a, holdI b) := by
  have h1 := hold_lo a; have h2 := hold_hi a; have h3 := hold_lo b; have h4 := hold_hi b
  exact ⟨isW_of_int _ (by rw [two_Bi]; omega), isW_of_int _ (by rw [two_Bi]; omega)⟩
set_option maxHeartbeats 400000 in
theorem Of_any (a b : Int) (w : World) :
    Calls Try.prog 10 #[.int .i64 a, .int .i64 b] w fun e w' => e = .returned (.complex .f64 (ofW a b).1 (ofW a b).2) ∧ w = w' := by
  go_enter Try.func10, Try.ntmps10
  go_wp2_with (go_at_call 17; refine (Hold_any _ _).mono ?_; rintro e w' ⟨rfl, rfl⟩)
  go_ret
  exact ⟨rfl, rfl⟩
set_option maxHeartbeats 400000 in
theorem quarter_any (x y : Nat) (w : World) :
    Calls Try.prog 18 #[.complex .f64 x y] w fun e w' => e = .returned (.complex .f64 (q1 (x, y)).1 (q1 (x, y)).2) ∧ w = w' := by
  go_enter Try.func18, Try.ntmps18
  go_wp2
  go_ret
  exact ⟨rfl, rfl⟩
set_option maxHeartbeats 1000000 in
theorem Turn_any (x y : Nat) (q : Int) (w : World) :
    Calls Try.prog 11 #[.complex .f64 x y, .int .i64 q] w fun e w' => e = .returned (.complex .f64 (turnW (q % 4).toNat (x, y)).1 (turnW (q % 4).toNat (x, y)).2) ∧ w = w' := by
  have hb := bits_and3 q
  have h0 : 0 ≤ q % 4 := by omega
  have h4 : q % 4 < 4 := by omega
  generalize q % 4 = r at *
  obtain ⟨m, rfl⟩ := Int.eq_ofNat_of_zero_le h0
  go_enter Try.func11, Try.ntmps11
  go_wp2
  clear hb
  go_loop [0, 7] (fun t i => ∃ k : Nat, k ≤ m ∧ i = .int .i64 k ∧ t = .complex .f64 (turnW k (x, y)).1 (turnW k (x, y)).2) (fun _ i => m - (intOf i).toNat)
  case atStart => exact ⟨0, Nat.zero_le _, rfl, rfl⟩
  case round =>
    obtain ⟨k, hk, rfl, rfl⟩ := hrel
    by_cases hlt : k < m
    · go_wp2_with (go_at_call 18; refine (quarter_any _ _ _).mono ?_; rintro e w' ⟨rfl, rfl⟩)
      go_round
      case rel => exact ⟨k + 1, by omega, by go_num, rfl⟩
      case measure => simp [intOf]; omega
    · obtain rfl : k = m := by omega
      go_wp2
      go_ret
      exact ⟨rfl, rfl⟩
def cxs (ps : List (Nat × Nat)) : List Value := ps.map fun p => .complex .f64 p.1 p.2
theorem run_cadd (P : Program) (w : World) (t : TypeId) (x y a b r s : Nat) (h1 : Ieee.double.add x a = some r) (h2 : Ieee.double.add y b = some s) :
    (binOp .add t (.complex .f64 x y) (.complex .f64 a b)).run P w = .ok (.complex .f64 r s) w := by
  refine run_complex_sum w .add (.inl rfl) t .f64 x y a b r s ?_
  show (Option.bind (Ieee.double.add x a) fun re => Option.bind (Ieee.double.add y b) fun im => some (re, im)) = _
  rw [h1, h2]; rfl
/-- a call that answers a tally of the parts a and b, and does nothing else -/
def GivesW (w : World) (v : Int × Int) (e : Ending) (w' : World) : Prop := ∃ p : Nat × Nat, e = .returned (.complex .f64 p.1 p.2) ∧ IsW2 p v ∧ w = w'
set_option maxHeartbeats 1000000 in
theorem Sum_any (ps : List (Nat × Nat)) (vs : List (Int × Int)) (n : Nat) (A : Option Addr) (B c : Nat) (w : World) (h : Sl w B A n (cxs ps)) (hn : vs.length = n) (hm : n ≤ 9223372036854775807) (ha : Are ps vs)
    (hs : ∀ k, (sum1 (vs.take k)).natAbs ≤ 2 * Bi ∧ (sum2 (vs.take k)).natAbs ≤ 2 * Bi) :
    Calls Try.prog 13 #[.slice A n c] w (GivesW w (sum1 vs, sum2 vs)) := by
  have Hn := hid hn
  have Hs := hid hs
  clear hn hs
  go_enter Try.func13, Try.ntmps13
  go_wp2
  go_loop [3, 8] (fun s i => ∃ (k : Nat) (p : Nat × Nat), k ≤ n ∧ i = .int .i64 k ∧ s = .complex .f64 p.1 p.2 ∧ IsW2 p (sum1 (vs.take k), sum2 (vs.take k))) (fun _ i => n - (intOf i).toNat)
  case atStart => exact ⟨0, (0, 0), Nat.zero_le _, rfl, rfl, by simpa [sum1, sum2] using ⟨isW_zero, isW_zero⟩⟩
  case round =>
    obtain ⟨k, p, hk, rfl, rfl, hp⟩ := hrel
    have hn := Hn.out
    by_cases hlt : k < n
    · obtain ⟨b, o, u, hA, -, hu, hc⟩ := h.get hlt
      have hl := ha.1
      have hkp : k < ps.length := by omega
      have hu' : u = .complex .f64 ps[k].1 ps[k].2 := by
        unfold cxs at hu; simp [List.getElem?_map, List.getElem?_eq_getElem hkp] at hu; exact hu.symm
      subst hu' hA
      have hpk := ha.2 k hkp (by omega)
      have hs1 := sum1_snoc vs k (by omega)
      have hs2 := sum2_snoc vs k (by omega)
      have hb := Hs.out (k + 1)
      rw [hs1, hs2] at hb
      obtain ⟨r, hr, hr'⟩ := addW hp.1 hpk.1 hb.1
      obtain ⟨s, hs, hs'⟩ := addW hp.2 hpk.2 hb.2
      have hadd := fun w => run_cadd Try.prog w 27 _ _ _ _ r s hr hs
      have Hrel : Hid (IsW2 (r, s) (sum1 (vs.take (k + 1)), sum2 (vs.take (k + 1)))) := by
        show IsW2 _ _
        rw [hs1, hs2]; exact ⟨hr', hs'⟩
      clear hs1 hs2 hb hr hr' hs hs' hpk hl hn hp ha
      go_wp2
      go_round
      case rel => exact ⟨k + 1, (r, s), by omega, by go_num, rfl, Hrel.out⟩
      case measure => simp [intOf]; omega
    · have hk' : k = vs.length := by omega
      have Hp : Hid (IsW2 p (sum1 vs, sum2 vs)) := by
        show IsW2 _ _
        rw [hk', List.take_length] at hp; exact hp
      clear hn hk' hp ha
      go_wp2
      go_ret
      exact ⟨p, rfl, Hp.out, rfl⟩
end Go.Proofs.Ytgeapfnodngjlaa
