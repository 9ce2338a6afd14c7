/- Contracts of layer 3 (wire) and of its reference: the small functions of cursors and slices. -/
import Derived.Test.YtgijhfdlecdijaaRows
import Derived.Test.YtgijhfdlecdijaaBytes
import Derived.Test.YtgijhfdlecdijaaWireM
import Derived.WalkKit
import Derived.ProofKit
import Derived.WalkLawsBesides
import Derived.Lib.Hide
import Derived.Lib.SliceRun
namespace Go.Proofs.Ytgijhfdlecdijaa
open Go.ChangeShapes Go.WideShapes Go.ChangeAt Go.RowKit Fb

/-- a cursor is right -/
def Rgt (n : Nat) (at_ er : Int) : Prop := er = 0 ∧ 0 ≤ at_ ∧ at_ ≤ n

set_option maxHeartbeats 1000000 in
theorem right_yes {A : Option Addr} {n c : Nat} {p er : Int} (h : Rgt n p er) (w : World) :
    Calls Try.prog 41 #[.agg #[.slice A n c, .int .i64 p, .int .i64 er]] w fun e w' => e = .returned (.bool true) ∧ w.alloc (.cells #[.slice A n c, .int .i64 p, .int .i64 er] 59) = w' := by
  obtain ⟨rfl, h1, h2⟩ := h
  go_enter Try.func41, Try.ntmps41
  go_wp2
  go_ret
  exact ⟨rfl, rfl⟩
set_option maxHeartbeats 1000000 in
theorem right_no {A : Option Addr} {n c : Nat} {p er : Int} (h : ¬ Rgt n p er) (w : World) :
    Calls Try.prog 41 #[.agg #[.slice A n c, .int .i64 p, .int .i64 er]] w fun e w' => e = .returned (.bool false) ∧ w.alloc (.cells #[.slice A n c, .int .i64 p, .int .i64 er] 59) = w' := by
  unfold Rgt at h
  by_cases h0 : er = 0
  · subst h0
    by_cases h1 : p < 0
    · clear h
      go_enter Try.func41, Try.ntmps41
      go_wp2
      go_ret
      exact ⟨rfl, rfl⟩
    · have h2 : decide (p ≤ (n : Int)) = false := by simp; omega
      have h3 : 0 ≤ p := by omega
      clear h h1
      go_enter Try.func41, Try.ntmps41
      go_wp2
      go_ret
      exact ⟨by first | rfl | simp [h2], rfl⟩
  · clear h
    go_enter Try.func41, Try.ntmps41
    go_wp2
    go_ret
    exact ⟨rfl, rfl⟩


set_option maxHeartbeats 1000000 in
theorem stay_any {A : Option Addr} {n c : Nat} {p er e2 e3 : Int} (h : (if er = 0 then e2 else er) = e3) (w : World) :
    Calls Try.prog 42 #[.agg #[.slice A n c, .int .i64 p, .int .i64 er], .int .i64 e2] w fun e w' => e = .returned (.agg #[.slice A n c, .int .i64 p, .int .i64 e3]) ∧ Below w.heap.size w w' := by
  by_cases h0 : er = 0
  · subst h0
    rw [if_pos rfl] at h
    subst h
    go_enter Try.func42, Try.ntmps42
    go_wp2
    refine bodyPost_ret (v := .agg #[.slice A n c, .int .i64 p, .int .i64 e2]) (by simp [results, Try.results42, go_sem]) rfl ⟨rfl, ?_⟩
    repeat (first | exact Below.refl _ _ | refine Below.setCell ?_ (by simp) _ | refine Below.alloc ?_ (by simp) _)
  · rw [if_neg h0] at h
    subst h
    go_enter Try.func42, Try.ntmps42
    go_wp2
    refine bodyPost_ret (v := .agg #[.slice A n c, .int .i64 p, .int .i64 er]) (by simp [results, Try.results42, go_sem]) rfl ⟨rfl, ?_⟩
    repeat (first | exact Below.refl _ _ | refine Below.setCell ?_ (by simp) _ | refine Below.alloc ?_ (by simp) _)
set_option maxHeartbeats 1000000 in
theorem Left_yes {A : Option Addr} {n c : Nat} {p er : Int} (h : Rgt n p er) (hn : n ≤ 9223372036854775807) (w : World) :
    Calls Try.prog 55 #[.agg #[.slice A n c, .int .i64 p, .int .i64 er]] w fun e w' => e = .returned (.int .i64 (n - p)) ∧ Below w.heap.size w w' := by
  have h1 := h.2.1
  have h2 := h.2.2
  go_enter Try.func55, Try.ntmps55
  go_wp2_with fail
  refine (right_yes h _).mono ?_
  rintro e w' ⟨rfl, rfl⟩
  go_wp2
  go_ret
  refine ⟨rfl, ?_⟩
  repeat (first | exact Below.refl _ _ | refine Below.setCell ?_ (by simp) _ | refine Below.alloc ?_ (by simp) _)
set_option maxHeartbeats 1000000 in
theorem Left_no {A : Option Addr} {n c : Nat} {p er : Int} (h : ¬ Rgt n p er) (w : World) :
    Calls Try.prog 55 #[.agg #[.slice A n c, .int .i64 p, .int .i64 er]] w fun e w' => e = .returned (.int .i64 0) ∧ Below w.heap.size w w' := by
  go_enter Try.func55, Try.ntmps55
  go_wp2_with fail
  refine (right_no h _).mono ?_
  rintro e w' ⟨rfl, rfl⟩
  go_wp2
  go_ret
  refine ⟨rfl, ?_⟩
  repeat (first | exact Below.refl _ _ | refine Below.setCell ?_ (by simp) _ | refine Below.alloc ?_ (by simp) _)

set_option maxHeartbeats 1000000 in
theorem Start_any (A : Option Addr) (n c : Nat) (w : World) :
    Calls Try.prog 27 #[.slice A n c] w fun e w' => e = .returned (.agg #[.slice A n c, .int .i64 0, .int .i64 0]) ∧ Below w.heap.size w w' := by
  go_enter Try.func27, Try.ntmps27
  go_wp2
  refine bodyPost_ret (v := .agg #[.slice A n c, .int .i64 0, .int .i64 0]) (by simp [results, Try.results27, go_sem]) rfl ⟨rfl, ?_⟩
  repeat (first | exact Below.refl _ _ | refine Below.setCell ?_ (by simp) _ | refine Below.alloc ?_ (by simp) _)

/-- what the seeking of a byte answers -/
def fiI (zs : List Int) : Int := if fi zs = zs.length then -1 else (fi zs : Int)
set_option maxHeartbeats 1000000 in
set_option maxRecDepth 100000 in
theorem index_any {A : Option Addr} {n c B : Nat} {zs : List Int} {w : World} (hS : Sl w B A n (by8 zs)) (hn : zs.length ≤ 1000000) :
    Calls Try.prog 49 #[.slice A n c, .func (.func 50) #[] #[]] w fun e w' => e = .returned (.int .i64 (fiI zs)) ∧ w = w' := by
  have hl : n = zs.length := by have := hS.len; rw [by8_len] at this; exact this.symm
  subst hl
  go_enter Try.func49, Try.ntmps49
  go_wp2
  go_loop [8] (fun i => ∃ k : Nat, k ≤ zs.length ∧ k ≤ fi zs ∧ i = .int .i64 k) (fun i => zs.length - (intOf i).toNat)
  case atStart => exact ⟨0, Nat.zero_le _, Nat.zero_le _, rfl⟩
  case round =>
    obtain ⟨k, hk, hf, rfl⟩ := hrel
    by_cases hlt : k < zs.length
    · obtain ⟨b, o, u, rfl, hb, hu, hc⟩ := hS.get (k := k) hlt
      obtain rfl : u = .int .u8 zs[k] := by
        simp only [by8, List.getElem?_map, List.getElem?_eq_getElem hlt, Option.map_some, Option.some.injEq] at hu
        exact hu.symm
      have hnx := fun h => fi_next hlt hf h
      have hre := fun h => fi_here hlt hf h
      generalize zs[k] = x at *
      have NX := hid hnx
      have RE := hid hre
      clear hnx hre hu
      by_cases hx : x < 128
      · go_wp2
        go_ret
        have := RE.out hx
        exact ⟨ret_int8 (by rw [fiI, if_neg (by omega)]; omega), rfl⟩
      · have hx' : 128 ≤ x := by omega
        clear hx
        go_wp2
        go_round
        case rel => exact ⟨k + 1, by omega, NX.out hx', by go_num⟩
        case measure => simp [intOf]; omega
    · go_wp2
      go_ret
      have := fi_le zs
      exact ⟨ret_int8 (by rw [fiI, if_pos (by omega)]), rfl⟩

theorem take_min {A : Option Addr} {n B : Nat} {zs : List Int} {w : World} (hS : Sl w B A n (by8 zs)) : ∃ m, m = min n 10 ∧ Sl w B A m (by8 (zs.take 10)) ∧ m = (zs.take 10).length := by
  have hl : n = zs.length := by have := hS.len; rw [by8_len] at this; exact this.symm
  refine ⟨min n 10, rfl, ?_, by rw [List.length_take, hl]; omega⟩
  have := hS.take (k := min n 10) (Nat.min_le_left _ _)
  have e : (by8 zs).take (min n 10) = by8 (zs.take 10) := by
    unfold by8
    rw [← List.map_take, hl]
    rcases Nat.le_total zs.length 10 with h | h
    · rw [Nat.min_eq_left h, List.take_of_length_le (Nat.le_refl _), List.take_of_length_le h]
    · rw [Nat.min_eq_right h]
  rw [e] at this; exact this
set_option maxHeartbeats 2000000 in
set_option maxRecDepth 100000 in
theorem number_ok {A : Option Addr} {n c B : Nat} {zs : List Int} {w : World} (hS : Sl w B A n (by8 zs)) (hn : n ≤ 1000000) (hc : n ≤ c) (hcm : c ≤ maxLen) (hE : uE (zs.take 10) = 0) :
    Calls Try.prog 43 #[.slice A n c] w fun e w' => e = .returned (.tuple #[.slice A (fi (zs.take 10) + 1) c, .int .i64 0]) ∧ w = w' := by
  unfold maxLen at hcm
  obtain ⟨m, hm, hST, hml⟩ := take_min hS
  have hlt := uE_lt hE
  have hno := uE_no hE
  have hidx := index_any (c := c) hST (by rw [List.length_take]; omega)
  have hfi : fiI (zs.take 10) = (fi (zs.take 10) : Int) := by unfold fiI; rw [if_neg (by omega)]
  rw [hfi] at hidx
  generalize zs.take 10 = b at *
  have hk : fi b < m := by omega
  obtain ⟨g, o, u, rfl, hb, hu, hcell⟩ := hST.get hk
  obtain rfl : u = .int .u8 (b[fi b]?.getD 0) := by
    simp only [by8, List.getElem?_map, List.getElem?_eq_getElem hlt, Option.map_some, Option.some.injEq] at hu
    rw [List.getElem?_eq_getElem hlt]; exact hu.symm
  have hat := fi_at b hlt
  have hx : b[fi b]?.getD 0 < 128 := by rw [List.getElem?_eq_getElem hlt]; exact hat
  clear hS hST hml hu hlt hfi hE hat
  generalize fi b = k at *
  generalize b[k]?.getD 0 = x at *
  have hm10 : m ≤ 10 := by omega
  have hcs : (k = 0) ∨ (0 < k ∧ k < 9 ∧ x ≠ 0) ∨ (k = 9 ∧ x ≤ 1 ∧ x ≠ 0) := by omega
  clear hno
  by_cases h10 : n ≤ 10
  · obtain rfl : m = n := by omega
    clear hm
    rcases hcs with rfl | ⟨h1, h2, h3⟩ | ⟨rfl, h2, h3⟩
    all_goals
      go_enter Try.func43, Try.ntmps43
      go_wp2_with fail
      refine hidx.mono ?_
      rintro e w' ⟨rfl, rfl⟩
      go_wp2
      go_ret2
      exact ⟨rfl, rfl⟩
  · obtain rfl : m = 10 := by omega
    clear hm
    rcases hcs with rfl | ⟨h1, h2, h3⟩ | ⟨rfl, h2, h3⟩
    all_goals
      go_enter Try.func43, Try.ntmps43
      go_wp2_with fail
      refine hidx.mono ?_
      rintro e w' ⟨rfl, rfl⟩
      go_wp2
      go_ret2
      exact ⟨rfl, rfl⟩
set_option maxHeartbeats 2000000 in
set_option maxRecDepth 100000 in
theorem number_no {A : Option Addr} {n c B : Nat} {zs : List Int} {w : World} (hS : Sl w B A n (by8 zs)) (hn : n ≤ 1000000) (hc : n ≤ c) (hcm : c ≤ maxLen) (hE : uE (zs.take 10) ≠ 0) :
    Calls Try.prog 43 #[.slice A n c] w fun e w' => e = .returned (.tuple #[.slice none 0 0, .int .i64 (uE (zs.take 10))]) ∧ w = w' := by
  unfold maxLen at hcm
  obtain ⟨m, hm, hST, hml⟩ := take_min hS
  have hidx := index_any (c := c) hST (by rw [List.length_take]; omega)
  generalize zs.take 10 = b at *
  by_cases hlt : fi b = b.length
  · have hfi : fiI b = -1 := by unfold fiI; rw [if_pos hlt]
    rw [hfi] at hidx
    have hr : (uE b = 10 ∧ m < 10) ∨ (uE b = 11 ∧ ¬ m < 10) := by
      unfold uE; rw [if_pos hlt, ← hml]
      by_cases h : m < 10
      · left; rw [if_pos h]; exact ⟨rfl, h⟩
      · right; rw [if_neg h]; exact ⟨rfl, h⟩
    clear hS hST hml hlt hfi
    rcases hr with ⟨hr, hm9⟩ | ⟨hr, hm9⟩
    · obtain rfl : m = n := by omega
      clear hm
      rw [hr]
      go_enter Try.func43, Try.ntmps43
      go_wp2_with fail
      refine hidx.mono ?_
      rintro e w' ⟨rfl, rfl⟩
      go_wp2
      go_ret2
      exact ⟨rfl, rfl⟩
    · obtain rfl : m = 10 := by omega
      rw [hr]
      have h10 : 10 ≤ n := by omega
      clear hm hm9 hr
      rcases Nat.lt_or_ge 10 n with h11 | h11
      · go_enter Try.func43, Try.ntmps43
        go_wp2_with fail
        refine hidx.mono ?_
        rintro e w' ⟨rfl, rfl⟩
        go_wp2
        go_ret2
        exact ⟨rfl, rfl⟩
      · obtain rfl : n = 10 := by omega
        go_enter Try.func43, Try.ntmps43
        go_wp2_with fail
        refine hidx.mono ?_
        rintro e w' ⟨rfl, rfl⟩
        go_wp2
        go_ret2
        exact ⟨rfl, rfl⟩
  · have hlt2 : fi b < b.length := by have := fi_le b; omega
    have hfi : fiI b = (fi b : Int) := by unfold fiI; rw [if_neg hlt]
    rw [hfi] at hidx
    have hr : uE b = 11 ∧ ((fi b = 9 ∧ 1 < b[fi b]?.getD 0) ∨ (0 < fi b ∧ b[fi b]?.getD 0 = 0)) := by
      unfold uE at hE ⊢
      rw [if_neg hlt] at hE ⊢
      by_cases h : (fi b = 9 ∧ 1 < b[fi b]?.getD 0) ∨ (0 < fi b ∧ b[fi b]?.getD 0 = 0)
      · rw [if_pos h]; exact ⟨rfl, h⟩
      · rw [if_neg h] at hE; exact absurd rfl hE
    obtain ⟨hr1, hr2⟩ := hr
    rw [hr1]
    have hk : fi b < m := by omega
    obtain ⟨g, o, u, rfl, hb, hu, hcell⟩ := hST.get hk
    obtain rfl : u = .int .u8 (b[fi b]?.getD 0) := by
      simp only [by8, List.getElem?_map, List.getElem?_eq_getElem hlt2, Option.map_some, Option.some.injEq] at hu
      rw [List.getElem?_eq_getElem hlt2]; exact hu.symm
    clear hS hST hml hu hlt hlt2 hfi hE hr1
    generalize fi b = k at *
    generalize b[k]?.getD 0 = x at *
    have hm10 : m ≤ 10 := by omega
    have hcs : (k = 9 ∧ 1 < x) ∨ (0 < k ∧ k < 9 ∧ x = 0) ∨ (k = 9 ∧ x = 0) := by omega
    clear hr2
    by_cases h10 : n ≤ 10
    · obtain rfl : m = n := by omega
      clear hm
      rcases hcs with ⟨rfl, h3⟩ | ⟨h1, h2, rfl⟩ | ⟨rfl, rfl⟩
      all_goals
        go_enter Try.func43, Try.ntmps43
        go_wp2_with fail
        refine hidx.mono ?_
        rintro e w' ⟨rfl, rfl⟩
        go_wp2
        go_ret2
        exact ⟨rfl, rfl⟩
    · obtain rfl : m = 10 := by omega
      clear hm
      rcases hcs with ⟨rfl, h3⟩ | ⟨h1, h2, rfl⟩ | ⟨rfl, rfl⟩
      all_goals
        go_enter Try.func43, Try.ntmps43
        go_wp2_with fail
        refine hidx.mono ?_
        rintro e w' ⟨rfl, rfl⟩
        go_wp2
        go_ret2
        exact ⟨rfl, rfl⟩

end Go.Proofs.Ytgijhfdlecdijaa
