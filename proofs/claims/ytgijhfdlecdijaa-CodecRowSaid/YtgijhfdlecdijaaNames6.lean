/- Layer 6: contracts of the reference. -/
import Derived.Test.YtgijhfdlecdijaaNames4
import Derived.RegionTactic
namespace Go.Proofs.Ytgijhfdlecdijaa
open Go.ChangeShapes Go.WideShapes Go.ChangeAt Go.RowKit Fb Go.Maps


set_option maxHeartbeats 2000000 in
theorem RPlace_any {A : Option Addr} {n c B : Nat} {ss : List ByteArray} {w : World} (hS : Sl w B A n (st9 ss)) (hn : n ≤ maxLen) (s : ByteArray) :
    Calls Try.prog 11 #[.slice A n c, .string s] w fun e w' => e = .returned (.int .i64 (plc s ss)) ∧ w = w' := by
  have hl : n = ss.length := by have := hS.len; rw [st9_len] at this; exact this.symm
  subst hl
  unfold maxLen at hn
  go_enter Try.func11, Try.ntmps11
  go_wp2
  go_loop [5] (fun i => ∃ k : Nat, k ≤ ss.length ∧ Hid (∀ j, j < k → ss[j]? ≠ some s) ∧ i = .int .i64 k) (fun i => ss.length - (intOf i).toNat)
  case atStart => exact ⟨0, Nat.zero_le _, hid (fun j hj => absurd hj (by omega)), rfl⟩
  case round =>
    obtain ⟨k, hk, hf, rfl⟩ := hrel
    by_cases hlt : k < ss.length
    · obtain ⟨b, o, u, rfl, hb, hu, hc⟩ := hS.get (k := k) hlt
      obtain rfl : u = .string ss[k] := by
        rw [st9_at hu, List.getElem?_eq_getElem hlt]; rfl
      have hat := hid (List.getElem?_eq_getElem hlt)
      generalize ss[k] = x at *
      clear hu
      by_cases hx : x = s
      · have hq : (x.toList == s.toList) = true := by rw [txt_eq, decide_eq_true hx]
        go_wp2
        go_ret
        have h1 := plc_first s ss k hf.out (by rw [hat.out, hx])
        exact ⟨ret_int (by rw [h1]; omega), rfl⟩
      · have hq : (x.toList == s.toList) = false := by rw [txt_eq, decide_eq_false hx]
        go_wp2
        go_round
        case rel => exact ⟨k + 1, by omega, hid (fun j hj => by
          rcases Nat.lt_or_ge j k with h | h
          · exact hf.out j h
          · obtain rfl : j = k := by omega
            rw [hat.out]
            exact fun e => hx (Option.some.inj e)), by go_num⟩
        case measure => simp [intOf]; omega
    · go_wp2
      go_ret
      have h1 := plc_none s ss (fun j hj => hf.out j (by omega))
      exact ⟨ret_int (by rw [h1]; rfl), rfl⟩

/-- what the reference's loop has seen when k rounds are over -/
def seenR (ss : List ByteArray) (k : Nat) : Prop := k ≤ 32 ∧ ∀ j, j < k → ∀ x, ss[j]? = some x → nmB x = true ∧ plc x ss = j + 1
theorem seenR_next {ss : List ByteArray} {k : Nat} {x : ByteArray} (h : seenR ss k) (hat : ss[k]? = some x) (h1 : k ≤ 31) (h2 : nmB x = true) (h3 : plc x ss = k + 1) : seenR ss (k + 1) := by
  refine ⟨by omega, fun j hj y hy => ?_⟩
  rcases Nat.lt_or_ge j k with hlt | hge
  · exact h.2 j hlt y hy
  · obtain rfl : j = k := by omega
    rw [hat] at hy
    obtain rfl := Option.some.inj hy
    exact ⟨h2, h3⟩
theorem seenR_all {ss : List ByteArray} {k : Nat} (h : seenR ss k) (hk : ss.length ≤ k) : rgB ss = true := by
  rw [rgB_iff]
  refine ⟨by have := h.1; omega, fun s hs => ?_, ?_⟩
  · obtain ⟨i, hi, e⟩ := List.mem_iff_getElem.1 hs
    exact (h.2 i (by omega) s (by rw [List.getElem?_eq_getElem hi, e])).1
  · rw [← plc_nodup]
    intro i hi
    exact (h.2 i (by omega) _ (List.getElem?_eq_getElem hi)).2
theorem notR {ss : List ByteArray} {k : Nat} {x : ByteArray} (hat : ss[k]? = some x) (h : 31 < k ∨ nmB x = false ∨ plc x ss ≠ k + 1) : rgB ss = false := by
  have hk : k < ss.length := by
    rcases Nat.lt_or_ge k ss.length with h | h
    · exact h
    · rw [List.getElem?_eq_none h] at hat; cases hat
  have hx : ss[k] = x := by rw [List.getElem?_eq_getElem hk] at hat; exact Option.some.inj hat
  cases hh : rgB ss with
  | false => rfl
  | true =>
    obtain ⟨h1, h2, h3⟩ := (rgB_iff ss).1 hh
    rcases h with h | h | h
    · omega
    · have := h2 x (hx ▸ List.getElem_mem hk)
      rw [h] at this; cases this
    · have := (plc_nodup ss).2 h3 k hk
      rw [hx] at this
      exact absurd this h


/-- names that aren't too much for a look -/
def shB (ss : List ByteArray) : Bool := ss.all (fun s => decide (s.size ≤ 100)) && decide (ss.length ≤ 60)
theorem shB_ok {ss : List ByteArray} (h : shB ss = true) : Ok9 ss ∧ ss.length ≤ 60 ∧ ∀ s ∈ ss, s.size ≤ 100 := by
  unfold shB at h
  simp only [Bool.and_eq_true, decide_eq_true_eq, List.all_eq_true] at h
  exact ⟨⟨by omega, fun s hs => by have := h.1 s hs; unfold maxLen; omega⟩, h.2, h.1⟩

set_option maxHeartbeats 2000000 in
theorem RShort_any {A : Option Addr} {n c B : Nat} {ss : List ByteArray} {w : World} (hS : Sl w B A n (st9 ss)) (hn : n ≤ maxLen) :
    Calls Try.prog 6 #[.slice A n c] w fun e w' => e = .returned (.bool (shB ss)) ∧ w = w' := by
  have hl : n = ss.length := by have := hS.len; rw [st9_len] at this; exact this.symm
  subst hl
  unfold maxLen at hn
  go_enter Try.func6, Try.ntmps6
  go_wp2
  go_loop [3] (fun i => ∃ k : Nat, k ≤ ss.length ∧ Hid (∀ j, j < k → ∀ x, ss[j]? = some x → x.size ≤ 100) ∧ i = .int .i64 k) (fun i => ss.length - (intOf i).toNat)
  case atStart => exact ⟨0, Nat.zero_le _, hid (fun j hj => absurd hj (by omega)), rfl⟩
  case round =>
    obtain ⟨k, hk, hf, rfl⟩ := hrel
    by_cases hlt : k < ss.length
    · obtain ⟨b, o, u, rfl, hb, hu, hc⟩ := hS.get (k := k) hlt
      obtain rfl : u = .string ss[k] := by
        rw [st9_at hu, List.getElem?_eq_getElem hlt]; rfl
      have hat := hid (List.getElem?_eq_getElem hlt)
      have hmem := List.getElem_mem hlt
      generalize ss[k] = x at *
      clear hu
      by_cases hx : 100 < x.size
      · have hr : shB ss = false := by
          cases hh : shB ss with
          | false => rfl
          | true => have := (shB_ok hh).2.2 x hmem; omega
        have HR := hid hr
        clear hmem hr
        go_wp2
        go_ret
        exact ⟨ret_bool HR.out.symm, rfl⟩
      · clear hmem
        go_wp2
        go_round
        case rel => exact ⟨k + 1, by omega, hid (fun j hj y hy => by
          rcases Nat.lt_or_ge j k with h | h
          · exact hf.out j h y hy
          · obtain rfl : j = k := by omega
            rw [hat.out] at hy
            obtain rfl := Option.some.inj hy
            omega), by go_num⟩
        case measure => simp [intOf]; omega
    · have hr : shB ss = decide ((ss.length : Int) ≤ 60) := by
        have h1 : ss.all (fun s => decide (s.size ≤ 100)) = true := by
          rw [List.all_eq_true]
          intro s hs
          obtain ⟨i, hi, e⟩ := List.mem_iff_getElem.1 hs
          exact decide_eq_true (hf.out i (by omega) s (by rw [List.getElem?_eq_getElem hi, e]))
        unfold shB
        rw [h1, Bool.true_and]
        exact decide_eq_decide.2 (by omega)
      have HR := hid hr
      clear hr
      go_wp2
      go_ret
      exact ⟨ret_bool HR.out.symm, rfl⟩
end Go.Proofs.Ytgijhfdlecdijaa
