/- Layer 6: contracts of the reference: Put, Same; awake. -/
import Derived.Test.YtgijhfdlecdijaaNames5
import Derived.Test.YtgijhfdlecdijaaNames6
namespace Go.Proofs.Ytgijhfdlecdijaa
open Go.ChangeShapes Go.WideShapes Go.ChangeAt Go.RowKit Fb Go.Maps


set_option maxRecDepth 100000 in
set_option maxHeartbeats 4000000 in
theorem RSame_any {A A' : Option Addr} {n c n' c' B B' : Nat} {xs ys : List ByteArray} {w : World} (hS : Sl w B A n (st9 xs)) (hS' : Sl w B' A' n' (st9 ys)) (hB : B ≤ w.heap.size) (hB' : B' ≤ w.heap.size) (hn : n ≤ 1000000) :
    Calls Try.prog 18 #[.slice A n c, .slice A' n' c'] w fun e w' => e = .returned (.bool (decide (xs = ys))) ∧ Below w.heap.size w w' := by
  have hl : n = xs.length := by have := hS.len; rw [st9_len] at this; exact this.symm
  have hl' : n' = ys.length := by have := hS'.len; rw [st9_len] at this; exact this.symm
  by_cases h0 : n = n'
  · subst h0
    have HL := hid hl
    have HL' := hid hl'
    clear hl hl'
    go_enter Try.func18, Try.ntmps18
    go_wp2
    go_loopw [5] (fun i wr => ∃ k : Nat, k ≤ n ∧ Hid (∀ j, j < k → xs[j]? = ys[j]?) ∧ i = .int .i64 k ∧ Below w.heap.size w wr) (fun i _ => n - (intOf i).toNat)
    case atStart => exact ⟨0, Nat.zero_le _, hid (fun j hj => absurd hj (by omega)), rfl, Below.refl _ _⟩
    case round =>
      obtain ⟨k, hk, hf, rfl, hb⟩ := hrel
      by_cases hlt : k < n
      · have hSk := (hS.below (hb.mono hB)).get hlt
        have hSk' := (hS'.below (hb.mono hB')).get hlt
        obtain ⟨b, o, u, rfl, hbl, hu, hc⟩ := hSk
        obtain ⟨b', o', u', rfl, hbl', hu', hc'⟩ := hSk'
        rw [st9_at hu] at hc
        rw [st9_at hu'] at hc'
        have hx := hid (show xs[k]? = some (xs[k]?.getD default) by rw [List.getElem?_eq_getElem (by have := HL.out; omega)]; rfl)
        have hy := hid (show ys[k]? = some (ys[k]?.getD default) by rw [List.getElem?_eq_getElem (by have := HL'.out; omega)]; rfl)
        clear hu hu'
        generalize xs[k]?.getD default = x at *
        generalize ys[k]?.getD default = y at *
        by_cases hxy : x = y
        · have hq : (x.toList == y.toList) = true := by rw [txt_eq, decide_eq_true hxy]
          go_wp2_with fail
          go_region
          go_wp2
          go_roundw
          case rel => exact ⟨k + 1, by omega, hid (fun j hj => by
            rcases Nat.lt_or_ge j k with h | h
            · exact hf.out j h
            · obtain rfl : j = k := by omega
              rw [hx.out, hy.out, hxy]), by go_num, Below.drew hb⟩
          case measure => simp [intOf]; omega
        · have hq : (x.toList == y.toList) = false := by rw [txt_eq, decide_eq_false hxy]
          go_wp2_with fail
          go_region
          go_wp2
          go_ret
          refine ⟨ret_bool (decide_eq_false fun e => ?_).symm, Below.drew hb⟩
          have h1 := hx.out
          rw [e, hy.out] at h1
          exact hxy (Option.some.inj h1).symm
      · have e : xs = ys := List.ext_getElem? fun i => by
          rcases Nat.lt_or_ge i n with h | h
          · exact hf.out i (by omega)
          · rw [List.getElem?_eq_none (by have := HL.out; omega), List.getElem?_eq_none (by have := HL'.out; omega)]
        have HE := hid (decide_eq_true e)
        clear e
        go_wp2
        go_ret
        exact ⟨ret_bool HE.out.symm, hb⟩
  · have hne : decide (xs = ys) = false := decide_eq_false fun e => h0 (by rw [hl, hl', e])
    rw [hne]
    clear hl hl' hne
    have h0' : ¬ (n : Int) = n' := by omega
    go_enter Try.func18, Try.ntmps18
    go_wp2
    go_ret
    exact ⟨rfl, Below.refl _ _⟩
end Go.Proofs.Ytgijhfdlecdijaa
