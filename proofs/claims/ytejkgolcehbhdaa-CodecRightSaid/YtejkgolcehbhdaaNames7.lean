/- Layer 6: contracts of the reference: Put, Same; awake. -/
import Derived.Test.YtejkgolcehbhdaaNames5
import Derived.Test.YtejkgolcehbhdaaNames6
namespace Go.Proofs.Ytejkgolcehbhdaa
open Go.ChangeShapes Go.WideShapes Go.ChangeAt Go.RowKit Fb Go.Maps

set_option maxRecDepth 100000 in
set_option maxHeartbeats 4000000 in
theorem RPut_any {A : Option Addr} {cap n : Nat} {ss : List ByteArray} {w : World} (hS : Rs w A n cap ss) (hn : n ≤ 1000000) (s : ByteArray) :
    Calls Try.prog 40 #[.slice A n cap, .string s] w fun e w' => (∃ A' m c', e = .returned (.tuple #[.slice A' m c', .int .i64 (puE ss s)]) ∧ Rs w' A' m c' (puL ss s)) ∧ Below w.heap.size w w' := by
  have PR := hid (RRight_any (c := cap) hS.1 (by unfold maxLen; omega))
  have PP := hid (RPlace_any (c := cap) hS.1 (by unfold maxLen; omega) s)
  have PN := hid (RNamed_any s)
  have hl := hS.len
  have HS := hid hS
  obtain ⟨i0, hi0, hz0, hz1, hz2⟩ := info_parts s9_info
  cases h1 : rgB ss with
  | false =>
    rw [h1] at PR
    have e : puE ss s = 1 := by unfold puE; rw [if_pos h1]
    have e2 : puL ss s = ss := by unfold puL; rw [if_neg (by omega)]
    rw [e, e2]
    clear e e2 hl hS
    go_enter Try.func40, Try.ntmps40
    go_wp2_with fail
    refine PR.out.mono ?_
    rintro e w1 ⟨rfl, rfl⟩
    go_wp2_with fail
    go_ret2
    exact ⟨⟨_, _, _, rfl, HS.out⟩, Below.refl _ _⟩
  | true =>
    rw [h1] at PR
    cases h2 : nmB s with
    | false =>
      rw [h2] at PN
      have e : puE ss s = 3 := by unfold puE; rw [if_neg (by simp [h1]), if_pos h2]
      have e2 : puL ss s = ss := by unfold puL; rw [if_neg (by omega)]
      rw [e, e2]
      clear e e2 hl hS
      go_enter Try.func40, Try.ntmps40
      go_wp2_with fail
      refine PR.out.mono ?_
      rintro e w1 ⟨rfl, rfl⟩
      go_wp2_with fail
      refine (PN.out _).mono ?_
      rintro e w1 ⟨rfl, rfl⟩
      go_wp2_with fail
      go_ret2
      exact ⟨⟨_, _, _, rfl, HS.out⟩, Below.refl _ _⟩
    | true =>
      rw [h2] at PN
      have h12 : puE ss s = if 0 < plc s ss then 7 else if 32 ≤ ss.length then 9 else 0 := by unfold puE; rw [if_neg (by simp [h1]), if_neg (by simp [h2])]
      have hq := plc_le s ss
      have e3 := hid (show puL ss s = if puE ss s = 0 then ss ++ [s] else ss from rfl)
      generalize plc s ss = q at *
      by_cases h3 : 0 < q
      · rw [if_pos h3] at h12
        have e2 : puL ss s = ss := by rw [e3.out, if_neg (by omega)]
        rw [h12, e2]
        clear h12 e2 e3 hS hl hq
        have h3' : (0 : Int) < q := by omega
        go_enter Try.func40, Try.ntmps40
        go_wp2_with fail
        refine PR.out.mono ?_
        rintro e w1 ⟨rfl, rfl⟩
        go_wp2_with fail
        refine (PN.out _).mono ?_
        rintro e w1 ⟨rfl, rfl⟩
        go_wp2_with fail
        refine PP.out.mono ?_
        rintro e w1 ⟨rfl, rfl⟩
        go_wp2_with fail
        go_ret2
        exact ⟨⟨_, _, _, rfl, HS.out⟩, Below.refl _ _⟩
      · rw [if_neg h3] at h12
        obtain rfl : q = 0 := by omega
        by_cases h4 : 32 ≤ ss.length
        · rw [if_pos h4] at h12
          have e2 : puL ss s = ss := by rw [e3.out, if_neg (by omega)]
          rw [h12, e2]
          clear h12 e2 e3 hS h3
          have h4' : (32 : Int) ≤ n := by omega
          clear hl hq h4
          go_enter Try.func40, Try.ntmps40
          go_wp2_with fail
          refine PR.out.mono ?_
          rintro e w1 ⟨rfl, rfl⟩
          go_wp2_with fail
          refine (PN.out _).mono ?_
          rintro e w1 ⟨rfl, rfl⟩
          go_wp2_with fail
          refine PP.out.mono ?_
          rintro e w1 ⟨rfl, rfl⟩
          go_wp2_with fail
          go_ret2
          exact ⟨⟨_, _, _, rfl, HS.out⟩, Below.refl _ _⟩
        · rw [if_neg h4] at h12
          have e2 : puL ss s = ss ++ [s] := by rw [e3.out, if_pos h12]
          rw [h12, e2]
          clear h12 e2 e3 hS h3
          have h4' : ¬ (32 : Int) ≤ n := by omega
          clear hl hq h4
          have hnil := HS.out.2.2.2
          go_enter Try.func40, Try.ntmps40
          go_wp2_with fail
          refine PR.out.mono ?_
          rintro e w1 ⟨rfl, rfl⟩
          go_wp2_with fail
          refine (PN.out _).mono ?_
          rintro e w1 ⟨rfl, rfl⟩
          go_wp2_with fail
          refine PP.out.mono ?_
          rintro e w1 ⟨rfl, rfl⟩
          go_wp2_with (at_builtin; first
            | (refine wpList_pushAll (B := w.heap.size) rfl (.tmp 23) (.tmp 24) _ rfl Try.underlying22 hi0 hz0 hz1 hz2 rfl rfl (own_fresh w #[] 9 (base := w.heap.size) (n := 0) (xs := []) rfl (Nat.le_refl _) rfl rfl (Nat.zero_le _)) rfl hnil (m := n) (news := st9 ss) ?SL (fun v1 w2 own1 hb1 => ?_) (st9_one ss) (by simp only [maxLen]; omega) (by omega) (by simp))
            | (refine wpList_push rfl (.tmp 25) (.tmp 27) 22 rfl Try.underlying22 hi0 hz0 hz1 hz2 rfl (by decide) rfl own1 rfl rfl ?_ ?c1 ?c2 ?c3 ?c4; intro v2 w3 own2 hb2))
          case SL => exact HS.out.1.below ((Below.refl _ _).alloc (Nat.le_refl _) _)
          case c1 => simp [Value.oneCell']
          case c2 => simp only [maxLen]; omega
          case c3 => omega
          case c4 => have := hb1.size; simp at this; omega
          have e : [] ++ st9 ss ++ [Value.string s] = st9 (ss ++ [s]) := by simp [st9]
          have e1 : 0 + n + 1 = n + 1 := by omega
          rw [e1] at own2
          replace own2 : w3.ownsRow w.heap.size 9 1 v2 (n + 1) (st9 (ss ++ [s])) := e ▸ own2
          obtain ⟨A3, c3, rfl, hRs, hlo⟩ := own_rs own2
          go_ret2
          exact ⟨⟨A3, n + 1, c3, rfl, hRs⟩, (((Below.refl _ _).alloc (Nat.le_refl _) _).trans hb1).trans hb2⟩

set_option maxRecDepth 100000 in
set_option maxHeartbeats 4000000 in
theorem RSame_any {A A' : Option Addr} {n c n' c' B B' : Nat} {xs ys : List ByteArray} {w : World} (hS : Sl w B A n (st9 xs)) (hS' : Sl w B' A' n' (st9 ys)) (hB : B ≤ w.heap.size) (hB' : B' ≤ w.heap.size) (hn : n ≤ 1000000) :
    Calls Try.prog 27 #[.slice A n c, .slice A' n' c'] w fun e w' => e = .returned (.bool (decide (xs = ys))) ∧ Below w.heap.size w w' := by
  have hl : n = xs.length := by have := hS.len; rw [st9_len] at this; exact this.symm
  have hl' : n' = ys.length := by have := hS'.len; rw [st9_len] at this; exact this.symm
  by_cases h0 : n = n'
  · subst h0
    have HL := hid hl
    have HL' := hid hl'
    clear hl hl'
    go_enter Try.func27, Try.ntmps27
    go_wp2
    go_loopw [5] (fun i wr => ∃ k : Nat, k ≤ n ∧ Hid (∀ j, j < k → xs[j]? = ys[j]?) ∧ i = .int .i64 k ∧ Below w.heap.size w wr) (fun i _ => n - (intOf i).toNat)
    case atStart => exact ⟨0, Nat.zero_le _, hid (fun j hj => absurd hj (by omega)), rfl, Below.refl _ _⟩
    case round =>
      obtain ⟨k, hk, hf, rfl, hb⟩ := hrel
      by_cases hlt : k < n
      · have hSk := (hS.below (hb.mono hB)).get hlt
        have hSk' := (hS'.below (hb.mono hB')).get hlt
        obtain ⟨b, o, u, rfl, hbl, hu, hc⟩ := hSk
        obtain ⟨b', o', u', rfl, hbl', hu', hc'⟩ := hSk'
        rw [st9_at hu] at hc
        rw [st9_at hu'] at hc'
        have hx := hid (show xs[k]? = some (xs[k]?.getD default) by rw [List.getElem?_eq_getElem (by have := HL.out; omega)]; rfl)
        have hy := hid (show ys[k]? = some (ys[k]?.getD default) by rw [List.getElem?_eq_getElem (by have := HL'.out; omega)]; rfl)
        clear hu hu'
        generalize xs[k]?.getD default = x at *
        generalize ys[k]?.getD default = y at *
        by_cases hxy : x = y
        · have hq : (x.toList == y.toList) = true := by rw [txt_eq, decide_eq_true hxy]
          go_wp2_with fail
          go_region
          go_wp2
          go_roundw
          case rel => exact ⟨k + 1, by omega, hid (fun j hj => by
            rcases Nat.lt_or_ge j k with h | h
            · exact hf.out j h
            · obtain rfl : j = k := by omega
              rw [hx.out, hy.out, hxy]), by go_num, Below.drew hb⟩
          case measure => simp [intOf]; omega
        · have hq : (x.toList == y.toList) = false := by rw [txt_eq, decide_eq_false hxy]
          go_wp2_with fail
          go_region
          go_wp2
          go_ret
          refine ⟨ret_bool (decide_eq_false fun e => ?_).symm, Below.drew hb⟩
          have h1 := hx.out
          rw [e, hy.out] at h1
          exact hxy (Option.some.inj h1).symm
      · have e : xs = ys := List.ext_getElem? fun i => by
          rcases Nat.lt_or_ge i n with h | h
          · exact hf.out i (by omega)
          · rw [List.getElem?_eq_none (by have := HL.out; omega), List.getElem?_eq_none (by have := HL'.out; omega)]
        have HE := hid (decide_eq_true e)
        clear e
        go_wp2
        go_ret
        exact ⟨ret_bool HE.out.symm, hb⟩
  · have hne : decide (xs = ys) = false := decide_eq_false fun e => h0 (by rw [hl, hl', e])
    rw [hne]
    clear hl hl' hne
    have h0' : ¬ (n : Int) = n' := by omega
    go_enter Try.func27, Try.ntmps27
    go_wp2
    go_ret
    exact ⟨rfl, Below.refl _ _⟩
end Go.Proofs.Ytejkgolcehbhdaa
