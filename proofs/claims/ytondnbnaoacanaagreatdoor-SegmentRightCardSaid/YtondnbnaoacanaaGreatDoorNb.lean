/- Texts laid together: Names5, Names6, Names7. -/
import Derived.Test.YtondnbnaoacanaaGreatDoorNa
import Derived.RegionTactic
/- Layer 6: the contract of Put. -/
namespace Go.Proofs.YtondnbnaoacanaaGreatDoor
open Go.ChangeShapes Go.WideShapes Go.ChangeAt Go.RowKit Fb Go.Maps

set_option maxRecDepth 100000 in
set_option maxHeartbeats 2000000 in
theorem Put_any {A : Option Addr} {cap n B : Nat} {ss : List ByteArray} (hz : Ok9 ss) {s : ByteArray} (hs : s.size ≤ maxLen) {w : World} (hS : Sl w B A n (st9 ss)) (hB : B ≤ w.heap.size) (hnil : A = none → cap = 0) :
    Calls Tryz.prog 70 #[.slice A n cap, .string s] w fun e w' => (∃ A' m c', e = .returned (.tuple #[.slice A' m c', .int .i64 (puE ss s)]) ∧ Rs w' A' m c' (puL ss s)) ∧ Below w.heap.size w w' := by
  have hl : n = ss.length := by have := hS.len; rw [st9_len] at this; exact this.symm
  have hz1 : n ≤ 1000000 := by rw [hl]; exact hz.1
  have PC := hid (CloneS_any (c := cap) hS hB hnil hz1)
  have PR := hid (fun A cap B (w : World) hS hB => refuse_any (A := A) (cap := cap) (n := n) (B := B) (w := w) hz hs hS hB)
  have PL := hid (show puL ss s = if puE ss s = 0 then ss ++ [s] else ss from rfl)
  have HL := hid hl
  obtain ⟨i0, hi0, hz0, hz1', hz2⟩ := info_parts s9_info
  clear hS hl hz
  generalize puE ss s = q at *
  by_cases h0 : q = 0
  · subst h0
    have PL' := PL.out
    rw [if_pos rfl] at PL'
    rw [PL']
    clear PL PL'
    go_enter Tryz.func70, Tryz.ntmps70
    go_wp2_with fail
    refine PC.out.mono ?_
    rintro e w1 ⟨⟨v, rfl, hown⟩, hb1⟩
    obtain ⟨A1, c1, rfl, hRs, hlo⟩ := own_rs hown
    have P2 := hid (PR.out A1 c1 _ w1 hRs.1 (Nat.le_refl _))
    clear PR PC
    go_wp2_with fail
    refine P2.out.mono ?_
    rintro e w2 ⟨rfl, hb2⟩
    have hown2 := own_below hown hb2
    have hs2 : w.heap.size ≤ w2.heap.size := Nat.le_trans hb1.size hb2.size
    clear hown hRs hlo P2
    go_wp2_with (at_builtin; refine wpList_push rfl (.tmp 16) (.tmp 18) 22 rfl Tryz.underlying22 hi0 hz0 hz1' hz2 rfl (by decide) rfl hown2 rfl rfl ?_ ?c1 ?c2 ?c3 ?c4; intro v1 w3 own3 hb3)
    case c1 => simp [Value.oneCell']
    case c2 => simp only [maxLen]; omega
    case c3 => omega
    case c4 => exact hs2
    have e : st9 ss ++ [Value.string s] = st9 (ss ++ [s]) := by simp [st9]
    rw [e] at own3
    obtain ⟨A3, c3, rfl, hRs, hlo⟩ := own_rs own3
    go_ret2
    exact ⟨⟨A3, n + 1, c3, rfl, hRs⟩, (hb1.trans (hb2.mono hb1.size)).trans hb3⟩
  · have PL' := PL.out
    rw [if_neg h0] at PL'
    rw [PL']
    clear PL PL'
    go_enter Tryz.func70, Tryz.ntmps70
    go_wp2_with fail
    refine PC.out.mono ?_
    rintro e w1 ⟨⟨v, rfl, hown⟩, hb1⟩
    obtain ⟨A1, c1, rfl, hRs, hlo⟩ := own_rs hown
    have P2 := hid (PR.out A1 c1 _ w1 hRs.1 (Nat.le_refl _))
    clear PR PC
    go_wp2_with fail
    refine P2.out.mono ?_
    rintro e w2 ⟨rfl, hb2⟩
    go_wp2_with fail
    go_ret2
    exact ⟨⟨A1, n, c1, rfl, hRs.below hb2⟩, hb1.trans (hb2.mono hb1.size)⟩
end Go.Proofs.YtondnbnaoacanaaGreatDoor
/- Layer 6: contracts of the reference. -/
namespace Go.Proofs.YtondnbnaoacanaaGreatDoor
open Go.ChangeShapes Go.WideShapes Go.ChangeAt Go.RowKit Fb Go.Maps

theorem RNamed_any (s : ByteArray) (w : World) :
    Calls Tryz.prog 40 #[.string s] w fun e w' => e = .returned (.bool (nmB s)) ∧ w = w' := by
  rcases (show ¬ (0 : Int) < s.size ∨ ((0 : Int) < s.size ∧ (s.size : Int) < 25) ∨ ((0 : Int) < s.size ∧ ¬ (s.size : Int) < 25) by omega) with h1 | ⟨h1, h2⟩ | ⟨h1, h2⟩
  all_goals
    go_enter Tryz.func40, Tryz.ntmps40
    go_wp2
    go_ret
    exact ⟨ret_bool (by unfold nmB; first | (exact (decide_eq_true (by omega)).symm) | (exact (decide_eq_false (by omega)).symm)), rfl⟩

set_option maxHeartbeats 2000000 in
theorem RPlace_any {A : Option Addr} {n c B : Nat} {ss : List ByteArray} {w : World} (hS : Sl w B A n (st9 ss)) (hn : n ≤ maxLen) (s : ByteArray) :
    Calls Tryz.prog 41 #[.slice A n c, .string s] w fun e w' => e = .returned (.int .i64 (plc s ss)) ∧ w = w' := by
  have hl : n = ss.length := by have := hS.len; rw [st9_len] at this; exact this.symm
  subst hl
  unfold maxLen at hn
  go_enter Tryz.func41, Tryz.ntmps41
  go_wp2
  go_loop [5] (fun i => ∃ k : Nat, k ≤ ss.length ∧ Hid (∀ j, j < k → ss[j]? ≠ some s) ∧ i = .int .i64 k) (fun i => ss.length - (intOf i).toNat)
  case atStart => exact ⟨0, Nat.zero_le _, hid (fun j hj => absurd hj (by omega)), rfl⟩
  case round =>
    obtain ⟨k, hk, hf, rfl⟩ := hrel
    by_cases hlt : k < ss.length
    · obtain ⟨b, o, u, rfl, hb, hu, hc⟩ := hS.get (k := k) hlt
      obtain rfl : u = .string ss[k] := by
        rw [st9_at hu, List.getElem?_eq_getElem hlt]; rfl
      have hat := hid (List.getElem?_eq_getElem hlt)
      generalize ss[k] = x at *
      clear hu
      by_cases hx : x = s
      · have hq : (x.toList == s.toList) = true := by rw [txt_eq, decide_eq_true hx]
        go_wp2
        go_ret
        have h1 := plc_first s ss k hf.out (by rw [hat.out, hx])
        exact ⟨ret_int (by rw [h1]; omega), rfl⟩
      · have hq : (x.toList == s.toList) = false := by rw [txt_eq, decide_eq_false hx]
        go_wp2
        go_round
        case rel => exact ⟨k + 1, by omega, hid (fun j hj => by
          rcases Nat.lt_or_ge j k with h | h
          · exact hf.out j h
          · obtain rfl : j = k := by omega
            rw [hat.out]
            exact fun e => hx (Option.some.inj e)), by go_num⟩
        case measure => simp [intOf]; omega
    · go_wp2
      go_ret
      have h1 := plc_none s ss (fun j hj => hf.out j (by omega))
      exact ⟨ret_int (by rw [h1]; rfl), rfl⟩

/-- what the reference's loop has seen when k rounds are over -/
def seenR (ss : List ByteArray) (k : Nat) : Prop := k ≤ 32 ∧ ∀ j, j < k → ∀ x, ss[j]? = some x → nmB x = true ∧ plc x ss = j + 1
theorem seenR_next {ss : List ByteArray} {k : Nat} {x : ByteArray} (h : seenR ss k) (hat : ss[k]? = some x) (h1 : k ≤ 31) (h2 : nmB x = true) (h3 : plc x ss = k + 1) : seenR ss (k + 1) := by
  refine ⟨by omega, fun j hj y hy => ?_⟩
  rcases Nat.lt_or_ge j k with hlt | hge
  · exact h.2 j hlt y hy
  · obtain rfl : j = k := by omega
    rw [hat] at hy
    obtain rfl := Option.some.inj hy
    exact ⟨h2, h3⟩
theorem seenR_all {ss : List ByteArray} {k : Nat} (h : seenR ss k) (hk : ss.length ≤ k) : rgB ss = true := by
  rw [rgB_iff]
  refine ⟨by have := h.1; omega, fun s hs => ?_, ?_⟩
  · obtain ⟨i, hi, e⟩ := List.mem_iff_getElem.1 hs
    exact (h.2 i (by omega) s (by rw [List.getElem?_eq_getElem hi, e])).1
  · rw [← plc_nodup]
    intro i hi
    exact (h.2 i (by omega) _ (List.getElem?_eq_getElem hi)).2
theorem notR {ss : List ByteArray} {k : Nat} {x : ByteArray} (hat : ss[k]? = some x) (h : 31 < k ∨ nmB x = false ∨ plc x ss ≠ k + 1) : rgB ss = false := by
  have hk : k < ss.length := by
    rcases Nat.lt_or_ge k ss.length with h | h
    · exact h
    · rw [List.getElem?_eq_none h] at hat; cases hat
  have hx : ss[k] = x := by rw [List.getElem?_eq_getElem hk] at hat; exact Option.some.inj hat
  cases hh : rgB ss with
  | false => rfl
  | true =>
    obtain ⟨h1, h2, h3⟩ := (rgB_iff ss).1 hh
    rcases h with h | h | h
    · omega
    · have := h2 x (hx ▸ List.getElem_mem hk)
      rw [h] at this; cases this
    · have := (plc_nodup ss).2 h3 k hk
      rw [hx] at this
      exact absurd this h

set_option maxHeartbeats 4000000 in
theorem RRight_any {A : Option Addr} {n c B : Nat} {ss : List ByteArray} {w : World} (hS : Sl w B A n (st9 ss)) (hn : n ≤ maxLen) :
    Calls Tryz.prog 24 #[.slice A n c] w fun e w' => e = .returned (.bool (rgB ss)) ∧ w = w' := by
  have PP := hid (fun s => RPlace_any (c := c) hS hn s)
  have hl : n = ss.length := by have := hS.len; rw [st9_len] at this; exact this.symm
  subst hl
  unfold maxLen at hn
  go_enter Tryz.func24, Tryz.ntmps24
  go_wp2
  go_loop [3] (fun i => ∃ k : Nat, k ≤ ss.length ∧ Hid (seenR ss k) ∧ i = .int .i64 k) (fun i => ss.length - (intOf i).toNat)
  case atStart => exact ⟨0, Nat.zero_le _, hid ⟨by omega, fun j hj => absurd hj (by omega)⟩, rfl⟩
  case round =>
    obtain ⟨k, hk, hf, rfl⟩ := hrel
    by_cases hlt : k < ss.length
    · obtain ⟨b, o, u, rfl, hb, hu, hc⟩ := hS.get (k := k) hlt
      obtain rfl : u = .string ss[k] := by
        rw [st9_at hu, List.getElem?_eq_getElem hlt]; rfl
      have hat := hid (List.getElem?_eq_getElem hlt)
      generalize ss[k] = x at *
      clear hu
      by_cases h31 : 31 < k
      · have hr := notR hat.out (.inl h31)
        have h31' : (31 : Int) < k := by omega
        have HR := hid hr
        clear hr
        go_wp2
        go_ret
        exact ⟨ret_bool HR.out.symm, rfl⟩
      · have h31' : ¬ (31 : Int) < k := by omega
        cases h2 : nmB x with
        | false =>
          have hr := notR hat.out (.inr (.inl h2))
          have HR := hid hr
          clear hr
          have PN := hid (RNamed_any x)
          rw [h2] at PN
          go_wp2_with fail
          refine (PN.out _).mono ?_
          rintro e w1 ⟨rfl, rfl⟩
          go_wp2_with fail
          go_ret
          exact ⟨ret_bool HR.out.symm, rfl⟩
        | true =>
          have PN := hid (RNamed_any x)
          rw [h2] at PN
          have PQ := hid (PP.out x)
          have hnx := hid (fun h3 => seenR_next hf.out hat.out (by omega) h2 h3)
          have hno := hid (fun h3 => notR hat.out (.inr (.inr h3)))
          have hq := plc_le x ss
          generalize plc x ss = q at *
          by_cases h3 : q = k + 1
          · have h3' : (q : Int) = k + 1 := by omega
            go_wp2_with fail
            refine (PN.out _).mono ?_
            rintro e w1 ⟨rfl, rfl⟩
            go_wp2_with fail
            refine PQ.out.mono ?_
            rintro e w1 ⟨rfl, rfl⟩
            go_wp2_with fail
            go_round
            case rel => exact ⟨k + 1, by omega, hid (hnx.out h3), by go_num⟩
            case measure => simp [intOf]; omega
          · have h3' : ¬ (q : Int) = k + 1 := by omega
            go_wp2_with fail
            refine (PN.out _).mono ?_
            rintro e w1 ⟨rfl, rfl⟩
            go_wp2_with fail
            refine PQ.out.mono ?_
            rintro e w1 ⟨rfl, rfl⟩
            go_wp2_with fail
            go_ret
            exact ⟨ret_bool (hno.out h3).symm, rfl⟩
    · go_wp2
      go_ret
      exact ⟨ret_bool (seenR_all hf.out (by omega)).symm, rfl⟩

/-- names that aren't too much for a look -/
def shB (ss : List ByteArray) : Bool := ss.all (fun s => decide (s.size ≤ 100)) && decide (ss.length ≤ 60)
theorem shB_ok {ss : List ByteArray} (h : shB ss = true) : Ok9 ss ∧ ss.length ≤ 60 ∧ ∀ s ∈ ss, s.size ≤ 100 := by
  unfold shB at h
  simp only [Bool.and_eq_true, decide_eq_true_eq, List.all_eq_true] at h
  exact ⟨⟨by omega, fun s hs => by have := h.1 s hs; unfold maxLen; omega⟩, h.2, h.1⟩

set_option maxHeartbeats 2000000 in
theorem RShort_any {A : Option Addr} {n c B : Nat} {ss : List ByteArray} {w : World} (hS : Sl w B A n (st9 ss)) (hn : n ≤ maxLen) :
    Calls Tryz.prog 23 #[.slice A n c] w fun e w' => e = .returned (.bool (shB ss)) ∧ w = w' := by
  have hl : n = ss.length := by have := hS.len; rw [st9_len] at this; exact this.symm
  subst hl
  unfold maxLen at hn
  go_enter Tryz.func23, Tryz.ntmps23
  go_wp2
  go_loop [3] (fun i => ∃ k : Nat, k ≤ ss.length ∧ Hid (∀ j, j < k → ∀ x, ss[j]? = some x → x.size ≤ 100) ∧ i = .int .i64 k) (fun i => ss.length - (intOf i).toNat)
  case atStart => exact ⟨0, Nat.zero_le _, hid (fun j hj => absurd hj (by omega)), rfl⟩
  case round =>
    obtain ⟨k, hk, hf, rfl⟩ := hrel
    by_cases hlt : k < ss.length
    · obtain ⟨b, o, u, rfl, hb, hu, hc⟩ := hS.get (k := k) hlt
      obtain rfl : u = .string ss[k] := by
        rw [st9_at hu, List.getElem?_eq_getElem hlt]; rfl
      have hat := hid (List.getElem?_eq_getElem hlt)
      have hmem := List.getElem_mem hlt
      generalize ss[k] = x at *
      clear hu
      by_cases hx : 100 < x.size
      · have hr : shB ss = false := by
          cases hh : shB ss with
          | false => rfl
          | true => have := (shB_ok hh).2.2 x hmem; omega
        have HR := hid hr
        clear hmem hr
        go_wp2
        go_ret
        exact ⟨ret_bool HR.out.symm, rfl⟩
      · clear hmem
        go_wp2
        go_round
        case rel => exact ⟨k + 1, by omega, hid (fun j hj y hy => by
          rcases Nat.lt_or_ge j k with h | h
          · exact hf.out j h y hy
          · obtain rfl : j = k := by omega
            rw [hat.out] at hy
            obtain rfl := Option.some.inj hy
            omega), by go_num⟩
        case measure => simp [intOf]; omega
    · have hr : shB ss = decide ((ss.length : Int) ≤ 60) := by
        have h1 : ss.all (fun s => decide (s.size ≤ 100)) = true := by
          rw [List.all_eq_true]
          intro s hs
          obtain ⟨i, hi, e⟩ := List.mem_iff_getElem.1 hs
          exact decide_eq_true (hf.out i (by omega) s (by rw [List.getElem?_eq_getElem hi, e]))
        unfold shB
        rw [h1, Bool.true_and]
        exact decide_eq_decide.2 (by omega)
      have HR := hid hr
      clear hr
      go_wp2
      go_ret
      exact ⟨ret_bool HR.out.symm, rfl⟩
end Go.Proofs.YtondnbnaoacanaaGreatDoor
/- Layer 6: contracts of the reference: Put, Same; awake. -/
namespace Go.Proofs.YtondnbnaoacanaaGreatDoor
open Go.ChangeShapes Go.WideShapes Go.ChangeAt Go.RowKit Fb Go.Maps

set_option maxRecDepth 100000 in
set_option maxHeartbeats 4000000 in
theorem RPut_any {A : Option Addr} {cap n : Nat} {ss : List ByteArray} {w : World} (hS : Rs w A n cap ss) (hn : n ≤ 1000000) (s : ByteArray) :
    Calls Tryz.prog 74 #[.slice A n cap, .string s] w fun e w' => (∃ A' m c', e = .returned (.tuple #[.slice A' m c', .int .i64 (puE ss s)]) ∧ Rs w' A' m c' (puL ss s)) ∧ Below w.heap.size w w' := by
  have PR := hid (RRight_any (c := cap) hS.1 (by unfold maxLen; omega))
  have PP := hid (RPlace_any (c := cap) hS.1 (by unfold maxLen; omega) s)
  have PN := hid (RNamed_any s)
  have hl := hS.len
  have HS := hid hS
  obtain ⟨i0, hi0, hz0, hz1, hz2⟩ := info_parts s9_info
  cases h1 : rgB ss with
  | false =>
    rw [h1] at PR
    have e : puE ss s = 1 := by unfold puE; rw [if_pos h1]
    have e2 : puL ss s = ss := by unfold puL; rw [if_neg (by omega)]
    rw [e, e2]
    clear e e2 hl hS
    go_enter Tryz.func74, Tryz.ntmps74
    go_wp2_with fail
    refine PR.out.mono ?_
    rintro e w1 ⟨rfl, rfl⟩
    go_wp2_with fail
    go_ret2
    exact ⟨⟨_, _, _, rfl, HS.out⟩, Below.refl _ _⟩
  | true =>
    rw [h1] at PR
    cases h2 : nmB s with
    | false =>
      rw [h2] at PN
      have e : puE ss s = 3 := by unfold puE; rw [if_neg (by simp [h1]), if_pos h2]
      have e2 : puL ss s = ss := by unfold puL; rw [if_neg (by omega)]
      rw [e, e2]
      clear e e2 hl hS
      go_enter Tryz.func74, Tryz.ntmps74
      go_wp2_with fail
      refine PR.out.mono ?_
      rintro e w1 ⟨rfl, rfl⟩
      go_wp2_with fail
      refine (PN.out _).mono ?_
      rintro e w1 ⟨rfl, rfl⟩
      go_wp2_with fail
      go_ret2
      exact ⟨⟨_, _, _, rfl, HS.out⟩, Below.refl _ _⟩
    | true =>
      rw [h2] at PN
      have h12 : puE ss s = if 0 < plc s ss then 7 else if 32 ≤ ss.length then 9 else 0 := by unfold puE; rw [if_neg (by simp [h1]), if_neg (by simp [h2])]
      have hq := plc_le s ss
      have e3 := hid (show puL ss s = if puE ss s = 0 then ss ++ [s] else ss from rfl)
      generalize plc s ss = q at *
      by_cases h3 : 0 < q
      · rw [if_pos h3] at h12
        have e2 : puL ss s = ss := by rw [e3.out, if_neg (by omega)]
        rw [h12, e2]
        clear h12 e2 e3 hS hl hq
        have h3' : (0 : Int) < q := by omega
        go_enter Tryz.func74, Tryz.ntmps74
        go_wp2_with fail
        refine PR.out.mono ?_
        rintro e w1 ⟨rfl, rfl⟩
        go_wp2_with fail
        refine (PN.out _).mono ?_
        rintro e w1 ⟨rfl, rfl⟩
        go_wp2_with fail
        refine PP.out.mono ?_
        rintro e w1 ⟨rfl, rfl⟩
        go_wp2_with fail
        go_ret2
        exact ⟨⟨_, _, _, rfl, HS.out⟩, Below.refl _ _⟩
      · rw [if_neg h3] at h12
        obtain rfl : q = 0 := by omega
        by_cases h4 : 32 ≤ ss.length
        · rw [if_pos h4] at h12
          have e2 : puL ss s = ss := by rw [e3.out, if_neg (by omega)]
          rw [h12, e2]
          clear h12 e2 e3 hS h3
          have h4' : (32 : Int) ≤ n := by omega
          clear hl hq h4
          go_enter Tryz.func74, Tryz.ntmps74
          go_wp2_with fail
          refine PR.out.mono ?_
          rintro e w1 ⟨rfl, rfl⟩
          go_wp2_with fail
          refine (PN.out _).mono ?_
          rintro e w1 ⟨rfl, rfl⟩
          go_wp2_with fail
          refine PP.out.mono ?_
          rintro e w1 ⟨rfl, rfl⟩
          go_wp2_with fail
          go_ret2
          exact ⟨⟨_, _, _, rfl, HS.out⟩, Below.refl _ _⟩
        · rw [if_neg h4] at h12
          have e2 : puL ss s = ss ++ [s] := by rw [e3.out, if_pos h12]
          rw [h12, e2]
          clear h12 e2 e3 hS h3
          have h4' : ¬ (32 : Int) ≤ n := by omega
          clear hl hq h4
          have hnil := HS.out.2.2.2
          go_enter Tryz.func74, Tryz.ntmps74
          go_wp2_with fail
          refine PR.out.mono ?_
          rintro e w1 ⟨rfl, rfl⟩
          go_wp2_with fail
          refine (PN.out _).mono ?_
          rintro e w1 ⟨rfl, rfl⟩
          go_wp2_with fail
          refine PP.out.mono ?_
          rintro e w1 ⟨rfl, rfl⟩
          go_wp2_with (at_builtin; first
            | (refine wpList_pushAll (B := w.heap.size) rfl (.tmp 23) (.tmp 24) _ rfl Tryz.underlying22 hi0 hz0 hz1 hz2 rfl rfl (own_fresh w #[] 9 (base := w.heap.size) (n := 0) (xs := []) rfl (Nat.le_refl _) rfl rfl (Nat.zero_le _)) rfl hnil (m := n) (news := st9 ss) ?SL (fun v1 w2 own1 hb1 => ?_) (st9_one ss) (by simp only [maxLen]; omega) (by omega) (by simp))
            | (refine wpList_push rfl (.tmp 25) (.tmp 27) 22 rfl Tryz.underlying22 hi0 hz0 hz1 hz2 rfl (by decide) rfl own1 rfl rfl ?_ ?c1 ?c2 ?c3 ?c4; intro v2 w3 own2 hb2))
          case SL => exact HS.out.1.below ((Below.refl _ _).alloc (Nat.le_refl _) _)
          case c1 => simp [Value.oneCell']
          case c2 => simp only [maxLen]; omega
          case c3 => omega
          case c4 => have := hb1.size; simp at this; omega
          have e : [] ++ st9 ss ++ [Value.string s] = st9 (ss ++ [s]) := by simp [st9]
          have e1 : 0 + n + 1 = n + 1 := by omega
          rw [e1] at own2
          replace own2 : w3.ownsRow w.heap.size 9 1 v2 (n + 1) (st9 (ss ++ [s])) := e ▸ own2
          obtain ⟨A3, c3, rfl, hRs, hlo⟩ := own_rs own2
          go_ret2
          exact ⟨⟨A3, n + 1, c3, rfl, hRs⟩, (((Below.refl _ _).alloc (Nat.le_refl _) _).trans hb1).trans hb2⟩

set_option maxRecDepth 100000 in
set_option maxHeartbeats 4000000 in
theorem RSame_any {A A' : Option Addr} {n c n' c' B B' : Nat} {xs ys : List ByteArray} {w : World} (hS : Sl w B A n (st9 xs)) (hS' : Sl w B' A' n' (st9 ys)) (hB : B ≤ w.heap.size) (hB' : B' ≤ w.heap.size) (hn : n ≤ 1000000) :
    Calls Tryz.prog 33 #[.slice A n c, .slice A' n' c'] w fun e w' => e = .returned (.bool (decide (xs = ys))) ∧ Below w.heap.size w w' := by
  have hl : n = xs.length := by have := hS.len; rw [st9_len] at this; exact this.symm
  have hl' : n' = ys.length := by have := hS'.len; rw [st9_len] at this; exact this.symm
  by_cases h0 : n = n'
  · subst h0
    have HL := hid hl
    have HL' := hid hl'
    clear hl hl'
    go_enter Tryz.func33, Tryz.ntmps33
    go_wp2
    go_loopw [5] (fun i wr => ∃ k : Nat, k ≤ n ∧ Hid (∀ j, j < k → xs[j]? = ys[j]?) ∧ i = .int .i64 k ∧ Below w.heap.size w wr) (fun i _ => n - (intOf i).toNat)
    case atStart => exact ⟨0, Nat.zero_le _, hid (fun j hj => absurd hj (by omega)), rfl, Below.refl _ _⟩
    case round =>
      obtain ⟨k, hk, hf, rfl, hb⟩ := hrel
      by_cases hlt : k < n
      · have hSk := (hS.below (hb.mono hB)).get hlt
        have hSk' := (hS'.below (hb.mono hB')).get hlt
        obtain ⟨b, o, u, rfl, hbl, hu, hc⟩ := hSk
        obtain ⟨b', o', u', rfl, hbl', hu', hc'⟩ := hSk'
        rw [st9_at hu] at hc
        rw [st9_at hu'] at hc'
        have hx := hid (show xs[k]? = some (xs[k]?.getD default) by rw [List.getElem?_eq_getElem (by have := HL.out; omega)]; rfl)
        have hy := hid (show ys[k]? = some (ys[k]?.getD default) by rw [List.getElem?_eq_getElem (by have := HL'.out; omega)]; rfl)
        clear hu hu'
        generalize xs[k]?.getD default = x at *
        generalize ys[k]?.getD default = y at *
        by_cases hxy : x = y
        · have hq : (x.toList == y.toList) = true := by rw [txt_eq, decide_eq_true hxy]
          go_wp2_with fail
          go_region
          go_wp2
          go_roundw
          case rel => exact ⟨k + 1, by omega, hid (fun j hj => by
            rcases Nat.lt_or_ge j k with h | h
            · exact hf.out j h
            · obtain rfl : j = k := by omega
              rw [hx.out, hy.out, hxy]), by go_num, Below.drew hb⟩
          case measure => simp [intOf]; omega
        · have hq : (x.toList == y.toList) = false := by rw [txt_eq, decide_eq_false hxy]
          go_wp2_with fail
          go_region
          go_wp2
          go_ret
          refine ⟨ret_bool (decide_eq_false fun e => ?_).symm, Below.drew hb⟩
          have h1 := hx.out
          rw [e, hy.out] at h1
          exact hxy (Option.some.inj h1).symm
      · have e : xs = ys := List.ext_getElem? fun i => by
          rcases Nat.lt_or_ge i n with h | h
          · exact hf.out i (by omega)
          · rw [List.getElem?_eq_none (by have := HL.out; omega), List.getElem?_eq_none (by have := HL'.out; omega)]
        have HE := hid (decide_eq_true e)
        clear e
        go_wp2
        go_ret
        exact ⟨ret_bool HE.out.symm, hb⟩
  · have hne : decide (xs = ys) = false := decide_eq_false fun e => h0 (by rw [hl, hl', e])
    rw [hne]
    clear hl hl' hne
    have h0' : ¬ (n : Int) = n' := by omega
    go_enter Tryz.func33, Tryz.ntmps33
    go_wp2
    go_ret
    exact ⟨rfl, Below.refl _ _⟩
end Go.Proofs.YtondnbnaoacanaaGreatDoor
