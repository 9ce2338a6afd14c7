/- Texts laid together: Names5, Names6, Names7. -/
import Derived.Test.YtondnbnaoacanaaDoorNa
import Derived.RegionTactic
/- Layer 6: the contract of Put. -/
namespace Go.Proofs.YtondnbnaoacanaaDoor
open Go.ChangeShapes Go.WideShapes Go.ChangeAt Go.RowKit Fb Go.Maps

set_option maxRecDepth 100000 in
set_option maxHeartbeats 2000000 in
theorem Put_any {A : Option Addr} {cap n B : Nat} {ss : List ByteArray} (hz : Ok9 ss) {s : ByteArray} (hs : s.size ≤ maxLen) {w : World} (hS : Sl w B A n (st9 ss)) (hB : B ≤ w.heap.size) (hnil : A = none → cap = 0) :
    Calls Tryd.prog 56 #[.slice A n cap, .string s] w fun e w' => (∃ A' m c', e = .returned (.tuple #[.slice A' m c', .int .i64 (puE ss s)]) ∧ Rs w' A' m c' (puL ss s)) ∧ Below w.heap.size w w' := by
  have hl : n = ss.length := by have := hS.len; rw [st9_len] at this; exact this.symm
  have hz1 : n ≤ 1000000 := by rw [hl]; exact hz.1
  have PC := hid (CloneS_any (c := cap) hS hB hnil hz1)
  have PR := hid (fun A cap B (w : World) hS hB => refuse_any (A := A) (cap := cap) (n := n) (B := B) (w := w) hz hs hS hB)
  have PL := hid (show puL ss s = if puE ss s = 0 then ss ++ [s] else ss from rfl)
  have HL := hid hl
  obtain ⟨i0, hi0, hz0, hz1', hz2⟩ := info_parts s9_info
  clear hS hl hz
  generalize puE ss s = q at *
  by_cases h0 : q = 0
  · subst h0
    have PL' := PL.out
    rw [if_pos rfl] at PL'
    rw [PL']
    clear PL PL'
    go_enter Tryd.func56, Tryd.ntmps56
    go_wp2_with fail
    refine PC.out.mono ?_
    rintro e w1 ⟨⟨v, rfl, hown⟩, hb1⟩
    obtain ⟨A1, c1, rfl, hRs, hlo⟩ := own_rs hown
    have P2 := hid (PR.out A1 c1 _ w1 hRs.1 (Nat.le_refl _))
    clear PR PC
    go_wp2_with fail
    refine P2.out.mono ?_
    rintro e w2 ⟨rfl, hb2⟩
    have hown2 := own_below hown hb2
    have hs2 : w.heap.size ≤ w2.heap.size := Nat.le_trans hb1.size hb2.size
    clear hown hRs hlo P2
    go_wp2_with (at_builtin; refine wpList_push rfl (.tmp 16) (.tmp 18) 22 rfl Tryd.underlying22 hi0 hz0 hz1' hz2 rfl (by decide) rfl hown2 rfl rfl ?_ ?c1 ?c2 ?c3 ?c4; intro v1 w3 own3 hb3)
    case c1 => simp [Value.oneCell']
    case c2 => simp only [maxLen]; omega
    case c3 => omega
    case c4 => exact hs2
    have e : st9 ss ++ [Value.string s] = st9 (ss ++ [s]) := by simp [st9]
    rw [e] at own3
    obtain ⟨A3, c3, rfl, hRs, hlo⟩ := own_rs own3
    go_ret2
    exact ⟨⟨A3, n + 1, c3, rfl, hRs⟩, (hb1.trans (hb2.mono hb1.size)).trans hb3⟩
  · have PL' := PL.out
    rw [if_neg h0] at PL'
    rw [PL']
    clear PL PL'
    go_enter Tryd.func56, Tryd.ntmps56
    go_wp2_with fail
    refine PC.out.mono ?_
    rintro e w1 ⟨⟨v, rfl, hown⟩, hb1⟩
    obtain ⟨A1, c1, rfl, hRs, hlo⟩ := own_rs hown
    have P2 := hid (PR.out A1 c1 _ w1 hRs.1 (Nat.le_refl _))
    clear PR PC
    go_wp2_with fail
    refine P2.out.mono ?_
    rintro e w2 ⟨rfl, hb2⟩
    go_wp2_with fail
    go_ret2
    exact ⟨⟨A1, n, c1, rfl, hRs.below hb2⟩, hb1.trans (hb2.mono hb1.size)⟩
end Go.Proofs.YtondnbnaoacanaaDoor
/- Layer 6: contracts of the reference. -/
namespace Go.Proofs.YtondnbnaoacanaaDoor
open Go.ChangeShapes Go.WideShapes Go.ChangeAt Go.RowKit Fb Go.Maps



/-- what the reference's loop has seen when k rounds are over -/
def seenR (ss : List ByteArray) (k : Nat) : Prop := k ≤ 32 ∧ ∀ j, j < k → ∀ x, ss[j]? = some x → nmB x = true ∧ plc x ss = j + 1
theorem seenR_next {ss : List ByteArray} {k : Nat} {x : ByteArray} (h : seenR ss k) (hat : ss[k]? = some x) (h1 : k ≤ 31) (h2 : nmB x = true) (h3 : plc x ss = k + 1) : seenR ss (k + 1) := by
  refine ⟨by omega, fun j hj y hy => ?_⟩
  rcases Nat.lt_or_ge j k with hlt | hge
  · exact h.2 j hlt y hy
  · obtain rfl : j = k := by omega
    rw [hat] at hy
    obtain rfl := Option.some.inj hy
    exact ⟨h2, h3⟩
theorem seenR_all {ss : List ByteArray} {k : Nat} (h : seenR ss k) (hk : ss.length ≤ k) : rgB ss = true := by
  rw [rgB_iff]
  refine ⟨by have := h.1; omega, fun s hs => ?_, ?_⟩
  · obtain ⟨i, hi, e⟩ := List.mem_iff_getElem.1 hs
    exact (h.2 i (by omega) s (by rw [List.getElem?_eq_getElem hi, e])).1
  · rw [← plc_nodup]
    intro i hi
    exact (h.2 i (by omega) _ (List.getElem?_eq_getElem hi)).2
theorem notR {ss : List ByteArray} {k : Nat} {x : ByteArray} (hat : ss[k]? = some x) (h : 31 < k ∨ nmB x = false ∨ plc x ss ≠ k + 1) : rgB ss = false := by
  have hk : k < ss.length := by
    rcases Nat.lt_or_ge k ss.length with h | h
    · exact h
    · rw [List.getElem?_eq_none h] at hat; cases hat
  have hx : ss[k] = x := by rw [List.getElem?_eq_getElem hk] at hat; exact Option.some.inj hat
  cases hh : rgB ss with
  | false => rfl
  | true =>
    obtain ⟨h1, h2, h3⟩ := (rgB_iff ss).1 hh
    rcases h with h | h | h
    · omega
    · have := h2 x (hx ▸ List.getElem_mem hk)
      rw [h] at this; cases this
    · have := (plc_nodup ss).2 h3 k hk
      rw [hx] at this
      exact absurd this h


/-- names that aren't too much for a look -/
def shB (ss : List ByteArray) : Bool := ss.all (fun s => decide (s.size ≤ 100)) && decide (ss.length ≤ 60)
theorem shB_ok {ss : List ByteArray} (h : shB ss = true) : Ok9 ss ∧ ss.length ≤ 60 ∧ ∀ s ∈ ss, s.size ≤ 100 := by
  unfold shB at h
  simp only [Bool.and_eq_true, decide_eq_true_eq, List.all_eq_true] at h
  exact ⟨⟨by omega, fun s hs => by have := h.1 s hs; unfold maxLen; omega⟩, h.2, h.1⟩

set_option maxHeartbeats 2000000 in
theorem RShort_any {A : Option Addr} {n c B : Nat} {ss : List ByteArray} {w : World} (hS : Sl w B A n (st9 ss)) (hn : n ≤ maxLen) :
    Calls Tryd.prog 13 #[.slice A n c] w fun e w' => e = .returned (.bool (shB ss)) ∧ w = w' := by
  have hl : n = ss.length := by have := hS.len; rw [st9_len] at this; exact this.symm
  subst hl
  unfold maxLen at hn
  go_enter Tryd.func13, Tryd.ntmps13
  go_wp2
  go_loop [3] (fun i => ∃ k : Nat, k ≤ ss.length ∧ Hid (∀ j, j < k → ∀ x, ss[j]? = some x → x.size ≤ 100) ∧ i = .int .i64 k) (fun i => ss.length - (intOf i).toNat)
  case atStart => exact ⟨0, Nat.zero_le _, hid (fun j hj => absurd hj (by omega)), rfl⟩
  case round =>
    obtain ⟨k, hk, hf, rfl⟩ := hrel
    by_cases hlt : k < ss.length
    · obtain ⟨b, o, u, rfl, hb, hu, hc⟩ := hS.get (k := k) hlt
      obtain rfl : u = .string ss[k] := by
        rw [st9_at hu, List.getElem?_eq_getElem hlt]; rfl
      have hat := hid (List.getElem?_eq_getElem hlt)
      have hmem := List.getElem_mem hlt
      generalize ss[k] = x at *
      clear hu
      by_cases hx : 100 < x.size
      · have hr : shB ss = false := by
          cases hh : shB ss with
          | false => rfl
          | true => have := (shB_ok hh).2.2 x hmem; omega
        have HR := hid hr
        clear hmem hr
        go_wp2
        go_ret
        exact ⟨ret_bool HR.out.symm, rfl⟩
      · clear hmem
        go_wp2
        go_round
        case rel => exact ⟨k + 1, by omega, hid (fun j hj y hy => by
          rcases Nat.lt_or_ge j k with h | h
          · exact hf.out j h y hy
          · obtain rfl : j = k := by omega
            rw [hat.out] at hy
            obtain rfl := Option.some.inj hy
            omega), by go_num⟩
        case measure => simp [intOf]; omega
    · have hr : shB ss = decide ((ss.length : Int) ≤ 60) := by
        have h1 : ss.all (fun s => decide (s.size ≤ 100)) = true := by
          rw [List.all_eq_true]
          intro s hs
          obtain ⟨i, hi, e⟩ := List.mem_iff_getElem.1 hs
          exact decide_eq_true (hf.out i (by omega) s (by rw [List.getElem?_eq_getElem hi, e]))
        unfold shB
        rw [h1, Bool.true_and]
        exact decide_eq_decide.2 (by omega)
      have HR := hid hr
      clear hr
      go_wp2
      go_ret
      exact ⟨ret_bool HR.out.symm, rfl⟩
end Go.Proofs.YtondnbnaoacanaaDoor
/- Layer 6: contracts of the reference: Put, Same; awake. -/
namespace Go.Proofs.YtondnbnaoacanaaDoor
open Go.ChangeShapes Go.WideShapes Go.ChangeAt Go.RowKit Fb Go.Maps


set_option maxRecDepth 100000 in
set_option maxHeartbeats 4000000 in
theorem RSame_any {A A' : Option Addr} {n c n' c' B B' : Nat} {xs ys : List ByteArray} {w : World} (hS : Sl w B A n (st9 xs)) (hS' : Sl w B' A' n' (st9 ys)) (hB : B ≤ w.heap.size) (hB' : B' ≤ w.heap.size) (hn : n ≤ 1000000) :
    Calls Tryd.prog 19 #[.slice A n c, .slice A' n' c'] w fun e w' => e = .returned (.bool (decide (xs = ys))) ∧ Below w.heap.size w w' := by
  have hl : n = xs.length := by have := hS.len; rw [st9_len] at this; exact this.symm
  have hl' : n' = ys.length := by have := hS'.len; rw [st9_len] at this; exact this.symm
  by_cases h0 : n = n'
  · subst h0
    have HL := hid hl
    have HL' := hid hl'
    clear hl hl'
    go_enter Tryd.func19, Tryd.ntmps19
    go_wp2
    go_loopw [5] (fun i wr => ∃ k : Nat, k ≤ n ∧ Hid (∀ j, j < k → xs[j]? = ys[j]?) ∧ i = .int .i64 k ∧ Below w.heap.size w wr) (fun i _ => n - (intOf i).toNat)
    case atStart => exact ⟨0, Nat.zero_le _, hid (fun j hj => absurd hj (by omega)), rfl, Below.refl _ _⟩
    case round =>
      obtain ⟨k, hk, hf, rfl, hb⟩ := hrel
      by_cases hlt : k < n
      · have hSk := (hS.below (hb.mono hB)).get hlt
        have hSk' := (hS'.below (hb.mono hB')).get hlt
        obtain ⟨b, o, u, rfl, hbl, hu, hc⟩ := hSk
        obtain ⟨b', o', u', rfl, hbl', hu', hc'⟩ := hSk'
        rw [st9_at hu] at hc
        rw [st9_at hu'] at hc'
        have hx := hid (show xs[k]? = some (xs[k]?.getD default) by rw [List.getElem?_eq_getElem (by have := HL.out; omega)]; rfl)
        have hy := hid (show ys[k]? = some (ys[k]?.getD default) by rw [List.getElem?_eq_getElem (by have := HL'.out; omega)]; rfl)
        clear hu hu'
        generalize xs[k]?.getD default = x at *
        generalize ys[k]?.getD default = y at *
        by_cases hxy : x = y
        · have hq : (x.toList == y.toList) = true := by rw [txt_eq, decide_eq_true hxy]
          go_wp2_with fail
          go_region
          go_wp2
          go_roundw
          case rel => exact ⟨k + 1, by omega, hid (fun j hj => by
            rcases Nat.lt_or_ge j k with h | h
            · exact hf.out j h
            · obtain rfl : j = k := by omega
              rw [hx.out, hy.out, hxy]), by go_num, Below.drew hb⟩
          case measure => simp [intOf]; omega
        · have hq : (x.toList == y.toList) = false := by rw [txt_eq, decide_eq_false hxy]
          go_wp2_with fail
          go_region
          go_wp2
          go_ret
          refine ⟨ret_bool (decide_eq_false fun e => ?_).symm, Below.drew hb⟩
          have h1 := hx.out
          rw [e, hy.out] at h1
          exact hxy (Option.some.inj h1).symm
      · have e : xs = ys := List.ext_getElem? fun i => by
          rcases Nat.lt_or_ge i n with h | h
          · exact hf.out i (by omega)
          · rw [List.getElem?_eq_none (by have := HL.out; omega), List.getElem?_eq_none (by have := HL'.out; omega)]
        have HE := hid (decide_eq_true e)
        clear e
        go_wp2
        go_ret
        exact ⟨ret_bool HE.out.symm, hb⟩
  · have hne : decide (xs = ys) = false := decide_eq_false fun e => h0 (by rw [hl, hl', e])
    rw [hne]
    clear hl hl' hne
    have h0' : ¬ (n : Int) = n' := by omega
    go_enter Tryd.func19, Tryd.ntmps19
    go_wp2
    go_ret
    exact ⟨rfl, Below.refl _ _⟩
end Go.Proofs.YtondnbnaoacanaaDoor
