/- The walk of NamesPlaces. -/
import Derived.Test.YtmcfmpafoanajaaNamesA
import Derived.Lib.SliceRun
namespace Go.Proofs.Ytmcfmpafoanajaa
open Go.ChangeShapes Go.WideShapes Go.ChangeAt Go.RowKit Fb Go.Maps

theorem plc_last {s : ByteArray} {l : List ByteArray} (h : plc s l = 0) : plc s (l ++ [s]) = l.length + 1 := by
  rw [plc_append, if_pos h, if_pos rfl]
/-- what comes of a name that is put onto a right list -/
theorem put_facts {l : List ByteArray} (s : ByteArray) (h : rgB l = true) :
    (puE l s = 0 ∧ (puL l s).length = l.length + 1 ∧ plc s (puL l s) = l.length + 1) ∨ (puE l s = 3 ∧ (puL l s).length = l.length ∧ nmB s = false ∧ plc s (puL l s) = 0) ∨
    (puE l s = 7 ∧ (puL l s).length = l.length ∧ 0 < plc s (puL l s) ∧ plc s (puL l s) ≤ l.length) ∨ (puE l s = 9 ∧ (puL l s).length = l.length ∧ l.length = 32 ∧ plc s (puL l s) = 0) := by
  have h32 := ((rgB_iff l).1 h).1
  have hnm := ((rgB_iff l).1 h).2.1
  have hle := plc_le s l
  have hz := plc_zero s l
  have e0 : puE l s = if nmB s = false then 3 else if 0 < plc s l then 7 else if 32 ≤ l.length then 9 else 0 := by unfold puE; rw [if_neg (by simp [h])]
  by_cases h2 : nmB s = false
  · rw [if_pos h2] at e0
    have e1 : puL l s = l := by unfold puL; rw [if_neg (by omega)]
    rw [e1]
    exact .inr (.inl ⟨e0, rfl, h2, hz.2 fun hm => by rw [hnm s hm] at h2; cases h2⟩)
  · rw [if_neg h2] at e0
    by_cases h3 : 0 < plc s l
    · rw [if_pos h3] at e0
      have e1 : puL l s = l := by unfold puL; rw [if_neg (by omega)]
      rw [e1]
      exact .inr (.inr (.inl ⟨e0, rfl, h3, hle⟩))
    · rw [if_neg h3] at e0
      by_cases h4 : 32 ≤ l.length
      · rw [if_pos h4] at e0
        have e1 : puL l s = l := by unfold puL; rw [if_neg (by omega)]
        rw [e1]
        exact .inr (.inr (.inr ⟨e0, rfl, by omega, by omega⟩))
      · rw [if_neg h4] at e0
        have e1 : puL l s = l ++ [s] := by unfold puL; rw [if_pos e0]
        rw [e1]
        exact .inl ⟨e0, by simp, plc_last (by omega)⟩

theorem rgB_ok {l : List ByteArray} (h : rgB l = true) : Ok9 l := by
  obtain ⟨h1, h2, h3⟩ := (rgB_iff l).1 h
  refine ⟨by omega, fun s hs => ?_⟩
  have := h2 s hs
  unfold nmB at this
  have := of_decide_eq_true this
  unfold maxLen
  omega

set_option maxRecDepth 100000 in
set_option maxHeartbeats 8000000 in
theorem places_walk (A : Option Addr) (n c : Nat) (ss : List ByteArray) (w : World) (hR : Rs w A n c ss) :
    Calls Try.prog 4 #[.slice A n c] w fun e w' => e = .returned (.bool true) ∧ Below w.heap.size w w' := by
  have PS := hid (fun (w1 : World) (h : Below w.heap.size w w1) => RShort_any (c := c) (hR.1.below h) (Nat.le_trans hR.2.1 hR.2.2.1))
  cases h0 : shB ss with
  | false =>
    rw [h0] at PS
    clear hR
    go_enter Try.func4, Try.ntmps4
    go_wp2_with fail
    refine (awake_any _).mono ?_
    rintro e w1 ⟨rfl, hb1⟩
    go_wp2_with fail
    refine (PS.out _ hb1).mono ?_
    rintro e w2 ⟨rfl, rfl⟩
    go_wp2_with fail
    go_ret
    exact ⟨rfl, hb1⟩
  | true =>
    rw [h0] at PS
    obtain ⟨hok, h60, hsz⟩ := shB_ok h0
    have hn : n ≤ 60 := by have := hR.len; omega
    have HR := hid hR
    have HL := hid hR.len
    have HSZ := hid hsz
    clear hR hok h60 hsz
    go_enter Try.func4, Try.ntmps4
    go_wp2_with fail
    refine (awake_any _).mono ?_
    rintro e w1 ⟨rfl, hb1⟩
    go_wp2_with fail
    refine (PS.out _ hb1).mono ?_
    rintro e w2 ⟨rfl, rfl⟩
    go_wp2_with fail
    go_loopw [3, 4] (fun v i wr => ∃ (k : Nat) (A1 : Option Addr) (m c1 : Nat) (L : List ByteArray), k ≤ n ∧ m ≤ 32 ∧ i = .int .i64 k ∧ v = .slice A1 m c1 ∧ Hid (Rs wr A1 m c1 L) ∧ Hid (rgB L = true) ∧ Below w.heap.size w wr) (fun _ i _ => n - (intOf i).toNat)
    case atStart => exact ⟨0, none, 0, 0, [], Nat.zero_le _, by omega, rfl, rfl, hid ⟨Sl.nil _ _ _, Nat.le_refl _, Nat.zero_le _, fun _ => rfl⟩, hid (by decide), hb1⟩
    case round =>
      obtain ⟨k, A1, m, c1, L, hk, hm, rfl, rfl, hRL, hgL, hb⟩ := hrel
      by_cases hlt : k < n
      · obtain ⟨b, o, u, rfl, hbl, hu, hc⟩ := (HR.out.1.below hb).get hlt
        have hxm := hid (show ∃ x, ss[k]? = some x ∧ x.size ≤ 100 from ⟨ss[k]'(by have := HL.out; omega), List.getElem?_eq_getElem _, HSZ.out _ (List.getElem_mem _)⟩)
        rw [st9_at hu] at hc
        clear hu
        obtain ⟨x, hx, hx100⟩ := hxm.out
        rw [hx] at hc
        simp only [Option.getD_some] at hc
        clear hx hxm
        have hsm : x.size ≤ maxLen := by unfold maxLen; omega
        have P1 := hid (Put_any (cap := c1) (rgB_ok hgL.out) hsm hRL.out.1 (Nat.le_refl _) hRL.out.2.2.2)
        have HF := hid (put_facts x hgL.out)
        have hgL' := hid (puL_right (s := x) hgL.out)
        have hpre := hid (puL_prefix L x)
        have hml := hid hRL.out.len
        have HAT := hid (plc_at x (puL L x))
        have hPL := plc_le x (puL L x)
        have HPL := hid hPL
        clear hPL
        have P2f := hid (fun A3 n3 c3 B (w3 : World) hS hB => Place_any (A := A3) (cap := c3) (n := n3) (B := B) (w := w3) (rgB_ok hgL'.out) hsm hS hB)
        have P3f := hid (fun A3 n3 c3 B (w3 : World) hS hB => Right_any (A := A3) (cap := c3) (n := n3) (B := B) (w := w3) (rgB_ok hgL'.out) hS hB)
        have h32 := hid ((rgB_iff _).1 hgL'.out).1
        have hpre' : (puL L x).take m = L := by rw [hml.out]; exact hpre.out
        have HPR := hid hpre'
        clear hpre' hpre
        generalize puL L x = L' at *
        generalize puE L x = E at *
        have hgt := hgL'.out
        rw [hgt] at P3f
        clear hgt
        generalize plc x L' = K at *
        have hl' := hid (show m = L.length from hml.out)
        clear hml
        rcases HF.out with hF | hF | hF | hF
        · obtain ⟨rfl, hL, hK⟩ := hF
          obtain rfl : K = m + 1 := by have := hl'.out; omega
          have HLL := hid hL
          clear hK hL
          go_wp2_with fail
          refine P1.out.mono ?_
          rintro e w3 ⟨⟨A3, m3, c3, rfl, hR3⟩, hb3⟩
          obtain rfl : m3 = m + 1 := by have := hR3.len; have := hl'.out; have := HLL.out; omega
          have hbl' : b < wr.heap.size := Nat.lt_of_lt_of_le hbl hb.size
          have hc3 := (hb3.cell (p := ⟨b, o + k, none⟩) hbl').trans hc
          have hc3m : m ≤ c3 := by have := hR3.2.1; omega
          have B3 := hb.trans (hb3.mono hb.size)
          have P2 := hid (P2f.out A3 _ c3 _ w3 hR3.1 (Nat.le_refl _))
          clear P1 hc P2f
          have HR3 := hid hR3
          have hb3' : b < w3.heap.size := Nat.lt_of_lt_of_le hbl' hb3.size
          clear hR3
          go_wp2_with fail
          refine P2.out.mono ?_
          rintro e w4 ⟨rfl, hb4⟩
          have hc4 := (hb4.cell (p := ⟨b, o + k, none⟩) hb3').trans hc3
          have hb4' : b < w4.heap.size := Nat.lt_of_lt_of_le hb3' hb4.size
          have B4 := B3.trans (hb4.mono B3.size)
          have P3 := hid (P3f.out A3 _ c3 _ w4 (HR3.out.below hb4).1 (Nat.le_refl _))
          clear P2 P3f hc3
          go_wp2_with fail
          refine P3.out.mono ?_
          rintro e w5 ⟨rfl, hb5⟩
          have hc5 := (hb5.cell (p := ⟨b, o + k, none⟩) hb4').trans hc4
          have hb5' : b < w5.heap.size := Nat.lt_of_lt_of_le hb4' hb5.size
          have B5 := B4.trans (hb5.mono B4.size)
          have B35 := hb4.trans (hb5.mono hb4.size)
          have HT := hid (((HR3.out.below B35).1).take (k := m) (by omega))
          have HT2 := hid (show Sl w5 w5.heap.size A3 m (st9 L) by have := HT.out; rwa [st9, ← List.map_take, HPR.out] at this)
          have P4 := hid (RSame_any (c := c3) (c' := c1) HT2.out ((hRL.out.below hb3).below B35).1 (Nat.le_refl _) (Nat.le_refl _) (by omega))
          rw [decide_eq_true rfl] at P4
          clear P3 HT HT2 hc4
          go_wp2_with fail
          refine P4.out.mono ?_
          rintro e w6 ⟨rfl, hb6⟩
          have hc6 := (hb6.cell (p := ⟨b, o + k, none⟩) hb5').trans hc5
          have hb6' : b < w6.heap.size := Nat.lt_of_lt_of_le hb5' hb6.size
          have B6 := B5.trans (hb6.mono B5.size)
          have HR6 := hid ((HR3.out.below B35).below hb6)
          have P5 := hid (At_yes (cap := c3) (k := m) (s := x) HR6.out.1 (HAT.out (by omega)) (by omega))
          clear P4 hc5
          go_wp2_with fail
          refine P5.out.mono ?_
          rintro e w7 ⟨rfl, rfl⟩
          have hq : (x.toList == x.toList) = true := by simp
          go_wp2_with fail
          go_roundw
          case rel => exact ⟨k + 1, A3, _, c3, L', by omega, by have := h32.out; have := HR6.out.len; omega, by go_num, rfl, hid HR6.out, hid hgL'.out, B6⟩
          case measure => simp [intOf]; omega
        · obtain ⟨rfl, hL, hnm, rfl⟩ := hF
          have HLL := hid hL
          clear hL
          go_wp2_with fail
          refine P1.out.mono ?_
          rintro e w3 ⟨⟨A3, m3, c3, rfl, hR3⟩, hb3⟩
          obtain rfl : m = m3 := by have := hR3.len; have := hl'.out; have := HLL.out; omega
          have hbl' : b < wr.heap.size := Nat.lt_of_lt_of_le hbl hb.size
          have hc3 := (hb3.cell (p := ⟨b, o + k, none⟩) hbl').trans hc
          have hc3m : m ≤ c3 := by have := hR3.2.1; omega
          have B3 := hb.trans (hb3.mono hb.size)
          have P2 := hid (P2f.out A3 _ c3 _ w3 hR3.1 (Nat.le_refl _))
          rw [show ((0 : Nat) : Int) = 0 from rfl] at P2
          clear P1 hc P2f
          have HR3 := hid hR3
          have hb3' : b < w3.heap.size := Nat.lt_of_lt_of_le hbl' hb3.size
          clear hR3
          go_wp2_with fail
          refine P2.out.mono ?_
          rintro e w4 ⟨rfl, hb4⟩
          have hc4 := (hb4.cell (p := ⟨b, o + k, none⟩) hb3').trans hc3
          have hb4' : b < w4.heap.size := Nat.lt_of_lt_of_le hb3' hb4.size
          have B4 := B3.trans (hb4.mono B3.size)
          have P3 := hid (P3f.out A3 _ c3 _ w4 (HR3.out.below hb4).1 (Nat.le_refl _))
          clear P2 P3f hc3
          go_wp2_with fail
          refine P3.out.mono ?_
          rintro e w5 ⟨rfl, hb5⟩
          have hc5 := (hb5.cell (p := ⟨b, o + k, none⟩) hb4').trans hc4
          have hb5' : b < w5.heap.size := Nat.lt_of_lt_of_le hb4' hb5.size
          have B5 := B4.trans (hb5.mono B4.size)
          have B35 := hb4.trans (hb5.mono hb4.size)
          have HT := hid (((HR3.out.below B35).1).take (k := m) (by omega))
          have HT2 := hid (show Sl w5 w5.heap.size A3 m (st9 L) by have := HT.out; rwa [st9, ← List.map_take, HPR.out] at this)
          have P4 := hid (RSame_any (c := c3) (c' := c1) HT2.out ((hRL.out.below hb3).below B35).1 (Nat.le_refl _) (Nat.le_refl _) (by omega))
          rw [decide_eq_true rfl] at P4
          clear P3 HT HT2 hc4
          go_wp2_with fail
          refine P4.out.mono ?_
          rintro e w6 ⟨rfl, hb6⟩
          have hc6 := (hb6.cell (p := ⟨b, o + k, none⟩) hb5').trans hc5
          have hb6' : b < w6.heap.size := Nat.lt_of_lt_of_le hb5' hb6.size
          have B6 := B5.trans (hb6.mono B5.size)
          have HR6 := hid ((HR3.out.below B35).below hb6)
          have P5 := hid (At_no (A := A3) (cap := c3) (n := m) (p := 0) w6 (.inl (by omega)) (by omega) (by omega))
          clear P4 hc5
          have hnm' : (x.size : Int) < 1 ∨ (1 ≤ (x.size : Int) ∧ 24 < (x.size : Int)) := by unfold nmB at hnm; have := of_decide_eq_false hnm; omega
          rcases hnm' with hn1 | ⟨hn1, hn2⟩
          all_goals
            go_wp2_with fail
            refine P5.out.mono ?_
            rintro e w7 ⟨rfl, rfl⟩
            have hq : (x.toList == x.toList) = true := by simp
            go_wp2_with fail
            go_roundw
            case rel => exact ⟨k + 1, A3, _, c3, L', by omega, by omega, by go_num, rfl, hid HR6.out, hid hgL'.out, B6⟩
            case measure => simp [intOf]; omega
        · obtain ⟨rfl, hL, hK1, hK2⟩ := hF
          have hK3 : K ≤ m := by have := hl'.out; omega
          have HLL := hid hL
          clear hK2 hL
          go_wp2_with fail
          refine P1.out.mono ?_
          rintro e w3 ⟨⟨A3, m3, c3, rfl, hR3⟩, hb3⟩
          obtain rfl : m = m3 := by have := hR3.len; have := hl'.out; have := HLL.out; omega
          have hbl' : b < wr.heap.size := Nat.lt_of_lt_of_le hbl hb.size
          have hc3 := (hb3.cell (p := ⟨b, o + k, none⟩) hbl').trans hc
          have hc3m : m ≤ c3 := by have := hR3.2.1; omega
          have B3 := hb.trans (hb3.mono hb.size)
          have P2 := hid (P2f.out A3 _ c3 _ w3 hR3.1 (Nat.le_refl _))
          clear P1 hc P2f
          have HR3 := hid hR3
          have hb3' : b < w3.heap.size := Nat.lt_of_lt_of_le hbl' hb3.size
          clear hR3
          go_wp2_with fail
          refine P2.out.mono ?_
          rintro e w4 ⟨rfl, hb4⟩
          have hc4 := (hb4.cell (p := ⟨b, o + k, none⟩) hb3').trans hc3
          have hb4' : b < w4.heap.size := Nat.lt_of_lt_of_le hb3' hb4.size
          have B4 := B3.trans (hb4.mono B3.size)
          have P3 := hid (P3f.out A3 _ c3 _ w4 (HR3.out.below hb4).1 (Nat.le_refl _))
          clear P2 P3f hc3
          go_wp2_with fail
          refine P3.out.mono ?_
          rintro e w5 ⟨rfl, hb5⟩
          have hc5 := (hb5.cell (p := ⟨b, o + k, none⟩) hb4').trans hc4
          have hb5' : b < w5.heap.size := Nat.lt_of_lt_of_le hb4' hb5.size
          have B5 := B4.trans (hb5.mono B4.size)
          have B35 := hb4.trans (hb5.mono hb4.size)
          have HT := hid (((HR3.out.below B35).1).take (k := m) (by omega))
          have HT2 := hid (show Sl w5 w5.heap.size A3 m (st9 L) by have := HT.out; rwa [st9, ← List.map_take, HPR.out] at this)
          have P4 := hid (RSame_any (c := c3) (c' := c1) HT2.out ((hRL.out.below hb3).below B35).1 (Nat.le_refl _) (Nat.le_refl _) (by omega))
          rw [decide_eq_true rfl] at P4
          clear P3 HT HT2 hc4
          go_wp2_with fail
          refine P4.out.mono ?_
          rintro e w6 ⟨rfl, hb6⟩
          have hc6 := (hb6.cell (p := ⟨b, o + k, none⟩) hb5').trans hc5
          have hb6' : b < w6.heap.size := Nat.lt_of_lt_of_le hb5' hb6.size
          have B6 := B5.trans (hb6.mono B5.size)
          have HR6 := hid ((HR3.out.below B35).below hb6)
          have P5 := hid (At_yes (cap := c3) (k := K - 1) (s := x) HR6.out.1 (HAT.out hK1) (by omega))
          rw [show ((K - 1 : Nat) : Int) + 1 = K by omega] at P5
          clear P4 hc5
          go_wp2_with fail
          refine P5.out.mono ?_
          rintro e w7 ⟨rfl, rfl⟩
          have hq : (x.toList == x.toList) = true := by simp
          go_wp2_with fail
          go_roundw
          case rel => exact ⟨k + 1, A3, _, c3, L', by omega, by omega, by go_num, rfl, hid HR6.out, hid hgL'.out, B6⟩
          case measure => simp [intOf]; omega
        · obtain ⟨rfl, hL, h32', rfl⟩ := hF
          have hm32 := hid (show m = 32 by have := hl'.out; omega)
          have HLL := hid hL
          clear h32' hL
          go_wp2_with fail
          refine P1.out.mono ?_
          rintro e w3 ⟨⟨A3, m3, c3, rfl, hR3⟩, hb3⟩
          obtain rfl : m = m3 := by have := hR3.len; have := hl'.out; have := HLL.out; omega
          have hbl' : b < wr.heap.size := Nat.lt_of_lt_of_le hbl hb.size
          have hc3 := (hb3.cell (p := ⟨b, o + k, none⟩) hbl').trans hc
          have hc3m : m ≤ c3 := by have := hR3.2.1; omega
          have B3 := hb.trans (hb3.mono hb.size)
          have P2 := hid (P2f.out A3 _ c3 _ w3 hR3.1 (Nat.le_refl _))
          rw [show ((0 : Nat) : Int) = 0 from rfl] at P2
          clear P1 hc P2f
          have HR3 := hid hR3
          have hb3' : b < w3.heap.size := Nat.lt_of_lt_of_le hbl' hb3.size
          clear hR3
          go_wp2_with fail
          refine P2.out.mono ?_
          rintro e w4 ⟨rfl, hb4⟩
          have hc4 := (hb4.cell (p := ⟨b, o + k, none⟩) hb3').trans hc3
          have hb4' : b < w4.heap.size := Nat.lt_of_lt_of_le hb3' hb4.size
          have B4 := B3.trans (hb4.mono B3.size)
          have P3 := hid (P3f.out A3 _ c3 _ w4 (HR3.out.below hb4).1 (Nat.le_refl _))
          clear P2 P3f hc3
          go_wp2_with fail
          refine P3.out.mono ?_
          rintro e w5 ⟨rfl, hb5⟩
          have hc5 := (hb5.cell (p := ⟨b, o + k, none⟩) hb4').trans hc4
          have hb5' : b < w5.heap.size := Nat.lt_of_lt_of_le hb4' hb5.size
          have B5 := B4.trans (hb5.mono B4.size)
          have B35 := hb4.trans (hb5.mono hb4.size)
          have HT := hid (((HR3.out.below B35).1).take (k := m) (by omega))
          have HT2 := hid (show Sl w5 w5.heap.size A3 m (st9 L) by have := HT.out; rwa [st9, ← List.map_take, HPR.out] at this)
          have P4 := hid (RSame_any (c := c3) (c' := c1) HT2.out ((hRL.out.below hb3).below B35).1 (Nat.le_refl _) (Nat.le_refl _) (by omega))
          rw [decide_eq_true rfl] at P4
          clear P3 HT HT2 hc4
          go_wp2_with fail
          refine P4.out.mono ?_
          rintro e w6 ⟨rfl, hb6⟩
          have hc6 := (hb6.cell (p := ⟨b, o + k, none⟩) hb5').trans hc5
          have hb6' : b < w6.heap.size := Nat.lt_of_lt_of_le hb5' hb6.size
          have B6 := B5.trans (hb6.mono B5.size)
          have HR6 := hid ((HR3.out.below B35).below hb6)
          have P5 := hid (At_no (A := A3) (cap := c3) (n := m) (p := 0) w6 (.inl (by omega)) (by omega) (by omega))
          clear P4 hc5
          obtain rfl : m = 32 := hm32.out
          go_wp2_with fail
          refine P5.out.mono ?_
          rintro e w7 ⟨rfl, rfl⟩
          have hq : (x.toList == x.toList) = true := by simp
          go_wp2_with fail
          go_roundw
          case rel => exact ⟨k + 1, A3, _, c3, L', by omega, by omega, by go_num, rfl, hid HR6.out, hid hgL'.out, B6⟩
          case measure => simp [intOf]; omega
      · go_wp2
        go_ret
        exact ⟨rfl, hb⟩
end Go.Proofs.Ytmcfmpafoanajaa
