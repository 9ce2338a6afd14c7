/- The walk of NamesRight. -/
import Derived.Test.YtmcfmpafoanajaaNamesA
namespace Go.Proofs.Ytmcfmpafoanajaa
open Go.ChangeShapes Go.WideShapes Go.ChangeAt Go.RowKit Fb Go.Maps

set_option maxRecDepth 100000 in
set_option maxHeartbeats 8000000 in
theorem right_walk (A : Option Addr) (n c : Nat) (ss : List ByteArray) (s : ByteArray) (p : Int) (w : World) (hR : Rs w A n c ss) (hp : -9223372036854775808 ≤ p ∧ p ≤ 9223372036854775807) :
    Calls Try.prog 3 #[.slice A n c, .string s, .int .i64 p] w fun e w' => e = .returned (.bool true) ∧ Below w.heap.size w w' := by
  have hcm := hR.2.2.1
  have PS := hid (fun (w1 : World) (h : Below w.heap.size w w1) => RShort_any (c := c) (hR.1.below h) (Nat.le_trans hR.2.1 hR.2.2.1))
  cases h0 : shB ss with
  | false =>
    rw [h0] at PS
    clear hR
    go_enter Try.func3, Try.ntmps3
    go_wp2_with fail
    refine (awake_any _).mono ?_
    rintro e w1 ⟨rfl, hb1⟩
    go_wp2_with fail
    refine (PS.out _ hb1).mono ?_
    rintro e w2 ⟨rfl, rfl⟩
    go_wp2_with fail
    go_ret
    exact ⟨rfl, hb1⟩
  | true =>
    rw [h0] at PS
    by_cases hs : (100 : Int) < s.size
    · clear hR
      go_enter Try.func3, Try.ntmps3
      go_wp2_with fail
      refine (awake_any _).mono ?_
      rintro e w1 ⟨rfl, hb1⟩
      go_wp2_with fail
      refine (PS.out _ hb1).mono ?_
      rintro e w2 ⟨rfl, rfl⟩
      go_wp2_with fail
      go_ret
      exact ⟨rfl, hb1⟩
    · obtain ⟨hok, h60, -⟩ := shB_ok h0
      have hn : n ≤ 60 := by have := hR.len; omega
      have hsm : s.size ≤ maxLen := by unfold maxLen; omega
      have HR := hid hR
      have HOK := hid hok
      have P1 := hid (fun (w1 : World) (h : Rs w1 A n c ss) => Put_any (cap := c) hok hsm h.1 (Nat.le_refl _) h.2.2.2)
      have P2 := hid (fun (w1 : World) (h : Rs w1 A n c ss) => RPut_any h (by omega) s)
      have P3 := hid (fun (w1 : World) (h : Rs w1 A n c ss) => Right_any (cap := c) hok h.1 (Nat.le_refl _))
      have P4 := hid (fun (w1 : World) (h : Rs w1 A n c ss) => RRight_any (c := c) h.1 (by unfold maxLen; omega))
      have P5 := hid (fun (w1 : World) (h : Rs w1 A n c ss) => Place_any (cap := c) hok hsm h.1 (Nat.le_refl _))
      have P6 := hid (fun (w1 : World) (h : Rs w1 A n c ss) => RPlace_any (c := c) h.1 (by unfold maxLen; omega) s)
      have hq := plc_le s ss
      have hl := hR.len
      have hm1 : (puL ss s).length ≤ 1000000 := by
        unfold puL; split
        · simp; omega
        · omega
      have HM := hid hm1
      have hqn : plc s ss ≤ n := by omega
      have hE := puE_cases ss s
      clear hR hok hq hl hm1 h60
      generalize plc s ss = q at *
      generalize puE ss s = E at *
      generalize puL ss s = L at *
      generalize rgB ss = g at *
      have hE' : 0 ≤ E ∧ E ≤ 9 := by omega
      clear hE
      by_cases hp1 : p < 1
      · have P7 := hid (fun (w1 : World) => At_no (A := A) (cap := c) (n := n) w1 (.inl hp1) (by omega) hp)
        go_enter Try.func3, Try.ntmps3
        go_wp2_with fail
        refine (awake_any _).mono ?_
        rintro e w1 ⟨rfl, hb1⟩
        go_wp2_with fail
        refine (PS.out _ hb1).mono ?_
        rintro e w2 ⟨rfl, rfl⟩
        go_wp2_with fail
        refine (P1.out _ (HR.out.below hb1)).mono ?_
        rintro e w3 ⟨⟨A3, m3, c3, rfl, hR3⟩, hb3⟩
        have B3 := hb1.trans (hb3.mono hb1.size)
        have hm3 : m3 ≤ 1000000 := by have := hR3.len; have := HM.out; omega
        have HR3 := hid hR3
        clear hR3
        go_wp2_with fail
        refine (P2.out _ (HR.out.below B3)).mono ?_
        rintro e w4 ⟨⟨A4, m4, c4, rfl, hR4⟩, hb4⟩
        have B4 := B3.trans (hb4.mono B3.size)
        have HR4 := hid hR4
        clear hR4
        go_wp2_with fail
        refine (P3.out _ (HR.out.below B4)).mono ?_
        rintro e w5 ⟨rfl, hb5⟩
        have B5 := B4.trans (hb5.mono B4.size)
        go_wp2_with fail
        refine (P4.out _ (HR.out.below B5)).mono ?_
        rintro e w6 ⟨rfl, rfl⟩
        go_wp2_with fail
        refine (P5.out _ (HR.out.below B5)).mono ?_
        rintro e w6 ⟨rfl, hb6⟩
        have B6 := B5.trans (hb6.mono B5.size)
        go_wp2_with fail
        refine (P6.out _ (HR.out.below B6)).mono ?_
        rintro e w7 ⟨rfl, rfl⟩
        have P8 := hid (RSame_any (c := c3) (c' := c4) ((HR3.out.below hb4).below (hb5.trans (hb6.mono hb5.size))).1 (HR4.out.below (hb5.trans (hb6.mono hb5.size))).1 (Nat.le_refl _) (Nat.le_refl _) hm3)
        rw [decide_eq_true rfl] at P8
        go_wp2_with fail
        refine P8.out.mono ?_
        rintro e w8 ⟨rfl, hb8⟩
        have B8 := B6.trans (hb8.mono B6.size)
        go_wp2_with fail
        refine (P7.out _).mono ?_
        rintro e w9 ⟨rfl, rfl⟩
        go_wp2_with fail
        go_ret
        exact ⟨rfl, B8⟩
      · by_cases hp2 : (n : Int) < p
        · have P7 := hid (fun (w1 : World) => At_no (A := A) (cap := c) (n := n) w1 (.inr hp2) (by omega) hp)
          go_enter Try.func3, Try.ntmps3
          go_wp2_with fail
          refine (awake_any _).mono ?_
          rintro e w1 ⟨rfl, hb1⟩
          go_wp2_with fail
          refine (PS.out _ hb1).mono ?_
          rintro e w2 ⟨rfl, rfl⟩
          go_wp2_with fail
          refine (P1.out _ (HR.out.below hb1)).mono ?_
          rintro e w3 ⟨⟨A3, m3, c3, rfl, hR3⟩, hb3⟩
          have B3 := hb1.trans (hb3.mono hb1.size)
          have hm3 : m3 ≤ 1000000 := by have := hR3.len; have := HM.out; omega
          have HR3 := hid hR3
          clear hR3
          go_wp2_with fail
          refine (P2.out _ (HR.out.below B3)).mono ?_
          rintro e w4 ⟨⟨A4, m4, c4, rfl, hR4⟩, hb4⟩
          have B4 := B3.trans (hb4.mono B3.size)
          have HR4 := hid hR4
          clear hR4
          go_wp2_with fail
          refine (P3.out _ (HR.out.below B4)).mono ?_
          rintro e w5 ⟨rfl, hb5⟩
          have B5 := B4.trans (hb5.mono B4.size)
          go_wp2_with fail
          refine (P4.out _ (HR.out.below B5)).mono ?_
          rintro e w6 ⟨rfl, rfl⟩
          go_wp2_with fail
          refine (P5.out _ (HR.out.below B5)).mono ?_
          rintro e w6 ⟨rfl, hb6⟩
          have B6 := B5.trans (hb6.mono B5.size)
          go_wp2_with fail
          refine (P6.out _ (HR.out.below B6)).mono ?_
          rintro e w7 ⟨rfl, rfl⟩
          have P8 := hid (RSame_any (c := c3) (c' := c4) ((HR3.out.below hb4).below (hb5.trans (hb6.mono hb5.size))).1 (HR4.out.below (hb5.trans (hb6.mono hb5.size))).1 (Nat.le_refl _) (Nat.le_refl _) hm3)
          rw [decide_eq_true rfl] at P8
          go_wp2_with fail
          refine P8.out.mono ?_
          rintro e w8 ⟨rfl, hb8⟩
          have B8 := B6.trans (hb8.mono B6.size)
          go_wp2_with fail
          refine (P7.out _).mono ?_
          rintro e w9 ⟨rfl, rfl⟩
          go_wp2_with fail
          go_ret
          exact ⟨rfl, B8⟩
        · obtain ⟨k, rfl⟩ : ∃ k : Nat, p = (k : Int) + 1 := ⟨(p - 1).toNat, by omega⟩
          have hk : k < n := by omega
          have hx : ss[k]? = some (ss[k]?.getD default) := by rw [List.getElem?_eq_getElem (by have := HR.out.len; omega)]; rfl
          have PX := hid (fun (w1 : World) (h : Rs w1 A n c ss) => At_yes (cap := c) h.1 hx (by omega))
          have PC := hid (fun (w1 : World) (h : Rs w1 A n c ss) => h.1.get hk)
          clear hx
          have hX := hid (show ∀ u, (st9 ss)[k]? = some u → u = .string (ss[k]?.getD default) from fun u h => st9_at h)
          generalize ss[k]?.getD default = x at *
          go_enter Try.func3, Try.ntmps3
          go_wp2_with fail
          refine (awake_any _).mono ?_
          rintro e w1 ⟨rfl, hb1⟩
          go_wp2_with fail
          refine (PS.out _ hb1).mono ?_
          rintro e w2 ⟨rfl, rfl⟩
          go_wp2_with fail
          refine (P1.out _ (HR.out.below hb1)).mono ?_
          rintro e w3 ⟨⟨A3, m3, c3, rfl, hR3⟩, hb3⟩
          have B3 := hb1.trans (hb3.mono hb1.size)
          have hm3 : m3 ≤ 1000000 := by have := hR3.len; have := HM.out; omega
          have HR3 := hid hR3
          clear hR3
          go_wp2_with fail
          refine (P2.out _ (HR.out.below B3)).mono ?_
          rintro e w4 ⟨⟨A4, m4, c4, rfl, hR4⟩, hb4⟩
          have B4 := B3.trans (hb4.mono B3.size)
          have HR4 := hid hR4
          clear hR4
          go_wp2_with fail
          refine (P3.out _ (HR.out.below B4)).mono ?_
          rintro e w5 ⟨rfl, hb5⟩
          have B5 := B4.trans (hb5.mono B4.size)
          go_wp2_with fail
          refine (P4.out _ (HR.out.below B5)).mono ?_
          rintro e w6 ⟨rfl, rfl⟩
          go_wp2_with fail
          refine (P5.out _ (HR.out.below B5)).mono ?_
          rintro e w6 ⟨rfl, hb6⟩
          have B6 := B5.trans (hb6.mono B5.size)
          go_wp2_with fail
          refine (P6.out _ (HR.out.below B6)).mono ?_
          rintro e w7 ⟨rfl, rfl⟩
          have P8 := hid (RSame_any (c := c3) (c' := c4) ((HR3.out.below hb4).below (hb5.trans (hb6.mono hb5.size))).1 (HR4.out.below (hb5.trans (hb6.mono hb5.size))).1 (Nat.le_refl _) (Nat.le_refl _) hm3)
          rw [decide_eq_true rfl] at P8
          go_wp2_with fail
          refine P8.out.mono ?_
          rintro e w8 ⟨rfl, hb8⟩
          have B8 := B6.trans (hb8.mono B6.size)
          go_wp2_with fail
          refine (PX.out _ (HR.out.below B8)).mono ?_
          rintro e w9 ⟨rfl, rfl⟩
          obtain ⟨b, o, u, rfl, hb, hu, hc⟩ := PC.out _ (HR.out.below B8)
          obtain rfl := hX.out _ hu
          clear hu hX PC
          have hq : (x.toList == x.toList) = true := by simp
          go_wp2_with fail
          go_ret
          exact ⟨rfl, B8⟩
end Go.Proofs.Ytmcfmpafoanajaa
