/- Layer 9, the reference: contract of Make. -/
import Derived.Test.YtondnbnaoacanaaGreatDoorSegG
import Derived.Test.YtondnbnaoacanaaGreatDoorSegS
import Derived.Deep.DeepCutAuto
import Derived.BigQuiet
namespace Go.Proofs.YtondnbnaoacanaaGreatDoor
open Go.ChangeShapes Go.WideShapes Go.ChangeAt Go.RowKit Go.Deep Fb Go.Maps

section
variable {wr w9 : World} {A1 A5 : Option Addr} {n1 c1 n5 c5 : Nat} {q t : Int} {zs : List Int} {ss : List ByteArray}
theorem mt_a (hb9 : Below wr.drew.heap.size wr.drew w9) (hR1 : Rw w9 A1 n1 c1 zs) (hR5 : Rs w9 A5 n5 c5 ss) :
    Below wr.heap.size wr (w9.alloc (.cells #[.int .i64 q, .int .i64 t, .slice A5 n5 c5] 24)) ∧ wr.heap.size ≤ w9.heap.size ∧ (w9.alloc (.cells #[.int .i64 q, .int .i64 t, .slice A5 n5 c5] 24)).heap[w9.heap.size]? = some (.cells #[.int .i64 q, .int .i64 t, .slice A5 n5 c5] 24 (0, 0)) ∧
      Rw (w9.alloc (.cells #[.int .i64 q, .int .i64 t, .slice A5 n5 c5] 24)) A1 n1 c1 zs ∧ Rs (w9.alloc (.cells #[.int .i64 q, .int .i64 t, .slice A5 n5 c5] 24)) A5 n5 c5 ss := by
  have h : Below wr.heap.size wr w9 := (Below.drew (Below.refl _ _)).trans hb9
  have ha : ∀ o, Below w9.heap.size w9 (w9.alloc o) := fun o => (Below.refl _ _).alloc (Nat.le_refl _) _
  exact ⟨h.alloc h.size _, h.size, heap_alloc_new _ _, hR1.below (ha _), hR5.below (ha _)⟩
theorem mt_c (hb9 : Below (wr.drew.alloc (.cells #[.int .i64 0, .int .i64 0, .slice none 0 0] 24)).heap.size (wr.drew.alloc (.cells #[.int .i64 0, .int .i64 0, .slice none 0 0] 24)) w9) : w9.heap[wr.heap.size]? = some (.cells #[.int .i64 0, .int .i64 0, .slice none 0 0] 24 (0, 0)) :=
  (hb9.block wr.heap.size (by simp)).trans (heap_alloc_new wr.drew _)
theorem mt_b (hb9 : Below (wr.drew.alloc (.cells #[.int .i64 0, .int .i64 0, .slice none 0 0] 24)).heap.size (wr.drew.alloc (.cells #[.int .i64 0, .int .i64 0, .slice none 0 0] 24)) w9) (hR1 : Rw w9 A1 n1 c1 zs) (hR5 : Rs w9 A5 n5 c5 ss) :
    Below wr.heap.size wr (((w9.setCell ⟨wr.heap.size, 0, none⟩ (.int .i64 q)).setCell ⟨wr.heap.size, 1, none⟩ (.int .i64 t)).setCell ⟨wr.heap.size, 2, none⟩ (.slice A5 n5 c5)) ∧ wr.heap.size ≤ wr.heap.size ∧ (((w9.setCell ⟨wr.heap.size, 0, none⟩ (.int .i64 q)).setCell ⟨wr.heap.size, 1, none⟩ (.int .i64 t)).setCell ⟨wr.heap.size, 2, none⟩ (.slice A5 n5 c5)).heap[wr.heap.size]? = some (.cells #[.int .i64 q, .int .i64 t, .slice A5 n5 c5] 24 (0, 0)) ∧
      Rw (((w9.setCell ⟨wr.heap.size, 0, none⟩ (.int .i64 q)).setCell ⟨wr.heap.size, 1, none⟩ (.int .i64 t)).setCell ⟨wr.heap.size, 2, none⟩ (.slice A5 n5 c5)) A1 n1 c1 zs ∧ Rs (((w9.setCell ⟨wr.heap.size, 0, none⟩ (.int .i64 q)).setCell ⟨wr.heap.size, 1, none⟩ (.int .i64 t)).setCell ⟨wr.heap.size, 2, none⟩ (.slice A5 n5 c5)) A5 n5 c5 ss := by
  have k := mt_c hb9
  have h0 : Below wr.heap.size wr (wr.drew.alloc (.cells #[.int .i64 0, .int .i64 0, .slice none 0 0] 24)) := (Below.drew (Below.refl _ _)).alloc (Nat.le_refl _) _
  have h := h0.trans (hb9.mono h0.size)
  have S := sto3 w9 wr.heap.size (.int .i64 q) (.int .i64 t) (.slice A5 n5 c5)
  exact ⟨S.below h (Nat.le_refl _), Nat.le_refl _, all3 k, hR1.lts k S.lts, hR5.lts k S.lts⟩
end

set_option maxRecDepth 100000 in
set_option maxHeartbeats 16000000 in
theorem RMake_any (m q t : Int) {A : Option Addr} {n cp : Nat} {ss : List ByteArray} (hn9 : n ≤ 1000000) {AL : Option Addr} {cl : Nat} {l : List Ev} (hl : l.length ≤ 1000000) (sd : Bool) {w : World} (hR : Rs w A n cp ss) (hS : Se w w.heap.size AL l) :
    Calls Tryz.prog 17 #[.int .i64 m, .agg #[.int .i64 q, .int .i64 t, .slice A n cp], .slice AL l.length cl, .bool sd] w (SgR w (mkE m ⟨q, t, ss⟩ l) (mkY m ⟨q, t, ss⟩ l sd)) := by
  have PM := hid (RMay_any m)
  have PR := hid (fun (w1 : World) (h : Below w.heap.size w w1) => RRight7 q t (hR.below h) hn9)
  have HLN := hid hR.len
  have hbA : Below w.heap.size w (w.alloc (.cells #[.int .i64 q, .int .i64 t, .slice A n cp] 24)) := (Below.refl _ _).alloc (Nat.le_refl _) _
  have HR := hid hR
  have HS := hid hS
  obtain ⟨L, hL⟩ : ∃ L, l.length = L := ⟨_, rfl⟩
  rw [hL] at hl ⊢
  have HL := hid hL
  obtain ⟨i0, hi0, hz0, hz1, hz2⟩ := info_parts u8_info
  clear hR hS hL
  have HNO := hid (show hqOk m ⟨q, t, ss⟩ = false → mkE m ⟨q, t, ss⟩ l = 1 ∧ mkY m ⟨q, t, ss⟩ l sd = [] from fun h => by
    have h1 : mkE m ⟨q, t, ss⟩ l = 1 := by unfold mkE; rw [h]; rfl
    exact ⟨h1, by unfold mkY; rw [h1]; rfl⟩)
  cases h1 : mayB m with
  | false =>
    have H1 := hid (HNO.out (by unfold hqOk; rw [h1]; rfl))
    rw [h1] at PM
    clear h1 PR HNO
    go_enter Tryz.func17, Tryz.ntmps17
    go_wp2_with fail
    refine (PM.out _).mono ?_
    rintro e w1 ⟨rfl, rfl⟩
    go_wp2_with fail
    go_ret2
    exact SgR.err H1.out.1 H1.out.2 hbA
  | true =>
    rw [h1] at PM
    cases h2 : rcB q t ss with
    | false =>
      have H1 := hid (HNO.out (by unfold hqOk Ahd.rc; simp only; rw [h1, h2]; rfl))
      rw [h2] at PR
      clear h1 h2 HNO
      go_enter Tryz.func17, Tryz.ntmps17
      go_wp2_with fail
      refine (PM.out _).mono ?_
      rintro e w1 ⟨rfl, rfl⟩
      go_wp2_with fail
      refine (PR.out _ hbA).mono ?_
      rintro e w2 ⟨rfl, hb1⟩
      go_wp2_with fail
      go_ret2
      exact SgR.err H1.out.1 H1.out.2 (hbA.trans (hb1.mono hbA.size))
    | true =>
      rw [h2] at PR
      by_cases h3 : n = 0
      case neg =>
        have hp0 : decide ((0 : Int) < (n : Int)) = true := decide_eq_true (by omega)
        have hp1 : 0 < n := by omega
        have H1 := hid (HNO.out (by
          unfold hqOk Ahd.rc; simp only; rw [h1, h2]
          cases ss with
          | nil => exact absurd HLN.out h3
          | cons a l => rfl))
        clear h1 h2 HLN HNO
        go_enter Tryz.func17, Tryz.ntmps17
        go_wp2_with fail
        refine (PM.out _).mono ?_
        rintro e w1 ⟨rfl, rfl⟩
        go_wp2_with fail
        refine (PR.out _ hbA).mono ?_
        rintro e w2 ⟨rfl, hb1⟩
        have hbw2 : Below w.heap.size w w2 := hbA.trans (hb1.mono hbA.size)
        have K1 := (hb1.block w.heap.size (by simp)).trans (heap_alloc_new w _)
        have z1 := blk_lt K1
        obtain ⟨u10, u11, u12, f10, f11, f12⟩ := blk3 K1
        clear hb1 PM PR
        go_wp2_with fail
        go_ret2
        exact SgR.err H1.out.1 H1.out.2 hbw2
      case pos =>
        subst h3
        obtain rfl : ss = [] := List.eq_nil_of_length_eq_zero HLN.out.symm
        have hok : hqOk m ⟨q, t, []⟩ = true := by unfold hqOk Ahd.rc; simp only; rw [h1, h2]; rfl
        obtain ⟨hm, hr, -⟩ := hq_iff.1 hok
        have HE : Hid (mkE m ⟨q, t, []⟩ l = errL ⟨q, t, []⟩ l) := by show _ = _; unfold mkE; rw [hok]; rfl
        have HY : Hid (errL ⟨q, t, []⟩ l = 0 → mkY m ⟨q, t, []⟩ l sd = mkB m ⟨q, t, []⟩ l sd) := by intro h; unfold mkY; rw [HE.out, h]; rfl
        have HN : Hid (errL ⟨q, t, []⟩ l ≠ 0 → mkY m ⟨q, t, []⟩ l sd = []) := by intro h; unfold mkY; rw [HE.out, if_neg h]
        have HM := hid hm
        have HRC := hid hr
        have HH := hid (sgH_room hm.2 hr)
        have PH := hid (RHead9 m q t (A := A) (n := 0) (cp := cp) hm hr)
        unfold PutsU at PH
        clear hok hm hr h1 h2 HNO HLN
        go_enter Tryz.func17, Tryz.ntmps17
        go_wp2_with fail
        refine (PM.out _).mono ?_
        rintro e w0 ⟨rfl, rfl⟩
        go_wp2_with fail
        refine (PR.out _ hbA).mono ?_
        rintro e w9 ⟨rfl, hb0⟩
        have hbw9 : Below w.heap.size w w9 := hbA.trans (hb0.mono hbA.size)
        have K1 := (hb0.block w.heap.size (by simp)).trans (heap_alloc_new w _)
        have z1 := blk_lt K1
        obtain ⟨u10, u11, u12, f10, f11, f12⟩ := blk3 K1
        have HK1 := hid K1
        clear hb0 PM PR K1
        go_wp2_with fail
        refine (PH.out _).mono ?_
        rintro e w1 ⟨⟨v, rfl, hown, hsp⟩, hb1⟩
        have hbw1 : Below w.heap.size w w1 := hbw9.trans (hb1.mono hbw9.size)
        have K1 := (hb1.block w.heap.size z1).trans HK1.out
        clear z1 u10 u11 u12 f10 f11 f12 HK1
        have z1 := blk_lt K1
        obtain ⟨u10, u11, u12, f10, f11, f12⟩ := blk3 K1
        have hown := own_down hown hbw9.size
        have hal : Below w1.heap.size w1 (w1.alloc (.cells #[.int .i64 q, .int .i64 t, .slice A 0 cp] 24)) := (Below.refl _ _).alloc (Nat.le_refl _) _
        have HO := hid (And.intro (own_below hown hal) (SprY.below hsp hown hal))
        have HK0 := hid (heap_alloc_new w1 (.cells #[.int .i64 q, .int .i64 t, .slice A 0 cp] 24))
        have hbw2 := hbw1.trans (hal.mono hbw1.size)
        have HR0 := hid (HR.out.below hbw2)
        have hgl : w.heap.size ≤ w1.heap.size := hbw1.size
        clear K1 hown hsp hb1 PH hbw9
        go_wp2
        go_loopw [10, 12] (fun v i wr => ∃ (j : Nat) (A9 : Option Addr) (n9 c9 : Nat), j ≤ L ∧ i = .int .i64 j ∧ Hid (okL ⟨q, t, []⟩ (l.take j)) ∧
            Hid (wr.heap[w1.heap.size]? = some (.cells #[.int .i64 (bhC ⟨q, t, []⟩ (l.take j)).q, .int .i64 (bhC ⟨q, t, []⟩ (l.take j)).t, .slice A9 n9 c9] 24 (0, 0))) ∧
            Hid (Rs wr A9 n9 c9 (bhC ⟨q, t, []⟩ (l.take j)).l) ∧
            Hid (wr.ownsRow w.heap.size 5 1 v (sgH m ⟨q, t, []⟩ ++ evB ⟨q, t, []⟩ (l.take j)).length (by8 (sgH m ⟨q, t, []⟩ ++ evB ⟨q, t, []⟩ (l.take j)))) ∧
            Hid (SprY Z8 wr v (sgH m ⟨q, t, []⟩ ++ evB ⟨q, t, []⟩ (l.take j)).length) ∧ Below w.heap.size w wr)
          (fun _ i _ => L - (intOf i).toNat)
        case atStart =>
          refine ⟨0, A, 0, cp, Nat.zero_le _, rfl, hid (by rw [List.take_zero]; trivial), hid ?_, hid ?_, hid ?_, hid ?_, hbw2⟩
          · rw [List.take_zero]; exact HK0.out
          · rw [List.take_zero]; exact HR0.out
          · rw [List.take_zero]; simp only [evB, List.append_nil]; exact HO.out.1
          · rw [List.take_zero]; simp only [evB, List.append_nil]; exact HO.out.2
        case round =>
          obtain ⟨j, A9, n9, c9, hj, rfl, hok, hK, hR9, hown, hsp, hbr⟩ := hrel
          have y1 := blk_lt hK.out
          obtain ⟨s0, s1, s2, f0, f1, f2⟩ := blk3 hK.out
          have HLB := hid (show (sgH m ⟨q, t, []⟩ ++ evB ⟨q, t, []⟩ (l.take j)).length ≤ 207 + 207 * j by
            have h1 := evB_room HRC.out hok.out
            have h2 := HH.out
            have h3 : (l.take j).length ≤ j := by rw [List.length_take]; omega
            rw [List.length_append]
            omega)
          by_cases hlt : j < L
          · have hjl : j < l.length := by have := HL.out; omega
            obtain ⟨b, o, rfl, hb, g0, g1, g2, g3, g4, g5, g6⟩ := (HS.out.below hbr).get hjl
            have HAT := hid (List.getElem?_eq_getElem hjl)
            generalize l[j] = X at *
            have HRX := hid (rc_bh HRC.out hok.out)
            have HNM := hid (rc_nms HRX.out)
            have PE := hid (fun (w9 : World) (h : Below wr.heap.size wr w9) => RAdd9 (bhC ⟨q, t, []⟩ (l.take j)).q (bhC ⟨q, t, []⟩ (l.take j)).t (cp := c9) X.q X.t X.k X.a X.b X.c X.s (hR9.out.below h) (by have := hR9.out.len; have := HNM.out.1; omega))
            unfold AdR at PE
            have hj0 : (0 : Int) ≤ (j : Int) := by omega
            have hj1 : (j : Int) < (L : Int) := by omega
            have hbB : b < wr.heap.size := Nat.lt_of_lt_of_le hb hbr.size
            go_upto_region 8 with fail
            go_cut [13, 14, 15] from 34 to 56 (fun s13 s14 s15 wx => ∃ (A3 : Option Addr) (n3 c3 g9 : Nat) (A4 : Option Addr) (n4 c4 : Nat), s13 = .slice A3 n3 c3 ∧ s14 = .pointer (some ⟨g9, 0, none⟩) ∧ s15 = .int .i64 (enE (bhC ⟨q, t, []⟩ (l.take j)).q (bhC ⟨q, t, []⟩ (l.take j)).t (bhC ⟨q, t, []⟩ (l.take j)).l X) ∧ Hid (Below wr.heap.size wr wx ∧ wr.heap.size ≤ g9 ∧ wx.heap[g9]? = some (.cells #[.int .i64 (enQ (bhC ⟨q, t, []⟩ (l.take j)).q (bhC ⟨q, t, []⟩ (l.take j)).t (bhC ⟨q, t, []⟩ (l.take j)).l X), .int .i64 (enT (bhC ⟨q, t, []⟩ (l.take j)).q (bhC ⟨q, t, []⟩ (l.take j)).t (bhC ⟨q, t, []⟩ (l.take j)).l X), .slice A4 n4 c4] 24 (0, 0)) ∧ Rw wx A3 n3 c3 (adB (bhC ⟨q, t, []⟩ (l.take j)).q (bhC ⟨q, t, []⟩ (l.take j)).t (bhC ⟨q, t, []⟩ (l.take j)).l X) ∧ Rs wx A4 n4 c4 (enL (bhC ⟨q, t, []⟩ (l.take j)).q (bhC ⟨q, t, []⟩ (l.take j)).t (bhC ⟨q, t, []⟩ (l.take j)).l X)))
            case first =>
              have b1 : Below wr.heap.size wr wr.drew := Below.drew (Below.refl _ _)
              have b2 : Below wr.heap.size wr (wr.drew.alloc (.cells #[.int .i64 0, .int .i64 0, .slice none 0 0] 24)) := b1.alloc (Nat.le_refl _) _
              clear HLB hsp hown HS HE HY HN HM HRC HH HRX HNM HAT
              go_region_with ((go_at_call 14; (first | refine (PE.out _ b1).mono ?_ | refine (PE.out _ b2).mono ?_); rintro e w9 ⟨⟨v3, A5, n5, c5, rfl, hown3, hR5⟩, hb9⟩; obtain ⟨A1, c1, rfl, hR1, -⟩ := own_rw hown3; have hR1 := hid hR1; have hR5 := hid hR5; clear hown3; (first | (have k9 := mt_c hb9; have y9 := blk_lt k9; obtain ⟨t90, t91, t92, f90, f91, f92⟩ := blk3 k9; clear k9) | skip)))
              all_goals
                go_wp2_with fail
                go_meet
                first
                | exact ⟨A1, _, c1, _, A5, n5, c5, rfl, rfl, rfl, mt_a hb9 hR1.out hR5.out⟩
                | exact ⟨A1, _, c1, _, A5, n5, c5, rfl, rfl, rfl, mt_b hb9 hR1.out hR5.out⟩
            case rest =>
              obtain ⟨A3, m3, c3, g9, A4, n4, c4, rfl, rfl, rfl, hcut⟩ := hcut
              obtain ⟨hbc, hg9, k9, hR3, hR4⟩ := hcut.out
              have hbw := hbr.trans (hbc.mono hbr.size)
              have K3 := (hbc.block _ y1).trans hK.out
              have HOc := hid (And.intro (own_below hown.out hbc) (SprY.below hsp.out hown.out hbc))
              have hne : ¬ g9 = w1.heap.size := by omega
              clear s0 s1 s2 f0 f1 f2 g0 g1 g2 g3 g4 g5 g6 PE hcut
              by_cases hfl : (bhC ⟨q, t, []⟩ (l.take j)).fl X = 0
              · have hen : enE (bhC ⟨q, t, []⟩ (l.take j)).q (bhC ⟨q, t, []⟩ (l.take j)).t (bhC ⟨q, t, []⟩ (l.take j)).l X = 0 := (en_fl HRX.out).trans hfl
                obtain ⟨-, -, -, e1, e2, e3⟩ := en_zero hen
                have nb : adB (bhC ⟨q, t, []⟩ (l.take j)).q (bhC ⟨q, t, []⟩ (l.take j)).t (bhC ⟨q, t, []⟩ (l.take j)).l X = frB 2 ((bhC ⟨q, t, []⟩ (l.take j)).sp X) := if_pos hen
                rw [nb] at hR3
                rw [e1, e2] at k9
                rw [e3] at hR4
                have HNX := hid (evB_next (c := ⟨q, t, []⟩) HAT.out)
                have HBH := hid (bh_at (c := ⟨q, t, []⟩) HAT.out)
                have HOK := hid (okL_next HAT.out hok.out hfl)
                have HFL := hid (show (frB 2 ((bhC ⟨q, t, []⟩ (l.take j)).sp X)).length ≤ 207 by have := sp_200 HRX.out hfl; rw [frB_len]; omega)
                obtain rfl := hR3.len
                have HR3 := hid hR3
                have HR4 := hid hR4
                have HK9 := hid k9
                have HK3 := hid K3
                rw [hen]
                clear hen e1 e2 e3 nb hfl hR3 hR4 k9 K3
                have hsz := hbw.size
                go_wp2_with (at_builtin; refine wpList_pushAllY (Z := Z8) rfl (.tmp 53) (.tmp 54) _ rfl Tryz.underlying26 hi0 hz0 hz1 hz2 rfl z8_zero rfl HOc.out.1 HOc.out.2 rfl HR3.out.2.2.2 HR3.out.1 ?_ (by8_one _) ?c2 ?c3 hsz; intro v' w' hown' hsp' hgr hnz; have HK69 := hid (grown_elseY hgr HOc.out.1 HK9.out (by decide)); have HK6 := hid (grown_elseY hgr HOc.out.1 HK3.out (by decide)); have HR6 := hid (HR4.out.nzY hnz hgr.size); have HB6 := hid (grown_low HOc.out.1 hgr hbw (Nat.le_refl _) hsz); have HO6 := hid (And.intro hown' hsp'); clear hown' hsp' hgr hnz; have y9 := blk_lt HK69.out; have y3 := blk_lt HK6.out; obtain ⟨s90, s91, s92, -, -, -⟩ := blk3 HK69.out; obtain ⟨s30, s31, s32, f30, f31, f32⟩ := blk3 HK6.out)
                case c2 => have := HLB.out; have := HFL.out; simp only [maxLen]; omega
                case c3 => have := HLB.out; have := HFL.out; omega
                go_wp2_with fail
                have S4 := sto3 w' w1.heap.size (.int .i64 X.q) (.int .i64 X.t) (.slice A4 n4 c4)
                obtain ⟨ho4, hs4⟩ := own_elseY HO6.out.1 HK6.out (by decide) S4.block
                have hs4 := hs4 HO6.out.2
                have HK7 := hid (all3 (a' := .int .i64 X.q) (b' := .int .i64 X.t) (c' := .slice A4 n4 c4) HK6.out)
                have HR7 := hid (HR6.out.sto HK6.out S4)
                have hb7 := S4.below HB6.out hgl
                have HO7 := hid (And.intro ho4 hs4)
                clear ho4 hs4
                go_roundw
                case rel =>
                  refine ⟨j + 1, A4, n4, c4, by omega, by go_num, HOK, hid ?_, hid ?_, hid ?_, hid ?_, hb7⟩
                  · rw [HBH.out]; exact HK7.out
                  · rw [HBH.out]; exact HR7.out
                  · rw [HNX.out, ← List.append_assoc, List.length_append, by8_append]; exact HO7.out.1
                  · rw [HNX.out, ← List.append_assoc, List.length_append]; exact HO7.out.2
                case measure => simp [intOf]; omega
              · have hen : enE (bhC ⟨q, t, []⟩ (l.take j)).q (bhC ⟨q, t, []⟩ (l.take j)).t (bhC ⟨q, t, []⟩ (l.take j)).l X = (bhC ⟨q, t, []⟩ (l.take j)).fl X := en_fl HRX.out
                have her := errL_at HAT.out hok.out hfl
                have HE2 := hid (HE.out.trans her)
                have HN2 := hid (HN.out (by rw [her]; exact hfl))
                rw [hen]
                clear hen her k9 K3 hR3 hR4
                generalize (bhC ⟨q, t, []⟩ (l.take j)).fl X = E at *
                go_wp2_with fail
                go_ret2
                exact SgR.err HE2.out HN2.out hbw
          · obtain rfl : j = L := by omega
            have htk : l.take j = l := List.take_of_length_le (by have := HL.out; omega)
            rw [htk] at hown hsp hok hK hR9 s0 s1 HLB
            have he0 := errL_ok.2 hok.out
            have HE0 := hid (HE.out.trans he0)
            have HY0 := hid (HY.out he0)
            clear HE HY HN htk he0
            cases sd with
            | false =>
              go_wp2_with fail
              go_ret2
              refine SgR.ok HE0.out (zs' := sgH m ⟨q, t, []⟩ ++ evB ⟨q, t, []⟩ l) (HY0.out.trans (by simp [mkB])) hown.out rfl rfl hsp.out hbr
            | true =>
              have HRX := hid (rc_bh HRC.out hok.out)
              have PZ := hid (RSeal9 j (by omega) (bhC ⟨q, t, []⟩ l).q (bhC ⟨q, t, []⟩ l).t (A := A9) (n := n9) (cp := c9) HRX.out wr)
              unfold PutsU at PZ
              have HZL := hid (sgZ_room (m := j) (c := ⟨(bhC ⟨q, t, []⟩ l).q, (bhC ⟨q, t, []⟩ l).t, (bhC ⟨q, t, []⟩ l).l⟩) (by omega) HRX.out)
              go_wp2_with fail
              refine PZ.out.mono ?_
              rintro e w3 ⟨⟨v3, rfl, hown3, hsp3⟩, hb3⟩
              obtain ⟨A3, c3, rfl, hR3, -⟩ := own_rw hown3
              have HO4 := hid (And.intro (own_below hown.out hb3) (SprY.below hsp.out hown.out hb3))
              have HR3 := hid hR3
              have hb5 := hbr.trans (hb3.mono hbr.size)
              clear hown3 hsp3 hR3 hb3
              go_wp2_with (at_builtin; refine wpList_pushAllY (Z := Z8) rfl (.tmp 58) (.tmp 62) _ rfl Tryz.underlying26 hi0 hz0 hz1 hz2 rfl z8_zero rfl HO4.out.1 HO4.out.2 rfl HR3.out.2.2.2 HR3.out.1 (fun v' w' hown' hsp' hgr hnz => ?_) (by8_one _) (by have := HLB.out; have := HZL.out; simp only [maxLen]; omega) (by have := HLB.out; have := HZL.out; omega) hb5.size)
              have hb6 := grown_low HO4.out.1 hgr hb5 (Nat.le_refl _) hb5.size
              have HO6 := hid (And.intro hown' hsp')
              clear hown' hsp' hgr hnz
              go_wp2_with fail
              go_ret2
              refine SgR.ok HE0.out (zs' := (sgH m ⟨q, t, []⟩ ++ evB ⟨q, t, []⟩ l) ++ sgZ j (bhC ⟨q, t, []⟩ l)) (HY0.out.trans (by unfold mkB; rw [if_pos rfl, HL.out])) HO6.out.1 (by simp only [List.length_append]) (by8_append _ _).symm HO6.out.2 hb6
end Go.Proofs.YtondnbnaoacanaaGreatDoor
