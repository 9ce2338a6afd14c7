/- The walk of SegmentBack. -/
import Derived.Test.YtondnbnaoacanaaDoorSegA
import Derived.Test.YtondnbnaoacanaaDoorSegB
import Derived.Test.YtondnbnaoacanaaDoorSegCutW
namespace Go.Proofs.YtondnbnaoacanaaDoor
open Go.ChangeShapes Go.WideShapes Go.ChangeAt Go.RowKit Fb Go.Maps

theorem st_sd {zs : List Int} {s : Sc} (h : stS zs s = 1 ∨ stS zs s = 4) : s.sd = decide (stS zs s = 4) := by
  unfold stS at h ⊢
  by_cases h1 : nxS zs (s.size : Int) = 1
  · rw [if_pos h1] at h ⊢
    cases s.sd <;> rfl
  · rw [if_neg h1] at h
    split at h <;> omega
theorem st_open {zs : List Int} {s : Sc} (h : s.sd = false) : stS zs s ≠ 4 := by
  unfold stS
  rw [h]
  split
  · decide
  · split <;> decide
theorem mk_back {m : Int} {c : Ahd} {l : List Ev} (h : Sg m c l) (sd : Bool) : mkE m c l = 0 ∧ mkY m c l sd = mkB m c l sd := by
  have h1 : mkE m c l = 0 := by
    unfold mkE
    rw [if_pos (hq_iff.2 ⟨h.may, h.rc, h.nil⟩)]
    exact errL_ok.2 h.ok
  exact ⟨h1, by unfold mkY; rw [if_pos h1]⟩

set_option maxRecDepth 100000 in
set_option maxHeartbeats 32000000 in
theorem back_walk (m q t : Int) {A : Option Addr} {n cp : Nat} {ss : List ByteArray} {AL : Option Addr} {cl : Nat} {l : List Ev} (sd : Bool) {AM : Option Addr} {nM cM : Nat} {zm : List Int} (w : World) (hR : Rs w A n cp ss)
    (hS : Se w w.heap.size AL l) (hcl : l.length ≤ cl) (hcm : cl ≤ maxLen) (hx : ∀ x ∈ l, x.s.size ≤ maxLen) (hM : Rw w AM nM cM zm) (hbm : Bytes zm) (hpw : Pw w) :
    Calls Tryd.prog 3 #[.int .i64 m, .agg #[.int .i64 q, .int .i64 t, .slice A n cp], .slice AL l.length cl, .bool sd, .slice AM nM cM] w fun e w' => e = .returned (.bool true) ∧ Below w.heap.size w w' := by
  have hbA : Below w.heap.size w (w.alloc (.cells #[.int .i64 q, .int .i64 t, .slice A n cp] 24)) := (Below.refl _ _).alloc (Nat.le_refl _) _
  have PA := hid (awake9 (hpw.below hbA))
  have HR := hid hR
  have HS := hid hS
  have HM := hid hM
  have HX := hid hx
  have HBM := hid hbm
  have PF := hid (fun (w1 : World) (h : Below w.heap.size w w1) => few_any q t (cp := cp) (cl := cl) (Nat.le_trans hcl hcm) (hR.below h) ((hS.below h).up h.size))
  clear hR hS hM hpw hx hbm
  unfold maxLen at hcm
  cases hfw : fwB ss l with
  | false =>
    rw [hfw] at PF
    go_enter Tryd.func3, Tryd.ntmps3
    go_wp2_with fail
    refine PA.out.mono ?_
    rintro e w1 ⟨rfl, hb1⟩
    have hbw1 : Below w.heap.size w w1 := hbA.trans (hb1.mono hbA.size)
    have K1 := (hb1.block w.heap.size (by simp)).trans (heap_alloc_new w _)
    have z1 := blk_lt K1
    obtain ⟨u10, u11, u12, f10, f11, f12⟩ := blk3 K1
    clear hb1
    go_wp2_with fail
    refine (PF.out _ hbw1).mono ?_
    rintro e w2 ⟨rfl, hb2⟩
    go_wp2_with fail
    go_ret
    exact ⟨rfl, hbw1.trans (hb2.mono hbw1.size)⟩
  | true =>
    rw [hfw] at PF
    obtain ⟨hx1, hsh, hl60⟩ := fw_ok hfw
    by_cases h300 : 3000 < nM
    · have d3 : decide ((3000 : Int) < (nM : Int)) = true := decide_eq_true (by omega)
      go_enter Tryd.func3, Tryd.ntmps3
      go_wp2_with fail
      refine PA.out.mono ?_
      rintro e w1 ⟨rfl, hb1⟩
      have hbw1 : Below w.heap.size w w1 := hbA.trans (hb1.mono hbA.size)
      have K1 := (hb1.block w.heap.size (by simp)).trans (heap_alloc_new w _)
      have z1 := blk_lt K1
      obtain ⟨u10, u11, u12, f10, f11, f12⟩ := blk3 K1
      clear hb1
      go_wp2_with fail
      refine (PF.out _ hbw1).mono ?_
      rintro e w2 ⟨rfl, hb2⟩
      go_wp2_with fail
      go_ret
      exact ⟨rfl, hbw1.trans (hb2.mono hbw1.size)⟩
    · have d3000 : decide ((3000 : Int) < (nM : Int)) = false := decide_eq_false (by omega)
      have hok := (shB_ok hsh).1
      obtain ⟨L, hL⟩ : ∃ L, l.length = L := ⟨_, rfl⟩
      have PM := hid (fun (w1 : World) (h : Below w.heap.size w w1) => Make_any m q t (cp := cp) hok (cl := cl) HX.out (by omega) sd (HR.out.below h) ((HS.out.below h).up h.size))
      unfold SgR at PM
      rw [hL] at PF PM hl60 hcl ⊢
      have HL := hid hL
      clear hfw hsh hx1 hok hL
      obtain ⟨E, hE⟩ : ∃ E, mkE m ⟨q, t, ss⟩ l = E := ⟨_, rfl⟩
      rw [hE] at PM
      by_cases hE0 : E = 0
      case neg =>
        have e0 : (E == 0) = false := by simp; omega
        go_enter Tryd.func3, Tryd.ntmps3
        go_wp2_with fail
        refine PA.out.mono ?_
        rintro e w1 ⟨rfl, hb1⟩
        have hbw1 : Below w.heap.size w w1 := hbA.trans (hb1.mono hbA.size)
        have K1 := (hb1.block w.heap.size (by simp)).trans (heap_alloc_new w _)
        have z1 := blk_lt K1
        obtain ⟨u10, u11, u12, f10, f11, f12⟩ := blk3 K1
        clear hb1
        go_wp2_with fail
        refine (PF.out _ hbw1).mono ?_
        rintro e w2 ⟨rfl, hb2⟩
        have hbw2 : Below w.heap.size w w2 := hbw1.trans (hb2.mono hbw1.size)
        have K2 := (hb2.block _ z1).trans K1
        clear z1 u10 u11 u12 f10 f11 f12 K1 hb2
        have z1 := blk_lt K2
        obtain ⟨u10, u11, u12, f10, f11, f12⟩ := blk3 K2
        have HK2 := hid K2
        clear K2
        go_wp2_with fail
        refine (PM.out _ hbw2).mono ?_
        rintro e w3 ⟨⟨v, rfl, hown, -⟩, hb3⟩
        obtain ⟨A3, c3, rfl, hR3, -⟩ := own_rw hown
        have hbw3 : Below w.heap.size w w3 := hbw2.trans (hb3.mono hbw2.size)
        clear z1 u10 u11 u12 f10 f11 f12 HK2 hown hR3 hb3 PM PF PA hbw1 hbw2 hbA hE
        go_wp2_with fail
        generalize w3 = wz at *
        have hbz : Below w.heap.size w wz := hbw3
        have PR := hid (Read_any (HM.out.below hbz) HBM.out (by have := HM.out.len; omega))
        unfold ReadR at PR
        refine PR.out.mono ?_
        rintro e wa ⟨⟨s, AE, cE, A5, n5, c5, hf, rfl, hse, hce, hcem, -, -⟩, hba⟩
        have inv := hf.1.inv
        have hbwa : Below w.heap.size w wa := hbz.trans (hba.mono hbz.size)
        have HSE := hid hse
        have HIN := hid inv
        have hle : s.size ≤ nM := by have := inv.le; have := HM.out.len; omega
        have hfew : s.evs.length ≤ 1000 := by have := inv.few; have := HM.out.len; omega
        have HEV := hid (show ∀ (j : Nat) (x : Ev), s.evs[j]? = some x → chI x.q x.t x.k x.s x.a x.b x.c = 0 ∧ (bhC s.before (s.evs.take j)).q < x.q ∧ (bhC s.before (s.evs.take j)).t ≤ x.t ∧ x.s.size ≤ maxLen from fun j x h => by
          have h0 : s.num ≠ 0 := by
            intro h0
            rw [inv.zero h0] at h
            cases h
          obtain ⟨a, b⟩ := ok_at (inv.rc h0) (inv.ok h0) h
          obtain ⟨c, d, e⟩ := fl_at b a
          exact ⟨c, d, e, by have := nm_size (fl_ok b a).nm; unfold maxLen; omega⟩)
        obtain ⟨st, hst⟩ : ∃ x, stS zm s = x := ⟨_, rfl⟩
        have HST := hid hst
        obtain ⟨M, hM⟩ : ∃ M, s.evs.length = M := ⟨_, rfl⟩
        have HMM := hid hM
        unfold scV
        rw [hM] at hce hfew ⊢
        rw [hst]
        unfold maxLen at hcem
        have d1 : decide ((s.size : Int) < 0) = false := decide_eq_false (by omega)
        have d2 : decide ((nM : Int) < (s.size : Int)) = false := decide_eq_false (by omega)
        have d3 : decide (nM < s.size) = false := decide_eq_false (by omega)
        clear PR hf hse hba inv hst hM
        by_cases h0 : s.num = 0
        · have hz := HIN.out.zero h0
          have hM0 : M = 0 := by rw [← HMM.out, hz]; rfl
          have hs0 : s.size = 0 := by rw [hz]; rfl
          have hst4 : ¬ st = 4 := by rw [← HST.out]; exact st_open (by rw [hz]; rfl)
          have b4 : (st == 4) = false := by simp; exact hst4
          have b5 : (st != 4) = true := by simp; exact hst4
          rw [h0, hs0, show ((0 : Nat) : Int) = 0 from rfl]
          subst hM0
          have h0' := hid h0
          clear hz hs0 h0 d1 d2 d3
          have K14 := heap_alloc_new wa (.cells #[.int .i64 0, .int .i64 s.before.q, .int .i64 s.before.t, .slice none 0 0, .slice AE 0 cE, .int .i64 s.after.q, .int .i64 s.after.t, .slice A5 n5 c5, .int .i64 st, .int .i64 0] 33)
          have K15 := heap_alloc_new (wa.alloc (.cells #[.int .i64 0, .int .i64 s.before.q, .int .i64 s.before.t, .slice none 0 0, .slice AE 0 cE, .int .i64 s.after.q, .int .i64 s.after.t, .slice A5 n5 c5, .int .i64 st, .int .i64 0] 33)) (.cells #[.int .i64 s.before.q, .int .i64 s.before.t, .slice none 0 0] 24)
          rw [World.size_alloc] at K15
          have HKS := hid (And.intro ((Below.heap_alloc (wa.alloc (.cells #[.int .i64 0, .int .i64 s.before.q, .int .i64 s.before.t, .slice none 0 0, .slice AE 0 cE, .int .i64 s.after.q, .int .i64 s.after.t, .slice A5 n5 c5, .int .i64 st, .int .i64 0] 33)) (.cells #[.int .i64 s.before.q, .int .i64 s.before.t, .slice none 0 0] 24) _ (by simp)).trans K14) K15)
          have hal : Below wa.heap.size wa ((wa.alloc (.cells #[.int .i64 0, .int .i64 s.before.q, .int .i64 s.before.t, .slice none 0 0, .slice AE 0 cE, .int .i64 s.after.q, .int .i64 s.after.t, .slice A5 n5 c5, .int .i64 st, .int .i64 0] 33)).alloc (.cells #[.int .i64 s.before.q, .int .i64 s.before.t, .slice none 0 0] 24)) := ((Below.refl _ _).alloc (Nat.le_refl _) _).alloc (by simp) _
          clear K14 K15
          go_wp2_with fail
          go_loopw [16] (fun i wr => ∃ j : Nat, j ≤ 0 ∧ i = .int .i64 j ∧ Hid (wr.heap[wa.heap.size]? = some (.cells #[.int .i64 0, .int .i64 s.before.q, .int .i64 s.before.t, .slice none 0 0, .slice AE 0 cE, .int .i64 s.after.q, .int .i64 s.after.t, .slice A5 n5 c5, .int .i64 st, .int .i64 0] 33 (0, 0))) ∧
              Hid (wr.heap[wa.heap.size + 1]? = some (.cells #[.int .i64 (bhC s.before (s.evs.take j)).q, .int .i64 (bhC s.before (s.evs.take j)).t, .slice none 0 0] 24 (0, 0))) ∧ Below wa.heap.size wa wr) (fun i _ => 0 - (intOf i).toNat)
          case atStart => exact ⟨0, Nat.zero_le _, rfl, hid HKS.out.1, hid (by rw [List.take_zero]; exact HKS.out.2), hal⟩
          case round =>
            obtain ⟨j, hj, rfl, hk14, hk15, hbr⟩ := hrel
            have y4 := blk_lt hk14.out
            obtain ⟨v0, v1, v2, v3, v4, v5, v6, v7, v8, v9⟩ := blk10 hk14.out
            have y5 := blk_lt hk15.out
            obtain ⟨c0, c1, c2, f0, f1, f2⟩ := blk3 hk15.out
            by_cases hlt : j < 0
            · exact absurd hlt (Nat.not_lt_zero _)
            · obtain rfl : j = 0 := by omega
              clear c0 c1 c2 f0 f1 f2 hk15 y5 HKS hal
              have hbwr : Below w.heap.size w wr := hbwa.trans (hbr.mono hbwa.size)
              go_wp2_with fail
              go_ret
              exact ⟨rfl, hbwr⟩

        · have hmay := HIN.out.may h0
          have b6 : (s.num == 0) = false := by simp; exact h0
          have b7 : decide (0 < s.num) = true := decide_eq_true (by have := hmay.1; omega)
          have h0' := hid h0
          clear hmay h0
          have K14 := heap_alloc_new wa (.cells #[.int .i64 s.num, .int .i64 s.before.q, .int .i64 s.before.t, .slice none 0 0, .slice AE M cE, .int .i64 s.after.q, .int .i64 s.after.t, .slice A5 n5 c5, .int .i64 st, .int .i64 (s.size : Int)] 33)
          have K15 := heap_alloc_new (wa.alloc (.cells #[.int .i64 s.num, .int .i64 s.before.q, .int .i64 s.before.t, .slice none 0 0, .slice AE M cE, .int .i64 s.after.q, .int .i64 s.after.t, .slice A5 n5 c5, .int .i64 st, .int .i64 (s.size : Int)] 33)) (.cells #[.int .i64 s.before.q, .int .i64 s.before.t, .slice none 0 0] 24)
          rw [World.size_alloc] at K15
          have HKS := hid (And.intro ((Below.heap_alloc (wa.alloc (.cells #[.int .i64 s.num, .int .i64 s.before.q, .int .i64 s.before.t, .slice none 0 0, .slice AE M cE, .int .i64 s.after.q, .int .i64 s.after.t, .slice A5 n5 c5, .int .i64 st, .int .i64 (s.size : Int)] 33)) (.cells #[.int .i64 s.before.q, .int .i64 s.before.t, .slice none 0 0] 24) _ (by simp)).trans K14) K15)
          have hal : Below wa.heap.size wa ((wa.alloc (.cells #[.int .i64 s.num, .int .i64 s.before.q, .int .i64 s.before.t, .slice none 0 0, .slice AE M cE, .int .i64 s.after.q, .int .i64 s.after.t, .slice A5 n5 c5, .int .i64 st, .int .i64 (s.size : Int)] 33)).alloc (.cells #[.int .i64 s.before.q, .int .i64 s.before.t, .slice none 0 0] 24)) := ((Below.refl _ _).alloc (Nat.le_refl _) _).alloc (by simp) _
          clear K14 K15
          go_wp2_with fail
          go_loopw [16] (fun i wr => ∃ j : Nat, j ≤ M ∧ i = .int .i64 j ∧ Hid (wr.heap[wa.heap.size]? = some (.cells #[.int .i64 s.num, .int .i64 s.before.q, .int .i64 s.before.t, .slice none 0 0, .slice AE M cE, .int .i64 s.after.q, .int .i64 s.after.t, .slice A5 n5 c5, .int .i64 st, .int .i64 (s.size : Int)] 33 (0, 0))) ∧
              Hid (wr.heap[wa.heap.size + 1]? = some (.cells #[.int .i64 (bhC s.before (s.evs.take j)).q, .int .i64 (bhC s.before (s.evs.take j)).t, .slice none 0 0] 24 (0, 0))) ∧ Below wa.heap.size wa wr) (fun i _ => M - (intOf i).toNat)
          case atStart => exact ⟨0, Nat.zero_le _, rfl, hid HKS.out.1, hid (by rw [List.take_zero]; exact HKS.out.2), hal⟩
          case round =>
            obtain ⟨j, hj, rfl, hk14, hk15, hbr⟩ := hrel
            have y4 := blk_lt hk14.out
            obtain ⟨v0, v1, v2, v3, v4, v5, v6, v7, v8, v9⟩ := blk10 hk14.out
            have y5 := blk_lt hk15.out
            obtain ⟨c0, c1, c2, f0, f1, f2⟩ := blk3 hk15.out
            by_cases hlt : j < M
            · have hjl : j < s.evs.length := by have := HMM.out; omega
              obtain ⟨b, o, rfl, hb, g0, g1, g2, g3, g4, g5, g6⟩ := (HSE.out.below hbr).get hjl
              have HAT := hid (List.getElem?_eq_getElem hjl)
              generalize s.evs[j] = X at *
              obtain ⟨hch, hq, ht, -⟩ := HEV.out j X HAT.out
              have PC := hid (Check_any X.q X.t X.k X.s X.a X.b X.c)
              rw [hch] at PC
              have HBH := hid (bh_at (c := s.before) HAT.out)
              have e1 : decide (X.q ≤ (bhC s.before (s.evs.take j)).q) = false := decide_eq_false (by omega)
              have e2 : decide (X.t < (bhC s.before (s.evs.take j)).t) = false := decide_eq_false (by omega)
              have hale : Below wr.heap.size wr (wr.alloc (.cells #[.int .i64 X.q, .int .i64 X.t, .int .i64 X.k, .string X.s, .int .i64 X.a, .int .i64 X.b, .int .i64 X.c] 38)) := (Below.refl _ _).alloc (Nat.le_refl _) _
              clear hch hjl
              go_wp2_with fail
              refine (PC.out _).mono ?_
              rintro e w8 ⟨rfl, hb8⟩
              have h8 := hale.trans (hb8.mono hale.size)
              have HK4 := hid ((h8.block _ y4).trans hk14.out)
              have HK5 := hid ((h8.block _ y5).trans hk15.out)
              have K6 := (hb8.block wr.heap.size (by simp)).trans (heap_alloc_new wr _)
              clear v0 v1 v2 v3 v4 v5 v6 v7 v8 v9 c0 c1 c2 f0 f1 f2 y4 y5 g0 g1 g2 g3 g4 g5 g6
              have y5 := blk_lt HK5.out
              obtain ⟨c0, c1, c2, f0, f1, f2⟩ := blk3 HK5.out
              have y6 := blk_lt K6
              obtain ⟨t0, t1, t2, t3, t4, t5, t6⟩ := blk7 K6
              have SS := sto3 w8 (wa.heap.size + 1) (.int .i64 X.q) (.int .i64 X.t) (.slice none 0 0)
              have HX9 := hid (And.intro ((SS.block _ (by omega)).trans HK4.out) (And.intro (all3 (a' := .int .i64 X.q) (b' := .int .i64 X.t) (c' := .slice none 0 0) HK5.out) (SS.below (hbr.trans (h8.mono hbr.size)) (by omega))))
              clear K6 SS hb8 h8
              go_wp2_with fail
              go_roundw
              case rel => exact ⟨j + 1, by omega, by go_num, hid HX9.out.1, hid (by rw [HBH.out]; exact HX9.out.2.1), HX9.out.2.2⟩
              case measure => simp [intOf]; omega
            · obtain rfl : j = M := by omega
              clear c0 c1 c2 f0 f1 f2 hk15 y5 HKS hal
              have hbwr : Below w.heap.size w wr := hbwa.trans (hbr.mono hbwa.size)
              by_cases hs1 : st = 1
              · subst hs1
                obtain ⟨hzm, hsz⟩ := fin_is HIN.out h0'.out (by rw [HST.out]; omega)
                have hsd : s.sd = false := by rw [st_sd (by rw [HST.out]; omega), HST.out]; rfl
                have hsg : Sg s.num s.before s.evs := ⟨HIN.out.may h0'.out, HIN.out.rc h0'.out, HIN.out.nil h0'.out, HIN.out.ok h0'.out⟩
                have hbe : (⟨s.before.q, s.before.t, []⟩ : Ahd) = s.before := by
                  have := hsg.nil
                  cases hb : s.before with
                  | mk a b c => rw [hb] at this; simp only at this; rw [this]
                have PM2 := hid (Make_any s.num s.before.q s.before.t (A := none) (n := 0) (cp := 0) (ss := []) ⟨by decide, fun s hs => by cases hs⟩ (cl := cE) (fun x hx => by
                  obtain ⟨i, hi, rfl⟩ := List.getElem_of_mem hx
                  exact (HEV.out i _ (List.getElem?_eq_getElem hi)).2.2.2) (by have := HMM.out; omega) false (w := wr) ⟨Sl.nil _ _ _, Nat.le_refl _, Nat.zero_le _, fun _ => rfl⟩ ((HSE.out.below hbr).up hbr.size))
                unfold SgR at PM2
                rw [hbe, (mk_back hsg false).1, (mk_back hsg false).2] at PM2
                rw [hsd] at hzm
                rw [← hzm, HMM.out] at PM2
                have hsn : s.size = nM := by have := HM.out.len; omega
                have b8 : ((s.size : Int) == (nM : Int)) = true := by simp [hsn]
                have b9 : (s.size == nM) = true := by simp [hsn]
                clear hzm hsd hsg hbe
                go_wp2_with fail
                refine PM2.out.mono ?_
                rintro e w9 ⟨⟨v9, rfl, hown9, -⟩, hb9⟩
                obtain ⟨A9, c9, rfl, hR9, -⟩ := own_rw hown9
                have hbw9 : Below w.heap.size w w9 := hbwr.trans (hb9.mono hbwr.size)
                have K9 := (hb9.block _ y4).trans hk14.out
                have cv1 := conv8 c9 hR9.1
                have cv2 := conv8 cM (HM.out.below hbw9).1
                clear v0 v1 v2 v3 v4 v5 v6 v7 v8 v9 y4
                have y4 := blk_lt K9
                obtain ⟨v0, v1, v2, v3, v4, v5, v6, v7, v8, v9⟩ := blk10 K9
                clear K9 hR9 hown9 hb9
                go_wp2_with fail
                go_ret
                exact ⟨ret_bool (by have h9 := HM.out.len; simp; omega), hbw9⟩
              · by_cases hs4 : st = 4
                · subst hs4
                  obtain ⟨hzm, hsz⟩ := fin_is HIN.out h0'.out (by rw [HST.out]; omega)
                  have hsd : s.sd = true := by rw [st_sd (by rw [HST.out]; omega), HST.out]; rfl
                  have hsg : Sg s.num s.before s.evs := ⟨HIN.out.may h0'.out, HIN.out.rc h0'.out, HIN.out.nil h0'.out, HIN.out.ok h0'.out⟩
                  have hbe : (⟨s.before.q, s.before.t, []⟩ : Ahd) = s.before := by
                    have := hsg.nil
                    cases hb : s.before with
                    | mk a b c => rw [hb] at this; simp only at this; rw [this]
                  have PM2 := hid (Make_any s.num s.before.q s.before.t (A := none) (n := 0) (cp := 0) (ss := []) ⟨by decide, fun s hs => by cases hs⟩ (cl := cE) (fun x hx => by
                    obtain ⟨i, hi, rfl⟩ := List.getElem_of_mem hx
                    exact (HEV.out i _ (List.getElem?_eq_getElem hi)).2.2.2) (by have := HMM.out; omega) true (w := wr) ⟨Sl.nil _ _ _, Nat.le_refl _, Nat.zero_le _, fun _ => rfl⟩ ((HSE.out.below hbr).up hbr.size))
                  unfold SgR at PM2
                  rw [hbe, (mk_back hsg true).1, (mk_back hsg true).2] at PM2
                  rw [hsd] at hzm
                  rw [← hzm, HMM.out] at PM2
                  have hsn : s.size = nM := by have := HM.out.len; omega
                  have b8 : ((s.size : Int) == (nM : Int)) = true := by simp [hsn]
                  have b9 : (s.size == nM) = true := by simp [hsn]
                  clear hzm hsd hsg hbe
                  go_wp2_with fail
                  refine PM2.out.mono ?_
                  rintro e w9 ⟨⟨v9, rfl, hown9, -⟩, hb9⟩
                  obtain ⟨A9, c9, rfl, hR9, -⟩ := own_rw hown9
                  have hbw9 : Below w.heap.size w w9 := hbwr.trans (hb9.mono hbwr.size)
                  have K9 := (hb9.block _ y4).trans hk14.out
                  have cv1 := conv8 c9 hR9.1
                  have cv2 := conv8 cM (HM.out.below hbw9).1
                  clear v0 v1 v2 v3 v4 v5 v6 v7 v8 v9 y4
                  have y4 := blk_lt K9
                  obtain ⟨v0, v1, v2, v3, v4, v5, v6, v7, v8, v9⟩ := blk10 K9
                  clear K9 hR9 hown9 hb9
                  go_wp2_with fail
                  go_ret
                  exact ⟨ret_bool (by have h9 := HM.out.len; simp; omega), hbw9⟩
                · have b1 : (st == 1) = false := by simp; exact hs1
                  have b2 : (st != 1) = true := by simp; exact hs1
                  have b4 : (st == 4) = false := by simp; exact hs4
                  have b5 : (st != 4) = true := by simp; exact hs4
                  go_wp2_with fail
                  go_ret
                  exact ⟨rfl, hbwr⟩

      case pos =>
        subst hE0
        have hsg := mk_zero hE
        have hY : mkY m ⟨q, t, ss⟩ l sd = mkB m ⟨q, t, ss⟩ l sd := if_pos hE
        rw [hY] at PM
        have hroom := mkB_room hsg (by have := HL.out; omega) sd
        have HXB := hid (mkB_bytes hsg (by have := HL.out; omega) sd)
        have hss : ss = [] := hsg.nil
        have HALL := hid (show ∀ s, Fin (mkB m ⟨q, t, ss⟩ l sd) s → s = whole m ⟨q, t, ss⟩ l sd ∧ stS (mkB m ⟨q, t, ss⟩ l sd) s = (if sd then 4 else 1) ∧ s.size = (mkB m ⟨q, t, ss⟩ l sd).length from fun s f => by
          have h1 := fin_all hsg (by have := HL.out; omega) sd
          obtain rfl := f.one h1
          exact ⟨rfl, st_all _ _ _ _, rfl⟩)
        obtain ⟨X, hXX⟩ : ∃ X, mkB m ⟨q, t, ss⟩ l sd = X := ⟨_, rfl⟩
        rw [hXX] at PM hroom HXB HALL
        have HXX := hid hXX
        rw [HL.out] at hroom
        clear hE hY hsg hXX
        go_enter Tryd.func3, Tryd.ntmps3
        go_wp2_with fail
        refine PA.out.mono ?_
        rintro e w1 ⟨rfl, hb1⟩
        have hbw1 : Below w.heap.size w w1 := hbA.trans (hb1.mono hbA.size)
        have K1 := (hb1.block w.heap.size (by simp)).trans (heap_alloc_new w _)
        have z1 := blk_lt K1
        obtain ⟨u10, u11, u12, f10, f11, f12⟩ := blk3 K1
        clear hb1
        go_wp2_with fail
        refine (PF.out _ hbw1).mono ?_
        rintro e w2 ⟨rfl, hb2⟩
        have hbw2 : Below w.heap.size w w2 := hbw1.trans (hb2.mono hbw1.size)
        have K2 := (hb2.block _ z1).trans K1
        clear z1 u10 u11 u12 f10 f11 f12 K1 hb2
        have z1 := blk_lt K2
        obtain ⟨u10, u11, u12, f10, f11, f12⟩ := blk3 K2
        have HK2 := hid K2
        clear K2
        go_wp2_with fail
        refine (PM.out _ hbw2).mono ?_
        rintro e w3 ⟨⟨v, rfl, hown, -⟩, hb3⟩
        obtain ⟨A3, c3, rfl, hR3, -⟩ := own_rw hown
        have hbw3 : Below w.heap.size w w3 := hbw2.trans (hb3.mono hbw2.size)
        have HR3 := hid hR3
        have HK3 := hid ((hb3.block _ z1).trans HK2.out)
        clear z1 u10 u11 u12 f10 f11 f12 HK2 hown hR3 hb3 PM PF PA hbw1 hbw2 hbA
        go_wp2_with fail
        have PR0 := hid (Read_any HR3.out HXB.out (by omega))
        unfold ReadR at PR0
        refine PR0.out.mono ?_
        rintro e w4 ⟨⟨s0, AE0, cE0, A50, n50, c50, hf0, rfl, hse0, hce0, hcem0, -, -⟩, hb4⟩
        obtain ⟨rfl, hst0, hsz0⟩ := HALL.out s0 hf0
        have hbw4 : Below w.heap.size w w4 := hbw3.trans (hb4.mono hbw3.size)
        have ev0' : scV (whole m ⟨q, t, ss⟩ l sd) (if sd then 4 else 1) (.slice AE0 (whole m ⟨q, t, ss⟩ l sd).evs.length cE0) (.slice A50 n50 c50) = #[.int .i64 m, .int .i64 q, .int .i64 t, .slice none 0 0, .slice AE0 L cE0, .int .i64 (bhC ⟨q, t, ss⟩ l).q, .int .i64 (bhC ⟨q, t, ss⟩ l).t, .slice A50 n50 c50, .int .i64 (if sd then 4 else 1), .int .i64 (X.length : Int)] := by
          unfold scV
          rw [hsz0]
          show #[_, _, _, _, Value.slice AE0 l.length cE0, _, _, _, _, _] = _
          rw [HL.out]
          rfl
        rw [hst0, ev0']
        have HE0 := hid (show Se w4 w4.heap.size AE0 l from hse0)
        have HK4 := hid ((hb4.block _ (blk_lt HK3.out)).trans HK3.out)
        clear ev0' hst0 hsz0 hse0 hf0 hb4 PR0 HALL HK3 HR3
        subst hss
        generalize (bhC ⟨q, t, []⟩ l).q = qa at *
        generalize (bhC ⟨q, t, []⟩ l).t = ta at *
        have y4 := blk_lt HK4.out
        obtain ⟨u0, u1, u2, -, -, -⟩ := blk3 HK4.out
        cases sd with
        | false =>
          have hal4 : Below w4.heap.size w4 (w4.alloc (.cells #[.int .i64 m, .int .i64 q, .int .i64 t, .slice none 0 0, .slice AE0 L cE0, .int .i64 qa, .int .i64 ta, .slice A50 n50 c50, .int .i64 1, .int .i64 (X.length : Int)] 33)) := (Below.refl _ _).alloc (Nat.le_refl _) _
          have hbw4a := hbw4.trans (hal4.mono hbw4.size)
          have HK5 := hid (heap_alloc_new w4 (.cells #[.int .i64 m, .int .i64 q, .int .i64 t, .slice none 0 0, .slice AE0 L cE0, .int .i64 qa, .int .i64 ta, .slice A50 n50 c50, .int .i64 1, .int .i64 (X.length : Int)] 33))
          have PS7 := hid (RSame7 (q0 := q) (t0 := t) (q1 := q) (t1 := t) (c := 0) (c' := cp) (w := w4.alloc (.cells #[.int .i64 m, .int .i64 q, .int .i64 t, .slice none 0 0, .slice AE0 L cE0, .int .i64 qa, .int .i64 ta, .slice A50 n50 c50, .int .i64 1, .int .i64 (X.length : Int)] 33)) (xs := []) ⟨Sl.nil _ _ _, Nat.le_refl _, Nat.zero_le _, fun _ => rfl⟩ (A := none) (HR.out.below hbw4a) (by omega))
          rw [show decide (q = q ∧ t = t ∧ ([] : List ByteArray) = []) = true by simp] at PS7
          go_wp2_with fail
          refine PS7.out.mono ?_
          rintro e w5 ⟨rfl, hb5⟩
          have hbw5 : Below w.heap.size w w5 := hbw4a.trans (hb5.mono hbw4a.size)
          have h45 : Below w4.heap.size w4 w5 := hal4.trans (hb5.mono hal4.size)
          have K6 := (hb5.block w4.heap.size (by simp)).trans HK5.out
          have PS5 := hid (RSame5 (c := cE0) (c' := cl) (HE0.out.below h45) (HS.out.below hbw5) h45.size hbw5.size (by have := HL.out; omega))
          rw [HL.out] at PS5
          clear u0 u1 u2 y4 HK4 PS7 hb5
          have y6 := blk_lt K6
          obtain ⟨t0, t1, t2, t3, t4, t5, t6, t7, t8, t9⟩ := blk10 K6
          have HK6 := hid K6
          clear K6
          go_wp2_with fail
          refine PS5.out.mono ?_
          rintro e w6 ⟨rfl, hb6⟩
          have hbw6 : Below w.heap.size w w6 := hbw5.trans (hb6.mono hbw5.size)
          have K7 := (hb6.block _ y6).trans HK6.out
          clear t0 t1 t2 t3 t4 t5 t6 t7 t8 t9 y6 HK6 PS5 hb6
          have y6 := blk_lt K7
          obtain ⟨t0, t1, t2, t3, t4, t5, t6, t7, t8, t9⟩ := blk10 K7
          clear K7
          go_wp2_with fail
          generalize w6 = wz at *
          have hbz : Below w.heap.size w wz := hbw6
          clear t0 t1 t2 t3 t4 t5 t6 t7 t8 t9 y6 h45 hal4 hbw4a HK5 HE0 hbw5 hbw4 hbw3
          have PR := hid (Read_any (HM.out.below hbz) HBM.out (by have := HM.out.len; omega))
          unfold ReadR at PR
          refine PR.out.mono ?_
          rintro e wa ⟨⟨s, AE, cE, A5, n5, c5, hf, rfl, hse, hce, hcem, -, -⟩, hba⟩
          have inv := hf.1.inv
          have hbwa : Below w.heap.size w wa := hbz.trans (hba.mono hbz.size)
          have HSE := hid hse
          have HIN := hid inv
          have hle : s.size ≤ nM := by have := inv.le; have := HM.out.len; omega
          have hfew : s.evs.length ≤ 1000 := by have := inv.few; have := HM.out.len; omega
          have HEV := hid (show ∀ (j : Nat) (x : Ev), s.evs[j]? = some x → chI x.q x.t x.k x.s x.a x.b x.c = 0 ∧ (bhC s.before (s.evs.take j)).q < x.q ∧ (bhC s.before (s.evs.take j)).t ≤ x.t ∧ x.s.size ≤ maxLen from fun j x h => by
            have h0 : s.num ≠ 0 := by
              intro h0
              rw [inv.zero h0] at h
              cases h
            obtain ⟨a, b⟩ := ok_at (inv.rc h0) (inv.ok h0) h
            obtain ⟨c, d, e⟩ := fl_at b a
            exact ⟨c, d, e, by have := nm_size (fl_ok b a).nm; unfold maxLen; omega⟩)
          obtain ⟨st, hst⟩ : ∃ x, stS zm s = x := ⟨_, rfl⟩
          have HST := hid hst
          obtain ⟨M, hM⟩ : ∃ M, s.evs.length = M := ⟨_, rfl⟩
          have HMM := hid hM
          unfold scV
          rw [hM] at hce hfew ⊢
          rw [hst]
          unfold maxLen at hcem
          have d1 : decide ((s.size : Int) < 0) = false := decide_eq_false (by omega)
          have d2 : decide ((nM : Int) < (s.size : Int)) = false := decide_eq_false (by omega)
          have d3 : decide (nM < s.size) = false := decide_eq_false (by omega)
          clear PR hf hse hba inv hst hM
          by_cases h0 : s.num = 0
          · have hz := HIN.out.zero h0
            have hM0 : M = 0 := by rw [← HMM.out, hz]; rfl
            have hs0 : s.size = 0 := by rw [hz]; rfl
            have hst4 : ¬ st = 4 := by rw [← HST.out]; exact st_open (by rw [hz]; rfl)
            have b4 : (st == 4) = false := by simp; exact hst4
            have b5 : (st != 4) = true := by simp; exact hst4
            rw [h0, hs0, show ((0 : Nat) : Int) = 0 from rfl]
            subst hM0
            have h0' := hid h0
            clear hz hs0 h0 d1 d2 d3
            have K14 := heap_alloc_new wa (.cells #[.int .i64 0, .int .i64 s.before.q, .int .i64 s.before.t, .slice none 0 0, .slice AE 0 cE, .int .i64 s.after.q, .int .i64 s.after.t, .slice A5 n5 c5, .int .i64 st, .int .i64 0] 33)
            have K15 := heap_alloc_new (wa.alloc (.cells #[.int .i64 0, .int .i64 s.before.q, .int .i64 s.before.t, .slice none 0 0, .slice AE 0 cE, .int .i64 s.after.q, .int .i64 s.after.t, .slice A5 n5 c5, .int .i64 st, .int .i64 0] 33)) (.cells #[.int .i64 s.before.q, .int .i64 s.before.t, .slice none 0 0] 24)
            rw [World.size_alloc] at K15
            have HKS := hid (And.intro ((Below.heap_alloc (wa.alloc (.cells #[.int .i64 0, .int .i64 s.before.q, .int .i64 s.before.t, .slice none 0 0, .slice AE 0 cE, .int .i64 s.after.q, .int .i64 s.after.t, .slice A5 n5 c5, .int .i64 st, .int .i64 0] 33)) (.cells #[.int .i64 s.before.q, .int .i64 s.before.t, .slice none 0 0] 24) _ (by simp)).trans K14) K15)
            have hal : Below wa.heap.size wa ((wa.alloc (.cells #[.int .i64 0, .int .i64 s.before.q, .int .i64 s.before.t, .slice none 0 0, .slice AE 0 cE, .int .i64 s.after.q, .int .i64 s.after.t, .slice A5 n5 c5, .int .i64 st, .int .i64 0] 33)).alloc (.cells #[.int .i64 s.before.q, .int .i64 s.before.t, .slice none 0 0] 24)) := ((Below.refl _ _).alloc (Nat.le_refl _) _).alloc (by simp) _
            clear K14 K15
            go_wp2_with fail
            go_loopw [16] (fun i wr => ∃ j : Nat, j ≤ 0 ∧ i = .int .i64 j ∧ Hid (wr.heap[wa.heap.size]? = some (.cells #[.int .i64 0, .int .i64 s.before.q, .int .i64 s.before.t, .slice none 0 0, .slice AE 0 cE, .int .i64 s.after.q, .int .i64 s.after.t, .slice A5 n5 c5, .int .i64 st, .int .i64 0] 33 (0, 0))) ∧
                Hid (wr.heap[wa.heap.size + 1]? = some (.cells #[.int .i64 (bhC s.before (s.evs.take j)).q, .int .i64 (bhC s.before (s.evs.take j)).t, .slice none 0 0] 24 (0, 0))) ∧ Below wa.heap.size wa wr) (fun i _ => 0 - (intOf i).toNat)
            case atStart => exact ⟨0, Nat.zero_le _, rfl, hid HKS.out.1, hid (by rw [List.take_zero]; exact HKS.out.2), hal⟩
            case round =>
              obtain ⟨j, hj, rfl, hk14, hk15, hbr⟩ := hrel
              have y4 := blk_lt hk14.out
              obtain ⟨v0, v1, v2, v3, v4, v5, v6, v7, v8, v9⟩ := blk10 hk14.out
              have y5 := blk_lt hk15.out
              obtain ⟨c0, c1, c2, f0, f1, f2⟩ := blk3 hk15.out
              by_cases hlt : j < 0
              · exact absurd hlt (Nat.not_lt_zero _)
              · obtain rfl : j = 0 := by omega
                clear c0 c1 c2 f0 f1 f2 hk15 y5 HKS hal
                have hbwr : Below w.heap.size w wr := hbwa.trans (hbr.mono hbwa.size)
                go_wp2_with fail
                go_ret
                exact ⟨rfl, hbwr⟩

          · have hmay := HIN.out.may h0
            have b6 : (s.num == 0) = false := by simp; exact h0
            have b7 : decide (0 < s.num) = true := decide_eq_true (by have := hmay.1; omega)
            have h0' := hid h0
            clear hmay h0
            have K14 := heap_alloc_new wa (.cells #[.int .i64 s.num, .int .i64 s.before.q, .int .i64 s.before.t, .slice none 0 0, .slice AE M cE, .int .i64 s.after.q, .int .i64 s.after.t, .slice A5 n5 c5, .int .i64 st, .int .i64 (s.size : Int)] 33)
            have K15 := heap_alloc_new (wa.alloc (.cells #[.int .i64 s.num, .int .i64 s.before.q, .int .i64 s.before.t, .slice none 0 0, .slice AE M cE, .int .i64 s.after.q, .int .i64 s.after.t, .slice A5 n5 c5, .int .i64 st, .int .i64 (s.size : Int)] 33)) (.cells #[.int .i64 s.before.q, .int .i64 s.before.t, .slice none 0 0] 24)
            rw [World.size_alloc] at K15
            have HKS := hid (And.intro ((Below.heap_alloc (wa.alloc (.cells #[.int .i64 s.num, .int .i64 s.before.q, .int .i64 s.before.t, .slice none 0 0, .slice AE M cE, .int .i64 s.after.q, .int .i64 s.after.t, .slice A5 n5 c5, .int .i64 st, .int .i64 (s.size : Int)] 33)) (.cells #[.int .i64 s.before.q, .int .i64 s.before.t, .slice none 0 0] 24) _ (by simp)).trans K14) K15)
            have hal : Below wa.heap.size wa ((wa.alloc (.cells #[.int .i64 s.num, .int .i64 s.before.q, .int .i64 s.before.t, .slice none 0 0, .slice AE M cE, .int .i64 s.after.q, .int .i64 s.after.t, .slice A5 n5 c5, .int .i64 st, .int .i64 (s.size : Int)] 33)).alloc (.cells #[.int .i64 s.before.q, .int .i64 s.before.t, .slice none 0 0] 24)) := ((Below.refl _ _).alloc (Nat.le_refl _) _).alloc (by simp) _
            clear K14 K15
            go_wp2_with fail
            go_loopw [16] (fun i wr => ∃ j : Nat, j ≤ M ∧ i = .int .i64 j ∧ Hid (wr.heap[wa.heap.size]? = some (.cells #[.int .i64 s.num, .int .i64 s.before.q, .int .i64 s.before.t, .slice none 0 0, .slice AE M cE, .int .i64 s.after.q, .int .i64 s.after.t, .slice A5 n5 c5, .int .i64 st, .int .i64 (s.size : Int)] 33 (0, 0))) ∧
                Hid (wr.heap[wa.heap.size + 1]? = some (.cells #[.int .i64 (bhC s.before (s.evs.take j)).q, .int .i64 (bhC s.before (s.evs.take j)).t, .slice none 0 0] 24 (0, 0))) ∧ Below wa.heap.size wa wr) (fun i _ => M - (intOf i).toNat)
            case atStart => exact ⟨0, Nat.zero_le _, rfl, hid HKS.out.1, hid (by rw [List.take_zero]; exact HKS.out.2), hal⟩
            case round =>
              obtain ⟨j, hj, rfl, hk14, hk15, hbr⟩ := hrel
              have y4 := blk_lt hk14.out
              obtain ⟨v0, v1, v2, v3, v4, v5, v6, v7, v8, v9⟩ := blk10 hk14.out
              have y5 := blk_lt hk15.out
              obtain ⟨c0, c1, c2, f0, f1, f2⟩ := blk3 hk15.out
              by_cases hlt : j < M
              · have hjl : j < s.evs.length := by have := HMM.out; omega
                obtain ⟨b, o, rfl, hb, g0, g1, g2, g3, g4, g5, g6⟩ := (HSE.out.below hbr).get hjl
                have HAT := hid (List.getElem?_eq_getElem hjl)
                generalize s.evs[j] = X at *
                obtain ⟨hch, hq, ht, -⟩ := HEV.out j X HAT.out
                have PC := hid (Check_any X.q X.t X.k X.s X.a X.b X.c)
                rw [hch] at PC
                have HBH := hid (bh_at (c := s.before) HAT.out)
                have e1 : decide (X.q ≤ (bhC s.before (s.evs.take j)).q) = false := decide_eq_false (by omega)
                have e2 : decide (X.t < (bhC s.before (s.evs.take j)).t) = false := decide_eq_false (by omega)
                have hale : Below wr.heap.size wr (wr.alloc (.cells #[.int .i64 X.q, .int .i64 X.t, .int .i64 X.k, .string X.s, .int .i64 X.a, .int .i64 X.b, .int .i64 X.c] 38)) := (Below.refl _ _).alloc (Nat.le_refl _) _
                clear hch hjl
                go_wp2_with fail
                refine (PC.out _).mono ?_
                rintro e w8 ⟨rfl, hb8⟩
                have h8 := hale.trans (hb8.mono hale.size)
                have HK4 := hid ((h8.block _ y4).trans hk14.out)
                have HK5 := hid ((h8.block _ y5).trans hk15.out)
                have K6 := (hb8.block wr.heap.size (by simp)).trans (heap_alloc_new wr _)
                clear v0 v1 v2 v3 v4 v5 v6 v7 v8 v9 c0 c1 c2 f0 f1 f2 y4 y5 g0 g1 g2 g3 g4 g5 g6
                have y5 := blk_lt HK5.out
                obtain ⟨c0, c1, c2, f0, f1, f2⟩ := blk3 HK5.out
                have y6 := blk_lt K6
                obtain ⟨t0, t1, t2, t3, t4, t5, t6⟩ := blk7 K6
                have SS := sto3 w8 (wa.heap.size + 1) (.int .i64 X.q) (.int .i64 X.t) (.slice none 0 0)
                have HX9 := hid (And.intro ((SS.block _ (by omega)).trans HK4.out) (And.intro (all3 (a' := .int .i64 X.q) (b' := .int .i64 X.t) (c' := .slice none 0 0) HK5.out) (SS.below (hbr.trans (h8.mono hbr.size)) (by omega))))
                clear K6 SS hb8 h8
                go_wp2_with fail
                go_roundw
                case rel => exact ⟨j + 1, by omega, by go_num, hid HX9.out.1, hid (by rw [HBH.out]; exact HX9.out.2.1), HX9.out.2.2⟩
                case measure => simp [intOf]; omega
              · obtain rfl : j = M := by omega
                clear c0 c1 c2 f0 f1 f2 hk15 y5 HKS hal
                have hbwr : Below w.heap.size w wr := hbwa.trans (hbr.mono hbwa.size)
                by_cases hs1 : st = 1
                · subst hs1
                  obtain ⟨hzm, hsz⟩ := fin_is HIN.out h0'.out (by rw [HST.out]; omega)
                  have hsd : s.sd = false := by rw [st_sd (by rw [HST.out]; omega), HST.out]; rfl
                  have hsg : Sg s.num s.before s.evs := ⟨HIN.out.may h0'.out, HIN.out.rc h0'.out, HIN.out.nil h0'.out, HIN.out.ok h0'.out⟩
                  have hbe : (⟨s.before.q, s.before.t, []⟩ : Ahd) = s.before := by
                    have := hsg.nil
                    cases hb : s.before with
                    | mk a b c => rw [hb] at this; simp only at this; rw [this]
                  have PM2 := hid (Make_any s.num s.before.q s.before.t (A := none) (n := 0) (cp := 0) (ss := []) ⟨by decide, fun s hs => by cases hs⟩ (cl := cE) (fun x hx => by
                    obtain ⟨i, hi, rfl⟩ := List.getElem_of_mem hx
                    exact (HEV.out i _ (List.getElem?_eq_getElem hi)).2.2.2) (by have := HMM.out; omega) false (w := wr) ⟨Sl.nil _ _ _, Nat.le_refl _, Nat.zero_le _, fun _ => rfl⟩ ((HSE.out.below hbr).up hbr.size))
                  unfold SgR at PM2
                  rw [hbe, (mk_back hsg false).1, (mk_back hsg false).2] at PM2
                  rw [hsd] at hzm
                  rw [← hzm, HMM.out] at PM2
                  have hsn : s.size = nM := by have := HM.out.len; omega
                  have b8 : ((s.size : Int) == (nM : Int)) = true := by simp [hsn]
                  have b9 : (s.size == nM) = true := by simp [hsn]
                  clear hzm hsd hsg hbe
                  go_wp2_with fail
                  refine PM2.out.mono ?_
                  rintro e w9 ⟨⟨v9, rfl, hown9, -⟩, hb9⟩
                  obtain ⟨A9, c9, rfl, hR9, -⟩ := own_rw hown9
                  have hbw9 : Below w.heap.size w w9 := hbwr.trans (hb9.mono hbwr.size)
                  have K9 := (hb9.block _ y4).trans hk14.out
                  have cv1 := conv8 c9 hR9.1
                  have cv2 := conv8 cM (HM.out.below hbw9).1
                  clear v0 v1 v2 v3 v4 v5 v6 v7 v8 v9 y4
                  have y4 := blk_lt K9
                  obtain ⟨v0, v1, v2, v3, v4, v5, v6, v7, v8, v9⟩ := blk10 K9
                  clear K9 hR9 hown9 hb9
                  go_wp2_with fail
                  go_ret
                  exact ⟨ret_bool (by have h9 := HM.out.len; simp; omega), hbw9⟩
                · by_cases hs4 : st = 4
                  · subst hs4
                    obtain ⟨hzm, hsz⟩ := fin_is HIN.out h0'.out (by rw [HST.out]; omega)
                    have hsd : s.sd = true := by rw [st_sd (by rw [HST.out]; omega), HST.out]; rfl
                    have hsg : Sg s.num s.before s.evs := ⟨HIN.out.may h0'.out, HIN.out.rc h0'.out, HIN.out.nil h0'.out, HIN.out.ok h0'.out⟩
                    have hbe : (⟨s.before.q, s.before.t, []⟩ : Ahd) = s.before := by
                      have := hsg.nil
                      cases hb : s.before with
                      | mk a b c => rw [hb] at this; simp only at this; rw [this]
                    have PM2 := hid (Make_any s.num s.before.q s.before.t (A := none) (n := 0) (cp := 0) (ss := []) ⟨by decide, fun s hs => by cases hs⟩ (cl := cE) (fun x hx => by
                      obtain ⟨i, hi, rfl⟩ := List.getElem_of_mem hx
                      exact (HEV.out i _ (List.getElem?_eq_getElem hi)).2.2.2) (by have := HMM.out; omega) true (w := wr) ⟨Sl.nil _ _ _, Nat.le_refl _, Nat.zero_le _, fun _ => rfl⟩ ((HSE.out.below hbr).up hbr.size))
                    unfold SgR at PM2
                    rw [hbe, (mk_back hsg true).1, (mk_back hsg true).2] at PM2
                    rw [hsd] at hzm
                    rw [← hzm, HMM.out] at PM2
                    have hsn : s.size = nM := by have := HM.out.len; omega
                    have b8 : ((s.size : Int) == (nM : Int)) = true := by simp [hsn]
                    have b9 : (s.size == nM) = true := by simp [hsn]
                    clear hzm hsd hsg hbe
                    go_wp2_with fail
                    refine PM2.out.mono ?_
                    rintro e w9 ⟨⟨v9, rfl, hown9, -⟩, hb9⟩
                    obtain ⟨A9, c9, rfl, hR9, -⟩ := own_rw hown9
                    have hbw9 : Below w.heap.size w w9 := hbwr.trans (hb9.mono hbwr.size)
                    have K9 := (hb9.block _ y4).trans hk14.out
                    have cv1 := conv8 c9 hR9.1
                    have cv2 := conv8 cM (HM.out.below hbw9).1
                    clear v0 v1 v2 v3 v4 v5 v6 v7 v8 v9 y4
                    have y4 := blk_lt K9
                    obtain ⟨v0, v1, v2, v3, v4, v5, v6, v7, v8, v9⟩ := blk10 K9
                    clear K9 hR9 hown9 hb9
                    go_wp2_with fail
                    go_ret
                    exact ⟨ret_bool (by have h9 := HM.out.len; simp; omega), hbw9⟩
                  · have b1 : (st == 1) = false := by simp; exact hs1
                    have b2 : (st != 1) = true := by simp; exact hs1
                    have b4 : (st == 4) = false := by simp; exact hs4
                    have b5 : (st != 4) = true := by simp; exact hs4
                    go_wp2_with fail
                    go_ret
                    exact ⟨rfl, hbwr⟩

        | true =>
          have hal4 : Below w4.heap.size w4 (w4.alloc (.cells #[.int .i64 m, .int .i64 q, .int .i64 t, .slice none 0 0, .slice AE0 L cE0, .int .i64 qa, .int .i64 ta, .slice A50 n50 c50, .int .i64 4, .int .i64 (X.length : Int)] 33)) := (Below.refl _ _).alloc (Nat.le_refl _) _
          have hbw4a := hbw4.trans (hal4.mono hbw4.size)
          have HK5 := hid (heap_alloc_new w4 (.cells #[.int .i64 m, .int .i64 q, .int .i64 t, .slice none 0 0, .slice AE0 L cE0, .int .i64 qa, .int .i64 ta, .slice A50 n50 c50, .int .i64 4, .int .i64 (X.length : Int)] 33))
          have PS7 := hid (RSame7 (q0 := q) (t0 := t) (q1 := q) (t1 := t) (c := 0) (c' := cp) (w := w4.alloc (.cells #[.int .i64 m, .int .i64 q, .int .i64 t, .slice none 0 0, .slice AE0 L cE0, .int .i64 qa, .int .i64 ta, .slice A50 n50 c50, .int .i64 4, .int .i64 (X.length : Int)] 33)) (xs := []) ⟨Sl.nil _ _ _, Nat.le_refl _, Nat.zero_le _, fun _ => rfl⟩ (A := none) (HR.out.below hbw4a) (by omega))
          rw [show decide (q = q ∧ t = t ∧ ([] : List ByteArray) = []) = true by simp] at PS7
          go_wp2_with fail
          refine PS7.out.mono ?_
          rintro e w5 ⟨rfl, hb5⟩
          have hbw5 : Below w.heap.size w w5 := hbw4a.trans (hb5.mono hbw4a.size)
          have h45 : Below w4.heap.size w4 w5 := hal4.trans (hb5.mono hal4.size)
          have K6 := (hb5.block w4.heap.size (by simp)).trans HK5.out
          have PS5 := hid (RSame5 (c := cE0) (c' := cl) (HE0.out.below h45) (HS.out.below hbw5) h45.size hbw5.size (by have := HL.out; omega))
          rw [HL.out] at PS5
          clear u0 u1 u2 y4 HK4 PS7 hb5
          have y6 := blk_lt K6
          obtain ⟨t0, t1, t2, t3, t4, t5, t6, t7, t8, t9⟩ := blk10 K6
          have HK6 := hid K6
          clear K6
          go_wp2_with fail
          refine PS5.out.mono ?_
          rintro e w6 ⟨rfl, hb6⟩
          have hbw6 : Below w.heap.size w w6 := hbw5.trans (hb6.mono hbw5.size)
          have K7 := (hb6.block _ y6).trans HK6.out
          clear t0 t1 t2 t3 t4 t5 t6 t7 t8 t9 y6 HK6 PS5 hb6
          have y6 := blk_lt K7
          obtain ⟨t0, t1, t2, t3, t4, t5, t6, t7, t8, t9⟩ := blk10 K7
          clear K7
          go_wp2_with fail
          generalize w6 = wz at *
          have hbz : Below w.heap.size w wz := hbw6
          clear t0 t1 t2 t3 t4 t5 t6 t7 t8 t9 y6 h45 hal4 hbw4a HK5 HE0 hbw5 hbw4 hbw3
          have PR := hid (Read_any (HM.out.below hbz) HBM.out (by have := HM.out.len; omega))
          unfold ReadR at PR
          refine PR.out.mono ?_
          rintro e wa ⟨⟨s, AE, cE, A5, n5, c5, hf, rfl, hse, hce, hcem, -, -⟩, hba⟩
          have inv := hf.1.inv
          have hbwa : Below w.heap.size w wa := hbz.trans (hba.mono hbz.size)
          have HSE := hid hse
          have HIN := hid inv
          have hle : s.size ≤ nM := by have := inv.le; have := HM.out.len; omega
          have hfew : s.evs.length ≤ 1000 := by have := inv.few; have := HM.out.len; omega
          have HEV := hid (show ∀ (j : Nat) (x : Ev), s.evs[j]? = some x → chI x.q x.t x.k x.s x.a x.b x.c = 0 ∧ (bhC s.before (s.evs.take j)).q < x.q ∧ (bhC s.before (s.evs.take j)).t ≤ x.t ∧ x.s.size ≤ maxLen from fun j x h => by
            have h0 : s.num ≠ 0 := by
              intro h0
              rw [inv.zero h0] at h
              cases h
            obtain ⟨a, b⟩ := ok_at (inv.rc h0) (inv.ok h0) h
            obtain ⟨c, d, e⟩ := fl_at b a
            exact ⟨c, d, e, by have := nm_size (fl_ok b a).nm; unfold maxLen; omega⟩)
          obtain ⟨st, hst⟩ : ∃ x, stS zm s = x := ⟨_, rfl⟩
          have HST := hid hst
          obtain ⟨M, hM⟩ : ∃ M, s.evs.length = M := ⟨_, rfl⟩
          have HMM := hid hM
          unfold scV
          rw [hM] at hce hfew ⊢
          rw [hst]
          unfold maxLen at hcem
          have d1 : decide ((s.size : Int) < 0) = false := decide_eq_false (by omega)
          have d2 : decide ((nM : Int) < (s.size : Int)) = false := decide_eq_false (by omega)
          have d3 : decide (nM < s.size) = false := decide_eq_false (by omega)
          clear PR hf hse hba inv hst hM
          by_cases h0 : s.num = 0
          · have hz := HIN.out.zero h0
            have hM0 : M = 0 := by rw [← HMM.out, hz]; rfl
            have hs0 : s.size = 0 := by rw [hz]; rfl
            have hst4 : ¬ st = 4 := by rw [← HST.out]; exact st_open (by rw [hz]; rfl)
            have b4 : (st == 4) = false := by simp; exact hst4
            have b5 : (st != 4) = true := by simp; exact hst4
            rw [h0, hs0, show ((0 : Nat) : Int) = 0 from rfl]
            subst hM0
            have h0' := hid h0
            clear hz hs0 h0 d1 d2 d3
            have K14 := heap_alloc_new wa (.cells #[.int .i64 0, .int .i64 s.before.q, .int .i64 s.before.t, .slice none 0 0, .slice AE 0 cE, .int .i64 s.after.q, .int .i64 s.after.t, .slice A5 n5 c5, .int .i64 st, .int .i64 0] 33)
            have K15 := heap_alloc_new (wa.alloc (.cells #[.int .i64 0, .int .i64 s.before.q, .int .i64 s.before.t, .slice none 0 0, .slice AE 0 cE, .int .i64 s.after.q, .int .i64 s.after.t, .slice A5 n5 c5, .int .i64 st, .int .i64 0] 33)) (.cells #[.int .i64 s.before.q, .int .i64 s.before.t, .slice none 0 0] 24)
            rw [World.size_alloc] at K15
            have HKS := hid (And.intro ((Below.heap_alloc (wa.alloc (.cells #[.int .i64 0, .int .i64 s.before.q, .int .i64 s.before.t, .slice none 0 0, .slice AE 0 cE, .int .i64 s.after.q, .int .i64 s.after.t, .slice A5 n5 c5, .int .i64 st, .int .i64 0] 33)) (.cells #[.int .i64 s.before.q, .int .i64 s.before.t, .slice none 0 0] 24) _ (by simp)).trans K14) K15)
            have hal : Below wa.heap.size wa ((wa.alloc (.cells #[.int .i64 0, .int .i64 s.before.q, .int .i64 s.before.t, .slice none 0 0, .slice AE 0 cE, .int .i64 s.after.q, .int .i64 s.after.t, .slice A5 n5 c5, .int .i64 st, .int .i64 0] 33)).alloc (.cells #[.int .i64 s.before.q, .int .i64 s.before.t, .slice none 0 0] 24)) := ((Below.refl _ _).alloc (Nat.le_refl _) _).alloc (by simp) _
            clear K14 K15
            go_wp2_with fail
            go_loopw [16] (fun i wr => ∃ j : Nat, j ≤ 0 ∧ i = .int .i64 j ∧ Hid (wr.heap[wa.heap.size]? = some (.cells #[.int .i64 0, .int .i64 s.before.q, .int .i64 s.before.t, .slice none 0 0, .slice AE 0 cE, .int .i64 s.after.q, .int .i64 s.after.t, .slice A5 n5 c5, .int .i64 st, .int .i64 0] 33 (0, 0))) ∧
                Hid (wr.heap[wa.heap.size + 1]? = some (.cells #[.int .i64 (bhC s.before (s.evs.take j)).q, .int .i64 (bhC s.before (s.evs.take j)).t, .slice none 0 0] 24 (0, 0))) ∧ Below wa.heap.size wa wr) (fun i _ => 0 - (intOf i).toNat)
            case atStart => exact ⟨0, Nat.zero_le _, rfl, hid HKS.out.1, hid (by rw [List.take_zero]; exact HKS.out.2), hal⟩
            case round =>
              obtain ⟨j, hj, rfl, hk14, hk15, hbr⟩ := hrel
              have y4 := blk_lt hk14.out
              obtain ⟨v0, v1, v2, v3, v4, v5, v6, v7, v8, v9⟩ := blk10 hk14.out
              have y5 := blk_lt hk15.out
              obtain ⟨c0, c1, c2, f0, f1, f2⟩ := blk3 hk15.out
              by_cases hlt : j < 0
              · exact absurd hlt (Nat.not_lt_zero _)
              · obtain rfl : j = 0 := by omega
                clear c0 c1 c2 f0 f1 f2 hk15 y5 HKS hal
                have hbwr : Below w.heap.size w wr := hbwa.trans (hbr.mono hbwa.size)
                go_wp2_with fail
                go_ret
                exact ⟨rfl, hbwr⟩

          · have hmay := HIN.out.may h0
            have b6 : (s.num == 0) = false := by simp; exact h0
            have b7 : decide (0 < s.num) = true := decide_eq_true (by have := hmay.1; omega)
            have h0' := hid h0
            clear hmay h0
            have K14 := heap_alloc_new wa (.cells #[.int .i64 s.num, .int .i64 s.before.q, .int .i64 s.before.t, .slice none 0 0, .slice AE M cE, .int .i64 s.after.q, .int .i64 s.after.t, .slice A5 n5 c5, .int .i64 st, .int .i64 (s.size : Int)] 33)
            have K15 := heap_alloc_new (wa.alloc (.cells #[.int .i64 s.num, .int .i64 s.before.q, .int .i64 s.before.t, .slice none 0 0, .slice AE M cE, .int .i64 s.after.q, .int .i64 s.after.t, .slice A5 n5 c5, .int .i64 st, .int .i64 (s.size : Int)] 33)) (.cells #[.int .i64 s.before.q, .int .i64 s.before.t, .slice none 0 0] 24)
            rw [World.size_alloc] at K15
            have HKS := hid (And.intro ((Below.heap_alloc (wa.alloc (.cells #[.int .i64 s.num, .int .i64 s.before.q, .int .i64 s.before.t, .slice none 0 0, .slice AE M cE, .int .i64 s.after.q, .int .i64 s.after.t, .slice A5 n5 c5, .int .i64 st, .int .i64 (s.size : Int)] 33)) (.cells #[.int .i64 s.before.q, .int .i64 s.before.t, .slice none 0 0] 24) _ (by simp)).trans K14) K15)
            have hal : Below wa.heap.size wa ((wa.alloc (.cells #[.int .i64 s.num, .int .i64 s.before.q, .int .i64 s.before.t, .slice none 0 0, .slice AE M cE, .int .i64 s.after.q, .int .i64 s.after.t, .slice A5 n5 c5, .int .i64 st, .int .i64 (s.size : Int)] 33)).alloc (.cells #[.int .i64 s.before.q, .int .i64 s.before.t, .slice none 0 0] 24)) := ((Below.refl _ _).alloc (Nat.le_refl _) _).alloc (by simp) _
            clear K14 K15
            go_wp2_with fail
            go_loopw [16] (fun i wr => ∃ j : Nat, j ≤ M ∧ i = .int .i64 j ∧ Hid (wr.heap[wa.heap.size]? = some (.cells #[.int .i64 s.num, .int .i64 s.before.q, .int .i64 s.before.t, .slice none 0 0, .slice AE M cE, .int .i64 s.after.q, .int .i64 s.after.t, .slice A5 n5 c5, .int .i64 st, .int .i64 (s.size : Int)] 33 (0, 0))) ∧
                Hid (wr.heap[wa.heap.size + 1]? = some (.cells #[.int .i64 (bhC s.before (s.evs.take j)).q, .int .i64 (bhC s.before (s.evs.take j)).t, .slice none 0 0] 24 (0, 0))) ∧ Below wa.heap.size wa wr) (fun i _ => M - (intOf i).toNat)
            case atStart => exact ⟨0, Nat.zero_le _, rfl, hid HKS.out.1, hid (by rw [List.take_zero]; exact HKS.out.2), hal⟩
            case round =>
              obtain ⟨j, hj, rfl, hk14, hk15, hbr⟩ := hrel
              have y4 := blk_lt hk14.out
              obtain ⟨v0, v1, v2, v3, v4, v5, v6, v7, v8, v9⟩ := blk10 hk14.out
              have y5 := blk_lt hk15.out
              obtain ⟨c0, c1, c2, f0, f1, f2⟩ := blk3 hk15.out
              by_cases hlt : j < M
              · have hjl : j < s.evs.length := by have := HMM.out; omega
                obtain ⟨b, o, rfl, hb, g0, g1, g2, g3, g4, g5, g6⟩ := (HSE.out.below hbr).get hjl
                have HAT := hid (List.getElem?_eq_getElem hjl)
                generalize s.evs[j] = X at *
                obtain ⟨hch, hq, ht, -⟩ := HEV.out j X HAT.out
                have PC := hid (Check_any X.q X.t X.k X.s X.a X.b X.c)
                rw [hch] at PC
                have HBH := hid (bh_at (c := s.before) HAT.out)
                have e1 : decide (X.q ≤ (bhC s.before (s.evs.take j)).q) = false := decide_eq_false (by omega)
                have e2 : decide (X.t < (bhC s.before (s.evs.take j)).t) = false := decide_eq_false (by omega)
                have hale : Below wr.heap.size wr (wr.alloc (.cells #[.int .i64 X.q, .int .i64 X.t, .int .i64 X.k, .string X.s, .int .i64 X.a, .int .i64 X.b, .int .i64 X.c] 38)) := (Below.refl _ _).alloc (Nat.le_refl _) _
                clear hch hjl
                go_wp2_with fail
                refine (PC.out _).mono ?_
                rintro e w8 ⟨rfl, hb8⟩
                have h8 := hale.trans (hb8.mono hale.size)
                have HK4 := hid ((h8.block _ y4).trans hk14.out)
                have HK5 := hid ((h8.block _ y5).trans hk15.out)
                have K6 := (hb8.block wr.heap.size (by simp)).trans (heap_alloc_new wr _)
                clear v0 v1 v2 v3 v4 v5 v6 v7 v8 v9 c0 c1 c2 f0 f1 f2 y4 y5 g0 g1 g2 g3 g4 g5 g6
                have y5 := blk_lt HK5.out
                obtain ⟨c0, c1, c2, f0, f1, f2⟩ := blk3 HK5.out
                have y6 := blk_lt K6
                obtain ⟨t0, t1, t2, t3, t4, t5, t6⟩ := blk7 K6
                have SS := sto3 w8 (wa.heap.size + 1) (.int .i64 X.q) (.int .i64 X.t) (.slice none 0 0)
                have HX9 := hid (And.intro ((SS.block _ (by omega)).trans HK4.out) (And.intro (all3 (a' := .int .i64 X.q) (b' := .int .i64 X.t) (c' := .slice none 0 0) HK5.out) (SS.below (hbr.trans (h8.mono hbr.size)) (by omega))))
                clear K6 SS hb8 h8
                go_wp2_with fail
                go_roundw
                case rel => exact ⟨j + 1, by omega, by go_num, hid HX9.out.1, hid (by rw [HBH.out]; exact HX9.out.2.1), HX9.out.2.2⟩
                case measure => simp [intOf]; omega
              · obtain rfl : j = M := by omega
                clear c0 c1 c2 f0 f1 f2 hk15 y5 HKS hal
                have hbwr : Below w.heap.size w wr := hbwa.trans (hbr.mono hbwa.size)
                by_cases hs1 : st = 1
                · subst hs1
                  obtain ⟨hzm, hsz⟩ := fin_is HIN.out h0'.out (by rw [HST.out]; omega)
                  have hsd : s.sd = false := by rw [st_sd (by rw [HST.out]; omega), HST.out]; rfl
                  have hsg : Sg s.num s.before s.evs := ⟨HIN.out.may h0'.out, HIN.out.rc h0'.out, HIN.out.nil h0'.out, HIN.out.ok h0'.out⟩
                  have hbe : (⟨s.before.q, s.before.t, []⟩ : Ahd) = s.before := by
                    have := hsg.nil
                    cases hb : s.before with
                    | mk a b c => rw [hb] at this; simp only at this; rw [this]
                  have PM2 := hid (Make_any s.num s.before.q s.before.t (A := none) (n := 0) (cp := 0) (ss := []) ⟨by decide, fun s hs => by cases hs⟩ (cl := cE) (fun x hx => by
                    obtain ⟨i, hi, rfl⟩ := List.getElem_of_mem hx
                    exact (HEV.out i _ (List.getElem?_eq_getElem hi)).2.2.2) (by have := HMM.out; omega) false (w := wr) ⟨Sl.nil _ _ _, Nat.le_refl _, Nat.zero_le _, fun _ => rfl⟩ ((HSE.out.below hbr).up hbr.size))
                  unfold SgR at PM2
                  rw [hbe, (mk_back hsg false).1, (mk_back hsg false).2] at PM2
                  rw [hsd] at hzm
                  rw [← hzm, HMM.out] at PM2
                  have hsn : s.size = nM := by have := HM.out.len; omega
                  have b8 : ((s.size : Int) == (nM : Int)) = true := by simp [hsn]
                  have b9 : (s.size == nM) = true := by simp [hsn]
                  clear hzm hsd hsg hbe
                  go_wp2_with fail
                  refine PM2.out.mono ?_
                  rintro e w9 ⟨⟨v9, rfl, hown9, -⟩, hb9⟩
                  obtain ⟨A9, c9, rfl, hR9, -⟩ := own_rw hown9
                  have hbw9 : Below w.heap.size w w9 := hbwr.trans (hb9.mono hbwr.size)
                  have K9 := (hb9.block _ y4).trans hk14.out
                  have cv1 := conv8 c9 hR9.1
                  have cv2 := conv8 cM (HM.out.below hbw9).1
                  clear v0 v1 v2 v3 v4 v5 v6 v7 v8 v9 y4
                  have y4 := blk_lt K9
                  obtain ⟨v0, v1, v2, v3, v4, v5, v6, v7, v8, v9⟩ := blk10 K9
                  clear K9 hR9 hown9 hb9
                  go_wp2_with fail
                  go_ret
                  exact ⟨ret_bool (by have h9 := HM.out.len; simp; omega), hbw9⟩
                · by_cases hs4 : st = 4
                  · subst hs4
                    obtain ⟨hzm, hsz⟩ := fin_is HIN.out h0'.out (by rw [HST.out]; omega)
                    have hsd : s.sd = true := by rw [st_sd (by rw [HST.out]; omega), HST.out]; rfl
                    have hsg : Sg s.num s.before s.evs := ⟨HIN.out.may h0'.out, HIN.out.rc h0'.out, HIN.out.nil h0'.out, HIN.out.ok h0'.out⟩
                    have hbe : (⟨s.before.q, s.before.t, []⟩ : Ahd) = s.before := by
                      have := hsg.nil
                      cases hb : s.before with
                      | mk a b c => rw [hb] at this; simp only at this; rw [this]
                    have PM2 := hid (Make_any s.num s.before.q s.before.t (A := none) (n := 0) (cp := 0) (ss := []) ⟨by decide, fun s hs => by cases hs⟩ (cl := cE) (fun x hx => by
                      obtain ⟨i, hi, rfl⟩ := List.getElem_of_mem hx
                      exact (HEV.out i _ (List.getElem?_eq_getElem hi)).2.2.2) (by have := HMM.out; omega) true (w := wr) ⟨Sl.nil _ _ _, Nat.le_refl _, Nat.zero_le _, fun _ => rfl⟩ ((HSE.out.below hbr).up hbr.size))
                    unfold SgR at PM2
                    rw [hbe, (mk_back hsg true).1, (mk_back hsg true).2] at PM2
                    rw [hsd] at hzm
                    rw [← hzm, HMM.out] at PM2
                    have hsn : s.size = nM := by have := HM.out.len; omega
                    have b8 : ((s.size : Int) == (nM : Int)) = true := by simp [hsn]
                    have b9 : (s.size == nM) = true := by simp [hsn]
                    clear hzm hsd hsg hbe
                    go_wp2_with fail
                    refine PM2.out.mono ?_
                    rintro e w9 ⟨⟨v9, rfl, hown9, -⟩, hb9⟩
                    obtain ⟨A9, c9, rfl, hR9, -⟩ := own_rw hown9
                    have hbw9 : Below w.heap.size w w9 := hbwr.trans (hb9.mono hbwr.size)
                    have K9 := (hb9.block _ y4).trans hk14.out
                    have cv1 := conv8 c9 hR9.1
                    have cv2 := conv8 cM (HM.out.below hbw9).1
                    clear v0 v1 v2 v3 v4 v5 v6 v7 v8 v9 y4
                    have y4 := blk_lt K9
                    obtain ⟨v0, v1, v2, v3, v4, v5, v6, v7, v8, v9⟩ := blk10 K9
                    clear K9 hR9 hown9 hb9
                    go_wp2_with fail
                    go_ret
                    exact ⟨ret_bool (by have h9 := HM.out.len; simp; omega), hbw9⟩
                  · have b1 : (st == 1) = false := by simp; exact hs1
                    have b2 : (st != 1) = true := by simp; exact hs1
                    have b4 : (st == 4) = false := by simp; exact hs4
                    have b5 : (st != 4) = true := by simp; exact hs4
                    go_wp2_with fail
                    go_ret
                    exact ⟨rfl, hbwr⟩

end Go.Proofs.YtondnbnaoacanaaDoor
