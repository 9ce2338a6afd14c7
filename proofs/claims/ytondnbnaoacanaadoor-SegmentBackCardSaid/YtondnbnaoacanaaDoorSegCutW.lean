/- The walk of SegmentCut. -/
import Derived.Test.YtondnbnaoacanaaDoorSegA
import Derived.Test.YtondnbnaoacanaaDoorSegB
namespace Go.Proofs.YtondnbnaoacanaaDoor
open Go.ChangeShapes Go.WideShapes Go.ChangeAt Go.RowKit Fb Go.Maps

theorem rw_take {w : World} {A : Option Addr} {n c k : Nat} {zs : List Int} (h : Rw w A n c zs) (hk : k ≤ n) : Rw w A k c (zs.take k) := by
  refine ⟨?_, Nat.le_trans hk h.2.1, h.2.2⟩
  have := h.1.take hk
  rwa [by8, ← List.map_take] at this
theorem evsC_take (l : List Ev) (k : Nat) : evsC (l.take k) = (evsC l).take (k * 7) := by
  induction l generalizing k with
  | nil => simp [evsC]
  | cons x l ih =>
    cases k with
    | zero => simp [evsC]
    | succ k =>
      have h1 : evsC (x :: l) = evC x ++ evsC l := by simp [evsC]
      have h2 : evsC ((x :: l).take (k + 1)) = evC x ++ evsC (l.take k) := by simp [evsC]
      have h3 : (evC x).length = 7 := rfl
      rw [h1, h2, ih, List.take_append, List.take_of_length_le (l := evC x) (by rw [h3]; omega), h3]
      congr 2
      omega
theorem Se.take {w : World} {B : Nat} {A : Option Addr} {l : List Ev} (h : Se w B A l) {k : Nat} (hk : k ≤ l.length) : Se w B A (l.take k) := by
  unfold Se at h ⊢
  rw [evsC_take, List.length_take, Nat.min_eq_left hk]
  exact Sl.take h (by omega)
theorem mk_zero {m : Int} {c : Ahd} {l : List Ev} (h : mkE m c l = 0) : Sg m c l := by
  unfold mkE at h
  by_cases hk : hqOk m c = true
  · rw [if_pos hk] at h
    obtain ⟨a, b, d⟩ := hq_iff.1 hk
    exact ⟨a, b, d, errL_ok.1 h⟩
  · rw [if_neg hk] at h
    cases h

set_option maxRecDepth 100000 in
set_option maxHeartbeats 32000000 in
theorem cut_walk (m q t : Int) {A : Option Addr} {n cp : Nat} {ss : List ByteArray} {AL : Option Addr} {cl : Nat} {l : List Ev} (sd : Bool) (ct : Nat) {AM : Option Addr} {nM cM : Nat} {zm : List Int} (w : World) (hR : Rs w A n cp ss)
    (hS : Se w w.heap.size AL l) (hcl : l.length ≤ cl) (hcm : cl ≤ maxLen) (hx : ∀ x ∈ l, x.s.size ≤ maxLen) (hct : ct ≤ 65535) (hM : Rw w AM nM cM zm) (hbm : Bytes zm) (hpw : Pw w) :
    Calls Tryd.prog 4 #[.int .i64 m, .agg #[.int .i64 q, .int .i64 t, .slice A n cp], .slice AL l.length cl, .bool sd, .int .u16 (ct : Int), .slice AM nM cM] w fun e w' => e = .returned (.bool true) ∧ Below w.heap.size w w' := by
  have hbA : Below w.heap.size w (w.alloc (.cells #[.int .i64 q, .int .i64 t, .slice A n cp] 24)) := (Below.refl _ _).alloc (Nat.le_refl _) _
  have PA := hid (awake9 (hpw.below hbA))
  have HR := hid hR
  have HS := hid hS
  have HM := hid hM
  have HX := hid hx
  have PF := hid (fun (w1 : World) (h : Below w.heap.size w w1) => few_any q t (cp := cp) (cl := cl) (Nat.le_trans hcl hcm) (hR.below h) ((hS.below h).up h.size))
  clear hR hS hM hpw hx
  unfold maxLen at hcm
  cases hfw : fwB ss l with
  | false =>
    rw [hfw] at PF
    go_enter Tryd.func4, Tryd.ntmps4
    go_wp2_with fail
    refine PA.out.mono ?_
    rintro e w1 ⟨rfl, hb1⟩
    have hbw1 : Below w.heap.size w w1 := hbA.trans (hb1.mono hbA.size)
    have K1 := (hb1.block w.heap.size (by simp)).trans (heap_alloc_new w _)
    have z1 := blk_lt K1
    obtain ⟨u10, u11, u12, f10, f11, f12⟩ := blk3 K1
    clear hb1
    go_wp2_with fail
    refine (PF.out _ hbw1).mono ?_
    rintro e w2 ⟨rfl, hb2⟩
    go_wp2_with fail
    go_ret
    exact ⟨rfl, hbw1.trans (hb2.mono hbw1.size)⟩
  | true =>
    rw [hfw] at PF
    obtain ⟨hx1, hsh, hl60⟩ := fw_ok hfw
    by_cases h300 : 300 < nM
    · have d3 : decide ((300 : Int) < (nM : Int)) = true := decide_eq_true (by omega)
      go_enter Tryd.func4, Tryd.ntmps4
      go_wp2_with fail
      refine PA.out.mono ?_
      rintro e w1 ⟨rfl, hb1⟩
      have hbw1 : Below w.heap.size w w1 := hbA.trans (hb1.mono hbA.size)
      have K1 := (hb1.block w.heap.size (by simp)).trans (heap_alloc_new w _)
      have z1 := blk_lt K1
      obtain ⟨u10, u11, u12, f10, f11, f12⟩ := blk3 K1
      clear hb1
      go_wp2_with fail
      refine (PF.out _ hbw1).mono ?_
      rintro e w2 ⟨rfl, hb2⟩
      go_wp2_with fail
      go_ret
      exact ⟨rfl, hbw1.trans (hb2.mono hbw1.size)⟩
    · have d3 : decide ((300 : Int) < (nM : Int)) = false := decide_eq_false (by omega)
      have hok := (shB_ok hsh).1
      obtain ⟨L, hL⟩ : ∃ L, l.length = L := ⟨_, rfl⟩
      have PM := hid (fun (w1 : World) (h : Below w.heap.size w w1) => Make_any m q t (cp := cp) hok (cl := cl) HX.out (by omega) sd (HR.out.below h) ((HS.out.below h).up h.size))
      unfold SgR at PM
      rw [hL] at PF PM hl60 hcl ⊢
      have HL := hid hL
      clear hfw hsh hx1 hok hL
      obtain ⟨E, hE⟩ : ∃ E, mkE m ⟨q, t, ss⟩ l = E := ⟨_, rfl⟩
      rw [hE] at PM
      by_cases hE0 : E = 0
      case neg =>
        have e0 : (E == 0) = false := by simp; omega
        have e1 : (E != 0) = true := by simp; omega
        go_enter Tryd.func4, Tryd.ntmps4
        go_wp2_with fail
        refine PA.out.mono ?_
        rintro e w1 ⟨rfl, hb1⟩
        have hbw1 : Below w.heap.size w w1 := hbA.trans (hb1.mono hbA.size)
        have K1 := (hb1.block w.heap.size (by simp)).trans (heap_alloc_new w _)
        have z1 := blk_lt K1
        obtain ⟨u10, u11, u12, f10, f11, f12⟩ := blk3 K1
        clear hb1
        go_wp2_with fail
        refine (PF.out _ hbw1).mono ?_
        rintro e w2 ⟨rfl, hb2⟩
        have hbw2 : Below w.heap.size w w2 := hbw1.trans (hb2.mono hbw1.size)
        have K2 := (hb2.block _ z1).trans K1
        clear z1 u10 u11 u12 f10 f11 f12 K1 hb2
        have z1 := blk_lt K2
        obtain ⟨u10, u11, u12, f10, f11, f12⟩ := blk3 K2
        clear K2
        go_wp2_with fail
        refine (PM.out _ hbw2).mono ?_
        rintro e w3 ⟨⟨v, rfl, hown, -⟩, hb3⟩
        obtain ⟨A3, c3, rfl, hR3, -⟩ := own_rw hown
        go_wp2_with fail
        go_ret
        exact ⟨rfl, hbw2.trans (hb3.mono hbw2.size)⟩
      case pos =>
        subst hE0
        have hsg := mk_zero hE
        have hY : mkY m ⟨q, t, ss⟩ l sd = mkB m ⟨q, t, ss⟩ l sd := if_pos hE
        rw [hY] at PM
        have HSG := hid hsg
        have hlen7 := mkB_len m ⟨q, t, ss⟩ l sd
        have hroom := mkB_room hsg (by have := HL.out; omega) sd
        have HXB := hid (mkB_bytes hsg (by have := HL.out; omega) sd)
        have HCUT := hid (fun (k : Nat) (hk : k < (mkB m ⟨q, t, ss⟩ l sd).length) (s : Sc) (f : Fin ((mkB m ⟨q, t, ss⟩ l sd).take k) s) => fin_cut hsg (by have := HL.out; omega) hk f)
        rw [HL.out] at hlen7 hroom
        generalize mkB m ⟨q, t, ss⟩ l sd = X at *
        obtain ⟨nX, hnX⟩ : ∃ nX, X.length = nX := ⟨_, rfl⟩
        rw [hnX] at PM HCUT hlen7 hroom
        have HNX := hid hnX
        have e0 : ((nX : Int) == 0) = false := by simp; omega
        obtain ⟨k, hk⟩ : ∃ k, ct % nX = k := ⟨_, rfl⟩
        have hkI : (ct : Int) % (nX : Int) = (k : Int) := by omega
        have hkl : k < nX := by rw [← hk]; exact Nat.mod_lt _ (by omega)
        clear hE hY hsg hnX
        go_enter Tryd.func4, Tryd.ntmps4
        go_wp2_with fail
        refine PA.out.mono ?_
        rintro e w1 ⟨rfl, hb1⟩
        have hbw1 : Below w.heap.size w w1 := hbA.trans (hb1.mono hbA.size)
        have K1 := (hb1.block w.heap.size (by simp)).trans (heap_alloc_new w _)
        have z1 := blk_lt K1
        obtain ⟨u10, u11, u12, f10, f11, f12⟩ := blk3 K1
        clear hb1
        go_wp2_with fail
        refine (PF.out _ hbw1).mono ?_
        rintro e w2 ⟨rfl, hb2⟩
        have hbw2 : Below w.heap.size w w2 := hbw1.trans (hb2.mono hbw1.size)
        have K2 := (hb2.block _ z1).trans K1
        clear z1 u10 u11 u12 f10 f11 f12 K1 hb2
        have z1 := blk_lt K2
        obtain ⟨u10, u11, u12, f10, f11, f12⟩ := blk3 K2
        clear K2
        go_wp2_with fail
        refine (PM.out _ hbw2).mono ?_
        rintro e w3 ⟨⟨v, rfl, hown, -⟩, hb3⟩
        obtain ⟨A3, c3, rfl, hR3, -⟩ := own_rw hown
        have hbw3 : Below w.heap.size w w3 := hbw2.trans (hb3.mono hbw2.size)
        have HR3 := hid hR3
        have hc3 : nX ≤ c3 := hR3.2.1
        have hc3m : c3 ≤ 9223372036854775807 := by have := hR3.2.2.1; unfold maxLen at this; omega
        clear z1 u10 u11 u12 f10 f11 f12 hown hR3 hb3
        go_wp2_with fail
        have PR := hid (Read_any (rw_take HR3.out (Nat.le_of_lt hkl)) (fun x hx => HXB.out x (List.mem_of_mem_take hx)) (by rw [List.length_take]; have := HNX.out; omega))
        unfold ReadR at PR
        refine PR.out.mono ?_
        rintro e w4 ⟨⟨s, AE, cE, A5, n5, c5, hf, rfl, hse, hce, hcem, -, -⟩, hb4⟩
        obtain ⟨hst, hsz, ⟨mm, hmm⟩, -⟩ := HCUT.out k hkl s hf
        unfold scV
        have hbw4 : Below w.heap.size w w4 := hbw3.trans (hb4.mono hbw3.size)
        have HFT := hid (show ∀ tt, Fin (X.take s.size ++ zm) tt → s.evs.length ≤ tt.evs.length ∧ s.size ≤ tt.size ∧ tt.evs.take s.evs.length = s.evs ∧ (tt.num = s.num ∨ s.num = 0) from fun tt f => by
          by_cases h0 : s.num = 0
          · obtain rfl := hf.1.inv.zero h0
            exact ⟨Nat.zero_le _, Nat.zero_le _, rfl, .inr rfl⟩
          · have e1 : X.take s.size = (X.take k).take s.size := by rw [List.take_take, Nat.min_eq_left hsz]
            rw [e1] at f
            have h9 := hf.1.inv.few
            obtain ⟨a, ⟨e, b⟩, c⟩ := fin_more hf.1 h0 (by rw [List.length_take] at h9; have := HNX.out; omega) f
            exact ⟨by rw [b, List.length_append]; omega, c, by rw [b, List.take_left], .inl a⟩)
        have HSE := hid hse
        have hML : s.evs.length ≤ L := by have := HL.out; have := congrArg List.length hmm; rw [List.length_append] at this; omega
        have HTK := hid (show l.take s.evs.length = s.evs by rw [hmm, List.take_left])
        have hst2 : stS (X.take k) s = 1 ∧ s.size = k ∨ stS (X.take k) s = 2 := hst
        have HR4 := hid (HR3.out.below hb4)
        clear PR hf hmm hst hb4 HCUT hse HR3
        obtain ⟨M, hM⟩ : ∃ M, s.evs.length = M := ⟨_, rfl⟩
        obtain ⟨st, hstt⟩ : ∃ x, stS (X.take k) s = x := ⟨_, rfl⟩
        have HMM := hid hM
        rw [hM] at hce hML HFT HTK ⊢
        rw [hstt] at hst2 ⊢
        have hal4 : Below w4.heap.size w4 (w4.alloc (.cells #[.int .i64 s.num, .int .i64 s.before.q, .int .i64 s.before.t, .slice none 0 0, .slice AE M cE, .int .i64 s.after.q, .int .i64 s.after.t, .slice A5 n5 c5, .int .i64 st, .int .i64 (s.size : Int)] 33)) := (Below.refl _ _).alloc (Nat.le_refl _) _
        have hbw4a := hbw4.trans (hal4.mono hbw4.size)
        have K4 := heap_alloc_new w4 (.cells #[.int .i64 s.num, .int .i64 s.before.q, .int .i64 s.before.t, .slice none 0 0, .slice AE M cE, .int .i64 s.after.q, .int .i64 s.after.t, .slice A5 n5 c5, .int .i64 st, .int .i64 (s.size : Int)] 33)
        have HK4 := hid K4
        have PS := hid (fun (w1 : World) (h1 : Below w4.heap.size w4 w1) => by
          have h2 := RSame5q (c := cE) (c' := cl) (HSE.out.below h1) (show Se w1 w.heap.size AL s.evs from by
            have h3 := (HS.out.below (hbw4.trans (h1.mono hbw4.size))).take (k := M) (by have := HL.out; omega)
            rwa [HTK.out] at h3) (by have := HMM.out; omega)
          rw [HMM.out] at h2
          exact h2)
        have HFIN := hid (show Fin (X.take s.size ++ zm) = Fin (X.take s.size ++ zm) from rfl)
        have hszk : s.size ≤ k := hsz
        obtain ⟨sz, hsz2⟩ : ∃ x, s.size = x := ⟨_, rfl⟩
        rw [hsz2] at hst2 HFT HK4 hszk ⊢
        rw [hsz2] at hal4 hbw4a
        have q1 : decide ((sz : Int) < 0) = false := decide_eq_false (by omega)
        have q2 : decide ((k : Int) < (sz : Int)) = false := decide_eq_false (by omega)
        have q3 : decide ((L : Int) < (M : Int)) = false := decide_eq_false (by omega)
        have q3n : decide (L < M) = false := decide_eq_false (by omega)
        have q2n : decide (k < sz) = false := decide_eq_false (by omega)
        have q4 : (M : Int) ≤ (cl : Int) := by omega
        have q5 : (0 : Int) ≤ (M : Int) := by omega
        clear hM hstt K4 HFIN hsz hsz2 hce
        generalize s.num = sn at *
        generalize s.before.q = bq at *
        generalize s.before.t = bt at *
        generalize s.after.q = aq at *
        generalize s.after.t = at5 at *
        have key : ∀ b : Bool, (b = true ↔ (st = 1 ∧ sz = k)) → True := fun _ _ => trivial
        clear key
        obtain ⟨i0, hi0, hz0, hz1, hz2⟩ := info_parts u8_info
        obtain ⟨i0, hi0, hz0, hz1, hz2⟩ := info_parts u8_info
        obtain ⟨i0, hi0, hz0, hz1, hz2⟩ := info_parts u8_info
        rcases hst2 with ⟨rfl, hszk2⟩ | rfl
        · subst hszk2
          go_wp2_with fail
          go_quiet ((go_at_call 10; exact Calls.quiet_of (PS.out _ (below_drewN hal4 _))))
          obtain ⟨w5, hw5⟩ : ∃ x, (w4.alloc (.cells #[.int .i64 sn, .int .i64 bq, .int .i64 bt, .slice none 0 0, .slice AE M cE, .int .i64 aq, .int .i64 at5, .slice A5 n5 c5, .int .i64 1, .int .i64 (sz : Int)] 33)).drewN nq = x := ⟨_, rfl⟩
          have h45 : Below w4.heap.size w4 w5 := hw5 ▸ below_drewN hal4 nq
          have K5 : w5.heap[w4.heap.size]? = some (.cells #[.int .i64 sn, .int .i64 bq, .int .i64 bt, .slice none 0 0, .slice AE M cE, .int .i64 aq, .int .i64 at5, .slice A5 n5 c5, .int .i64 1, .int .i64 (sz : Int)] 33 (0, 0)) := hw5 ▸ HK4.out
          rw [hw5]
          have hbw5 : Below w.heap.size w w5 := hbw4.trans (h45.mono hbw4.size)
          have y5 := blk_lt K5
          obtain ⟨u0, u1, u2, u3, u4, u5, u6, u7, u8, u9⟩ := blk10 K5
          have HK5 := hid K5
          have HSE5 := hid ((HSE.out.below h45).up h45.size)
          have HR5 := hid (rw_take (HR4.out.below h45) (show sz ≤ nX by omega))
          have hsx : sz ≤ nX := by omega
          clear h45 K5 HK4 PS hw5 u1 u2 u3 u5 u6 u7 hal4 hbw4a hbw4 HSE HR4
          go_wp2_with (first
            | (at_builtin; refine wpList_pushAll (B := w5.heap.size) rfl (.tmp 102) (.tmp 106) _ rfl Tryd.underlying26 hi0 hz0 hz1 hz2 rfl rfl (own_fresh w5 #[] 5 (base := w5.heap.size) (n := 0) (xs := []) rfl (Nat.le_refl _) rfl rfl (Nat.zero_le _)) rfl HR5.out.2.2.2 (m := sz) (news := by8 (X.take sz)) (HR5.out.1.below ((Below.refl _ _).alloc (Nat.le_refl _) _)) (fun v6 w6 hown6 hbel6 => ?_) (by8_one _) (by simp only [maxLen]; omega) (by omega) (by simp))
            | (at_builtin; refine wpList_pushAll (B := w.heap.size) rfl (.tmp 107) (.tmp 108) _ rfl Tryd.underlying26 hi0 hz0 hz1 hz2 rfl rfl hown6 rfl HM.out.2.2.2 (m := nM) (news := by8 zm) (HM.out.1.below (hbw5.trans (((((Below.refl _ _).alloc (Nat.le_refl _) _).trans hbel6)).mono hbw5.size))) (fun v7 w7 hown7 hbel7 => ?_) (by8_one _) (by simp only [maxLen]; omega) (by omega) (Nat.le_trans (by simp) hbel6.size)))
          have h57 : Below w5.heap.size w5 w7 := (((Below.refl _ _).alloc (Nat.le_refl _) _).trans hbel6).trans hbel7
          have hl7 : (X.take sz ++ zm).length = 0 + sz + nM := by
            rw [List.length_append, List.length_take]
            have := HNX.out
            have := HM.out.len
            omega
          have hown7' : w7.ownsRow w5.heap.size 5 1 v7 (X.take sz ++ zm).length (by8 (X.take sz ++ zm)) := by
            rw [hl7, by8_append]
            simpa using hown7
          obtain ⟨A7, c7, rfl, hR7, -⟩ := own_rw hown7'
          have hbw7 : Below w.heap.size w w7 := hbw5.trans (h57.mono hbw5.size)
          have PR := hid (Read_any hR7 (Bytes.app (fun x hx => HXB.out x (List.mem_of_mem_take hx)) hbm) (by omega))
          unfold ReadR at PR
          clear hown6 hbel6 hown7 hbel7 hown7' hR7 hl7
          refine PR.out.mono ?_
          rintro e w8 ⟨⟨tt, AT, cT, A9, n9, c9, hft, rfl, hst, hct9, hctm, -, -⟩, hb8⟩
          obtain ⟨F1, F2, F3, F4⟩ := HFT.out tt hft
          unfold scV
          have h58 := h57.trans (hb8.mono h57.size)
          have hbw8 : Below w.heap.size w w8 := hbw7.trans (hb8.mono hbw7.size)
          have HST := hid hst
          have HF3 := hid F3
          obtain ⟨MT, hMT⟩ : ∃ x, tt.evs.length = x := ⟨_, rfl⟩
          have HMT := hid hMT
          obtain ⟨tz, htz⟩ : ∃ x, tt.size = x := ⟨_, rfl⟩
          rw [hMT] at F1 hct9 ⊢
          rw [htz] at F2 ⊢
          unfold maxLen at hctm
          have HE5 := hid ((HSE5.out.below h58).up h58.size)
          have HK8 := hid ((hb8.block _ (blk_lt ((h57.block _ y5).trans HK5.out))).trans ((h57.block _ y5).trans HK5.out))
          generalize stS (X.take sz ++ zm) tt = tst at *
          clear PR hft hst F3 hMT htz hb8 h57 h58 HFT u0 u4 u8 u9 y5 HK5 HSE5
          have hal8 : Below w8.heap.size w8 (w8.alloc (.cells #[.int .i64 tt.num, .int .i64 tt.before.q, .int .i64 tt.before.t, .slice none 0 0, .slice AT MT cT, .int .i64 tt.after.q, .int .i64 tt.after.t, .slice A9 n9 c9, .int .i64 tst, .int .i64 (tz : Int)] 33)) := (Below.refl _ _).alloc (Nat.le_refl _) _
          have PS := hid (fun (w1 : World) (h1 : Below w8.heap.size w8 w1) => by
            have h2 := RSame5q (c := cT) (c' := cE) (show Se w1 w8.heap.size AT s.evs from by
              have h3 := (HST.out.below h1).take (k := M) (by have := HMT.out; omega)
              rwa [HF3.out] at h3) (HE5.out.below h1) (by have := HMM.out; omega)
            rw [HMM.out] at h2
            exact h2)
          have K8 := HK8.out
          have y8 := blk_lt K8
          obtain ⟨u0, -, -, -, u4, -, -, -, -, u9⟩ := blk10 K8
          have p1 : decide (M ≤ MT) = true := decide_eq_true F1
          have p2 : decide (sz ≤ tz) = true := decide_eq_true F2
          have p3 : (M : Int) ≤ (cT : Int) := by omega
          have p4 : decide ((M : Int) ≤ (MT : Int)) = true := decide_eq_true (by omega)
          have p5 : decide ((sz : Int) ≤ (tz : Int)) = true := decide_eq_true (by omega)
          generalize tt.num = tn at *
          generalize tt.before.q = tbq at *
          generalize tt.before.t = tbt at *
          generalize tt.after.q = taq at *
          generalize tt.after.t = tat at *
          clear K8
          by_cases hnn : tn = sn
          · subst hnn
            go_wp2_with fail
            go_quiet ((go_at_call 10; exact Calls.quiet_of (PS.out _ (below_drewN hal8 _))))
            go_wp2
            go_ret
            exact ⟨rfl, below_drewN (hbw8.trans (hal8.mono hbw8.size)) _⟩
          · obtain rfl : sn = 0 := by rcases F4 with h | h; exact absurd h hnn; exact h
            have b1 : (tn == 0) = false := by simp; exact hnn
            clear F4
            go_wp2_with fail
            go_quiet ((go_at_call 10; exact Calls.quiet_of (PS.out _ (below_drewN hal8 _))))
            go_wp2
            go_ret
            exact ⟨rfl, below_drewN (hbw8.trans (hal8.mono hbw8.size)) _⟩
        · skip
          go_wp2_with fail
          go_quiet ((go_at_call 10; exact Calls.quiet_of (PS.out _ (below_drewN hal4 _))))
          obtain ⟨w5, hw5⟩ : ∃ x, (w4.alloc (.cells #[.int .i64 sn, .int .i64 bq, .int .i64 bt, .slice none 0 0, .slice AE M cE, .int .i64 aq, .int .i64 at5, .slice A5 n5 c5, .int .i64 2, .int .i64 (sz : Int)] 33)).drewN nq = x := ⟨_, rfl⟩
          have h45 : Below w4.heap.size w4 w5 := hw5 ▸ below_drewN hal4 nq
          have K5 : w5.heap[w4.heap.size]? = some (.cells #[.int .i64 sn, .int .i64 bq, .int .i64 bt, .slice none 0 0, .slice AE M cE, .int .i64 aq, .int .i64 at5, .slice A5 n5 c5, .int .i64 2, .int .i64 (sz : Int)] 33 (0, 0)) := hw5 ▸ HK4.out
          rw [hw5]
          have hbw5 : Below w.heap.size w w5 := hbw4.trans (h45.mono hbw4.size)
          have y5 := blk_lt K5
          obtain ⟨u0, u1, u2, u3, u4, u5, u6, u7, u8, u9⟩ := blk10 K5
          have HK5 := hid K5
          have HSE5 := hid ((HSE.out.below h45).up h45.size)
          have HR5 := hid (rw_take (HR4.out.below h45) (show sz ≤ nX by omega))
          have hsx : sz ≤ nX := by omega
          clear h45 K5 HK4 PS hw5 u1 u2 u3 u5 u6 u7 hal4 hbw4a hbw4 HSE HR4
          go_wp2_with (first
            | (at_builtin; refine wpList_pushAll (B := w5.heap.size) rfl (.tmp 102) (.tmp 106) _ rfl Tryd.underlying26 hi0 hz0 hz1 hz2 rfl rfl (own_fresh w5 #[] 5 (base := w5.heap.size) (n := 0) (xs := []) rfl (Nat.le_refl _) rfl rfl (Nat.zero_le _)) rfl HR5.out.2.2.2 (m := sz) (news := by8 (X.take sz)) (HR5.out.1.below ((Below.refl _ _).alloc (Nat.le_refl _) _)) (fun v6 w6 hown6 hbel6 => ?_) (by8_one _) (by simp only [maxLen]; omega) (by omega) (by simp))
            | (at_builtin; refine wpList_pushAll (B := w.heap.size) rfl (.tmp 107) (.tmp 108) _ rfl Tryd.underlying26 hi0 hz0 hz1 hz2 rfl rfl hown6 rfl HM.out.2.2.2 (m := nM) (news := by8 zm) (HM.out.1.below (hbw5.trans (((((Below.refl _ _).alloc (Nat.le_refl _) _).trans hbel6)).mono hbw5.size))) (fun v7 w7 hown7 hbel7 => ?_) (by8_one _) (by simp only [maxLen]; omega) (by omega) (Nat.le_trans (by simp) hbel6.size)))
          have h57 : Below w5.heap.size w5 w7 := (((Below.refl _ _).alloc (Nat.le_refl _) _).trans hbel6).trans hbel7
          have hl7 : (X.take sz ++ zm).length = 0 + sz + nM := by
            rw [List.length_append, List.length_take]
            have := HNX.out
            have := HM.out.len
            omega
          have hown7' : w7.ownsRow w5.heap.size 5 1 v7 (X.take sz ++ zm).length (by8 (X.take sz ++ zm)) := by
            rw [hl7, by8_append]
            simpa using hown7
          obtain ⟨A7, c7, rfl, hR7, -⟩ := own_rw hown7'
          have hbw7 : Below w.heap.size w w7 := hbw5.trans (h57.mono hbw5.size)
          have PR := hid (Read_any hR7 (Bytes.app (fun x hx => HXB.out x (List.mem_of_mem_take hx)) hbm) (by omega))
          unfold ReadR at PR
          clear hown6 hbel6 hown7 hbel7 hown7' hR7 hl7
          refine PR.out.mono ?_
          rintro e w8 ⟨⟨tt, AT, cT, A9, n9, c9, hft, rfl, hst, hct9, hctm, -, -⟩, hb8⟩
          obtain ⟨F1, F2, F3, F4⟩ := HFT.out tt hft
          unfold scV
          have h58 := h57.trans (hb8.mono h57.size)
          have hbw8 : Below w.heap.size w w8 := hbw7.trans (hb8.mono hbw7.size)
          have HST := hid hst
          have HF3 := hid F3
          obtain ⟨MT, hMT⟩ : ∃ x, tt.evs.length = x := ⟨_, rfl⟩
          have HMT := hid hMT
          obtain ⟨tz, htz⟩ : ∃ x, tt.size = x := ⟨_, rfl⟩
          rw [hMT] at F1 hct9 ⊢
          rw [htz] at F2 ⊢
          unfold maxLen at hctm
          have HE5 := hid ((HSE5.out.below h58).up h58.size)
          have HK8 := hid ((hb8.block _ (blk_lt ((h57.block _ y5).trans HK5.out))).trans ((h57.block _ y5).trans HK5.out))
          generalize stS (X.take sz ++ zm) tt = tst at *
          clear PR hft hst F3 hMT htz hb8 h57 h58 HFT u0 u4 u8 u9 y5 HK5 HSE5
          have hal8 : Below w8.heap.size w8 (w8.alloc (.cells #[.int .i64 tt.num, .int .i64 tt.before.q, .int .i64 tt.before.t, .slice none 0 0, .slice AT MT cT, .int .i64 tt.after.q, .int .i64 tt.after.t, .slice A9 n9 c9, .int .i64 tst, .int .i64 (tz : Int)] 33)) := (Below.refl _ _).alloc (Nat.le_refl _) _
          have PS := hid (fun (w1 : World) (h1 : Below w8.heap.size w8 w1) => by
            have h2 := RSame5q (c := cT) (c' := cE) (show Se w1 w8.heap.size AT s.evs from by
              have h3 := (HST.out.below h1).take (k := M) (by have := HMT.out; omega)
              rwa [HF3.out] at h3) (HE5.out.below h1) (by have := HMM.out; omega)
            rw [HMM.out] at h2
            exact h2)
          have K8 := HK8.out
          have y8 := blk_lt K8
          obtain ⟨u0, -, -, -, u4, -, -, -, -, u9⟩ := blk10 K8
          have p1 : decide (M ≤ MT) = true := decide_eq_true F1
          have p2 : decide (sz ≤ tz) = true := decide_eq_true F2
          have p3 : (M : Int) ≤ (cT : Int) := by omega
          have p4 : decide ((M : Int) ≤ (MT : Int)) = true := decide_eq_true (by omega)
          have p5 : decide ((sz : Int) ≤ (tz : Int)) = true := decide_eq_true (by omega)
          generalize tt.num = tn at *
          generalize tt.before.q = tbq at *
          generalize tt.before.t = tbt at *
          generalize tt.after.q = taq at *
          generalize tt.after.t = tat at *
          clear K8
          by_cases hnn : tn = sn
          · subst hnn
            go_wp2_with fail
            go_quiet ((go_at_call 10; exact Calls.quiet_of (PS.out _ (below_drewN hal8 _))))
            go_wp2
            go_ret
            exact ⟨rfl, below_drewN (hbw8.trans (hal8.mono hbw8.size)) _⟩
          · obtain rfl : sn = 0 := by rcases F4 with h | h; exact absurd h hnn; exact h
            have b1 : (tn == 0) = false := by simp; exact hnn
            clear F4
            go_wp2_with fail
            go_quiet ((go_at_call 10; exact Calls.quiet_of (PS.out _ (below_drewN hal8 _))))
            go_wp2
            go_ret
            exact ⟨rfl, below_drewN (hbw8.trans (hal8.mono hbw8.size)) _⟩
end Go.Proofs.YtondnbnaoacanaaDoor
