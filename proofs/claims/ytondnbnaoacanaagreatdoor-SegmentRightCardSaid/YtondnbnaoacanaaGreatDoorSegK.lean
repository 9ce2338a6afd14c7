/- Layer 9, the reference: contract of Read. -/
import Derived.Test.YtondnbnaoacanaaGreatDoorSegD
import Derived.Test.YtondnbnaoacanaaGreatDoorSegT
import Derived.Test.YtondnbnaoacanaaGreatDoorFrame4
namespace Go.Proofs.YtondnbnaoacanaaGreatDoor
open Go.ChangeShapes Go.WideShapes Go.ChangeAt Go.RowKit Go.Deep Fb Go.Maps

theorem sj_at {w0 w : World} {g : Nat} {s : Sc} {vE : Value} {A2 : Option Addr} {n2 c2 : Nat} (h : SJ w0 g w s vE A2 n2 c2) : szAt g w = s.size := by
  unfold szAt
  rw [(blk10 h.blk).2.2.2.2.2.2.2.2.2]
  exact Int.toNat_natCast _
theorem SJ.sz {w0 w : World} {g : Nat} {s : Sc} {vE : Value} {A2 : Option Addr} {n2 c2 : Nat} (h : SJ w0 g w s vE A2 n2 c2) : szAt g w = s.size := sj_at h
theorem st_1 {zs : List Int} {s : Sc} {E : Int} (h : nxS zs (s.size : Int) = E) : stS zs s = if E = 1 then (if s.sd then 4 else 1) else if E = 2 ∧ s.sd = false then 2 else 3 := by unfold stS; rw [h]

set_option maxRecDepth 100000 in
set_option maxHeartbeats 32000000 in
theorem RRead_any {AB : Option Addr} {nB cB : Nat} {zs : List Int} {w : World} (hS : Rw w AB nB cB zs) (hb : Bytes zs) (hzl : zs.length ≤ 100000) :
    Calls Tryz.prog 21 #[.slice AB nB cB] w (ReadR w zs) := by
  have hal0 : Below w.heap.size w (w.alloc (.cells #[.int .i64 0, .int .i64 0, .int .i64 0, .slice none 0 0, .slice none 0 0, .int .i64 0, .int .i64 0, .slice none 0 0, .int .i64 0, .int .i64 0] 50)) := (Below.refl _ _).alloc (Nat.le_refl _) _
  have HS := hid (hS.below hal0)
  have HB := hid hb
  have h0 : SJ (w.alloc (.cells #[.int .i64 0, .int .i64 0, .int .i64 0, .slice none 0 0, .slice none 0 0, .int .i64 0, .int .i64 0, .slice none 0 0, .int .i64 0, .int .i64 0] 50)) (w.heap.size + 1) ((w.alloc (.cells #[.int .i64 0, .int .i64 0, .int .i64 0, .slice none 0 0, .slice none 0 0, .int .i64 0, .int .i64 0, .slice none 0 0, .int .i64 0, .int .i64 0] 50)).alloc (.cells #[.int .i64 0, .int .i64 0, .int .i64 0, .slice none 0 0, .slice none 0 0, .int .i64 0, .int .i64 0, .slice none 0 0, .int .i64 0, .int .i64 0] 50)) sc0 (.slice none 0 0) none 0 0 := by
    refine ⟨by simp, (Below.refl _ _).alloc (Nat.le_refl _) _, ?_, World.ownsRow_nil _ _ _ _, SprY.nil _ _, rs_nil _⟩
    have := heap_alloc_new (w.alloc (.cells #[.int .i64 0, .int .i64 0, .int .i64 0, .slice none 0 0, .slice none 0 0, .int .i64 0, .int .i64 0, .slice none 0 0, .int .i64 0, .int .i64 0] 50)) (.cells #[.int .i64 0, .int .i64 0, .int .i64 0, .slice none 0 0, .slice none 0 0, .int .i64 0, .int .i64 0, .slice none 0 0, .int .i64 0, .int .i64 0] 50)
    rw [World.size_alloc] at this
    exact this
  have H0 := hid h0
  have HK := hid (heap_alloc_new w (.cells #[.int .i64 0, .int .i64 0, .int .i64 0, .slice none 0 0, .slice none 0 0, .int .i64 0, .int .i64 0, .slice none 0 0, .int .i64 0, .int .i64 0] 50))
  clear hS hb h0
  go_enter Tryz.func21, Tryz.ntmps21
  go_wp2
  obtain ⟨w0, hW0⟩ : ∃ x, x = w.alloc (.cells #[.int .i64 0, .int .i64 0, .int .i64 0, .slice none 0 0, .slice none 0 0, .int .i64 0, .int .i64 0, .slice none 0 0, .int .i64 0, .int .i64 0] 50) := ⟨_, rfl⟩
  rw [← hW0] at HS H0 hal0 HK ⊢
  have HW0 := hid hW0
  have hs0 : w0.heap.size = w.heap.size + 1 := by rw [hW0]; simp
  clear hW0
  go_loopw [4] (fun b wr => ∃ s vE A3 n3 c3, b = .bool s.sd ∧ Hid (Rch zs s ∧ SJ w0 (w.heap.size + 1) wr s vE A3 n3 c3)) (fun _ wr => zs.length - szAt (w.heap.size + 1) wr)
  case atStart => exact ⟨sc0, _, _, _, _, rfl, hid ⟨.none _, H0.out⟩⟩
  case round =>
    obtain ⟨s, vE, A3, n3, c3, rfl, HI⟩ := hrel
    obtain ⟨AE, cE, rfl, -, -, -⟩ := own_evs HI.out.2.row (Nat.le_refl _)
    have inv := HI.out.1.inv
    have HIV := hid inv
    have v9 := (blk10 HI.out.2.blk).2.2.2.2.2.2.2.2.2
    have yg := blk_lt HI.out.2.blk
    have hle : s.size ≤ nB := by have := inv.le; have := HS.out.len; omega
    have hnl : nB ≤ 100000 := by have := HS.out.len; omega
    have PN := hid (RFNext_any (s.size : Int) (HS.out.below HI.out.2.bel) HB.out)
    have HSS := hid (fun (w9 : World) (h : Below w0.heap.size w0 w9) => HS.out.below h)
    unfold RFNext at PN
    clear inv
    go_wp2_with fail
    refine PN.out.mono ?_
    rintro e w1 ⟨⟨AP, cP, rfl, hP⟩, hb1⟩
    go_upto_region 4 with fail
    have hal : Below w1.heap.size w1 (w1.alloc (.cells #[.int .i64 (nxS zs (s.size : Int)), .int .i64 (nxK zs (s.size : Int)), .slice AP (nxP zs (s.size : Int)).length cP, .int .i64 (nxN zs (s.size : Int))] 66)) := (Below.refl _ _).alloc (Nat.le_refl _) _
    have HF := hid (heap_alloc_new w1 (.cells #[.int .i64 (nxS zs (s.size : Int)), .int .i64 (nxK zs (s.size : Int)), .slice AP (nxP zs (s.size : Int)).length cP, .int .i64 (nxN zs (s.size : Int))] 66))
    have HJ := hid ((HI.out.2.below hb1).below hal)
    have HP := hid (hP.below hal)
    have hgf : w.heap.size + 1 < w1.heap.size := Nat.lt_of_lt_of_le yg hb1.size
    obtain ⟨we, hWe⟩ : ∃ x, x = w1.alloc (.cells #[.int .i64 (nxS zs (s.size : Int)), .int .i64 (nxK zs (s.size : Int)), .slice AP (nxP zs (s.size : Int)).length cP, .int .i64 (nxN zs (s.size : Int))] 66) := ⟨_, rfl⟩
    rw [← hWe] at HF HJ HP ⊢
    obtain ⟨gf, hgf2⟩ : ∃ x, w1.heap.size = x := ⟨_, rfl⟩
    rw [hgf2] at HF hgf ⊢
    clear hWe hal hP hb1 hgf2 v9 yg PN
    obtain ⟨E, hE⟩ : ∃ x, nxS zs (s.size : Int) = x := ⟨_, rfl⟩
    have HE := hid hE
    rw [hE] at HF ⊢
    have hrg := nx_range zs (s.size : Int)
    rw [hE] at hrg
    clear hE
    obtain ⟨sd, hsd⟩ : ∃ x, s.sd = x := ⟨_, rfl⟩
    have HSD := hid hsd
    rw [hsd]
    clear hsd
    rcases hrg with rfl | rfl | rfl | rfl
    · cases sd with
      | true =>
        generalize nxK zs (s.size : Int) = K at *
        generalize nxP zs (s.size : Int) = P at *
        generalize nxN zs (s.size : Int) = N at *
        have yg := blk_lt HJ.out.blk
        have fg := blk12f HJ.out.blk
        obtain ⟨v0, v1, v2, v3, v4, v5, v6, v7, v8, v9⟩ := blk10 HJ.out.blk
        have KR := (HJ.out.bel.block _ (blk_lt HK.out)).trans HK.out
        have yr := blk_lt KR
        have fr := blk12f KR
        obtain ⟨q0, q1, q2, q3, q4, q5, q6, q7, q8, q9⟩ := blk10 KR
        clear KR
        have yf := blk_lt HF.out
        obtain ⟨x0, x1, x2, x3⟩ := blk4 HF.out
        have HFI := hid (show Fin zs s from ⟨HI.out.1, no_sd HSD.out⟩)
        have HST := hid (show stS zs s = 3 from by rw [st_1 HE.out]; rfl)
        go_wp2_with fail
        obtain ⟨w5, hW5⟩ : ∃ x, x = ((((((((((we.setCell ⟨w.heap.size + 1, 8, none⟩ (.int .i64 3)).setCell ⟨w.heap.size, 0, none⟩ (.int .i64 s.num)).setCell ⟨w.heap.size, 1, none⟩ (.int .i64 s.before.q)).setCell ⟨w.heap.size, 2, none⟩ (.int .i64 s.before.t)).setCell ⟨w.heap.size, 3, none⟩ (.slice none 0 0)).setCell ⟨w.heap.size, 4, none⟩ (.slice AE s.evs.length cE)).setCell ⟨w.heap.size, 5, none⟩ (.int .i64 s.after.q)).setCell ⟨w.heap.size, 6, none⟩ (.int .i64 s.after.t)).setCell ⟨w.heap.size, 7, none⟩ (.slice A3 n3 c3)).setCell ⟨w.heap.size, 8, none⟩ (.int .i64 3)).setCell ⟨w.heap.size, 9, none⟩ (.int .i64 (s.size : Int)) := ⟨_, rfl⟩
        rw [← hW5]
        obtain ⟨T1, T2⟩ := SJ.done (ws := we.setCell ⟨w.heap.size + 1, 8, none⟩ (.int .i64 3)) HJ.out (Sto.cell _ _ _ _) (set10_8 HJ.out.blk) rfl HW0.out HFI.out HST.out hW5
        exact bodyPost_ret (v := .agg (scV s 3 (.slice AE s.evs.length cE) (.slice A3 n3 c3))) (results_cell_row Tryz.results21 _ _ w.heap.size 50 _ (0, 0) _ rfl T1 Tryz.underlying50 rfl scan_size) rfl T2
      | false =>
        have hw := nx_whole HE.out
        obtain ⟨hk1, hk3, hz2⟩ := fpE_zero hw.2.1
        have HBZ := hid (show Bytes (nxP zs (s.size : Int)) by
          obtain ⟨-, eP, -⟩ := nx_yes HE.out
          rw [eP]
          unfold fsP
          exact fun x hx => HB.out x (List.mem_of_mem_drop (List.mem_of_mem_drop (List.mem_of_mem_take hx))))
        have HNX := hid (fun (s' : Sc) (n : Nxt s (frB (nxK zs (s.size : Int)) (nxP zs (s.size : Int))) s') => nx_stp HSD.out HE.out n)
        have HNO := hid (fun (s' : Sc) (k : Stp zs s s') => (stp_nx k).2.2)
        have HH := hid (fun (s' : Sc) (hn : s.num = 0) (n : Nxt s (frB (nxK zs (s.size : Int)) (nxP zs (s.size : Int))) s') => nxt_head (k := nxK zs (s.size : Int)) ⟨hk1, hk3⟩ hz2 hn n)
        have HM := hid (fun (s' : Sc) (hn : s.num ≠ 0) (n : Nxt s (frB (nxK zs (s.size : Int)) (nxP zs (s.size : Int))) s') => nxt_more (k := nxK zs (s.size : Int)) ⟨hk1, hk3⟩ hz2 hn n)
        obtain ⟨m, hm⟩ : ∃ m, (frB (nxK zs (s.size : Int)) (nxP zs (s.size : Int))).length = m := ⟨_, rfl⟩
        have hm7 : 7 ≤ m := by rw [← hm]; exact fr_pos _ _
        have HMM := hid hm
        have hwm := hw.2.2.1
        rw [hm] at hwm
        rw [hwm] at hw
        have hw4 := hw.2.2.2.1
        have hw5 := hw.2.2.2.2.1
        have HW6 := hid hw.2.2.2.2.2
        rw [hwm] at HF ⊢
        have hwr : IntKind.i64.wrap ((s.size : Int) + (m : Int)) = ((s.size + m : Nat) : Int) := by rw [i64_in (by omega) (by omega)]; omega
        have hsm : s.size + m ≤ nB := by have := HS.out.len; omega
        have HSZ := hid (sj_at HI.out.2)
        have HME := hid (fun (w9 : World) (n9 : Nat) (h : szAt (w.heap.size + 1) w9 = n9) (h2 : n9 = s.size + m) => show zs.length - szAt (w.heap.size + 1) w9 < zs.length - szAt (w.heap.size + 1) wr by rw [h, h2, HSZ.out]; omega)
        clear hm hwm hw hw4 hw5
        generalize nxK zs (s.size : Int) = K at *
        generalize nxP zs (s.size : Int) = P at *
        generalize nxN zs (s.size : Int) = N at *
        have hHF := HF.out
        by_cases hn : s.num = 0
        · have hsz0 := hid (show s.size = 0 by rw [HIV.out.zero hn]; rfl)
          have HN0 := hid hn
          by_cases hk : K = 1
          · subst hk
            have PHD := hid (head_any HP.out HBZ.out hz2)
            unfold HeadR at PHD
            by_cases ho : hdO P
            · obtain ⟨hmn, hrc, hl, hzz⟩ := hd_val ho
              obtain ⟨n, hnn⟩ : ∃ x, hdN P = x := ⟨_, rfl⟩
              obtain ⟨⟨q, t, l⟩, hcc⟩ : ∃ x, hdC P = x := ⟨_, rfl⟩
              rw [hnn, hcc] at PHD hzz
              rw [hnn] at hmn
              rw [hcc] at hrc hl
              simp only at hl
              subst hl
              have HQ := hid (And.intro hmn (And.intro hrc hzz))
              have dn : decide (0 < n) = true := decide_eq_true (by have := hmn.1; omega)
              clear hmn hrc hzz hnn hcc ho
              have yg := blk_lt HJ.out.blk
              have fg := blk12f HJ.out.blk
              obtain ⟨v0, v1, v2, v3, v4, v5, v6, v7, v8, v9⟩ := blk10 HJ.out.blk
              have KR := (HJ.out.bel.block _ (blk_lt HK.out)).trans HK.out
              have yr := blk_lt KR
              have fr := blk12f KR
              obtain ⟨q0, q1, q2, q3, q4, q5, q6, q7, q8, q9⟩ := blk10 KR
              clear KR
              have yf := blk_lt HF.out
              obtain ⟨x0, x1, x2, x3⟩ := blk4 HF.out
              rw [hn] at v0
              go_wp2_with fail
              refine PHD.out.mono ?_
              rintro e w2 ⟨rfl, hb2⟩
              have hbx : Below we.heap.size we (w2.alloc (.cells #[.int .i64 q, .int .i64 t, .slice none 0 0] 24)) := hb2.alloc hb2.size _
              have HJ2 := hid (HJ.out.below hb2)
              have HF2 := hid ((hb2.block _ (blk_lt HF.out)).trans HF.out)
              have HJ3 := hid (HJ.out.below hbx)
              clear HF hbx
              clear yg fg v0 v1 v2 v3 v4 v5 v6 v7 v8 v9 yr fr q0 q1 q2 q3 q4 q5 q6 q7 q8 q9 yf x0 x1 x2 x3
              clear HJ hb2 hHF
              have yg := blk_lt HJ2.out.blk
              have fg := blk12f HJ2.out.blk
              obtain ⟨v0, v1, v2, v3, v4, v5, v6, v7, v8, v9⟩ := blk10 HJ2.out.blk
              have yf := blk_lt HF2.out
              obtain ⟨x0, x1, x2, x3⟩ := blk4 HF2.out
              have hne : ¬ w2.heap.size = w.heap.size + 1 := by omega
              go_wp2_with fail
              have hN : Nxt s (frB 1 P) ⟨n, ⟨q, t, []⟩, [], ⟨q, t, []⟩, m, false⟩ := by
                have h := Nxt.head (s := s) (F := frB 1 P) n ⟨q, t, []⟩ HN0.out HQ.out.1 HQ.out.2.1 rfl (by rw [HQ.out.2.2]; rfl)
                rwa [hsz0.out, HMM.out, Nat.zero_add] at h
              have hSJ0 := SJ.head (n := n) (q := q) (t := t) (p := m) HJ2.out (sto10 w2 (w.heap.size + 1) (.int .i64 n) (.int .i64 q) (.int .i64 t) (.slice none 0 0) (.slice none 0 0) (.int .i64 q) (.int .i64 t) (.slice none 0 0) (.int .i64 0) (.int .i64 (m : Int))) (all10 (a' := .int .i64 n) (b' := .int .i64 q) (c' := .int .i64 t) (d' := .slice none 0 0) (e' := .slice none 0 0) (f' := .int .i64 q) (h' := .int .i64 t) (i' := .slice none 0 0) (j' := .int .i64 0) (k' := .int .i64 (m : Int)) HJ2.out.blk)
              obtain ⟨w7, hW7⟩ : ∃ x, x = (((((((((w2.setCell ⟨w.heap.size + 1, 0, none⟩ (.int .i64 n)).setCell ⟨w.heap.size + 1, 1, none⟩ (.int .i64 q)).setCell ⟨w.heap.size + 1, 2, none⟩ (.int .i64 t)).setCell ⟨w.heap.size + 1, 3, none⟩ (.slice none 0 0)).setCell ⟨w.heap.size + 1, 4, none⟩ (.slice none 0 0)).setCell ⟨w.heap.size + 1, 5, none⟩ (.int .i64 q)).setCell ⟨w.heap.size + 1, 6, none⟩ (.int .i64 t)).setCell ⟨w.heap.size + 1, 7, none⟩ (.slice none 0 0)).setCell ⟨w.heap.size + 1, 8, none⟩ (.int .i64 0)).setCell ⟨w.heap.size + 1, 9, none⟩ (.int .i64 (m : Int)) := ⟨_, rfl⟩
              rw [← hW7] at hSJ0 ⊢
              have hSJ := hSJ0.below ((Below.refl w7.heap.size w7).alloc (Nat.le_refl _) (.cells #[.int .i64 q, .int .i64 t, .slice none 0 0] 24))
              exact ⟨⟨_, _, _, _, _, rfl, hid ⟨HI.out.1.more (HNX.out _ hN), hSJ⟩⟩, HME.out _ _ hSJ.sz (by have := hsz0.out; show m = s.size + m; omega)⟩
            · obtain ⟨d1, d2⟩ := hd_no ho
              rw [d1, d2] at PHD
              have HNOS := hid (show ¬ ∃ s', Stp zs s s' from fun ⟨s', k⟩ => by
                obtain ⟨-, n, c, a, b, d, e, -⟩ := HH.out s' HN0.out (HNO.out s' k)
                exact ho ⟨n, c, ⟨a, b, d⟩, e⟩)
              clear d1 d2 ho
              have yg := blk_lt HJ.out.blk
              have fg := blk12f HJ.out.blk
              obtain ⟨v0, v1, v2, v3, v4, v5, v6, v7, v8, v9⟩ := blk10 HJ.out.blk
              have KR := (HJ.out.bel.block _ (blk_lt HK.out)).trans HK.out
              have yr := blk_lt KR
              have fr := blk12f KR
              obtain ⟨q0, q1, q2, q3, q4, q5, q6, q7, q8, q9⟩ := blk10 KR
              clear KR
              have yf := blk_lt HF.out
              obtain ⟨x0, x1, x2, x3⟩ := blk4 HF.out
              rw [hn] at v0
              go_wp2_with fail
              refine PHD.out.mono ?_
              rintro e w2 ⟨rfl, hb2⟩
              have hbw := hid hb2
              clear yg fg v0 v1 v2 v3 v4 v5 v6 v7 v8 v9 yr fr q0 q1 q2 q3 q4 q5 q6 q7 q8 q9 yf x0 x1 x2 x3
              go_upto_region 7 with fail
              have hbx : Below we.heap.size we (w2.alloc (.cells #[.int .i64 0, .int .i64 0, .slice none 0 0] 24)) := hbw.out.alloc hbw.out.size _
              have HJ2 := hid (HJ.out.below hbx)
              have HF2 := hid ((hbx.block _ (blk_lt HF.out)).trans HF.out)
              obtain ⟨wy, hWwy⟩ : ∃ wz, wz = w2.alloc (.cells #[.int .i64 0, .int .i64 0, .slice none 0 0] 24) := ⟨_, rfl⟩
              rw [← hWwy] at HJ2 HF2 ⊢
              clear hWwy hbx HJ HF
              have HJ := HJ2
              have HF := HF2
              clear HJ2 HF2
              have yg := blk_lt HJ.out.blk
              have fg := blk12f HJ.out.blk
              obtain ⟨v0, v1, v2, v3, v4, v5, v6, v7, v8, v9⟩ := blk10 HJ.out.blk
              have KR := (HJ.out.bel.block _ (blk_lt HK.out)).trans HK.out
              have yr := blk_lt KR
              have fr := blk12f KR
              obtain ⟨q0, q1, q2, q3, q4, q5, q6, q7, q8, q9⟩ := blk10 KR
              clear KR
              have yf := blk_lt HF.out
              obtain ⟨x0, x1, x2, x3⟩ := blk4 HF.out
              rw [hn] at v0
              clear hb2 hbw hHF
              go_upto_region 18 with fail
              clear hn v0
              have v0 := (blk10 HJ.out.blk).1
              have HFI := hid (show Fin zs s from ⟨HI.out.1, HNOS.out⟩)
              have HST := hid (show stS zs s = 3 from by rw [st_1 HE.out, HSD.out]; rfl)
              go_wp2_with fail
              obtain ⟨w5, hW5⟩ : ∃ x, x = ((((((((((wy.setCell ⟨w.heap.size + 1, 8, none⟩ (.int .i64 3)).setCell ⟨w.heap.size, 0, none⟩ (.int .i64 s.num)).setCell ⟨w.heap.size, 1, none⟩ (.int .i64 s.before.q)).setCell ⟨w.heap.size, 2, none⟩ (.int .i64 s.before.t)).setCell ⟨w.heap.size, 3, none⟩ (.slice none 0 0)).setCell ⟨w.heap.size, 4, none⟩ (.slice AE s.evs.length cE)).setCell ⟨w.heap.size, 5, none⟩ (.int .i64 s.after.q)).setCell ⟨w.heap.size, 6, none⟩ (.int .i64 s.after.t)).setCell ⟨w.heap.size, 7, none⟩ (.slice A3 n3 c3)).setCell ⟨w.heap.size, 8, none⟩ (.int .i64 3)).setCell ⟨w.heap.size, 9, none⟩ (.int .i64 (s.size : Int)) := ⟨_, rfl⟩
              rw [← hW5]
              obtain ⟨T1, T2⟩ := SJ.done (ws := wy.setCell ⟨w.heap.size + 1, 8, none⟩ (.int .i64 3)) HJ.out (Sto.cell _ _ _ _) (set10_8 HJ.out.blk) rfl HW0.out HFI.out HST.out hW5
              exact bodyPost_ret (v := .agg (scV s 3 (.slice AE s.evs.length cE) (.slice A3 n3 c3))) (results_cell_row Tryz.results21 _ _ w.heap.size 50 _ (0, 0) _ rfl T1 Tryz.underlying50 rfl scan_size) rfl T2
          · have kb : (K == 1) = false := by simp; exact hk
            have HNOS := hid (show ¬ ∃ s', Stp zs s s' from fun ⟨s', k⟩ => hk (HH.out s' HN0.out (HNO.out s' k)).1)
            have yg := blk_lt HJ.out.blk
            have fg := blk12f HJ.out.blk
            obtain ⟨v0, v1, v2, v3, v4, v5, v6, v7, v8, v9⟩ := blk10 HJ.out.blk
            have KR := (HJ.out.bel.block _ (blk_lt HK.out)).trans HK.out
            have yr := blk_lt KR
            have fr := blk12f KR
            obtain ⟨q0, q1, q2, q3, q4, q5, q6, q7, q8, q9⟩ := blk10 KR
            clear KR
            have yf := blk_lt HF.out
            obtain ⟨x0, x1, x2, x3⟩ := blk4 HF.out
            rw [hn] at v0
            go_upto_region 15 with fail
            go_quiet (fail)
            clear yg fg v0 v1 v2 v3 v4 v5 v6 v7 v8 v9 yr fr q0 q1 q2 q3 q4 q5 q6 q7 q8 q9 yf x0 x1 x2 x3
            clear hn hHF
            have hbx : Below we.heap.size we (we.drewN nq) := below_drewN (Below.refl _ _) _
            have HJ2 := hid (HJ.out.below hbx)
            have HF2 := hid ((hbx.block _ (blk_lt HF.out)).trans HF.out)
            obtain ⟨wy, hWwy⟩ : ∃ wz, wz = we.drewN nq := ⟨_, rfl⟩
            rw [← hWwy] at HJ2 HF2 ⊢
            clear hWwy hbx HJ HF
            have HJ := HJ2
            have HF := HF2
            clear HJ2 HF2
            have yg := blk_lt HJ.out.blk
            have fg := blk12f HJ.out.blk
            obtain ⟨v0, v1, v2, v3, v4, v5, v6, v7, v8, v9⟩ := blk10 HJ.out.blk
            have KR := (HJ.out.bel.block _ (blk_lt HK.out)).trans HK.out
            have yr := blk_lt KR
            have fr := blk12f KR
            obtain ⟨q0, q1, q2, q3, q4, q5, q6, q7, q8, q9⟩ := blk10 KR
            clear KR
            have yf := blk_lt HF.out
            obtain ⟨x0, x1, x2, x3⟩ := blk4 HF.out
            have HFI := hid (show Fin zs s from ⟨HI.out.1, HNOS.out⟩)
            have HST := hid (show stS zs s = 3 from by rw [st_1 HE.out, HSD.out]; rfl)
            go_wp2_with fail
            obtain ⟨w5, hW5⟩ : ∃ x, x = ((((((((((wy.setCell ⟨w.heap.size + 1, 8, none⟩ (.int .i64 3)).setCell ⟨w.heap.size, 0, none⟩ (.int .i64 s.num)).setCell ⟨w.heap.size, 1, none⟩ (.int .i64 s.before.q)).setCell ⟨w.heap.size, 2, none⟩ (.int .i64 s.before.t)).setCell ⟨w.heap.size, 3, none⟩ (.slice none 0 0)).setCell ⟨w.heap.size, 4, none⟩ (.slice AE s.evs.length cE)).setCell ⟨w.heap.size, 5, none⟩ (.int .i64 s.after.q)).setCell ⟨w.heap.size, 6, none⟩ (.int .i64 s.after.t)).setCell ⟨w.heap.size, 7, none⟩ (.slice A3 n3 c3)).setCell ⟨w.heap.size, 8, none⟩ (.int .i64 3)).setCell ⟨w.heap.size, 9, none⟩ (.int .i64 (s.size : Int)) := ⟨_, rfl⟩
            rw [← hW5]
            obtain ⟨T1, T2⟩ := SJ.done (ws := wy.setCell ⟨w.heap.size + 1, 8, none⟩ (.int .i64 3)) HJ.out (Sto.cell _ _ _ _) (set10_8 HJ.out.blk) rfl HW0.out HFI.out HST.out hW5
            exact bodyPost_ret (v := .agg (scV s 3 (.slice AE s.evs.length cE) (.slice A3 n3 c3))) (results_cell_row Tryz.results21 _ _ w.heap.size 50 _ (0, 0) _ rfl T1 Tryz.underlying50 rfl scan_size) rfl T2
        · have nb : (s.num == 0) = false := by simp; exact hn
          have np : decide (0 < s.num) = true := decide_eq_true (by have := (HIV.out.may hn).1; omega)
          have HRA := hid (HIV.out.rcA hn)
          have HNM := hid (rc_nms HRA.out)
          have HN0 := hid hn
          rcases (show K = 1 ∨ K = 2 ∨ K = 3 by omega) with rfl | rfl | rfl
          · have HNOS := hid (show ¬ ∃ s', Stp zs s s' from fun ⟨s', k⟩ => by rcases HM.out s' HN0.out (HNO.out s' k) with ⟨h9, -⟩ | ⟨h9, -⟩ <;> omega)
            have yg := blk_lt HJ.out.blk
            have fg := blk12f HJ.out.blk
            obtain ⟨v0, v1, v2, v3, v4, v5, v6, v7, v8, v9⟩ := blk10 HJ.out.blk
            have KR := (HJ.out.bel.block _ (blk_lt HK.out)).trans HK.out
            have yr := blk_lt KR
            have fr := blk12f KR
            obtain ⟨q0, q1, q2, q3, q4, q5, q6, q7, q8, q9⟩ := blk10 KR
            clear KR
            have yf := blk_lt HF.out
            obtain ⟨x0, x1, x2, x3⟩ := blk4 HF.out
            go_upto_region 15 with fail
            go_quiet (fail)
            clear yg fg v0 v1 v2 v3 v4 v5 v6 v7 v8 v9 yr fr q0 q1 q2 q3 q4 q5 q6 q7 q8 q9 yf x0 x1 x2 x3
            clear hHF
            have hbx : Below we.heap.size we (we.drewN nq) := below_drewN (Below.refl _ _) _
            have HJ2 := hid (HJ.out.below hbx)
            have HF2 := hid ((hbx.block _ (blk_lt HF.out)).trans HF.out)
            obtain ⟨wy, hWwy⟩ : ∃ wz, wz = we.drewN nq := ⟨_, rfl⟩
            rw [← hWwy] at HJ2 HF2 ⊢
            clear hWwy hbx HJ HF
            have HJ := HJ2
            have HF := HF2
            clear HJ2 HF2
            have yg := blk_lt HJ.out.blk
            have fg := blk12f HJ.out.blk
            obtain ⟨v0, v1, v2, v3, v4, v5, v6, v7, v8, v9⟩ := blk10 HJ.out.blk
            have KR := (HJ.out.bel.block _ (blk_lt HK.out)).trans HK.out
            have yr := blk_lt KR
            have fr := blk12f KR
            obtain ⟨q0, q1, q2, q3, q4, q5, q6, q7, q8, q9⟩ := blk10 KR
            clear KR
            have yf := blk_lt HF.out
            obtain ⟨x0, x1, x2, x3⟩ := blk4 HF.out
            have HFI := hid (show Fin zs s from ⟨HI.out.1, HNOS.out⟩)
            have HST := hid (show stS zs s = 3 from by rw [st_1 HE.out, HSD.out]; rfl)
            go_wp2_with fail
            obtain ⟨w5, hW5⟩ : ∃ x, x = ((((((((((wy.setCell ⟨w.heap.size + 1, 8, none⟩ (.int .i64 3)).setCell ⟨w.heap.size, 0, none⟩ (.int .i64 s.num)).setCell ⟨w.heap.size, 1, none⟩ (.int .i64 s.before.q)).setCell ⟨w.heap.size, 2, none⟩ (.int .i64 s.before.t)).setCell ⟨w.heap.size, 3, none⟩ (.slice none 0 0)).setCell ⟨w.heap.size, 4, none⟩ (.slice AE s.evs.length cE)).setCell ⟨w.heap.size, 5, none⟩ (.int .i64 s.after.q)).setCell ⟨w.heap.size, 6, none⟩ (.int .i64 s.after.t)).setCell ⟨w.heap.size, 7, none⟩ (.slice A3 n3 c3)).setCell ⟨w.heap.size, 8, none⟩ (.int .i64 3)).setCell ⟨w.heap.size, 9, none⟩ (.int .i64 (s.size : Int)) := ⟨_, rfl⟩
            rw [← hW5]
            obtain ⟨T1, T2⟩ := SJ.done (ws := wy.setCell ⟨w.heap.size + 1, 8, none⟩ (.int .i64 3)) HJ.out (Sto.cell _ _ _ _) (set10_8 HJ.out.blk) rfl HW0.out HFI.out HST.out hW5
            exact bodyPost_ret (v := .agg (scV s 3 (.slice AE s.evs.length cE) (.slice A3 n3 c3))) (results_cell_row Tryz.results21 _ _ w.heap.size 50 _ (0, 0) _ rfl T1 Tryz.underlying50 rfl scan_size) rfl T2
          · have PD := hid (RDecode_any s.after.q s.after.t (cp := c3) HJ.out.nms (by have := HJ.out.nms.len; have := HNM.out.1; omega) HP.out HBZ.out (by omega))
            unfold Decs at PD
            by_cases hfo : ∃ x, Fo s.after.q s.after.t s.after.l x P
            · obtain ⟨x, hx⟩ := hfo
              obtain ⟨d1, d2, d3, d4, d5⟩ := de_yes HRA.out hx
              rw [d1, d2, d3, d4, d5] at PD
              unfold evV at PD
              have HFO := hid hx
              have HNX2 := hid (rc_nms (rc_next HRA.out hx.1))
              clear d1 d2 d3 d4 d5 hx
              have yg := blk_lt HJ.out.blk
              have fg := blk12f HJ.out.blk
              obtain ⟨v0, v1, v2, v3, v4, v5, v6, v7, v8, v9⟩ := blk10 HJ.out.blk
              have KR := (HJ.out.bel.block _ (blk_lt HK.out)).trans HK.out
              have yr := blk_lt KR
              have fr := blk12f KR
              obtain ⟨q0, q1, q2, q3, q4, q5, q6, q7, q8, q9⟩ := blk10 KR
              clear KR
              have yf := blk_lt HF.out
              obtain ⟨x0, x1, x2, x3⟩ := blk4 HF.out
              go_wp2_with fail
              refine PD.out.mono ?_
              rintro e w2 ⟨⟨A4, n4, c4, rfl, hR4⟩, hb2⟩
              go_upto_region 12 with fail
              have hal : Below w2.heap.size w2 ((w2.alloc (.cells #[.int .i64 x.q, .int .i64 x.t, .int .i64 x.k, .string x.s, .int .i64 x.a, .int .i64 x.b, .int .i64 x.c] 41)).alloc (.cells #[.int .i64 x.q, .int .i64 x.t, .slice A4 n4 c4] 24)) := ((Below.refl _ _).alloc (Nat.le_refl _) _).alloc (by simp) _
              have hg8 : gf < w2.heap.size := Nat.lt_of_lt_of_le yf hb2.size
              clear yg fg v0 v1 v2 v3 v4 v5 v6 v7 v8 v9 yr fr q0 q1 q2 q3 q4 q5 q6 q7 q8 q9 yf x0 x1 x2 x3
              clear hHF
              have hbx : Below we.heap.size we ((w2.alloc (.cells #[.int .i64 x.q, .int .i64 x.t, .int .i64 x.k, .string x.s, .int .i64 x.a, .int .i64 x.b, .int .i64 x.c] 41)).alloc (.cells #[.int .i64 x.q, .int .i64 x.t, .slice A4 n4 c4] 24)) := (hb2.alloc hb2.size _).alloc (by have := hb2.size; simp; omega) _
              have HJ2 := hid (HJ.out.below hbx)
              have HF2 := hid ((hbx.block _ (blk_lt HF.out)).trans HF.out)
              have HR4 := hid (hR4.below hal)
              have HK8 := hid ((Below.heap_alloc (w2.alloc (.cells #[.int .i64 x.q, .int .i64 x.t, .int .i64 x.k, .string x.s, .int .i64 x.a, .int .i64 x.b, .int .i64 x.c] 41)) (.cells #[.int .i64 x.q, .int .i64 x.t, .slice A4 n4 c4] 24) _ (by simp)).trans (heap_alloc_new w2 (.cells #[.int .i64 x.q, .int .i64 x.t, .int .i64 x.k, .string x.s, .int .i64 x.a, .int .i64 x.b, .int .i64 x.c] 41)))
              have HK9 := heap_alloc_new (w2.alloc (.cells #[.int .i64 x.q, .int .i64 x.t, .int .i64 x.k, .string x.s, .int .i64 x.a, .int .i64 x.b, .int .i64 x.c] 41)) (.cells #[.int .i64 x.q, .int .i64 x.t, .slice A4 n4 c4] 24)
              rw [World.size_alloc] at HK9
              have HK9 := hid HK9
              obtain ⟨wy, hWy⟩ : ∃ wz, wz = (w2.alloc (.cells #[.int .i64 x.q, .int .i64 x.t, .int .i64 x.k, .string x.s, .int .i64 x.a, .int .i64 x.b, .int .i64 x.c] 41)).alloc (.cells #[.int .i64 x.q, .int .i64 x.t, .slice A4 n4 c4] 24) := ⟨_, rfl⟩
              rw [← hWy] at HJ2 HF2 HR4 HK8 HK9 ⊢
              obtain ⟨g8, hg⟩ : ∃ x, w2.heap.size = x := ⟨_, rfl⟩
              rw [hg] at HK8 HK9 hg8 ⊢
              clear hWy hbx HJ HF hal hb2 hR4 hg PD
              have HJ := HJ2
              have HF := HF2
              clear HJ2 HF2
              have yg := blk_lt HJ.out.blk
              have fg := blk12f HJ.out.blk
              obtain ⟨v0, v1, v2, v3, v4, v5, v6, v7, v8, v9⟩ := blk10 HJ.out.blk
              have KR := (HJ.out.bel.block _ (blk_lt HK.out)).trans HK.out
              have yr := blk_lt KR
              have fr := blk12f KR
              obtain ⟨q0, q1, q2, q3, q4, q5, q6, q7, q8, q9⟩ := blk10 KR
              clear KR
              have yf := blk_lt HF.out
              obtain ⟨x0, x1, x2, x3⟩ := blk4 HF.out
              have y8 := blk_lt HK8.out
              obtain ⟨t0, t1, t2, t3, t4, t5, t6⟩ := blk7 HK8.out
              have y9 := blk_lt HK9.out
              obtain ⟨s0, s1, s2, -, -, -⟩ := blk3 HK9.out
              obtain ⟨i0, hi0, hz0, hz1, hz2'⟩ := info_parts ev9_parts
              have hev : s.evs.length ≤ 1000000 := by have := HIV.out.few; have := HS.out.len; omega
              have hbase : w.heap.size + 1 + 1 ≤ wy.heap.size := by omega
              go_wp2_with (at_builtin; refine wpList_pushY (Z := ZE) rfl (.tmp 64) (.tmp 66) 25 rfl Tryz.underlying25 hi0 hz0 hz1 hz2' rfl (by decide) ev9_zero rfl HJ.out.row HJ.out.spr rfl rfl ?_ (evC_one x) ?c2 ?c3 hbase; intro v5 w6 hown6 hsp6 hgr6 hnz6 hat6; obtain ⟨A9, m9, c9, rfl⟩ := own_slice hown6; have HG := hid (And.intro hown6 (And.intro hsp6 (And.intro hgr6 hnz6))); have K6g := grown_elseY hgr6 HJ.out.row HJ.out.blk (by decide); have K6f := grown_elseY hgr6 HJ.out.row HF.out (by decide); have K69 := grown_elseY hgr6 HJ.out.row HK9.out (by decide); clear hown6 hsp6 hgr6 hnz6 hat6 y8 t0 t1 t2 t3 t4 t5 t6 y9 s0 s1 s2 yg fg v0 v1 v2 v3 v4 v5 v6 v7 v8 v9 yr fr q0 q1 q2 q3 q4 q5 q6 q7 q8 q9 yf x0 x1 x2 x3; have yg := blk_lt K6g; have fg := blk12f K6g; obtain ⟨v0, v1, v2, v3, v4, v5, v6, v7, v8, v9⟩ := blk10 K6g; have yf := blk_lt K6f; obtain ⟨x0, x1, x2, x3⟩ := blk4 K6f; have y9 := blk_lt K69; obtain ⟨s0, s1, s2, -, -, -⟩ := blk3 K69; clear K6g K6f K69)
              case c2 => simp only [maxLen]; omega
              case c3 => omega
              have hne1 : ¬ g8 + 1 = w.heap.size + 1 := by omega
              have hne2 : ¬ gf = w.heap.size + 1 := by omega
              go_wp2_with fail
              have hN : Nxt s (frB 2 P) ⟨s.num, s.before, s.evs ++ [x], s.after.nx x, s.size + m, false⟩ := by
                have h := Nxt.event (s := s) (F := frB 2 P) x HN0.out HRA.out HFO.out.1 (by rw [← HFO.out.2]; rfl)
                rwa [HMM.out] at h
              have hSJ0 := SJ.more (x := x) (p := s.size + m) HJ.out HG.out.1 HG.out.2.1 HG.out.2.2.1 HG.out.2.2.2 HR4.out HNX2.out.2.1
              rw [HSD.out] at hSJ0
              exact ⟨⟨_, _, _, _, _, rfl, hid ⟨HI.out.1.more (HNX.out _ hN), hSJ0⟩⟩, HME.out _ _ hSJ0.sz rfl⟩
            · have hno : ∀ x, ¬ Fo s.after.q s.after.t s.after.l x P := fun x hx => hfo ⟨x, hx⟩
              obtain ⟨d1, d2, d3, d4, d5⟩ := de_none HRA.out hno
              rw [d1, d2, d3, d4, d5] at PD
              unfold evV ev0 at PD
              have HNOS := hid (show ¬ ∃ s', Stp zs s s' from fun ⟨s', k⟩ => by
                rcases HM.out s' HN0.out (HNO.out s' k) with ⟨-, x, a, b, -⟩ | ⟨h9, -⟩
                · exact hno x ⟨a, b.symm⟩
                · omega)
              clear d1 d2 d3 d4 d5 hfo hno
              have yg := blk_lt HJ.out.blk
              have fg := blk12f HJ.out.blk
              obtain ⟨v0, v1, v2, v3, v4, v5, v6, v7, v8, v9⟩ := blk10 HJ.out.blk
              have KR := (HJ.out.bel.block _ (blk_lt HK.out)).trans HK.out
              have yr := blk_lt KR
              have fr := blk12f KR
              obtain ⟨q0, q1, q2, q3, q4, q5, q6, q7, q8, q9⟩ := blk10 KR
              clear KR
              have yf := blk_lt HF.out
              obtain ⟨x0, x1, x2, x3⟩ := blk4 HF.out
              go_wp2_with fail
              refine PD.out.mono ?_
              rintro e w2 ⟨⟨A4, n4, c4, rfl, hR4⟩, hb2⟩
              have hbw := hid hb2
              clear yg fg v0 v1 v2 v3 v4 v5 v6 v7 v8 v9 yr fr q0 q1 q2 q3 q4 q5 q6 q7 q8 q9 yf x0 x1 x2 x3
              go_upto_region 11 with fail
              have hbx : Below we.heap.size we ((w2.alloc (.cells #[.int .i64 0, .int .i64 0, .int .i64 0, .string ⟨#[]⟩, .int .i64 0, .int .i64 0, .int .i64 0] 41)).alloc (.cells #[.int .i64 s.after.q, .int .i64 s.after.t, .slice A4 n4 c4] 24)) := (hbw.out.alloc hbw.out.size _).alloc (by have := hbw.out.size; simp; omega) _
              have HJ2 := hid (HJ.out.below hbx)
              have HF2 := hid ((hbx.block _ (blk_lt HF.out)).trans HF.out)
              obtain ⟨wy, hWwy⟩ : ∃ wz, wz = (w2.alloc (.cells #[.int .i64 0, .int .i64 0, .int .i64 0, .string ⟨#[]⟩, .int .i64 0, .int .i64 0, .int .i64 0] 41)).alloc (.cells #[.int .i64 s.after.q, .int .i64 s.after.t, .slice A4 n4 c4] 24) := ⟨_, rfl⟩
              rw [← hWwy] at HJ2 HF2 ⊢
              clear hWwy hbx HJ HF
              have HJ := HJ2
              have HF := HF2
              clear HJ2 HF2
              have yg := blk_lt HJ.out.blk
              have fg := blk12f HJ.out.blk
              obtain ⟨v0, v1, v2, v3, v4, v5, v6, v7, v8, v9⟩ := blk10 HJ.out.blk
              have KR := (HJ.out.bel.block _ (blk_lt HK.out)).trans HK.out
              have yr := blk_lt KR
              have fr := blk12f KR
              obtain ⟨q0, q1, q2, q3, q4, q5, q6, q7, q8, q9⟩ := blk10 KR
              clear KR
              have yf := blk_lt HF.out
              obtain ⟨x0, x1, x2, x3⟩ := blk4 HF.out
              clear hb2 hbw hHF hR4
              have HFI := hid (show Fin zs s from ⟨HI.out.1, HNOS.out⟩)
              have HST := hid (show stS zs s = 3 from by rw [st_1 HE.out, HSD.out]; rfl)
              go_wp2_with fail
              obtain ⟨w5, hW5⟩ : ∃ x, x = ((((((((((wy.setCell ⟨w.heap.size + 1, 8, none⟩ (.int .i64 3)).setCell ⟨w.heap.size, 0, none⟩ (.int .i64 s.num)).setCell ⟨w.heap.size, 1, none⟩ (.int .i64 s.before.q)).setCell ⟨w.heap.size, 2, none⟩ (.int .i64 s.before.t)).setCell ⟨w.heap.size, 3, none⟩ (.slice none 0 0)).setCell ⟨w.heap.size, 4, none⟩ (.slice AE s.evs.length cE)).setCell ⟨w.heap.size, 5, none⟩ (.int .i64 s.after.q)).setCell ⟨w.heap.size, 6, none⟩ (.int .i64 s.after.t)).setCell ⟨w.heap.size, 7, none⟩ (.slice A3 n3 c3)).setCell ⟨w.heap.size, 8, none⟩ (.int .i64 3)).setCell ⟨w.heap.size, 9, none⟩ (.int .i64 (s.size : Int)) := ⟨_, rfl⟩
              rw [← hW5]
              obtain ⟨T1, T2⟩ := SJ.done (ws := wy.setCell ⟨w.heap.size + 1, 8, none⟩ (.int .i64 3)) HJ.out (Sto.cell _ _ _ _) (set10_8 HJ.out.blk) rfl HW0.out HFI.out HST.out hW5
              exact bodyPost_ret (v := .agg (scV s 3 (.slice AE s.evs.length cE) (.slice A3 n3 c3))) (results_cell_row Tryz.results21 _ _ w.heap.size 50 _ (0, 0) _ rfl T1 Tryz.underlying50 rfl scan_size) rfl T2
          · have hmev : s.evs.length < 18446744073709551616 := by have := HIV.out.few; have := HS.out.len; omega
            have hmev2 : s.evs.length ≤ 9223372036854775807 := by have := HIV.out.few; have := HS.out.len; omega
            have PZ := hid (fun w9 => RSeal9 s.evs.length hmev2 s.after.q s.after.t (A := A3) (n := n3) (cp := c3) HRA.out w9)
            unfold PutsU at PZ
            have HZB := hid (zq_bytes hmev HRA.out)
            have HZL := hid (zp_len (c := s.after) hmev (rc_q HRA.out).2.1 (rc_q HRA.out).2.2.2)
            have HFB := hid (frB_bytes (k := 3) (zs := P) (by omega) (by omega) HBZ.out)
            obtain ⟨B, hB⟩ : ∃ B, decide (sgZ s.evs.length s.after = frB 3 P) = B := ⟨_, rfl⟩
            have HBQ : Hid (((strOfNums (sgZ s.evs.length s.after)).toList == (strOfNums (frB 3 P)).toList) = B) := hid ((str_eq HZB.out HFB.out).trans hB)
            have HYES := hid (show B = true → P = zpB s.evs.length s.after from fun h => by
              subst hB
              have e : frB 3 (zpB s.evs.length s.after) ++ [] = frB 3 P ++ [] := by rw [← of_decide_eq_true h]; rfl
              exact (fr_eq (by omega) (by omega) HZL.out hz2 e).2.1.symm)
            have HNOT := hid (show B = false → P ≠ zpB s.evs.length s.after from fun h e => by
              subst hB
              refine of_decide_eq_false h ?_
              show frB 3 (zpB s.evs.length s.after) = _
              rw [← e])
            have HWE := hid (show Rw we AB nB cB zs from HSS.out we HJ.out.bel)
            obtain ⟨b, o, rfl⟩ : ∃ b o, AB = some ⟨b, o, none⟩ := by
              obtain ⟨b, o, u, h, -⟩ := HWE.out.1.get (show 0 < nB by omega)
              exact ⟨b, o, h⟩
            have hcb := HWE.out.2.1
            have HCV := hid (show ∀ w9, Below we.heap.size we w9 → ∀ c9, (convert 26 9 (.slice (some ⟨b, o + s.size, none⟩) m c9)).run Tryz.prog w9 = .ok (.string (strOfNums (frB 3 P))) w9 from fun w9 h9 c9 => by
              have h1 := ((HWE.out.below h9).1.drop (k := s.size) (c := cB) hle hcb).take (k := m) (by have := HS.out.len; omega)
              rw [if_neg (by omega)] at h1
              have h2 : ((by8 zs).drop s.size).take m = by8 (frB 3 P) := by
                have := HW6.out
                rw [Int.toNat_natCast, Int.toNat_natCast] at this
                rw [by8, ← List.map_drop, ← List.map_take, this]; rfl
              rw [h2] at h1
              have h3 : Sl w9 w9.heap.size (some ⟨b, o + s.size, none⟩) m (by8 (frB 3 P)) := by
                have e : (⟨b, o, none⟩ : Addr).add s.size = ⟨b, o + s.size, none⟩ := by unfold Addr.add; simp
                have h9 := h1
                simp only [Option.map_some] at h9
                rw [e] at h9
                exact h9
              exact conv8 c9 h3)
            clear hB
            have yg := blk_lt HJ.out.blk
            have fg := blk12f HJ.out.blk
            obtain ⟨v0, v1, v2, v3, v4, v5, v6, v7, v8, v9⟩ := blk10 HJ.out.blk
            have KR := (HJ.out.bel.block _ (blk_lt HK.out)).trans HK.out
            have yr := blk_lt KR
            have fr := blk12f KR
            obtain ⟨q0, q1, q2, q3, q4, q5, q6, q7, q8, q9⟩ := blk10 KR
            clear KR
            have yf := blk_lt HF.out
            obtain ⟨x0, x1, x2, x3⟩ := blk4 HF.out
            go_upto_region 15 with fail
            refine wp_region_env (A := fun vs => { tmps := #[Value.slice (some { block := b, off := o }) nB cB, undef, Value.pointer (some { block := w.heap.size, off := 0 }), Value.pointer (some { block := w.heap.size + 1, off := 0 }), Value.bool false, Value.pointer (some { block := gf, off := 0 }), u6, u7, u8, u9, u10, Value.slice (some { block := b, off := o }) nB cB, Value.pointer (some { block := w.heap.size + 1, off := 9 }), Value.int IntKind.i64 ↑s.size, Value.agg #[Value.int IntKind.i64 0, Value.int IntKind.i64 3, Value.slice AP P.length cP, Value.int IntKind.i64 ↑m], Value.pointer (some { block := gf, off := 0 }), Value.int IntKind.i64 0, Value.bool true, Value.bool true, Value.bool false, Value.bool true, Value.bool true, Value.pointer (some { block := w.heap.size + 1, off := 0 }), Value.int IntKind.i64 s.num, Value.bool false, Value.bool false, undef, undef, undef, Value.bool false, u30, u31, u32, u33, u34, u35, u36, u37, u38, u39, u40, u41, u42, u43, Value.pointer (some { block := w.heap.size + 1, off := 0 }), Value.int IntKind.i64 s.num, Value.bool true, Value.bool true, Value.pointer (some { block := gf, off := 1 }), Value.int IntKind.i64 3, Value.bool false, Value.bool false, u52, u53, u54, u55, u56, u57, u58, u59, u60, u61, u62, u63, u64, u65, u66, u67, u68, u69, u70, u71, u72, u73, u74, u75, u76, vs 0, vs 1, vs 2, vs 3, vs 4, vs 5, vs 6, vs 7, vs 8, vs 9, vs 10, vs 11, vs 12, vs 13, vs 14, vs 15, vs 16, vs 17, vs 18, vs 19, vs 20, vs 21, vs 22, vs 23, vs 24, vs 25, vs 26, vs 27, u105, u106, u107, u108, u109, u110, u111, u112, u113, u114, u115, u116, u117, u118, u119, u120, u121, u122, u123, u124, u125, u126, u127, u128, u129, u130, u131, u132, u133, u134], defers := [] }) (E := fun i yv wq => match i with | 0 => yv = .pointer (some ⟨w.heap.size + 1, 0, none⟩) | 1 => yv = .int .i64 s.num | 2 => yv = .bool true | 3 => yv = .bool true | 4 => yv = .pointer (some ⟨gf, 1, none⟩) | 5 => yv = .int .i64 3 | 6 => yv = .bool true | 7 => yv = .bool true | 8 => yv = .bool true | 9 => yv = .pointer (some ⟨w.heap.size + 1, 4, none⟩) | 10 => yv = .slice AE s.evs.length cE | 11 => yv = .int .i64 (s.evs.length : Int) | 12 => yv = .pointer (some ⟨w.heap.size + 1, 5, none⟩) | 13 => yv = .agg #[.int .i64 s.after.q, .int .i64 s.after.t, .slice A3 n3 c3] | 14 => ∃ A8 n8 c8, yv = .slice A8 n8 c8 ∧ Rw wq A8 n8 c8 (sgZ s.evs.length s.after) | 15 => yv = .string (strOfNums (sgZ s.evs.length s.after)) | 16 => yv = .slice (some ⟨b, o, none⟩) nB cB | 17 => yv = .pointer (some ⟨w.heap.size + 1, 9, none⟩) | 18 => yv = .int .i64 (s.size : Int) | 19 => yv = .pointer (some ⟨w.heap.size + 1, 9, none⟩) | 20 => yv = .int .i64 (s.size : Int) | 21 => yv = .pointer (some ⟨gf, 3, none⟩) | 22 => yv = .int .i64 (m : Int) | 23 => yv = .int .i64 ((s.size + m : Nat) : Int) | 24 => yv = .slice (some ⟨b, o + s.size, none⟩) m (cB - s.size) | 25 => yv = .string (strOfNums (frB 3 P)) | 26 => yv = .bool B | 27 => yv = .bool B | _ => True) (C := fun wq => Below we.heap.size we wq) (Ext := fun a b => Below a.heap.size a b) (fun i => match i with | 0 => u77 | 1 => u78 | 2 => u79 | 3 => u80 | 4 => u81 | 5 => u82 | 6 => u83 | 7 => u84 | 8 => u85 | 9 => u86 | 10 => u87 | 11 => u88 | 12 => u89 | 13 => u90 | 14 => u91 | 15 => u92 | 16 => u93 | 17 => u94 | 18 => u95 | 19 => u96 | 20 => u97 | 21 => u98 | 22 => u99 | 23 => u100 | 24 => u101 | 25 => u102 | 26 => u103 | 27 => u104 | _ => undef) (by kernel_rfl) (by rfl) ?hC ?hstep ?hstab (low_of (by kernel_rfl)) ?hend
            case hC => exact Below.drew (Below.refl _ _)
            case hstab =>
              intro i yv wa wb hx h
              match i, h with
              | 0, h => exact h
              | 1, h => exact h
              | 2, h => exact h
              | 3, h => exact h
              | 4, h => exact h
              | 5, h => exact h
              | 6, h => exact h
              | 7, h => exact h
              | 8, h => exact h
              | 9, h => exact h
              | 10, h => exact h
              | 11, h => exact h
              | 12, h => exact h
              | 13, h => exact h
              | 14, h => exact (by obtain ⟨A8, n8, c8, h1, h2⟩ := h; exact ⟨A8, n8, c8, h1, h2.below hx⟩)
              | 15, h => exact h
              | 16, h => exact h
              | 17, h => exact h
              | 18, h => exact h
              | 19, h => exact h
              | 20, h => exact h
              | 21, h => exact h
              | 22, h => exact h
              | 23, h => exact h
              | 24, h => exact h
              | 25, h => exact h
              | 26, h => exact h
              | 27, h => exact h
              | (_ + 28), _ => trivial
            case hstep =>
              intro i o ho
              match i, ho with
              | 0, ho =>
                obtain rfl := Option.some.inj (show some _ = some o from ho)
                intro vs wq hC hE K hK
                go_simp
                have hh := hK.out (.pointer (some ⟨w.heap.size + 1, 0, none⟩)) wq rfl (Below.refl _ _) hC
                simp only [upd, Nat.reduceEqDiff, ↓reduceIte] at hh
                exact hh
              | 1, ho =>
                obtain rfl := Option.some.inj (show some _ = some o from ho)
                intro vs wq hC hE K hK
                obtain d0 : vs 0 = .pointer (some ⟨w.heap.size + 1, 0, none⟩) := hE { on := 0, ground := Ground.data } (by simp) rfl
                obtain ⟨e0, e1, e2, e3, e4, e5, e6, e7, e8, e9⟩ := blk10 (HJ.out.below hC).blk
                go_simp
                have hh := hK.out (.int .i64 s.num) wq rfl (Below.refl _ _) hC
                simp only [upd, Nat.reduceEqDiff, ↓reduceIte, d0] at hh
                exact hh
              | 2, ho =>
                obtain rfl := Option.some.inj (show some _ = some o from ho)
                intro vs wq hC hE K hK
                obtain d1 : vs 1 = .int .i64 s.num := hE { on := 1, ground := Ground.data } (by simp) rfl
                go_simp
                have hh := hK.out (.bool true) wq rfl (Below.refl _ _) hC
                simp only [upd, Nat.reduceEqDiff, ↓reduceIte, d1] at hh
                exact hh
              | 3, ho =>
                obtain rfl := Option.some.inj (show some _ = some o from ho)
                intro vs wq hC hE K hK
                obtain d2 : vs 2 = .bool true := hE { on := 2, ground := Ground.data } (by simp) rfl
                go_simp
                have hh := hK.out (.bool true) wq rfl (Below.refl _ _) hC
                simp only [upd, Nat.reduceEqDiff, ↓reduceIte, d2] at hh
                exact hh
              | 4, ho =>
                obtain rfl := Option.some.inj (show some _ = some o from ho)
                intro vs wq hC hE K hK
                obtain d3 : vs 3 = .bool true := hE { on := 3, ground := Ground.guard } (by simp) rfl
                go_simp
                have hh := hK.out (.pointer (some ⟨gf, 1, none⟩)) wq rfl (Below.refl _ _) hC
                simp only [upd, Nat.reduceEqDiff, ↓reduceIte, d3] at hh
                exact hh
              | 5, ho =>
                obtain rfl := Option.some.inj (show some _ = some o from ho)
                intro vs wq hC hE K hK
                obtain d4 : vs 4 = .pointer (some ⟨gf, 1, none⟩) := hE { on := 4, ground := Ground.data } (by simp) rfl
                obtain d3 : vs 3 = .bool true := hE { on := 3, ground := Ground.guard } (by simp) rfl
                obtain ⟨e0, e1, e2, e3⟩ := blk4 ((hC.block _ (blk_lt HF.out)).trans HF.out)
                go_simp
                have hh := hK.out (.int .i64 3) wq rfl (Below.refl _ _) hC
                simp only [upd, Nat.reduceEqDiff, ↓reduceIte, d3, d4] at hh
                exact hh
              | 6, ho =>
                obtain rfl := Option.some.inj (show some _ = some o from ho)
                intro vs wq hC hE K hK
                obtain d5 : vs 5 = .int .i64 3 := hE { on := 5, ground := Ground.data } (by simp) rfl
                obtain d3 : vs 3 = .bool true := hE { on := 3, ground := Ground.guard } (by simp) rfl
                go_simp
                have hh := hK.out (.bool true) wq rfl (Below.refl _ _) hC
                simp only [upd, Nat.reduceEqDiff, ↓reduceIte, d3, d5] at hh
                exact hh
              | 7, ho =>
                obtain rfl := Option.some.inj (show some _ = some o from ho)
                intro vs wq hC hE K hK
                obtain d3 : vs 3 = .bool true := hE { on := 3, ground := Ground.data } (by simp) rfl
                obtain d6 : vs 6 = .bool true := hE { on := 6, ground := Ground.data } (by simp) rfl
                go_simp
                have hh := hK.out (.bool true) wq rfl (Below.refl _ _) hC
                simp only [upd, Nat.reduceEqDiff, ↓reduceIte, d3, d6] at hh
                exact hh
              | 8, ho =>
                obtain rfl := Option.some.inj (show some _ = some o from ho)
                intro vs wq hC hE K hK
                obtain d7 : vs 7 = .bool true := hE { on := 7, ground := Ground.data } (by simp) rfl
                go_simp
                have hh := hK.out (.bool true) wq rfl (Below.refl _ _) hC
                simp only [upd, Nat.reduceEqDiff, ↓reduceIte, d7] at hh
                exact hh
              | 9, ho =>
                obtain rfl := Option.some.inj (show some _ = some o from ho)
                intro vs wq hC hE K hK
                obtain d8 : vs 8 = .bool true := hE { on := 8, ground := Ground.guard } (by simp) rfl
                go_simp
                have hh := hK.out (.pointer (some ⟨w.heap.size + 1, 4, none⟩)) wq rfl (Below.refl _ _) hC
                simp only [upd, Nat.reduceEqDiff, ↓reduceIte, d8] at hh
                exact hh
              | 10, ho =>
                obtain rfl := Option.some.inj (show some _ = some o from ho)
                intro vs wq hC hE K hK
                obtain d9 : vs 9 = .pointer (some ⟨w.heap.size + 1, 4, none⟩) := hE { on := 9, ground := Ground.data } (by simp) rfl
                obtain d8 : vs 8 = .bool true := hE { on := 8, ground := Ground.guard } (by simp) rfl
                obtain ⟨e0, e1, e2, e3, e4, e5, e6, e7, e8, e9⟩ := blk10 (HJ.out.below hC).blk
                go_simp
                have hh := hK.out (.slice AE s.evs.length cE) wq rfl (Below.refl _ _) hC
                simp only [upd, Nat.reduceEqDiff, ↓reduceIte, d8, d9] at hh
                exact hh
              | 11, ho =>
                obtain rfl := Option.some.inj (show some _ = some o from ho)
                intro vs wq hC hE K hK
                obtain d10 : vs 10 = .slice AE s.evs.length cE := hE { on := 10, ground := Ground.data } (by simp) rfl
                obtain d8 : vs 8 = .bool true := hE { on := 8, ground := Ground.guard } (by simp) rfl
                go_simp
                have hh := hK.out (.int .i64 (s.evs.length : Int)) wq rfl (Below.refl _ _) hC
                simp only [upd, Nat.reduceEqDiff, ↓reduceIte, d8, d10] at hh
                exact hh
              | 12, ho =>
                obtain rfl := Option.some.inj (show some _ = some o from ho)
                intro vs wq hC hE K hK
                obtain d8 : vs 8 = .bool true := hE { on := 8, ground := Ground.guard } (by simp) rfl
                go_simp
                have hh := hK.out (.pointer (some ⟨w.heap.size + 1, 5, none⟩)) wq rfl (Below.refl _ _) hC
                simp only [upd, Nat.reduceEqDiff, ↓reduceIte, d8] at hh
                exact hh
              | 13, ho =>
                obtain rfl := Option.some.inj (show some _ = some o from ho)
                intro vs wq hC hE K hK
                obtain d12 : vs 12 = .pointer (some ⟨w.heap.size + 1, 5, none⟩) := hE { on := 12, ground := Ground.data } (by simp) rfl
                obtain d8 : vs 8 = .bool true := hE { on := 8, ground := Ground.guard } (by simp) rfl
                obtain ⟨e0, e1, e2, e3, e4, e5, e6, e7, e8, e9⟩ := blk10 (HJ.out.below hC).blk
                go_simp
                have hh := hK.out (.agg #[.int .i64 s.after.q, .int .i64 s.after.t, .slice A3 n3 c3]) wq rfl (Below.refl _ _) hC
                simp only [upd, Nat.reduceEqDiff, ↓reduceIte, d8, d12] at hh
                exact hh
              | 14, ho =>
                obtain rfl := Option.some.inj (show some _ = some o from ho)
                intro vs wq hC hE K hK
                obtain d11 : vs 11 = .int .i64 (s.evs.length : Int) := hE { on := 11, ground := Ground.data } (by simp) rfl
                obtain d13 : vs 13 = .agg #[.int .i64 s.after.q, .int .i64 s.after.t, .slice A3 n3 c3] := hE { on := 13, ground := Ground.data } (by simp) rfl
                obtain d8 : vs 8 = .bool true := hE { on := 8, ground := Ground.guard } (by simp) rfl
                go_simp
                go_at_call 12
                refine (PZ.out wq).mono ?_
                rintro e w5 ⟨⟨v5, rfl, hown, -⟩, hb5⟩
                obtain ⟨A8, c8, rfl, hR8, -⟩ := own_rw hown
                have hh := hK.out (.slice A8 _ c8) w5 ⟨A8, _, c8, rfl, hR8⟩ hb5 (hC.trans (hb5.mono hC.size))
                simp only [upd, Nat.reduceEqDiff, ↓reduceIte, d8, d11, d13] at hh
                exact hh
              | 15, ho =>
                obtain rfl := Option.some.inj (show some _ = some o from ho)
                intro vs wq hC hE K hK
                obtain ⟨A8, n8, c8, d14, hR14⟩ : ∃ A8 n8 c8, vs 14 = .slice A8 n8 c8 ∧ Rw wq A8 n8 c8 (sgZ s.evs.length s.after) := hE { on := 14, ground := Ground.data } (by simp) rfl
                obtain d8 : vs 8 = .bool true := hE { on := 8, ground := Ground.guard } (by simp) rfl
                have cv := conv8 c8 hR14.1
                go_simp
                have hh := hK.out (.string (strOfNums (sgZ s.evs.length s.after))) wq rfl (Below.refl _ _) hC
                simp only [upd, Nat.reduceEqDiff, ↓reduceIte, d8, d14] at hh
                exact hh
              | 16, ho =>
                obtain rfl := Option.some.inj (show some _ = some o from ho)
                intro vs wq hC hE K hK
                obtain d8 : vs 8 = .bool true := hE { on := 8, ground := Ground.guard } (by simp) rfl
                go_simp
                have hh := hK.out (.slice (some ⟨b, o, none⟩) nB cB) wq rfl (Below.refl _ _) hC
                simp only [upd, Nat.reduceEqDiff, ↓reduceIte, d8] at hh
                exact hh
              | 17, ho =>
                obtain rfl := Option.some.inj (show some _ = some o from ho)
                intro vs wq hC hE K hK
                obtain d8 : vs 8 = .bool true := hE { on := 8, ground := Ground.guard } (by simp) rfl
                go_simp
                have hh := hK.out (.pointer (some ⟨w.heap.size + 1, 9, none⟩)) wq rfl (Below.refl _ _) hC
                simp only [upd, Nat.reduceEqDiff, ↓reduceIte, d8] at hh
                exact hh
              | 18, ho =>
                obtain rfl := Option.some.inj (show some _ = some o from ho)
                intro vs wq hC hE K hK
                obtain d17 : vs 17 = .pointer (some ⟨w.heap.size + 1, 9, none⟩) := hE { on := 17, ground := Ground.data } (by simp) rfl
                obtain d8 : vs 8 = .bool true := hE { on := 8, ground := Ground.guard } (by simp) rfl
                obtain ⟨e0, e1, e2, e3, e4, e5, e6, e7, e8, e9⟩ := blk10 (HJ.out.below hC).blk
                go_simp
                have hh := hK.out (.int .i64 (s.size : Int)) wq rfl (Below.refl _ _) hC
                simp only [upd, Nat.reduceEqDiff, ↓reduceIte, d8, d17] at hh
                exact hh
              | 19, ho =>
                obtain rfl := Option.some.inj (show some _ = some o from ho)
                intro vs wq hC hE K hK
                obtain d8 : vs 8 = .bool true := hE { on := 8, ground := Ground.guard } (by simp) rfl
                go_simp
                have hh := hK.out (.pointer (some ⟨w.heap.size + 1, 9, none⟩)) wq rfl (Below.refl _ _) hC
                simp only [upd, Nat.reduceEqDiff, ↓reduceIte, d8] at hh
                exact hh
              | 20, ho =>
                obtain rfl := Option.some.inj (show some _ = some o from ho)
                intro vs wq hC hE K hK
                obtain d19 : vs 19 = .pointer (some ⟨w.heap.size + 1, 9, none⟩) := hE { on := 19, ground := Ground.data } (by simp) rfl
                obtain d8 : vs 8 = .bool true := hE { on := 8, ground := Ground.guard } (by simp) rfl
                obtain ⟨e0, e1, e2, e3, e4, e5, e6, e7, e8, e9⟩ := blk10 (HJ.out.below hC).blk
                go_simp
                have hh := hK.out (.int .i64 (s.size : Int)) wq rfl (Below.refl _ _) hC
                simp only [upd, Nat.reduceEqDiff, ↓reduceIte, d8, d19] at hh
                exact hh
              | 21, ho =>
                obtain rfl := Option.some.inj (show some _ = some o from ho)
                intro vs wq hC hE K hK
                obtain d8 : vs 8 = .bool true := hE { on := 8, ground := Ground.guard } (by simp) rfl
                go_simp
                have hh := hK.out (.pointer (some ⟨gf, 3, none⟩)) wq rfl (Below.refl _ _) hC
                simp only [upd, Nat.reduceEqDiff, ↓reduceIte, d8] at hh
                exact hh
              | 22, ho =>
                obtain rfl := Option.some.inj (show some _ = some o from ho)
                intro vs wq hC hE K hK
                obtain d21 : vs 21 = .pointer (some ⟨gf, 3, none⟩) := hE { on := 21, ground := Ground.data } (by simp) rfl
                obtain d8 : vs 8 = .bool true := hE { on := 8, ground := Ground.guard } (by simp) rfl
                obtain ⟨e0, e1, e2, e3⟩ := blk4 ((hC.block _ (blk_lt HF.out)).trans HF.out)
                go_simp
                have hh := hK.out (.int .i64 (m : Int)) wq rfl (Below.refl _ _) hC
                simp only [upd, Nat.reduceEqDiff, ↓reduceIte, d8, d21] at hh
                exact hh
              | 23, ho =>
                obtain rfl := Option.some.inj (show some _ = some o from ho)
                intro vs wq hC hE K hK
                obtain d20 : vs 20 = .int .i64 (s.size : Int) := hE { on := 20, ground := Ground.data } (by simp) rfl
                obtain d22 : vs 22 = .int .i64 (m : Int) := hE { on := 22, ground := Ground.data } (by simp) rfl
                obtain d8 : vs 8 = .bool true := hE { on := 8, ground := Ground.guard } (by simp) rfl
                go_simp
                have hh := hK.out (.int .i64 ((s.size + m : Nat) : Int)) wq rfl (Below.refl _ _) hC
                simp only [upd, Nat.reduceEqDiff, ↓reduceIte, d8, d20, d22] at hh
                exact hh
              | 24, ho =>
                obtain rfl := Option.some.inj (show some _ = some o from ho)
                intro vs wq hC hE K hK
                obtain d16 : vs 16 = .slice (some ⟨b, o, none⟩) nB cB := hE { on := 16, ground := Ground.data } (by simp) rfl
                obtain d18 : vs 18 = .int .i64 (s.size : Int) := hE { on := 18, ground := Ground.data } (by simp) rfl
                obtain d23 : vs 23 = .int .i64 ((s.size + m : Nat) : Int) := hE { on := 23, ground := Ground.data } (by simp) rfl
                obtain d8 : vs 8 = .bool true := hE { on := 8, ground := Ground.guard } (by simp) rfl
                have i1 : (0 : Int) ≤ (s.size : Int) := by omega
                have i2 : (s.size : Int) ≤ ((s.size + m : Nat) : Int) := by omega
                have i3 : ((s.size + m : Nat) : Int) ≤ (cB : Int) := by have := HS.out.len; omega
                have i4 : ((s.size + m : Nat) : Int).toNat = s.size + m := by omega
                have i5 : s.size + m - s.size = m := by omega
                have i6 : ¬ cB = s.size := by have := HS.out.len; omega
                have i7 : (0 : Int) ≤ ((s.size + m : Nat) : Int) := by omega
                have i8 : (s.size : Int).toNat = s.size := by omega
                generalize ((s.size + m : Nat) : Int) = sm at *
                go_simp
                have hh := hK.out (.slice (some ⟨b, o + s.size, none⟩) m (cB - s.size)) wq rfl (Below.refl _ _) hC
                simp only [upd, Nat.reduceEqDiff, ↓reduceIte, d8, d16, d18, d23] at hh
                exact hh
              | 25, ho =>
                obtain rfl := Option.some.inj (show some _ = some o from ho)
                intro vs wq hC hE K hK
                obtain d24 : vs 24 = .slice (some ⟨b, o + s.size, none⟩) m (cB - s.size) := hE { on := 24, ground := Ground.data } (by simp) rfl
                obtain d8 : vs 8 = .bool true := hE { on := 8, ground := Ground.guard } (by simp) rfl
                have cv := HCV.out wq hC (cB - s.size)
                go_simp
                have hh := hK.out (.string (strOfNums (frB 3 P))) wq rfl (Below.refl _ _) hC
                simp only [upd, Nat.reduceEqDiff, ↓reduceIte, d8, d24] at hh
                exact hh
              | 26, ho =>
                obtain rfl := Option.some.inj (show some _ = some o from ho)
                intro vs wq hC hE K hK
                obtain d15 : vs 15 = .string (strOfNums (sgZ s.evs.length s.after)) := hE { on := 15, ground := Ground.data } (by simp) rfl
                obtain d25 : vs 25 = .string (strOfNums (frB 3 P)) := hE { on := 25, ground := Ground.data } (by simp) rfl
                obtain d8 : vs 8 = .bool true := hE { on := 8, ground := Ground.guard } (by simp) rfl
                have he := HBQ.out
                cases B with
                | false =>
                  go_simp
                  have hh := hK.out (.bool false) wq rfl (Below.refl _ _) hC
                  simp only [upd, Nat.reduceEqDiff, ↓reduceIte, d8, d15, d25] at hh
                  exact hh
                | true =>
                  go_simp
                  have hh := hK.out (.bool true) wq rfl (Below.refl _ _) hC
                  simp only [upd, Nat.reduceEqDiff, ↓reduceIte, d8, d15, d25] at hh
                  exact hh
              | 27, ho =>
                obtain rfl := Option.some.inj (show some _ = some o from ho)
                intro vs wq hC hE K hK
                obtain d8 : vs 8 = .bool true := hE { on := 8, ground := Ground.data } (by simp) rfl
                obtain d26 : vs 26 = .bool B := hE { on := 26, ground := Ground.data } (by simp) rfl
                go_simp
                have hh := hK.out (.bool B) wq rfl (Below.refl _ _) hC
                simp only [upd, Nat.reduceEqDiff, ↓reduceIte, d8, d26] at hh
                exact hh
              | (_ + 28), ho => exact absurd ho (by simp)
            case hend =>
              intro va wy hC hE
              have r27 : va 27 = _ := hE 27 (by decide)
              simp only [r27]
              have HJ2 := hid (HJ.out.below hC)
              have HF2 := hid ((hC.block _ (blk_lt HF.out)).trans HF.out)
              clear hE r27 hC HJ HF PZ HCV HWE hHF
              have HJ := HJ2
              have HF := HF2
              clear HJ2 HF2
              cases B with
              | false =>
                have HNOS := hid (show ¬ ∃ s', Stp zs s s' from fun ⟨s', k⟩ => by
                  rcases HM.out s' HN0.out (HNO.out s' k) with ⟨h9, -⟩ | ⟨-, h9, -⟩
                  · omega
                  · exact HNOT.out rfl h9)
                have yg := blk_lt HJ.out.blk
                have fg := blk12f HJ.out.blk
                obtain ⟨v0, v1, v2, v3, v4, v5, v6, v7, v8, v9⟩ := blk10 HJ.out.blk
                have KR := (HJ.out.bel.block _ (blk_lt HK.out)).trans HK.out
                have yr := blk_lt KR
                have fr := blk12f KR
                obtain ⟨q0, q1, q2, q3, q4, q5, q6, q7, q8, q9⟩ := blk10 KR
                clear KR
                have yf := blk_lt HF.out
                obtain ⟨x0, x1, x2, x3⟩ := blk4 HF.out
                have HFI := hid (show Fin zs s from ⟨HI.out.1, HNOS.out⟩)
                have HST := hid (show stS zs s = 3 from by rw [st_1 HE.out, HSD.out]; rfl)
                go_wp2_with fail
                obtain ⟨w5, hW5⟩ : ∃ x, x = ((((((((((wy.setCell ⟨w.heap.size + 1, 8, none⟩ (.int .i64 3)).setCell ⟨w.heap.size, 0, none⟩ (.int .i64 s.num)).setCell ⟨w.heap.size, 1, none⟩ (.int .i64 s.before.q)).setCell ⟨w.heap.size, 2, none⟩ (.int .i64 s.before.t)).setCell ⟨w.heap.size, 3, none⟩ (.slice none 0 0)).setCell ⟨w.heap.size, 4, none⟩ (.slice AE s.evs.length cE)).setCell ⟨w.heap.size, 5, none⟩ (.int .i64 s.after.q)).setCell ⟨w.heap.size, 6, none⟩ (.int .i64 s.after.t)).setCell ⟨w.heap.size, 7, none⟩ (.slice A3 n3 c3)).setCell ⟨w.heap.size, 8, none⟩ (.int .i64 3)).setCell ⟨w.heap.size, 9, none⟩ (.int .i64 (s.size : Int)) := ⟨_, rfl⟩
                rw [← hW5]
                obtain ⟨T1, T2⟩ := SJ.done (ws := wy.setCell ⟨w.heap.size + 1, 8, none⟩ (.int .i64 3)) HJ.out (Sto.cell _ _ _ _) (set10_8 HJ.out.blk) rfl HW0.out HFI.out HST.out hW5
                exact bodyPost_ret (v := .agg (scV s 3 (.slice AE s.evs.length cE) (.slice A3 n3 c3))) (results_cell_row Tryz.results21 _ _ w.heap.size 50 _ (0, 0) _ rfl T1 Tryz.underlying50 rfl scan_size) rfl T2
              | true =>
                have yg := blk_lt HJ.out.blk
                have fg := blk12f HJ.out.blk
                obtain ⟨v0, v1, v2, v3, v4, v5, v6, v7, v8, v9⟩ := blk10 HJ.out.blk
                have KR := (HJ.out.bel.block _ (blk_lt HK.out)).trans HK.out
                have yr := blk_lt KR
                have fr := blk12f KR
                obtain ⟨q0, q1, q2, q3, q4, q5, q6, q7, q8, q9⟩ := blk10 KR
                clear KR
                have yf := blk_lt HF.out
                obtain ⟨x0, x1, x2, x3⟩ := blk4 HF.out
                go_wp2_with fail
                have hN : Nxt s (frB 3 P) ⟨s.num, s.before, s.evs, s.after, s.size + m, true⟩ := by
                  have h := Nxt.shut (s := s) (F := frB 3 P) HN0.out HRA.out hmev (by rw [HYES.out rfl]; rfl)
                  rwa [HMM.out] at h
                have hSJ0 := HJ.out.go (s.size + m) true
                exact ⟨⟨_, _, _, _, _, rfl, hid ⟨HI.out.1.more (HNX.out _ hN), hSJ0⟩⟩, HME.out _ _ hSJ0.sz rfl⟩
    · cases sd with
      | true =>
        generalize nxK zs (s.size : Int) = K at *
        generalize nxP zs (s.size : Int) = P at *
        generalize nxN zs (s.size : Int) = N at *
        have yg := blk_lt HJ.out.blk
        have fg := blk12f HJ.out.blk
        obtain ⟨v0, v1, v2, v3, v4, v5, v6, v7, v8, v9⟩ := blk10 HJ.out.blk
        have KR := (HJ.out.bel.block _ (blk_lt HK.out)).trans HK.out
        have yr := blk_lt KR
        have fr := blk12f KR
        obtain ⟨q0, q1, q2, q3, q4, q5, q6, q7, q8, q9⟩ := blk10 KR
        clear KR
        have yf := blk_lt HF.out
        obtain ⟨x0, x1, x2, x3⟩ := blk4 HF.out
        have HFI := hid (show Fin zs s from ⟨HI.out.1, no_nx (by rw [HE.out]; decide)⟩)
        have HST := hid (show stS zs s = 4 from by rw [st_1 HE.out, HSD.out]; rfl)
        go_wp2_with fail
        obtain ⟨w5, hW5⟩ : ∃ x, x = (((((((((((we.setCell ⟨w.heap.size + 1, 8, none⟩ (.int .i64 3)).setCell ⟨w.heap.size + 1, 8, none⟩ (.int .i64 4)).setCell ⟨w.heap.size, 0, none⟩ (.int .i64 s.num)).setCell ⟨w.heap.size, 1, none⟩ (.int .i64 s.before.q)).setCell ⟨w.heap.size, 2, none⟩ (.int .i64 s.before.t)).setCell ⟨w.heap.size, 3, none⟩ (.slice none 0 0)).setCell ⟨w.heap.size, 4, none⟩ (.slice AE s.evs.length cE)).setCell ⟨w.heap.size, 5, none⟩ (.int .i64 s.after.q)).setCell ⟨w.heap.size, 6, none⟩ (.int .i64 s.after.t)).setCell ⟨w.heap.size, 7, none⟩ (.slice A3 n3 c3)).setCell ⟨w.heap.size, 8, none⟩ (.int .i64 4)).setCell ⟨w.heap.size, 9, none⟩ (.int .i64 (s.size : Int)) := ⟨_, rfl⟩
        rw [← hW5]
        obtain ⟨T1, T2⟩ := SJ.done (ws := (we.setCell ⟨w.heap.size + 1, 8, none⟩ (.int .i64 3)).setCell ⟨w.heap.size + 1, 8, none⟩ (.int .i64 4)) HJ.out ((Sto.cell _ _ _ _).trans (Sto.cell _ _ _ _)) (set10_8 (set10_8 HJ.out.blk)) rfl HW0.out HFI.out HST.out hW5
        exact bodyPost_ret (v := .agg (scV s 4 (.slice AE s.evs.length cE) (.slice A3 n3 c3))) (results_cell_row Tryz.results21 _ _ w.heap.size 50 _ (0, 0) _ rfl T1 Tryz.underlying50 rfl scan_size) rfl T2
      | false =>
        generalize nxK zs (s.size : Int) = K at *
        generalize nxP zs (s.size : Int) = P at *
        generalize nxN zs (s.size : Int) = N at *
        have yg := blk_lt HJ.out.blk
        have fg := blk12f HJ.out.blk
        obtain ⟨v0, v1, v2, v3, v4, v5, v6, v7, v8, v9⟩ := blk10 HJ.out.blk
        have KR := (HJ.out.bel.block _ (blk_lt HK.out)).trans HK.out
        have yr := blk_lt KR
        have fr := blk12f KR
        obtain ⟨q0, q1, q2, q3, q4, q5, q6, q7, q8, q9⟩ := blk10 KR
        clear KR
        have yf := blk_lt HF.out
        obtain ⟨x0, x1, x2, x3⟩ := blk4 HF.out
        have HFI := hid (show Fin zs s from ⟨HI.out.1, no_nx (by rw [HE.out]; decide)⟩)
        have HST := hid (show stS zs s = 1 from by rw [st_1 HE.out, HSD.out]; rfl)
        go_wp2_with fail
        obtain ⟨w5, hW5⟩ : ∃ x, x = (((((((((((we.setCell ⟨w.heap.size + 1, 8, none⟩ (.int .i64 3)).setCell ⟨w.heap.size + 1, 8, none⟩ (.int .i64 1)).setCell ⟨w.heap.size, 0, none⟩ (.int .i64 s.num)).setCell ⟨w.heap.size, 1, none⟩ (.int .i64 s.before.q)).setCell ⟨w.heap.size, 2, none⟩ (.int .i64 s.before.t)).setCell ⟨w.heap.size, 3, none⟩ (.slice none 0 0)).setCell ⟨w.heap.size, 4, none⟩ (.slice AE s.evs.length cE)).setCell ⟨w.heap.size, 5, none⟩ (.int .i64 s.after.q)).setCell ⟨w.heap.size, 6, none⟩ (.int .i64 s.after.t)).setCell ⟨w.heap.size, 7, none⟩ (.slice A3 n3 c3)).setCell ⟨w.heap.size, 8, none⟩ (.int .i64 1)).setCell ⟨w.heap.size, 9, none⟩ (.int .i64 (s.size : Int)) := ⟨_, rfl⟩
        rw [← hW5]
        obtain ⟨T1, T2⟩ := SJ.done (ws := (we.setCell ⟨w.heap.size + 1, 8, none⟩ (.int .i64 3)).setCell ⟨w.heap.size + 1, 8, none⟩ (.int .i64 1)) HJ.out ((Sto.cell _ _ _ _).trans (Sto.cell _ _ _ _)) (set10_8 (set10_8 HJ.out.blk)) rfl HW0.out HFI.out HST.out hW5
        exact bodyPost_ret (v := .agg (scV s 1 (.slice AE s.evs.length cE) (.slice A3 n3 c3))) (results_cell_row Tryz.results21 _ _ w.heap.size 50 _ (0, 0) _ rfl T1 Tryz.underlying50 rfl scan_size) rfl T2
    · cases sd with
      | true =>
        generalize nxK zs (s.size : Int) = K at *
        generalize nxP zs (s.size : Int) = P at *
        generalize nxN zs (s.size : Int) = N at *
        have yg := blk_lt HJ.out.blk
        have fg := blk12f HJ.out.blk
        obtain ⟨v0, v1, v2, v3, v4, v5, v6, v7, v8, v9⟩ := blk10 HJ.out.blk
        have KR := (HJ.out.bel.block _ (blk_lt HK.out)).trans HK.out
        have yr := blk_lt KR
        have fr := blk12f KR
        obtain ⟨q0, q1, q2, q3, q4, q5, q6, q7, q8, q9⟩ := blk10 KR
        clear KR
        have yf := blk_lt HF.out
        obtain ⟨x0, x1, x2, x3⟩ := blk4 HF.out
        have HFI := hid (show Fin zs s from ⟨HI.out.1, no_nx (by rw [HE.out]; decide)⟩)
        have HST := hid (show stS zs s = 3 from by rw [st_1 HE.out, HSD.out]; rfl)
        go_wp2_with fail
        obtain ⟨w5, hW5⟩ : ∃ x, x = ((((((((((we.setCell ⟨w.heap.size + 1, 8, none⟩ (.int .i64 3)).setCell ⟨w.heap.size, 0, none⟩ (.int .i64 s.num)).setCell ⟨w.heap.size, 1, none⟩ (.int .i64 s.before.q)).setCell ⟨w.heap.size, 2, none⟩ (.int .i64 s.before.t)).setCell ⟨w.heap.size, 3, none⟩ (.slice none 0 0)).setCell ⟨w.heap.size, 4, none⟩ (.slice AE s.evs.length cE)).setCell ⟨w.heap.size, 5, none⟩ (.int .i64 s.after.q)).setCell ⟨w.heap.size, 6, none⟩ (.int .i64 s.after.t)).setCell ⟨w.heap.size, 7, none⟩ (.slice A3 n3 c3)).setCell ⟨w.heap.size, 8, none⟩ (.int .i64 3)).setCell ⟨w.heap.size, 9, none⟩ (.int .i64 (s.size : Int)) := ⟨_, rfl⟩
        rw [← hW5]
        obtain ⟨T1, T2⟩ := SJ.done (ws := we.setCell ⟨w.heap.size + 1, 8, none⟩ (.int .i64 3)) HJ.out (Sto.cell _ _ _ _) (set10_8 HJ.out.blk) rfl HW0.out HFI.out HST.out hW5
        exact bodyPost_ret (v := .agg (scV s 3 (.slice AE s.evs.length cE) (.slice A3 n3 c3))) (results_cell_row Tryz.results21 _ _ w.heap.size 50 _ (0, 0) _ rfl T1 Tryz.underlying50 rfl scan_size) rfl T2
      | false =>
        generalize nxK zs (s.size : Int) = K at *
        generalize nxP zs (s.size : Int) = P at *
        generalize nxN zs (s.size : Int) = N at *
        have yg := blk_lt HJ.out.blk
        have fg := blk12f HJ.out.blk
        obtain ⟨v0, v1, v2, v3, v4, v5, v6, v7, v8, v9⟩ := blk10 HJ.out.blk
        have KR := (HJ.out.bel.block _ (blk_lt HK.out)).trans HK.out
        have yr := blk_lt KR
        have fr := blk12f KR
        obtain ⟨q0, q1, q2, q3, q4, q5, q6, q7, q8, q9⟩ := blk10 KR
        clear KR
        have yf := blk_lt HF.out
        obtain ⟨x0, x1, x2, x3⟩ := blk4 HF.out
        have HFI := hid (show Fin zs s from ⟨HI.out.1, no_nx (by rw [HE.out]; decide)⟩)
        have HST := hid (show stS zs s = 2 from by rw [st_1 HE.out, HSD.out]; rfl)
        go_wp2_with fail
        obtain ⟨w5, hW5⟩ : ∃ x, x = (((((((((((we.setCell ⟨w.heap.size + 1, 8, none⟩ (.int .i64 3)).setCell ⟨w.heap.size + 1, 8, none⟩ (.int .i64 2)).setCell ⟨w.heap.size, 0, none⟩ (.int .i64 s.num)).setCell ⟨w.heap.size, 1, none⟩ (.int .i64 s.before.q)).setCell ⟨w.heap.size, 2, none⟩ (.int .i64 s.before.t)).setCell ⟨w.heap.size, 3, none⟩ (.slice none 0 0)).setCell ⟨w.heap.size, 4, none⟩ (.slice AE s.evs.length cE)).setCell ⟨w.heap.size, 5, none⟩ (.int .i64 s.after.q)).setCell ⟨w.heap.size, 6, none⟩ (.int .i64 s.after.t)).setCell ⟨w.heap.size, 7, none⟩ (.slice A3 n3 c3)).setCell ⟨w.heap.size, 8, none⟩ (.int .i64 2)).setCell ⟨w.heap.size, 9, none⟩ (.int .i64 (s.size : Int)) := ⟨_, rfl⟩
        rw [← hW5]
        obtain ⟨T1, T2⟩ := SJ.done (ws := (we.setCell ⟨w.heap.size + 1, 8, none⟩ (.int .i64 3)).setCell ⟨w.heap.size + 1, 8, none⟩ (.int .i64 2)) HJ.out ((Sto.cell _ _ _ _).trans (Sto.cell _ _ _ _)) (set10_8 (set10_8 HJ.out.blk)) rfl HW0.out HFI.out HST.out hW5
        exact bodyPost_ret (v := .agg (scV s 2 (.slice AE s.evs.length cE) (.slice A3 n3 c3))) (results_cell_row Tryz.results21 _ _ w.heap.size 50 _ (0, 0) _ rfl T1 Tryz.underlying50 rfl scan_size) rfl T2
    · cases sd with
      | true =>
        generalize nxK zs (s.size : Int) = K at *
        generalize nxP zs (s.size : Int) = P at *
        generalize nxN zs (s.size : Int) = N at *
        have yg := blk_lt HJ.out.blk
        have fg := blk12f HJ.out.blk
        obtain ⟨v0, v1, v2, v3, v4, v5, v6, v7, v8, v9⟩ := blk10 HJ.out.blk
        have KR := (HJ.out.bel.block _ (blk_lt HK.out)).trans HK.out
        have yr := blk_lt KR
        have fr := blk12f KR
        obtain ⟨q0, q1, q2, q3, q4, q5, q6, q7, q8, q9⟩ := blk10 KR
        clear KR
        have yf := blk_lt HF.out
        obtain ⟨x0, x1, x2, x3⟩ := blk4 HF.out
        have HFI := hid (show Fin zs s from ⟨HI.out.1, no_nx (by rw [HE.out]; decide)⟩)
        have HST := hid (show stS zs s = 3 from by rw [st_1 HE.out, HSD.out]; rfl)
        go_wp2_with fail
        obtain ⟨w5, hW5⟩ : ∃ x, x = ((((((((((we.setCell ⟨w.heap.size + 1, 8, none⟩ (.int .i64 3)).setCell ⟨w.heap.size, 0, none⟩ (.int .i64 s.num)).setCell ⟨w.heap.size, 1, none⟩ (.int .i64 s.before.q)).setCell ⟨w.heap.size, 2, none⟩ (.int .i64 s.before.t)).setCell ⟨w.heap.size, 3, none⟩ (.slice none 0 0)).setCell ⟨w.heap.size, 4, none⟩ (.slice AE s.evs.length cE)).setCell ⟨w.heap.size, 5, none⟩ (.int .i64 s.after.q)).setCell ⟨w.heap.size, 6, none⟩ (.int .i64 s.after.t)).setCell ⟨w.heap.size, 7, none⟩ (.slice A3 n3 c3)).setCell ⟨w.heap.size, 8, none⟩ (.int .i64 3)).setCell ⟨w.heap.size, 9, none⟩ (.int .i64 (s.size : Int)) := ⟨_, rfl⟩
        rw [← hW5]
        obtain ⟨T1, T2⟩ := SJ.done (ws := we.setCell ⟨w.heap.size + 1, 8, none⟩ (.int .i64 3)) HJ.out (Sto.cell _ _ _ _) (set10_8 HJ.out.blk) rfl HW0.out HFI.out HST.out hW5
        exact bodyPost_ret (v := .agg (scV s 3 (.slice AE s.evs.length cE) (.slice A3 n3 c3))) (results_cell_row Tryz.results21 _ _ w.heap.size 50 _ (0, 0) _ rfl T1 Tryz.underlying50 rfl scan_size) rfl T2
      | false =>
        generalize nxK zs (s.size : Int) = K at *
        generalize nxP zs (s.size : Int) = P at *
        generalize nxN zs (s.size : Int) = N at *
        have yg := blk_lt HJ.out.blk
        have fg := blk12f HJ.out.blk
        obtain ⟨v0, v1, v2, v3, v4, v5, v6, v7, v8, v9⟩ := blk10 HJ.out.blk
        have KR := (HJ.out.bel.block _ (blk_lt HK.out)).trans HK.out
        have yr := blk_lt KR
        have fr := blk12f KR
        obtain ⟨q0, q1, q2, q3, q4, q5, q6, q7, q8, q9⟩ := blk10 KR
        clear KR
        have yf := blk_lt HF.out
        obtain ⟨x0, x1, x2, x3⟩ := blk4 HF.out
        have HFI := hid (show Fin zs s from ⟨HI.out.1, no_nx (by rw [HE.out]; decide)⟩)
        have HST := hid (show stS zs s = 3 from by rw [st_1 HE.out, HSD.out]; rfl)
        go_wp2_with fail
        obtain ⟨w5, hW5⟩ : ∃ x, x = ((((((((((we.setCell ⟨w.heap.size + 1, 8, none⟩ (.int .i64 3)).setCell ⟨w.heap.size, 0, none⟩ (.int .i64 s.num)).setCell ⟨w.heap.size, 1, none⟩ (.int .i64 s.before.q)).setCell ⟨w.heap.size, 2, none⟩ (.int .i64 s.before.t)).setCell ⟨w.heap.size, 3, none⟩ (.slice none 0 0)).setCell ⟨w.heap.size, 4, none⟩ (.slice AE s.evs.length cE)).setCell ⟨w.heap.size, 5, none⟩ (.int .i64 s.after.q)).setCell ⟨w.heap.size, 6, none⟩ (.int .i64 s.after.t)).setCell ⟨w.heap.size, 7, none⟩ (.slice A3 n3 c3)).setCell ⟨w.heap.size, 8, none⟩ (.int .i64 3)).setCell ⟨w.heap.size, 9, none⟩ (.int .i64 (s.size : Int)) := ⟨_, rfl⟩
        rw [← hW5]
        obtain ⟨T1, T2⟩ := SJ.done (ws := we.setCell ⟨w.heap.size + 1, 8, none⟩ (.int .i64 3)) HJ.out (Sto.cell _ _ _ _) (set10_8 HJ.out.blk) rfl HW0.out HFI.out HST.out hW5
        exact bodyPost_ret (v := .agg (scV s 3 (.slice AE s.evs.length cE) (.slice A3 n3 c3))) (results_cell_row Tryz.results21 _ _ w.heap.size 50 _ (0, 0) _ rfl T1 Tryz.underlying50 rfl scan_size) rfl T2
end Go.Proofs.YtondnbnaoacanaaGreatDoor
