/- Layer 9: contracts of take, next and Read. -/
import Derived.Test.YtondnbnaoacanaaGreatDoorSegZ
namespace Go.Proofs.YtondnbnaoacanaaGreatDoor
open Go.ChangeShapes Go.WideShapes Go.ChangeAt Go.RowKit Fb Go.Maps

theorem zq_bytes {m : Nat} {c : Ahd} (hm : m < 18446744073709551616) (hr : c.rc = true) : Bytes (sgZ m c) := by
  have q := rc_q hr
  exact frB_bytes (by omega) (by have := zp_len hm q.2.1 q.2.2.2; omega) (zp_bytes _ _)
theorem set11 {w : World} {g : Nat} {t : TypeId} {a b c d e f h i j k l m m' : Value} (K : w.heap[g]? = some (.cells #[a, b, c, d, e, f, h, i, j, k, l, m] t (0, 0))) :
    (w.setCell ⟨g, 11, none⟩ m').heap[g]? = some (.cells #[a, b, c, d, e, f, h, i, j, k, l, m'] t (0, 0)) := by
  simp [World.setCell, Array.getElem?_modify, K]
theorem set9 {w : World} {g : Nat} {t : TypeId} {a b c d e f h i j k l m k' : Value} (K : w.heap[g]? = some (.cells #[a, b, c, d, e, f, h, i, j, k, l, m] t (0, 0))) :
    (w.setCell ⟨g, 9, none⟩ k').heap[g]? = some (.cells #[a, b, c, d, e, f, h, i, j, k', l, m] t (0, 0)) := by
  simp [World.setCell, Array.getElem?_modify, K]
/-- is what stands there a Seal's frame? -/
theorem seal_iff {zs z : List Int} {s : Sc} (hb : Bytes zs) (h0 : nxS zs (s.size : Int) = 0) (hK : nxK zs (s.size : Int) = 3) (hz : nxP zs (s.size : Int) = z) (hr : s.after.rc = true) (hm : s.evs.length < 18446744073709551616) :
    decide ((zs.drop s.size).take (sgZ s.evs.length s.after).length = sgZ s.evs.length s.after) = decide (z = zpB s.evs.length s.after) := by
  obtain ⟨-, w1, w2, w3, w4, w5⟩ := nx_whole h0
  rw [hK, hz] at w1 w2 w5
  rw [w2, Int.toNat_natCast, Int.toNat_natCast] at w5
  obtain ⟨-, -, hzl⟩ := fpE_zero w1
  have q := rc_q hr
  by_cases h : z = zpB s.evs.length s.after
  · rw [decide_eq_true h, decide_eq_true]
    unfold sgZ
    rw [← h]
    exact w5
  · rw [decide_eq_false h, decide_eq_false]
    intro h2
    have a1 : zs.drop s.size = frB 3 z ++ (zs.drop s.size).drop (frB 3 z).length := by
      have := (List.take_append_drop (frB 3 z).length (zs.drop s.size)).symm
      rwa [w5] at this
    have a2 : zs.drop s.size = frB 3 (zpB s.evs.length s.after) ++ (zs.drop s.size).drop (sgZ s.evs.length s.after).length := by
      have := (List.take_append_drop (sgZ s.evs.length s.after).length (zs.drop s.size)).symm
      rwa [h2] at this
    exact h (fr_eq (by omega) (by omega) hzl (zp_len hm q.2.1 q.2.2.2) (a1.symm.trans a2)).2.1

def TakeR (w0 : World) (g : Nat) (AB : Option Addr) (nB cB : Nat) (zs : List Int) (s : Sc) (e : Ending) (w' : World) : Prop :=
  (∃ s' v' A3 n3 c3, Stp zs s s' ∧ e = .returned (.bool true) ∧ SI w0 g AB nB cB w' ⟨s'.num, s'.before, s'.evs, s'.after, s.size, s'.sd⟩ v' A3 n3 c3) ∨
  ((¬ ∃ s', Stp zs s s') ∧ e = .returned (.bool false) ∧ ∃ v' A3 n3 c3, SI w0 g AB nB cB w' s v' A3 n3 c3)

set_option maxRecDepth 100000 in
set_option maxHeartbeats 16000000 in
theorem take_any {w0 : World} {g : Nat} {AB : Option Addr} {nB cB : Nat} {zs : List Int} {s : Sc} {vE : Value} {A2 : Option Addr} {n2 c2 : Nat} {w : World} (hS : Rw w0 AB nB cB zs) (hb : Bytes zs) (hzl : zs.length ≤ 100000) (hI : Inv zs s)
    (h : SI w0 g AB nB cB w s vE A2 n2 c2) {AP : Option Addr} {cP : Nat} {z : List Int} (hP : Rw w AP z.length cP z) (h0 : nxS zs (s.size : Int) = 0) (hz : nxP zs (s.size : Int) = z) :
    Calls Tryz.prog 56 #[.pointer (some ⟨g, 0, none⟩), .int .i64 (nxK zs (s.size : Int)), .slice AP z.length cP] w (TakeR w0 g AB nB cB zs s) := by
  have hw := nx_whole h0
  rw [hz] at hw
  obtain ⟨hk1, hk3, hz2⟩ := fpE_zero hw.2.1
  have hl : nB = zs.length := hS.len
  have hbz : Bytes z := by
    rw [← hz]
    obtain ⟨-, eP, -⟩ := nx_yes h0
    rw [eP]
    unfold fsP
    exact fun x hx => hb x (List.mem_of_mem_drop (List.mem_of_mem_drop (List.mem_of_mem_take hx)))
  have HNX := hid (fun (s' : Sc) (n : Nxt s (frB (nxK zs (s.size : Int)) z) s') (hsd : s.sd = false) => nx_stp hsd h0 (by rw [hz]; exact n))
  have HNO := hid (fun (s' : Sc) (k : Stp zs s s') => by
    have := (stp_nx k).2.2
    rw [hz] at this
    exact this)
  have HH := hid (fun (s' : Sc) (hn : s.num = 0) (n : Nxt s (frB (nxK zs (s.size : Int)) z) s') => nxt_head (k := nxK zs (s.size : Int)) ⟨hk1, hk3⟩ hz2 hn n)
  have HM := hid (fun (s' : Sc) (hn : s.num ≠ 0) (n : Nxt s (frB (nxK zs (s.size : Int)) z) s') => nxt_more (k := nxK zs (s.size : Int)) ⟨hk1, hk3⟩ hz2 hn n)
  have HF := hI.few
  have HLL := hid hl
  clear hl
  obtain ⟨K, hK⟩ : ∃ K, nxK zs (s.size : Int) = K := ⟨_, rfl⟩
  rw [hK] at hk1 hk3 HNX HNO HH HM ⊢
  obtain ⟨u0, u1, u2, u3, u4, u5, u6, u7, u8, u9, u10, u11⟩ := blk12 h.blk
  have yg := blk_lt h.blk
  have HSI := hid h
  by_cases hn : s.num = 0
  · obtain rfl := hI.zero hn
    by_cases hk : K = 1
    · subst hk
      have PB := hid (begin_any (p := 0) hS hb (Nat.zero_le _) h hP hbz h0 hK hz)
      clear hn hI h hS hb hP h0 hz hbz hw HF hK u1 u2 u3 u4 u5 u6 u7 u8 u9 u10 hk1 hk3
      change w.cell? ⟨g, 0, none⟩ = some (.int .i64 0) at u0
      change w.cell? ⟨g, 11, none⟩ = some (.bool false) at u11
      go_enter Tryz.func56, Tryz.ntmps56
      go_wp2_with fail
      refine PB.out.mono ?_
      rintro e w1 (⟨n, c, hm, hr, hcl, hzz, rfl, hsi⟩ | ⟨hno, rfl, hsi⟩)
      · have HX := hid (show TakeR w0 g AB nB cB zs sc0 (.returned (.bool true)) w1 from .inl ⟨⟨n, c, [], c, 0 + (frB 1 z).length, false⟩, vE, none, 0, 0, HNX.out _ (.head n c rfl hm hr hcl (by rw [hzz]; rfl)) rfl, rfl, hsi⟩)
        clear hsi hzz hm hr
        go_wp2_with fail
        go_ret
        exact HX.out
      · have HX := hid (show TakeR w0 g AB nB cB zs sc0 (.returned (.bool false)) w1 from .inr ⟨fun ⟨s', k⟩ => by
          obtain ⟨-, n, c, a, b, d, e, -⟩ := HH.out s' rfl (HNO.out s' k)
          exact hno ⟨n, c, ⟨a, b, d⟩, e⟩, rfl, _, _, _, _, hsi⟩)
        clear hsi hno
        go_wp2_with fail
        go_ret
        exact HX.out
    · have kb : (K == 1) = false := by simp; omega
      have HX := hid (show ∀ w1, w1 = w → TakeR w0 g AB nB cB zs sc0 (.returned (.bool false)) w1 from fun w1 e => by subst e; exact .inr ⟨fun ⟨s', k⟩ => hk (HH.out s' rfl (HNO.out s' k)).1, rfl, vE, A2, n2, c2, HSI.out⟩)
      clear hn hI h hS hb hP h0 hz hbz hw HF hK u1 u2 u3 u4 u5 u6 u7 u8 u9 u10 u11
      change w.cell? ⟨g, 0, none⟩ = some (.int .i64 0) at u0
      go_enter Tryz.func56, Tryz.ntmps56
      go_wp2
      go_ret
      exact HX.out _ rfl
  · have nb : (s.num == 0) = false := by simp; omega
    by_cases hk : K = 1
    · subst hk
      have HX := hid (show ∀ w1, w1 = w → TakeR w0 g AB nB cB zs s (.returned (.bool false)) w1 from fun w1 e => by
        subst e
        exact .inr ⟨fun ⟨s', k⟩ => by rcases HM.out s' hn (HNO.out s' k) with ⟨h9, -⟩ | ⟨h9, -⟩ <;> omega, rfl, vE, A2, n2, c2, HSI.out⟩)
      clear hI h hS hb hP h0 hz hbz hw HF hK u1 u2 u3 u4 u5 u6 u7 u8 u9 u10 u11 hk1 hk3
      go_enter Tryz.func56, Tryz.ntmps56
      go_wp2
      go_ret
      exact HX.out _ rfl
    · have kb : (K == 1) = false := by simp; omega
      cases hsd : s.sd with
      | true =>
        have HX := hid (show ∀ w1, w1 = w → TakeR w0 g AB nB cB zs s (.returned (.bool false)) w1 from fun w1 e => by subst e; exact .inr ⟨no_sd hsd, rfl, vE, A2, n2, c2, HSI.out⟩)
        rw [hsd] at u11
        clear hI h hS hb hP h0 hz hbz hw HF hK u1 u2 u3 u4 u5 u6 u7 u8 u9 u10
        go_enter Tryz.func56, Tryz.ntmps56
        go_wp2
        go_ret
        exact HX.out _ rfl
      | false =>
        rw [hsd] at u11
        have hra := hI.rcA hn
        by_cases hk2 : K = 2
        · clear kb
          subst hk2
          have PF := hid (sfollow_any h hra (by omega) hP hbz hz2)
          have HRA := hid hra
          clear hI h hS hb hP h0 hz hbz hw HF hK u1 u2 u3 u4 u5 u6 u7 u8 u9 u10 hk1 hk3 hk hra
          go_enter Tryz.func56, Tryz.ntmps56
          go_wp2_with fail
          refine PF.out.mono ?_
          rintro e w1 (⟨x, v', A3, n3, c3, hfo, rfl, hsi⟩ | ⟨hno, rfl, hsi⟩)
          · have HX := hid (show TakeR w0 g AB nB cB zs s (.returned (.bool true)) w1 from .inl ⟨_, v', A3, n3, c3, HNX.out _ (.event x hn HRA.out hfo.1 (by rw [← hfo.2]; rfl)) hsd, rfl, by rw [hsd] at hsi; exact hsi⟩)
            clear hsi hfo
            go_wp2_with fail
            go_ret
            exact HX.out
          · have HX := hid (show TakeR w0 g AB nB cB zs s (.returned (.bool false)) w1 from .inr ⟨fun ⟨s', k⟩ => by
              rcases HM.out s' hn (HNO.out s' k) with ⟨-, x, a, b, -⟩ | ⟨h9, -⟩
              · exact hno x ⟨a, b.symm⟩
              · omega, rfl, _, _, _, _, hsi⟩)
            clear hsi hno
            go_wp2_with fail
            go_ret
            exact HX.out
        · clear kb
          obtain rfl : K = 3 := by omega
          have hm : s.evs.length < 18446744073709551616 := by omega
          have HIF := hid (seal_iff hb h0 hK hz hra hm)
          obtain ⟨AE, cE, rfl, -, -, -⟩ := own_evs h.row (Nat.le_refl _)
          have HNM := rc_nms hra
          have PZ := hid (fun (w1 : World) (h1 : Below w.heap.size w w1) => SSeal_any (s.evs.length : Int) s.after.q s.after.t (by omega) (cp := c2) HNM.2.2 (h.nms.below h1))
          unfold SgR at PZ
          obtain ⟨e1, e2⟩ := zq_yes (n := (s.evs.length : Int)) (c := s.after) (by unfold zqOk; rw [hra, decide_eq_true (by omega)]; rfl)
          have e3 : (⟨s.after.q, s.after.t, s.after.l⟩ : Ahd) = s.after := rfl
          rw [e3, e1, e2, Int.toNat_natCast] at PZ
          have HZB := hid (zq_bytes hm hra)
          have HBB := hid (fun (w1 : World) (h1 : Below w.heap.size w w1) => (hS.below h.bel).below h1)
          have HBY := hid hb
          have HLE := hid (show s.size ≤ nB by have := hI.le; have := HLL.out; omega)
          have HRA := hid hra
          have HMM := hid hm
          obtain ⟨R, hR⟩ : ∃ R, decide (z = zpB s.evs.length s.after) = R := ⟨_, rfl⟩
          rw [hR] at HIF
          have HRR := hid hR
          clear hR
          have PS := hid (show ∀ (w1 : World) (h1 : Below w.heap.size w w1) (A8 : Option Addr) (n8 c8 : Nat) (hS8 : Rw w1 A8 n8 c8 (sgZ s.evs.length s.after)), Calls Tryz.prog 82 #[.pointer (some ⟨g, 0, none⟩), .slice A8 n8 c8, .int .i64 0] w1 fun e w' => e = .returned (.bool R) ∧ Below w1.heap.size w1 w' from fun w1 h1 A8 n8 c8 hS8 => by
            obtain rfl := hS8.len
            have hs := h.below h1
            have q := stands_any (c' := c8) 0 (blk12 hs.blk).2.2.2.2.2.2.2.2.2.1 (blk12 hs.blk).2.2.2.2.2.2.2.2.2.2.1 (HBB.out _ h1) HLE.out hS8.1 HBY.out HZB.out
            rw [HIF.out, decide_eq_true rfl, Bool.true_and] at q
            exact q)
          clear hI h hS hb hP h0 hz hbz hw hK u1 u2 u3 u8 hk1 hk3 hk hk2 hra hm HNM e1 e2 e3
          go_enter Tryz.func56, Tryz.ntmps56
          go_wp2_with fail
          go_region_held3 (fun w' => w'.cell? ⟨g, 4, none⟩ = some (.slice AE s.evs.length cE) ∧ w'.cell? ⟨g, 5, none⟩ = some (.int .i64 s.after.q) ∧ w'.cell? ⟨g, 6, none⟩ = some (.int .i64 s.after.t) ∧ w'.cell? ⟨g, 7, none⟩ = some (.slice A2 n2 c2))
            (first
              | go_keep
              | (go_split_ands
                 exact ⟨keep_cell hbx.out (by assumption), keep_cell hbx.out (by assumption), keep_cell hbx.out (by assumption), keep_cell hbx.out (by assumption)⟩)
              | (go_split_ands
                 exact ⟨(World.cell?_setCell_other _ _ _ _ (by simp)).trans (by assumption), (World.cell?_setCell_other _ _ _ _ (by simp)).trans (by assumption), (World.cell?_setCell_other _ _ _ _ (by simp)).trans (by assumption), (World.cell?_setCell_other _ _ _ _ (by simp)).trans (by assumption)⟩))
            (first
              | (go_at_call 11; refine (PZ.out _ (Below.drew (Below.refl _ _))).mono ?_; rintro e w1 ⟨⟨v, rfl, hown, -⟩, hb1⟩; obtain ⟨A8, c8, rfl, hR8, -⟩ := own_rw hown; have hbx := hid hb1; have HW1 := hid (show Below w.heap.size w w1 from (Below.drew (Below.refl _ _)).trans hb1); have HR8 := hid hR8; clear hown hR8 hb1)
              | (go_at_call 82; refine (PS.out _ HW1.out _ _ _ HR8.out).mono ?_; rintro e w2 ⟨rfl, hb2⟩; have hbx := hid hb2; have HS2 := hid (HSI.out.below (HW1.out.trans (hb2.mono HW1.out.size))); have y2 := blk_lt HS2.out.blk; have f2 := blk12f HS2.out.blk; have v11 := (blk12 HS2.out.blk).2.2.2.2.2.2.2.2.2.2.2; clear hb2))
          have SS := Sto.cell w2 g 11 (.bool R)
          have KK := set11 (m' := .bool R) HS2.out.blk
          have RR := Rs.stoN HS2.out.nms HS2.out.blk HS2.out.cells SS
          cases R with
          | true =>
            have HX := hid (show TakeR w0 g AB nB cB zs s (.returned (.bool true)) (w2.setCell ⟨g, 11, none⟩ (.bool true)) from .inl ⟨_, .slice AE s.evs.length cE, A2, n2, c2, HNX.out _ (.shut hn HRA.out HMM.out (by rw [of_decide_eq_true HRR.out]; rfl)) hsd, rfl, SI.put HS2.out SS KK rfl RR⟩)
            clear SS KK RR
            go_wp2
            go_ret
            exact HX.out
          | false =>
            have HX := hid (show TakeR w0 g AB nB cB zs s (.returned (.bool false)) (w2.setCell ⟨g, 11, none⟩ (.bool false)) from .inr ⟨fun ⟨s', k⟩ => by
              rcases HM.out s' hn (HNO.out s' k) with ⟨h9, -⟩ | ⟨-, h9, -⟩
              · omega
              · exact of_decide_eq_false HRR.out h9, rfl, .slice AE s.evs.length cE, A2, n2, c2, SI.put HS2.out SS (by rw [hsd]; exact KK) rfl RR⟩)
            clear SS KK RR
            go_wp2
            go_ret
            exact HX.out
end Go.Proofs.YtondnbnaoacanaaGreatDoor
