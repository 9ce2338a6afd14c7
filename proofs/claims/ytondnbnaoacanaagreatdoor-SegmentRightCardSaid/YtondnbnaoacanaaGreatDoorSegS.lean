/- Layer 9: contract of Make. -/
import Derived.Test.YtondnbnaoacanaaGreatDoorSegR
import Derived.Test.YtondnbnaoacanaaGreatDoorEvs
namespace Go.Proofs.YtondnbnaoacanaaGreatDoor
open Go.ChangeShapes Go.WideShapes Go.ChangeAt Go.RowKit Fb Go.Maps

def mkE (n : Int) (c : Ahd) (l : List Ev) : Int := if hqOk n c = true then errL c l else 1
def mkY (n : Int) (c : Ahd) (l : List Ev) (sd : Bool) : List Int := if mkE n c l = 0 then mkB n c l sd else []
theorem rc_nms {q t : Int} {ss : List ByteArray} (h : rcB q t ss = true) : ss.length ≤ 32 ∧ (∀ s ∈ ss, 1 ≤ s.size) ∧ Ok9 ss := by
  have h1 := (rgB_iff _).1 ((rc_iff _ _ _).1 h).2.2
  exact ⟨h1.1, fun s hs => (nm_size (h1.2.1 s hs)).1, by have := h1.1; omega, fun s hs => by have := nm_size (h1.2.1 s hs); unfold maxLen; omega⟩
theorem evB_next {c : Ahd} {l : List Ev} {j : Nat} {x : Ev} (h : l[j]? = some x) : evB c (l.take (j + 1)) = evB c (l.take j) ++ frB 2 ((bhC c (l.take j)).sp x) := by
  rw [List.take_add_one, h, evB_app]
  simp [evB]
theorem okL_next {c : Ahd} {l : List Ev} {j : Nat} {x : Ev} (h : l[j]? = some x) (ok : okL c (l.take j)) (hf : (bhC c (l.take j)).fl x = 0) : okL c (l.take (j + 1)) := by
  rw [List.take_add_one, h]
  exact (okL_app _ _ _).2 ⟨ok, (okL_one _ _).2 hf⟩
theorem errL_at {c : Ahd} {l : List Ev} {j : Nat} {x : Ev} (h : l[j]? = some x) (ok : okL c (l.take j)) (hf : (bhC c (l.take j)).fl x ≠ 0) : errL c l = (bhC c (l.take j)).fl x := by
  have hlt : j < l.length := by
    rcases Nat.lt_or_ge j l.length with h1 | h1
    · exact h1
    · rw [List.getElem?_eq_none h1] at h; cases h
  have hd : l.drop j = x :: l.drop (j + 1) := by
    rw [List.drop_eq_getElem_cons hlt]
    rw [List.getElem?_eq_getElem hlt] at h
    rw [Option.some.inj h]
  have h1 := errL_app ok (l.drop j)
  rw [List.take_append_drop, hd] at h1
  rw [h1]
  unfold errL
  rw [if_neg hf]
theorem evB_room {c : Ahd} {l : List Ev} (hr : c.rc = true) (ok : okL c l) : (evB c l).length ≤ 207 * l.length := by
  induction l generalizing c with
  | nil => simp [evB]
  | cons x l ih =>
    have h1 := ih (c := c.nx x) (rc_next hr ok.1) ok.2
    have h2 := sp_200 hr ok.1
    simp only [evB, List.length_append, List.length_cons, frB_len]
    omega
theorem sgH_room {n : Int} {c : Ahd} (hn : n ≤ 99999999) (hr : c.rc = true) : (sgH n c).length ≤ 207 := by
  have h1 := hp_len hn (rc_q hr).2.1 (rc_q hr).2.2.2
  unfold sgH
  rw [frB_len]
  omega
theorem sgZ_room {m : Nat} {c : Ahd} (hm : m < 18446744073709551616) (hr : c.rc = true) : (sgZ m c).length ≤ 207 := by
  have h1 := zp_len hm (rc_q hr).2.1 (rc_q hr).2.2.2
  unfold sgZ
  rw [frB_len]
  omega
theorem Rs.nzY {w w' : World} {A : Option Addr} {n c : Nat} {ss : List ByteArray} (h : Rs w A n c ss) (hz : NzY Z8 w w') (hs : w.heap.size ≤ w'.heap.size) : Rs w' A n c ss := by
  refine ⟨(hz.sl h.1 fun u hu h0 => ?_).up hs, h.2⟩
  obtain ⟨s, -, rfl⟩ := List.mem_map.1 hu
  obtain ⟨k, hk⟩ := h0
  cases hk
theorem SgR.err {w w' : World} {E E' : Int} {zs : List Int} (hE : E = E') (hz : zs = []) (hb : Below w.heap.size w w') : SgR w E zs (.returned (.tuple #[.slice Option.none 0 0, .int .i64 E'])) w' := by
  subst hE hz
  exact ⟨⟨_, rfl, ⟨rfl, .inl ⟨rfl, rfl⟩⟩, SprY.nil _ _⟩, hb⟩
theorem SgR.ok {w w' : World} {E : Int} {zs zs' : List Int} {v : Value} {n : Nat} {xs : List Value} (hE : E = 0) (hz : zs = zs') (ho : w'.ownsRow w.heap.size 5 1 v n xs) (hn : n = zs'.length) (hx : xs = by8 zs') (hsp : SprY Z8 w' v n) (hb : Below w.heap.size w w') : SgR w E zs (.returned (.tuple #[v, .int .i64 0])) w' := by
  subst hE hz hn hx
  exact ⟨⟨_, rfl, ho, hsp⟩, hb⟩

set_option maxRecDepth 100000 in
set_option maxHeartbeats 16000000 in
theorem Make_any (m q t : Int) {A : Option Addr} {n cp : Nat} {ss : List ByteArray} (hz : Ok9 ss) {AL : Option Addr} {cl : Nat} {l : List Ev} (hx : ∀ x ∈ l, x.s.size ≤ maxLen) (hl : l.length ≤ 1000000) (sd : Bool) {w : World} (hR : Rs w A n cp ss) (hS : Se w w.heap.size AL l) :
    Calls Tryz.prog 16 #[.int .i64 m, .agg #[.int .i64 q, .int .i64 t, .slice A n cp], .slice AL l.length cl, .bool sd] w (SgR w (mkE m ⟨q, t, ss⟩ l) (mkY m ⟨q, t, ss⟩ l sd)) := by
  have PH := hid (fun (w1 : World) (h : Below w.heap.size w w1) => SHead_any m q t (cp := cp) hz (hR.below h))
  have hbA : Below w.heap.size w (w.alloc (.cells #[.int .i64 q, .int .i64 t, .slice A n cp] 24)) := (Below.refl _ _).alloc (Nat.le_refl _) _
  have HR := hid hR
  have HS := hid hS
  have HX := hid hx
  obtain ⟨L, hL⟩ : ∃ L, l.length = L := ⟨_, rfl⟩
  rw [hL] at hl ⊢
  have HL := hid hL
  obtain ⟨i0, hi0, hz0, hz1, hz2⟩ := info_parts u8_info
  clear hR hS hx hz hL
  unfold SgR at PH
  cases hok : hqOk m ⟨q, t, ss⟩ with
  | false =>
    obtain ⟨e1, e2⟩ := hq_no hok
    rw [e1, e2] at PH
    have HE : Hid (mkE m ⟨q, t, ss⟩ l = 1) := by show _ = _; unfold mkE; rw [hok]; rfl
    have HY : Hid (mkY m ⟨q, t, ss⟩ l sd = []) := by show _ = _; unfold mkY; rw [HE.out]; rfl
    clear e1 e2 hok
    go_enter Tryz.func16, Tryz.ntmps16
    go_wp2_with fail
    refine (PH.out _ hbA).mono ?_
    rintro e w1 ⟨⟨v, rfl, -, -⟩, hb1⟩
    go_wp2_with fail
    go_ret2
    exact SgR.err HE.out HY.out (hbA.trans (hb1.mono hbA.size))
  | true =>
    obtain ⟨e1, e2⟩ := hq_yes hok
    obtain ⟨hm, hr, hnil⟩ := hq_iff.1 hok
    rw [e1, e2] at PH
    have HE : Hid (mkE m ⟨q, t, ss⟩ l = errL ⟨q, t, ss⟩ l) := by show _ = _; unfold mkE; rw [hok]; rfl
    have HY : Hid (errL ⟨q, t, ss⟩ l = 0 → mkY m ⟨q, t, ss⟩ l sd = mkB m ⟨q, t, ss⟩ l sd) := by intro h; unfold mkY; rw [HE.out, h]; rfl
    have HN : Hid (errL ⟨q, t, ss⟩ l ≠ 0 → mkY m ⟨q, t, ss⟩ l sd = []) := by intro h; unfold mkY; rw [HE.out, if_neg h]
    have HM := hid hm
    have HRC := hid hr
    have HH := hid (sgH_room hm.2 hr)
    clear e1 e2 hok hm hr hnil
    go_enter Tryz.func16, Tryz.ntmps16
    go_wp2_with fail
    refine (PH.out _ hbA).mono ?_
    rintro e w1 ⟨⟨v, rfl, hown, hsp⟩, hb1⟩
    have hbw1 : Below w.heap.size w w1 := hbA.trans (hb1.mono hbA.size)
    have K1 := (hb1.block w.heap.size (by simp)).trans (heap_alloc_new w _)
    have z1 := blk_lt K1
    obtain ⟨u10, u11, u12, f10, f11, f12⟩ := blk3 K1
    have hown := own_down hown hbA.size
    have hal : Below w1.heap.size w1 (w1.alloc (.cells #[.int .i64 q, .int .i64 t, .slice A n cp] 24)) := (Below.refl _ _).alloc (Nat.le_refl _) _
    have HO := hid (And.intro (own_below hown hal) (SprY.below hsp hown hal))
    have HK0 := hid (heap_alloc_new w1 (.cells #[.int .i64 q, .int .i64 t, .slice A n cp] 24))
    have hbw2 := hbw1.trans (hal.mono hbw1.size)
    have HR0 := hid (HR.out.below hbw2)
    have hgl : w.heap.size ≤ w1.heap.size := hbw1.size
    clear K1 hown hsp hb1 PH
    go_wp2
    go_loopw [10, 29] (fun v i wr => ∃ (j : Nat) (A9 : Option Addr) (n9 c9 : Nat), j ≤ L ∧ i = .int .i64 j ∧ Hid (okL ⟨q, t, ss⟩ (l.take j)) ∧
        Hid (wr.heap[w1.heap.size]? = some (.cells #[.int .i64 (bhC ⟨q, t, ss⟩ (l.take j)).q, .int .i64 (bhC ⟨q, t, ss⟩ (l.take j)).t, .slice A9 n9 c9] 24 (0, 0))) ∧
        Hid (Rs wr A9 n9 c9 (bhC ⟨q, t, ss⟩ (l.take j)).l) ∧
        Hid (wr.ownsRow w.heap.size 5 1 v (sgH m ⟨q, t, ss⟩ ++ evB ⟨q, t, ss⟩ (l.take j)).length (by8 (sgH m ⟨q, t, ss⟩ ++ evB ⟨q, t, ss⟩ (l.take j)))) ∧
        Hid (SprY Z8 wr v (sgH m ⟨q, t, ss⟩ ++ evB ⟨q, t, ss⟩ (l.take j)).length) ∧ Below w.heap.size w wr)
      (fun _ i _ => L - (intOf i).toNat)
    case atStart =>
      refine ⟨0, A, n, cp, Nat.zero_le _, rfl, hid (by rw [List.take_zero]; trivial), hid ?_, hid ?_, hid ?_, hid ?_, hbw2⟩
      · rw [List.take_zero]; exact HK0.out
      · rw [List.take_zero]; exact HR0.out
      · rw [List.take_zero]; simp only [evB, List.append_nil]; exact HO.out.1
      · rw [List.take_zero]; simp only [evB, List.append_nil]; exact HO.out.2
    case round =>
      obtain ⟨j, A9, n9, c9, hj, rfl, hok, hK, hR9, hown, hsp, hbr⟩ := hrel
      have y1 := blk_lt hK.out
      obtain ⟨s0, s1, s2, f0, f1, f2⟩ := blk3 hK.out
      have HLB := hid (show (sgH m ⟨q, t, ss⟩ ++ evB ⟨q, t, ss⟩ (l.take j)).length ≤ 207 + 207 * j by
        have h1 := evB_room HRC.out hok.out
        have h2 := HH.out
        have h3 : (l.take j).length ≤ j := by rw [List.length_take]; omega
        rw [List.length_append]
        omega)
      by_cases hlt : j < L
      · have hjl : j < l.length := by have := HL.out; omega
        obtain ⟨b, o, rfl, hb, g0, g1, g2, g3, g4, g5, g6⟩ := (HS.out.below hbr).get hjl
        have hxs : (l[j]).s.size ≤ maxLen := HX.out _ (List.getElem_mem hjl)
        have HAT := hid (List.getElem?_eq_getElem hjl)
        generalize l[j] = X at *
        have HRX := hid (rc_bh HRC.out hok.out)
        have HNM := hid (rc_nms HRX.out)
        have PE := hid (fun (w9 : World) (h : Below wr.heap.size wr w9) => Add_any (bhC ⟨q, t, ss⟩ (l.take j)).q (bhC ⟨q, t, ss⟩ (l.take j)).t (cp := c9) HNM.out.2.2 X.q X.t X.k X.a X.b X.c hxs (hR9.out.below h) (by have := hR9.out.len; have := HNM.out.1; omega))
        unfold AdR at PE
        have hbe : Below wr.heap.size wr (wr.alloc (.cells #[.int .i64 X.q, .int .i64 X.t, .int .i64 X.k, .string X.s, .int .i64 X.a, .int .i64 X.b, .int .i64 X.c] 41)) := (Below.refl _ _).alloc (Nat.le_refl _) _
        by_cases hfl : (bhC ⟨q, t, ss⟩ (l.take j)).fl X = 0
        · have hen : enE (bhC ⟨q, t, ss⟩ (l.take j)).q (bhC ⟨q, t, ss⟩ (l.take j)).t (bhC ⟨q, t, ss⟩ (l.take j)).l X = 0 := (en_fl HRX.out).trans hfl
          obtain ⟨-, -, -, n1, n2, n3⟩ := en_zero hen
          have nb : adB (bhC ⟨q, t, ss⟩ (l.take j)).q (bhC ⟨q, t, ss⟩ (l.take j)).t (bhC ⟨q, t, ss⟩ (l.take j)).l X = frB 2 ((bhC ⟨q, t, ss⟩ (l.take j)).sp X) := if_pos hen
          rw [show (⟨X.q, X.t, X.k, X.s, X.a, X.b, X.c⟩ : Ev) = X from rfl, hen, n1, n2, n3, nb] at PE
          have HNX := hid (evB_next (c := ⟨q, t, ss⟩) HAT.out)
          have HBH := hid (bh_at (c := ⟨q, t, ss⟩) HAT.out)
          have HOK := hid (okL_next HAT.out hok.out hfl)
          have HFL := hid (show (frB 2 ((bhC ⟨q, t, ss⟩ (l.take j)).sp X)).length ≤ 207 by have := sp_200 HRX.out hfl; rw [frB_len]; omega)
          clear hen n1 n2 n3 nb hfl
          go_wp2_with fail
          refine (PE.out _ hbe).mono ?_
          rintro e w3 ⟨⟨v3, A4, n4, c4, rfl, hown3, hR4⟩, hb3⟩
          have h93 : Below wr.heap.size wr w3 := hbe.trans (hb3.mono hbe.size)
          have K3 := (h93.block _ y1).trans hK.out
          have y3 := blk_lt K3
          obtain ⟨p0, p1, p2, x0, x1, x2⟩ := blk3 K3
          have S4 := sto3 w3 w1.heap.size (.int .i64 X.q) (.int .i64 X.t) (.slice A4 n4 c4)
          obtain ⟨ho4, hs4⟩ := own_elseY (own_below hown.out h93) K3 (by decide) S4.block
          have hs4 := hs4 (SprY.below hsp.out hown.out h93)
          obtain ⟨A3, c3, rfl, hR3, -⟩ := own_rw hown3
          have hR3 := (hR3.lts K3 S4.lts)
          have HK4 := hid (all3 (a' := .int .i64 X.q) (b' := .int .i64 X.t) (c' := .slice A4 n4 c4) K3)
          have HR4 := hid (hR4.sto K3 S4)
          have hb4 : Below w.heap.size w w3 := hbr.trans (h93.mono hbr.size)
          have hb5 := S4.below hb4 hgl
          have HO4 := hid (And.intro ho4 hs4)
          have HR3 := hid hR3
          clear hown3 hR4 hb3 ho4 hs4 hR3 K3 s0 s1 s2 f0 f1 f2 g0 g1 g2 g3 g4 g5 g6
          go_wp2_with (at_builtin; refine wpList_pushAllY (Z := Z8) rfl (.tmp 43) (.tmp 44) _ rfl Tryz.underlying26 hi0 hz0 hz1 hz2 rfl z8_zero rfl HO4.out.1 HO4.out.2 rfl HR3.out.2.2.2 HR3.out.1 (fun v' w' hown' hsp' hgr hnz => ?_) (by8_one _) (by have := HLB.out; have := HFL.out; simp only [maxLen]; omega) (by have := HLB.out; have := HFL.out; omega) hb5.size)
          have hb6 := grown_low HO4.out.1 hgr hb5 (Nat.le_refl _) hb5.size
          have HO6 := hid (And.intro hown' hsp')
          have HK6 := hid (grown_elseY hgr HO4.out.1 HK4.out (by decide))
          have HR6 := hid (HR4.out.nzY hnz hgr.size)
          clear hown' hsp' hgr hnz
          go_wp2_with fail
          go_roundw
          case rel =>
            refine ⟨j + 1, A4, n4, c4, by omega, by go_num, HOK, hid ?_, hid ?_, hid ?_, hid ?_, hb6⟩
            · rw [HBH.out]; exact HK6.out
            · rw [HBH.out]; exact HR6.out
            · rw [HNX.out, ← List.append_assoc, List.length_append, by8_append]; exact HO6.out.1
            · rw [HNX.out, ← List.append_assoc, List.length_append]; exact HO6.out.2
          case measure => simp [intOf]; omega
        · have hen : enE (bhC ⟨q, t, ss⟩ (l.take j)).q (bhC ⟨q, t, ss⟩ (l.take j)).t (bhC ⟨q, t, ss⟩ (l.take j)).l X = (bhC ⟨q, t, ss⟩ (l.take j)).fl X := en_fl HRX.out
          have her := errL_at HAT.out hok.out hfl
          have HE2 := hid (HE.out.trans her)
          have HN2 := hid (HN.out (by rw [her]; exact hfl))
          rw [show (⟨X.q, X.t, X.k, X.s, X.a, X.b, X.c⟩ : Ev) = X from rfl, hen] at PE
          clear hen her
          generalize (bhC ⟨q, t, ss⟩ (l.take j)).fl X = E at *
          go_wp2_with fail
          refine (PE.out _ hbe).mono ?_
          rintro e w3 ⟨⟨v3, A4, n4, c4, rfl, -, -⟩, hb3⟩
          have h93 : Below wr.heap.size wr w3 := hbe.trans (hb3.mono hbe.size)
          have K3 := (h93.block _ y1).trans hK.out
          have y3 := blk_lt K3
          obtain ⟨p0, p1, p2, x0, x1, x2⟩ := blk3 K3
          have hb4 : Below w.heap.size w w3 := hbr.trans (h93.mono hbr.size)
          clear hb3 K3 s0 s1 s2 f0 f1 f2 g0 g1 g2 g3 g4 g5 g6
          go_wp2_with fail
          go_ret2
          exact SgR.err HE2.out HN2.out ((sto3 w3 w1.heap.size _ _ _).below hb4 hgl)
      · obtain rfl : j = L := by omega
        have htk : l.take j = l := List.take_of_length_le (by have := HL.out; omega)
        rw [htk] at hown hsp hok hK hR9 s0 s1 HLB
        have he0 := errL_ok.2 hok.out
        have HE0 := hid (HE.out.trans he0)
        have HY0 := hid (HY.out he0)
        clear HE HY HN htk he0
        cases sd with
        | false =>
          go_wp2_with fail
          go_ret2
          refine SgR.ok HE0.out (zs' := sgH m ⟨q, t, ss⟩ ++ evB ⟨q, t, ss⟩ l) (HY0.out.trans (by simp [mkB])) hown.out rfl rfl hsp.out hbr
        | true =>
          have HRX := hid (rc_bh HRC.out hok.out)
          have HNM := hid (rc_nms HRX.out)
          have PZ := hid (SSeal_any (j : Int) (bhC ⟨q, t, ss⟩ l).q (bhC ⟨q, t, ss⟩ l).t (by omega) (cp := c9) HNM.out.2.2 hR9.out)
          unfold SgR at PZ
          obtain ⟨e1, e2⟩ := zq_yes (n := (j : Int)) (c := bhC ⟨q, t, ss⟩ l) (by unfold zqOk; rw [HRX.out, decide_eq_true (by omega)]; rfl)
          rw [e1, e2, Int.toNat_natCast] at PZ
          have HZL := hid (sgZ_room (m := j) (by omega) HRX.out)
          clear e1 e2
          go_wp2_with fail
          refine PZ.out.mono ?_
          rintro e w3 ⟨⟨v3, rfl, hown3, hsp3⟩, hb3⟩
          obtain ⟨A3, c3, rfl, hR3, -⟩ := own_rw hown3
          have HO4 := hid (And.intro (own_below hown.out hb3) (SprY.below hsp.out hown.out hb3))
          have HR3 := hid hR3
          have hb5 := hbr.trans (hb3.mono hbr.size)
          clear hown3 hsp3 hR3 hb3
          go_wp2_with (at_builtin; refine wpList_pushAllY (Z := Z8) rfl (.tmp 57) (.tmp 58) _ rfl Tryz.underlying26 hi0 hz0 hz1 hz2 rfl z8_zero rfl HO4.out.1 HO4.out.2 rfl HR3.out.2.2.2 HR3.out.1 (fun v' w' hown' hsp' hgr hnz => ?_) (by8_one _) (by have := HLB.out; have := HZL.out; simp only [maxLen]; omega) (by have := HLB.out; have := HZL.out; omega) hb5.size)
          have hb6 := grown_low HO4.out.1 hgr hb5 (Nat.le_refl _) hb5.size
          have HO6 := hid (And.intro hown' hsp')
          clear hown' hsp' hgr hnz
          go_wp2_with fail
          go_ret2
          refine SgR.ok HE0.out (zs' := (sgH m ⟨q, t, ss⟩ ++ evB ⟨q, t, ss⟩ l) ++ sgZ j (bhC ⟨q, t, ss⟩ l)) (HY0.out.trans (by unfold mkB; rw [if_pos rfl, HL.out])) HO6.out.1 (by simp only [List.length_append]) (by8_append _ _).symm HO6.out.2 hb6
end Go.Proofs.YtondnbnaoacanaaGreatDoor
