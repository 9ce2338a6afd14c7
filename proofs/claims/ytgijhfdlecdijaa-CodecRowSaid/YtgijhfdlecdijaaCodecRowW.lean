/- The walk of CodecRow. -/
import Derived.Test.YtgijhfdlecdijaaRowI
import Derived.Test.YtgijhfdlecdijaaCodecA
import Derived.Deep.DeepCutAuto
import Derived.BigQuiet
namespace Go.Proofs.Ytgijhfdlecdijaa
open Go.ChangeShapes Go.WideShapes Go.ChangeAt Go.RowKit Go.Deep Fb Go.Maps

theorem belowN9 {B : Nat} {a w : World} {n : Nat} (h : Below B a w) : Below B a (w.drewN n) := ⟨h.os, h.tape, h.output, h.size, h.block⟩
theorem de_is {q0 t0 : Int} {ss : List ByteArray} {x : Ev} (h : enE q0 t0 ss x = 0) :
    deX q0 t0 ss (spB q0 t0 ss x) = x ∧ deE q0 t0 ss (spB q0 t0 ss x) = 0 ∧ deQ q0 t0 ss (spB q0 t0 ss x) = x.q ∧ deT q0 t0 ss (spB q0 t0 ss x) = x.t ∧ deL q0 t0 ss (spB q0 t0 ss x) = flL ss x := by
  obtain ⟨hr, hf, -⟩ := en_zero h
  exact de_yes hr ⟨hf, rfl⟩

section
variable {wr w9 : World} {A1 A5 : Option Addr} {n1 c1 n5 c5 : Nat} {zs : List Int} {ss : List ByteArray} {q t : Int}
theorem met_a (hb9 : Below wr.drew.heap.size wr.drew w9) (hR1 : Rw w9 A1 n1 c1 zs) (hR5 : Rs w9 A5 n5 c5 ss) :
    Below wr.heap.size wr (w9.alloc (.cells #[.int .i64 q, .int .i64 t, .slice A5 n5 c5] 24)) ∧ wr.heap.size ≤ w9.heap.size ∧ (w9.alloc (.cells #[.int .i64 q, .int .i64 t, .slice A5 n5 c5] 24)).heap[w9.heap.size]? = some (.cells #[.int .i64 q, .int .i64 t, .slice A5 n5 c5] 24 (0, 0)) ∧
      Rw (w9.alloc (.cells #[.int .i64 q, .int .i64 t, .slice A5 n5 c5] 24)) A1 n1 c1 zs ∧ Rs (w9.alloc (.cells #[.int .i64 q, .int .i64 t, .slice A5 n5 c5] 24)) A5 n5 c5 ss := by
  have h : Below wr.heap.size wr w9 := (Below.drew (Below.refl _ _)).trans hb9
  have ha : ∀ o, Below w9.heap.size w9 (w9.alloc o) := fun o => (Below.refl _ _).alloc (Nat.le_refl _) _
  exact ⟨h.alloc h.size _, h.size, heap_alloc_new _ _, hR1.below (ha _), hR5.below (ha _)⟩
theorem met_c (hb9 : Below (wr.drew.alloc (.cells #[.int .i64 0, .int .i64 0, .slice none 0 0] 24)).heap.size (wr.drew.alloc (.cells #[.int .i64 0, .int .i64 0, .slice none 0 0] 24)) w9) : w9.heap[wr.heap.size]? = some (.cells #[.int .i64 0, .int .i64 0, .slice none 0 0] 24 (0, 0)) :=
  (hb9.block wr.heap.size (by simp)).trans (heap_alloc_new wr.drew _)
theorem met_b (hb9 : Below (wr.drew.alloc (.cells #[.int .i64 0, .int .i64 0, .slice none 0 0] 24)).heap.size (wr.drew.alloc (.cells #[.int .i64 0, .int .i64 0, .slice none 0 0] 24)) w9) (hR1 : Rw w9 A1 n1 c1 zs) (hR5 : Rs w9 A5 n5 c5 ss) :
    Below wr.heap.size wr (((w9.setCell ⟨wr.heap.size, 0, none⟩ (.int .i64 q)).setCell ⟨wr.heap.size, 1, none⟩ (.int .i64 t)).setCell ⟨wr.heap.size, 2, none⟩ (.slice A5 n5 c5)) ∧ wr.heap.size ≤ wr.heap.size ∧ (((w9.setCell ⟨wr.heap.size, 0, none⟩ (.int .i64 q)).setCell ⟨wr.heap.size, 1, none⟩ (.int .i64 t)).setCell ⟨wr.heap.size, 2, none⟩ (.slice A5 n5 c5)).heap[wr.heap.size]? = some (.cells #[.int .i64 q, .int .i64 t, .slice A5 n5 c5] 24 (0, 0)) ∧
      Rw (((w9.setCell ⟨wr.heap.size, 0, none⟩ (.int .i64 q)).setCell ⟨wr.heap.size, 1, none⟩ (.int .i64 t)).setCell ⟨wr.heap.size, 2, none⟩ (.slice A5 n5 c5)) A1 n1 c1 zs ∧ Rs (((w9.setCell ⟨wr.heap.size, 0, none⟩ (.int .i64 q)).setCell ⟨wr.heap.size, 1, none⟩ (.int .i64 t)).setCell ⟨wr.heap.size, 2, none⟩ (.slice A5 n5 c5)) A5 n5 c5 ss := by
  have k := met_c hb9
  have h0 : Below wr.heap.size wr (wr.drew.alloc (.cells #[.int .i64 0, .int .i64 0, .slice none 0 0] 24)) := (Below.drew (Below.refl _ _)).alloc (Nat.le_refl _) _
  have h := h0.trans (hb9.mono h0.size)
  have S := sto3 w9 wr.heap.size (.int .i64 q) (.int .i64 t) (.slice A5 n5 c5)
  exact ⟨S.below h (Nat.le_refl _), Nat.le_refl _, all3 k, hR1.lts k S.lts, hR5.lts k S.lts⟩
end

set_option maxRecDepth 100000 in
set_option maxHeartbeats 32000000 in
theorem row_walk (A : Option Addr) (c : Nat) (l : List Ev) (w : World) (hS : Se w w.heap.size A l) (hx : ∀ x ∈ l, x.s.size ≤ maxLen) :
    Calls Try.prog 4 #[.slice A l.length c] w fun e w' => e = .returned (.bool true) ∧ Below w.heap.size w w' := by
  obtain ⟨n, hnl⟩ : ∃ n, l.length = n := ⟨_, rfl⟩
  rw [hnl]
  have HNL := hid hnl
  have HS := hid (fun (w1 : World) (h : Below w.heap.size w w1) => hS.below h)
  have HX := hid hx
  clear hS hx hnl
  have PA := hid (awake7 w)
  by_cases h40 : (40 : Int) < n
  · go_enter Try.func4, Try.ntmps4
    go_wp2_with fail
    refine PA.out.mono ?_
    rintro e w1 ⟨rfl, hb1⟩
    go_wp2_with fail
    go_ret
    exact ⟨rfl, hb1⟩
  go_enter Try.func4, Try.ntmps4
  go_wp2_with fail
  refine PA.out.mono ?_
  rintro e w1 ⟨rfl, hb1⟩
  go_wp2_with fail
  go_loopw [5, 6, 7] (fun v5 v6 i wr => ∃ (j : Nat) (q0 t0 : Int) (ss : List ByteArray) (A3 : Option Addr) (n3 c3 : Nat) (A4 : Option Addr) (n4 c4 : Nat) (KL : List Ev), j ≤ n ∧ i = .int .i64 j ∧ KL.length ≤ j ∧ Hid (rcB q0 t0 ss = true) ∧ Hid (RI w w1.heap.size wr q0 t0 ss A3 n3 c3 q0 t0 ss A4 n4 c4 v5 KL v6 KL)) (fun _ _ i _ => n - (intOf i).toNat)
  case atStart =>
    refine ⟨0, 0, 0, [], none, 0, 0, none, 0, 0, [], Nat.zero_le _, rfl, Nat.le_refl _, rfl, RI.start hb1.size ((hb1.alloc hb1.size _).alloc (by have := hb1.size; simp; omega) _) ((Below.heap_alloc _ _ _ (by simp)).trans (heap_alloc_new w1 _)) (by have := heap_alloc_new (w1.alloc (.cells #[.int .i64 0, .int .i64 0, .slice none 0 0] 24)) (.cells #[.int .i64 0, .int .i64 0, .slice none 0 0] 24); rwa [World.size_alloc] at this)⟩
  case round =>
    obtain ⟨j, q0, t0, ss, A3, n3, c3, A4, n4, c4, KL, hj, rfl, hkl, hrc, HRI⟩ := hrel
    have y3 := blk_lt HRI.out.k3
    have y4 := blk_lt HRI.out.k4
    obtain ⟨s30, s31, s32, -, -, -⟩ := blk3 HRI.out.k3
    obtain ⟨s40, s41, s42, -, -, -⟩ := blk3 HRI.out.k4
    by_cases hlt : j < n
    case neg =>
      obtain ⟨A8, c8, h8, hS8, -, -⟩ := own_evs HRI.out.o5 (Nat.le_refl _)
      obtain ⟨A9, c9, h9, hS9, -, -⟩ := own_evs HRI.out.o6 (Nat.le_refl _)
      have PS := hid (RSame5 (c := c8) (c' := c9) hS8 hS9 (Nat.le_refl _) (Nat.le_refl _) (by omega))
      have PT := hid (fun (w9 : World) (h : Below wr.heap.size wr w9) => RSame7 (q0 := q0) (t0 := t0) (q1 := q0) (t1 := t0) (c := c3) (c' := c4) (HRI.out.r3.below h) (HRI.out.r4.below h) (by have := HRI.out.r3.len; have := (rc_names hrc.out).1; omega))
      rw [show decide (q0 = q0 ∧ t0 = t0 ∧ ss = ss) = true by simp] at PT
      clear hS8 hS9
      subst h8 h9
      go_wp2_with fail
      refine PS.out.mono ?_
      rintro e w2 ⟨rfl, hb2⟩
      have hbw2 := (HRI.out.below hb2).bel
      have K3 := (hb2.block _ y3).trans HRI.out.k3
      have K4 := (hb2.block _ y4).trans HRI.out.k4
      clear y3 y4 s30 s31 s32 s40 s41 s42
      have y3 := blk_lt K3
      have y4 := blk_lt K4
      obtain ⟨s30, s31, s32, -, -, -⟩ := blk3 K3
      obtain ⟨s40, s41, s42, -, -, -⟩ := blk3 K4
      clear K3 K4
      go_wp2_with fail
      refine (PT.out _ hb2).mono ?_
      rintro e w3 ⟨rfl, hb3⟩
      go_wp2_with fail
      go_ret
      exact ⟨rfl, hbw2.trans (hb3.mono hbw2.size)⟩
    case pos =>
      have hjl : j < l.length := by have := HNL.out; omega
      obtain ⟨b, o, rfl, hb, g0, g1, g2, g3, g4, g5, g6⟩ := (HS.out _ HRI.out.bel).get hjl
      have hxs : (l[j]).s.size ≤ maxLen := HX.out _ (List.getElem_mem hjl)
      have hcell : ∀ (w9 : World), Below wr.heap.size wr w9 → ∀ i u, wr.cell? ⟨b, i, none⟩ = some u → w9.cell? ⟨b, i, none⟩ = some u := fun w9 h i u hu => by
        rw [World.cell?_of_block (w := wr) (h.block b (by have := HRI.out.bel.size; omega))]; exact hu
      have HC := hid hcell
      have hbr : b < wr.heap.size := Nat.lt_of_lt_of_le hb HRI.out.bel.size
      clear hcell
      generalize l[j] = X at *
      obtain ⟨ns, hns⟩ : ∃ ns, X.s.size = ns := ⟨_, rfl⟩
      have HNS := hid hns
      by_cases h100 : (100 : Int) < X.s.size
      case pos =>
        go_wp2_with fail
        go_ret
        exact ⟨rfl, HRI.out.bel⟩
      case neg =>
        have HN := hid (rc_names hrc.out)
        have PE := hid (fun (w9 : World) (h : Below wr.heap.size wr w9) => Encode_any q0 t0 (cp := c3) HN.out.2.2 X.q X.t X.k X.a X.b X.c hxs (HRI.out.r3.below h) (by have := HRI.out.r3.len; have := HN.out.1; omega))
        unfold Encs at PE
        go_upto_region 12 with fail
        go_cut [8, 9, 10] (fun s8 s9 s10 wx => ∃ (A1 : Option Addr) (n1 c1 g9 : Nat) (A5 : Option Addr) (n5 c5 : Nat), s8 = .slice A1 n1 c1 ∧ s9 = .pointer (some ⟨g9, 0, none⟩) ∧ s10 = .int .i64 (enE q0 t0 ss X) ∧ Hid (Below wr.heap.size wr wx ∧ wr.heap.size ≤ g9 ∧ wx.heap[g9]? = some (.cells #[.int .i64 (enQ q0 t0 ss X), .int .i64 (enT q0 t0 ss X), .slice A5 n5 c5] 24 (0, 0)) ∧ Rw wx A1 n1 c1 (enB q0 t0 ss X) ∧ Rs wx A5 n5 c5 (enL q0 t0 ss X)))
        case first =>
          have b1 : Below wr.heap.size wr wr.drew := Below.drew (Below.refl _ _)
          have b2 : Below wr.heap.size wr (wr.drew.alloc (.cells #[.int .i64 0, .int .i64 0, .slice none 0 0] 24)) := b1.alloc (Nat.le_refl _) _
          go_region_with ((go_at_call 7; (first | refine (PE.out _ b1).mono ?_ | refine (PE.out _ b2).mono ?_); rintro e w9 ⟨⟨A1, n1, c1, A5, n5, c5, rfl, hR1, hR5⟩, hb9⟩; have hR1 := hid hR1; have hR5 := hid hR5; (first | (have k9 := met_c hb9; have y9 := blk_lt k9; obtain ⟨t90, t91, t92, f90, f91, f92⟩ := blk3 k9; clear k9) | skip)))
          all_goals
            go_wp2_with fail
            go_meet
            first
            | exact ⟨A1, n1, c1, _, A5, n5, c5, rfl, rfl, rfl, met_a hb9 hR1.out hR5.out⟩
            | exact ⟨A1, n1, c1, _, A5, n5, c5, rfl, rfl, rfl, met_b hb9 hR1.out hR5.out⟩
        case rest =>
          obtain ⟨A1, n1, c1, g9, A5, n5, c5, rfl, rfl, rfl, hcut⟩ := hcut
          obtain ⟨hbc, hg9, k9, hR1, hR5⟩ := hcut.out
          have HRC := hid (HRI.out.below hbc)
          have e0 := HC.out _ hbc _ _ g0
          have e1 := HC.out _ hbc _ _ g1
          have e2 := HC.out _ hbc _ _ g2
          have e3 := HC.out _ hbc _ _ g3
          have e4 := HC.out _ hbc _ _ g4
          have e5 := HC.out _ hbc _ _ g5
          have e6 := HC.out _ hbc _ _ g6
          have hbcs := hbc.size
          have hbc2 : b < wc.heap.size := by omega
          have hne : ¬ g9 = w1.heap.size := by omega
          have hne2 : ¬ g9 = w1.heap.size + 1 := by omega
          clear y3 y4 s30 s31 s32 s40 s41 s42 g0 g1 g2 g3 g4 g5 g6 PE hcut
          have y3 := blk_lt HRC.out.k3
          have y4 := blk_lt HRC.out.k4
          obtain ⟨s30, s31, s32, f30, f31, f32⟩ := blk3 HRC.out.k3
          obtain ⟨s40, s41, s42, f40, f41, f42⟩ := blk3 HRC.out.k4
          by_cases hE : enE q0 t0 ss X = 0
          case neg =>
            obtain ⟨x1, x2, x3, x4⟩ := en_not hE
            rw [x1] at hR1
            rw [x2, x3] at k9
            rw [x4] at hR5
            clear x1 x2 x3 x4
            generalize enE q0 t0 ss X = E at *
            obtain rfl : n1 = 0 := hR1.len
            have y9 := blk_lt k9
            obtain ⟨s90, s91, s92, -, -, -⟩ := blk3 k9
            have PT := hid (RSame7 (q0 := q0) (t0 := t0) (q1 := q0) (t1 := t0) (c := c3) (c' := c5) HRC.out.r3 hR5 (by have := HRC.out.r3.len; have := HN.out.1; omega))
            rw [show decide (q0 = q0 ∧ t0 = t0 ∧ ss = ss) = true by simp] at PT
            have HR1 := hid hR1
            have HR5 := hid hR5
            have HK9 := hid k9
            clear hR1 hR5 k9
            go_wp2_with fail
            refine PT.out.mono ?_
            rintro e w5 ⟨rfl, hb5⟩
            go_wp2_with fail
            exact ⟨⟨j + 1, q0, t0, ss, A3, n3, c3, A4, n4, c4, KL, by omega, by go_num, by omega, hrc, hid (HRC.out.below hb5)⟩, by simp [intOf]; omega⟩
          case pos =>
            obtain ⟨hr2, hf, x1, x2, x3, x4⟩ := en_zero hE
            have ok := fl_ok hr2 hf
            have HL := hid (sp_len ok)
            have HRN := hid (rc_next hr2 hf)
            have HNX := hid (rc_names HRN.out)
            have HSB := hid (sp_bytes q0 t0 ss X)
            rw [x1] at hR1
            rw [x2, x3] at k9
            rw [x4] at hR5
            have PD := hid (fun (w9 : World) (hA : Rs w9 A4 n4 c4 ss) (hB : Rw w9 A1 n1 c1 (spB q0 t0 ss X)) => Decode_any q0 t0 HN.out.2.2 (cp := c4) hA (by have := hA.len; have := HN.out.1; omega) hB HSB.out (by have := hB.len; have := HL.out.2.2.2.1; omega))
            unfold Decs at PD
            obtain ⟨d1, d2, d3, d4, d5⟩ := de_is hE
            rw [d1, d2, d3, d4, d5] at PD
            unfold evV at PD
            clear x1 x2 x3 x4 d1 d2 d3 d4 d5 hr2 hf ok
            have hn1 := hR1.len
            have HR1 := hid hR1
            have HR5 := hid hR5
            have HK9 := hid k9
            have PP := hid (fun (w9 : World) (h : Below wc.heap.size wc w9) => RPlace_any (c := c3) (HRC.out.r3.below h).1 (by have := HRC.out.r3.len; have := HN.out.1; unfold maxLen; omega) X.s)
            have y9 := blk_lt k9
            obtain ⟨s90, s91, s92, -, -, -⟩ := blk3 k9
            obtain ⟨i0, hi0, hz0, hz1, hz2⟩ := info_parts ev7_parts
            have hL1 : plc X.s ss ≠ 0 → n1 ≤ 28 := fun h => by have := HL.out.2.1 h; omega
            have hL2 : plc X.s ss = 0 → ns ≤ n1 := fun h => by have := HL.out.2.2.1 h; have := HNS.out; omega
            generalize plc X.s ss = pl at *
            generalize flL ss X = FL at *
            generalize spB q0 t0 ss X = SP at *
            clear hR1 hR5 k9 hn1
            rw [hE]
            clear hE
            by_cases hp : pl = 0
            case pos =>
              have hl2 : ¬ (n1 : Int) < (ns : Int) := by have := hL2 hp; omega
              have hl3 : ¬ n1 < ns := by have := hL2 hp; omega
              have hl4 : decide ((n1 : Int) < (ns : Int)) = false := by simpa using hl3
              clear hL1 hL2
              subst hp
              go_wp2_with fail
              go_quiet ((go_at_call 11; exact Calls.quiet_of_same ((PP.out _ (belowN9 (Below.refl _ _))).mono fun _ _ h => ⟨h.1, h.2.symm⟩)))
              have HRD := hid (fun (n9 : Nat) => HRC.out.below (w' := wc.drewN n9) (belowN9 (Below.refl _ _)))
              go_wp2_with (at_builtin; refine wpList_pushZ rfl (.tmp 86) (.tmp 91) 38 rfl Try.underlying38 hi0 hz0 hz1 hz2 rfl (by decide) ev7_zero rfl (HRD.out _).o5 (HRD.out _).z5 rfl rfl ?_ ?c1 ?c2 ?c3 ?c4; intro v5 w6 hown6 hsp6 hgr6 hnz6 hat6; have HR6 := hid ((HRD.out _).push5 (x := X) hown6 hsp6 hgr6 hnz6 hat6); have HK6 := hid (grown_else hgr6 (HRD.out _).o5 HK9.out (by decide)); have HB6 := hid (HR1.out.nz hnz6 hgr6.size); have HL6 := hid (HR5.out.nz HNX.out.2.1 hnz6 hgr6.size); have h6s := hgr6.size; have y3 := blk_lt HR6.out.k3; have y4 := blk_lt HR6.out.k4; have y9 := blk_lt HK6.out; obtain ⟨s30, s31, s32, f30, f31, f32⟩ := blk3 HR6.out.k3; obtain ⟨s40, s41, s42, -, -, -⟩ := blk3 HR6.out.k4; obtain ⟨s90, s91, s92, -, -, -⟩ := blk3 HK6.out; clear hown6 hsp6 hgr6 hnz6 hat6)
              case c1 => simp [Value.oneCell']
              case c2 => unfold maxLen; omega
              case c3 => omega
              case c4 => exact blk_lt (HRD.out _).k4
              obtain ⟨w7, hW7⟩ : ∃ w9, w9 = ((w6.setCell ⟨w1.heap.size, 0, none⟩ (.int .i64 X.q)).setCell ⟨w1.heap.size, 1, none⟩ (.int .i64 X.t)).setCell ⟨w1.heap.size, 2, none⟩ (.slice A5 n5 c5) := ⟨_, rfl⟩
              rw [← hW7]
              have HR7 := hid (HR6.out.put3 HNX.out.2.1 HL6.out hW7)
              have S7 : Sto w1.heap.size w6 w7 := by rw [hW7]; exact sto3 _ _ _ _ _
              refine (PD.out _ HR7.out.r4 (HB6.out.lts HR6.out.k3 S7.lts)).mono ?_
              rintro e w8 ⟨⟨A6, n6, c6, rfl, hR6⟩, hb8⟩
              have HR8 := hid (HR7.out.below hb8)
              have HL8 := hid hR6
              clear hR6 S7 hW7 HB6 HL6 y3 y4 y9 s30 s31 s32 f30 f31 f32 s40 s41 s42 s90 s91 s92 e0 e1 e2 e3 e4 e5 e6
              have hal : Below w8.heap.size w8 ((w8.alloc (.cells #[.int .i64 X.q, .int .i64 X.t, .int .i64 X.k, .string X.s, .int .i64 X.a, .int .i64 X.b, .int .i64 X.c] 26)).alloc (.cells #[.int .i64 X.q, .int .i64 X.t, .slice A6 n6 c6] 24)) := ((Below.refl _ _).alloc (Nat.le_refl _) _).alloc (by simp) _
              have HR9 := hid (HR8.out.below hal)
              have HL9 := hid (HL8.out.below hal)
              have K13 := hid (show ((w8.alloc (.cells #[.int .i64 X.q, .int .i64 X.t, .int .i64 X.k, .string X.s, .int .i64 X.a, .int .i64 X.b, .int .i64 X.c] 26)).alloc (.cells #[.int .i64 X.q, .int .i64 X.t, .slice A6 n6 c6] 24)).heap[w8.heap.size + 1]? = some (.cells #[.int .i64 X.q, .int .i64 X.t, .slice A6 n6 c6] 24 (0, 0)) by have := heap_alloc_new (w8.alloc (.cells #[.int .i64 X.q, .int .i64 X.t, .int .i64 X.k, .string X.s, .int .i64 X.a, .int .i64 X.b, .int .i64 X.c] 26)) (.cells #[.int .i64 X.q, .int .i64 X.t, .slice A6 n6 c6] 24); rwa [World.size_alloc] at this)
              clear hal HL8
              go_wp2_with (at_builtin; refine wpList_pushZ rfl (.tmp 103) (.tmp 105) 38 rfl Try.underlying38 hi0 hz0 hz1 hz2 rfl (by decide) ev7_zero rfl HR9.out.o6 HR9.out.z6 (c := 1) (by simp only [World.size_alloc]; rfl) rfl ?_ ?d1 ?d2 ?d3 ?d4; intro v6 w9 hown6 hsp6 hgr6 hnz6 hat6; have HR10 := hid (HR9.out.push6 (x := X) hown6 hsp6 hgr6 hnz6 hat6); have HK10 := hid (grown_else hgr6 HR9.out.o6 K13.out (by decide)); have HL10 := hid (HL9.out.nz HNX.out.2.1 hnz6 hgr6.size); have y3 := blk_lt HR10.out.k3; have y4 := blk_lt HR10.out.k4; have y9 := blk_lt HK10.out; obtain ⟨s40, s41, s42, f40, f41, f42⟩ := blk3 HR10.out.k4; obtain ⟨s90, s91, s92, -, -, -⟩ := blk3 HK10.out; clear hown6 hsp6 hgr6 hnz6 hat6)
              case d1 => simp [Value.oneCell']
              case d2 => unfold maxLen; omega
              case d3 => omega
              case d4 => exact blk_lt HR9.out.k4
              exact ⟨⟨j + 1, X.q, X.t, FL, A5, n5, c5, A6, n6, c6, KL ++ [X], by omega, by go_num, by simp; omega, HRN, hid (HR10.out.put4 HNX.out.2.1 HL10.out rfl)⟩, by simp [intOf]; omega⟩
            case neg =>
              have hq1 : (0 : Int) < (pl : Int) := by omega
              have hq2 : decide ((0 : Int) < (pl : Int)) = true := by simp; omega
              have hq3 : 0 < pl := by omega
              have hl2 : ¬ (32 : Int) < (n1 : Int) := by have := hL1 hp; omega
              have hl3 : ¬ 32 < n1 := by have := hL1 hp; omega
              have hl4 : decide ((32 : Int) < (n1 : Int)) = false := by simp; omega
              clear hL1 hL2 hp
              go_wp2_with fail
              go_quiet ((go_at_call 11; exact Calls.quiet_of_same ((PP.out _ (belowN9 (Below.refl _ _))).mono fun _ _ h => ⟨h.1, h.2.symm⟩)))
              have HRD := hid (fun (n9 : Nat) => HRC.out.below (w' := wc.drewN n9) (belowN9 (Below.refl _ _)))
              go_wp2_with (at_builtin; refine wpList_pushZ rfl (.tmp 86) (.tmp 91) 38 rfl Try.underlying38 hi0 hz0 hz1 hz2 rfl (by decide) ev7_zero rfl (HRD.out _).o5 (HRD.out _).z5 rfl rfl ?_ ?c1 ?c2 ?c3 ?c4; intro v5 w6 hown6 hsp6 hgr6 hnz6 hat6; have HR6 := hid ((HRD.out _).push5 (x := X) hown6 hsp6 hgr6 hnz6 hat6); have HK6 := hid (grown_else hgr6 (HRD.out _).o5 HK9.out (by decide)); have HB6 := hid (HR1.out.nz hnz6 hgr6.size); have HL6 := hid (HR5.out.nz HNX.out.2.1 hnz6 hgr6.size); have h6s := hgr6.size; have y3 := blk_lt HR6.out.k3; have y4 := blk_lt HR6.out.k4; have y9 := blk_lt HK6.out; obtain ⟨s30, s31, s32, f30, f31, f32⟩ := blk3 HR6.out.k3; obtain ⟨s40, s41, s42, -, -, -⟩ := blk3 HR6.out.k4; obtain ⟨s90, s91, s92, -, -, -⟩ := blk3 HK6.out; clear hown6 hsp6 hgr6 hnz6 hat6)
              case c1 => simp [Value.oneCell']
              case c2 => unfold maxLen; omega
              case c3 => omega
              case c4 => exact blk_lt (HRD.out _).k4
              obtain ⟨w7, hW7⟩ : ∃ w9, w9 = ((w6.setCell ⟨w1.heap.size, 0, none⟩ (.int .i64 X.q)).setCell ⟨w1.heap.size, 1, none⟩ (.int .i64 X.t)).setCell ⟨w1.heap.size, 2, none⟩ (.slice A5 n5 c5) := ⟨_, rfl⟩
              rw [← hW7]
              have HR7 := hid (HR6.out.put3 HNX.out.2.1 HL6.out hW7)
              have S7 : Sto w1.heap.size w6 w7 := by rw [hW7]; exact sto3 _ _ _ _ _
              refine (PD.out _ HR7.out.r4 (HB6.out.lts HR6.out.k3 S7.lts)).mono ?_
              rintro e w8 ⟨⟨A6, n6, c6, rfl, hR6⟩, hb8⟩
              have HR8 := hid (HR7.out.below hb8)
              have HL8 := hid hR6
              clear hR6 S7 hW7 HB6 HL6 y3 y4 y9 s30 s31 s32 f30 f31 f32 s40 s41 s42 s90 s91 s92 e0 e1 e2 e3 e4 e5 e6
              have hal : Below w8.heap.size w8 ((w8.alloc (.cells #[.int .i64 X.q, .int .i64 X.t, .int .i64 X.k, .string X.s, .int .i64 X.a, .int .i64 X.b, .int .i64 X.c] 26)).alloc (.cells #[.int .i64 X.q, .int .i64 X.t, .slice A6 n6 c6] 24)) := ((Below.refl _ _).alloc (Nat.le_refl _) _).alloc (by simp) _
              have HR9 := hid (HR8.out.below hal)
              have HL9 := hid (HL8.out.below hal)
              have K13 := hid (show ((w8.alloc (.cells #[.int .i64 X.q, .int .i64 X.t, .int .i64 X.k, .string X.s, .int .i64 X.a, .int .i64 X.b, .int .i64 X.c] 26)).alloc (.cells #[.int .i64 X.q, .int .i64 X.t, .slice A6 n6 c6] 24)).heap[w8.heap.size + 1]? = some (.cells #[.int .i64 X.q, .int .i64 X.t, .slice A6 n6 c6] 24 (0, 0)) by have := heap_alloc_new (w8.alloc (.cells #[.int .i64 X.q, .int .i64 X.t, .int .i64 X.k, .string X.s, .int .i64 X.a, .int .i64 X.b, .int .i64 X.c] 26)) (.cells #[.int .i64 X.q, .int .i64 X.t, .slice A6 n6 c6] 24); rwa [World.size_alloc] at this)
              clear hal HL8
              go_wp2_with (at_builtin; refine wpList_pushZ rfl (.tmp 103) (.tmp 105) 38 rfl Try.underlying38 hi0 hz0 hz1 hz2 rfl (by decide) ev7_zero rfl HR9.out.o6 HR9.out.z6 (c := 1) (by simp only [World.size_alloc]; rfl) rfl ?_ ?d1 ?d2 ?d3 ?d4; intro v6 w9 hown6 hsp6 hgr6 hnz6 hat6; have HR10 := hid (HR9.out.push6 (x := X) hown6 hsp6 hgr6 hnz6 hat6); have HK10 := hid (grown_else hgr6 HR9.out.o6 K13.out (by decide)); have HL10 := hid (HL9.out.nz HNX.out.2.1 hnz6 hgr6.size); have y3 := blk_lt HR10.out.k3; have y4 := blk_lt HR10.out.k4; have y9 := blk_lt HK10.out; obtain ⟨s40, s41, s42, f40, f41, f42⟩ := blk3 HR10.out.k4; obtain ⟨s90, s91, s92, -, -, -⟩ := blk3 HK10.out; clear hown6 hsp6 hgr6 hnz6 hat6)
              case d1 => simp [Value.oneCell']
              case d2 => unfold maxLen; omega
              case d3 => omega
              case d4 => exact blk_lt HR9.out.k4
              exact ⟨⟨j + 1, X.q, X.t, FL, A5, n5, c5, A6, n6, c6, KL ++ [X], by omega, by go_num, by simp; omega, HRN, hid (HR10.out.put4 HNX.out.2.1 HL10.out rfl)⟩, by simp [intOf]; omega⟩
end Go.Proofs.Ytgijhfdlecdijaa
