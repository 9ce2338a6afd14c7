/- The walk of SegmentRight. -/
import Derived.Test.YtondnbnaoacanaaGreatDoorEnvJ
import Derived.Test.YtondnbnaoacanaaGreatDoorSegA
import Derived.Test.YtondnbnaoacanaaGreatDoorSegC
import Derived.Test.YtondnbnaoacanaaGreatDoorSegI
import Derived.Test.YtondnbnaoacanaaGreatDoorSegK
import Derived.Deep.DeepCutAuto
import Derived.BigQuiet
namespace Go.Proofs.YtondnbnaoacanaaGreatDoor
open Go.ChangeShapes Go.WideShapes Go.ChangeAt Go.RowKit Go.Deep Fb Go.Maps

set_option maxRecDepth 100000 in
set_option maxHeartbeats 32000000 in
theorem en_len (q t : Int) (ss : List ByteArray) (x : Ev) : (enL q t ss x).length ≤ ss.length + 32 := by
  by_cases h : enE q t ss x = 0
  · obtain ⟨hr, hf, -, -, -, e⟩ := en_zero h
    rw [e]
    have h1 : (flL ss x).length ≤ 32 := (rc_nms (rc_next hr hf)).1
    omega
  · rw [(en_not h).2.2.2]
    omega
theorem hpwB {w w1 : World} (h : Pw w) (hb : Below w.heap.size w w1) : Pw w1 := h.below hb

set_option maxRecDepth 100000 in
set_option maxHeartbeats 32000000 in
theorem right_walk (m q t : Int) {A : Option Addr} {n cp : Nat} {ss : List ByteArray} {AL : Option Addr} {cl : Nat} {l : List Ev} (k : Int) (sd : Bool) {AM : Option Addr} {nM cM : Nat} {zm : List Int} (w : World)
    (hm0 : -9223372036854775808 ≤ m ∧ m ≤ 9223372036854775807) (hk0 : k ≤ 9223372036854775807) (hR : Rs w A n cp ss)
    (hS : Se w w.heap.size AL l) (hcl : l.length ≤ cl) (hcm : cl ≤ maxLen) (hx : ∀ x ∈ l, x.s.size ≤ maxLen) (hM : Rw w AM nM cM zm) (hbm : Bytes zm) (hpw : Pw w) :
    Calls Tryz.prog 3 #[.int .i64 m, .agg #[.int .i64 q, .int .i64 t, .slice A n cp], .slice AL l.length cl, .int .i64 k, .bool sd, .slice AM nM cM] w fun e w' => e = .returned (.bool true) ∧ Below w.heap.size w w' := by
  have hbA : Below w.heap.size w (w.alloc (.cells #[.int .i64 q, .int .i64 t, .slice A n cp] 24)) := (Below.refl _ _).alloc (Nat.le_refl _) _
  have PA := hid (awake9 (hpw.below hbA))
  have HR := hid hR
  have HS := hid hS
  have HM := hid hM
  have HX := hid hx
  have HBM := hid hbm
  have HPW := hid hpw
  have PF := hid (fun (w1 : World) (h : Below w.heap.size w w1) => few_any q t (cp := cp) (cl := cl) (Nat.le_trans hcl hcm) (hR.below h) ((hS.below h).up h.size))
  clear hR hS hM hpw hx hbm
  unfold maxLen at hcm
  cases hfw : fwB ss l with
  | false =>
    rw [hfw] at PF
    go_enter Tryz.func3, Tryz.ntmps3
    go_wp2_with fail
    refine PA.out.mono ?_
    rintro e w1 ⟨rfl, hb1⟩
    have hbw1 : Below w.heap.size w w1 := hbA.trans (hb1.mono hbA.size)
    have K1 := hid ((hb1.block w.heap.size (by simp)).trans (heap_alloc_new w _))
    have z1 := blk_lt K1.out
    obtain ⟨p10, p11, p12, f10, f11, f12⟩ := blk3 K1.out
    clear hb1
    go_wp2_with fail
    refine (PF.out _ hbw1).mono ?_
    rintro e w2 ⟨rfl, hb2⟩
    have hbw2 : Below w.heap.size w w2 := hbw1.trans (hb2.mono hbw1.size)
    go_wp2_with fail
    go_ret
    exact ⟨rfl, hbw2⟩
  | true =>
    rw [hfw] at PF
    obtain ⟨hx1, hsh, hl60⟩ := fw_ok hfw
    by_cases h300 : 3000 < nM
    · have d3 : decide ((3000 : Int) < (nM : Int)) = true := decide_eq_true (by omega)
      go_enter Tryz.func3, Tryz.ntmps3
      go_wp2_with fail
      refine PA.out.mono ?_
      rintro e w1 ⟨rfl, hb1⟩
      have hbw1 : Below w.heap.size w w1 := hbA.trans (hb1.mono hbA.size)
      have K1 := hid ((hb1.block w.heap.size (by simp)).trans (heap_alloc_new w _))
      have z1 := blk_lt K1.out
      obtain ⟨p10, p11, p12, f10, f11, f12⟩ := blk3 K1.out
      clear hb1
      go_wp2_with fail
      refine (PF.out _ hbw1).mono ?_
      rintro e w2 ⟨rfl, hb2⟩
      have hbw2 : Below w.heap.size w w2 := hbw1.trans (hb2.mono hbw1.size)
      go_wp2_with fail
      go_ret
      exact ⟨rfl, hbw2⟩
    · have d3000 : decide ((3000 : Int) < (nM : Int)) = false := decide_eq_false (by omega)
      have hok := (shB_ok hsh).1
      have hn60 : n ≤ 60 := by have := HR.out.len; have := (shB_ok hsh).2.1; omega
      have hn6 : n ≤ 1000000 := by omega
      obtain ⟨L, hL⟩ : ∃ L, l.length = L := ⟨_, rfl⟩
      have PR := hid (fun (w1 : World) (h : Below w.heap.size w w1) => RRight7 q t (HR.out.below h) hn6)
      have PY := hid (fun (w1 : World) => RMay_any m w1)
      have PH := hid (fun (w1 : World) (h : Below w.heap.size w w1) => SHead_any m q t (cp := cp) hok (HR.out.below h))
      have PZ := hid (fun (w1 : World) (h : Below w.heap.size w w1) => SSeal_any k q t hk0 (cp := cp) hok (HR.out.below h))
      have PD := hid (fun (w1 : World) (h : Below w.heap.size w w1) (x : Ev) (hx : x.s.size ≤ maxLen) => Add_any q t (cp := cp) hok x.q x.t x.k x.a x.b x.c hx (HR.out.below h) hn6)
      have PE := hid (fun (w1 : World) (h : Below w.heap.size w w1) (x : Ev) => RAdd9 q t (cp := cp) x.q x.t x.k x.a x.b x.c x.s (HR.out.below h) hn6)
      have PM := hid (fun (w1 : World) (h : Below w.heap.size w w1) => Make_any m q t (cp := cp) hok (cl := cl) HX.out (by omega) sd (HR.out.below h) ((HS.out.below h).up h.size))
      have PN := hid (fun (w1 : World) (h : Below w.heap.size w w1) => RMake_any m q t (cp := cp) hn6 (cl := cl) (by omega) sd (HR.out.below h) ((HS.out.below h).up h.size))
      have PX := hid (fun (w1 : World) (h : Below w.heap.size w w1) => Read_any (HM.out.below h) HBM.out (by have := HM.out.len; omega))
      have PW := hid (fun (w1 : World) (h : Below w.heap.size w w1) => RRead_any (HM.out.below h) HBM.out (by have := HM.out.len; omega))
      have PQ := hid (fun (w1 : World) (h : Below w.heap.size w w1) => Name_any m (hpwB HPW.out h))
      unfold SgR at PH PZ PM PN
      unfold AdR at PD PE
      unfold ReadR at PX PW
      have HL := hid hL
      have HLN := hid HR.out.len
      rw [hL] at PF PM PN hl60 hcl ⊢
      clear hfw hsh hx1 hL
      go_enter Tryz.func3, Tryz.ntmps3
      go_wp2_with fail
      refine PA.out.mono ?_
      rintro e w1 ⟨rfl, hb1⟩
      have hbw1 : Below w.heap.size w w1 := hbA.trans (hb1.mono hbA.size)
      have K1 := hid ((hb1.block w.heap.size (by simp)).trans (heap_alloc_new w _))
      have z1 := blk_lt K1.out
      obtain ⟨p10, p11, p12, f10, f11, f12⟩ := blk3 K1.out
      clear hb1
      go_wp2_with fail
      refine (PF.out _ hbw1).mono ?_
      rintro e w2 ⟨rfl, hb2⟩
      have hbw2 : Below w.heap.size w w2 := hbw1.trans (hb2.mono hbw1.size)
      have K2 := hid ((hb2.block _ z1).trans K1.out)
      clear z1 p10 p11 p12 f10 f11 f12 K1 hb2 PA PF
      have z1 := blk_lt K2.out
      obtain ⟨p10, p11, p12, f10, f11, f12⟩ := blk3 K2.out
      go_wp2_with fail
      refine (PR.out _ hbw2).mono ?_
      rintro e w3 ⟨rfl, hb3⟩
      have hbw3 : Below w.heap.size w w3 := hbw2.trans (hb3.mono hbw2.size)
      have K3 := hid ((hb3.block _ z1).trans K2.out)
      clear z1 p10 p11 p12 f10 f11 f12 K2 hb3 PR
      have z1 := blk_lt K3.out
      obtain ⟨p10, p11, p12, f10, f11, f12⟩ := blk3 K3.out
      go_wp2_with fail
      refine (PY.out _).mono ?_
      rintro e w4 ⟨rfl, hb4⟩
      subst hb4
      obtain ⟨MY, hMY⟩ : ∃ b, mayB m = b := ⟨_, rfl⟩
      obtain ⟨RC, hRC⟩ : ∃ b, rcB q t ss = b := ⟨_, rfl⟩
      rw [hMY, hRC]
      have HMY := hid hMY
      have HRC := hid hRC
      clear hMY hRC PY
      go_upto_if 41 with fail
      go_cut [15] (fun s15 wx => s15 = .string (nmS m) ∧ Hid (Below w.heap.size w wx ∧ wx.heap[w.heap.size]? = some (.cells #[.int .i64 q, .int .i64 t, .slice A n cp] 24 (0, 0))))
      case first =>
        cases MY with
        | false =>
          have hnm : nmS m = ⟨#[]⟩ := by unfold nmS; rw [HMY.out]; rfl
          go_wp2_with fail
          go_meet
          exact ⟨by rw [hnm], hid ⟨hbw3, K3.out⟩⟩
        | true =>
          obtain ⟨a1, a2⟩ := mayB_iff.1 HMY.out
          obtain ⟨mn, rfl⟩ : ∃ x : Nat, m = (x : Int) := ⟨m.toNat, by omega⟩
          have P9 := hid (RName_any (m := mn) (by omega) (by omega) w3)
          go_wp2_with fail
          refine P9.out.mono ?_
          rintro e w4 ⟨rfl, hb4⟩
          have hc := hid (show Below w.heap.size w w4 ∧ w4.heap[w.heap.size]? = some (.cells #[.int .i64 q, .int .i64 t, .slice A n cp] 24 (0, 0)) from ⟨hbw3.trans (hb4.mono hbw3.size), (hb4.block _ z1).trans K3.out⟩)
          go_wp2_with fail
          go_meet
          exact ⟨rfl, hc⟩
      case rest =>
        obtain ⟨rfl, hcut⟩ := hcut
        clear z1 p10 p11 p12 f10 f11 f12 K3 hbw3
        have hbw := hcut.out.1
        have K := hid hcut.out.2
        clear hcut
        have z1 := blk_lt K.out
        obtain ⟨p10, p11, p12, f10, f11, f12⟩ := blk3 K.out
        go_wp2_with fail
        refine (PH.out _ hbw).mono ?_
        rintro e w5 ⟨⟨v5, rfl, hown5, -⟩, hb5⟩
        obtain ⟨A5, c5, rfl, hR5, -⟩ := own_rw hown5
        have HR5 := hid hR5
        have hbw5 : Below w.heap.size w w5 := hbw.trans (hb5.mono hbw.size)
        have K5 := hid ((hb5.block _ z1).trans K.out)
        clear z1 p10 p11 p12 f10 f11 f12 K hb5 hown5 hR5 PH hbw
        have z1 := blk_lt K5.out
        obtain ⟨p10, p11, p12, f10, f11, f12⟩ := blk3 K5.out
        obtain ⟨D, hD⟩ : ∃ b, hqOk m ⟨q, t, ss⟩ = b := ⟨_, rfl⟩
        have HD := hid hD
        obtain ⟨E5, hE5⟩ : ∃ b, hqE m ⟨q, t, ss⟩ = b := ⟨_, rfl⟩
        obtain ⟨Y5, hY5⟩ : ∃ b, hqB m ⟨q, t, ss⟩ = b := ⟨_, rfl⟩
        rw [hY5] at HR5
        rw [hE5, hY5]
        have HE5 := hid hE5
        have HY5 := hid hY5
        clear hD hE5 hY5
        go_upto_region 10 with fail
        go_cut [59] (fun s59 wx => s59 = .bool D ∧ wx = w5)
        case first =>
          cases MY with
          | false =>
            obtain rfl : D = false := by rw [← HD.out]; unfold hqOk; rw [HMY.out]; rfl
            go_wp2_with fail
            go_meet
            exact ⟨rfl, rfl⟩
          | true =>
            cases RC with
            | false =>
              obtain rfl : D = false := by rw [← HD.out]; unfold hqOk Ahd.rc; simp only; rw [HMY.out, HRC.out]; rfl
              go_wp2_with fail
              go_meet
              exact ⟨rfl, rfl⟩
            | true =>
              obtain rfl : D = decide (n = 0) := by
                rw [← HD.out]; unfold hqOk Ahd.rc; simp only; rw [HMY.out, HRC.out]
                have := HLN.out
                cases ss with
                | nil => rw [decide_eq_true (by simpa using this)]; rfl
                | cons a l => rw [decide_eq_false (by rw [this]; simp)]; rfl
              have hdn : decide ((n : Int) = 0) = decide (n = 0) := by simp
              go_wp2_with fail
              go_meet
              exact ⟨congrArg Value.bool (by rw [Bool.eq_iff_iff, beq_iff_eq, decide_eq_true_eq]; omega), rfl⟩
        case rest =>
          obtain ⟨rfl, rfl⟩ := hcut
          go_upto_if 59 with fail
          go_cut [] (fun wx => Hid (Below w.heap.size w wx ∧ wx.heap[w.heap.size]? = some (.cells #[.int .i64 q, .int .i64 t, .slice A n cp] 24 (0, 0))))
          case first =>
           as_aux_lemma =>
            cases D with
            | false =>
              obtain rfl : E5 = 1 := by rw [← HE5.out]; exact (hq_no HD.out).1
              obtain rfl : Y5 = [] := by rw [← HY5.out]; exact (hq_no HD.out).2
              go_wp2_with fail
              go_meet
              exact hid ⟨hbw5, K5.out⟩
            | true =>
              obtain rfl : E5 = 0 := by rw [← HE5.out]; exact (hq_yes HD.out).1
              obtain rfl : Y5 = sgH m ⟨q, t, ss⟩ := by rw [← HY5.out]; exact (hq_yes HD.out).2
              obtain ⟨hmy, hrc, hnil⟩ := hq_iff.1 HD.out
              simp only at hnil
              subst hnil
              have PH9 := hid (fun w9 => RHead9 m q t (A := A) (n := n) (cp := cp) hmy hrc w9)
              unfold PutsU at PH9
              generalize sgH m ⟨q, t, []⟩ = SG at *
              go_upto_region 11 with fail
              refine wp_region_env (A := fun vs => { tmps := #[Value.int IntKind.i64 m, Value.agg #[Value.int IntKind.i64 q, Value.int IntKind.i64 t, Value.slice A n cp], Value.slice AL L cl, Value.int IntKind.i64 k, Value.bool sd, Value.slice AM nM cM, undef, Value.pointer (some { block := w.heap.size, off := 0 }), undef, undef, undef, undef, Value.bool false, Value.bool RC, Value.bool MY, Value.string (nmS m), Value.slice A5 SG.length c5, Value.int IntKind.i64 0, undef, undef, undef, undef, undef, undef, undef, undef, u26, u27, u28, u29, u30, u31, u32, u33, u34, u35, u36, u37, u38, u39, u40, u41, u42, u43, u44, u45, u46, u47, u48, u49, u50, u51, u52, u53, u54, u55, u56, u57, u58, Value.bool true, vs 0, vs 1, vs 2, vs 3, vs 4, vs 5, vs 6, vs 7, vs 8, vs 9, vs 10, u71, u72, u73, u74, u75, u76, u77, u78, u79, u80, u81, u82, u83, u84, u85, u86, u87, u88, u89, u90, u91, u92, u93, u94, u95, u96, u97, u98, u99, u100, u101, u102, u103, u104, u105, u106, u107, u108, u109, u110, u111, u112, u113, u114, u115, u116, u117, u118, u119, u120, u121, u122, u123, u124, u125, u126, u127, u128, u129, u130, u131, u132, u133, u134, u135, u136, u137, u138, u139, u140, u141, u142, u143, u144, u145, u146, u147, u148, u149, u150, u151, u152, u153, u154, u155, u156, u157, u158, u159, u160, u161, u162, u163, u164, u165, u166, u167, u168, u169, u170, u171, u172, u173, u174, u175, u176, u177, u178, u179, u180, u181, u182], defers := [] }) (E := fun i yv wq => match i with | 0 => yv = .int .i64 0 | 1 => yv = .bool false | 2 => yv = .bool false | 3 => yv = .slice A5 SG.length c5 | 4 => yv = .string (strOfNums SG) | 5 => yv = .int .i64 m | 6 => yv = .agg #[.int .i64 q, .int .i64 t, .slice A n cp] | 7 => ∃ A4 n4 c4, yv = .slice A4 n4 c4 ∧ Rw wq A4 n4 c4 SG | 8 => yv = .string (strOfNums SG) | 9 => yv = .bool false | 10 => yv = .bool false | _ => True) (C := fun wq => Below wc.heap.size wc wq) (Ext := fun a b => Below a.heap.size a b) (fun i => match i with | 0 => u60 | 1 => u61 | 2 => u62 | 3 => u63 | 4 => u64 | 5 => u65 | 6 => u66 | 7 => u67 | 8 => u68 | 9 => u69 | 10 => u70 | _ => undef) (by kernel_rfl) (by rfl) ?hC ?hstep ?hstab (low_of (by kernel_rfl)) ?hend
              case hC => exact Below.drew (Below.refl _ _)
              case hstab =>
                intro i yv wa wb hx h
                match i, h with
                | 0, h => exact h
                | 1, h => exact h
                | 2, h => exact h
                | 3, h => exact h
                | 4, h => exact h
                | 5, h => exact h
                | 6, h => exact h
                | 7, h => exact (by obtain ⟨A4, n4, c4, h1, h2⟩ := h; exact ⟨A4, n4, c4, h1, h2.below hx⟩)
                | 8, h => exact h
                | 9, h => exact h
                | 10, h => exact h
                | (_ + 11), _ => trivial
              case hstep =>
                intro i o ho
                match i, ho with
                | 0, ho =>
                  obtain rfl := Option.some.inj (show some _ = some o from ho)
                  intro vs wq hC hE K hK
                  go_simp
                  have hh := hK.out (.int .i64 0) wq rfl (Below.refl _ _) hC
                  simp only [upd, Nat.reduceEqDiff, ↓reduceIte] at hh
                  exact hh
                | 1, ho =>
                  obtain rfl := Option.some.inj (show some _ = some o from ho)
                  intro vs wq hC hE K hK
                  obtain d0 : vs 0 = .int .i64 0 := hE { on := 0, ground := Ground.data } (by simp) rfl
                  go_simp
                  have hh := hK.out (.bool false) wq rfl (Below.refl _ _) hC
                  simp only [upd, Nat.reduceEqDiff, ↓reduceIte, d0] at hh
                  exact hh
                | 2, ho =>
                  obtain rfl := Option.some.inj (show some _ = some o from ho)
                  intro vs wq hC hE K hK
                  obtain d1 : vs 1 = .bool false := hE { on := 1, ground := Ground.data } (by simp) rfl
                  go_simp
                  have hh := hK.out (.bool false) wq rfl (Below.refl _ _) hC
                  simp only [upd, Nat.reduceEqDiff, ↓reduceIte, d1] at hh
                  exact hh
                | 3, ho =>
                  obtain rfl := Option.some.inj (show some _ = some o from ho)
                  intro vs wq hC hE K hK
                  obtain d2 : vs 2 = .bool false := hE { on := 2, ground := Ground.guard } (by simp) rfl
                  go_simp
                  have hh := hK.out (.slice A5 SG.length c5) wq rfl (Below.refl _ _) hC
                  simp only [upd, Nat.reduceEqDiff, ↓reduceIte, d2] at hh
                  exact hh
                | 4, ho =>
                  obtain rfl := Option.some.inj (show some _ = some o from ho)
                  intro vs wq hC hE K hK
                  obtain d3 : vs 3 = .slice A5 SG.length c5 := hE { on := 3, ground := Ground.data } (by simp) rfl
                  obtain d2 : vs 2 = .bool false := hE { on := 2, ground := Ground.guard } (by simp) rfl
                  have cv := conv8 c5 (HR5.out.below hC).1
                  go_simp
                  have hh := hK.out (.string (strOfNums SG)) wq rfl (Below.refl _ _) hC
                  simp only [upd, Nat.reduceEqDiff, ↓reduceIte, d2, d3] at hh
                  exact hh
                | 5, ho =>
                  obtain rfl := Option.some.inj (show some _ = some o from ho)
                  intro vs wq hC hE K hK
                  obtain d2 : vs 2 = .bool false := hE { on := 2, ground := Ground.guard } (by simp) rfl
                  go_simp
                  have hh := hK.out (.int .i64 m) wq rfl (Below.refl _ _) hC
                  simp only [upd, Nat.reduceEqDiff, ↓reduceIte, d2] at hh
                  exact hh
                | 6, ho =>
                  obtain rfl := Option.some.inj (show some _ = some o from ho)
                  intro vs wq hC hE K hK
                  obtain d2 : vs 2 = .bool false := hE { on := 2, ground := Ground.guard } (by simp) rfl
                  obtain ⟨e0, e1, e2, -, -, -⟩ := blk3 ((hC.block _ z1).trans K5.out)
                  go_simp
                  have hh := hK.out (.agg #[.int .i64 q, .int .i64 t, .slice A n cp]) wq rfl (Below.refl _ _) hC
                  simp only [upd, Nat.reduceEqDiff, ↓reduceIte, d2] at hh
                  exact hh
                | 7, ho =>
                  obtain rfl := Option.some.inj (show some _ = some o from ho)
                  intro vs wq hC hE K hK
                  obtain d5 : vs 5 = .int .i64 m := hE { on := 5, ground := Ground.data } (by simp) rfl
                  obtain d6 : vs 6 = .agg #[.int .i64 q, .int .i64 t, .slice A n cp] := hE { on := 6, ground := Ground.data } (by simp) rfl
                  obtain d2 : vs 2 = .bool false := hE { on := 2, ground := Ground.guard } (by simp) rfl
                  go_simp
                  go_at_call 10
                  refine (PH9.out wq).mono ?_
                  rintro e w9 ⟨⟨v9, rfl, hown, -⟩, hb9⟩
                  obtain ⟨A4, c4, rfl, hR4, -⟩ := own_rw hown
                  have hh := hK.out (.slice A4 _ c4) w9 ⟨A4, _, c4, rfl, hR4⟩ hb9 (hC.trans (hb9.mono hC.size))
                  simp only [upd, Nat.reduceEqDiff, ↓reduceIte, d2, d5, d6] at hh
                  exact hh
                | 8, ho =>
                  obtain rfl := Option.some.inj (show some _ = some o from ho)
                  intro vs wq hC hE K hK
                  obtain ⟨A4, n4, c4, d7, hR7⟩ : ∃ A4 n4 c4, vs 7 = .slice A4 n4 c4 ∧ Rw wq A4 n4 c4 SG := hE { on := 7, ground := Ground.data } (by simp) rfl
                  obtain d2 : vs 2 = .bool false := hE { on := 2, ground := Ground.guard } (by simp) rfl
                  have cv := conv8 c4 hR7.1
                  go_simp
                  have hh := hK.out (.string (strOfNums SG)) wq rfl (Below.refl _ _) hC
                  simp only [upd, Nat.reduceEqDiff, ↓reduceIte, d2, d7] at hh
                  exact hh
                | 9, ho =>
                  obtain rfl := Option.some.inj (show some _ = some o from ho)
                  intro vs wq hC hE K hK
                  obtain d4 : vs 4 = .string (strOfNums SG) := hE { on := 4, ground := Ground.data } (by simp) rfl
                  obtain d8 : vs 8 = .string (strOfNums SG) := hE { on := 8, ground := Ground.data } (by simp) rfl
                  obtain d2 : vs 2 = .bool false := hE { on := 2, ground := Ground.guard } (by simp) rfl
                  go_simp
                  have hh := hK.out (.bool false) wq rfl (Below.refl _ _) hC
                  simp only [upd, Nat.reduceEqDiff, ↓reduceIte, d2, d4, d8] at hh
                  exact hh
                | 10, ho =>
                  obtain rfl := Option.some.inj (show some _ = some o from ho)
                  intro vs wq hC hE K hK
                  obtain d2 : vs 2 = .bool false := hE { on := 2, ground := Ground.data } (by simp) rfl
                  obtain d9 : vs 9 = .bool false := hE { on := 9, ground := Ground.data } (by simp) rfl
                  go_simp
                  have hh := hK.out (.bool false) wq rfl (Below.refl _ _) hC
                  simp only [upd, Nat.reduceEqDiff, ↓reduceIte, d2, d9] at hh
                  exact hh
                | (_ + 11), ho => exact absurd ho (by simp)
              case hend =>
                intro va wq0 hC hE
                have r10 : va 10 = .bool false := hE 10 (by decide)
                have hbC := hid (show Below w.heap.size w wq0 ∧ wq0.heap[w.heap.size]? = some (.cells #[.int .i64 q, .int .i64 t, .slice A n cp] 24 (0, 0)) from ⟨hbw5.trans (hC.mono hbw5.size), (hC.block _ z1).trans K5.out⟩)
                clear hE HR5
                simp only [r10]
                go_wp2_with fail
                go_meet
                exact hbC
          case rest =>
            have hbw := hcut.out.1
            have K := hid hcut.out.2
            clear hcut
            have z1 := blk_lt K.out
            obtain ⟨p10, p11, p12, f10, f11, f12⟩ := blk3 K.out
            have hs5 := hbw.size
            go_wp2_with fail
            refine (PZ.out _ hbw).mono ?_
            rintro e w5 ⟨⟨v5, rfl, hown5, -⟩, hb5⟩
            obtain ⟨A5, c5, rfl, hR5, -⟩ := own_rw hown5
            have HR5 := hid hR5
            have hbw5 : Below w.heap.size w w5 := hbw.trans (hb5.mono hbw.size)
            have K5 := hid ((hb5.block _ z1).trans K.out)
            clear z1 p10 p11 p12 f10 f11 f12 K hb5 hown5 hR5 PZ hbw hs5
            have z1 := blk_lt K5.out
            obtain ⟨p10, p11, p12, f10, f11, f12⟩ := blk3 K5.out
            obtain ⟨D, hD⟩ : ∃ b, zqOk k ⟨q, t, ss⟩ = b := ⟨_, rfl⟩
            have HD := hid hD
            obtain ⟨E5, hE5⟩ : ∃ b, zqE k ⟨q, t, ss⟩ = b := ⟨_, rfl⟩
            obtain ⟨Y5, hY5⟩ : ∃ b, zqB k ⟨q, t, ss⟩ = b := ⟨_, rfl⟩
            rw [hY5] at HR5
            rw [hE5, hY5]
            have HE5 := hid hE5
            have HY5 := hid hY5
            clear hD hE5 hY5
            go_upto_region 16 with fail
            go_cut [88] (fun s88 wx => s88 = .bool D ∧ wx = w5)
            case first =>
              cases RC with
              | false =>
                obtain rfl : D = false := by rw [← HD.out]; unfold zqOk Ahd.rc; simp only; rw [HRC.out, Bool.and_false]
                go_wp2_with fail
                go_meet
                exact ⟨rfl, rfl⟩
              | true =>
                obtain rfl : D = decide (0 ≤ k) := by rw [← HD.out]; unfold zqOk Ahd.rc; simp only; rw [HRC.out, Bool.and_true]
                go_wp2_with fail
                go_meet
                exact ⟨rfl, rfl⟩
            case rest =>
              obtain ⟨rfl, rfl⟩ := hcut
              go_upto_if 88 with fail
              go_cut [] (fun wx => Hid (Below w.heap.size w wx ∧ wx.heap[w.heap.size]? = some (.cells #[.int .i64 q, .int .i64 t, .slice A n cp] 24 (0, 0))))
              case first =>
               as_aux_lemma =>
                cases D with
                | false =>
                  obtain rfl : E5 = 1 := by rw [← HE5.out]; exact (zq_no HD.out).1
                  obtain rfl : Y5 = [] := by rw [← HY5.out]; exact (zq_no HD.out).2
                  go_wp2_with fail
                  go_meet
                  exact hid ⟨hbw5, K5.out⟩
                | true =>
                  obtain rfl : E5 = 0 := by rw [← HE5.out]; exact (zq_yes HD.out).1
                  obtain rfl : Y5 = sgZ k.toNat ⟨q, t, ss⟩ := by rw [← HY5.out]; exact (zq_yes HD.out).2
                  obtain ⟨hk1, hrc⟩ : 0 ≤ k ∧ (⟨q, t, ss⟩ : Ahd).rc = true := by
                    have h := HD.out
                    unfold zqOk at h
                    rw [Bool.and_eq_true, decide_eq_true_eq] at h
                    exact h
                  obtain ⟨kn, rfl⟩ : ∃ x : Nat, k = (x : Int) := ⟨k.toNat, by omega⟩
                  rw [Int.toNat_natCast] at *
                  have PZ9 := hid (fun w9 => RSeal9 kn (by omega) q t (A := A) (n := n) (cp := cp) hrc w9)
                  unfold PutsU at PZ9
                  generalize sgZ kn ⟨q, t, ss⟩ = SG at *
                  go_upto_region 17 with fail
                  refine wp_region_env (A := fun vs => { tmps := #[Value.int IntKind.i64 m, Value.agg #[Value.int IntKind.i64 q, Value.int IntKind.i64 t, Value.slice A n cp], Value.slice AL L cl, Value.int IntKind.i64 ↑kn, Value.bool sd, Value.slice AM nM cM, undef, Value.pointer (some { block := w.heap.size, off := 0 }), undef, undef, undef, undef, u12, Value.bool RC, Value.bool MY, Value.string (nmS m), Value.slice A5 SG.length c5, Value.int IntKind.i64 0, undef, undef, undef, undef, undef, undef, undef, undef, u26, u27, u28, u29, u30, u31, u32, u33, u34, u35, u36, u37, u38, u39, u40, u41, u42, u43, u44, u45, u46, u47, u48, u49, u50, u51, u52, u53, u54, u55, u56, u57, u58, u59, u60, u61, u62, u63, u64, u65, u66, u67, u68, u69, u70, u71, u72, u73, u74, u75, u76, u77, u78, u79, u80, u81, u82, u83, u84, u85, u86, u87, Value.bool true, vs 0, vs 1, vs 2, vs 3, vs 4, vs 5, vs 6, vs 7, vs 8, vs 9, vs 10, u100, u101, u102, u103, u104, u105, u106, u107, u108, u109, u110, u111, u112, u113, u114, u115, u116, u117, u118, u119, u120, u121, u122, u123, u124, u125, u126, u127, u128, u129, u130, u131, u132, u133, u134, u135, u136, u137, u138, u139, u140, u141, u142, u143, u144, u145, u146, u147, u148, u149, u150, u151, u152, u153, u154, u155, u156, u157, u158, u159, u160, u161, u162, u163, u164, u165, u166, u167, u168, u169, u170, u171, u172, u173, u174, u175, u176, u177, u178, u179, u180, u181, u182], defers := [] }) (E := fun i yv wq => match i with | 0 => yv = .int .i64 0 | 1 => yv = .bool false | 2 => yv = .bool false | 3 => yv = .slice A5 SG.length c5 | 4 => yv = .string (strOfNums SG) | 5 => yv = .int .i64 (kn : Int) | 6 => yv = .agg #[.int .i64 q, .int .i64 t, .slice A n cp] | 7 => ∃ A4 n4 c4, yv = .slice A4 n4 c4 ∧ Rw wq A4 n4 c4 SG | 8 => yv = .string (strOfNums SG) | 9 => yv = .bool false | 10 => yv = .bool false | _ => True) (C := fun wq => Below wc.heap.size wc wq) (Ext := fun a b => Below a.heap.size a b) (fun i => match i with | 0 => u89 | 1 => u90 | 2 => u91 | 3 => u92 | 4 => u93 | 5 => u94 | 6 => u95 | 7 => u96 | 8 => u97 | 9 => u98 | 10 => u99 | _ => undef) (by kernel_rfl) (by rfl) ?hC ?hstep ?hstab (low_of (by kernel_rfl)) ?hend
                  case hC => exact Below.drew (Below.refl _ _)
                  case hstab =>
                    intro i yv wa wb hx h
                    match i, h with
                    | 0, h => exact h
                    | 1, h => exact h
                    | 2, h => exact h
                    | 3, h => exact h
                    | 4, h => exact h
                    | 5, h => exact h
                    | 6, h => exact h
                    | 7, h => exact (by obtain ⟨A4, n4, c4, h1, h2⟩ := h; exact ⟨A4, n4, c4, h1, h2.below hx⟩)
                    | 8, h => exact h
                    | 9, h => exact h
                    | 10, h => exact h
                    | (_ + 11), _ => trivial
                  case hstep =>
                    intro i o ho
                    match i, ho with
                    | 0, ho =>
                      obtain rfl := Option.some.inj (show some _ = some o from ho)
                      intro vs wq hC hE K hK
                      go_simp
                      have hh := hK.out (.int .i64 0) wq rfl (Below.refl _ _) hC
                      simp only [upd, Nat.reduceEqDiff, ↓reduceIte] at hh
                      exact hh
                    | 1, ho =>
                      obtain rfl := Option.some.inj (show some _ = some o from ho)
                      intro vs wq hC hE K hK
                      obtain d0 : vs 0 = .int .i64 0 := hE { on := 0, ground := Ground.data } (by simp) rfl
                      go_simp
                      have hh := hK.out (.bool false) wq rfl (Below.refl _ _) hC
                      simp only [upd, Nat.reduceEqDiff, ↓reduceIte, d0] at hh
                      exact hh
                    | 2, ho =>
                      obtain rfl := Option.some.inj (show some _ = some o from ho)
                      intro vs wq hC hE K hK
                      obtain d1 : vs 1 = .bool false := hE { on := 1, ground := Ground.data } (by simp) rfl
                      go_simp
                      have hh := hK.out (.bool false) wq rfl (Below.refl _ _) hC
                      simp only [upd, Nat.reduceEqDiff, ↓reduceIte, d1] at hh
                      exact hh
                    | 3, ho =>
                      obtain rfl := Option.some.inj (show some _ = some o from ho)
                      intro vs wq hC hE K hK
                      obtain d2 : vs 2 = .bool false := hE { on := 2, ground := Ground.guard } (by simp) rfl
                      go_simp
                      have hh := hK.out (.slice A5 SG.length c5) wq rfl (Below.refl _ _) hC
                      simp only [upd, Nat.reduceEqDiff, ↓reduceIte, d2] at hh
                      exact hh
                    | 4, ho =>
                      obtain rfl := Option.some.inj (show some _ = some o from ho)
                      intro vs wq hC hE K hK
                      obtain d3 : vs 3 = .slice A5 SG.length c5 := hE { on := 3, ground := Ground.data } (by simp) rfl
                      obtain d2 : vs 2 = .bool false := hE { on := 2, ground := Ground.guard } (by simp) rfl
                      have cv := conv8 c5 (HR5.out.below hC).1
                      go_simp
                      have hh := hK.out (.string (strOfNums SG)) wq rfl (Below.refl _ _) hC
                      simp only [upd, Nat.reduceEqDiff, ↓reduceIte, d2, d3] at hh
                      exact hh
                    | 5, ho =>
                      obtain rfl := Option.some.inj (show some _ = some o from ho)
                      intro vs wq hC hE K hK
                      obtain d2 : vs 2 = .bool false := hE { on := 2, ground := Ground.guard } (by simp) rfl
                      go_simp
                      have hh := hK.out (.int .i64 (kn : Int)) wq rfl (Below.refl _ _) hC
                      simp only [upd, Nat.reduceEqDiff, ↓reduceIte, d2] at hh
                      exact hh
                    | 6, ho =>
                      obtain rfl := Option.some.inj (show some _ = some o from ho)
                      intro vs wq hC hE K hK
                      obtain d2 : vs 2 = .bool false := hE { on := 2, ground := Ground.guard } (by simp) rfl
                      obtain ⟨e0, e1, e2, -, -, -⟩ := blk3 ((hC.block _ z1).trans K5.out)
                      go_simp
                      have hh := hK.out (.agg #[.int .i64 q, .int .i64 t, .slice A n cp]) wq rfl (Below.refl _ _) hC
                      simp only [upd, Nat.reduceEqDiff, ↓reduceIte, d2] at hh
                      exact hh
                    | 7, ho =>
                      obtain rfl := Option.some.inj (show some _ = some o from ho)
                      intro vs wq hC hE K hK
                      obtain d5 : vs 5 = .int .i64 (kn : Int) := hE { on := 5, ground := Ground.data } (by simp) rfl
                      obtain d6 : vs 6 = .agg #[.int .i64 q, .int .i64 t, .slice A n cp] := hE { on := 6, ground := Ground.data } (by simp) rfl
                      obtain d2 : vs 2 = .bool false := hE { on := 2, ground := Ground.guard } (by simp) rfl
                      go_simp
                      go_at_call 12
                      refine (PZ9.out wq).mono ?_
                      rintro e w9 ⟨⟨v9, rfl, hown, -⟩, hb9⟩
                      obtain ⟨A4, c4, rfl, hR4, -⟩ := own_rw hown
                      have hh := hK.out (.slice A4 _ c4) w9 ⟨A4, _, c4, rfl, hR4⟩ hb9 (hC.trans (hb9.mono hC.size))
                      simp only [upd, Nat.reduceEqDiff, ↓reduceIte, d2, d5, d6] at hh
                      exact hh
                    | 8, ho =>
                      obtain rfl := Option.some.inj (show some _ = some o from ho)
                      intro vs wq hC hE K hK
                      obtain ⟨A4, n4, c4, d7, hR7⟩ : ∃ A4 n4 c4, vs 7 = .slice A4 n4 c4 ∧ Rw wq A4 n4 c4 SG := hE { on := 7, ground := Ground.data } (by simp) rfl
                      obtain d2 : vs 2 = .bool false := hE { on := 2, ground := Ground.guard } (by simp) rfl
                      have cv := conv8 c4 hR7.1
                      go_simp
                      have hh := hK.out (.string (strOfNums SG)) wq rfl (Below.refl _ _) hC
                      simp only [upd, Nat.reduceEqDiff, ↓reduceIte, d2, d7] at hh
                      exact hh
                    | 9, ho =>
                      obtain rfl := Option.some.inj (show some _ = some o from ho)
                      intro vs wq hC hE K hK
                      obtain d4 : vs 4 = .string (strOfNums SG) := hE { on := 4, ground := Ground.data } (by simp) rfl
                      obtain d8 : vs 8 = .string (strOfNums SG) := hE { on := 8, ground := Ground.data } (by simp) rfl
                      obtain d2 : vs 2 = .bool false := hE { on := 2, ground := Ground.guard } (by simp) rfl
                      go_simp
                      have hh := hK.out (.bool false) wq rfl (Below.refl _ _) hC
                      simp only [upd, Nat.reduceEqDiff, ↓reduceIte, d2, d4, d8] at hh
                      exact hh
                    | 10, ho =>
                      obtain rfl := Option.some.inj (show some _ = some o from ho)
                      intro vs wq hC hE K hK
                      obtain d2 : vs 2 = .bool false := hE { on := 2, ground := Ground.data } (by simp) rfl
                      obtain d9 : vs 9 = .bool false := hE { on := 9, ground := Ground.data } (by simp) rfl
                      go_simp
                      have hh := hK.out (.bool false) wq rfl (Below.refl _ _) hC
                      simp only [upd, Nat.reduceEqDiff, ↓reduceIte, d2, d9] at hh
                      exact hh
                    | (_ + 11), ho => exact absurd ho (by simp)
                  case hend =>
                    intro va wq0 hC hE
                    have r10 : va 10 = .bool false := hE 10 (by decide)
                    have hbC := hid (show Below w.heap.size w wq0 ∧ wq0.heap[w.heap.size]? = some (.cells #[.int .i64 q, .int .i64 t, .slice A n cp] 24 (0, 0)) from ⟨hbw5.trans (hC.mono hbw5.size), (hC.block _ z1).trans K5.out⟩)
                    clear hE HR5
                    simp only [r10]
                    go_wp2_with fail
                    go_meet
                    exact hbC
              case rest =>
                have hbw := hcut.out.1
                have K := hid hcut.out.2
                clear hcut
                have z1 := blk_lt K.out
                obtain ⟨p10, p11, p12, f10, f11, f12⟩ := blk3 K.out
                go_upto_if 109 with fail
                go_cut [] (fun wx => Hid (Below w.heap.size w wx ∧ wx.heap[w.heap.size]? = some (.cells #[.int .i64 q, .int .i64 t, .slice A n cp] 24 (0, 0))))
                case first =>
                  by_cases hl0 : 0 < L
                  · have dl0 : decide ((0 : Int) < (L : Int)) = true := decide_eq_true (by omega)
                    have hjl : 0 < l.length := by have := HL.out; omega
                    obtain ⟨b, o, rfl, hb, g0, g1, g2, g3, g4, g5, g6⟩ := (HS.out.below hbw).get hjl
                    simp only [Nat.zero_mul, Nat.add_zero] at g0 g1 g2 g3 g4 g5 g6
                    have hxs : (l[0]).s.size ≤ maxLen := HX.out _ (List.getElem_mem hjl)
                    generalize l[0] = X at *
                    obtain ⟨wp, hwp⟩ : ∃ x, x = wc := ⟨_, rfl⟩
                    rw [← hwp] at hbw z1 p10 p11 p12 f10 f11 f12 g0 g1 g2 g3 g4 g5 g6 K ⊢
                    clear hwp
                    have PD1 := hid (fun (w9 : World) (h : Below wp.heap.size wp w9) => PD.out w9 (hbw.trans (h.mono hbw.size)) X hxs)
                    have PE1 := hid (fun (w9 : World) (h : Below w.heap.size w w9) => PE.out w9 h X)
                    have hbB : b < wp.heap.size := Nat.lt_of_lt_of_le hb hbw.size
                    have HG := hid (fun (w9 : World) (h : Below wp.heap.size wp w9) => And.intro (keep_cell h g0) (And.intro (keep_cell h g1) (And.intro (keep_cell h g2) (And.intro (keep_cell h g3) (And.intro (keep_cell h g4) (And.intro (keep_cell h g5) (keep_cell h g6)))))))
                    have i00 : (0 : Int) < (L : Int) := by omega
                    go_upto_region 22 with fail
                    go_cut [18, 19, 20] (fun s18 s19 s20 wx => ∃ (A3 : Option Addr) (n3 c3 g9 : Nat) (A4 : Option Addr) (n4 c4 : Nat), s18 = .slice A3 n3 c3 ∧ s19 = .pointer (some ⟨g9, 0, none⟩) ∧ s20 = .int .i64 (enE q t ss X) ∧ Hid (Below wp.heap.size wp wx ∧ wp.heap.size ≤ g9 ∧ wx.heap[g9]? = some (.cells #[.int .i64 (enQ q t ss X), .int .i64 (enT q t ss X), .slice A4 n4 c4] 24 (0, 0)) ∧ Rw wx A3 n3 c3 (adB q t ss X) ∧ Rs wx A4 n4 c4 (enL q t ss X)))
                    case first =>
                     as_aux_lemma =>
                      have dl1 : decide (0 < L) = true := decide_eq_true (by omega)
                      refine wp_region_envj (A := fun vs => { tmps := #[Value.int IntKind.i64 m, Value.agg #[Value.int IntKind.i64 q, Value.int IntKind.i64 t, Value.slice A n cp], Value.slice (some { block := b, off := o }) L cl, Value.int IntKind.i64 k, Value.bool sd, Value.slice AM nM cM, undef, Value.pointer (some { block := w.heap.size, off := 0 }), undef, undef, undef, undef, u12, Value.bool RC, Value.bool MY, Value.string (nmS m), Value.slice A5 Y5.length c5, Value.int IntKind.i64 E5, vs 10, vs 9, vs 12, undef, undef, undef, undef, undef, u26, u27, u28, u29, u30, u31, u32, u33, u34, u35, u36, u37, u38, u39, u40, u41, u42, u43, u44, u45, u46, u47, u48, u49, u50, u51, u52, u53, u54, u55, u56, u57, u58, u59, u60, u61, u62, u63, u64, u65, u66, u67, u68, u69, u70, u71, u72, u73, u74, u75, u76, u77, u78, u79, u80, u81, u82, u83, u84, u85, u86, u87, u88, u89, u90, u91, u92, u93, u94, u95, u96, u97, u98, u99, u100, u101, u102, u103, u104, u105, u106, Value.slice (some { block := b, off := o }) L cl, Value.int IntKind.i64 ↑L, Value.bool (decide (0 < L)), vs 5, vs 0, vs 1, vs 2, vs 3, vs 4, vs 6, vs 7, vs 8, u119, u120, u121, u122, u123, u124, u125, u126, u127, u128, u129, u130, u131, u132, u133, u134, u135, u136, u137, u138, u139, u140, u141, u142, u143, u144, u145, u146, u147, u148, u149, u150, u151, u152, u153, u154, u155, u156, u157, u158, u159, u160, u161, u162, u163, u164, u165, u166, u167, u168, u169, u170, u171, u172, u173, u174, u175, u176, u177, u178, u179, u180, u181, u182], defers := [] }) (E := fun dn vs i wv => match i with | 0 => vs 0 = .agg #[.int .i64 q, .int .i64 t, .slice A n cp] | 1 => vs 1 = .slice (some ⟨b, o, none⟩) L cl | 2 => vs 2 = .pointer (some ⟨b, o, none⟩) | 3 => vs 3 = .agg #[.int .i64 X.q, .int .i64 X.t, .int .i64 X.k, .string X.s, .int .i64 X.a, .int .i64 X.b, .int .i64 X.c] | 4 => ∃ (A1 : Option Addr) (n1 c1 : Nat) (A5 : Option Addr) (n5 c5 : Nat), vs 4 = .tuple #[.slice A1 n1 c1, .agg #[.int .i64 (enQ q t ss X), .int .i64 (enT q t ss X), .slice A5 n5 c5], .int .i64 (enE q t ss X)] ∧ Rw wv A1 n1 c1 (adB q t ss X) ∧ Rs wv A5 n5 c5 (enL q t ss X) | 5 => vs 5 = vs 4 ∧ ∃ (A1 : Option Addr) (n1 c1 : Nat) (A5 : Option Addr) (n5 c5 : Nat), vs 5 = .tuple #[.slice A1 n1 c1, .agg #[.int .i64 (enQ q t ss X), .int .i64 (enT q t ss X), .slice A5 n5 c5], .int .i64 (enE q t ss X)] | 6 => ∃ (A1 : Option Addr) (n1 c1 : Nat) (A5 : Option Addr) (n5 c5 : Nat), vs 5 = .tuple #[.slice A1 n1 c1, .agg #[.int .i64 (enQ q t ss X), .int .i64 (enT q t ss X), .slice A5 n5 c5], .int .i64 (enE q t ss X)] ∧ vs 6 = .slice A1 n1 c1 | 7 => ∃ (A1 : Option Addr) (n1 c1 : Nat) (A5 : Option Addr) (n5 c5 : Nat), vs 5 = .tuple #[.slice A1 n1 c1, .agg #[.int .i64 (enQ q t ss X), .int .i64 (enT q t ss X), .slice A5 n5 c5], .int .i64 (enE q t ss X)] ∧ vs 7 = .agg #[.int .i64 (enQ q t ss X), .int .i64 (enT q t ss X), .slice A5 n5 c5] | 8 => ∃ (A1 : Option Addr) (n1 c1 : Nat) (A5 : Option Addr) (n5 c5 : Nat), vs 5 = .tuple #[.slice A1 n1 c1, .agg #[.int .i64 (enQ q t ss X), .int .i64 (enT q t ss X), .slice A5 n5 c5], .int .i64 (enE q t ss X)] ∧ vs 8 = .int .i64 (enE q t ss X) | 9 => ∃ g, vs 9 = .pointer (some ⟨g, 0, none⟩) ∧ wp.heap.size ≤ g ∧ g < wv.heap.size ∧ (dn 11 = false → wv.heap[g]? = some (.cells #[.int .i64 0, .int .i64 0, .slice none 0 0] 24 (0, 0))) | 10 => vs 10 = vs 6 | 11 => ∃ g cs, vs 9 = .pointer (some ⟨g, 0, none⟩) ∧ vs 7 = .agg cs ∧ wv.heap[g]? = some (.cells cs 24 (0, 0)) | 12 => vs 12 = vs 8 | _ => True) (C := fun wv => Below wp.heap.size wp wv) (Ext := Ext9 11 9 #[.int .i64 0, .int .i64 0, .slice none 0 0] 24) (fun i => match i with | 0 => u111 | 1 => u112 | 2 => u113 | 3 => u114 | 4 => u115 | 5 => u110 | 6 => u116 | 7 => u117 | 8 => u118 | 9 => undef | 10 => undef | 11 => undef | 12 => undef | _ => undef) (by kernel_rfl) (by rfl) ?hC ?hstep ?hstab (low_of (by kernel_rfl)) ?hend
                      case hC => exact Below.drew (Below.refl _ _)
                      case hstab =>
                        intro dn vs k i yv wa wb hcl hcl2 hk hi hki hC hx h
                        match i, hi, hki, h with
                        | 0, hi, hki, h =>
                          have u0 : upd vs k yv 0 = vs 0 := upd_ne (Ne.symm hki)
                          exact u0.trans h
                        | 1, hi, hki, h =>
                          have u1 : upd vs k yv 1 = vs 1 := upd_ne (Ne.symm hki)
                          exact u1.trans h
                        | 2, hi, hki, h =>
                          have u2 : upd vs k yv 2 = vs 2 := upd_ne (Ne.symm hki)
                          exact u2.trans h
                        | 3, hi, hki, h =>
                          have u3 : upd vs k yv 3 = vs 3 := upd_ne (Ne.symm hki)
                          exact u3.trans h
                        | 4, hi, hki, h =>
                          have u4 : upd vs k yv 4 = vs 4 := upd_ne (Ne.symm hki)
                          obtain ⟨A1, n1, c1, A5, n5, c5, h1, h2⟩ := h
                          refine ⟨A1, n1, c1, A5, n5, c5, u4.trans h1, ?_⟩
                          rcases hx with hx | ⟨rfl, g, -, hg, hx⟩
                          · exact ⟨h2.1.below hx, h2.2.below hx⟩
                          · exact ⟨h2.1.lts hg hx.lts, h2.2.lts hg hx.lts⟩
                        | 5, hi, hki, h =>
                          have u4 : upd vs k yv 4 = vs 4 := upd_ne (fun e => by have h1 := hcl 5 _ rfl hi { on := 4, ground := Ground.data } (by simp) rfl; rw [e] at h1; rw [hk] at h1; cases h1)
                          have u5 : upd vs k yv 5 = vs 5 := upd_ne (Ne.symm hki)
                          exact ⟨(u5.trans h.1).trans u4.symm, by obtain ⟨A1, n1, c1, A5, n5, c5, h2⟩ := h.2; exact ⟨A1, n1, c1, A5, n5, c5, u5.trans h2⟩⟩
                        | 6, hi, hki, h =>
                          have u5 : upd vs k yv 5 = vs 5 := upd_ne (fun e => by have h1 := hcl 6 _ rfl hi { on := 5, ground := Ground.data } (by simp) rfl; rw [e] at h1; rw [hk] at h1; cases h1)
                          have u6 : upd vs k yv 6 = vs 6 := upd_ne (Ne.symm hki)
                          obtain ⟨A1, n1, c1, A5, n5, c5, h1, h2⟩ := h
                          exact ⟨A1, n1, c1, A5, n5, c5, u5.trans h1, u6.trans h2⟩
                        | 7, hi, hki, h =>
                          have u5 : upd vs k yv 5 = vs 5 := upd_ne (fun e => by have h1 := hcl 7 _ rfl hi { on := 5, ground := Ground.data } (by simp) rfl; rw [e] at h1; rw [hk] at h1; cases h1)
                          have u7 : upd vs k yv 7 = vs 7 := upd_ne (Ne.symm hki)
                          obtain ⟨A1, n1, c1, A5, n5, c5, h1, h2⟩ := h
                          exact ⟨A1, n1, c1, A5, n5, c5, u5.trans h1, u7.trans h2⟩
                        | 8, hi, hki, h =>
                          have u5 : upd vs k yv 5 = vs 5 := upd_ne (fun e => by have h1 := hcl 8 _ rfl hi { on := 5, ground := Ground.data } (by simp) rfl; rw [e] at h1; rw [hk] at h1; cases h1)
                          have u8 : upd vs k yv 8 = vs 8 := upd_ne (Ne.symm hki)
                          obtain ⟨A1, n1, c1, A5, n5, c5, h1, h2⟩ := h
                          exact ⟨A1, n1, c1, A5, n5, c5, u5.trans h1, u8.trans h2⟩
                        | 9, hi, hki, h =>
                          have u9 : upd vs k yv 9 = vs 9 := upd_ne (Ne.symm hki)
                          obtain ⟨g, h1, h2, h3, h4⟩ := h
                          rcases hx with hx | ⟨rfl, g2, -, -, hx⟩
                          · refine ⟨g, u9.trans h1, h2, Nat.lt_of_lt_of_le h3 hx.size, fun hd => (hx.block g h3).trans (h4 (mark_off hd))⟩
                          · exact ⟨g, u9.trans h1, h2, by rw [hx.size]; exact h3, fun hd => absurd ((mark_self _ _).symm.trans hd) (by decide)⟩
                        | 10, hi, hki, h =>
                          have u6 : upd vs k yv 6 = vs 6 := upd_ne (fun e => by have h1 := hcl 10 _ rfl hi { on := 6, ground := Ground.data } (by simp) rfl; rw [e] at h1; rw [hk] at h1; cases h1)
                          have u10 : upd vs k yv 10 = vs 10 := upd_ne (Ne.symm hki)
                          exact (u10.trans h).trans u6.symm
                        | 11, hi, hki, h =>
                          have u7 : upd vs k yv 7 = vs 7 := upd_ne (fun e => by have h1 := hcl 11 _ rfl hi { on := 7, ground := Ground.data } (by simp) rfl; rw [e] at h1; rw [hk] at h1; cases h1)
                          have u9 : upd vs k yv 9 = vs 9 := upd_ne (fun e => by have h1 := hcl 11 _ rfl hi { on := 9, ground := Ground.data } (by simp) rfl; rw [e] at h1; rw [hk] at h1; cases h1)
                          obtain ⟨g, cs, h1, h2, h3⟩ := h
                          rcases hx with hx | ⟨rfl, g2, -, -, hx⟩
                          · exact ⟨g, cs, u9.trans h1, u7.trans h2, (hx.block g (blk_lt h3)).trans h3⟩
                          · exact absurd rfl hki
                        | 12, hi, hki, h =>
                          have u8 : upd vs k yv 8 = vs 8 := upd_ne (fun e => by have h1 := hcl 12 _ rfl hi { on := 8, ground := Ground.data } (by simp) rfl; rw [e] at h1; rw [hk] at h1; cases h1)
                          have u12 : upd vs k yv 12 = vs 12 := upd_ne (Ne.symm hki)
                          exact (u12.trans h).trans u8.symm
                        | (_ + 13), _, _, _ => trivial
                      case hstep =>
                        intro i o ho
                        match i, ho with
                        | 0, ho =>
                          obtain rfl := Option.some.inj (show some _ = some o from ho)
                          intro dn vs wv hdn hC hE Kc hK
                          obtain ⟨e0, e1, e2, -, -, -⟩ := blk3 ((hC.block _ z1).trans K.out)
                          go_simp
                          have hh := hK.out (.agg #[.int .i64 q, .int .i64 t, .slice A n cp]) wv rfl (.inl (Below.refl _ _)) hC
                          simp only [upd, Nat.reduceEqDiff, ↓reduceIte, dl1] at hh
                          exact hh
                        | 1, ho =>
                          obtain rfl := Option.some.inj (show some _ = some o from ho)
                          intro dn vs wv hdn hC hE Kc hK
                          go_simp
                          have hh := hK.out (.slice (some ⟨b, o, none⟩) L cl) wv rfl (.inl (Below.refl _ _)) hC
                          simp only [upd, Nat.reduceEqDiff, ↓reduceIte, dl1] at hh
                          exact hh
                        | 2, ho =>
                          obtain rfl := Option.some.inj (show some _ = some o from ho)
                          intro dn vs wv hdn hC hE Kc hK
                          obtain ⟨z1, d1⟩ : dn 1 = true ∧ (vs 1 = .slice (some ⟨b, o, none⟩) L cl) := hE { on := 1, ground := Ground.data } (by simp) rfl
                          go_simp
                          have hh := hK.out (.pointer (some ⟨b, o, none⟩)) wv rfl (.inl (Below.refl _ _)) hC
                          simp only [upd, Nat.reduceEqDiff, ↓reduceIte, d1, dl1] at hh
                          exact hh
                        | 3, ho =>
                          obtain rfl := Option.some.inj (show some _ = some o from ho)
                          intro dn vs wv hdn hC hE Kc hK
                          obtain ⟨z2, d2⟩ : dn 2 = true ∧ (vs 2 = .pointer (some ⟨b, o, none⟩)) := hE { on := 2, ground := Ground.data } (by simp) rfl
                          obtain ⟨e0, e1, e2, e3, e4, e5, e6⟩ := HG.out _ hC
                          go_simp
                          have hh := hK.out (.agg #[.int .i64 X.q, .int .i64 X.t, .int .i64 X.k, .string X.s, .int .i64 X.a, .int .i64 X.b, .int .i64 X.c]) wv rfl (.inl (Below.refl _ _)) hC
                          simp only [upd, Nat.reduceEqDiff, ↓reduceIte, d2, dl1] at hh
                          exact hh
                        | 4, ho =>
                          obtain rfl := Option.some.inj (show some _ = some o from ho)
                          intro dn vs wv hdn hC hE Kc hK
                          obtain ⟨z0, d0⟩ : dn 0 = true ∧ (vs 0 = .agg #[.int .i64 q, .int .i64 t, .slice A n cp]) := hE { on := 0, ground := Ground.data } (by simp) rfl
                          obtain ⟨z3, d3⟩ : dn 3 = true ∧ (vs 3 = .agg #[.int .i64 X.q, .int .i64 X.t, .int .i64 X.k, .string X.s, .int .i64 X.a, .int .i64 X.b, .int .i64 X.c]) := hE { on := 3, ground := Ground.data } (by simp) rfl
                          go_simp
                          go_at_call 13
                          refine (PD1.out _ hC).mono ?_
                          rintro e w9 ⟨⟨v3, A5, n5, c5, rfl, hown3, hR5⟩, hb9⟩
                          obtain ⟨A1, c1, rfl, hR1, -⟩ := own_rw hown3
                          have hh := hK.out (.tuple #[.slice A1 _ c1, .agg #[.int .i64 (enQ q t ss X), .int .i64 (enT q t ss X), .slice A5 n5 c5], .int .i64 (enE q t ss X)]) w9 ⟨A1, _, c1, A5, n5, c5, rfl, hR1, hR5⟩ (.inl hb9) (hC.trans (hb9.mono hC.size))
                          simp only [upd, Nat.reduceEqDiff, ↓reduceIte, d0, d3, dl1] at hh
                          exact hh
                        | 5, ho =>
                          obtain rfl := Option.some.inj (show some _ = some o from ho)
                          intro dn vs wv hdn hC hE Kc hK
                          obtain ⟨z4, d4⟩ : dn 4 = true ∧ (∃ (A1 : Option Addr) (n1 c1 : Nat) (A5 : Option Addr) (n5 c5 : Nat), vs 4 = .tuple #[.slice A1 n1 c1, .agg #[.int .i64 (enQ q t ss X), .int .i64 (enT q t ss X), .slice A5 n5 c5], .int .i64 (enE q t ss X)] ∧ Rw wv A1 n1 c1 (adB q t ss X) ∧ Rs wv A5 n5 c5 (enL q t ss X)) := hE { on := 4, ground := Ground.data } (by simp) rfl
                          obtain ⟨A1, n1, c1, A5, n5, c5, e4, -⟩ := d4
                          go_simp
                          have hh := hK.out (.tuple #[.slice A1 n1 c1, .agg #[.int .i64 (enQ q t ss X), .int .i64 (enT q t ss X), .slice A5 n5 c5], .int .i64 (enE q t ss X)]) wv ⟨e4.symm, A1, n1, c1, A5, n5, c5, rfl⟩ (.inl (Below.refl _ _)) hC
                          simp only [upd, Nat.reduceEqDiff, ↓reduceIte, e4, dl1] at hh
                          exact hh
                        | 6, ho =>
                          obtain rfl := Option.some.inj (show some _ = some o from ho)
                          intro dn vs wv hdn hC hE Kc hK
                          obtain ⟨z5, d5⟩ : dn 5 = true ∧ (vs 5 = vs 4 ∧ ∃ (A1 : Option Addr) (n1 c1 : Nat) (A5 : Option Addr) (n5 c5 : Nat), vs 5 = .tuple #[.slice A1 n1 c1, .agg #[.int .i64 (enQ q t ss X), .int .i64 (enT q t ss X), .slice A5 n5 c5], .int .i64 (enE q t ss X)]) := hE { on := 5, ground := Ground.data } (by simp) rfl
                          obtain ⟨-, A1, n1, c1, A5, n5, c5, e5⟩ := d5
                          go_simp
                          have hh := hK.out (.slice A1 n1 c1) wv ⟨A1, n1, c1, A5, n5, c5, e5, rfl⟩ (.inl (Below.refl _ _)) hC
                          simp only [upd, Nat.reduceEqDiff, ↓reduceIte, e5, dl1] at hh
                          exact hh
                        | 7, ho =>
                          obtain rfl := Option.some.inj (show some _ = some o from ho)
                          intro dn vs wv hdn hC hE Kc hK
                          obtain ⟨z5, d5⟩ : dn 5 = true ∧ (vs 5 = vs 4 ∧ ∃ (A1 : Option Addr) (n1 c1 : Nat) (A5 : Option Addr) (n5 c5 : Nat), vs 5 = .tuple #[.slice A1 n1 c1, .agg #[.int .i64 (enQ q t ss X), .int .i64 (enT q t ss X), .slice A5 n5 c5], .int .i64 (enE q t ss X)]) := hE { on := 5, ground := Ground.data } (by simp) rfl
                          obtain ⟨-, A1, n1, c1, A5, n5, c5, e5⟩ := d5
                          go_simp
                          have hh := hK.out (.agg #[.int .i64 (enQ q t ss X), .int .i64 (enT q t ss X), .slice A5 n5 c5]) wv ⟨A1, n1, c1, A5, n5, c5, e5, rfl⟩ (.inl (Below.refl _ _)) hC
                          simp only [upd, Nat.reduceEqDiff, ↓reduceIte, e5, dl1] at hh
                          exact hh
                        | 8, ho =>
                          obtain rfl := Option.some.inj (show some _ = some o from ho)
                          intro dn vs wv hdn hC hE Kc hK
                          obtain ⟨z5, d5⟩ : dn 5 = true ∧ (vs 5 = vs 4 ∧ ∃ (A1 : Option Addr) (n1 c1 : Nat) (A5 : Option Addr) (n5 c5 : Nat), vs 5 = .tuple #[.slice A1 n1 c1, .agg #[.int .i64 (enQ q t ss X), .int .i64 (enT q t ss X), .slice A5 n5 c5], .int .i64 (enE q t ss X)]) := hE { on := 5, ground := Ground.data } (by simp) rfl
                          obtain ⟨-, A1, n1, c1, A5, n5, c5, e5⟩ := d5
                          go_simp
                          have hh := hK.out (.int .i64 (enE q t ss X)) wv ⟨A1, n1, c1, A5, n5, c5, e5, rfl⟩ (.inl (Below.refl _ _)) hC
                          simp only [upd, Nat.reduceEqDiff, ↓reduceIte, e5, dl1] at hh
                          exact hh
                        | 9, ho =>
                          obtain rfl := Option.some.inj (show some _ = some o from ho)
                          intro dn vs wv hdn hC hE Kc hK
                          go_simp
                          have hh := hK.out (.pointer (some ⟨wv.heap.size, 0, none⟩)) (wv.alloc (.cells #[.int .i64 0, .int .i64 0, .slice none 0 0] 24)) ⟨wv.heap.size, rfl, hC.size, by simp, fun _ => heap_alloc_new _ _⟩ (.inl ((Below.refl _ _).alloc (Nat.le_refl _) _)) (hC.alloc hC.size _)
                          simp only [upd, Nat.reduceEqDiff, ↓reduceIte, dl1] at hh
                          exact hh
                        | 10, ho =>
                          obtain rfl := Option.some.inj (show some _ = some o from ho)
                          intro dn vs wv hdn hC hE Kc hK
                          obtain ⟨z6, d6⟩ : dn 6 = true ∧ (∃ (A1 : Option Addr) (n1 c1 : Nat) (A5 : Option Addr) (n5 c5 : Nat), vs 5 = .tuple #[.slice A1 n1 c1, .agg #[.int .i64 (enQ q t ss X), .int .i64 (enT q t ss X), .slice A5 n5 c5], .int .i64 (enE q t ss X)] ∧ vs 6 = .slice A1 n1 c1) := hE { on := 6, ground := Ground.data } (by simp) rfl
                          obtain ⟨A1, n1, c1, A5, n5, c5, -, e6⟩ := d6
                          go_simp
                          have hh := hK.out (.slice A1 n1 c1) wv e6.symm (.inl (Below.refl _ _)) hC
                          simp only [upd, Nat.reduceEqDiff, ↓reduceIte, e6, dl1] at hh
                          exact hh
                        | 11, ho =>
                          obtain rfl := Option.some.inj (show some _ = some o from ho)
                          intro dn vs wv hdn hC hE Kc hK
                          obtain ⟨z9, d9⟩ : dn 9 = true ∧ (∃ g, vs 9 = .pointer (some ⟨g, 0, none⟩) ∧ wp.heap.size ≤ g ∧ g < wv.heap.size ∧ (dn 11 = false → wv.heap[g]? = some (.cells #[.int .i64 0, .int .i64 0, .slice none 0 0] 24 (0, 0)))) := hE { on := 9, ground := Ground.data } (by simp) rfl
                          obtain ⟨z7, d7⟩ : dn 7 = true ∧ (∃ (A1 : Option Addr) (n1 c1 : Nat) (A5 : Option Addr) (n5 c5 : Nat), vs 5 = .tuple #[.slice A1 n1 c1, .agg #[.int .i64 (enQ q t ss X), .int .i64 (enT q t ss X), .slice A5 n5 c5], .int .i64 (enE q t ss X)] ∧ vs 7 = .agg #[.int .i64 (enQ q t ss X), .int .i64 (enT q t ss X), .slice A5 n5 c5]) := hE { on := 7, ground := Ground.data } (by simp) rfl
                          rw [if_pos (by rfl)]
                          obtain ⟨g, e9, g1, g2, g3⟩ := d9
                          obtain ⟨A1, n1, c1, A5, n5, c5, -, e7⟩ := d7
                          have g4 := g3 hdn
                          refine wp_store_row 24 (.tmp 19) (.tmp 117) rfl g #[.int .i64 (enQ q t ss X), .int .i64 (enT q t ss X), .slice A5 n5 c5] e9 e7 24 _ g4 (by kernel_rfl) rfl (by simp [Value.oneCell']) ?_
                          have S9 : Sto g wv (wv.setRow g #[.int .i64 (enQ q t ss X), .int .i64 (enT q t ss X), .slice A5 n5 c5]) := ⟨rfl, rfl, rfl, by simp [World.setRow], fun k hk => setRow_other wv g k _ hk⟩
                          have hh := hK.out undef (wv.setRow g #[.int .i64 (enQ q t ss X), .int .i64 (enT q t ss X), .slice A5 n5 c5]) ⟨g, #[.int .i64 (enQ q t ss X), .int .i64 (enT q t ss X), .slice A5 n5 c5], e9, e7, setRow_heap wv g _ _ _ _ g4⟩ (.inr ⟨rfl, g, e9, g4, S9⟩) (S9.below hC g1)
                          simp only [upd, Nat.reduceEqDiff, ↓reduceIte] at hh
                          exact hh
                        | 12, ho =>
                          obtain rfl := Option.some.inj (show some _ = some o from ho)
                          intro dn vs wv hdn hC hE Kc hK
                          obtain ⟨z8, d8⟩ : dn 8 = true ∧ (∃ (A1 : Option Addr) (n1 c1 : Nat) (A5 : Option Addr) (n5 c5 : Nat), vs 5 = .tuple #[.slice A1 n1 c1, .agg #[.int .i64 (enQ q t ss X), .int .i64 (enT q t ss X), .slice A5 n5 c5], .int .i64 (enE q t ss X)] ∧ vs 8 = .int .i64 (enE q t ss X)) := hE { on := 8, ground := Ground.data } (by simp) rfl
                          obtain ⟨A1, n1, c1, A5, n5, c5, -, e8⟩ := d8
                          go_simp
                          have hh := hK.out (.int .i64 (enE q t ss X)) wv e8.symm (.inl (Below.refl _ _)) hC
                          simp only [upd, Nat.reduceEqDiff, ↓reduceIte, e8, dl1] at hh
                          exact hh
                        | (_ + 13), ho => exact absurd ho (by simp)
                      case hend =>
                        intro dn va wv0 hdn hC hE
                        obtain ⟨A1, n1, c1, A5, n5, c5, r4, hR1, hR5⟩ : ∃ (A1 : Option Addr) (n1 c1 : Nat) (A5 : Option Addr) (n5 c5 : Nat), va 4 = .tuple #[.slice A1 n1 c1, .agg #[.int .i64 (enQ q t ss X), .int .i64 (enT q t ss X), .slice A5 n5 c5], .int .i64 (enE q t ss X)] ∧ Rw wv0 A1 n1 c1 (adB q t ss X) ∧ Rs wv0 A5 n5 c5 (enL q t ss X) := hE 4 (by decide)
                        have r5 : va 5 = .tuple #[.slice A1 n1 c1, .agg #[.int .i64 (enQ q t ss X), .int .i64 (enT q t ss X), .slice A5 n5 c5], .int .i64 (enE q t ss X)] := (show va 5 = va 4 from (hE 5 (by decide)).1).trans r4
                        have r6 : va 6 = .slice A1 n1 c1 := by
                          obtain ⟨A1z, n1z, c1z, A5z, n5z, c5z, h1, h2⟩ := show ∃ (A1 : Option Addr) (n1 c1 : Nat) (A5 : Option Addr) (n5 c5 : Nat), va 5 = .tuple #[.slice A1 n1 c1, .agg #[.int .i64 (enQ q t ss X), .int .i64 (enT q t ss X), .slice A5 n5 c5], .int .i64 (enE q t ss X)] ∧ va 6 = .slice A1 n1 c1 from hE 6 (by decide)
                          exact h2.trans (tup3 (h1.symm.trans r5)).1
                        have r7 : va 7 = .agg #[.int .i64 (enQ q t ss X), .int .i64 (enT q t ss X), .slice A5 n5 c5] := by
                          obtain ⟨A1z, n1z, c1z, A5z, n5z, c5z, h1, h2⟩ := show ∃ (A1 : Option Addr) (n1 c1 : Nat) (A5 : Option Addr) (n5 c5 : Nat), va 5 = .tuple #[.slice A1 n1 c1, .agg #[.int .i64 (enQ q t ss X), .int .i64 (enT q t ss X), .slice A5 n5 c5], .int .i64 (enE q t ss X)] ∧ va 7 = .agg #[.int .i64 (enQ q t ss X), .int .i64 (enT q t ss X), .slice A5 n5 c5] from hE 7 (by decide)
                          exact h2.trans (tup3 (h1.symm.trans r5)).2.1
                        have r8 : va 8 = .int .i64 (enE q t ss X) := by
                          obtain ⟨A1z, n1z, c1z, A5z, n5z, c5z, h1, h2⟩ := show ∃ (A1 : Option Addr) (n1 c1 : Nat) (A5 : Option Addr) (n5 c5 : Nat), va 5 = .tuple #[.slice A1 n1 c1, .agg #[.int .i64 (enQ q t ss X), .int .i64 (enT q t ss X), .slice A5 n5 c5], .int .i64 (enE q t ss X)] ∧ va 8 = .int .i64 (enE q t ss X) from hE 8 (by decide)
                          exact h2.trans (tup3 (h1.symm.trans r5)).2.2
                        have r10 : va 10 = .slice A1 n1 c1 := (show va 10 = va 6 from hE 10 (by decide)).trans r6
                        have r12 : va 12 = .int .i64 (enE q t ss X) := (show va 12 = va 8 from hE 12 (by decide)).trans r8
                        obtain ⟨g9, r9, hg9, -, -⟩ : ∃ g, va 9 = .pointer (some ⟨g, 0, none⟩) ∧ wp.heap.size ≤ g ∧ g < wv0.heap.size ∧ (dn 11 = false → wv0.heap[g]? = some (.cells #[.int .i64 0, .int .i64 0, .slice none 0 0] 24 (0, 0))) := hE 9 (by decide)
                        have k9 : wv0.heap[g9]? = some (.cells #[.int .i64 (enQ q t ss X), .int .i64 (enT q t ss X), .slice A5 n5 c5] 24 (0, 0)) := by
                          obtain ⟨g, cs, h1, h2, h3⟩ : ∃ g cs, va 9 = .pointer (some ⟨g, 0, none⟩) ∧ va 7 = .agg cs ∧ wv0.heap[g]? = some (.cells cs 24 (0, 0)) := hE 11 (by decide)
                          rw [r9] at h1
                          rw [r7] at h2
                          cases h1; cases h2
                          exact h3
                        clear hE
                        simp only [r10, r9, r12]
                        go_wp2_with fail
                        go_meet
                        exact ⟨A1, n1, c1, g9, A5, n5, c5, rfl, rfl, rfl, hid ⟨hC, hg9, k9, hR1, hR5⟩⟩
                    case rest =>
                      obtain ⟨A3, m3, c3, g9, A4, n4, c4, rfl, rfl, rfl, hcut⟩ := hcut
                      obtain ⟨hbc, hg9, k9, hR3, hR4⟩ := hcut.out
                      have hb7 := hbw.trans (hbc.mono hbw.size)
                      have K7 := hid ((hbc.block _ z1).trans K.out)
                      have HK9 := hid k9
                      have HR3 := hid hR3
                      have HR4 := hid hR4
                      obtain ⟨h0, h1, h2, h3, h4, h5, h6⟩ := HG.out _ hbc
                      have hbB2 : b < wc.heap.size := Nat.lt_of_lt_of_le hbB hbc.size
                      clear hcut k9 hR3 hR4 g0 g1 g2 g3 g4 g5 g6 z1 p10 p11 p12 f10 f11 f12 K PD1 HG hbB
                      obtain ⟨wq, hwq⟩ : ∃ x, x = wc := ⟨_, rfl⟩
                      rw [← hwq] at hbc hb7 K7 HK9 HR3 HR4 h0 h1 h2 h3 h4 h5 h6 hbB2 ⊢
                      clear hwq
                      have PE2 := hid (fun (w9 : World) (h : Below wq.heap.size wq w9) => PE1.out w9 (hb7.trans (h.mono hb7.size)))
                      clear PE1
                      have z1 := blk_lt K7.out
                      obtain ⟨p10, p11, p12, f10, f11, f12⟩ := blk3 K7.out
                      go_upto_region 23 with fail
                      go_cut [21, 22, 23] (fun s21 s22 s23 wx => ∃ (A3 : Option Addr) (n3 c3 g9 : Nat) (A4 : Option Addr) (n4 c4 : Nat), s21 = .slice A3 n3 c3 ∧ s22 = .pointer (some ⟨g9, 0, none⟩) ∧ s23 = .int .i64 (enE q t ss X) ∧ Hid (Below wq.heap.size wq wx ∧ wq.heap.size ≤ g9 ∧ wx.heap[g9]? = some (.cells #[.int .i64 (enQ q t ss X), .int .i64 (enT q t ss X), .slice A4 n4 c4] 24 (0, 0)) ∧ Rw wx A3 n3 c3 (adB q t ss X) ∧ Rs wx A4 n4 c4 (enL q t ss X)))
                      case first =>
                       as_aux_lemma =>
                        have dl1 : decide (0 < L) = true := decide_eq_true (by omega)
                        refine wp_region_envj (A := fun vs => { tmps := #[Value.int IntKind.i64 m, Value.agg #[Value.int IntKind.i64 q, Value.int IntKind.i64 t, Value.slice A n cp], Value.slice (some { block := b, off := o }) L cl, Value.int IntKind.i64 k, Value.bool sd, Value.slice AM nM cM, undef, Value.pointer (some { block := w.heap.size, off := 0 }), undef, undef, undef, undef, u12, Value.bool RC, Value.bool MY, Value.string (nmS m), Value.slice A5 Y5.length c5, Value.int IntKind.i64 E5, Value.slice A3 m3 c3, Value.pointer (some { block := g9, off := 0 }), Value.int IntKind.i64 (enE q t ss X), vs 10, vs 9, vs 12, undef, undef, u26, u27, u28, u29, u30, u31, u32, u33, u34, u35, u36, u37, u38, u39, u40, u41, u42, u43, u44, u45, u46, u47, u48, u49, u50, u51, u52, u53, u54, u55, u56, u57, u58, u59, u60, u61, u62, u63, u64, u65, u66, u67, u68, u69, u70, u71, u72, u73, u74, u75, u76, u77, u78, u79, u80, u81, u82, u83, u84, u85, u86, u87, u88, u89, u90, u91, u92, u93, u94, u95, u96, u97, u98, u99, u100, u101, u102, u103, u104, u105, u106, u107, u108, u109, u110, u111, u112, u113, u114, u115, u116, u117, u118, vs 5, vs 0, vs 1, vs 2, vs 3, vs 4, vs 6, vs 7, vs 8, u128, u129, u130, u131, u132, u133, u134, u135, u136, u137, u138, u139, u140, u141, u142, u143, u144, u145, u146, u147, u148, u149, u150, u151, u152, u153, u154, u155, u156, u157, u158, u159, u160, u161, u162, u163, u164, u165, u166, u167, u168, u169, u170, u171, u172, u173, u174, u175, u176, u177, u178, u179, u180, u181, u182], defers := [] }) (E := fun dn vs i wv => match i with | 0 => vs 0 = .agg #[.int .i64 q, .int .i64 t, .slice A n cp] | 1 => vs 1 = .slice (some ⟨b, o, none⟩) L cl | 2 => vs 2 = .pointer (some ⟨b, o, none⟩) | 3 => vs 3 = .agg #[.int .i64 X.q, .int .i64 X.t, .int .i64 X.k, .string X.s, .int .i64 X.a, .int .i64 X.b, .int .i64 X.c] | 4 => ∃ (A1 : Option Addr) (n1 c1 : Nat) (A5 : Option Addr) (n5 c5 : Nat), vs 4 = .tuple #[.slice A1 n1 c1, .agg #[.int .i64 (enQ q t ss X), .int .i64 (enT q t ss X), .slice A5 n5 c5], .int .i64 (enE q t ss X)] ∧ Rw wv A1 n1 c1 (adB q t ss X) ∧ Rs wv A5 n5 c5 (enL q t ss X) | 5 => vs 5 = vs 4 ∧ ∃ (A1 : Option Addr) (n1 c1 : Nat) (A5 : Option Addr) (n5 c5 : Nat), vs 5 = .tuple #[.slice A1 n1 c1, .agg #[.int .i64 (enQ q t ss X), .int .i64 (enT q t ss X), .slice A5 n5 c5], .int .i64 (enE q t ss X)] | 6 => ∃ (A1 : Option Addr) (n1 c1 : Nat) (A5 : Option Addr) (n5 c5 : Nat), vs 5 = .tuple #[.slice A1 n1 c1, .agg #[.int .i64 (enQ q t ss X), .int .i64 (enT q t ss X), .slice A5 n5 c5], .int .i64 (enE q t ss X)] ∧ vs 6 = .slice A1 n1 c1 | 7 => ∃ (A1 : Option Addr) (n1 c1 : Nat) (A5 : Option Addr) (n5 c5 : Nat), vs 5 = .tuple #[.slice A1 n1 c1, .agg #[.int .i64 (enQ q t ss X), .int .i64 (enT q t ss X), .slice A5 n5 c5], .int .i64 (enE q t ss X)] ∧ vs 7 = .agg #[.int .i64 (enQ q t ss X), .int .i64 (enT q t ss X), .slice A5 n5 c5] | 8 => ∃ (A1 : Option Addr) (n1 c1 : Nat) (A5 : Option Addr) (n5 c5 : Nat), vs 5 = .tuple #[.slice A1 n1 c1, .agg #[.int .i64 (enQ q t ss X), .int .i64 (enT q t ss X), .slice A5 n5 c5], .int .i64 (enE q t ss X)] ∧ vs 8 = .int .i64 (enE q t ss X) | 9 => ∃ g, vs 9 = .pointer (some ⟨g, 0, none⟩) ∧ wq.heap.size ≤ g ∧ g < wv.heap.size ∧ (dn 11 = false → wv.heap[g]? = some (.cells #[.int .i64 0, .int .i64 0, .slice none 0 0] 24 (0, 0))) | 10 => vs 10 = vs 6 | 11 => ∃ g cs, vs 9 = .pointer (some ⟨g, 0, none⟩) ∧ vs 7 = .agg cs ∧ wv.heap[g]? = some (.cells cs 24 (0, 0)) | 12 => vs 12 = vs 8 | _ => True) (C := fun wv => Below wq.heap.size wq wv) (Ext := Ext9 11 9 #[.int .i64 0, .int .i64 0, .slice none 0 0] 24) (fun i => match i with | 0 => u120 | 1 => u121 | 2 => u122 | 3 => u123 | 4 => u124 | 5 => u119 | 6 => u125 | 7 => u126 | 8 => u127 | 9 => undef | 10 => undef | 11 => undef | 12 => undef | _ => undef) (by kernel_rfl) (by rfl) ?hC ?hstep ?hstab (low_of (by kernel_rfl)) ?hend
                        case hC => exact Below.drew (Below.refl _ _)
                        case hstab =>
                          intro dn vs k i yv wa wb hcl hcl2 hk hi hki hC hx h
                          match i, hi, hki, h with
                          | 0, hi, hki, h =>
                            have u0 : upd vs k yv 0 = vs 0 := upd_ne (Ne.symm hki)
                            exact u0.trans h
                          | 1, hi, hki, h =>
                            have u1 : upd vs k yv 1 = vs 1 := upd_ne (Ne.symm hki)
                            exact u1.trans h
                          | 2, hi, hki, h =>
                            have u2 : upd vs k yv 2 = vs 2 := upd_ne (Ne.symm hki)
                            exact u2.trans h
                          | 3, hi, hki, h =>
                            have u3 : upd vs k yv 3 = vs 3 := upd_ne (Ne.symm hki)
                            exact u3.trans h
                          | 4, hi, hki, h =>
                            have u4 : upd vs k yv 4 = vs 4 := upd_ne (Ne.symm hki)
                            obtain ⟨A1, n1, c1, A5, n5, c5, h1, h2⟩ := h
                            refine ⟨A1, n1, c1, A5, n5, c5, u4.trans h1, ?_⟩
                            rcases hx with hx | ⟨rfl, g, -, hg, hx⟩
                            · exact ⟨h2.1.below hx, h2.2.below hx⟩
                            · exact ⟨h2.1.lts hg hx.lts, h2.2.lts hg hx.lts⟩
                          | 5, hi, hki, h =>
                            have u4 : upd vs k yv 4 = vs 4 := upd_ne (fun e => by have h1 := hcl 5 _ rfl hi { on := 4, ground := Ground.data } (by simp) rfl; rw [e] at h1; rw [hk] at h1; cases h1)
                            have u5 : upd vs k yv 5 = vs 5 := upd_ne (Ne.symm hki)
                            exact ⟨(u5.trans h.1).trans u4.symm, by obtain ⟨A1, n1, c1, A5, n5, c5, h2⟩ := h.2; exact ⟨A1, n1, c1, A5, n5, c5, u5.trans h2⟩⟩
                          | 6, hi, hki, h =>
                            have u5 : upd vs k yv 5 = vs 5 := upd_ne (fun e => by have h1 := hcl 6 _ rfl hi { on := 5, ground := Ground.data } (by simp) rfl; rw [e] at h1; rw [hk] at h1; cases h1)
                            have u6 : upd vs k yv 6 = vs 6 := upd_ne (Ne.symm hki)
                            obtain ⟨A1, n1, c1, A5, n5, c5, h1, h2⟩ := h
                            exact ⟨A1, n1, c1, A5, n5, c5, u5.trans h1, u6.trans h2⟩
                          | 7, hi, hki, h =>
                            have u5 : upd vs k yv 5 = vs 5 := upd_ne (fun e => by have h1 := hcl 7 _ rfl hi { on := 5, ground := Ground.data } (by simp) rfl; rw [e] at h1; rw [hk] at h1; cases h1)
                            have u7 : upd vs k yv 7 = vs 7 := upd_ne (Ne.symm hki)
                            obtain ⟨A1, n1, c1, A5, n5, c5, h1, h2⟩ := h
                            exact ⟨A1, n1, c1, A5, n5, c5, u5.trans h1, u7.trans h2⟩
                          | 8, hi, hki, h =>
                            have u5 : upd vs k yv 5 = vs 5 := upd_ne (fun e => by have h1 := hcl 8 _ rfl hi { on := 5, ground := Ground.data } (by simp) rfl; rw [e] at h1; rw [hk] at h1; cases h1)
                            have u8 : upd vs k yv 8 = vs 8 := upd_ne (Ne.symm hki)
                            obtain ⟨A1, n1, c1, A5, n5, c5, h1, h2⟩ := h
                            exact ⟨A1, n1, c1, A5, n5, c5, u5.trans h1, u8.trans h2⟩
                          | 9, hi, hki, h =>
                            have u9 : upd vs k yv 9 = vs 9 := upd_ne (Ne.symm hki)
                            obtain ⟨g, h1, h2, h3, h4⟩ := h
                            rcases hx with hx | ⟨rfl, g2, -, -, hx⟩
                            · refine ⟨g, u9.trans h1, h2, Nat.lt_of_lt_of_le h3 hx.size, fun hd => (hx.block g h3).trans (h4 (mark_off hd))⟩
                            · exact ⟨g, u9.trans h1, h2, by rw [hx.size]; exact h3, fun hd => absurd ((mark_self _ _).symm.trans hd) (by decide)⟩
                          | 10, hi, hki, h =>
                            have u6 : upd vs k yv 6 = vs 6 := upd_ne (fun e => by have h1 := hcl 10 _ rfl hi { on := 6, ground := Ground.data } (by simp) rfl; rw [e] at h1; rw [hk] at h1; cases h1)
                            have u10 : upd vs k yv 10 = vs 10 := upd_ne (Ne.symm hki)
                            exact (u10.trans h).trans u6.symm
                          | 11, hi, hki, h =>
                            have u7 : upd vs k yv 7 = vs 7 := upd_ne (fun e => by have h1 := hcl 11 _ rfl hi { on := 7, ground := Ground.data } (by simp) rfl; rw [e] at h1; rw [hk] at h1; cases h1)
                            have u9 : upd vs k yv 9 = vs 9 := upd_ne (fun e => by have h1 := hcl 11 _ rfl hi { on := 9, ground := Ground.data } (by simp) rfl; rw [e] at h1; rw [hk] at h1; cases h1)
                            obtain ⟨g, cs, h1, h2, h3⟩ := h
                            rcases hx with hx | ⟨rfl, g2, -, -, hx⟩
                            · exact ⟨g, cs, u9.trans h1, u7.trans h2, (hx.block g (blk_lt h3)).trans h3⟩
                            · exact absurd rfl hki
                          | 12, hi, hki, h =>
                            have u8 : upd vs k yv 8 = vs 8 := upd_ne (fun e => by have h1 := hcl 12 _ rfl hi { on := 8, ground := Ground.data } (by simp) rfl; rw [e] at h1; rw [hk] at h1; cases h1)
                            have u12 : upd vs k yv 12 = vs 12 := upd_ne (Ne.symm hki)
                            exact (u12.trans h).trans u8.symm
                          | (_ + 13), _, _, _ => trivial
                        case hstep =>
                          intro i o ho
                          match i, ho with
                          | 0, ho =>
                            obtain rfl := Option.some.inj (show some _ = some o from ho)
                            intro dn vs wv hdn hC hE Kc hK
                            obtain ⟨e0, e1, e2, -, -, -⟩ := blk3 ((hC.block _ z1).trans K7.out)
                            go_simp
                            have hh := hK.out (.agg #[.int .i64 q, .int .i64 t, .slice A n cp]) wv rfl (.inl (Below.refl _ _)) hC
                            simp only [upd, Nat.reduceEqDiff, ↓reduceIte, dl1] at hh
                            exact hh
                          | 1, ho =>
                            obtain rfl := Option.some.inj (show some _ = some o from ho)
                            intro dn vs wv hdn hC hE Kc hK
                            go_simp
                            have hh := hK.out (.slice (some ⟨b, o, none⟩) L cl) wv rfl (.inl (Below.refl _ _)) hC
                            simp only [upd, Nat.reduceEqDiff, ↓reduceIte, dl1] at hh
                            exact hh
                          | 2, ho =>
                            obtain rfl := Option.some.inj (show some _ = some o from ho)
                            intro dn vs wv hdn hC hE Kc hK
                            obtain ⟨z1, d1⟩ : dn 1 = true ∧ (vs 1 = .slice (some ⟨b, o, none⟩) L cl) := hE { on := 1, ground := Ground.data } (by simp) rfl
                            go_simp
                            have hh := hK.out (.pointer (some ⟨b, o, none⟩)) wv rfl (.inl (Below.refl _ _)) hC
                            simp only [upd, Nat.reduceEqDiff, ↓reduceIte, d1, dl1] at hh
                            exact hh
                          | 3, ho =>
                            obtain rfl := Option.some.inj (show some _ = some o from ho)
                            intro dn vs wv hdn hC hE Kc hK
                            obtain ⟨z2, d2⟩ : dn 2 = true ∧ (vs 2 = .pointer (some ⟨b, o, none⟩)) := hE { on := 2, ground := Ground.data } (by simp) rfl
                            have e0 := keep_cell hC h0
                            have e1 := keep_cell hC h1
                            have e2 := keep_cell hC h2
                            have e3 := keep_cell hC h3
                            have e4 := keep_cell hC h4
                            have e5 := keep_cell hC h5
                            have e6 := keep_cell hC h6
                            go_simp
                            have hh := hK.out (.agg #[.int .i64 X.q, .int .i64 X.t, .int .i64 X.k, .string X.s, .int .i64 X.a, .int .i64 X.b, .int .i64 X.c]) wv rfl (.inl (Below.refl _ _)) hC
                            simp only [upd, Nat.reduceEqDiff, ↓reduceIte, d2, dl1] at hh
                            exact hh
                          | 4, ho =>
                            obtain rfl := Option.some.inj (show some _ = some o from ho)
                            intro dn vs wv hdn hC hE Kc hK
                            obtain ⟨z0, d0⟩ : dn 0 = true ∧ (vs 0 = .agg #[.int .i64 q, .int .i64 t, .slice A n cp]) := hE { on := 0, ground := Ground.data } (by simp) rfl
                            obtain ⟨z3, d3⟩ : dn 3 = true ∧ (vs 3 = .agg #[.int .i64 X.q, .int .i64 X.t, .int .i64 X.k, .string X.s, .int .i64 X.a, .int .i64 X.b, .int .i64 X.c]) := hE { on := 3, ground := Ground.data } (by simp) rfl
                            go_simp
                            go_at_call 14
                            refine (PE2.out _ hC).mono ?_
                            rintro e w9 ⟨⟨v3, A5, n5, c5, rfl, hown3, hR5⟩, hb9⟩
                            obtain ⟨A1, c1, rfl, hR1, -⟩ := own_rw hown3
                            have hh := hK.out (.tuple #[.slice A1 _ c1, .agg #[.int .i64 (enQ q t ss X), .int .i64 (enT q t ss X), .slice A5 n5 c5], .int .i64 (enE q t ss X)]) w9 ⟨A1, _, c1, A5, n5, c5, rfl, hR1, hR5⟩ (.inl hb9) (hC.trans (hb9.mono hC.size))
                            simp only [upd, Nat.reduceEqDiff, ↓reduceIte, d0, d3, dl1] at hh
                            exact hh
                          | 5, ho =>
                            obtain rfl := Option.some.inj (show some _ = some o from ho)
                            intro dn vs wv hdn hC hE Kc hK
                            obtain ⟨z4, d4⟩ : dn 4 = true ∧ (∃ (A1 : Option Addr) (n1 c1 : Nat) (A5 : Option Addr) (n5 c5 : Nat), vs 4 = .tuple #[.slice A1 n1 c1, .agg #[.int .i64 (enQ q t ss X), .int .i64 (enT q t ss X), .slice A5 n5 c5], .int .i64 (enE q t ss X)] ∧ Rw wv A1 n1 c1 (adB q t ss X) ∧ Rs wv A5 n5 c5 (enL q t ss X)) := hE { on := 4, ground := Ground.data } (by simp) rfl
                            obtain ⟨A1, n1, c1, A5, n5, c5, e4, -⟩ := d4
                            go_simp
                            have hh := hK.out (.tuple #[.slice A1 n1 c1, .agg #[.int .i64 (enQ q t ss X), .int .i64 (enT q t ss X), .slice A5 n5 c5], .int .i64 (enE q t ss X)]) wv ⟨e4.symm, A1, n1, c1, A5, n5, c5, rfl⟩ (.inl (Below.refl _ _)) hC
                            simp only [upd, Nat.reduceEqDiff, ↓reduceIte, e4, dl1] at hh
                            exact hh
                          | 6, ho =>
                            obtain rfl := Option.some.inj (show some _ = some o from ho)
                            intro dn vs wv hdn hC hE Kc hK
                            obtain ⟨z5, d5⟩ : dn 5 = true ∧ (vs 5 = vs 4 ∧ ∃ (A1 : Option Addr) (n1 c1 : Nat) (A5 : Option Addr) (n5 c5 : Nat), vs 5 = .tuple #[.slice A1 n1 c1, .agg #[.int .i64 (enQ q t ss X), .int .i64 (enT q t ss X), .slice A5 n5 c5], .int .i64 (enE q t ss X)]) := hE { on := 5, ground := Ground.data } (by simp) rfl
                            obtain ⟨-, A1, n1, c1, A5, n5, c5, e5⟩ := d5
                            go_simp
                            have hh := hK.out (.slice A1 n1 c1) wv ⟨A1, n1, c1, A5, n5, c5, e5, rfl⟩ (.inl (Below.refl _ _)) hC
                            simp only [upd, Nat.reduceEqDiff, ↓reduceIte, e5, dl1] at hh
                            exact hh
                          | 7, ho =>
                            obtain rfl := Option.some.inj (show some _ = some o from ho)
                            intro dn vs wv hdn hC hE Kc hK
                            obtain ⟨z5, d5⟩ : dn 5 = true ∧ (vs 5 = vs 4 ∧ ∃ (A1 : Option Addr) (n1 c1 : Nat) (A5 : Option Addr) (n5 c5 : Nat), vs 5 = .tuple #[.slice A1 n1 c1, .agg #[.int .i64 (enQ q t ss X), .int .i64 (enT q t ss X), .slice A5 n5 c5], .int .i64 (enE q t ss X)]) := hE { on := 5, ground := Ground.data } (by simp) rfl
                            obtain ⟨-, A1, n1, c1, A5, n5, c5, e5⟩ := d5
                            go_simp
                            have hh := hK.out (.agg #[.int .i64 (enQ q t ss X), .int .i64 (enT q t ss X), .slice A5 n5 c5]) wv ⟨A1, n1, c1, A5, n5, c5, e5, rfl⟩ (.inl (Below.refl _ _)) hC
                            simp only [upd, Nat.reduceEqDiff, ↓reduceIte, e5, dl1] at hh
                            exact hh
                          | 8, ho =>
                            obtain rfl := Option.some.inj (show some _ = some o from ho)
                            intro dn vs wv hdn hC hE Kc hK
                            obtain ⟨z5, d5⟩ : dn 5 = true ∧ (vs 5 = vs 4 ∧ ∃ (A1 : Option Addr) (n1 c1 : Nat) (A5 : Option Addr) (n5 c5 : Nat), vs 5 = .tuple #[.slice A1 n1 c1, .agg #[.int .i64 (enQ q t ss X), .int .i64 (enT q t ss X), .slice A5 n5 c5], .int .i64 (enE q t ss X)]) := hE { on := 5, ground := Ground.data } (by simp) rfl
                            obtain ⟨-, A1, n1, c1, A5, n5, c5, e5⟩ := d5
                            go_simp
                            have hh := hK.out (.int .i64 (enE q t ss X)) wv ⟨A1, n1, c1, A5, n5, c5, e5, rfl⟩ (.inl (Below.refl _ _)) hC
                            simp only [upd, Nat.reduceEqDiff, ↓reduceIte, e5, dl1] at hh
                            exact hh
                          | 9, ho =>
                            obtain rfl := Option.some.inj (show some _ = some o from ho)
                            intro dn vs wv hdn hC hE Kc hK
                            go_simp
                            have hh := hK.out (.pointer (some ⟨wv.heap.size, 0, none⟩)) (wv.alloc (.cells #[.int .i64 0, .int .i64 0, .slice none 0 0] 24)) ⟨wv.heap.size, rfl, hC.size, by simp, fun _ => heap_alloc_new _ _⟩ (.inl ((Below.refl _ _).alloc (Nat.le_refl _) _)) (hC.alloc hC.size _)
                            simp only [upd, Nat.reduceEqDiff, ↓reduceIte, dl1] at hh
                            exact hh
                          | 10, ho =>
                            obtain rfl := Option.some.inj (show some _ = some o from ho)
                            intro dn vs wv hdn hC hE Kc hK
                            obtain ⟨z6, d6⟩ : dn 6 = true ∧ (∃ (A1 : Option Addr) (n1 c1 : Nat) (A5 : Option Addr) (n5 c5 : Nat), vs 5 = .tuple #[.slice A1 n1 c1, .agg #[.int .i64 (enQ q t ss X), .int .i64 (enT q t ss X), .slice A5 n5 c5], .int .i64 (enE q t ss X)] ∧ vs 6 = .slice A1 n1 c1) := hE { on := 6, ground := Ground.data } (by simp) rfl
                            obtain ⟨A1, n1, c1, A5, n5, c5, -, e6⟩ := d6
                            go_simp
                            have hh := hK.out (.slice A1 n1 c1) wv e6.symm (.inl (Below.refl _ _)) hC
                            simp only [upd, Nat.reduceEqDiff, ↓reduceIte, e6, dl1] at hh
                            exact hh
                          | 11, ho =>
                            obtain rfl := Option.some.inj (show some _ = some o from ho)
                            intro dn vs wv hdn hC hE Kc hK
                            obtain ⟨z9, d9⟩ : dn 9 = true ∧ (∃ g, vs 9 = .pointer (some ⟨g, 0, none⟩) ∧ wq.heap.size ≤ g ∧ g < wv.heap.size ∧ (dn 11 = false → wv.heap[g]? = some (.cells #[.int .i64 0, .int .i64 0, .slice none 0 0] 24 (0, 0)))) := hE { on := 9, ground := Ground.data } (by simp) rfl
                            obtain ⟨z7, d7⟩ : dn 7 = true ∧ (∃ (A1 : Option Addr) (n1 c1 : Nat) (A5 : Option Addr) (n5 c5 : Nat), vs 5 = .tuple #[.slice A1 n1 c1, .agg #[.int .i64 (enQ q t ss X), .int .i64 (enT q t ss X), .slice A5 n5 c5], .int .i64 (enE q t ss X)] ∧ vs 7 = .agg #[.int .i64 (enQ q t ss X), .int .i64 (enT q t ss X), .slice A5 n5 c5]) := hE { on := 7, ground := Ground.data } (by simp) rfl
                            rw [if_pos (by rfl)]
                            obtain ⟨g, e9, g1, g2, g3⟩ := d9
                            obtain ⟨A1, n1, c1, A5, n5, c5, -, e7⟩ := d7
                            have g4 := g3 hdn
                            refine wp_store_row 24 (.tmp 22) (.tmp 126) rfl g #[.int .i64 (enQ q t ss X), .int .i64 (enT q t ss X), .slice A5 n5 c5] e9 e7 24 _ g4 (by kernel_rfl) rfl (by simp [Value.oneCell']) ?_
                            have S9 : Sto g wv (wv.setRow g #[.int .i64 (enQ q t ss X), .int .i64 (enT q t ss X), .slice A5 n5 c5]) := ⟨rfl, rfl, rfl, by simp [World.setRow], fun k hk => setRow_other wv g k _ hk⟩
                            have hh := hK.out undef (wv.setRow g #[.int .i64 (enQ q t ss X), .int .i64 (enT q t ss X), .slice A5 n5 c5]) ⟨g, #[.int .i64 (enQ q t ss X), .int .i64 (enT q t ss X), .slice A5 n5 c5], e9, e7, setRow_heap wv g _ _ _ _ g4⟩ (.inr ⟨rfl, g, e9, g4, S9⟩) (S9.below hC g1)
                            simp only [upd, Nat.reduceEqDiff, ↓reduceIte] at hh
                            exact hh
                          | 12, ho =>
                            obtain rfl := Option.some.inj (show some _ = some o from ho)
                            intro dn vs wv hdn hC hE Kc hK
                            obtain ⟨z8, d8⟩ : dn 8 = true ∧ (∃ (A1 : Option Addr) (n1 c1 : Nat) (A5 : Option Addr) (n5 c5 : Nat), vs 5 = .tuple #[.slice A1 n1 c1, .agg #[.int .i64 (enQ q t ss X), .int .i64 (enT q t ss X), .slice A5 n5 c5], .int .i64 (enE q t ss X)] ∧ vs 8 = .int .i64 (enE q t ss X)) := hE { on := 8, ground := Ground.data } (by simp) rfl
                            obtain ⟨A1, n1, c1, A5, n5, c5, -, e8⟩ := d8
                            go_simp
                            have hh := hK.out (.int .i64 (enE q t ss X)) wv e8.symm (.inl (Below.refl _ _)) hC
                            simp only [upd, Nat.reduceEqDiff, ↓reduceIte, e8, dl1] at hh
                            exact hh
                          | (_ + 13), ho => exact absurd ho (by simp)
                        case hend =>
                          intro dn va wv0 hdn hC hE
                          obtain ⟨A1, n1, c1, A5, n5, c5, r4, hR1, hR5⟩ : ∃ (A1 : Option Addr) (n1 c1 : Nat) (A5 : Option Addr) (n5 c5 : Nat), va 4 = .tuple #[.slice A1 n1 c1, .agg #[.int .i64 (enQ q t ss X), .int .i64 (enT q t ss X), .slice A5 n5 c5], .int .i64 (enE q t ss X)] ∧ Rw wv0 A1 n1 c1 (adB q t ss X) ∧ Rs wv0 A5 n5 c5 (enL q t ss X) := hE 4 (by decide)
                          have r5 : va 5 = .tuple #[.slice A1 n1 c1, .agg #[.int .i64 (enQ q t ss X), .int .i64 (enT q t ss X), .slice A5 n5 c5], .int .i64 (enE q t ss X)] := (show va 5 = va 4 from (hE 5 (by decide)).1).trans r4
                          have r6 : va 6 = .slice A1 n1 c1 := by
                            obtain ⟨A1z, n1z, c1z, A5z, n5z, c5z, h1, h2⟩ := show ∃ (A1 : Option Addr) (n1 c1 : Nat) (A5 : Option Addr) (n5 c5 : Nat), va 5 = .tuple #[.slice A1 n1 c1, .agg #[.int .i64 (enQ q t ss X), .int .i64 (enT q t ss X), .slice A5 n5 c5], .int .i64 (enE q t ss X)] ∧ va 6 = .slice A1 n1 c1 from hE 6 (by decide)
                            exact h2.trans (tup3 (h1.symm.trans r5)).1
                          have r7 : va 7 = .agg #[.int .i64 (enQ q t ss X), .int .i64 (enT q t ss X), .slice A5 n5 c5] := by
                            obtain ⟨A1z, n1z, c1z, A5z, n5z, c5z, h1, h2⟩ := show ∃ (A1 : Option Addr) (n1 c1 : Nat) (A5 : Option Addr) (n5 c5 : Nat), va 5 = .tuple #[.slice A1 n1 c1, .agg #[.int .i64 (enQ q t ss X), .int .i64 (enT q t ss X), .slice A5 n5 c5], .int .i64 (enE q t ss X)] ∧ va 7 = .agg #[.int .i64 (enQ q t ss X), .int .i64 (enT q t ss X), .slice A5 n5 c5] from hE 7 (by decide)
                            exact h2.trans (tup3 (h1.symm.trans r5)).2.1
                          have r8 : va 8 = .int .i64 (enE q t ss X) := by
                            obtain ⟨A1z, n1z, c1z, A5z, n5z, c5z, h1, h2⟩ := show ∃ (A1 : Option Addr) (n1 c1 : Nat) (A5 : Option Addr) (n5 c5 : Nat), va 5 = .tuple #[.slice A1 n1 c1, .agg #[.int .i64 (enQ q t ss X), .int .i64 (enT q t ss X), .slice A5 n5 c5], .int .i64 (enE q t ss X)] ∧ va 8 = .int .i64 (enE q t ss X) from hE 8 (by decide)
                            exact h2.trans (tup3 (h1.symm.trans r5)).2.2
                          have r10 : va 10 = .slice A1 n1 c1 := (show va 10 = va 6 from hE 10 (by decide)).trans r6
                          have r12 : va 12 = .int .i64 (enE q t ss X) := (show va 12 = va 8 from hE 12 (by decide)).trans r8
                          obtain ⟨g9, r9, hg9, -, -⟩ : ∃ g, va 9 = .pointer (some ⟨g, 0, none⟩) ∧ wq.heap.size ≤ g ∧ g < wv0.heap.size ∧ (dn 11 = false → wv0.heap[g]? = some (.cells #[.int .i64 0, .int .i64 0, .slice none 0 0] 24 (0, 0))) := hE 9 (by decide)
                          have k9 : wv0.heap[g9]? = some (.cells #[.int .i64 (enQ q t ss X), .int .i64 (enT q t ss X), .slice A5 n5 c5] 24 (0, 0)) := by
                            obtain ⟨g, cs, h1, h2, h3⟩ : ∃ g cs, va 9 = .pointer (some ⟨g, 0, none⟩) ∧ va 7 = .agg cs ∧ wv0.heap[g]? = some (.cells cs 24 (0, 0)) := hE 11 (by decide)
                            rw [r9] at h1
                            rw [r7] at h2
                            cases h1; cases h2
                            exact h3
                          clear hE
                          simp only [r10, r9, r12]
                          go_wp2_with fail
                          go_meet
                          exact ⟨A1, n1, c1, g9, A5, n5, c5, rfl, rfl, rfl, hid ⟨hC, hg9, k9, hR1, hR5⟩⟩
                      case rest =>
                        obtain ⟨A6, m6, c6, g10, A7, n7, c7, rfl, rfl, rfl, hcut⟩ := hcut
                        obtain ⟨hbd, hg10, k10, hR6, hR7⟩ := hcut.out
                        have hb8 := hb7.trans (hbd.mono hb7.size)
                        have K8 := hid ((hbd.block _ z1).trans K7.out)
                        have k9 := (hbd.block _ (blk_lt HK9.out)).trans HK9.out
                        have hR3 := HR3.out.below hbd
                        have hR4 := HR4.out.below hbd
                        clear h0 h1 h2 h3 h4 h5 h6 z1 p10 p11 p12 f10 f11 f12 hcut HK9 HR3 HR4 PE2
                        have y9 := blk_lt k9
                        obtain ⟨s90, s91, s92, -, -, -⟩ := blk3 k9
                        have y10 := blk_lt k10
                        obtain ⟨t90, t91, t92, -, -, -⟩ := blk3 k10
                        have cv1 := conv8 c3 hR3.1
                        have cv2 := conv8 c6 hR6.1
                        have PS7 := hid (RSame7 (q0 := enQ q t ss X) (t0 := enT q t ss X) (q1 := enQ q t ss X) (t1 := enT q t ss X) (c := c4) (c' := c7) hR4 hR7 (by have := hR4.len; have := en_len q t ss X; have := HLN.out; omega))
                        rw [decide_eq_true ⟨rfl, rfl, rfl⟩] at PS7
                        generalize enQ q t ss X = Q9 at *
                        generalize enT q t ss X = T9 at *
                        generalize enE q t ss X = E9 at *
                        clear hR3 hR4 hR6 hR7 k9 k10
                        go_wp2_with fail
                        refine PS7.out.mono ?_
                        rintro e w9 ⟨rfl, hb9⟩
                        have hm := hid (show Below w.heap.size w w9 ∧ w9.heap[w.heap.size]? = some (.cells #[.int .i64 q, .int .i64 t, .slice A n cp] 24 (0, 0)) from ⟨hb8.trans (hb9.mono hb8.size), (hb9.block _ (blk_lt K8.out)).trans K8.out⟩)
                        go_wp2_with fail
                        go_meet
                        exact hm
                  · have dl0 : decide ((0 : Int) < (L : Int)) = false := decide_eq_false (by omega)
                    go_wp2_with fail
                    go_meet
                    exact hid ⟨hbw, K.out⟩
                case rest =>
                  have hbw := hcut.out.1
                  have K := hid hcut.out.2
                  clear hcut
                  have z1 := blk_lt K.out
                  obtain ⟨p10, p11, p12, f10, f11, f12⟩ := blk3 K.out
                  obtain ⟨E7, hE7⟩ : ∃ E, mkE m ⟨q, t, ss⟩ l = E := ⟨_, rfl⟩
                  obtain ⟨Y7, hY7⟩ : ∃ Y, mkY m ⟨q, t, ss⟩ l sd = Y := ⟨_, rfl⟩
                  rw [hE7, hY7] at PM PN
                  clear hE7 hY7 PD PE
                  go_wp2_with fail
                  refine (PM.out _ hbw).mono ?_
                  rintro e w5 ⟨⟨v5, rfl, hown5, -⟩, hb5⟩
                  obtain ⟨A5, c5, rfl, hR5, -⟩ := own_rw hown5
                  have hbw5 : Below w.heap.size w w5 := hbw.trans (hb5.mono hbw.size)
                  have K5 := hid ((hb5.block _ z1).trans K.out)
                  have HR5 := hid hR5
                  clear z1 p10 p11 p12 f10 f11 f12 K hown5 hR5 PM
                  have z1 := blk_lt K5.out
                  obtain ⟨p10, p11, p12, f10, f11, f12⟩ := blk3 K5.out
                  go_wp2_with fail
                  refine (PN.out _ hbw5).mono ?_
                  rintro e w6 ⟨⟨v6, rfl, hown6, -⟩, hb6⟩
                  obtain ⟨A6, c6, rfl, hR6, -⟩ := own_rw hown6
                  have hbw6 : Below w.heap.size w w6 := hbw5.trans (hb6.mono hbw5.size)
                  have HR5b := hid (HR5.out.below hb6)
                  have HR6 := hid hR6
                  clear z1 p10 p11 p12 f10 f11 f12 K5 HR5 hown6 hR6 PN hb5
                  go_wp2_with fail
                  refine (PQ.out _ hbw6).mono ?_
                  rintro e w7 ⟨rfl, hb7⟩
                  have hbw7 : Below w.heap.size w w7 := hbw6.trans (hb7.mono hbw6.size)
                  have cv1 := conv8 c5 (HR5b.out.below hb7).1
                  have cv2 := conv8 c6 (HR6.out.below hb7).1
                  clear HR5b HR6 PQ hb6
                  go_wp2_with fail
                  refine (PX.out _ hbw7).mono ?_
                  rintro e w8 ⟨⟨s, AE, cE, A2, n2, c2, hf, rfl, hse, -, -, -, hrs⟩, hb8⟩
                  have hbw8 : Below w.heap.size w w8 := hbw7.trans (hb8.mono hbw7.size)
                  have HSE := hid hse
                  have HRS := hid hrs
                  have HFI := hid hf
                  clear cv1 cv2 hse hrs hf PX
                  unfold scV
                  go_wp2_with fail
                  refine (PW.out _ hbw8).mono ?_
                  rintro e w9 ⟨⟨s', AF, cF, A3, n3, c3, hf, rfl, hse, -, -, -, hrs⟩, hb9⟩
                  obtain rfl := HFI.out.one hf
                  have hbw9 : Below w.heap.size w w9 := hbw8.trans (hb9.mono hbw8.size)
                  have hfew := hf.1.inv.few
                  have PT := hid (RSame9 (n := s.num) (q := s.before.q) (t := s.before.t) (aq := s.after.q) (ta := s.after.t) (st := stS zm s) (sz := (s.size : Int)) (cE := cE) (cF := cF) (c2 := c2) (c3 := c3) ((HSE.out.below hb9).up hb9.size) hse (by have := HM.out.len; omega) (HRS.out.below hb9) hrs (by
                    have := HRS.out.len
                    by_cases h0 : s.num = 0
                    · rw [hf.1.inv.zero h0] at this; have h1 : (sc0.after.l).length = 0 := rfl; omega
                    · have := (rc_nms (hf.1.inv.rcA h0)).1; omega))
                  clear HSE HRS HFI hse hrs hf PW hfew
                  unfold scV
                  go_wp2_with fail
                  refine PT.out.mono ?_
                  rintro e w10 ⟨rfl, hb10⟩
                  go_wp2_with fail
                  go_ret
                  exact ⟨rfl, hbw9.trans (hb10.mono hbw9.size)⟩
end Go.Proofs.YtondnbnaoacanaaGreatDoor
