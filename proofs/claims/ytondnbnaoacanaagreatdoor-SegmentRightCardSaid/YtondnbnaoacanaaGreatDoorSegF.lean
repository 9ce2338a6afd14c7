/- Layer 9, the reference: contracts of May, Head, Seal, Add. -/
import Derived.Test.YtondnbnaoacanaaGreatDoorSegR
import Derived.Test.YtondnbnaoacanaaGreatDoorSegT
import Derived.Test.YtondnbnaoacanaaGreatDoorCd
import Derived.Deep.RegionHeld3
namespace Go.Proofs.YtondnbnaoacanaaGreatDoor
open Go.ChangeShapes Go.WideShapes Go.ChangeAt Go.RowKit Fb Go.Maps

theorem RMay_any (n : Int) (w : World) :
    Calls Tryz.prog 7 #[.int .i64 n] w fun e w' => e = .returned (.bool (mayB n)) ∧ w = w' := by
  by_cases h1 : 1 ≤ n <;> by_cases h2 : n ≤ 99999999
  all_goals
    go_enter Tryz.func7, Tryz.ntmps7
    go_wp2
    go_ret
    exact ⟨ret_bool (by unfold mayB; first | (exact (decide_eq_true (by omega)).symm) | (exact (decide_eq_false (by omega)).symm)), rfl⟩

set_option maxRecDepth 100000 in
set_option maxHeartbeats 4000000 in
theorem RHead9 (m q t : Int) {A : Option Addr} {n cp : Nat} (hn : mayN m) (hr : (⟨q, t, []⟩ : Ahd).rc = true) (w : World) :
    Calls Tryz.prog 10 #[.int .i64 m, .agg #[.int .i64 q, .int .i64 t, .slice A n cp]] w (PutsU w.heap.size w (sgH m ⟨q, t, []⟩)) := by
  have hbA : Below w.heap.size w ((w.alloc (.cells #[.int .i64 q, .int .i64 t, .slice A n cp] 24)).alloc (.cells #[.int .u8 102, .int .u8 98, .int .u8 120, .int .u8 49] 5)) := ((Below.refl _ _).alloc (Nat.le_refl _) _).alloc (by simp) _
  have hqq := rc_q hr
  simp only at hqq
  obtain ⟨M, hM⟩ : ∃ k, m.toNat = k := ⟨_, rfl⟩
  obtain ⟨Q, hQ⟩ : ∃ k, q.toNat = k := ⟨_, rfl⟩
  obtain ⟨T, hT⟩ : ∃ k, t.toNat = k := ⟨_, rfl⟩
  have hm1 := hn.1
  have hm2 := hn.2
  have e1 : IntKind.u64.wrap m = (M : Int) := by rw [u64_in _ (by omega) (by omega)]; omega
  have e2 : IntKind.u64.wrap q = (Q : Int) := by rw [u64_in _ (by omega) (by omega)]; omega
  have e3 : IntKind.u64.wrap t = (T : Int) := by rw [u64_in _ (by omega) (by omega)]; omega
  have HPL := hid (hp_len (c := ⟨q, t, []⟩) hn.2 hqq.2.1 hqq.2.2.2)
  have HB := hid (hp_bytes m ⟨q, t, []⟩)
  have HP : Hid (hpB m ⟨q, t, []⟩ = (([102, 98, 120, 49] ++ leb M) ++ leb Q) ++ leb T) := by show _ = _; unfold hpB; rw [hM, hQ, hT]
  have l1 := leb_ten (n := M) (by omega)
  have l2 := leb_ten (n := Q) (by omega)
  have h4 := heap_alloc_new (w.alloc (.cells #[.int .i64 q, .int .i64 t, .slice A n cp] 24)) (.cells #[.int .u8 102, .int .u8 98, .int .u8 120, .int .u8 49] 5)
  have PU := hid (RPutU (m := M) (w := (w.alloc (.cells #[.int .i64 q, .int .i64 t, .slice A n cp] 24)).alloc (.cells #[.int .u8 102, .int .u8 98, .int .u8 120, .int .u8 49] 5)) (A := some ⟨w.heap.size + 1, 0, none⟩) (n := 4) (c := 4) (zs := [102, 98, 120, 49]) ⟨Sl.freshAt _ _ _ (by rw [World.size_alloc]) (by simp) rfl rfl, by omega, by unfold maxLen; omega, fun h => by cases h⟩ (by simp) (by omega))
  have HMM := hid (show Q < 18446744073709551616 ∧ T < 18446744073709551616 ∧ ([102, 98, 120, 49] ++ leb M : List Int).length ≤ 100000 ∧ (([102, 98, 120, 49] ++ leb M) ++ leb Q : List Int).length ≤ 100000 by
    refine ⟨by omega, by omega, ?_, ?_⟩ <;> simp only [List.length_append, List.length_cons, List.length_nil] <;> omega)
  have HSG : Hid (sgH m ⟨q, t, []⟩ = frB 1 (hpB m ⟨q, t, []⟩)) := rfl
  clear hn hr hqq hM hQ hT hm1 hm2 l1 l2 h4
  go_enter Tryz.func10, Tryz.ntmps10
  go_wp2_with fail
  refine PU.out.mono ?_
  rintro e w1 ⟨⟨A1, n1, c1, rfl, hR1⟩, hb1⟩
  have hbw1 := hbA.trans (hb1.mono hbA.size)
  have K1 := (hb1.block w.heap.size (by simp; omega)).trans ((Below.heap_alloc _ _ _ (by simp)).trans (heap_alloc_new w _))
  have z1 := blk_lt K1
  obtain ⟨u0, u1, u2, f0, f1, f2⟩ := blk3 K1
  have HK := hid K1
  have HR1 := hid hR1
  clear K1 hb1 hR1 PU
  go_wp2_with fail
  refine (RPutU (m := Q) HR1.out HMM.out.2.2.1 HMM.out.1).mono ?_
  rintro e w2 ⟨⟨A2, n2, c2, rfl, hR2⟩, hb2⟩
  have hbw2 := hbw1.trans (hb2.mono hbw1.size)
  have K1 := (hb2.block _ z1).trans HK.out
  clear z1 u0 u1 u2 f0 f1 f2 HK
  have z1 := blk_lt K1
  obtain ⟨u0, u1, u2, f0, f1, f2⟩ := blk3 K1
  have HR2 := hid hR2
  clear K1 hb2 hR2
  go_wp2_with fail
  refine (RPutU (m := T) HR2.out HMM.out.2.2.2 HMM.out.2.1).mono ?_
  rintro e w3 ⟨⟨A3, n3, c3, rfl, hR3⟩, hb3⟩
  have hbw3 := hbw2.trans (hb3.mono hbw2.size)
  rw [← HP.out] at hR3
  have PF := hid (RFPutU_any (k := 1) hR3 HB.out (fpE_ok (by omega) HPL.out))
  rw [← HSG.out] at PF
  clear hR3 hb3
  go_wp2_with fail
  refine PF.out.mono ?_
  rintro e w4 ⟨⟨v, rfl, hown, hsp⟩, hb4⟩
  have HO := hid (And.intro (own_down hown hbw3.size) hsp)
  have hbw4 := hbw3.trans (hb4.mono hbw3.size)
  clear hown hsp hb4 PF
  go_wp2_with fail
  go_ret
  exact ⟨⟨_, rfl, HO.out.1, HO.out.2⟩, hbw4⟩

set_option maxRecDepth 100000 in
set_option maxHeartbeats 4000000 in
theorem RSeal9 (k : Nat) (hk : k ≤ 9223372036854775807) (q t : Int) {A : Option Addr} {n cp : Nat} {ss : List ByteArray} (hr : (⟨q, t, ss⟩ : Ahd).rc = true) (w : World) :
    Calls Tryz.prog 12 #[.int .i64 (k : Int), .agg #[.int .i64 q, .int .i64 t, .slice A n cp]] w (PutsU w.heap.size w (sgZ k ⟨q, t, ss⟩)) := by
  have hbA : Below w.heap.size w (w.alloc (.cells #[.int .i64 q, .int .i64 t, .slice A n cp] 24)) := (Below.refl _ _).alloc (Nat.le_refl _) _
  have hqq := rc_q hr
  simp only at hqq
  obtain ⟨Q, hQ⟩ : ∃ k, q.toNat = k := ⟨_, rfl⟩
  obtain ⟨T, hT⟩ : ∃ k, t.toNat = k := ⟨_, rfl⟩
  have e1 : IntKind.u64.wrap (k : Int) = (k : Int) := u64_in _ (by omega) (by omega)
  have e2 : IntKind.u64.wrap q = (Q : Int) := by rw [u64_in _ (by omega) (by omega)]; omega
  have e3 : IntKind.u64.wrap t = (T : Int) := by rw [u64_in _ (by omega) (by omega)]; omega
  have HPL := hid (zp_len (m := k) (c := ⟨q, t, ss⟩) (by omega) hqq.2.1 hqq.2.2.2)
  have HB := hid (zp_bytes k ⟨q, t, ss⟩)
  have HP : Hid (zpB k ⟨q, t, ss⟩ = (([] ++ leb k) ++ leb Q) ++ leb T) := by show _ = _; unfold zpB; rw [hQ, hT]
  have l1 := leb_ten (n := k) (by omega)
  have l2 := leb_ten (n := Q) (by omega)
  have PU := hid (RPutU (m := k) (w := w.alloc (.cells #[.int .i64 q, .int .i64 t, .slice A n cp] 24)) (Rw.nil _) (by simp) (by omega))
  have HMM := hid (show Q < 18446744073709551616 ∧ T < 18446744073709551616 ∧ ([] ++ leb k : List Int).length ≤ 100000 ∧ (([] ++ leb k) ++ leb Q : List Int).length ≤ 100000 by
    refine ⟨by omega, by omega, ?_, ?_⟩ <;> simp only [List.length_append, List.length_nil] <;> omega)
  have HSG : Hid (sgZ k ⟨q, t, ss⟩ = frB 3 (zpB k ⟨q, t, ss⟩)) := rfl
  clear hr hqq hQ hT l1 l2 hk
  go_enter Tryz.func12, Tryz.ntmps12
  go_wp2_with fail
  refine PU.out.mono ?_
  rintro e w1 ⟨⟨A1, n1, c1, rfl, hR1⟩, hb1⟩
  have hbw1 := hbA.trans (hb1.mono hbA.size)
  have K1 := (hb1.block w.heap.size (by simp)).trans (heap_alloc_new w _)
  have z1 := blk_lt K1
  obtain ⟨u0, u1, u2, f0, f1, f2⟩ := blk3 K1
  have HK := hid K1
  have HR1 := hid hR1
  clear K1 hb1 hR1 PU
  go_wp2_with fail
  refine (RPutU (m := Q) HR1.out HMM.out.2.2.1 HMM.out.1).mono ?_
  rintro e w2 ⟨⟨A2, n2, c2, rfl, hR2⟩, hb2⟩
  have hbw2 := hbw1.trans (hb2.mono hbw1.size)
  have K1 := (hb2.block _ z1).trans HK.out
  clear z1 u0 u1 u2 f0 f1 f2 HK
  have z1 := blk_lt K1
  obtain ⟨u0, u1, u2, f0, f1, f2⟩ := blk3 K1
  have HR2 := hid hR2
  clear K1 hb2 hR2
  go_wp2_with fail
  refine (RPutU (m := T) HR2.out HMM.out.2.2.2 HMM.out.2.1).mono ?_
  rintro e w3 ⟨⟨A3, n3, c3, rfl, hR3⟩, hb3⟩
  have hbw3 := hbw2.trans (hb3.mono hbw2.size)
  rw [← HP.out] at hR3
  have PF := hid (RFPutU_any (k := 3) hR3 HB.out (fpE_ok (by omega) HPL.out))
  rw [← HSG.out] at PF
  clear hR3 hb3
  go_wp2_with fail
  refine PF.out.mono ?_
  rintro e w4 ⟨⟨v, rfl, hown, hsp⟩, hb4⟩
  have HO := hid (And.intro (own_down hown hbw3.size) hsp)
  have hbw4 := hbw3.trans (hb4.mono hbw3.size)
  clear hown hsp hb4 PF
  go_wp2_with fail
  go_ret
  exact ⟨⟨_, rfl, HO.out.1, HO.out.2⟩, hbw4⟩
end Go.Proofs.YtondnbnaoacanaaGreatDoor
