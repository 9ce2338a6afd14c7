/- Layer 7: contract of codec: spell. -/
import Derived.Test.YtgijhfdlecdijaaCodec1
namespace Go.Proofs.Ytgijhfdlecdijaa
open Go.ChangeShapes Go.WideShapes Go.ChangeAt Go.RowKit Fb Go.Maps

/-- bytes are handed back -/
def Put8 (w : World) (zs : List Int) (e : Ending) (w' : World) : Prop := (∃ (A : Option Addr) (n c : Nat), e = .returned (.slice A n c) ∧ Rw w' A n c zs) ∧ Below w.heap.size w w'
theorem Puts.put8 {w w' : World} {zs : List Int} {e : Ending} (h : Puts w.heap.size w zs e w') : Put8 w zs e w' := by
  obtain ⟨⟨v, rfl, hown⟩, hb⟩ := h
  obtain ⟨A, c, rfl, h1, -⟩ := own_rw hown
  exact ⟨⟨A, _, c, rfl, h1⟩, hb⟩
theorem PutU {A : Option Addr} {n c m : Nat} {zs : List Int} {w : World} (hR : Rw w A n c zs) (hn : zs.length ≤ 100000) (hm : m < 18446744073709551616) :
    Calls Try.prog 24 #[.slice A n c, .int .u64 m] w (Put8 w (zs ++ leb m)) := (PutUint_any hR.1 hR.2.2.2 hn hm).mono fun _ _ h => h.put8
theorem PutT {A : Option Addr} {n c : Nat} {zs : List Int} {w : World} (hR : Rw w A n c zs) (hn : zs.length ≤ 100000) (s : ByteArray) (hs : s.size ≤ 100000) :
    Calls Try.prog 25 #[.slice A n c, .string s] w (Put8 w (zs ++ (leb s.size ++ sI s))) := (PutText_any hR.1 hR.2.2.2 hn s hs).mono fun _ _ h => h.put8
theorem Rw.nil (w : World) : Rw w none 0 0 [] := ⟨Sl.nil _ _ _, Nat.le_refl _, Nat.zero_le _, fun _ => rfl⟩
theorem Rw.len {w : World} {A : Option Addr} {n c : Nat} {zs : List Int} (h : Rw w A n c zs) : n = zs.length := by have := h.1.len; rw [by8_len] at this; exact this.symm
/-- one number more -/
theorem lebs_next {L : List Int} {j : Nat} {v : Int} (h : L[j]? = some v) (H : List Int) : (H ++ lebs (L.take j)) ++ leb v.toNat = H ++ lebs (L.take (j + 1)) := by
  have hlt : j < L.length := by
    rcases Nat.lt_or_ge j L.length with h1 | h1
    · exact h1
    · rw [List.getElem?_eq_none h1] at h; cases h
  have hx : L[j] = v := by rw [List.getElem?_eq_getElem hlt] at h; exact Option.some.inj h
  rw [List.take_succ_eq_append_getElem hlt, hx, lebs_app, lebs_one, List.append_assoc]
theorem lebs_take_len {L : List Int} (hL : ∀ n ∈ L, 0 ≤ n ∧ n ≤ 2147483647) (h3 : L.length ≤ 3) (j : Nat) : (lebs (L.take j)).length ≤ 15 := by
  have := lebs_len (L.take j) (fun n hn => hL n (List.mem_of_mem_take hn))
  have : (L.take j).length ≤ 3 := by rw [List.length_take]; omega
  omega

set_option maxRecDepth 100000 in
set_option maxHeartbeats 8000000 in
theorem spell_any (q0 t0 : Int) {A : Option Addr} {n cp : Nat} {ss : List ByteArray} (hz : Ok9 ss) (q t k a b d : Int) {s : ByteArray} (ok : Okk q0 t0 ss ⟨q, t, k, s, a, b, d⟩) {w : World} (hR : Rs w A n cp ss) :
    Calls Try.prog 15 #[.agg #[.int .i64 q0, .int .i64 t0, .slice A n cp], .agg #[.int .i64 q, .int .i64 t, .int .i64 k, .string s, .int .i64 a, .int .i64 b, .int .i64 d]] w (Put8 w (spB q0 t0 ss ⟨q, t, k, s, a, b, d⟩)) := by
  have hs := nm_size ok.nm
  simp only at hs
  have PP := hid (fun (w1 : World) (h : Below w.heap.size w w1) => Place_any (cap := cp) hz (s := s) (by unfold maxLen; omega) (hR.below h).1 (Nat.le_refl _))
  have PN := hid (Numbers_any q t k s a b d)
  have HH4 : Hid ((((([] ++ leb k.toNat) ++ leb (q - q0).toNat) ++ leb (t - t0).toNat) ++ leb (plc s ss)) = h4 q0 t0 ss ⟨q, t, k, s, a, b, d⟩) := rfl
  have HSP : Hid (spB q0 t0 ss ⟨q, t, k, s, a, b, d⟩ = (h4 q0 t0 ss ⟨q, t, k, s, a, b, d⟩ ++ tx ss ⟨q, t, k, s, a, b, d⟩) ++ lebs ([a, b, d].take (mnI k).toNat)) := rfl
  have HTX : Hid ((plc s ss = 0 → tx ss ⟨q, t, k, s, a, b, d⟩ = leb s.size ++ sI s) ∧ (plc s ss ≠ 0 → tx ss ⟨q, t, k, s, a, b, d⟩ = [])) := hid ⟨fun h => if_pos h, fun h => if_neg h⟩
  have HL := hid (nm_in ok.vl)
  have HLL := hid (nm_len ⟨q, t, k, s, a, b, d⟩)
  unfold nmL at HL HLL
  simp only at HL HLL
  have H13 := hid (sp_len ok).1
  have HTL : Hid ((h4 q0 t0 ss ⟨q, t, k, s, a, b, d⟩ ++ tx ss ⟨q, t, k, s, a, b, d⟩).length ≤ 1000) := by
    have h1 := (sp_len ok).2.2.2.1
    unfold spB at h1
    rw [List.length_append] at h1
    show _ ≤ _
    omega
  have LN : Hid (([] ++ leb k.toNat).length ≤ 100000 ∧ (([] ++ leb k.toNat) ++ leb (q - q0).toNat).length ≤ 100000 ∧ ((([] ++ leb k.toNat) ++ leb (q - q0).toNat) ++ leb (t - t0).toNat).length ≤ 100000) := by
    have h1 := (sp_len ok).1
    unfold h4 at h1
    simp only [List.length_append] at h1
    refine ⟨?_, ?_, ?_⟩ <;> simp only [List.length_append] <;> omega
  have hm3 := mn_le k
  have k1 := ok.k1
  have k2 := ok.k2
  have q1 := ok.q
  have q2 := ok.q2
  have t1 := ok.t
  have t2 := ok.t2
  have q3 := ok.q0
  have t3 := ok.t0
  simp only at k1 k2 q1 q2 t1 t2
  have hpl : plc s ss ≤ 32 := Nat.le_trans (plc_le s ss) ((rgB_iff ss).1 ok.rg).1
  obtain ⟨K, hK⟩ : ∃ K : Nat, k.toNat = K := ⟨_, rfl⟩
  obtain ⟨DQ, hDQ⟩ : ∃ K : Nat, (q - q0).toNat = K := ⟨_, rfl⟩
  obtain ⟨DT, hDT⟩ : ∃ K : Nat, (t - t0).toNat = K := ⟨_, rfl⟩
  rw [hK, hDQ, hDT] at HH4 LN
  have w1 : IntKind.u64.wrap k = (K : Int) := by rw [u64_in _ (by omega) (by omega)]; omega
  have w2 : IntKind.u64.wrap (q - q0) = (DQ : Int) := by rw [u64_in _ (by omega) (by omega)]; omega
  have w3 : IntKind.u64.wrap (t - t0) = (DT : Int) := by rw [u64_in _ (by omega) (by omega)]; omega
  have w4 : IntKind.u64.wrap (plc s ss : Nat) = ((plc s ss : Nat) : Int) := u64_in _ (by omega) (by omega)
  have hKm : Hid (K < 18446744073709551616 ∧ DQ < 18446744073709551616 ∧ DT < 18446744073709551616 ∧ plc s ss < 18446744073709551616) := by refine ⟨?_, ?_, ?_, ?_⟩ <;> omega
  have hbA : Below w.heap.size w ((w.alloc (.cells #[.int .i64 q0, .int .i64 t0, .slice A n cp] 24)).alloc (.cells #[.int .i64 q, .int .i64 t, .int .i64 k, .string s, .int .i64 a, .int .i64 b, .int .i64 d] 26)) := ((Below.refl _ _).alloc (Nat.le_refl _) _).alloc (by simp) _
  clear hR hz ok hK hDQ hDT
  generalize spB q0 t0 ss ⟨q, t, k, s, a, b, d⟩ = SP at *
  generalize h4 q0 t0 ss ⟨q, t, k, s, a, b, d⟩ = H4 at *
  generalize tx ss ⟨q, t, k, s, a, b, d⟩ = TX at *
  generalize [a, b, d].take (mnI k).toNat = L at *
  generalize plc s ss = p at *
  obtain ⟨m, hm⟩ : ∃ m : Nat, (mnI k).toNat = m := ⟨_, rfl⟩
  rw [hm] at PN HLL
  have hm3' : m ≤ 3 := by omega
  clear hm hm3
  go_enter Try.func15, Try.ntmps15
  go_wp2_with fail
  refine (PP.out _ hbA).mono ?_
  rintro e wa ⟨rfl, hb1⟩
  have hbwa : Below w.heap.size w wa := hbA.trans (hb1.mono hbA.size)
  obtain ⟨K1, K2⟩ := kept2 hb1
  have z1 := blk_lt K1
  obtain ⟨u10, u11, u12, f10, f11, f12⟩ := blk3 K1
  have z2 := blk_lt K2
  obtain ⟨u20, u21, u22, u23, u24, u25, u26⟩ := blk7 K2
  have HK := hid (And.intro K1 (K2))
  clear K1 K2
  go_wp2_with fail
  refine (PutU (m := K) (Rw.nil _) (by simp) hKm.out.1).mono ?_
  rintro e wb ⟨⟨A1, n1, c1, rfl, hR1⟩, hb2⟩
  have hbwb : Below w.heap.size w wb := hbwa.trans (hb2.mono hbwa.size)
  have K1 := (hb2.block _ z1).trans HK.out.1
  have K2 := (hb2.block _ z2).trans HK.out.2
  clear z1 u10 u11 u12 f10 f11 f12 z2 u20 u21 u22 u23 u24 u25 u26 HK
  have z1 := blk_lt K1
  obtain ⟨u10, u11, u12, f10, f11, f12⟩ := blk3 K1
  have z2 := blk_lt K2
  obtain ⟨u20, u21, u22, u23, u24, u25, u26⟩ := blk7 K2
  have HK := hid (And.intro K1 (K2))
  clear K1 K2
  have HR1 := hid hR1
  clear hR1
  go_wp2_with fail
  refine (PutU (m := DQ) HR1.out LN.out.1 hKm.out.2.1).mono ?_
  rintro e wc ⟨⟨A2, n2, c2, rfl, hR2⟩, hb3⟩
  have hbwc : Below w.heap.size w wc := hbwb.trans (hb3.mono hbwb.size)
  have K1 := (hb3.block _ z1).trans HK.out.1
  have K2 := (hb3.block _ z2).trans HK.out.2
  clear z1 u10 u11 u12 f10 f11 f12 z2 u20 u21 u22 u23 u24 u25 u26 HK
  have z1 := blk_lt K1
  obtain ⟨u10, u11, u12, f10, f11, f12⟩ := blk3 K1
  have z2 := blk_lt K2
  obtain ⟨u20, u21, u22, u23, u24, u25, u26⟩ := blk7 K2
  have HK := hid (And.intro K1 (K2))
  clear K1 K2
  have HR2 := hid hR2
  clear hR2
  go_wp2_with fail
  refine (PutU (m := DT) HR2.out LN.out.2.1 hKm.out.2.2.1).mono ?_
  rintro e wd ⟨⟨A3, n3, c3, rfl, hR3⟩, hb4⟩
  have hbwd : Below w.heap.size w wd := hbwc.trans (hb4.mono hbwc.size)
  have K1 := (hb4.block _ z1).trans HK.out.1
  have K2 := (hb4.block _ z2).trans HK.out.2
  clear z1 u10 u11 u12 f10 f11 f12 z2 u20 u21 u22 u23 u24 u25 u26 HK
  have z1 := blk_lt K1
  obtain ⟨u10, u11, u12, f10, f11, f12⟩ := blk3 K1
  have z2 := blk_lt K2
  obtain ⟨u20, u21, u22, u23, u24, u25, u26⟩ := blk7 K2
  have HK := hid (And.intro K1 (K2))
  clear K1 K2
  have HR3 := hid hR3
  clear hR3
  go_wp2_with fail
  refine (PutU (m := p) HR3.out LN.out.2.2 hKm.out.2.2.2).mono ?_
  rintro e we ⟨⟨A4, n4, c4, rfl, hR4⟩, hb5⟩
  have hbwe : Below w.heap.size w we := hbwd.trans (hb5.mono hbwd.size)
  have K1 := (hb5.block _ z1).trans HK.out.1
  have K2 := (hb5.block _ z2).trans HK.out.2
  clear z1 u10 u11 u12 f10 f11 f12 z2 u20 u21 u22 u23 u24 u25 u26 HK
  have z1 := blk_lt K1
  obtain ⟨u10, u11, u12, f10, f11, f12⟩ := blk3 K1
  have z2 := blk_lt K2
  obtain ⟨u20, u21, u22, u23, u24, u25, u26⟩ := blk7 K2
  have HK := hid (And.intro K1 (K2))
  clear K1 K2
  have HR4 := hid hR4
  clear hR4
  clear hb1 hb2 hb3 hb4 hb5 hbwa hbwb hbwc hbwd
  rw [HH4.out] at HR4
  by_cases h0 : p = 0
  · subst h0
    have HTX2 := hid (HTX.out.1 rfl)
    go_wp2_with fail
    refine (PutT HR4.out (by have := H13.out; omega) s (by have := hs; omega)).mono ?_
    rintro e wf ⟨⟨A5, n5, c5, rfl, hR5⟩, hb6⟩
    have hbwf : Below w.heap.size w wf := hbwe.trans (hb6.mono hbwe.size)
    have K1 := (hb6.block _ z1).trans HK.out.1
    have K2 := (hb6.block _ z2).trans HK.out.2
    clear z1 u10 u11 u12 f10 f11 f12 z2 u20 u21 u22 u23 u24 u25 u26 HK
    have z1 := blk_lt K1
    obtain ⟨u10, u11, u12, f10, f11, f12⟩ := blk3 K1
    have z2 := blk_lt K2
    obtain ⟨u20, u21, u22, u23, u24, u25, u26⟩ := blk7 K2
    have HK := hid (And.intro K1 (K2))
    clear K1 K2
    rw [← HTX2.out] at hR5
    clear hb6 hbwe HR4
    have HRX := hid (hR5)
    clear HR1 HR2 HR3
    go_wp2_with fail
    refine (PN.out _).mono ?_
    rintro e wn ⟨⟨AN, cN, rfl, hcl, hcm, hnl, hSN⟩, hbN⟩
    have HRY := hid (HRX.out.below hbN)
    have hbwn : Below w.heap.size w wn := hbwf.trans (hbN.mono hbwf.size)
    have HSN := hid hSN
    clear hSN HRX hbN HK z1 u10 u11 u12 f10 f11 f12 z2 u20 u21 u22 u23 u24 u25 u26
    go_wp2
    go_loopw [6, 47] (fun v i wr => ∃ (j : Nat) (A9 : Option Addr) (n9 c9 : Nat), j ≤ m ∧ i = .int .i64 j ∧ v = .slice A9 n9 c9 ∧ Hid (Rw wr A9 n9 c9 ((H4 ++ TX) ++ lebs (L.take j))) ∧ Below w.heap.size w wr ∧ Below wn.heap.size wn wr)
      (fun _ i _ => m - (intOf i).toNat)
    case atStart => exact ⟨0, _, _, _, by omega, rfl, rfl, hid (by rw [List.take_zero, lebs_nil, List.append_nil]; exact HRY.out), hbwn, Below.refl _ _⟩
    case round =>
      obtain ⟨j, A9, n9, c9, hj, rfl, rfl, hRj, hbr, hbn⟩ := hrel
      by_cases hlt : j < m
      · obtain ⟨bb, oo, uu, rfl, hB9, hu9, hc9⟩ := (HSN.out.below hbn).get (k := j) hlt
        have hjl : j < L.length := by have := HLL.out; omega
        obtain rfl : uu = .int .i64 (L[j]'hjl) := by
          simp only [ints, List.getElem?_map, List.getElem?_eq_getElem hjl, Option.map_some, Option.some.injEq] at hu9
          exact hu9.symm
        have hv := HL.out _ (List.getElem_mem hjl)
        have hnx := lebs_next (List.getElem?_eq_getElem hjl) (H4 ++ TX)
        generalize L[j]'hjl = v9 at *
        obtain ⟨V, hV⟩ : ∃ V : Nat, v9.toNat = V := ⟨_, rfl⟩
        rw [hV] at hnx
        have hvw : IntKind.u64.wrap v9 = (V : Int) := by rw [u64_in _ (by omega) (by omega)]; omega
        have HNX := hid hnx
        have HV2 := hid (show V < 18446744073709551616 by omega)
        have HLN := hid (show ((H4 ++ TX) ++ lebs (L.take j)).length ≤ 100000 by
          have h1 := lebs_take_len HL.out (by have := HLL.out; omega) j
          have h2 := HTL.out
          rw [List.length_append]; omega)
        clear hnx hu9 hV hjl hB9
        go_wp2_with fail
        refine (PutU (m := V) hRj.out HLN.out HV2.out).mono ?_
        rintro e wz ⟨⟨AZ, nZ, cZ, rfl, hRZ⟩, hbZ⟩
        rw [HNX.out] at hRZ
        have HRZ := hid hRZ
        clear hRZ
        go_wp2_with fail
        go_roundw
        case rel => exact ⟨j + 1, _, _, _, by omega, by go_num, rfl, HRZ, hbr.trans (hbZ.mono hbr.size), hbn.trans (hbZ.mono hbn.size)⟩
        case measure => simp [intOf]; omega
      · obtain rfl : j = m := by omega
        have e9 : L.take j = L := List.take_of_length_le (by rw [HLL.out]; omega)
        have HR9 := hid hRj.out
        rw [e9, ← HSP.out] at HR9
        clear hRj
        go_wp2
        go_ret
        exact ⟨⟨_, _, _, rfl, HR9.out⟩, hbr⟩
  · have h0' : ¬ (p : Int) = 0 := by omega
    have e8 := HTX.out.2 h0
    have HR8 := HR4.out
    rw [← List.append_nil H4, ← e8] at HR8
    clear h0 HR4
    have HRX := hid (HR8)
    clear HR1 HR2 HR3
    go_wp2_with fail
    refine (PN.out _).mono ?_
    rintro e wn ⟨⟨AN, cN, rfl, hcl, hcm, hnl, hSN⟩, hbN⟩
    have HRY := hid (HRX.out.below hbN)
    have hbwn : Below w.heap.size w wn := hbwe.trans (hbN.mono hbwe.size)
    have HSN := hid hSN
    clear hSN HRX hbN HK z1 u10 u11 u12 f10 f11 f12 z2 u20 u21 u22 u23 u24 u25 u26
    go_wp2
    go_loopw [6, 47] (fun v i wr => ∃ (j : Nat) (A9 : Option Addr) (n9 c9 : Nat), j ≤ m ∧ i = .int .i64 j ∧ v = .slice A9 n9 c9 ∧ Hid (Rw wr A9 n9 c9 ((H4 ++ TX) ++ lebs (L.take j))) ∧ Below w.heap.size w wr ∧ Below wn.heap.size wn wr)
      (fun _ i _ => m - (intOf i).toNat)
    case atStart => exact ⟨0, _, _, _, by omega, rfl, rfl, hid (by rw [List.take_zero, lebs_nil, List.append_nil]; exact HRY.out), hbwn, Below.refl _ _⟩
    case round =>
      obtain ⟨j, A9, n9, c9, hj, rfl, rfl, hRj, hbr, hbn⟩ := hrel
      by_cases hlt : j < m
      · obtain ⟨bb, oo, uu, rfl, hB9, hu9, hc9⟩ := (HSN.out.below hbn).get (k := j) hlt
        have hjl : j < L.length := by have := HLL.out; omega
        obtain rfl : uu = .int .i64 (L[j]'hjl) := by
          simp only [ints, List.getElem?_map, List.getElem?_eq_getElem hjl, Option.map_some, Option.some.injEq] at hu9
          exact hu9.symm
        have hv := HL.out _ (List.getElem_mem hjl)
        have hnx := lebs_next (List.getElem?_eq_getElem hjl) (H4 ++ TX)
        generalize L[j]'hjl = v9 at *
        obtain ⟨V, hV⟩ : ∃ V : Nat, v9.toNat = V := ⟨_, rfl⟩
        rw [hV] at hnx
        have hvw : IntKind.u64.wrap v9 = (V : Int) := by rw [u64_in _ (by omega) (by omega)]; omega
        have HNX := hid hnx
        have HV2 := hid (show V < 18446744073709551616 by omega)
        have HLN := hid (show ((H4 ++ TX) ++ lebs (L.take j)).length ≤ 100000 by
          have h1 := lebs_take_len HL.out (by have := HLL.out; omega) j
          have h2 := HTL.out
          rw [List.length_append]; omega)
        clear hnx hu9 hV hjl hB9
        go_wp2_with fail
        refine (PutU (m := V) hRj.out HLN.out HV2.out).mono ?_
        rintro e wz ⟨⟨AZ, nZ, cZ, rfl, hRZ⟩, hbZ⟩
        rw [HNX.out] at hRZ
        have HRZ := hid hRZ
        clear hRZ
        go_wp2_with fail
        go_roundw
        case rel => exact ⟨j + 1, _, _, _, by omega, by go_num, rfl, HRZ, hbr.trans (hbZ.mono hbr.size), hbn.trans (hbZ.mono hbn.size)⟩
        case measure => simp [intOf]; omega
      · obtain rfl : j = m := by omega
        have e9 : L.take j = L := List.take_of_length_le (by rw [HLL.out]; omega)
        have HR9 := hid hRj.out
        rw [e9, ← HSP.out] at HR9
        clear hRj
        go_wp2
        go_ret
        exact ⟨⟨_, _, _, rfl, HR9.out⟩, hbr⟩
end Go.Proofs.Ytgijhfdlecdijaa
