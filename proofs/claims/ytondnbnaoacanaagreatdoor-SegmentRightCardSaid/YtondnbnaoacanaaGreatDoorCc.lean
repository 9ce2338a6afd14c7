/- Texts laid together: Codec4, Codec5, CodecS. -/
import Derived.Test.YtondnbnaoacanaaGreatDoorCb
import Derived.Test.YtondnbnaoacanaaGreatDoorBase
/- Layer 7: contract of codec: Encode. -/
namespace Go.Proofs.YtondnbnaoacanaaGreatDoor
open Go.ChangeShapes Go.WideShapes Go.ChangeAt Go.RowKit Fb Go.Maps

/-- bytes, what stands behind, and why not -/
def Encs (w : World) (q0 t0 : Int) (ss : List ByteArray) (x : Ev) (e : Ending) (w' : World) : Prop :=
  (∃ (A1 : Option Addr) (n1 c1 : Nat) (A2 : Option Addr) (n2 c2 : Nat), e = .returned (.tuple #[.slice A1 n1 c1, .agg #[.int .i64 (enQ q0 t0 ss x), .int .i64 (enT q0 t0 ss x), .slice A2 n2 c2], .int .i64 (enE q0 t0 ss x)]) ∧ Rw w' A1 n1 c1 (enB q0 t0 ss x) ∧ Rs w' A2 n2 c2 (enL q0 t0 ss x)) ∧ Below w.heap.size w w'
/-- names, and bytes, don't lie where what was ahead lies -/
theorem Rs.lts {w w' : World} {A : Option Addr} {n cp g : Nat} {ss : List ByteArray} {t : TypeId} {a b : Int} {X : Option Addr} {y z : Nat} (h : Rs w A n cp ss) (K : w.heap[g]? = some (.cells #[.int .i64 a, .int .i64 b, .slice X y z] t (0, 0))) (S : Lts g w w') : Rs w' A n cp ss := by
  refine ⟨S.sl h.1 fun hn ad hA e => ?_, h.2⟩
  obtain ⟨b0, o, u, hA2, -, hu, hc⟩ := h.1.get hn
  rw [hA] at hA2
  obtain rfl := Option.some.inj hA2
  simp only at e
  subst e
  rw [cell_of_row w b0 (o + 0) _ t (0, 0) K] at hc
  have hx := st9_at hu
  subst hx
  rcases (show o = 0 ∨ o = 1 ∨ o = 2 ∨ 3 ≤ o by omega) with rfl | rfl | rfl | ho
  · cases hc
  · cases hc
  · cases hc
  · rw [Nat.add_zero, Array.getElem?_eq_none (by simpa using ho)] at hc
    cases hc
theorem Rw.lts {w w' : World} {A : Option Addr} {n c g : Nat} {zs : List Int} {t : TypeId} {a b : Int} {X : Option Addr} {y z : Nat} (h : Rw w A n c zs) (K : w.heap[g]? = some (.cells #[.int .i64 a, .int .i64 b, .slice X y z] t (0, 0))) (S : Lts g w w') : Rw w' A n c zs := by
  refine ⟨S.sl h.1 fun hn ad hA e => ?_, h.2⟩
  obtain ⟨b0, o, u, hA2, -, hu, hc⟩ := h.1.get hn
  rw [hA] at hA2
  obtain rfl := Option.some.inj hA2
  simp only at e
  subst e
  rw [cell_of_row w b0 (o + 0) _ t (0, 0) K] at hc
  rw [by8, List.getElem?_map] at hu
  obtain ⟨v, -, rfl⟩ := Option.map_eq_some_iff.1 hu
  rcases (show o = 0 ∨ o = 1 ∨ o = 2 ∨ 3 ≤ o by omega) with rfl | rfl | rfl | ho
  · cases hc
  · cases hc
  · cases hc
  · rw [Nat.add_zero, Array.getElem?_eq_none (by simpa using ho)] at hc
    cases hc
theorem Rs.drew {w : World} {A : Option Addr} {n cp : Nat} {ss : List ByteArray} (h : Rs w A n cp ss) : Rs w.drew A n cp ss := h
theorem Rw.drew {w : World} {A : Option Addr} {n c : Nat} {zs : List Int} (h : Rw w A n c zs) : Rw w.drew A n c zs := h
theorem en_bad {q0 t0 : Int} {ss : List ByteArray} {x : Ev} (h : rcB q0 t0 ss = false) : enE q0 t0 ss x = 1 := by unfold enE; rw [if_neg (by simp [h])]
theorem en_fl {q0 t0 : Int} {ss : List ByteArray} {x : Ev} (h : rcB q0 t0 ss = true) : enE q0 t0 ss x = flE q0 t0 ss x := by unfold enE; rw [if_pos h]

set_option maxRecDepth 100000 in
set_option maxHeartbeats 16000000 in
theorem Encode_any (q0 t0 : Int) {A : Option Addr} {n cp : Nat} {ss : List ByteArray} (hz : Ok9 ss) (q t k a b d : Int) {s : ByteArray} (hs : s.size ≤ maxLen) {w : World} (hR : Rs w A n cp ss) (hn9 : n ≤ 1000000) :
    Calls Tryz.prog 31 #[.agg #[.int .i64 q0, .int .i64 t0, .slice A n cp], .agg #[.int .i64 q, .int .i64 t, .int .i64 k, .string s, .int .i64 a, .int .i64 b, .int .i64 d]] w (Encs w q0 t0 ss ⟨q, t, k, s, a, b, d⟩) := by
  have HZ := hid hz
  have PC := hid (fun (w1 : World) (h : Below w.heap.size w w1) => CloneS_any (c := cp) (hR.below h).1 (Nat.le_refl _) hR.2.2.2 hn9)
  have hbA : Below w.heap.size w (((w.alloc (.cells #[.int .i64 q0, .int .i64 t0, .slice A n cp] 24)).alloc (.cells #[.int .i64 q, .int .i64 t, .int .i64 k, .string s, .int .i64 a, .int .i64 b, .int .i64 d] 41)).alloc (.cells #[.int .i64 0, .int .i64 0, .slice none 0 0] 24)) := (((Below.refl _ _).alloc (Nat.le_refl _) _).alloc (by simp) _).alloc (by simp; omega) _
  clear hz hR
  cases hr : rcB q0 t0 ss with
  | false =>
    have en := en_bad (x := ⟨q, t, k, s, a, b, d⟩) hr
    obtain ⟨n1, n2, n3, n4⟩ := en_not (q0 := q0) (t0 := t0) (ss := ss) (x := ⟨q, t, k, s, a, b, d⟩) (by omega)
    unfold Encs
    rw [en, n1, n2, n3, n4]
    clear en n1 n2 n3 n4
    go_enter Tryz.func31, Tryz.ntmps31
    go_wp2_with fail
    refine (PC.out _ hbA).mono ?_
    rintro e wa ⟨⟨v, rfl, hown⟩, hb1⟩
    obtain ⟨A1, c1, rfl, hR1, -⟩ := own_rs hown
    clear hown
    have hbwa : Below w.heap.size w wa := hbA.trans (hb1.mono hbA.size)
    obtain ⟨K1, K2, K3⟩ := kept3 hb1
    have z1 := blk_lt K1
    obtain ⟨u10, u11, u12, f10, f11, f12⟩ := blk3 K1
    have z2 := blk_lt K2
    obtain ⟨u20, u21, u22, u23, u24, u25, u26⟩ := blk7 K2
    have z3 := blk_lt K3
    obtain ⟨u30, u31, u32, f30, f31, f32⟩ := blk3 K3
    have HK := hid (And.intro K1 (And.intro K2 (K3)))
    clear K1 K2 K3
    go_wp2_with fail
    have K1o := hid HK.out.1
    obtain ⟨wa1, hWwa1⟩ : ∃ w9, w9 = (wa).setCell ⟨w.heap.size, 2, none⟩ (.slice A1 n c1) := ⟨_, rfl⟩
    rw [← hWwa1]
    have STwa1 : Sto (w.heap.size) wa wa1 := by rw [hWwa1]; exact Sto.cell _ _ _ _
    have K1 : wa1.heap[w.heap.size]? = some (.cells #[.int .i64 q0, .int .i64 t0, .slice A1 n c1] 24 (0, 0)) := by rw [hWwa1]; exact (fld3 HK.out.1).2.2
    have K2 := (STwa1.block _ (by omega)).trans HK.out.2.1
    have K3 := (STwa1.block _ (by omega)).trans HK.out.2.2
    have hbwa1 : Below w.heap.size w wa1 := STwa1.below hbwa (by omega)
    clear z1 u10 u11 u12 f10 f11 f12 z2 u20 u21 u22 u23 u24 u25 u26 z3 u30 u31 u32 f30 f31 f32 HK hWwa1
    have z1 := blk_lt K1
    obtain ⟨u10, u11, u12, f10, f11, f12⟩ := blk3 K1
    have z2 := blk_lt K2
    obtain ⟨u20, u21, u22, u23, u24, u25, u26⟩ := blk7 K2
    have z3 := blk_lt K3
    obtain ⟨u30, u31, u32, f30, f31, f32⟩ := blk3 K3
    have HK := hid (And.intro K1 (And.intro K2 (K3)))
    clear K1 K2 K3
    have HR2 := hid (hR1.sto K1o.out STwa1)
    clear hR1 K1o STwa1 hbwa hb1
    have PR := hid (CRight_any q0 t0 (cp := c1) HZ.out HR2.out.1 (Nat.le_refl _))
    rw [hr] at PR
    refine PR.out.mono ?_
    rintro e wb ⟨rfl, hb1⟩
    have hbwb : Below w.heap.size w wb := hbwa1.trans (hb1.mono hbwa1.size)
    have K1 := (hb1.block _ z1).trans HK.out.1
    have K2 := (hb1.block _ z2).trans HK.out.2.1
    have K3 := (hb1.block _ z3).trans HK.out.2.2
    clear z1 u10 u11 u12 f10 f11 f12 z2 u20 u21 u22 u23 u24 u25 u26 z3 u30 u31 u32 f30 f31 f32 HK
    have z1 := blk_lt K1
    obtain ⟨u10, u11, u12, f10, f11, f12⟩ := blk3 K1
    have z2 := blk_lt K2
    obtain ⟨u20, u21, u22, u23, u24, u25, u26⟩ := blk7 K2
    have z3 := blk_lt K3
    obtain ⟨u30, u31, u32, f30, f31, f32⟩ := blk3 K3
    have HK := hid (And.intro K1 (And.intro K2 (K3)))
    clear K1 K2 K3
    have HR3 := hid (HR2.out.below hb1)
    clear HR2 hb1 hbwa1 PR
    go_wp2_with fail
    go_region
    go_wp2
    refine bodyPost_ret (v := .tuple #[.slice none 0 0, .agg #[.int .i64 q0, .int .i64 t0, .slice A1 n c1], .int .i64 1]) (by simp [results, Tryz.results31, go_sem, u30, u31, u32]) rfl ⟨⟨_, _, _, _, _, _, rfl, Rw.nil _, (HR3.out.sto HK.out.2.2 (sto3 wb (w.heap.size + 1 + 1) (.int .i64 q0) (.int .i64 t0) (.slice A1 n c1))).drew⟩, ?_⟩
    exact Below.drew (Below.setCell (Below.setCell (Below.setCell hbwb (by simp; omega) _) (by simp; omega) _) (by simp; omega) _)
  | true =>
    have en := en_fl (x := ⟨q, t, k, s, a, b, d⟩) hr
    by_cases h0 : flE q0 t0 ss ⟨q, t, k, s, a, b, d⟩ = 0
    case neg =>
      obtain ⟨n1, n2, n3, n4⟩ := en_not (q0 := q0) (t0 := t0) (ss := ss) (x := ⟨q, t, k, s, a, b, d⟩) (by omega)
      obtain ⟨E, hE⟩ : ∃ E, flE q0 t0 ss ⟨q, t, k, s, a, b, d⟩ = E := ⟨_, rfl⟩
      rw [hE] at en h0
      have HE := hid hE
      unfold Encs
      rw [n1, n2, n3, n4, en]
      clear en n1 n2 n3 n4 hE
      go_enter Tryz.func31, Tryz.ntmps31
      go_wp2_with fail
      refine (PC.out _ hbA).mono ?_
      rintro e wa ⟨⟨v, rfl, hown⟩, hb1⟩
      obtain ⟨A1, c1, rfl, hR1, -⟩ := own_rs hown
      clear hown
      have hbwa : Below w.heap.size w wa := hbA.trans (hb1.mono hbA.size)
      obtain ⟨K1, K2, K3⟩ := kept3 hb1
      have z1 := blk_lt K1
      obtain ⟨u10, u11, u12, f10, f11, f12⟩ := blk3 K1
      have z2 := blk_lt K2
      obtain ⟨u20, u21, u22, u23, u24, u25, u26⟩ := blk7 K2
      have z3 := blk_lt K3
      obtain ⟨u30, u31, u32, f30, f31, f32⟩ := blk3 K3
      have HK := hid (And.intro K1 (And.intro K2 (K3)))
      clear K1 K2 K3
      go_wp2_with fail
      have K1o := hid HK.out.1
      obtain ⟨wa1, hWwa1⟩ : ∃ w9, w9 = (wa).setCell ⟨w.heap.size, 2, none⟩ (.slice A1 n c1) := ⟨_, rfl⟩
      rw [← hWwa1]
      have STwa1 : Sto (w.heap.size) wa wa1 := by rw [hWwa1]; exact Sto.cell _ _ _ _
      have K1 : wa1.heap[w.heap.size]? = some (.cells #[.int .i64 q0, .int .i64 t0, .slice A1 n c1] 24 (0, 0)) := by rw [hWwa1]; exact (fld3 HK.out.1).2.2
      have K2 := (STwa1.block _ (by omega)).trans HK.out.2.1
      have K3 := (STwa1.block _ (by omega)).trans HK.out.2.2
      have hbwa1 : Below w.heap.size w wa1 := STwa1.below hbwa (by omega)
      clear z1 u10 u11 u12 f10 f11 f12 z2 u20 u21 u22 u23 u24 u25 u26 z3 u30 u31 u32 f30 f31 f32 HK hWwa1
      have z1 := blk_lt K1
      obtain ⟨u10, u11, u12, f10, f11, f12⟩ := blk3 K1
      have z2 := blk_lt K2
      obtain ⟨u20, u21, u22, u23, u24, u25, u26⟩ := blk7 K2
      have z3 := blk_lt K3
      obtain ⟨u30, u31, u32, f30, f31, f32⟩ := blk3 K3
      have HK := hid (And.intro K1 (And.intro K2 (K3)))
      clear K1 K2 K3
      have HR2 := hid (hR1.sto K1o.out STwa1)
      clear hR1 K1o STwa1 hbwa hb1
      have PR := hid (CRight_any q0 t0 (cp := c1) HZ.out HR2.out.1 (Nat.le_refl _))
      rw [hr] at PR
      refine PR.out.mono ?_
      rintro e wb ⟨rfl, hb1⟩
      have hbwb : Below w.heap.size w wb := hbwa1.trans (hb1.mono hbwa1.size)
      have K1 := (hb1.block _ z1).trans HK.out.1
      have K2 := (hb1.block _ z2).trans HK.out.2.1
      have K3 := (hb1.block _ z3).trans HK.out.2.2
      clear z1 u10 u11 u12 f10 f11 f12 z2 u20 u21 u22 u23 u24 u25 u26 z3 u30 u31 u32 f30 f31 f32 HK
      have z1 := blk_lt K1
      obtain ⟨u10, u11, u12, f10, f11, f12⟩ := blk3 K1
      have z2 := blk_lt K2
      obtain ⟨u20, u21, u22, u23, u24, u25, u26⟩ := blk7 K2
      have z3 := blk_lt K3
      obtain ⟨u30, u31, u32, f30, f31, f32⟩ := blk3 K3
      have HK := hid (And.intro K1 (And.intro K2 (K3)))
      clear K1 K2 K3
      have HR3 := hid (HR2.out.below hb1)
      clear HR2 hb1 hbwa1 PR
      have PF := hid (follow_any q0 t0 (cp := c1) HZ.out q t k a b d hs HR3.out)
      unfold Folls at PF
      rw [HE.out] at PF
      go_wp2_with fail
      refine PF.out.mono ?_
      rintro e wc ⟨⟨q1, t1, A2, m2, c2, rfl, -⟩, hb1⟩
      have hbwc : Below w.heap.size w wc := hbwb.trans (hb1.mono hbwb.size)
      have K1 := (hb1.block _ z1).trans HK.out.1
      have K2 := (hb1.block _ z2).trans HK.out.2.1
      have K3 := (hb1.block _ z3).trans HK.out.2.2
      clear z1 u10 u11 u12 f10 f11 f12 z2 u20 u21 u22 u23 u24 u25 u26 z3 u30 u31 u32 f30 f31 f32 HK
      have z1 := blk_lt K1
      obtain ⟨u10, u11, u12, f10, f11, f12⟩ := blk3 K1
      have z2 := blk_lt K2
      obtain ⟨u20, u21, u22, u23, u24, u25, u26⟩ := blk7 K2
      have z3 := blk_lt K3
      obtain ⟨u30, u31, u32, f30, f31, f32⟩ := blk3 K3
      have HK := hid (And.intro K1 (And.intro K2 (K3)))
      clear K1 K2 K3
      have HR4 := hid (HR3.out.below hb1)
      clear HR3 hb1 hbwb PF
      go_wp2_with fail
      go_region
      go_wp2
      refine bodyPost_ret (v := .tuple #[.slice none 0 0, .agg #[.int .i64 q0, .int .i64 t0, .slice A1 n c1], .int .i64 E]) (by simp [results, Tryz.results31, go_sem, z3, u30, u31, u32]) rfl ⟨⟨none, 0, 0, A1, n, c1, rfl, Rw.nil _, ?_⟩, ?_⟩
      · exact ((HR4.out.sto HK.out.2.2 (sto3 wc (w.heap.size + 1 + 1) (.int .i64 q0) (.int .i64 t0) (.slice A1 n c1))).below ((Below.refl _ _).alloc (Nat.le_refl _) _)).drew
      · exact Below.drew (Below.alloc (Below.setCell (Below.setCell (Below.setCell hbwc (by simp; omega) _) (by simp; omega) _) (by simp; omega) _) (by simp; omega) _)
    case pos =>
      have ok := fl_ok hr h0
      obtain ⟨-, -, n1, n2, n3, n4⟩ := en_zero (q0 := q0) (t0 := t0) (ss := ss) (x := ⟨q, t, k, s, a, b, d⟩) (by omega)
      obtain ⟨FL, hFL⟩ : ∃ FL, flL ss ⟨q, t, k, s, a, b, d⟩ = FL := ⟨_, rfl⟩
      obtain ⟨SP, hSP⟩ : ∃ SP, spB q0 t0 ss ⟨q, t, k, s, a, b, d⟩ = SP := ⟨_, rfl⟩
      unfold Encs
      rw [n1, n2, n3, n4, en, h0, hFL, hSP]
      clear en n1 n2 n3 n4
      have HFL := hid hFL
      have HSP := hid hSP
      clear hFL hSP
      go_enter Tryz.func31, Tryz.ntmps31
      go_wp2_with fail
      refine (PC.out _ hbA).mono ?_
      rintro e wa ⟨⟨v, rfl, hown⟩, hb1⟩
      obtain ⟨A1, c1, rfl, hR1, -⟩ := own_rs hown
      clear hown
      have hbwa : Below w.heap.size w wa := hbA.trans (hb1.mono hbA.size)
      obtain ⟨K1, K2, K3⟩ := kept3 hb1
      have z1 := blk_lt K1
      obtain ⟨u10, u11, u12, f10, f11, f12⟩ := blk3 K1
      have z2 := blk_lt K2
      obtain ⟨u20, u21, u22, u23, u24, u25, u26⟩ := blk7 K2
      have z3 := blk_lt K3
      obtain ⟨u30, u31, u32, f30, f31, f32⟩ := blk3 K3
      have HK := hid (And.intro K1 (And.intro K2 (K3)))
      clear K1 K2 K3
      go_wp2_with fail
      have K1o := hid HK.out.1
      obtain ⟨wa1, hWwa1⟩ : ∃ w9, w9 = (wa).setCell ⟨w.heap.size, 2, none⟩ (.slice A1 n c1) := ⟨_, rfl⟩
      rw [← hWwa1]
      have STwa1 : Sto (w.heap.size) wa wa1 := by rw [hWwa1]; exact Sto.cell _ _ _ _
      have K1 : wa1.heap[w.heap.size]? = some (.cells #[.int .i64 q0, .int .i64 t0, .slice A1 n c1] 24 (0, 0)) := by rw [hWwa1]; exact (fld3 HK.out.1).2.2
      have K2 := (STwa1.block _ (by omega)).trans HK.out.2.1
      have K3 := (STwa1.block _ (by omega)).trans HK.out.2.2
      have hbwa1 : Below w.heap.size w wa1 := STwa1.below hbwa (by omega)
      clear z1 u10 u11 u12 f10 f11 f12 z2 u20 u21 u22 u23 u24 u25 u26 z3 u30 u31 u32 f30 f31 f32 HK hWwa1
      have z1 := blk_lt K1
      obtain ⟨u10, u11, u12, f10, f11, f12⟩ := blk3 K1
      have z2 := blk_lt K2
      obtain ⟨u20, u21, u22, u23, u24, u25, u26⟩ := blk7 K2
      have z3 := blk_lt K3
      obtain ⟨u30, u31, u32, f30, f31, f32⟩ := blk3 K3
      have HK := hid (And.intro K1 (And.intro K2 (K3)))
      clear K1 K2 K3
      have HR2 := hid (hR1.sto K1o.out STwa1)
      clear hR1 K1o STwa1 hbwa hb1
      have PR := hid (CRight_any q0 t0 (cp := c1) HZ.out HR2.out.1 (Nat.le_refl _))
      rw [hr] at PR
      refine PR.out.mono ?_
      rintro e wb ⟨rfl, hb1⟩
      have hbwb : Below w.heap.size w wb := hbwa1.trans (hb1.mono hbwa1.size)
      have K1 := (hb1.block _ z1).trans HK.out.1
      have K2 := (hb1.block _ z2).trans HK.out.2.1
      have K3 := (hb1.block _ z3).trans HK.out.2.2
      clear z1 u10 u11 u12 f10 f11 f12 z2 u20 u21 u22 u23 u24 u25 u26 z3 u30 u31 u32 f30 f31 f32 HK
      have z1 := blk_lt K1
      obtain ⟨u10, u11, u12, f10, f11, f12⟩ := blk3 K1
      have z2 := blk_lt K2
      obtain ⟨u20, u21, u22, u23, u24, u25, u26⟩ := blk7 K2
      have z3 := blk_lt K3
      obtain ⟨u30, u31, u32, f30, f31, f32⟩ := blk3 K3
      have HK := hid (And.intro K1 (And.intro K2 (K3)))
      clear K1 K2 K3
      have HR3 := hid (HR2.out.below hb1)
      clear HR2 hb1 hbwa1 PR
      have PF := hid (follow_any q0 t0 (cp := c1) HZ.out q t k a b d hs HR3.out)
      unfold Folls at PF
      rw [h0, HFL.out] at PF
      have HOK := hid ok
      clear ok h0
      go_wp2_with fail
      refine PF.out.mono ?_
      rintro e wc ⟨⟨q1, t1, A2, m2, c2, rfl, hF⟩, hb1⟩
      obtain ⟨rfl, rfl, hR5⟩ : q = q1 ∧ t = t1 ∧ _ := ⟨(hF trivial).1.symm, (hF trivial).2.1.symm, (hF trivial).2.2⟩
      have hbwc : Below w.heap.size w wc := hbwb.trans (hb1.mono hbwb.size)
      have K1 := (hb1.block _ z1).trans HK.out.1
      have K2 := (hb1.block _ z2).trans HK.out.2.1
      have K3 := (hb1.block _ z3).trans HK.out.2.2
      clear z1 u10 u11 u12 f10 f11 f12 z2 u20 u21 u22 u23 u24 u25 u26 z3 u30 u31 u32 f30 f31 f32 HK
      have z1 := blk_lt K1
      obtain ⟨u10, u11, u12, f10, f11, f12⟩ := blk3 K1
      have z2 := blk_lt K2
      obtain ⟨u20, u21, u22, u23, u24, u25, u26⟩ := blk7 K2
      have z3 := blk_lt K3
      obtain ⟨u30, u31, u32, f30, f31, f32⟩ := blk3 K3
      have HK := hid (And.intro K1 (And.intro K2 (K3)))
      clear K1 K2 K3
      have HR4 := hid (HR3.out.below hb1)
      have HR5 := hid hR5
      clear HR3 hb1 hbwb PF hR5
      go_wp2_with fail
      have PS := hid (fun (w1 : World) (h : Below wc.heap.size wc w1) => spell_any q0 t0 (cp := c1) HZ.out q t k a b d HOK.out (HR4.out.below h))
      rw [HSP.out] at PS
      have hal : Below wc.heap.size wc (wc.alloc (.cells #[.int .i64 q, .int .i64 t, .slice A2 m2 c2] 24)).drew := ((Below.refl _ _).alloc (Nat.le_refl _) _).drew
      have HK4 := hid (heap_alloc_new wc (.cells #[.int .i64 q, .int .i64 t, .slice A2 m2 c2] 24))
      go_region_with ((go_at_call 50; refine (PS.out _ hal).mono ?_; rintro e wx ⟨⟨A9, n9, c9, rfl, hR9⟩, hb9⟩; have k3 := (hb9.block (w.heap.size + 1 + 1) (by simp; omega)).trans ((Below.heap_alloc _ _ _ z3).trans HK.out.2.2); have k4 := (hb9.block wc.heap.size (by simp)).trans HK4.out; have y3 := blk_lt k3; have y4 := blk_lt k4; obtain ⟨x0, x1, x2, -, -, -⟩ := blk3 k4; obtain ⟨s0, s1, s2, g0, g1, g2⟩ := blk3 k3; have HK3 := hid k3; have HR9 := hid hR9; clear k3 k4 hR9))
      all_goals
        go_wp2
        have S9 := sto3 wx (w.heap.size + 1 + 1) (.int .i64 q) (.int .i64 t) (.slice A2 m2 c2)
        have h49 : Below wc.heap.size wc wx := hal.trans (hb9.mono hal.size)
        refine bodyPost_ret (v := .tuple #[.slice A9 n9 c9, .agg #[.int .i64 q, .int .i64 t, .slice A2 m2 c2], .int .i64 0]) (by simp [results, Tryz.results31, go_sem, s0, s1, s2]) rfl ⟨⟨A9, n9, c9, A2, m2, c2, rfl, HR9.out.lts HK3.out S9.lts, (HR5.out.below h49).lts HK3.out S9.lts⟩, ?_⟩
        exact S9.below (hbwc.trans (h49.mono hbwc.size)) (by omega)
end Go.Proofs.YtondnbnaoacanaaGreatDoor
/- Layer 7: contract of codec: Decode. -/
namespace Go.Proofs.YtondnbnaoacanaaGreatDoor
open Go.ChangeShapes Go.WideShapes Go.ChangeAt Go.RowKit Fb Go.Maps

theorem Equal7 {A A' : Option Addr} {n n' c c' B B' : Nat} {zs zs' : List Int} {w : World} (hS : Sl w B A n (by8 zs)) (hS' : Sl w B' A' n' (by8 zs')) (hb : Bytes zs) (hb' : Bytes zs') :
    Calls Tryz.prog 110 #[.slice A n c, .slice A' n' c'] w fun e w' => e = .returned (.bool (decide (zs = zs'))) ∧ w = w' := by
  have k1 := conv8 c hS
  have k2 := conv8 c' hS'
  have he := str_eq hb hb'
  clear hS hS'
  go_enter Tryz.func110, Tryz.ntmps110
  go_wp2
  go_ret
  exact ⟨rfl, rfl⟩

/-- an event as a value -/
def evV (x : Ev) : Value := .agg #[.int .i64 x.q, .int .i64 x.t, .int .i64 x.k, .string x.s, .int .i64 x.a, .int .i64 x.b, .int .i64 x.c]
/-- the event, what stands behind it, or why there is none -/
def Decs (w : World) (q0 t0 : Int) (ss : List ByteArray) (zs : List Int) (e : Ending) (w' : World) : Prop :=
  (∃ (A2 : Option Addr) (n2 c2 : Nat), e = .returned (.tuple #[evV (deX q0 t0 ss zs), .agg #[.int .i64 (deQ q0 t0 ss zs), .int .i64 (deT q0 t0 ss zs), .slice A2 n2 c2], .int .i64 (deE q0 t0 ss zs)]) ∧ Rs w' A2 n2 c2 (deL q0 t0 ss zs)) ∧ Below w.heap.size w w'
theorem sto7 (w : World) (g : Nat) (a b c d e f h : Value) : Sto g w (((((((w.setCell ⟨g, 0, none⟩ a).setCell ⟨g, 1, none⟩ b).setCell ⟨g, 2, none⟩ c).setCell ⟨g, 3, none⟩ d).setCell ⟨g, 4, none⟩ e).setCell ⟨g, 5, none⟩ f).setCell ⟨g, 6, none⟩ h) :=
  ((((((Sto.cell w g 0 a).trans (Sto.cell _ g 1 b)).trans (Sto.cell _ g 2 c)).trans (Sto.cell _ g 3 d)).trans (Sto.cell _ g 4 e)).trans (Sto.cell _ g 5 f)).trans (Sto.cell _ g 6 h)
theorem Rs.lo {w w' : World} {A : Option Addr} {n cp g L : Nat} {ss : List ByteArray} (h : Rs w A n cp ss) (hlo : ∀ a, A = some a → L ≤ a.block) (S : Sto g w w') (hg : g < L) : Rs w' A n cp ss :=
  ⟨by rw [S.size]; exact S.sl h.1 fun _ a ha => by have := hlo a ha; omega, h.2⟩
/-- names don't lie where an event without a name lies -/
theorem Rs.sto_ev {w w' : World} {A : Option Addr} {n cp g : Nat} {ss : List ByteArray} {t : TypeId} (h : Rs w A n cp ss) (hn : ∀ s ∈ ss, 1 ≤ s.size) (K : w.heap[g]? = some (.cells #[.int .i64 0, .int .i64 0, .int .i64 0, .string ⟨#[]⟩, .int .i64 0, .int .i64 0, .int .i64 0] t (0, 0))) (S : Sto g w w') : Rs w' A n cp ss := by
  refine ⟨?_, h.2⟩
  rw [S.size]
  refine S.sl h.1 fun hn0 ad hA e => ?_
  obtain ⟨b0, o, u, hA2, -, hu, hc⟩ := h.1.get hn0
  rw [hA] at hA2
  obtain rfl := Option.some.inj hA2
  simp only at e
  subst e
  rw [cell_of_row w b0 (o + 0) _ t (0, 0) K] at hc
  have hx := st9_at hu
  subst hx
  have hl : 0 < ss.length := by have := h.len; omega
  have h1 := hn _ (List.getElem_mem hl)
  rcases (show o = 0 ∨ o = 1 ∨ o = 2 ∨ o = 3 ∨ o = 4 ∨ o = 5 ∨ o = 6 ∨ 7 ≤ o by omega) with rfl | rfl | rfl | rfl | rfl | rfl | rfl | ho
  · cases hc
  · cases hc
  · cases hc
  · rw [List.getElem?_eq_getElem hl, Option.getD_some] at hc
    generalize ss[0] = y at *
    simp at hc
    subst hc
    exact absurd h1 (by decide)
  · cases hc
  · cases hc
  · cases hc
  · rw [Nat.add_zero, Array.getElem?_eq_none (by simpa using ho)] at hc
    cases hc
/-- no event has these bytes, where what was read isn't one -/
theorem no_Fo {q0 t0 : Int} {ss : List ByteArray} {zs : List Int} {x : Ev} (hr : rcB q0 t0 ss = true) (hx : ∀ y, Okk q0 t0 ss y → spB q0 t0 ss y = zs → x = y) (h : ¬ (flE q0 t0 ss x = 0 ∧ spB q0 t0 ss x = zs)) : ∀ y, ¬ Fo q0 t0 ss y zs := by
  intro y hy
  have := hx y (fl_ok hr hy.1) hy.2
  subst this
  exact h hy

set_option maxRecDepth 100000 in
set_option maxHeartbeats 16000000 in
theorem Decode_any (q0 t0 : Int) {A : Option Addr} {n cp : Nat} {ss : List ByteArray} (hz : Ok9 ss) {B : Option Addr} {m c : Nat} {zs : List Int} {w : World} (hR : Rs w A n cp ss) (hn9 : n ≤ 1000000) (hS : Rw w B m c zs) (hb : Bytes zs) (hm : m ≤ 100000) :
    Calls Tryz.prog 105 #[.agg #[.int .i64 q0, .int .i64 t0, .slice A n cp], .slice B m c] w (Decs w q0 t0 ss zs) := by
  have HZ := hid hz
  have PC := hid (fun (w1 : World) (h : Below w.heap.size w w1) => CloneS_any (c := cp) (hR.below h).1 (Nat.le_refl _) hR.2.2.2 hn9)
  have HS := hid (fun (w1 : World) (h : Below w.heap.size w w1) => hS.below h)
  have HB := hid hb
  have hbA : Below w.heap.size w (((w.alloc (.cells #[.int .i64 q0, .int .i64 t0, .slice A n cp] 24)).alloc (.cells #[.int .i64 0, .int .i64 0, .int .i64 0, .string ⟨#[]⟩, .int .i64 0, .int .i64 0, .int .i64 0] 41)).alloc (.cells #[.int .i64 0, .int .i64 0, .slice none 0 0] 24)) := (((Below.refl _ _).alloc (Nat.le_refl _) _).alloc (by simp) _).alloc (by simp; omega) _
  clear hz hR hS hb
  cases hr : rcB q0 t0 ss with
  | false =>
    go_enter Tryz.func105, Tryz.ntmps105
    go_wp2_with fail
    refine (PC.out _ hbA).mono ?_
    rintro e wa ⟨⟨v, rfl, hown⟩, hb1⟩
    obtain ⟨A1, c1, rfl, hR1, hlo⟩ := own_rs hown
    have HLO := hid (show ∀ a, A1 = some a → w.heap.size + 3 ≤ a.block from fun a ha => by have := hlo a ha; simp at this; omega)
    clear hown hlo
    have hbwa : Below w.heap.size w wa := hbA.trans (hb1.mono hbA.size)
    obtain ⟨K1, K2, K3⟩ := kept3 hb1
    have z1 := blk_lt K1
    obtain ⟨u10, u11, u12, f10, f11, f12⟩ := blk3 K1
    have z2 := blk_lt K2
    obtain ⟨u20, u21, u22, u23, u24, u25, u26⟩ := blk7 K2
    have v2 := blk7f K2
    have z3 := blk_lt K3
    obtain ⟨u30, u31, u32, f30, f31, f32⟩ := blk3 K3
    have HK := hid (And.intro K1 (And.intro K2 (K3)))
    clear K1 K2 K3
    go_wp2_with fail
    obtain ⟨wa1, hWwa1⟩ : ∃ w9, w9 = (wa).setCell ⟨w.heap.size, 2, none⟩ (.slice A1 n c1) := ⟨_, rfl⟩
    rw [← hWwa1]
    have STwa1 : Sto (w.heap.size) wa wa1 := by rw [hWwa1]; exact Sto.cell _ _ _ _
    have K1 : wa1.heap[w.heap.size]? = some (.cells #[.int .i64 q0, .int .i64 t0, .slice A1 n c1] 24 (0, 0)) := by rw [hWwa1]; exact (fld3 HK.out.1).2.2
    have K2 := (STwa1.block _ (by omega)).trans HK.out.2.1
    have K3 := (STwa1.block _ (by omega)).trans HK.out.2.2
    have hbwa1 : Below w.heap.size w wa1 := STwa1.below hbwa (by omega)
    clear z1 u10 u11 u12 f10 f11 f12 z2 u20 u21 u22 u23 u24 u25 u26 v2 z3 u30 u31 u32 f30 f31 f32 HK hWwa1
    have z1 := blk_lt K1
    obtain ⟨u10, u11, u12, f10, f11, f12⟩ := blk3 K1
    have z2 := blk_lt K2
    obtain ⟨u20, u21, u22, u23, u24, u25, u26⟩ := blk7 K2
    have v2 := blk7f K2
    have z3 := blk_lt K3
    obtain ⟨u30, u31, u32, f30, f31, f32⟩ := blk3 K3
    have HK := hid (And.intro K1 (And.intro K2 (K3)))
    clear K1 K2 K3
    have HR2 := hid (hR1.lo HLO.out STwa1 (by omega))
    clear hR1 STwa1 hbwa hb1
    have PR := hid (CRight_any q0 t0 (cp := c1) HZ.out HR2.out.1 (Nat.le_refl _))
    rw [hr] at PR
    refine PR.out.mono ?_
    rintro e wb ⟨rfl, hb1⟩
    have hbwb : Below w.heap.size w wb := hbwa1.trans (hb1.mono hbwa1.size)
    have K1 := (hb1.block _ z1).trans HK.out.1
    have K2 := (hb1.block _ z2).trans HK.out.2.1
    have K3 := (hb1.block _ z3).trans HK.out.2.2
    clear z1 u10 u11 u12 f10 f11 f12 z2 u20 u21 u22 u23 u24 u25 u26 v2 z3 u30 u31 u32 f30 f31 f32 HK
    have z1 := blk_lt K1
    obtain ⟨u10, u11, u12, f10, f11, f12⟩ := blk3 K1
    have z2 := blk_lt K2
    obtain ⟨u20, u21, u22, u23, u24, u25, u26⟩ := blk7 K2
    have v2 := blk7f K2
    have z3 := blk_lt K3
    obtain ⟨u30, u31, u32, f30, f31, f32⟩ := blk3 K3
    have HK := hid (And.intro K1 (And.intro K2 (K3)))
    clear K1 K2 K3
    have HR3 := hid (HR2.out.below hb1)
    clear HR2 hb1 hbwa1 PR
    have HD := hid (de_bad (zs := zs) hr)
    go_wp2_with fail
    go_region
    go_wp2
    refine bodyPost_ret (v := .tuple #[.agg #[.int .i64 0, .int .i64 0, .int .i64 0, .string ⟨#[]⟩, .int .i64 0, .int .i64 0, .int .i64 0], .agg #[.int .i64 q0, .int .i64 t0, .slice A1 n c1], .int .i64 1]) (by simp [results, Tryz.results105, go_sem, u20, u21, u22, u23, u24, u25, u26, u30, u31, u32]) rfl ⟨⟨A1, n, c1, ?_, ?_⟩, ?_⟩
    · rw [HD.out.1, HD.out.2.1, HD.out.2.2.1, HD.out.2.2.2.1]; rfl
    · rw [HD.out.2.2.2.2]
      exact ((HR3.out.lo HLO.out (sto7 wb (w.heap.size + 1) (.int .i64 0) (.int .i64 0) (.int .i64 0) (.string ⟨#[]⟩) (.int .i64 0) (.int .i64 0) (.int .i64 0)) (by omega)).lo HLO.out (sto3 _ (w.heap.size + 1 + 1) (.int .i64 q0) (.int .i64 t0) (.slice A1 n c1)) (by omega)).drew
    · exact Below.drew (((sto3 _ (w.heap.size + 1 + 1) (.int .i64 q0) (.int .i64 t0) (.slice A1 n c1))).below (((sto7 wb (w.heap.size + 1) (.int .i64 0) (.int .i64 0) (.int .i64 0) (.string ⟨#[]⟩) (.int .i64 0) (.int .i64 0) (.int .i64 0))).below hbwb (by omega)) (by omega))
  | true =>
    go_enter Tryz.func105, Tryz.ntmps105
    go_wp2_with fail
    refine (PC.out _ hbA).mono ?_
    rintro e wa ⟨⟨v, rfl, hown⟩, hb1⟩
    obtain ⟨A1, c1, rfl, hR1, hlo⟩ := own_rs hown
    have HLO := hid (show ∀ a, A1 = some a → w.heap.size + 3 ≤ a.block from fun a ha => by have := hlo a ha; simp at this; omega)
    clear hown hlo
    have hbwa : Below w.heap.size w wa := hbA.trans (hb1.mono hbA.size)
    obtain ⟨K1, K2, K3⟩ := kept3 hb1
    have z1 := blk_lt K1
    obtain ⟨u10, u11, u12, f10, f11, f12⟩ := blk3 K1
    have z2 := blk_lt K2
    obtain ⟨u20, u21, u22, u23, u24, u25, u26⟩ := blk7 K2
    have v2 := blk7f K2
    have z3 := blk_lt K3
    obtain ⟨u30, u31, u32, f30, f31, f32⟩ := blk3 K3
    have HK := hid (And.intro K1 (And.intro K2 (K3)))
    clear K1 K2 K3
    go_wp2_with fail
    obtain ⟨wa1, hWwa1⟩ : ∃ w9, w9 = (wa).setCell ⟨w.heap.size, 2, none⟩ (.slice A1 n c1) := ⟨_, rfl⟩
    rw [← hWwa1]
    have STwa1 : Sto (w.heap.size) wa wa1 := by rw [hWwa1]; exact Sto.cell _ _ _ _
    have K1 : wa1.heap[w.heap.size]? = some (.cells #[.int .i64 q0, .int .i64 t0, .slice A1 n c1] 24 (0, 0)) := by rw [hWwa1]; exact (fld3 HK.out.1).2.2
    have K2 := (STwa1.block _ (by omega)).trans HK.out.2.1
    have K3 := (STwa1.block _ (by omega)).trans HK.out.2.2
    have hbwa1 : Below w.heap.size w wa1 := STwa1.below hbwa (by omega)
    clear z1 u10 u11 u12 f10 f11 f12 z2 u20 u21 u22 u23 u24 u25 u26 v2 z3 u30 u31 u32 f30 f31 f32 HK hWwa1
    have z1 := blk_lt K1
    obtain ⟨u10, u11, u12, f10, f11, f12⟩ := blk3 K1
    have z2 := blk_lt K2
    obtain ⟨u20, u21, u22, u23, u24, u25, u26⟩ := blk7 K2
    have v2 := blk7f K2
    have z3 := blk_lt K3
    obtain ⟨u30, u31, u32, f30, f31, f32⟩ := blk3 K3
    have HK := hid (And.intro K1 (And.intro K2 (K3)))
    clear K1 K2 K3
    have HR2 := hid (hR1.lo HLO.out STwa1 (by omega))
    clear hR1 STwa1 hbwa hb1
    have PR := hid (CRight_any q0 t0 (cp := c1) HZ.out HR2.out.1 (Nat.le_refl _))
    rw [hr] at PR
    refine PR.out.mono ?_
    rintro e wb ⟨rfl, hb1⟩
    have hbwb : Below w.heap.size w wb := hbwa1.trans (hb1.mono hbwa1.size)
    have K1 := (hb1.block _ z1).trans HK.out.1
    have K2 := (hb1.block _ z2).trans HK.out.2.1
    have K3 := (hb1.block _ z3).trans HK.out.2.2
    clear z1 u10 u11 u12 f10 f11 f12 z2 u20 u21 u22 u23 u24 u25 u26 v2 z3 u30 u31 u32 f30 f31 f32 HK
    have z1 := blk_lt K1
    obtain ⟨u10, u11, u12, f10, f11, f12⟩ := blk3 K1
    have z2 := blk_lt K2
    obtain ⟨u20, u21, u22, u23, u24, u25, u26⟩ := blk7 K2
    have v2 := blk7f K2
    have z3 := blk_lt K3
    obtain ⟨u30, u31, u32, f30, f31, f32⟩ := blk3 K3
    have HK := hid (And.intro K1 (And.intro K2 (K3)))
    clear K1 K2 K3
    have HR3 := hid (HR2.out.below hb1)
    clear HR2 hb1 hbwa1 PR
    have PRD := hid (read_any q0 t0 (cn := c1) HZ.out HR3.out hn9 (HS.out _ hbwb) HB.out hm)
    unfold Reads7 at PRD
    go_wp2_with fail
    refine PRD.out.mono ?_
    rintro e wc ⟨⟨xq, xt, xk, xa, xb, xd, xs, rfl, HXS, HXE⟩, hb1⟩
    have hbwc : Below w.heap.size w wc := hbwb.trans (hb1.mono hbwb.size)
    have K1 := (hb1.block _ z1).trans HK.out.1
    have K2 := (hb1.block _ z2).trans HK.out.2.1
    have K3 := (hb1.block _ z3).trans HK.out.2.2
    clear z1 u10 u11 u12 f10 f11 f12 z2 u20 u21 u22 u23 u24 u25 u26 v2 z3 u30 u31 u32 f30 f31 f32 HK
    have z1 := blk_lt K1
    obtain ⟨u10, u11, u12, f10, f11, f12⟩ := blk3 K1
    have z2 := blk_lt K2
    obtain ⟨u20, u21, u22, u23, u24, u25, u26⟩ := blk7 K2
    have v2 := blk7f K2
    have z3 := blk_lt K3
    obtain ⟨u30, u31, u32, f30, f31, f32⟩ := blk3 K3
    have HK := hid (And.intro K1 (And.intro K2 (K3)))
    clear K1 K2 K3
    have HR4 := hid (HR3.out.below hb1)
    clear HR3 hb1 hbwb PRD
    have hal : Below wc.heap.size wc (wc.alloc (.cells #[.int .i64 xq, .int .i64 xt, .int .i64 xk, .string xs, .int .i64 xa, .int .i64 xb, .int .i64 xd] 41)) := (Below.refl _ _).alloc (Nat.le_refl _) _
    have PF := hid (follow_any q0 t0 (cp := c1) HZ.out xq xt xk xa xb xd HXS.out (HR4.out.below hal))
    unfold Folls at PF
    obtain ⟨E, hE⟩ : ∃ E, flE q0 t0 ss ⟨xq, xt, xk, xs, xa, xb, xd⟩ = E := ⟨_, rfl⟩
    rw [hE] at PF
    have HE := hid hE
    clear hE
    go_wp2_with fail
    refine PF.out.mono ?_
    rintro e wd ⟨⟨q1, t1, A2, m2, c2, rfl, hF⟩, hb2⟩
    have hbwd : Below w.heap.size w wd := (hbwc.alloc (by omega) _).trans (hb2.mono (by simp; omega))
    have K1 := (hb2.block _ (by simp; omega)).trans ((Below.heap_alloc _ _ _ z1).trans HK.out.1)
    have K2 := (hb2.block _ (by simp; omega)).trans ((Below.heap_alloc _ _ _ z2).trans HK.out.2.1)
    have K3 := (hb2.block _ (by simp; omega)).trans ((Below.heap_alloc _ _ _ z3).trans HK.out.2.2)
    have K4 := (hb2.block _ (by simp)).trans (heap_alloc_new wc _)
    obtain ⟨ge, hge⟩ : ∃ g, wc.heap.size = g := ⟨_, rfl⟩
    have lge : w.heap.size + 3 ≤ ge := by omega
    rw [hge] at K4
    clear z1 u10 u11 u12 f10 f11 f12 z2 u20 u21 u22 u23 u24 u25 u26 v2 z3 u30 u31 u32 f30 f31 f32 HK
    have z1 := blk_lt K1
    obtain ⟨u10, u11, u12, f10, f11, f12⟩ := blk3 K1
    have z2 := blk_lt K2
    obtain ⟨u20, u21, u22, u23, u24, u25, u26⟩ := blk7 K2
    have v2 := blk7f K2
    have z3 := blk_lt K3
    obtain ⟨u30, u31, u32, f30, f31, f32⟩ := blk3 K3
    have z4 := blk_lt K4
    obtain ⟨u40, u41, u42, u43, u44, u45, u46⟩ := blk7 K4
    have v4 := blk7f K4
    have HK := hid (And.intro K1 (And.intro K2 (And.intro K3 (K4))))
    clear K1 K2 K3 K4
    rw [hge]
    have HR5 := hid ((HR4.out.below hal).below hb2)
    have HF := hid hF
    clear HR4 hb2 hal hbwc PF hF hge
    by_cases h0 : E = 0
    · subst h0
      have ok := fl_ok hr HE.out
      obtain ⟨rfl, rfl, hR6⟩ : xq = q1 ∧ xt = t1 ∧ _ := ⟨(HF.out rfl).1.symm, (HF.out rfl).2.1.symm, (HF.out rfl).2.2⟩
      have HR6 := hid hR6
      clear HF hR6
      have hal : Below wd.heap.size wd (wd.alloc (.cells #[.int .i64 xq, .int .i64 xt, .slice A2 m2 c2] 24)) := (Below.refl _ _).alloc (Nat.le_refl _) _
      have PS := hid (spell_any q0 t0 (cp := c1) HZ.out xq xt xk xa xb xd ok (HR5.out.below hal))
      have HNE := hid (show ∀ s ∈ flL ss ⟨xq, xt, xk, xs, xa, xb, xd⟩, 1 ≤ s.size from fun s hs => (nm_size (((rgB_iff _).1 ((rc_iff _ _ _).1 (rc_next hr HE.out)).2.2).2.1 s hs)).1)
      obtain ⟨SP, hSP⟩ : ∃ SP, spB q0 t0 ss ⟨xq, xt, xk, xs, xa, xb, xd⟩ = SP := ⟨_, rfl⟩
      rw [hSP] at PS
      have HBS := hid (hSP ▸ sp_bytes q0 t0 ss ⟨xq, xt, xk, xs, xa, xb, xd⟩)
      have HSP := hid hSP
      clear hSP ok
      go_wp2_with fail
      refine PS.out.mono ?_
      rintro e we ⟨⟨A9, n9, c9, rfl, hR9⟩, hb3⟩
      have HR7 := hid ((HR5.out.below hal).below hb3)
      have HR8 := hid ((HR6.out.below hal).below hb3)
      have HR9 := hid hR9
      have hbwe : Below w.heap.size w we := (hbwd.alloc (by omega) _).trans (hb3.mono (by simp; omega))
      have K1 := (hb3.block _ (by simp; omega)).trans ((Below.heap_alloc _ _ _ z1).trans HK.out.1)
      have K2 := (hb3.block _ (by simp; omega)).trans ((Below.heap_alloc _ _ _ z2).trans HK.out.2.1)
      have K3 := (hb3.block _ (by simp; omega)).trans ((Below.heap_alloc _ _ _ z3).trans HK.out.2.2.1)
      have K4 := (hb3.block _ (by simp; omega)).trans ((Below.heap_alloc _ _ _ z4).trans HK.out.2.2.2)
      have K5 := (hb3.block _ (by simp)).trans (heap_alloc_new wd _)
      obtain ⟨gx, hgx⟩ : ∃ g, wd.heap.size = g := ⟨_, rfl⟩
      have lgx : w.heap.size + 3 ≤ gx := by omega
      rw [hgx] at K5
      clear z1 u10 u11 u12 f10 f11 f12 z2 u20 u21 u22 u23 u24 u25 u26 v2 z3 u30 u31 u32 f30 f31 f32 z4 u40 u41 u42 u43 u44 u45 u46 v4 HK
      have z1 := blk_lt K1
      obtain ⟨u10, u11, u12, f10, f11, f12⟩ := blk3 K1
      have z2 := blk_lt K2
      obtain ⟨u20, u21, u22, u23, u24, u25, u26⟩ := blk7 K2
      have v2 := blk7f K2
      have z3 := blk_lt K3
      obtain ⟨u30, u31, u32, f30, f31, f32⟩ := blk3 K3
      have z4 := blk_lt K4
      obtain ⟨u40, u41, u42, u43, u44, u45, u46⟩ := blk7 K4
      have v4 := blk7f K4
      have z5 := blk_lt K5
      obtain ⟨u50, u51, u52, f50, f51, f52⟩ := blk3 K5
      have HK := hid (And.intro K1 (And.intro K2 (And.intro K3 (And.intro K4 (K5)))))
      clear K1 K2 K3 K4 K5
      rw [hgx]
      have PE := hid (Equal7 (c := c9) (c' := c) HR9.out.1 (HS.out _ hbwe).1 HBS.out HB.out)
      clear HR5 HR6 hb3 hal hbwd PS hR9 hgx
      by_cases hs : SP = zs
      · have HD := hid (de_yes hr ⟨HE.out, HSP.out.trans hs⟩)
        rw [decide_eq_true hs] at PE
        clear hs
        go_wp2_with fail
        refine PE.out.mono ?_
        rintro e wf ⟨rfl, rfl⟩
        go_wp2_with fail
        go_region
        go_wp2
        refine bodyPost_ret (v := .tuple #[.agg #[.int .i64 xq, .int .i64 xt, .int .i64 xk, .string xs, .int .i64 xa, .int .i64 xb, .int .i64 xd], .agg #[.int .i64 xq, .int .i64 xt, .slice A2 m2 c2], .int .i64 0]) (by simp [results, Tryz.results105, go_sem, u20, u21, u22, u23, u24, u25, u26, u30, u31, u32]) rfl ⟨⟨A2, m2, c2, ?_, ?_⟩, ?_⟩
        · rw [HD.out.1, HD.out.2.1, HD.out.2.2.1, HD.out.2.2.2.1]; rfl
        · rw [HD.out.2.2.2.2]
          exact ((HR8.out.sto_ev HNE.out HK.out.2.1 (sto7 we (w.heap.size + 1) (.int .i64 xq) (.int .i64 xt) (.int .i64 xk) (.string xs) (.int .i64 xa) (.int .i64 xb) (.int .i64 xd))).sto (((sto7 we (w.heap.size + 1) (.int .i64 xq) (.int .i64 xt) (.int .i64 xk) (.string xs) (.int .i64 xa) (.int .i64 xb) (.int .i64 xd)).block (w.heap.size + 1 + 1) (by omega)).trans HK.out.2.2.1) (sto3 _ (w.heap.size + 1 + 1) (.int .i64 xq) (.int .i64 xt) (.slice A2 m2 c2))).drew
        · exact Below.drew (((sto3 _ (w.heap.size + 1 + 1) (.int .i64 xq) (.int .i64 xt) (.slice A2 m2 c2))).below (((sto7 we (w.heap.size + 1) (.int .i64 xq) (.int .i64 xt) (.int .i64 xk) (.string xs) (.int .i64 xa) (.int .i64 xb) (.int .i64 xd))).below hbwe (by omega)) (by omega))
      · have HD := hid (de_none hr (no_Fo hr HXE.out (fun h => hs (HSP.out.symm.trans h.2))))
        rw [decide_eq_false hs] at PE
        clear hs
        go_wp2_with fail
        refine PE.out.mono ?_
        rintro e wf ⟨rfl, rfl⟩
        go_wp2_with fail
        go_region
        go_wp2
        refine bodyPost_ret (v := .tuple #[.agg #[.int .i64 0, .int .i64 0, .int .i64 0, .string ⟨#[]⟩, .int .i64 0, .int .i64 0, .int .i64 0], .agg #[.int .i64 q0, .int .i64 t0, .slice A1 n c1], .int .i64 11]) (by simp [results, Tryz.results105, go_sem, u20, u21, u22, u23, u24, u25, u26, u30, u31, u32]) rfl ⟨⟨A1, n, c1, ?_, ?_⟩, ?_⟩
        · rw [HD.out.1, HD.out.2.1, HD.out.2.2.1, HD.out.2.2.2.1]; rfl
        · rw [HD.out.2.2.2.2]
          exact ((HR7.out.lo HLO.out (sto7 we (w.heap.size + 1) (.int .i64 0) (.int .i64 0) (.int .i64 0) (.string ⟨#[]⟩) (.int .i64 0) (.int .i64 0) (.int .i64 0)) (by omega)).lo HLO.out (sto3 _ (w.heap.size + 1 + 1) (.int .i64 q0) (.int .i64 t0) (.slice A1 n c1)) (by omega)).drew
        · exact Below.drew (((sto3 _ (w.heap.size + 1 + 1) (.int .i64 q0) (.int .i64 t0) (.slice A1 n c1))).below (((sto7 we (w.heap.size + 1) (.int .i64 0) (.int .i64 0) (.int .i64 0) (.string ⟨#[]⟩) (.int .i64 0) (.int .i64 0) (.int .i64 0))).below hbwe (by omega)) (by omega))
    · have HD := hid (de_none hr (no_Fo hr HXE.out (fun h => h0 (HE.out.symm.trans h.1))))
      go_wp2_with fail
      go_region
      go_wp2
      refine bodyPost_ret (v := .tuple #[.agg #[.int .i64 0, .int .i64 0, .int .i64 0, .string ⟨#[]⟩, .int .i64 0, .int .i64 0, .int .i64 0], .agg #[.int .i64 q0, .int .i64 t0, .slice A1 n c1], .int .i64 11]) (by simp [results, Tryz.results105, go_sem, z2, z3, u20, u21, u22, u23, u24, u25, u26, u30, u31, u32]) rfl ⟨⟨A1, n, c1, ?_, ?_⟩, ?_⟩
      · rw [HD.out.1, HD.out.2.1, HD.out.2.2.1, HD.out.2.2.2.1]; rfl
      · rw [HD.out.2.2.2.2]
        exact (((HR5.out.lo HLO.out (sto7 wd (w.heap.size + 1) (.int .i64 0) (.int .i64 0) (.int .i64 0) (.string ⟨#[]⟩) (.int .i64 0) (.int .i64 0) (.int .i64 0)) (by omega)).lo HLO.out (sto3 _ (w.heap.size + 1 + 1) (.int .i64 q0) (.int .i64 t0) (.slice A1 n c1)) (by omega)).below ((Below.refl _ _).alloc (Nat.le_refl _) _)).drew
      · exact Below.drew (Below.alloc (((sto3 _ (w.heap.size + 1 + 1) (.int .i64 q0) (.int .i64 t0) (.slice A1 n c1))).below (((sto7 wd (w.heap.size + 1) (.int .i64 0) (.int .i64 0) (.int .i64 0) (.string ⟨#[]⟩) (.int .i64 0) (.int .i64 0) (.int .i64 0))).below hbwd (by omega)) (by omega)) (by simp; omega) _)
end Go.Proofs.YtondnbnaoacanaaGreatDoor
/- Layer 7: contract of the reference: Same. -/
namespace Go.Proofs.YtondnbnaoacanaaGreatDoor
open Go.ChangeShapes Go.WideShapes Go.ChangeAt Go.RowKit Fb Go.Maps

set_option maxHeartbeats 4000000 in
theorem RSame7 {q0 t0 q1 t1 : Int} {A A' : Option Addr} {n c n' c' : Nat} {xs ys : List ByteArray} {w : World} (hS : Rs w A n c xs) (hS' : Rs w A' n' c' ys) (hn : n ≤ 1000000) :
    Calls Tryz.prog 15 #[.agg #[.int .i64 q0, .int .i64 t0, .slice A n c], .agg #[.int .i64 q1, .int .i64 t1, .slice A' n' c']] w fun e w' => e = .returned (.bool (decide (q0 = q1 ∧ t0 = t1 ∧ xs = ys))) ∧ Below w.heap.size w w' := by
  have hbA : Below w.heap.size w ((w.alloc (.cells #[.int .i64 q0, .int .i64 t0, .slice A n c] 24)).alloc (.cells #[.int .i64 q1, .int .i64 t1, .slice A' n' c'] 24)) := ((Below.refl _ _).alloc (Nat.le_refl _) _).alloc (by simp) _
  have PS := hid (RSame_any (c := c) (c' := c') (hS.below hbA).1 (hS'.below hbA).1 (Nat.le_refl _) (Nat.le_refl _) hn)
  clear hS hS'
  by_cases h1 : q0 = q1
  · by_cases h2 : t0 = t1
    · have e : decide (q0 = q1 ∧ t0 = t1 ∧ xs = ys) = decide (xs = ys) := by simp [h1, h2]
      rw [e]
      subst h1 h2
      go_enter Tryz.func15, Tryz.ntmps15
      go_wp2_with fail
      refine PS.out.mono ?_
      rintro e w1 ⟨rfl, hb1⟩
      go_wp2_with fail
      go_ret
      exact ⟨rfl, hbA.trans (hb1.mono hbA.size)⟩
    · have e : decide (q0 = q1 ∧ t0 = t1 ∧ xs = ys) = false := decide_eq_false (fun h => h2 h.2.1)
      rw [e]
      subst h1
      clear e
      go_enter Tryz.func15, Tryz.ntmps15
      go_wp2_with fail
      go_ret
      exact ⟨rfl, hbA⟩
  · have e : decide (q0 = q1 ∧ t0 = t1 ∧ xs = ys) = false := decide_eq_false (fun h => h1 h.1)
    rw [e]
    clear e
    go_enter Tryz.func15, Tryz.ntmps15
    go_wp2_with fail
    go_ret
    exact ⟨rfl, hbA⟩

end Go.Proofs.YtondnbnaoacanaaGreatDoor
