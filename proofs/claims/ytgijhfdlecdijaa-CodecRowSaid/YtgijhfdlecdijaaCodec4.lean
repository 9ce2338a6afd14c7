/- Layer 7: contract of codec: Encode. -/
import Derived.Test.YtgijhfdlecdijaaCodec3
import Derived.Test.YtgijhfdlecdijaaEnvD
namespace Go.Proofs.Ytgijhfdlecdijaa
open Go.ChangeShapes Go.WideShapes Go.ChangeAt Go.RowKit Fb Go.Maps

/-- bytes, what stands behind, and why not -/
def Encs (w : World) (q0 t0 : Int) (ss : List ByteArray) (x : Ev) (e : Ending) (w' : World) : Prop :=
  (∃ (A1 : Option Addr) (n1 c1 : Nat) (A2 : Option Addr) (n2 c2 : Nat), e = .returned (.tuple #[.slice A1 n1 c1, .agg #[.int .i64 (enQ q0 t0 ss x), .int .i64 (enT q0 t0 ss x), .slice A2 n2 c2], .int .i64 (enE q0 t0 ss x)]) ∧ Rw w' A1 n1 c1 (enB q0 t0 ss x) ∧ Rs w' A2 n2 c2 (enL q0 t0 ss x)) ∧ Below w.heap.size w w'
/-- names, and bytes, don't lie where what was ahead lies -/
theorem Rs.lts {w w' : World} {A : Option Addr} {n cp g : Nat} {ss : List ByteArray} {t : TypeId} {a b : Int} {X : Option Addr} {y z : Nat} (h : Rs w A n cp ss) (K : w.heap[g]? = some (.cells #[.int .i64 a, .int .i64 b, .slice X y z] t (0, 0))) (S : Lts g w w') : Rs w' A n cp ss := by
  refine ⟨S.sl h.1 fun hn ad hA e => ?_, h.2⟩
  obtain ⟨b0, o, u, hA2, -, hu, hc⟩ := h.1.get hn
  rw [hA] at hA2
  obtain rfl := Option.some.inj hA2
  simp only at e
  subst e
  rw [cell_of_row w b0 (o + 0) _ t (0, 0) K] at hc
  have hx := st9_at hu
  subst hx
  rcases (show o = 0 ∨ o = 1 ∨ o = 2 ∨ 3 ≤ o by omega) with rfl | rfl | rfl | ho
  · cases hc
  · cases hc
  · cases hc
  · rw [Nat.add_zero, Array.getElem?_eq_none (by simpa using ho)] at hc
    cases hc
theorem Rw.lts {w w' : World} {A : Option Addr} {n c g : Nat} {zs : List Int} {t : TypeId} {a b : Int} {X : Option Addr} {y z : Nat} (h : Rw w A n c zs) (K : w.heap[g]? = some (.cells #[.int .i64 a, .int .i64 b, .slice X y z] t (0, 0))) (S : Lts g w w') : Rw w' A n c zs := by
  refine ⟨S.sl h.1 fun hn ad hA e => ?_, h.2⟩
  obtain ⟨b0, o, u, hA2, -, hu, hc⟩ := h.1.get hn
  rw [hA] at hA2
  obtain rfl := Option.some.inj hA2
  simp only at e
  subst e
  rw [cell_of_row w b0 (o + 0) _ t (0, 0) K] at hc
  rw [by8, List.getElem?_map] at hu
  obtain ⟨v, -, rfl⟩ := Option.map_eq_some_iff.1 hu
  rcases (show o = 0 ∨ o = 1 ∨ o = 2 ∨ 3 ≤ o by omega) with rfl | rfl | rfl | ho
  · cases hc
  · cases hc
  · cases hc
  · rw [Nat.add_zero, Array.getElem?_eq_none (by simpa using ho)] at hc
    cases hc
theorem Rs.drew {w : World} {A : Option Addr} {n cp : Nat} {ss : List ByteArray} (h : Rs w A n cp ss) : Rs w.drew A n cp ss := h
theorem Rw.drew {w : World} {A : Option Addr} {n c : Nat} {zs : List Int} (h : Rw w A n c zs) : Rw w.drew A n c zs := h
theorem en_bad {q0 t0 : Int} {ss : List ByteArray} {x : Ev} (h : rcB q0 t0 ss = false) : enE q0 t0 ss x = 1 := by unfold enE; rw [if_neg (by simp [h])]
theorem en_fl {q0 t0 : Int} {ss : List ByteArray} {x : Ev} (h : rcB q0 t0 ss = true) : enE q0 t0 ss x = flE q0 t0 ss x := by unfold enE; rw [if_pos h]

set_option maxRecDepth 100000 in
set_option maxHeartbeats 16000000 in
theorem Encode_any (q0 t0 : Int) {A : Option Addr} {n cp : Nat} {ss : List ByteArray} (hz : Ok9 ss) (q t k a b d : Int) {s : ByteArray} (hs : s.size ≤ maxLen) {w : World} (hR : Rs w A n cp ss) (hn9 : n ≤ 1000000) :
    Calls Try.prog 7 #[.agg #[.int .i64 q0, .int .i64 t0, .slice A n cp], .agg #[.int .i64 q, .int .i64 t, .int .i64 k, .string s, .int .i64 a, .int .i64 b, .int .i64 d]] w (Encs w q0 t0 ss ⟨q, t, k, s, a, b, d⟩) := by
  have HZ := hid hz
  have PC := hid (fun (w1 : World) (h : Below w.heap.size w w1) => CloneS_any (c := cp) (hR.below h).1 (Nat.le_refl _) hR.2.2.2 hn9)
  have hbA : Below w.heap.size w (((w.alloc (.cells #[.int .i64 q0, .int .i64 t0, .slice A n cp] 24)).alloc (.cells #[.int .i64 q, .int .i64 t, .int .i64 k, .string s, .int .i64 a, .int .i64 b, .int .i64 d] 26)).alloc (.cells #[.int .i64 0, .int .i64 0, .slice none 0 0] 24)) := (((Below.refl _ _).alloc (Nat.le_refl _) _).alloc (by simp) _).alloc (by simp; omega) _
  clear hz hR
  cases hr : rcB q0 t0 ss with
  | false =>
    have en := en_bad (x := ⟨q, t, k, s, a, b, d⟩) hr
    obtain ⟨n1, n2, n3, n4⟩ := en_not (q0 := q0) (t0 := t0) (ss := ss) (x := ⟨q, t, k, s, a, b, d⟩) (by omega)
    unfold Encs
    rw [en, n1, n2, n3, n4]
    clear en n1 n2 n3 n4
    go_enter Try.func7, Try.ntmps7
    go_wp2_with fail
    refine (PC.out _ hbA).mono ?_
    rintro e wa ⟨⟨v, rfl, hown⟩, hb1⟩
    obtain ⟨A1, c1, rfl, hR1, -⟩ := own_rs hown
    clear hown
    have hbwa : Below w.heap.size w wa := hbA.trans (hb1.mono hbA.size)
    obtain ⟨K1, K2, K3⟩ := kept3 hb1
    have z1 := blk_lt K1
    obtain ⟨u10, u11, u12, f10, f11, f12⟩ := blk3 K1
    have z2 := blk_lt K2
    obtain ⟨u20, u21, u22, u23, u24, u25, u26⟩ := blk7 K2
    have z3 := blk_lt K3
    obtain ⟨u30, u31, u32, f30, f31, f32⟩ := blk3 K3
    have HK := hid (And.intro K1 (And.intro K2 (K3)))
    clear K1 K2 K3
    go_wp2_with fail
    have K1o := hid HK.out.1
    obtain ⟨wa1, hWwa1⟩ : ∃ w9, w9 = (wa).setCell ⟨w.heap.size, 2, none⟩ (.slice A1 n c1) := ⟨_, rfl⟩
    rw [← hWwa1]
    have STwa1 : Sto (w.heap.size) wa wa1 := by rw [hWwa1]; exact Sto.cell _ _ _ _
    have K1 : wa1.heap[w.heap.size]? = some (.cells #[.int .i64 q0, .int .i64 t0, .slice A1 n c1] 24 (0, 0)) := by rw [hWwa1]; exact (fld3 HK.out.1).2.2
    have K2 := (STwa1.block _ (by omega)).trans HK.out.2.1
    have K3 := (STwa1.block _ (by omega)).trans HK.out.2.2
    have hbwa1 : Below w.heap.size w wa1 := STwa1.below hbwa (by omega)
    clear z1 u10 u11 u12 f10 f11 f12 z2 u20 u21 u22 u23 u24 u25 u26 z3 u30 u31 u32 f30 f31 f32 HK hWwa1
    have z1 := blk_lt K1
    obtain ⟨u10, u11, u12, f10, f11, f12⟩ := blk3 K1
    have z2 := blk_lt K2
    obtain ⟨u20, u21, u22, u23, u24, u25, u26⟩ := blk7 K2
    have z3 := blk_lt K3
    obtain ⟨u30, u31, u32, f30, f31, f32⟩ := blk3 K3
    have HK := hid (And.intro K1 (And.intro K2 (K3)))
    clear K1 K2 K3
    have HR2 := hid (hR1.sto K1o.out STwa1)
    clear hR1 K1o STwa1 hbwa hb1
    have PR := hid (CRight_any q0 t0 (cp := c1) HZ.out HR2.out.1 (Nat.le_refl _))
    rw [hr] at PR
    refine PR.out.mono ?_
    rintro e wb ⟨rfl, hb1⟩
    have hbwb : Below w.heap.size w wb := hbwa1.trans (hb1.mono hbwa1.size)
    have K1 := (hb1.block _ z1).trans HK.out.1
    have K2 := (hb1.block _ z2).trans HK.out.2.1
    have K3 := (hb1.block _ z3).trans HK.out.2.2
    clear z1 u10 u11 u12 f10 f11 f12 z2 u20 u21 u22 u23 u24 u25 u26 z3 u30 u31 u32 f30 f31 f32 HK
    have z1 := blk_lt K1
    obtain ⟨u10, u11, u12, f10, f11, f12⟩ := blk3 K1
    have z2 := blk_lt K2
    obtain ⟨u20, u21, u22, u23, u24, u25, u26⟩ := blk7 K2
    have z3 := blk_lt K3
    obtain ⟨u30, u31, u32, f30, f31, f32⟩ := blk3 K3
    have HK := hid (And.intro K1 (And.intro K2 (K3)))
    clear K1 K2 K3
    have HR3 := hid (HR2.out.below hb1)
    clear HR2 hb1 hbwa1 PR
    go_wp2_with fail
    go_region
    go_wp2
    refine bodyPost_ret (v := .tuple #[.slice none 0 0, .agg #[.int .i64 q0, .int .i64 t0, .slice A1 n c1], .int .i64 1]) (by simp [results, Try.results7, go_sem, z3, u30, u31, u32]) rfl ⟨⟨_, _, _, _, _, _, rfl, Rw.nil _, (HR3.out.sto HK.out.2.2 (sto3 wb (w.heap.size + 1 + 1) (.int .i64 q0) (.int .i64 t0) (.slice A1 n c1))).drew⟩, ?_⟩
    exact Below.drew (Below.setCell (Below.setCell (Below.setCell hbwb (by simp; omega) _) (by simp; omega) _) (by simp; omega) _)
  | true =>
    have en := en_fl (x := ⟨q, t, k, s, a, b, d⟩) hr
    by_cases h0 : flE q0 t0 ss ⟨q, t, k, s, a, b, d⟩ = 0
    case neg =>
      obtain ⟨n1, n2, n3, n4⟩ := en_not (q0 := q0) (t0 := t0) (ss := ss) (x := ⟨q, t, k, s, a, b, d⟩) (by omega)
      obtain ⟨E, hE⟩ : ∃ E, flE q0 t0 ss ⟨q, t, k, s, a, b, d⟩ = E := ⟨_, rfl⟩
      rw [hE] at en h0
      have HE := hid hE
      unfold Encs
      rw [n1, n2, n3, n4, en]
      clear en n1 n2 n3 n4 hE
      go_enter Try.func7, Try.ntmps7
      go_wp2_with fail
      refine (PC.out _ hbA).mono ?_
      rintro e wa ⟨⟨v, rfl, hown⟩, hb1⟩
      obtain ⟨A1, c1, rfl, hR1, -⟩ := own_rs hown
      clear hown
      have hbwa : Below w.heap.size w wa := hbA.trans (hb1.mono hbA.size)
      obtain ⟨K1, K2, K3⟩ := kept3 hb1
      have z1 := blk_lt K1
      obtain ⟨u10, u11, u12, f10, f11, f12⟩ := blk3 K1
      have z2 := blk_lt K2
      obtain ⟨u20, u21, u22, u23, u24, u25, u26⟩ := blk7 K2
      have z3 := blk_lt K3
      obtain ⟨u30, u31, u32, f30, f31, f32⟩ := blk3 K3
      have HK := hid (And.intro K1 (And.intro K2 (K3)))
      clear K1 K2 K3
      go_wp2_with fail
      have K1o := hid HK.out.1
      obtain ⟨wa1, hWwa1⟩ : ∃ w9, w9 = (wa).setCell ⟨w.heap.size, 2, none⟩ (.slice A1 n c1) := ⟨_, rfl⟩
      rw [← hWwa1]
      have STwa1 : Sto (w.heap.size) wa wa1 := by rw [hWwa1]; exact Sto.cell _ _ _ _
      have K1 : wa1.heap[w.heap.size]? = some (.cells #[.int .i64 q0, .int .i64 t0, .slice A1 n c1] 24 (0, 0)) := by rw [hWwa1]; exact (fld3 HK.out.1).2.2
      have K2 := (STwa1.block _ (by omega)).trans HK.out.2.1
      have K3 := (STwa1.block _ (by omega)).trans HK.out.2.2
      have hbwa1 : Below w.heap.size w wa1 := STwa1.below hbwa (by omega)
      clear z1 u10 u11 u12 f10 f11 f12 z2 u20 u21 u22 u23 u24 u25 u26 z3 u30 u31 u32 f30 f31 f32 HK hWwa1
      have z1 := blk_lt K1
      obtain ⟨u10, u11, u12, f10, f11, f12⟩ := blk3 K1
      have z2 := blk_lt K2
      obtain ⟨u20, u21, u22, u23, u24, u25, u26⟩ := blk7 K2
      have z3 := blk_lt K3
      obtain ⟨u30, u31, u32, f30, f31, f32⟩ := blk3 K3
      have HK := hid (And.intro K1 (And.intro K2 (K3)))
      clear K1 K2 K3
      have HR2 := hid (hR1.sto K1o.out STwa1)
      clear hR1 K1o STwa1 hbwa hb1
      have PR := hid (CRight_any q0 t0 (cp := c1) HZ.out HR2.out.1 (Nat.le_refl _))
      rw [hr] at PR
      refine PR.out.mono ?_
      rintro e wb ⟨rfl, hb1⟩
      have hbwb : Below w.heap.size w wb := hbwa1.trans (hb1.mono hbwa1.size)
      have K1 := (hb1.block _ z1).trans HK.out.1
      have K2 := (hb1.block _ z2).trans HK.out.2.1
      have K3 := (hb1.block _ z3).trans HK.out.2.2
      clear z1 u10 u11 u12 f10 f11 f12 z2 u20 u21 u22 u23 u24 u25 u26 z3 u30 u31 u32 f30 f31 f32 HK
      have z1 := blk_lt K1
      obtain ⟨u10, u11, u12, f10, f11, f12⟩ := blk3 K1
      have z2 := blk_lt K2
      obtain ⟨u20, u21, u22, u23, u24, u25, u26⟩ := blk7 K2
      have z3 := blk_lt K3
      obtain ⟨u30, u31, u32, f30, f31, f32⟩ := blk3 K3
      have HK := hid (And.intro K1 (And.intro K2 (K3)))
      clear K1 K2 K3
      have HR3 := hid (HR2.out.below hb1)
      clear HR2 hb1 hbwa1 PR
      have PF := hid (follow_any q0 t0 (cp := c1) HZ.out q t k a b d hs HR3.out)
      unfold Folls at PF
      rw [HE.out] at PF
      go_wp2_with fail
      refine PF.out.mono ?_
      rintro e wc ⟨⟨q1, t1, A2, m2, c2, rfl, -⟩, hb1⟩
      have hbwc : Below w.heap.size w wc := hbwb.trans (hb1.mono hbwb.size)
      have K1 := (hb1.block _ z1).trans HK.out.1
      have K2 := (hb1.block _ z2).trans HK.out.2.1
      have K3 := (hb1.block _ z3).trans HK.out.2.2
      clear z1 u10 u11 u12 f10 f11 f12 z2 u20 u21 u22 u23 u24 u25 u26 z3 u30 u31 u32 f30 f31 f32 HK
      have z1 := blk_lt K1
      obtain ⟨u10, u11, u12, f10, f11, f12⟩ := blk3 K1
      have z2 := blk_lt K2
      obtain ⟨u20, u21, u22, u23, u24, u25, u26⟩ := blk7 K2
      have z3 := blk_lt K3
      obtain ⟨u30, u31, u32, f30, f31, f32⟩ := blk3 K3
      have HK := hid (And.intro K1 (And.intro K2 (K3)))
      clear K1 K2 K3
      have HR4 := hid (HR3.out.below hb1)
      clear HR3 hb1 hbwb PF
      go_wp2_with fail
      go_region
      go_wp2
      refine bodyPost_ret (v := .tuple #[.slice none 0 0, .agg #[.int .i64 q0, .int .i64 t0, .slice A1 n c1], .int .i64 E]) (by simp [results, Try.results7, go_sem, z3, u30, u31, u32]) rfl ⟨⟨none, 0, 0, A1, n, c1, rfl, Rw.nil _, ?_⟩, ?_⟩
      · exact ((HR4.out.sto HK.out.2.2 (sto3 wc (w.heap.size + 1 + 1) (.int .i64 q0) (.int .i64 t0) (.slice A1 n c1))).below ((Below.refl _ _).alloc (Nat.le_refl _) _)).drew
      · exact Below.drew (Below.alloc (Below.setCell (Below.setCell (Below.setCell hbwc (by simp; omega) _) (by simp; omega) _) (by simp; omega) _) (by simp; omega) _)
    case pos =>
      have ok := fl_ok hr h0
      obtain ⟨-, -, n1, n2, n3, n4⟩ := en_zero (q0 := q0) (t0 := t0) (ss := ss) (x := ⟨q, t, k, s, a, b, d⟩) (by omega)
      obtain ⟨FL, hFL⟩ : ∃ FL, flL ss ⟨q, t, k, s, a, b, d⟩ = FL := ⟨_, rfl⟩
      obtain ⟨SP, hSP⟩ : ∃ SP, spB q0 t0 ss ⟨q, t, k, s, a, b, d⟩ = SP := ⟨_, rfl⟩
      unfold Encs
      rw [n1, n2, n3, n4, en, h0, hFL, hSP]
      clear en n1 n2 n3 n4
      have HFL := hid hFL
      have HSP := hid hSP
      clear hFL hSP
      go_enter Try.func7, Try.ntmps7
      go_wp2_with fail
      refine (PC.out _ hbA).mono ?_
      rintro e wa ⟨⟨v, rfl, hown⟩, hb1⟩
      obtain ⟨A1, c1, rfl, hR1, -⟩ := own_rs hown
      clear hown
      have hbwa : Below w.heap.size w wa := hbA.trans (hb1.mono hbA.size)
      obtain ⟨K1, K2, K3⟩ := kept3 hb1
      have z1 := blk_lt K1
      obtain ⟨u10, u11, u12, f10, f11, f12⟩ := blk3 K1
      have z2 := blk_lt K2
      obtain ⟨u20, u21, u22, u23, u24, u25, u26⟩ := blk7 K2
      have z3 := blk_lt K3
      obtain ⟨u30, u31, u32, f30, f31, f32⟩ := blk3 K3
      have HK := hid (And.intro K1 (And.intro K2 (K3)))
      clear K1 K2 K3
      go_wp2_with fail
      have K1o := hid HK.out.1
      obtain ⟨wa1, hWwa1⟩ : ∃ w9, w9 = (wa).setCell ⟨w.heap.size, 2, none⟩ (.slice A1 n c1) := ⟨_, rfl⟩
      rw [← hWwa1]
      have STwa1 : Sto (w.heap.size) wa wa1 := by rw [hWwa1]; exact Sto.cell _ _ _ _
      have K1 : wa1.heap[w.heap.size]? = some (.cells #[.int .i64 q0, .int .i64 t0, .slice A1 n c1] 24 (0, 0)) := by rw [hWwa1]; exact (fld3 HK.out.1).2.2
      have K2 := (STwa1.block _ (by omega)).trans HK.out.2.1
      have K3 := (STwa1.block _ (by omega)).trans HK.out.2.2
      have hbwa1 : Below w.heap.size w wa1 := STwa1.below hbwa (by omega)
      clear z1 u10 u11 u12 f10 f11 f12 z2 u20 u21 u22 u23 u24 u25 u26 z3 u30 u31 u32 f30 f31 f32 HK hWwa1
      have z1 := blk_lt K1
      obtain ⟨u10, u11, u12, f10, f11, f12⟩ := blk3 K1
      have z2 := blk_lt K2
      obtain ⟨u20, u21, u22, u23, u24, u25, u26⟩ := blk7 K2
      have z3 := blk_lt K3
      obtain ⟨u30, u31, u32, f30, f31, f32⟩ := blk3 K3
      have HK := hid (And.intro K1 (And.intro K2 (K3)))
      clear K1 K2 K3
      have HR2 := hid (hR1.sto K1o.out STwa1)
      clear hR1 K1o STwa1 hbwa hb1
      have PR := hid (CRight_any q0 t0 (cp := c1) HZ.out HR2.out.1 (Nat.le_refl _))
      rw [hr] at PR
      refine PR.out.mono ?_
      rintro e wb ⟨rfl, hb1⟩
      have hbwb : Below w.heap.size w wb := hbwa1.trans (hb1.mono hbwa1.size)
      have K1 := (hb1.block _ z1).trans HK.out.1
      have K2 := (hb1.block _ z2).trans HK.out.2.1
      have K3 := (hb1.block _ z3).trans HK.out.2.2
      clear z1 u10 u11 u12 f10 f11 f12 z2 u20 u21 u22 u23 u24 u25 u26 z3 u30 u31 u32 f30 f31 f32 HK
      have z1 := blk_lt K1
      obtain ⟨u10, u11, u12, f10, f11, f12⟩ := blk3 K1
      have z2 := blk_lt K2
      obtain ⟨u20, u21, u22, u23, u24, u25, u26⟩ := blk7 K2
      have z3 := blk_lt K3
      obtain ⟨u30, u31, u32, f30, f31, f32⟩ := blk3 K3
      have HK := hid (And.intro K1 (And.intro K2 (K3)))
      clear K1 K2 K3
      have HR3 := hid (HR2.out.below hb1)
      clear HR2 hb1 hbwa1 PR
      have PF := hid (follow_any q0 t0 (cp := c1) HZ.out q t k a b d hs HR3.out)
      unfold Folls at PF
      rw [h0, HFL.out] at PF
      have HOK := hid ok
      clear ok h0
      go_wp2_with fail
      refine PF.out.mono ?_
      rintro e wc ⟨⟨q1, t1, A2, m2, c2, rfl, hF⟩, hb1⟩
      obtain ⟨rfl, rfl, hR5⟩ : q = q1 ∧ t = t1 ∧ _ := ⟨(hF trivial).1.symm, (hF trivial).2.1.symm, (hF trivial).2.2⟩
      have hbwc : Below w.heap.size w wc := hbwb.trans (hb1.mono hbwb.size)
      have K1 := (hb1.block _ z1).trans HK.out.1
      have K2 := (hb1.block _ z2).trans HK.out.2.1
      have K3 := (hb1.block _ z3).trans HK.out.2.2
      clear z1 u10 u11 u12 f10 f11 f12 z2 u20 u21 u22 u23 u24 u25 u26 z3 u30 u31 u32 f30 f31 f32 HK
      have z1 := blk_lt K1
      obtain ⟨u10, u11, u12, f10, f11, f12⟩ := blk3 K1
      have z2 := blk_lt K2
      obtain ⟨u20, u21, u22, u23, u24, u25, u26⟩ := blk7 K2
      have z3 := blk_lt K3
      obtain ⟨u30, u31, u32, f30, f31, f32⟩ := blk3 K3
      have HK := hid (And.intro K1 (And.intro K2 (K3)))
      clear K1 K2 K3
      have HR4 := hid (HR3.out.below hb1)
      have HR5 := hid hR5
      clear HR3 hb1 hbwb PF hR5
      go_wp2_with fail
      have PS := hid (fun (w1 : World) (h : Below wc.heap.size wc w1) => spell_any q0 t0 (cp := c1) HZ.out q t k a b d HOK.out (HR4.out.below h))
      rw [HSP.out] at PS
      have hal : Below wc.heap.size wc (wc.alloc (.cells #[.int .i64 q, .int .i64 t, .slice A2 m2 c2] 24)).drew := ((Below.refl _ _).alloc (Nat.le_refl _) _).drew
      have HK4 := hid (heap_alloc_new wc (.cells #[.int .i64 q, .int .i64 t, .slice A2 m2 c2] 24))
      go_region_with ((go_at_call 15; refine (PS.out _ hal).mono ?_; rintro e wx ⟨⟨A9, n9, c9, rfl, hR9⟩, hb9⟩; have k3 := (hb9.block (w.heap.size + 1 + 1) (by simp; omega)).trans ((Below.heap_alloc _ _ _ z3).trans HK.out.2.2); have k4 := (hb9.block wc.heap.size (by simp)).trans HK4.out; have y3 := blk_lt k3; have y4 := blk_lt k4; obtain ⟨x0, x1, x2, -, -, -⟩ := blk3 k4; obtain ⟨s0, s1, s2, g0, g1, g2⟩ := blk3 k3; have HK3 := hid k3; have HR9 := hid hR9; clear k3 k4 hR9))
      all_goals
        go_wp2
        have S9 := sto3 wx (w.heap.size + 1 + 1) (.int .i64 q) (.int .i64 t) (.slice A2 m2 c2)
        have h49 : Below wc.heap.size wc wx := hal.trans (hb9.mono hal.size)
        refine bodyPost_ret (v := .tuple #[.slice A9 n9 c9, .agg #[.int .i64 q, .int .i64 t, .slice A2 m2 c2], .int .i64 0]) (by simp [results, Try.results7, go_sem, y3, s0, s1, s2]) rfl ⟨⟨A9, n9, c9, A2, m2, c2, rfl, HR9.out.lts HK3.out S9.lts, (HR5.out.below h49).lts HK3.out S9.lts⟩, ?_⟩
        exact S9.below (hbwc.trans (h49.mono hbwc.size)) (by omega)
end Go.Proofs.Ytgijhfdlecdijaa
