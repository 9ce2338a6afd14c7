/- Layer 7: contract of the reference: Decode. -/
import Derived.Test.YtondnbnaoacanaaGreatDoorCd
namespace Go.Proofs.YtondnbnaoacanaaGreatDoor
open Go.ChangeShapes Go.WideShapes Go.ChangeAt Go.RowKit Fb Go.Maps

theorem blk4 {w : World} {g : Nat} {t : TypeId} {a b c d : Value} (h : w.heap[g]? = some (.cells #[a, b, c, d] t (0, 0))) :
    w.cell? ⟨g, 0, none⟩ = some a ∧ w.cell? ⟨g, 1, none⟩ = some b ∧ w.cell? ⟨g, 2, none⟩ = some c ∧ w.cell? ⟨g, 3, none⟩ = some d ∧ w.frozen? ⟨g, 0, none⟩ = false ∧ w.frozen? ⟨g, 1, none⟩ = false ∧ w.frozen? ⟨g, 2, none⟩ = false ∧ w.frozen? ⟨g, 3, none⟩ = false :=
  ⟨cell_of_row w g 0 _ t (0, 0) h, cell_of_row w g 1 _ t (0, 0) h, cell_of_row w g 2 _ t (0, 0) h, cell_of_row w g 3 _ t (0, 0) h, by simp [World.frozen?, h], by simp [World.frozen?, h], by simp [World.frozen?, h], by simp [World.frozen?, h]⟩
theorem fld4 {w : World} {g : Nat} {t : TypeId} {a b c d u : Value} (K : w.heap[g]? = some (.cells #[a, b, c, d] t (0, 0))) :
    (w.setCell ⟨g, 0, none⟩ u).heap[g]? = some (.cells #[u, b, c, d] t (0, 0)) ∧ (w.setCell ⟨g, 1, none⟩ u).heap[g]? = some (.cells #[a, u, c, d] t (0, 0)) ∧ (w.setCell ⟨g, 2, none⟩ u).heap[g]? = some (.cells #[a, b, u, d] t (0, 0)) ∧ (w.setCell ⟨g, 3, none⟩ u).heap[g]? = some (.cells #[a, b, c, u] t (0, 0)) := by
  refine ⟨?_, ?_, ?_, ?_⟩ <;> simp [World.setCell, Array.getElem?_modify, K]
theorem fld7 {w : World} {g : Nat} {t : TypeId} {a b c d e f h u : Value} (K : w.heap[g]? = some (.cells #[a, b, c, d, e, f, h] t (0, 0))) :
    (w.setCell ⟨g, 3, none⟩ u).heap[g]? = some (.cells #[a, b, c, u, e, f, h] t (0, 0)) ∧ (w.setCell ⟨g, 4, none⟩ u).heap[g]? = some (.cells #[a, b, c, d, u, f, h] t (0, 0)) ∧ (w.setCell ⟨g, 5, none⟩ u).heap[g]? = some (.cells #[a, b, c, d, e, u, h] t (0, 0)) ∧ (w.setCell ⟨g, 6, none⟩ u).heap[g]? = some (.cells #[a, b, c, d, e, f, u] t (0, 0)) := by
  refine ⟨?_, ?_, ?_, ?_⟩ <;> simp [World.setCell, Array.getElem?_modify, K]
/-- what is read of an event's bytes is within bounds -/
theorem rd_lim {q0 t0 : Int} {ss : List ByteArray} {zs : List Int} {p1 e1 p2 e2 p3 e3 p4 e4 : Int} {v1 v2 v3 v4 : Nat}
    (hu1 : uintS zs 0 0 = (p1, e1, v1)) (hu2 : uintS zs p1 e1 = (p2, e2, v2)) (hu3 : uintS zs p2 e2 = (p3, e3, v3)) (hu4 : uintS zs p3 e3 = (p4, e4, v4))
    {y : Ev} (ok : Okk q0 t0 ss y) (hz : spB q0 t0 ss y = zs) : e4 = 0 ∧ (v1 : Int) ≤ 10 ∧ (v2 : Int) ≤ 4294967296 ∧ (v3 : Int) ≤ 1099511627776 ∧ v4 ≤ ss.length := by
  obtain ⟨n1, n2, n3, r1, r2, r3, r4, -, -, -⟩ := reads ok (zs := zs) (rest := []) (by rw [List.append_nil]; exact hz)
  rw [hu1] at r1
  simp only [Prod.mk.injEq] at r1
  obtain ⟨rfl, rfl, rfl⟩ := r1
  rw [hu2] at r2
  simp only [Prod.mk.injEq] at r2
  obtain ⟨rfl, rfl, rfl⟩ := r2
  rw [hu3] at r3
  simp only [Prod.mk.injEq] at r3
  obtain ⟨rfl, rfl, rfl⟩ := r3
  rw [hu4] at r4
  simp only [Prod.mk.injEq] at r4
  obtain ⟨rfl, rfl, rfl⟩ := r4
  have := ok.k1
  have := ok.k2
  have := ok.q
  have := ok.q2
  have := ok.q0
  have := ok.t
  have := ok.t2
  have := ok.t0
  exact ⟨rfl, by omega, by omega, by omega, plc_le _ _⟩
/-- so many of the first numbers, the others 0 -/
def nz (zs : List Int) (j i : Nat) : Int := if i < j then ((va zs 0 0 i : Nat) : Int) else 0
/-- so many of an event's numbers, the others 0 -/
def ny (zs : List Int) (p e : Int) (j i : Nat) : Int := if i < j then ((va zs p e i : Nat) : Int) else 0
/-- all that is read of an event's bytes -/
theorem rd_all {q0 t0 : Int} {ss : List ByteArray} {zs : List Int} {p1 e1 p2 e2 p3 e3 p4 e4 p5 e5 : Int} {v1 v2 v3 v4 : Nat} {s : ByteArray} (hr : rcB q0 t0 ss = true)
    (hu1 : uintS zs 0 0 = (p1, e1, v1)) (hu2 : uintS zs p1 e1 = (p2, e2, v2)) (hu3 : uintS zs p2 e2 = (p3, e3, v3)) (hu4 : uintS zs p3 e3 = (p4, e4, v4))
    (hn : v4 = 0 → ∃ bs, textS zs p4 e4 24 = (p5, e5, bs) ∧ s = strOfNums bs) (hm : v4 ≠ 0 → p5 = p4 ∧ e5 = e4 ∧ ∀ z, ss[v4 - 1]? = some z → s = z)
    (h10 : (v1 : Int) ≤ 10) {mm : Nat} (hmm : mnI v1 = mm) {y : Ev} (hy : Fo q0 t0 ss y zs) :
    (∀ j, j < mm → ((va zs p5 e5 j : Nat) : Int) ≤ 2147483647) ∧ (cu zs p5 e5 mm).2 = 0 ∧ (⟨q0 + v2, t0 + v3, v1, s, ny zs p5 e5 mm 0, ny zs p5 e5 mm 1, ny zs p5 e5 mm 2⟩ : Ev) = y := by
  have ok := fl_ok hr hy.1
  have hz : spB q0 t0 ss y ++ [] = zs := by rw [List.append_nil]; exact hy.2
  obtain ⟨a1, a2, a3, a4, a5, a6, a7, a8, a9⟩ := rd_eq hu1 hu2 hu3 hu4 hn hm rfl ok hz
  obtain ⟨-, -, -, -, -, -, -, -, -, r7⟩ := reads ok hz
  have k1 : (v1 : Int) = y.k := by have := ok.k1; omega
  have hml : mm = (nmL y).length := by rw [nm_len, ← k1, hmm]; rfl
  have hnum : ∀ j, j < mm → ((va zs p5 e5 j : Nat) : Int) ≤ 2147483647 := by
    intro j hj
    have hjl : j < (nmL y).length := by omega
    have h1 := (r7 j (by omega)).2 _ (List.getElem?_eq_getElem hjl)
    have h2 := nm_in ok.vl _ (List.getElem_mem hjl)
    rw [a8, a7, h1]
    omega
  refine ⟨hnum, ?_, ?_⟩
  · rw [a8, a7, hml, (r7 _ (Nat.le_refl _)).1]
  · have hw1 : IntKind.i64.wrap (v1 : Int) = (v1 : Int) := i64_in (by omega) (by omega)
    have hL : ∀ i, i < 3 → at3 ((List.range (mnI (IntKind.i64.wrap v1)).toNat).map fun j => IntKind.i64.wrap (va zs p5 e5 j)) i = ny zs p5 e5 mm i := by
      intro i _
      unfold at3 ny
      rw [hw1, hmm, Int.toNat_natCast, List.getD_eq_getElem?_getD]
      by_cases hi : i < mm
      · have := hnum i hi
        rw [if_pos hi, List.getElem?_map, List.getElem?_range hi, Option.map_some, Option.getD_some, i64_in (by omega) (by omega)]
      · rw [if_neg hi, List.getElem?_eq_none (by simpa using hi)]
        rfl
    rw [hL 0 (by omega), hL 1 (by omega), hL 2 (by omega)] at a1
    obtain ⟨-, b1⟩ := (rc_iff q0 t0 ss).1 hr
    have w2 : IntKind.i64.wrap (q0 + IntKind.i64.wrap v2) = q0 + v2 := by
      have := ok.q; have := ok.q2; have := ok.q0
      rw [i64_in (x := (v2 : Int)) (by omega) (by omega), i64_in (by omega) (by omega)]
    have w3 : IntKind.i64.wrap (t0 + IntKind.i64.wrap v3) = t0 + v3 := by
      have := ok.t; have := ok.t2; have := ok.t0
      rw [i64_in (x := (v3 : Int)) (by omega) (by omega), i64_in (by omega) (by omega)]
    rw [w2, w3, hw1] at a1
    exact a1

set_option maxRecDepth 100000 in
set_option maxHeartbeats 32000000 in
theorem RDecode_any (q0 t0 : Int) {A : Option Addr} {n cp : Nat} {ss : List ByteArray} {B : Option Addr} {m c : Nat} {zs : List Int} {w : World} (hR : Rs w A n cp ss) (hn : n ≤ 1000000) (hS : Rw w B m c zs) (hb : Bytes zs) (hm : m ≤ 100000) :
    Calls Tryz.prog 39 #[.agg #[.int .i64 q0, .int .i64 t0, .slice A n cp], .slice B m c] w (Decs w q0 t0 ss zs) := by
  have PRR := hid (fun (w1 : World) (h : Below w.heap.size w w1) => RRight7 q0 t0 (hR.below h) hn)
  have PU := hid (fun (w1 : World) (h : Below w.heap.size w w1) (p er p' e' : Int) (v : Nat) (hu : uintS zs p er = (p', e', v)) => RUint_any (c := c) hu (hS.below h).1 hb hm hS.2.1 hS.2.2.1)
  have PT := hid (fun (w1 : World) (h : Below w.heap.size w w1) (p er p' e' : Int) (bs : List Int) (ht : textS zs p er 24 = (p', e', bs)) => RText_any (c := c) ht (hS.below h).1 hb hS.2.2.2 hm hS.2.1 hS.2.2.1 (by omega))
  have PE := hid (fun (w1 : World) (h : Below w.heap.size w w1) (q t k a b d : Int) (s : ByteArray) => REncode_any q0 t0 q t k a b d s (hR.below h) hn)
  have HR := hid (fun (w1 : World) (h : Below w.heap.size w w1) => hR.below h)
  have HS := hid (fun (w1 : World) (h : Below w.heap.size w w1) => hS.below h)
  have HB := hid hb
  have HLN := hid hR.len
  have hbA : Below w.heap.size w (((w.alloc (.cells #[.int .i64 q0, .int .i64 t0, .slice A n cp] 24)).alloc (.cells #[.int .i64 0, .int .i64 0, .int .i64 0, .string ⟨#[]⟩, .int .i64 0, .int .i64 0, .int .i64 0] 41)).alloc (.cells #[.int .i64 0, .int .i64 0, .slice none 0 0] 24)) := (((Below.refl _ _).alloc (Nat.le_refl _) _).alloc (by simp) _).alloc (by simp; omega) _
  obtain ⟨p1, e1, v1, hu1⟩ : ∃ p1 e1 v1, uintS zs 0 0 = (p1, e1, v1) := ⟨_, _, _, rfl⟩
  obtain ⟨p2, e2, v2, hu2⟩ : ∃ p2 e2 v2, uintS zs p1 e1 = (p2, e2, v2) := ⟨_, _, _, rfl⟩
  obtain ⟨p3, e3, v3, hu3⟩ : ∃ p3 e3 v3, uintS zs p2 e2 = (p3, e3, v3) := ⟨_, _, _, rfl⟩
  obtain ⟨p4, e4, v4, hu4⟩ : ∃ p4 e4 v4, uintS zs p3 e3 = (p4, e4, v4) := ⟨_, _, _, rfl⟩
  have HU1 := hid hu1
  have HU2 := hid hu2
  have HU3 := hid hu3
  have HU4 := hid hu4
  have c1 := cu_succ (cu_zero zs 0 0) hu1
  have c2 := cu_succ c1.1 hu2
  have c3 := cu_succ c2.1 hu3
  have c4 := cu_succ c3.1 hu4
  have HC := hid (And.intro c1.2 (And.intro c2.2 (And.intro c3.2 c4)))
  clear hR hS hb hu1 hu2 hu3 hu4 c1 c2 c3 c4
  cases hr : rcB q0 t0 ss with
  | false =>
    rw [hr] at PRR
    go_enter Tryz.func39, Tryz.ntmps39
    go_wp2_with fail
    refine (PRR.out _ hbA).mono ?_
    rintro e wa ⟨rfl, hb1⟩
    have hbwa : Below w.heap.size w wa := hbA.trans (hb1.mono hbA.size)
    obtain ⟨K1, K2, K3⟩ := kept3 hb1
    have z1 := blk_lt K1
    obtain ⟨u10, u11, u12, f10, f11, f12⟩ := blk3 K1
    have z2 := blk_lt K2
    obtain ⟨u20, u21, u22, u23, u24, u25, u26⟩ := blk7 K2
    have fz2 := blk7f K2
    have z3 := blk_lt K3
    obtain ⟨u30, u31, u32, f30, f31, f32⟩ := blk3 K3
    have HK := hid (And.intro K1 (And.intro K2 (K3)))
    clear K1 K2 K3
    clear hb1
    have HD := hid (de_bad (zs := zs) hr)
    go_wp2_with fail
    go_region
    go_wp2
    refine bodyPost_ret (v := .tuple #[.agg #[.int .i64 0, .int .i64 0, .int .i64 0, .string ⟨#[]⟩, .int .i64 0, .int .i64 0, .int .i64 0], .agg #[.int .i64 q0, .int .i64 t0, .slice A n cp], .int .i64 1]) (by simp [results, Tryz.results39, go_sem, u20, u21, u22, u23, u24, u25, u26, u30, u31, u32]) rfl ⟨⟨A, n, cp, ?_, ?_⟩, ?_⟩
    · rw [HD.out.1, HD.out.2.1, HD.out.2.2.1, HD.out.2.2.2.1]; rfl
    · rw [HD.out.2.2.2.2]
      exact HR.out _ (Below.drew (((sto3 _ (w.heap.size + 1 + 1) (.int .i64 q0) (.int .i64 t0) (.slice A n cp))).below (((sto7 wa (w.heap.size + 1) (.int .i64 0) (.int .i64 0) (.int .i64 0) (.string ⟨#[]⟩) (.int .i64 0) (.int .i64 0) (.int .i64 0))).below hbwa (by omega)) (by omega)))
    · exact Below.drew (((sto3 _ (w.heap.size + 1 + 1) (.int .i64 q0) (.int .i64 t0) (.slice A n cp))).below (((sto7 wa (w.heap.size + 1) (.int .i64 0) (.int .i64 0) (.int .i64 0) (.string ⟨#[]⟩) (.int .i64 0) (.int .i64 0) (.int .i64 0))).below hbwa (by omega)) (by omega))
  | true =>
    rw [hr] at PRR
    go_enter Tryz.func39, Tryz.ntmps39
    go_wp2_with fail
    refine (PRR.out _ hbA).mono ?_
    rintro e wa ⟨rfl, hb1⟩
    have hbwa : Below w.heap.size w wa := hbA.trans (hb1.mono hbA.size)
    obtain ⟨K1, K2, K3⟩ := kept3 hb1
    have z1 := blk_lt K1
    obtain ⟨u10, u11, u12, f10, f11, f12⟩ := blk3 K1
    have z2 := blk_lt K2
    obtain ⟨u20, u21, u22, u23, u24, u25, u26⟩ := blk7 K2
    have fz2 := blk7f K2
    have z3 := blk_lt K3
    obtain ⟨u30, u31, u32, f30, f31, f32⟩ := blk3 K3
    have HK := hid (And.intro K1 (And.intro K2 (K3)))
    clear K1 K2 K3
    clear hb1
    obtain ⟨gx, hgx⟩ : ∃ g, wa.heap.size = g := ⟨_, rfl⟩
    have hgl : w.heap.size + 3 ≤ gx := by omega
    have Hst := hid (fun (o1 o2 : Obj) => And.intro ((Below.heap_alloc (wa.alloc o1) o2 w.heap.size (by simp; omega)).trans ((Below.heap_alloc wa o1 w.heap.size z1).trans HK.out.1)) (And.intro ((Below.heap_alloc (wa.alloc o1) o2 (w.heap.size + 1) (by simp; omega)).trans ((Below.heap_alloc wa o1 (w.heap.size + 1) z2).trans HK.out.2.1)) (And.intro ((Below.heap_alloc (wa.alloc o1) o2 (w.heap.size + 1 + 1) (by simp; omega)).trans ((Below.heap_alloc wa o1 (w.heap.size + 1 + 1) z3).trans HK.out.2.2)) (kept2 (w := wa) (o1 := o1) (o2 := o2) (Below.refl _ _)))))
    have hbs := fun (o1 o2 : Obj) => (hbwa.alloc (by omega) o1).alloc (by simp; omega) o2
    rw [hgx] at Hst
    clear HK z1 u10 u11 u12 f10 f11 f12 z2 u20 u21 u22 u23 u24 u25 u26 fz2 z3 u30 u31 u32 f30 f31 f32
    go_wp2_with fail
    go_loopw [9] (fun i wr => ∃ (j : Nat) (pj ej : Int), j ≤ 4 ∧ i = .int .i64 j ∧ Hid (cu zs 0 0 j = (pj, ej)) ∧ Hid (wr.heap[w.heap.size]? = some (.cells #[.int .i64 q0, .int .i64 t0, .slice A n cp] 24 (0, 0))) ∧ Hid (wr.heap[w.heap.size + 1]? = some (.cells #[.int .i64 0, .int .i64 0, .int .i64 0, .string ⟨#[]⟩, .int .i64 0, .int .i64 0, .int .i64 0] 41 (0, 0))) ∧ Hid (wr.heap[w.heap.size + 1 + 1]? = some (.cells #[.int .i64 0, .int .i64 0, .slice none 0 0] 24 (0, 0))) ∧ Hid (wr.heap[gx]? = some (.cells #[.slice B m c, .int .i64 pj, .int .i64 ej] 94 (0, 0))) ∧ Hid (wr.heap[gx + 1]? = some (.cells #[.int .u64 (nz zs j 0), .int .u64 (nz zs j 1), .int .u64 (nz zs j 2), .int .u64 (nz zs j 3)] 98 (0, 0))) ∧ Below w.heap.size w wr)
      (fun i _ => 4 - (intOf i).toNat)
    case atStart => exact ⟨0, 0, 0, by omega, rfl, rfl, (Hst.out _ _).1, (Hst.out _ _).2.1, (Hst.out _ _).2.2.1, (Hst.out _ _).2.2.2.1, (Hst.out _ _).2.2.2.2, hbs _ _⟩
    case round =>
      clear Hst hbs hgx
      obtain ⟨j, pj, ej, hj, rfl, HCJ, H1, H2, H3, H4, H5, hbr⟩ := hrel
      have K1 := H1.out
      have K2 := H2.out
      have K3 := H3.out
      have K4 := H4.out
      have K5 := H5.out
      have z1 := blk_lt K1
      obtain ⟨u10, u11, u12, f10, f11, f12⟩ := blk3 K1
      have z2 := blk_lt K2
      obtain ⟨u20, u21, u22, u23, u24, u25, u26⟩ := blk7 K2
      have fz2 := blk7f K2
      have z3 := blk_lt K3
      obtain ⟨u30, u31, u32, f30, f31, f32⟩ := blk3 K3
      have z4 := blk_lt K4
      obtain ⟨u40, u41, u42, f40, f41, f42⟩ := blk3 K4
      have z5 := blk_lt K5
      obtain ⟨u50, u51, u52, u53, f50, f51, f52, f53⟩ := blk4 K5
      have HK := hid (And.intro K1 (And.intro K2 (And.intro K3 (And.intro K4 (K5)))))
      clear K1 K2 K3 K4 K5
      clear H1 H2 H3 H4 H5
      by_cases hlt : j < 4
      · obtain ⟨p', e', v', hu⟩ : ∃ p' e' v', uintS zs pj ej = (p', e', v') := ⟨_, _, _, rfl⟩
        have HCS := hid (cu_succ HCJ.out hu)
        have HU := hid hu
        clear hu
        go_wp2_with fail
        with_reducible refine (PU.out _ hbr _ _ _ _ _ HU.out).mono ?_
        rintro e wx ⟨rfl, hb2⟩
        have hbwx : Below w.heap.size w wx := hbr.trans (hb2.mono hbr.size)
        have K1 := (hb2.block _ z1).trans HK.out.1
        have K2 := (hb2.block _ z2).trans HK.out.2.1
        have K3 := (hb2.block _ z3).trans HK.out.2.2.1
        have K4 := (hb2.block _ z4).trans HK.out.2.2.2.1
        have K5 := (hb2.block _ z5).trans HK.out.2.2.2.2
        clear z1 u10 u11 u12 f10 f11 f12 z2 u20 u21 u22 u23 u24 u25 u26 fz2 z3 u30 u31 u32 f30 f31 f32 z4 u40 u41 u42 f40 f41 f42 z5 u50 u51 u52 u53 f50 f51 f52 f53 HK
        have z1 := blk_lt K1
        obtain ⟨u10, u11, u12, f10, f11, f12⟩ := blk3 K1
        have z2 := blk_lt K2
        obtain ⟨u20, u21, u22, u23, u24, u25, u26⟩ := blk7 K2
        have fz2 := blk7f K2
        have z3 := blk_lt K3
        obtain ⟨u30, u31, u32, f30, f31, f32⟩ := blk3 K3
        have z4 := blk_lt K4
        obtain ⟨u40, u41, u42, f40, f41, f42⟩ := blk3 K4
        have z5 := blk_lt K5
        obtain ⟨u50, u51, u52, u53, f50, f51, f52, f53⟩ := blk4 K5
        have HK := hid (And.intro K1 (And.intro K2 (And.intro K3 (And.intro K4 (K5)))))
        clear K1 K2 K3 K4 K5
        clear hb2 hbr
        have hg1 : ¬ gx + 1 = gx := by omega
        have hg2 : ¬ gx = gx + 1 := by omega
        have HZ := hid (fun i => show nz zs (j + 1) i = if i = j then (v' : Int) else nz zs j i by
          unfold nz
          by_cases h : i = j
          · subst h; rw [if_pos rfl, if_pos (by omega), HCS.out.2]
          · rw [if_neg h]
            by_cases h2 : i < j
            · rw [if_pos h2, if_pos (by omega)]
            · rw [if_neg h2, if_neg (by omega)])
        have S4 := sto3 wx gx (.slice B m c) (.int .i64 p') (.int .i64 e')
        have E1 := (S4.block w.heap.size (by omega)).trans HK.out.1
        have E2 := (S4.block (w.heap.size + 1) (by omega)).trans HK.out.2.1
        have E3 := (S4.block (w.heap.size + 1 + 1) (by omega)).trans HK.out.2.2.1
        have E4 := all3 (a' := .slice B m c) (b' := .int .i64 p') (c' := .int .i64 e') HK.out.2.2.2.1
        have E5 := (S4.block (gx + 1) (by omega)).trans HK.out.2.2.2.2
        have hbX := S4.below hbwx (by omega)
        have HE := hid (And.intro E1 (And.intro E2 (And.intro E3 (And.intro E4 (And.intro E5 hbX)))))
        clear E1 E2 E3 E4 E5 hbX S4 HK
        rcases (show j = 0 ∨ j = 1 ∨ j = 2 ∨ j = 3 by omega) with rfl | rfl | rfl | rfl
        · go_wp2_with fail
          go_roundw
          case rel =>
            refine ⟨1, p', e', by omega, by first | rfl | go_num, HCS.out.1, ?_, ?_, ?_, ?_, ?_, ?_⟩
            · exact (Below.heap_setCell _ _ _ _ (by simp; omega)).trans HE.out.1
            · exact (Below.heap_setCell _ _ _ _ (by simp; omega)).trans HE.out.2.1
            · exact (Below.heap_setCell _ _ _ _ (by simp; omega)).trans HE.out.2.2.1
            · exact (Below.heap_setCell _ _ _ _ (by simp)).trans HE.out.2.2.2.1
            · have h := (fld4 (u := .int .u64 v') HE.out.2.2.2.2.1).1
              have e0 := HZ.out 0
              have e1 := HZ.out 1
              have e2 := HZ.out 2
              have e3 := HZ.out 3
              simp only [Nat.reduceAdd, Nat.reduceEqDiff, ↓reduceIte] at e0 e1 e2 e3
              show _ = _
              rw [e0, e1, e2, e3]
              exact h
            · exact Below.setCell HE.out.2.2.2.2.2 (by simp; omega) _
          case measure => simp [intOf]
        · go_wp2_with fail
          go_roundw
          case rel =>
            refine ⟨2, p', e', by omega, by first | rfl | go_num, HCS.out.1, ?_, ?_, ?_, ?_, ?_, ?_⟩
            · exact (Below.heap_setCell _ _ _ _ (by simp; omega)).trans HE.out.1
            · exact (Below.heap_setCell _ _ _ _ (by simp; omega)).trans HE.out.2.1
            · exact (Below.heap_setCell _ _ _ _ (by simp; omega)).trans HE.out.2.2.1
            · exact (Below.heap_setCell _ _ _ _ (by simp)).trans HE.out.2.2.2.1
            · have h := (fld4 (u := .int .u64 v') HE.out.2.2.2.2.1).2.1
              have e0 := HZ.out 0
              have e1 := HZ.out 1
              have e2 := HZ.out 2
              have e3 := HZ.out 3
              simp only [Nat.reduceAdd, Nat.reduceEqDiff, ↓reduceIte] at e0 e1 e2 e3
              show _ = _
              rw [e0, e1, e2, e3]
              exact h
            · exact Below.setCell HE.out.2.2.2.2.2 (by simp; omega) _
          case measure => simp [intOf]
        · go_wp2_with fail
          go_roundw
          case rel =>
            refine ⟨3, p', e', by omega, by first | rfl | go_num, HCS.out.1, ?_, ?_, ?_, ?_, ?_, ?_⟩
            · exact (Below.heap_setCell _ _ _ _ (by simp; omega)).trans HE.out.1
            · exact (Below.heap_setCell _ _ _ _ (by simp; omega)).trans HE.out.2.1
            · exact (Below.heap_setCell _ _ _ _ (by simp; omega)).trans HE.out.2.2.1
            · exact (Below.heap_setCell _ _ _ _ (by simp)).trans HE.out.2.2.2.1
            · have h := (fld4 (u := .int .u64 v') HE.out.2.2.2.2.1).2.2.1
              have e0 := HZ.out 0
              have e1 := HZ.out 1
              have e2 := HZ.out 2
              have e3 := HZ.out 3
              simp only [Nat.reduceAdd, Nat.reduceEqDiff, ↓reduceIte] at e0 e1 e2 e3
              show _ = _
              rw [e0, e1, e2, e3]
              exact h
            · exact Below.setCell HE.out.2.2.2.2.2 (by simp; omega) _
          case measure => simp [intOf]
        · go_wp2_with fail
          go_roundw
          case rel =>
            refine ⟨4, p', e', by omega, by first | rfl | go_num, HCS.out.1, ?_, ?_, ?_, ?_, ?_, ?_⟩
            · exact (Below.heap_setCell _ _ _ _ (by simp; omega)).trans HE.out.1
            · exact (Below.heap_setCell _ _ _ _ (by simp; omega)).trans HE.out.2.1
            · exact (Below.heap_setCell _ _ _ _ (by simp; omega)).trans HE.out.2.2.1
            · exact (Below.heap_setCell _ _ _ _ (by simp)).trans HE.out.2.2.2.1
            · have h := (fld4 (u := .int .u64 v') HE.out.2.2.2.2.1).2.2.2
              have e0 := HZ.out 0
              have e1 := HZ.out 1
              have e2 := HZ.out 2
              have e3 := HZ.out 3
              simp only [Nat.reduceAdd, Nat.reduceEqDiff, ↓reduceIte] at e0 e1 e2 e3
              show _ = _
              rw [e0, e1, e2, e3]
              exact h
            · exact Below.setCell HE.out.2.2.2.2.2 (by simp; omega) _
          case measure => simp [intOf]
      · obtain rfl : j = 4 := by omega
        obtain ⟨rfl, rfl⟩ : p4 = pj ∧ e4 = ej := by
          have h := HC.out.2.2.2.1.symm.trans HCJ.out
          simpa only [Prod.mk.injEq] using h
        have n0 : nz zs 4 0 = (v1 : Int) := by unfold nz; rw [if_pos (by omega), HC.out.1]
        have n1 : nz zs 4 1 = (v2 : Int) := by unfold nz; rw [if_pos (by omega), HC.out.2.1]
        have n2 : nz zs 4 2 = (v3 : Int) := by unfold nz; rw [if_pos (by omega), HC.out.2.2.1]
        have n3 : nz zs 4 3 = (v4 : Int) := by unfold nz; rw [if_pos (by omega), HC.out.2.2.2.2]
        rw [n0, n1, n2, n3] at HK
        rw [n0] at u50
        rw [n1] at u51
        rw [n2] at u52
        rw [n3] at u53
        have hnw : IntKind.u64.wrap (n : Int) = (n : Int) := u64_in _ (by omega) (by omega)
        have HLIM := hid (fun (y : Ev) (hy : Fo q0 t0 ss y zs) => rd_lim HU1.out HU2.out HU3.out HU4.out (fl_ok hr hy.1) hy.2)
        clear n0 n1 n2 n3 HC HCJ hlt
        by_cases h9 : e4 = 0
        case neg =>
          have HD := hid (de_none hr (fun y hy => by have h1 := (HLIM.out y hy).1; exact h9 h1))
          go_wp2_with fail
          go_region
          go_wp2
          refine bodyPost_ret (v := .tuple #[.agg #[.int .i64 0, .int .i64 0, .int .i64 0, .string ⟨#[]⟩, .int .i64 0, .int .i64 0, .int .i64 0], .agg #[.int .i64 q0, .int .i64 t0, .slice A n cp], .int .i64 11]) (by simp [results, Tryz.results39, go_sem, u20, u21, u22, u23, u24, u25, u26, u30, u31, u32]) rfl ⟨⟨A, n, cp, ?_, ?_⟩, ?_⟩
          · rw [HD.out.1, HD.out.2.1, HD.out.2.2.1, HD.out.2.2.2.1]; rfl
          · rw [HD.out.2.2.2.2]
            exact HR.out _ (Below.drew (((sto3 _ (w.heap.size + 1 + 1) (.int .i64 q0) (.int .i64 t0) (.slice A n cp))).below (((sto7 wr (w.heap.size + 1) (.int .i64 0) (.int .i64 0) (.int .i64 0) (.string ⟨#[]⟩) (.int .i64 0) (.int .i64 0) (.int .i64 0))).below hbr (by omega)) (by omega)))
          · exact Below.drew (((sto3 _ (w.heap.size + 1 + 1) (.int .i64 q0) (.int .i64 t0) (.slice A n cp))).below (((sto7 wr (w.heap.size + 1) (.int .i64 0) (.int .i64 0) (.int .i64 0) (.string ⟨#[]⟩) (.int .i64 0) (.int .i64 0) (.int .i64 0))).below hbr (by omega)) (by omega))
        case pos =>
          by_cases h10 : (v1 : Int) ≤ 10
          case neg =>
            have g9 : (10 : Int) < v1 := by omega
            have HD := hid (de_none hr (fun y hy => by have h1 := (HLIM.out y hy).2.1; exact h10 h1))
            clear h10
            go_wp2_with fail
            go_region
            go_wp2
            refine bodyPost_ret (v := .tuple #[.agg #[.int .i64 0, .int .i64 0, .int .i64 0, .string ⟨#[]⟩, .int .i64 0, .int .i64 0, .int .i64 0], .agg #[.int .i64 q0, .int .i64 t0, .slice A n cp], .int .i64 11]) (by simp [results, Tryz.results39, go_sem, u20, u21, u22, u23, u24, u25, u26, u30, u31, u32]) rfl ⟨⟨A, n, cp, ?_, ?_⟩, ?_⟩
            · rw [HD.out.1, HD.out.2.1, HD.out.2.2.1, HD.out.2.2.2.1]; rfl
            · rw [HD.out.2.2.2.2]
              exact HR.out _ (Below.drew (((sto3 _ (w.heap.size + 1 + 1) (.int .i64 q0) (.int .i64 t0) (.slice A n cp))).below (((sto7 wr (w.heap.size + 1) (.int .i64 0) (.int .i64 0) (.int .i64 0) (.string ⟨#[]⟩) (.int .i64 0) (.int .i64 0) (.int .i64 0))).below hbr (by omega)) (by omega)))
            · exact Below.drew (((sto3 _ (w.heap.size + 1 + 1) (.int .i64 q0) (.int .i64 t0) (.slice A n cp))).below (((sto7 wr (w.heap.size + 1) (.int .i64 0) (.int .i64 0) (.int .i64 0) (.string ⟨#[]⟩) (.int .i64 0) (.int .i64 0) (.int .i64 0))).below hbr (by omega)) (by omega))
          case pos =>
            by_cases h11 : (v2 : Int) ≤ 4294967296
            case neg =>
              have g9 : (4294967296 : Int) < v2 := by omega
              have HD := hid (de_none hr (fun y hy => by have h1 := (HLIM.out y hy).2.2.1; exact h11 h1))
              clear h11
              go_wp2_with fail
              go_region
              go_wp2
              refine bodyPost_ret (v := .tuple #[.agg #[.int .i64 0, .int .i64 0, .int .i64 0, .string ⟨#[]⟩, .int .i64 0, .int .i64 0, .int .i64 0], .agg #[.int .i64 q0, .int .i64 t0, .slice A n cp], .int .i64 11]) (by simp [results, Tryz.results39, go_sem, u20, u21, u22, u23, u24, u25, u26, u30, u31, u32]) rfl ⟨⟨A, n, cp, ?_, ?_⟩, ?_⟩
              · rw [HD.out.1, HD.out.2.1, HD.out.2.2.1, HD.out.2.2.2.1]; rfl
              · rw [HD.out.2.2.2.2]
                exact HR.out _ (Below.drew (((sto3 _ (w.heap.size + 1 + 1) (.int .i64 q0) (.int .i64 t0) (.slice A n cp))).below (((sto7 wr (w.heap.size + 1) (.int .i64 0) (.int .i64 0) (.int .i64 0) (.string ⟨#[]⟩) (.int .i64 0) (.int .i64 0) (.int .i64 0))).below hbr (by omega)) (by omega)))
              · exact Below.drew (((sto3 _ (w.heap.size + 1 + 1) (.int .i64 q0) (.int .i64 t0) (.slice A n cp))).below (((sto7 wr (w.heap.size + 1) (.int .i64 0) (.int .i64 0) (.int .i64 0) (.string ⟨#[]⟩) (.int .i64 0) (.int .i64 0) (.int .i64 0))).below hbr (by omega)) (by omega))
            case pos =>
              by_cases h12 : (v3 : Int) ≤ 1099511627776
              case neg =>
                have g9 : (1099511627776 : Int) < v3 := by omega
                have HD := hid (de_none hr (fun y hy => by have h1 := (HLIM.out y hy).2.2.2.1; exact h12 h1))
                clear h12
                go_wp2_with fail
                go_region
                go_wp2
                refine bodyPost_ret (v := .tuple #[.agg #[.int .i64 0, .int .i64 0, .int .i64 0, .string ⟨#[]⟩, .int .i64 0, .int .i64 0, .int .i64 0], .agg #[.int .i64 q0, .int .i64 t0, .slice A n cp], .int .i64 11]) (by simp [results, Tryz.results39, go_sem, u20, u21, u22, u23, u24, u25, u26, u30, u31, u32]) rfl ⟨⟨A, n, cp, ?_, ?_⟩, ?_⟩
                · rw [HD.out.1, HD.out.2.1, HD.out.2.2.1, HD.out.2.2.2.1]; rfl
                · rw [HD.out.2.2.2.2]
                  exact HR.out _ (Below.drew (((sto3 _ (w.heap.size + 1 + 1) (.int .i64 q0) (.int .i64 t0) (.slice A n cp))).below (((sto7 wr (w.heap.size + 1) (.int .i64 0) (.int .i64 0) (.int .i64 0) (.string ⟨#[]⟩) (.int .i64 0) (.int .i64 0) (.int .i64 0))).below hbr (by omega)) (by omega)))
                · exact Below.drew (((sto3 _ (w.heap.size + 1 + 1) (.int .i64 q0) (.int .i64 t0) (.slice A n cp))).below (((sto7 wr (w.heap.size + 1) (.int .i64 0) (.int .i64 0) (.int .i64 0) (.string ⟨#[]⟩) (.int .i64 0) (.int .i64 0) (.int .i64 0))).below hbr (by omega)) (by omega))
              case pos =>
                by_cases h13 : (v4 : Int) ≤ (n : Int)
                case neg =>
                  have g9 : (n : Int) < v4 := by omega
                  have HD := hid (de_none hr (fun y hy => by have h1 := (HLIM.out y hy).2.2.2.2; exact h13 (by have := HLN.out; omega)))
                  clear h13
                  go_wp2_with fail
                  go_region
                  go_wp2
                  refine bodyPost_ret (v := .tuple #[.agg #[.int .i64 0, .int .i64 0, .int .i64 0, .string ⟨#[]⟩, .int .i64 0, .int .i64 0, .int .i64 0], .agg #[.int .i64 q0, .int .i64 t0, .slice A n cp], .int .i64 11]) (by simp [results, Tryz.results39, go_sem, u20, u21, u22, u23, u24, u25, u26, u30, u31, u32]) rfl ⟨⟨A, n, cp, ?_, ?_⟩, ?_⟩
                  · rw [HD.out.1, HD.out.2.1, HD.out.2.2.1, HD.out.2.2.2.1]; rfl
                  · rw [HD.out.2.2.2.2]
                    exact HR.out _ (Below.drew (((sto3 _ (w.heap.size + 1 + 1) (.int .i64 q0) (.int .i64 t0) (.slice A n cp))).below (((sto7 wr (w.heap.size + 1) (.int .i64 0) (.int .i64 0) (.int .i64 0) (.string ⟨#[]⟩) (.int .i64 0) (.int .i64 0) (.int .i64 0))).below hbr (by omega)) (by omega)))
                  · exact Below.drew (((sto3 _ (w.heap.size + 1 + 1) (.int .i64 q0) (.int .i64 t0) (.slice A n cp))).below (((sto7 wr (w.heap.size + 1) (.int .i64 0) (.int .i64 0) (.int .i64 0) (.string ⟨#[]⟩) (.int .i64 0) (.int .i64 0) (.int .i64 0))).below hbr (by omega)) (by omega))
                case pos =>
                  subst h9
                  obtain ⟨⟨q5, q6⟩, ⟨t5, t6⟩, -⟩ := (rc_iff q0 t0 ss).1 hr
                  have HKa := hid (And.intro HK.out.1 (And.intro HK.out.2.1 (And.intro HK.out.2.2.1 HK.out.2.2.2.1)))
                  by_cases h15 : v4 = 0
                  · subst h15
                    obtain ⟨p5, e5, bs, ht⟩ : ∃ p5 e5 bs, textS zs p4 0 24 = (p5, e5, bs) := ⟨_, _, _, rfl⟩
                    have HT := hid ht
                    clear ht
                    go_wp2_with fail
                    have hal : Below wr.heap.size wr (wr.alloc (.cells #[.int .i64 (q0 + v2), .int .i64 (t0 + v3), .int .i64 v1, .string ⟨#[]⟩, .int .i64 0, .int .i64 0, .int .i64 0] 41)) := (Below.refl _ _).alloc (Nat.le_refl _) _
                    with_reducible refine (PT.out _ (hbr.alloc (by omega) _) _ _ _ _ _ HT.out).mono ?_
                    rintro e we ⟨rfl, hb2⟩
                    clear HK u50 u51 u52 u53 f50 f51 f52 f53 z5 hal
                    have HK := HKa
                    clear HKa
                    have hgxe : gx < wr.heap.size := z4
                    have hbwe : Below w.heap.size w we := (hbr.alloc (by omega) _).trans (hb2.mono (by simp; omega))
                    have K1 := (hb2.block _ (by simp; omega)).trans ((Below.heap_alloc _ _ _ z1).trans HK.out.1)
                    have K2 := (hb2.block _ (by simp; omega)).trans ((Below.heap_alloc _ _ _ z2).trans HK.out.2.1)
                    have K3 := (hb2.block _ (by simp; omega)).trans ((Below.heap_alloc _ _ _ z3).trans HK.out.2.2.1)
                    have K4 := (hb2.block _ (by simp; omega)).trans ((Below.heap_alloc _ _ _ z4).trans HK.out.2.2.2)
                    have K5 := (hb2.block _ (by simp)).trans (heap_alloc_new wr _)
                    obtain ⟨ge, hge⟩ : ∃ g, wr.heap.size = g := ⟨_, rfl⟩
                    have lge : w.heap.size + 3 ≤ ge := by omega
                    rw [hge] at K5
                    clear z1 u10 u11 u12 f10 f11 f12 z2 u20 u21 u22 u23 u24 u25 u26 fz2 z3 u30 u31 u32 f30 f31 f32 z4 u40 u41 u42 f40 f41 f42 HK
                    have z1 := blk_lt K1
                    obtain ⟨u10, u11, u12, f10, f11, f12⟩ := blk3 K1
                    have z2 := blk_lt K2
                    obtain ⟨u20, u21, u22, u23, u24, u25, u26⟩ := blk7 K2
                    have fz2 := blk7f K2
                    have z3 := blk_lt K3
                    obtain ⟨u30, u31, u32, f30, f31, f32⟩ := blk3 K3
                    have z4 := blk_lt K4
                    obtain ⟨u40, u41, u42, f40, f41, f42⟩ := blk3 K4
                    have z5 := blk_lt K5
                    obtain ⟨u50, u51, u52, u53, u54, u55, u56⟩ := blk7 K5
                    have fz5 := blk7f K5
                    have HK := hid (And.intro K1 (And.intro K2 (And.intro K3 (And.intro K4 (K5)))))
                    clear K1 K2 K3 K4 K5
                    rw [hge]
                    rw [hge] at hgxe
                    clear hb2 hbr hge
                    go_wp2_with fail
                    obtain ⟨wL, hWL⟩ : ∃ w9, w9 = ((((we).setCell ⟨gx, 0, none⟩ (.slice B m c)).setCell ⟨gx, 1, none⟩ (.int .i64 p5)).setCell ⟨gx, 2, none⟩ (.int .i64 e5)).setCell ⟨ge, 3, none⟩ (.string (strOfNums bs)) := ⟨_, rfl⟩
                    rw [← hWL]
                    have S4 := sto3 we gx (.slice B m c) (.int .i64 p5) (.int .i64 e5)
                    have S5 := Sto.cell ((((we).setCell ⟨gx, 0, none⟩ (.slice B m c)).setCell ⟨gx, 1, none⟩ (.int .i64 p5)).setCell ⟨gx, 2, none⟩ (.int .i64 e5)) ge 3 (.string (strOfNums bs))
                    have E1 := (S5.block w.heap.size (by omega)).trans ((S4.block w.heap.size (by omega)).trans HK.out.1)
                    have E2 := (S5.block (w.heap.size + 1) (by omega)).trans ((S4.block (w.heap.size + 1) (by omega)).trans HK.out.2.1)
                    have E3 := (S5.block (w.heap.size + 1 + 1) (by omega)).trans ((S4.block (w.heap.size + 1 + 1) (by omega)).trans HK.out.2.2.1)
                    have E4 := (S5.block gx (by omega)).trans (all3 (a' := .slice B m c) (b' := .int .i64 p5) (c' := .int .i64 e5) HK.out.2.2.2.1)
                    have E5 := (fld7 (u := .string (strOfNums bs)) ((S4.block ge (by omega)).trans HK.out.2.2.2.2)).1
                    have hbwL := S5.below (S4.below hbwe (by omega)) (by omega)
                    rw [← hWL] at E1 E2 E3 E4 E5 hbwL
                    have K1 := E1
                    have K2 := E2
                    have K3 := E3
                    have K4 := E4
                    have K5 := E5
                    clear E1 E2 E3 E4 E5 S4 S5 HK hWL hbwe z1 u10 u11 u12 f10 f11 f12 z2 u20 u21 u22 u23 u24 u25 u26 fz2 z3 u30 u31 u32 f30 f31 f32 z4 u40 u41 u42 f40 f41 f42 z5 u50 u51 u52 u53 u54 u55 u56 fz5
                    have z1 := blk_lt K1
                    obtain ⟨u10, u11, u12, f10, f11, f12⟩ := blk3 K1
                    have z2 := blk_lt K2
                    obtain ⟨u20, u21, u22, u23, u24, u25, u26⟩ := blk7 K2
                    have fz2 := blk7f K2
                    have z3 := blk_lt K3
                    obtain ⟨u30, u31, u32, f30, f31, f32⟩ := blk3 K3
                    have z4 := blk_lt K4
                    obtain ⟨u40, u41, u42, f40, f41, f42⟩ := blk3 K4
                    have z5 := blk_lt K5
                    obtain ⟨u50, u51, u52, u53, u54, u55, u56⟩ := blk7 K5
                    have fz5 := blk7f K5
                    have HK := hid (And.intro K1 (And.intro K2 (And.intro K3 (And.intro K4 (K5)))))
                    clear K1 K2 K3 K4 K5
                    have PMN := hid (RMany_any (v1 : Int))
                    obtain ⟨mm, hmm⟩ : ∃ mm : Nat, mnI (v1 : Int) = mm := ⟨(mnI (v1 : Int)).toNat, by have := mn_le (v1 : Int); omega⟩
                    have hm3 : mm ≤ 3 := by have := mn_le (v1 : Int); omega
                    rw [hmm] at PMN
                    have HALL := hid (fun (y : Ev) (hy : Fo q0 t0 ss y zs) => rd_all hr HU1.out HU2.out HU3.out HU4.out (p5 := p5) (e5 := e5) (s := (strOfNums bs)) (fun _ => ⟨bs, HT.out, rfl⟩) (fun h => absurd rfl h) h10 hmm hy)
                    clear hmm
                    refine (PMN.out _).mono ?_
                    rintro e w9 ⟨rfl, rfl⟩
                    have HKL := hid (show Hid (wL.heap[w.heap.size]? = some (.cells #[.int .i64 q0, .int .i64 t0, .slice A n cp] 24 (0, 0))) ∧ Hid (wL.heap[w.heap.size + 1]? = some (.cells #[.int .i64 0, .int .i64 0, .int .i64 0, .string ⟨#[]⟩, .int .i64 0, .int .i64 0, .int .i64 0] 41 (0, 0))) ∧ Hid (wL.heap[w.heap.size + 1 + 1]? = some (.cells #[.int .i64 0, .int .i64 0, .slice none 0 0] 24 (0, 0))) ∧ Hid (wL.heap[gx]? = some (.cells #[.slice B m c, .int .i64 p5, .int .i64 e5] 94 (0, 0))) ∧ Hid (wL.heap[ge]? = some (.cells #[.int .i64 (q0 + v2), .int .i64 (t0 + v3), .int .i64 v1, .string (strOfNums bs), .int .i64 0, .int .i64 0, .int .i64 0] 41 (0, 0))) from ⟨HK.out.1, HK.out.2.1, HK.out.2.2.1, HK.out.2.2.2.1, HK.out.2.2.2.2⟩)
                    clear HK z1 u10 u11 u12 f10 f11 f12 z2 u20 u21 u22 u23 u24 u25 u26 fz2 z3 u30 u31 u32 f30 f31 f32 z4 u40 u41 u42 f40 f41 f42 z5 u50 u51 u52 u53 u54 u55 u56 fz5
                    go_wp2_with fail
                    go_loopw [12] (fun i wr => ∃ (j : Nat) (pj ej : Int), j ≤ mm ∧ i = .int .i64 j ∧ Hid (cu zs p5 e5 j = (pj, ej)) ∧ Hid (∀ i, i < j → ((va zs p5 e5 i : Nat) : Int) ≤ 2147483647) ∧ Hid (wr.heap[w.heap.size]? = some (.cells #[.int .i64 q0, .int .i64 t0, .slice A n cp] 24 (0, 0))) ∧ Hid (wr.heap[w.heap.size + 1]? = some (.cells #[.int .i64 0, .int .i64 0, .int .i64 0, .string ⟨#[]⟩, .int .i64 0, .int .i64 0, .int .i64 0] 41 (0, 0))) ∧ Hid (wr.heap[w.heap.size + 1 + 1]? = some (.cells #[.int .i64 0, .int .i64 0, .slice none 0 0] 24 (0, 0))) ∧ Hid (wr.heap[gx]? = some (.cells #[.slice B m c, .int .i64 pj, .int .i64 ej] 94 (0, 0))) ∧ Hid (wr.heap[ge]? = some (.cells #[.int .i64 (q0 + v2), .int .i64 (t0 + v3), .int .i64 v1, .string (strOfNums bs), .int .i64 (ny zs p5 e5 j 0), .int .i64 (ny zs p5 e5 j 1), .int .i64 (ny zs p5 e5 j 2)] 41 (0, 0))) ∧ Below w.heap.size w wr)
                      (fun i _ => mm - (intOf i).toNat)
                    case atStart => exact ⟨0, p5, e5, by omega, rfl, rfl, hid (fun i hi => absurd hi (by omega)), HKL.out.1, HKL.out.2.1, HKL.out.2.2.1, HKL.out.2.2.2.1, HKL.out.2.2.2.2, hbwL⟩
                    case round =>
                      clear HKL
                      obtain ⟨j, pj, ej, hj, rfl, HCJ, HLE, H1, H2, H3, H4, H5, hbq⟩ := hrel
                      have K1 := H1.out
                      have K2 := H2.out
                      have K3 := H3.out
                      have K4 := H4.out
                      have K5 := H5.out
                      have z1 := blk_lt K1
                      obtain ⟨u10, u11, u12, f10, f11, f12⟩ := blk3 K1
                      have z2 := blk_lt K2
                      obtain ⟨u20, u21, u22, u23, u24, u25, u26⟩ := blk7 K2
                      have fz2 := blk7f K2
                      have z3 := blk_lt K3
                      obtain ⟨u30, u31, u32, f30, f31, f32⟩ := blk3 K3
                      have z4 := blk_lt K4
                      obtain ⟨u40, u41, u42, f40, f41, f42⟩ := blk3 K4
                      have z5 := blk_lt K5
                      obtain ⟨u50, u51, u52, u53, u54, u55, u56⟩ := blk7 K5
                      have fz5 := blk7f K5
                      have HK := hid (And.intro K1 (And.intro K2 (And.intro K3 (And.intro K4 (K5)))))
                      clear K1 K2 K3 K4 K5
                      clear H1 H2 H3 H4 H5
                      by_cases hlt : j < mm
                      · obtain ⟨p', e', v', hu⟩ : ∃ p' e' v', uintS zs pj ej = (p', e', v') := ⟨_, _, _, rfl⟩
                        have HCS := hid (cu_succ HCJ.out hu)
                        have HU := hid hu
                        clear hu
                        go_wp2_with fail
                        with_reducible refine (PU.out _ hbq _ _ _ _ _ HU.out).mono ?_
                        rintro e wx ⟨rfl, hb2⟩
                        have hbwx : Below w.heap.size w wx := hbq.trans (hb2.mono hbq.size)
                        have K1 := (hb2.block _ z1).trans HK.out.1
                        have K2 := (hb2.block _ z2).trans HK.out.2.1
                        have K3 := (hb2.block _ z3).trans HK.out.2.2.1
                        have K4 := (hb2.block _ z4).trans HK.out.2.2.2.1
                        have K5 := (hb2.block _ z5).trans HK.out.2.2.2.2
                        clear z1 u10 u11 u12 f10 f11 f12 z2 u20 u21 u22 u23 u24 u25 u26 fz2 z3 u30 u31 u32 f30 f31 f32 z4 u40 u41 u42 f40 f41 f42 z5 u50 u51 u52 u53 u54 u55 u56 fz5 HK
                        have z1 := blk_lt K1
                        obtain ⟨u10, u11, u12, f10, f11, f12⟩ := blk3 K1
                        have z2 := blk_lt K2
                        obtain ⟨u20, u21, u22, u23, u24, u25, u26⟩ := blk7 K2
                        have fz2 := blk7f K2
                        have z3 := blk_lt K3
                        obtain ⟨u30, u31, u32, f30, f31, f32⟩ := blk3 K3
                        have z4 := blk_lt K4
                        obtain ⟨u40, u41, u42, f40, f41, f42⟩ := blk3 K4
                        have z5 := blk_lt K5
                        obtain ⟨u50, u51, u52, u53, u54, u55, u56⟩ := blk7 K5
                        have fz5 := blk7f K5
                        have HK := hid (And.intro K1 (And.intro K2 (And.intro K3 (And.intro K4 (K5)))))
                        clear K1 K2 K3 K4 K5
                        clear hb2 hbq
                        have hgg1 : ¬ gx = ge := by omega
                        have hgg2 : ¬ ge = gx := by omega
                        by_cases hbig : (2147483647 : Int) < v'
                        · have HD := hid (de_none hr (fun y hy => by have h1 := (HALL.out y hy).1 j hlt; rw [HCS.out.2] at h1; omega))
                          go_wp2_with fail
                          obtain ⟨wy, hWy⟩ : ∃ w9, w9 = ((((wx).setCell ⟨gx, 0, none⟩ (.slice B m c)).setCell ⟨gx, 1, none⟩ (.int .i64 p')).setCell ⟨gx, 2, none⟩ (.int .i64 e')).alloc (.cells #[.slice B m c, .int .i64 p', .int .i64 e'] 94) := ⟨_, rfl⟩
                          rw [← hWy]
                          have S4 := sto3 wx gx (.slice B m c) (.int .i64 p') (.int .i64 e')
                          have E1 := (Below.heap_alloc _ (.cells #[.slice B m c, .int .i64 p', .int .i64 e'] 94) w.heap.size (by rw [S4.size]; omega)).trans ((S4.block w.heap.size (by omega)).trans HK.out.1)
                          have E2 := (Below.heap_alloc _ (.cells #[.slice B m c, .int .i64 p', .int .i64 e'] 94) (w.heap.size + 1) (by rw [S4.size]; omega)).trans ((S4.block (w.heap.size + 1) (by omega)).trans HK.out.2.1)
                          have E3 := (Below.heap_alloc _ (.cells #[.slice B m c, .int .i64 p', .int .i64 e'] 94) (w.heap.size + 1 + 1) (by rw [S4.size]; omega)).trans ((S4.block (w.heap.size + 1 + 1) (by omega)).trans HK.out.2.2.1)
                          have hbwy := (S4.below hbwx (by omega)).alloc (by rw [S4.size]; omega) (.cells #[.slice B m c, .int .i64 p', .int .i64 e'] 94)
                          rw [← hWy] at E1 E2 E3 hbwy
                          have K1 := E1
                          have K2 := E2
                          have K3 := E3
                          clear E1 E2 E3 S4 HK hWy z1 u10 u11 u12 f10 f11 f12 z2 u20 u21 u22 u23 u24 u25 u26 fz2 z3 u30 u31 u32 f30 f31 f32 z4 u40 u41 u42 f40 f41 f42 z5 u50 u51 u52 u53 u54 u55 u56 fz5
                          have z1 := blk_lt K1
                          obtain ⟨u10, u11, u12, f10, f11, f12⟩ := blk3 K1
                          have z2 := blk_lt K2
                          obtain ⟨u20, u21, u22, u23, u24, u25, u26⟩ := blk7 K2
                          have fz2 := blk7f K2
                          have z3 := blk_lt K3
                          obtain ⟨u30, u31, u32, f30, f31, f32⟩ := blk3 K3
                          have HK := hid (And.intro K1 (And.intro K2 (K3)))
                          clear K1 K2 K3
                          go_region
                          go_wp2
                          refine bodyPost_ret (v := .tuple #[.agg #[.int .i64 0, .int .i64 0, .int .i64 0, .string ⟨#[]⟩, .int .i64 0, .int .i64 0, .int .i64 0], .agg #[.int .i64 q0, .int .i64 t0, .slice A n cp], .int .i64 11]) (by simp [results, Tryz.results39, go_sem, u20, u21, u22, u23, u24, u25, u26, u30, u31, u32]) rfl ⟨⟨A, n, cp, ?_, ?_⟩, ?_⟩
                          · rw [HD.out.1, HD.out.2.1, HD.out.2.2.1, HD.out.2.2.2.1]; rfl
                          · rw [HD.out.2.2.2.2]
                            exact HR.out _ (Below.drew (((sto3 _ (w.heap.size + 1 + 1) (.int .i64 q0) (.int .i64 t0) (.slice A n cp))).below (((sto7 wy (w.heap.size + 1) (.int .i64 0) (.int .i64 0) (.int .i64 0) (.string ⟨#[]⟩) (.int .i64 0) (.int .i64 0) (.int .i64 0))).below hbwy (by omega)) (by omega)))
                          · exact Below.drew (((sto3 _ (w.heap.size + 1 + 1) (.int .i64 q0) (.int .i64 t0) (.slice A n cp))).below (((sto7 wy (w.heap.size + 1) (.int .i64 0) (.int .i64 0) (.int .i64 0) (.string ⟨#[]⟩) (.int .i64 0) (.int .i64 0) (.int .i64 0))).below hbwy (by omega)) (by omega))
                        · have HLE2 := hid (fun (i : Nat) (hi : i < j + 1) => show ((va zs p5 e5 i : Nat) : Int) ≤ 2147483647 by
                            rcases Nat.lt_or_ge i j with h | h
                            · exact HLE.out i h
                            · obtain rfl : i = j := by omega
                              rw [HCS.out.2]; omega)
                          have HZ := hid (fun i => show ny zs p5 e5 (j + 1) i = if i = j then (v' : Int) else ny zs p5 e5 j i by
                            unfold ny
                            by_cases h : i = j
                            · subst h; rw [if_pos rfl, if_pos (by omega), HCS.out.2]
                            · rw [if_neg h]
                              by_cases h2 : i < j
                              · rw [if_pos h2, if_pos (by omega)]
                              · rw [if_neg h2, if_neg (by omega)])
                          have S4 := sto3 wx gx (.slice B m c) (.int .i64 p') (.int .i64 e')
                          have E1 := (S4.block w.heap.size (by omega)).trans HK.out.1
                          have E2 := (S4.block (w.heap.size + 1) (by omega)).trans HK.out.2.1
                          have E3 := (S4.block (w.heap.size + 1 + 1) (by omega)).trans HK.out.2.2.1
                          have E4 := all3 (a' := .slice B m c) (b' := .int .i64 p') (c' := .int .i64 e') HK.out.2.2.2.1
                          have E5 := (S4.block ge (by omega)).trans HK.out.2.2.2.2
                          have hbX := S4.below hbwx (by omega)
                          have hsz := S4.size
                          have HE := hid (And.intro E1 (And.intro E2 (And.intro E3 (And.intro E4 (And.intro E5 (And.intro hbX hsz))))))
                          clear E1 E2 E3 E4 E5 hbX S4 HK hsz
                          rcases (show j = 0 ∨ j = 1 ∨ j = 2 by omega) with rfl | rfl | rfl
                          · go_wp2_with fail
                            have hlts := hid (fun (u : Value) (k : Nat) (hk : k < wx.heap.size) => show k < (((((wx).setCell ⟨gx, 0, none⟩ (.slice B m c)).setCell ⟨gx, 1, none⟩ (.int .i64 p')).setCell ⟨gx, 2, none⟩ (.int .i64 e')).setCell ⟨ge, 4, none⟩ u).heap.size by
                              have h := HE.out.2.2.2.2.2.2
                              have h2 := (Sto.cell ((((wx).setCell ⟨gx, 0, none⟩ (.slice B m c)).setCell ⟨gx, 1, none⟩ (.int .i64 p')).setCell ⟨gx, 2, none⟩ (.int .i64 e')) ge 4 u).size
                              omega)
                            go_roundw
                            case rel =>
                              refine ⟨1, p', e', by omega, by first | rfl | go_num, HCS.out.1, hid (HLE2.out), ?_, ?_, ?_, ?_, ?_, ?_⟩
                              · exact (Below.heap_alloc _ _ _ (hlts.out _ _ (by omega))).trans ((Below.heap_setCell _ _ _ _ (by simp; omega)).trans HE.out.1)
                              · exact (Below.heap_alloc _ _ _ (hlts.out _ _ (by omega))).trans ((Below.heap_setCell _ _ _ _ (by simp; omega)).trans HE.out.2.1)
                              · exact (Below.heap_alloc _ _ _ (hlts.out _ _ (by omega))).trans ((Below.heap_setCell _ _ _ _ (by simp; omega)).trans HE.out.2.2.1)
                              · exact (Below.heap_alloc _ _ _ (hlts.out _ _ (by omega))).trans ((Below.heap_setCell _ _ _ _ (by simp; omega)).trans HE.out.2.2.2.1)
                              · have h := (fld7 (u := .int .i64 v') HE.out.2.2.2.2.1).2.1
                                have e0 := HZ.out 0
                                have e1 := HZ.out 1
                                have e2 := HZ.out 2
                                simp only [Nat.reduceAdd, Nat.reduceEqDiff, ↓reduceIte] at e0 e1 e2
                                show _ = _
                                rw [e0, e1, e2]
                                exact (Below.heap_alloc _ _ _ (hlts.out _ _ (by omega))).trans h
                              · exact Below.alloc (Below.setCell HE.out.2.2.2.2.2.1 (by simp; omega) _) (by have := hlts.out (.int .i64 v') w.heap.size (by omega); omega) _
                            case measure => simp [intOf]; omega
                          · go_wp2_with fail
                            have hlts := hid (fun (u : Value) (k : Nat) (hk : k < wx.heap.size) => show k < (((((wx).setCell ⟨gx, 0, none⟩ (.slice B m c)).setCell ⟨gx, 1, none⟩ (.int .i64 p')).setCell ⟨gx, 2, none⟩ (.int .i64 e')).setCell ⟨ge, 5, none⟩ u).heap.size by
                              have h := HE.out.2.2.2.2.2.2
                              have h2 := (Sto.cell ((((wx).setCell ⟨gx, 0, none⟩ (.slice B m c)).setCell ⟨gx, 1, none⟩ (.int .i64 p')).setCell ⟨gx, 2, none⟩ (.int .i64 e')) ge 5 u).size
                              omega)
                            go_roundw
                            case rel =>
                              refine ⟨2, p', e', by omega, by first | rfl | go_num, HCS.out.1, hid (HLE2.out), ?_, ?_, ?_, ?_, ?_, ?_⟩
                              · exact (Below.heap_alloc _ _ _ (hlts.out _ _ (by omega))).trans ((Below.heap_setCell _ _ _ _ (by simp; omega)).trans HE.out.1)
                              · exact (Below.heap_alloc _ _ _ (hlts.out _ _ (by omega))).trans ((Below.heap_setCell _ _ _ _ (by simp; omega)).trans HE.out.2.1)
                              · exact (Below.heap_alloc _ _ _ (hlts.out _ _ (by omega))).trans ((Below.heap_setCell _ _ _ _ (by simp; omega)).trans HE.out.2.2.1)
                              · exact (Below.heap_alloc _ _ _ (hlts.out _ _ (by omega))).trans ((Below.heap_setCell _ _ _ _ (by simp; omega)).trans HE.out.2.2.2.1)
                              · have h := (fld7 (u := .int .i64 v') HE.out.2.2.2.2.1).2.2.1
                                have e0 := HZ.out 0
                                have e1 := HZ.out 1
                                have e2 := HZ.out 2
                                simp only [Nat.reduceAdd, Nat.reduceEqDiff, ↓reduceIte] at e0 e1 e2
                                show _ = _
                                rw [e0, e1, e2]
                                exact (Below.heap_alloc _ _ _ (hlts.out _ _ (by omega))).trans h
                              · exact Below.alloc (Below.setCell HE.out.2.2.2.2.2.1 (by simp; omega) _) (by have := hlts.out (.int .i64 v') w.heap.size (by omega); omega) _
                            case measure => simp [intOf]; omega
                          · go_wp2_with fail
                            have hlts := hid (fun (u : Value) (k : Nat) (hk : k < wx.heap.size) => show k < (((((wx).setCell ⟨gx, 0, none⟩ (.slice B m c)).setCell ⟨gx, 1, none⟩ (.int .i64 p')).setCell ⟨gx, 2, none⟩ (.int .i64 e')).setCell ⟨ge, 6, none⟩ u).heap.size by
                              have h := HE.out.2.2.2.2.2.2
                              have h2 := (Sto.cell ((((wx).setCell ⟨gx, 0, none⟩ (.slice B m c)).setCell ⟨gx, 1, none⟩ (.int .i64 p')).setCell ⟨gx, 2, none⟩ (.int .i64 e')) ge 6 u).size
                              omega)
                            go_roundw
                            case rel =>
                              refine ⟨3, p', e', by omega, by first | rfl | go_num, HCS.out.1, hid (HLE2.out), ?_, ?_, ?_, ?_, ?_, ?_⟩
                              · exact (Below.heap_alloc _ _ _ (hlts.out _ _ (by omega))).trans ((Below.heap_setCell _ _ _ _ (by simp; omega)).trans HE.out.1)
                              · exact (Below.heap_alloc _ _ _ (hlts.out _ _ (by omega))).trans ((Below.heap_setCell _ _ _ _ (by simp; omega)).trans HE.out.2.1)
                              · exact (Below.heap_alloc _ _ _ (hlts.out _ _ (by omega))).trans ((Below.heap_setCell _ _ _ _ (by simp; omega)).trans HE.out.2.2.1)
                              · exact (Below.heap_alloc _ _ _ (hlts.out _ _ (by omega))).trans ((Below.heap_setCell _ _ _ _ (by simp; omega)).trans HE.out.2.2.2.1)
                              · have h := (fld7 (u := .int .i64 v') HE.out.2.2.2.2.1).2.2.2
                                have e0 := HZ.out 0
                                have e1 := HZ.out 1
                                have e2 := HZ.out 2
                                simp only [Nat.reduceAdd, Nat.reduceEqDiff, ↓reduceIte] at e0 e1 e2
                                show _ = _
                                rw [e0, e1, e2]
                                exact (Below.heap_alloc _ _ _ (hlts.out _ _ (by omega))).trans h
                              · exact Below.alloc (Below.setCell HE.out.2.2.2.2.2.1 (by simp; omega) _) (by have := hlts.out (.int .i64 v') w.heap.size (by omega); omega) _
                            case measure => simp [intOf]; omega
                      · obtain rfl : j = mm := by omega
                        have PE9 := PE.out _ hbq (q0 + v2) (t0 + v3) v1 (ny zs p5 e5 j 0) (ny zs p5 e5 j 1) (ny zs p5 e5 j 2) (strOfNums bs)
                        obtain ⟨X, hX⟩ : ∃ X : Ev, X = ⟨q0 + v2, t0 + v3, v1, (strOfNums bs), ny zs p5 e5 j 0, ny zs p5 e5 j 1, ny zs p5 e5 j 2⟩ := ⟨_, rfl⟩
                        have hXl := hX
                        rw [← hX] at PE9
                        have HXF := hid (fun (y : Ev) (hy : Fo q0 t0 ss y zs) => hX.trans (HALL.out y hy).2.2)
                        have HXE := hid (fun (y : Ev) (hy : Fo q0 t0 ss y zs) => show ej = 0 by have h1 := (HALL.out y hy).2.1; rw [HCJ.out] at h1; exact h1)
                        have HXV := hid (show evV X = .agg #[.int .i64 (q0 + v2), .int .i64 (t0 + v3), .int .i64 v1, .string (strOfNums bs), .int .i64 (ny zs p5 e5 j 0), .int .i64 (ny zs p5 e5 j 1), .int .i64 (ny zs p5 e5 j 2)] by rw [hX]; rfl)
                        unfold Encs at PE9
                        obtain ⟨E, hE⟩ : ∃ E, enE q0 t0 ss X = E := ⟨_, rfl⟩
                        obtain ⟨BY, hBY⟩ : ∃ E, enB q0 t0 ss X = E := ⟨_, rfl⟩
                        obtain ⟨QQ, hQQ⟩ : ∃ E, enQ q0 t0 ss X = E := ⟨_, rfl⟩
                        obtain ⟨TT, hTT⟩ : ∃ E, enT q0 t0 ss X = E := ⟨_, rfl⟩
                        obtain ⟨LL, hLL⟩ : ∃ E, enL q0 t0 ss X = E := ⟨_, rfl⟩
                        rw [hE, hBY, hQQ, hTT, hLL] at PE9
                        have HE := hid hE
                        have HBY := hid hBY
                        have HEN := hid (And.intro hQQ (And.intro hTT hLL))
                        have PE8 := hid PE9
                        clear PE9 hX hE hBY hQQ hTT hLL HALL HLE hXl PU
                        go_wp2_with fail
                        refine PE8.out.mono ?_
                        rintro e wE ⟨⟨A9, n9, c9, A8, n8, c8, rfl, hR9, hR8⟩, hb2⟩
                        have hbwE : Below w.heap.size w wE := hbq.trans (hb2.mono hbq.size)
                        have K1 := (hb2.block _ z1).trans HK.out.1
                        have K2 := (hb2.block _ z2).trans HK.out.2.1
                        have K3 := (hb2.block _ z3).trans HK.out.2.2.1
                        have K4 := (hb2.block _ z4).trans HK.out.2.2.2.1
                        have K5 := (hb2.block _ z5).trans HK.out.2.2.2.2
                        clear z1 u10 u11 u12 f10 f11 f12 z2 u20 u21 u22 u23 u24 u25 u26 fz2 z3 u30 u31 u32 f30 f31 f32 z4 u40 u41 u42 f40 f41 f42 z5 u50 u51 u52 u53 u54 u55 u56 fz5 HK
                        have z1 := blk_lt K1
                        obtain ⟨u10, u11, u12, f10, f11, f12⟩ := blk3 K1
                        have z2 := blk_lt K2
                        obtain ⟨u20, u21, u22, u23, u24, u25, u26⟩ := blk7 K2
                        have fz2 := blk7f K2
                        have z3 := blk_lt K3
                        obtain ⟨u30, u31, u32, f30, f31, f32⟩ := blk3 K3
                        have z4 := blk_lt K4
                        obtain ⟨u40, u41, u42, f40, f41, f42⟩ := blk3 K4
                        have z5 := blk_lt K5
                        obtain ⟨u50, u51, u52, u53, u54, u55, u56⟩ := blk7 K5
                        have fz5 := blk7f K5
                        have HK := hid (And.intro K1 (And.intro K2 (And.intro K3 (And.intro K4 (K5)))))
                        clear K1 K2 K3 K4 K5
                        have HR9 := hid hR9
                        have HR8 := hid hR8
                        clear hb2 hR9 hR8 PE8 hbq
                        by_cases hee : ej = 0
                        case neg =>
                          have HD := hid (de_none hr (fun y hy => hee (HXE.out y hy)))
                          go_wp2_with fail
                          go_region
                          go_wp2
                          refine bodyPost_ret (v := .tuple #[.agg #[.int .i64 0, .int .i64 0, .int .i64 0, .string ⟨#[]⟩, .int .i64 0, .int .i64 0, .int .i64 0], .agg #[.int .i64 q0, .int .i64 t0, .slice A n cp], .int .i64 11]) (by simp [results, Tryz.results39, go_sem, z2, z3, u20, u21, u22, u23, u24, u25, u26, u30, u31, u32]) rfl ⟨⟨A, n, cp, ?_, ?_⟩, ?_⟩
                          · rw [HD.out.1, HD.out.2.1, HD.out.2.2.1, HD.out.2.2.2.1]; rfl
                          · rw [HD.out.2.2.2.2]
                            exact HR.out _ (Below.drew (Below.alloc (((sto3 _ (w.heap.size + 1 + 1) (.int .i64 q0) (.int .i64 t0) (.slice A n cp))).below (((sto7 wE (w.heap.size + 1) (.int .i64 0) (.int .i64 0) (.int .i64 0) (.string ⟨#[]⟩) (.int .i64 0) (.int .i64 0) (.int .i64 0))).below hbwE (by omega)) (by omega)) (by simp; omega) _))
                          · exact Below.drew (Below.alloc (((sto3 _ (w.heap.size + 1 + 1) (.int .i64 q0) (.int .i64 t0) (.slice A n cp))).below (((sto7 wE (w.heap.size + 1) (.int .i64 0) (.int .i64 0) (.int .i64 0) (.string ⟨#[]⟩) (.int .i64 0) (.int .i64 0) (.int .i64 0))).below hbwE (by omega)) (by omega)) (by simp; omega) _)
                        case pos =>
                          by_cases hE0 : E = 0
                          case neg =>
                            have HD := hid (de_none hr (fun y hy => hE0 (by rw [← HE.out, en_fl hr, HXF.out y hy]; exact hy.1)))
                            go_wp2_with fail
                            go_region
                            go_wp2
                            refine bodyPost_ret (v := .tuple #[.agg #[.int .i64 0, .int .i64 0, .int .i64 0, .string ⟨#[]⟩, .int .i64 0, .int .i64 0, .int .i64 0], .agg #[.int .i64 q0, .int .i64 t0, .slice A n cp], .int .i64 11]) (by simp [results, Tryz.results39, go_sem, z2, z3, u20, u21, u22, u23, u24, u25, u26, u30, u31, u32]) rfl ⟨⟨A, n, cp, ?_, ?_⟩, ?_⟩
                            · rw [HD.out.1, HD.out.2.1, HD.out.2.2.1, HD.out.2.2.2.1]; rfl
                            · rw [HD.out.2.2.2.2]
                              exact HR.out _ (Below.drew (Below.alloc (((sto3 _ (w.heap.size + 1 + 1) (.int .i64 q0) (.int .i64 t0) (.slice A n cp))).below (((sto7 wE (w.heap.size + 1) (.int .i64 0) (.int .i64 0) (.int .i64 0) (.string ⟨#[]⟩) (.int .i64 0) (.int .i64 0) (.int .i64 0))).below hbwE (by omega)) (by omega)) (by simp; omega) _))
                            · exact Below.drew (Below.alloc (((sto3 _ (w.heap.size + 1 + 1) (.int .i64 q0) (.int .i64 t0) (.slice A n cp))).below (((sto7 wE (w.heap.size + 1) (.int .i64 0) (.int .i64 0) (.int .i64 0) (.string ⟨#[]⟩) (.int .i64 0) (.int .i64 0) (.int .i64 0))).below hbwE (by omega)) (by omega)) (by simp; omega) _)
                          case pos =>
                            obtain ⟨-, hfl, hsp, hqq, htt, hll⟩ := en_zero (HE.out.trans hE0)
                            have hbyB : Bytes BY := by rw [← HBY.out, hsp]; exact sp_bytes _ _ _ _
                            have k1 := fun (o : Obj) => conv8 c9 (HR9.out.below ((Below.refl wE.heap.size wE).alloc (Nat.le_refl _) o)).1
                            have k2 := fun (o : Obj) => conv8 c (HS.out _ (hbwE.alloc (by omega) o)).1
                            have he := str_eq hbyB HB.out
                            have HFL := hid hfl
                            have HSP := hid (HBY.out.symm.trans hsp)
                            have HQ := hid (And.intro (HEN.out.1.symm.trans hqq) (And.intro (HEN.out.2.1.symm.trans htt) (HEN.out.2.2.symm.trans hll)))
                            clear hbyB hfl hsp hqq htt hll
                            by_cases hby : BY = zs
                            case neg =>
                              have HD := hid (de_none hr (fun y hy => hby (by rw [HSP.out, HXF.out y hy]; exact hy.2)))
                              rw [decide_eq_false hby] at he
                              clear hby
                              go_wp2_with fail
                              go_region
                              go_wp2
                              refine bodyPost_ret (v := .tuple #[.agg #[.int .i64 0, .int .i64 0, .int .i64 0, .string ⟨#[]⟩, .int .i64 0, .int .i64 0, .int .i64 0], .agg #[.int .i64 q0, .int .i64 t0, .slice A n cp], .int .i64 11]) (by simp [results, Tryz.results39, go_sem, z2, z3, u20, u21, u22, u23, u24, u25, u26, u30, u31, u32]) rfl ⟨⟨A, n, cp, ?_, ?_⟩, ?_⟩
                              · rw [HD.out.1, HD.out.2.1, HD.out.2.2.1, HD.out.2.2.2.1]; rfl
                              · rw [HD.out.2.2.2.2]
                                exact HR.out _ (Below.drew (Below.alloc (((sto3 _ (w.heap.size + 1 + 1) (.int .i64 q0) (.int .i64 t0) (.slice A n cp))).below (((sto7 wE (w.heap.size + 1) (.int .i64 0) (.int .i64 0) (.int .i64 0) (.string ⟨#[]⟩) (.int .i64 0) (.int .i64 0) (.int .i64 0))).below hbwE (by omega)) (by omega)) (by simp; omega) _))
                              · exact Below.drew (Below.alloc (((sto3 _ (w.heap.size + 1 + 1) (.int .i64 q0) (.int .i64 t0) (.slice A n cp))).below (((sto7 wE (w.heap.size + 1) (.int .i64 0) (.int .i64 0) (.int .i64 0) (.string ⟨#[]⟩) (.int .i64 0) (.int .i64 0) (.int .i64 0))).below hbwE (by omega)) (by omega)) (by simp; omega) _)
                            case pos =>
                              have HD := hid (de_yes hr ⟨HFL.out, HSP.out.symm.trans hby⟩)
                              have HNE := hid (show ∀ s ∈ LL, 1 ≤ s.size from fun s hs => by
                                rw [HQ.out.2.2] at hs
                                exact (nm_size (((rgB_iff _).1 ((rc_iff _ _ _).1 (rc_next hr HFL.out)).2.2).2.1 s hs)).1)
                              rw [decide_eq_true hby] at he
                              clear hby
                              go_wp2_with fail
                              go_region
                              go_wp2
                              refine bodyPost_ret (v := .tuple #[.agg #[.int .i64 (q0 + v2), .int .i64 (t0 + v3), .int .i64 v1, .string (strOfNums bs), .int .i64 (ny zs p5 e5 j 0), .int .i64 (ny zs p5 e5 j 1), .int .i64 (ny zs p5 e5 j 2)], .agg #[.int .i64 QQ, .int .i64 TT, .slice A8 n8 c8], .int .i64 0]) (by simp [results, Tryz.results39, go_sem, z2, z3, u20, u21, u22, u23, u24, u25, u26, u30, u31, u32]) rfl ⟨⟨A8, n8, c8, ?_, ?_⟩, ?_⟩
                              · rw [HD.out.1, HD.out.2.1, HD.out.2.2.1, HD.out.2.2.2.1, HXV.out, HQ.out.1, HQ.out.2.1]
                              · rw [HD.out.2.2.2.2, ← HQ.out.2.2]
                                exact (((HR8.out.sto_ev HNE.out HK.out.2.1 (sto7 wE (w.heap.size + 1) (.int .i64 (q0 + v2)) (.int .i64 (t0 + v3)) (.int .i64 v1) (.string (strOfNums bs)) (.int .i64 (ny zs p5 e5 j 0)) (.int .i64 (ny zs p5 e5 j 1)) (.int .i64 (ny zs p5 e5 j 2)))).sto (((sto7 wE (w.heap.size + 1) (.int .i64 (q0 + v2)) (.int .i64 (t0 + v3)) (.int .i64 v1) (.string (strOfNums bs)) (.int .i64 (ny zs p5 e5 j 0)) (.int .i64 (ny zs p5 e5 j 1)) (.int .i64 (ny zs p5 e5 j 2))).block (w.heap.size + 1 + 1) (by omega)).trans HK.out.2.2.1) (sto3 _ (w.heap.size + 1 + 1) (.int .i64 QQ) (.int .i64 TT) (.slice A8 n8 c8))).below ((Below.refl _ _).alloc (Nat.le_refl _) _)).drew
                              · exact Below.drew (Below.alloc (((sto3 _ (w.heap.size + 1 + 1) (.int .i64 QQ) (.int .i64 TT) (.slice A8 n8 c8))).below (((sto7 wE (w.heap.size + 1) (.int .i64 (q0 + v2)) (.int .i64 (t0 + v3)) (.int .i64 v1) (.string (strOfNums bs)) (.int .i64 (ny zs p5 e5 j 0)) (.int .i64 (ny zs p5 e5 j 1)) (.int .i64 (ny zs p5 e5 j 2)))).below hbwE (by omega)) (by omega)) (by simp; omega) _)
                  · obtain ⟨k, rfl⟩ : ∃ k : Nat, v4 = k + 1 := ⟨v4 - 1, by omega⟩
                    have hkn : k < n := by omega
                    have hkw : IntKind.u64.wrap (k : Int) = (k : Int) := u64_in _ (by omega) (by omega)
                    obtain ⟨gb, go, u, hA, hgb, hu, hcA⟩ := (HR.out wr hbr).1.get hkn
                    have hx := st9_at hu
                    subst hx
                    have HX := hid (show ss[k]? = some (ss[k]?.getD default) by rw [List.getElem?_eq_getElem (by have := HLN.out; omega)]; rfl)
                    clear hu
                    generalize ss[k]?.getD default = z at *
                    subst hA
                    go_wp2_with fail
                    obtain ⟨ge, hge⟩ : ∃ g, wr.heap.size = g := ⟨_, rfl⟩
                    have hgxe : gx < ge := by rw [← hge]; exact z4
                    have lge : w.heap.size + 3 ≤ ge := by omega
                    obtain ⟨wL, hWL⟩ : ∃ w9, w9 = wr.alloc (.cells #[.int .i64 (q0 + v2), .int .i64 (t0 + v3), .int .i64 v1, .string z, .int .i64 0, .int .i64 0, .int .i64 0] 41) := ⟨_, rfl⟩
                    rw [← hWL, hge]
                    have E1 := (Below.heap_alloc wr (.cells #[.int .i64 (q0 + v2), .int .i64 (t0 + v3), .int .i64 v1, .string z, .int .i64 0, .int .i64 0, .int .i64 0] 41) _ z1).trans HKa.out.1
                    have E2 := (Below.heap_alloc wr (.cells #[.int .i64 (q0 + v2), .int .i64 (t0 + v3), .int .i64 v1, .string z, .int .i64 0, .int .i64 0, .int .i64 0] 41) _ z2).trans HKa.out.2.1
                    have E3 := (Below.heap_alloc wr (.cells #[.int .i64 (q0 + v2), .int .i64 (t0 + v3), .int .i64 v1, .string z, .int .i64 0, .int .i64 0, .int .i64 0] 41) _ z3).trans HKa.out.2.2.1
                    have E4 := (Below.heap_alloc wr (.cells #[.int .i64 (q0 + v2), .int .i64 (t0 + v3), .int .i64 v1, .string z, .int .i64 0, .int .i64 0, .int .i64 0] 41) _ z4).trans HKa.out.2.2.2
                    have E5 := heap_alloc_new wr (.cells #[.int .i64 (q0 + v2), .int .i64 (t0 + v3), .int .i64 v1, .string z, .int .i64 0, .int .i64 0, .int .i64 0] 41)
                    have hbwL := hbr.alloc (by omega) (.cells #[.int .i64 (q0 + v2), .int .i64 (t0 + v3), .int .i64 v1, .string z, .int .i64 0, .int .i64 0, .int .i64 0] 41)
                    rw [← hWL] at E1 E2 E3 E4 E5 hbwL
                    rw [hge] at E5
                    have K1 := E1
                    have K2 := E2
                    have K3 := E3
                    have K4 := E4
                    have K5 := E5
                    clear E1 E2 E3 E4 E5 HK HKa hWL hbr hge hcA hgb z1 u10 u11 u12 f10 f11 f12 z2 u20 u21 u22 u23 u24 u25 u26 fz2 z3 u30 u31 u32 f30 f31 f32 z4 u40 u41 u42 f40 f41 f42 z5 u50 u51 u52 u53 f50 f51 f52 f53
                    have z1 := blk_lt K1
                    obtain ⟨u10, u11, u12, f10, f11, f12⟩ := blk3 K1
                    have z2 := blk_lt K2
                    obtain ⟨u20, u21, u22, u23, u24, u25, u26⟩ := blk7 K2
                    have fz2 := blk7f K2
                    have z3 := blk_lt K3
                    obtain ⟨u30, u31, u32, f30, f31, f32⟩ := blk3 K3
                    have z4 := blk_lt K4
                    obtain ⟨u40, u41, u42, f40, f41, f42⟩ := blk3 K4
                    have z5 := blk_lt K5
                    obtain ⟨u50, u51, u52, u53, u54, u55, u56⟩ := blk7 K5
                    have fz5 := blk7f K5
                    have HK := hid (And.intro K1 (And.intro K2 (And.intro K3 (And.intro K4 (K5)))))
                    clear K1 K2 K3 K4 K5
                    have PMN := hid (RMany_any (v1 : Int))
                    obtain ⟨mm, hmm⟩ : ∃ mm : Nat, mnI (v1 : Int) = mm := ⟨(mnI (v1 : Int)).toNat, by have := mn_le (v1 : Int); omega⟩
                    have hm3 : mm ≤ 3 := by have := mn_le (v1 : Int); omega
                    rw [hmm] at PMN
                    have HALL := hid (fun (y : Ev) (hy : Fo q0 t0 ss y zs) => rd_all hr HU1.out HU2.out HU3.out HU4.out (p5 := p4) (e5 := 0) (s := z) (fun h => absurd h (by omega)) (fun _ => ⟨rfl, rfl, fun y hy => Option.some.inj (HX.out.symm.trans hy)⟩) h10 hmm hy)
                    clear hmm
                    refine (PMN.out _).mono ?_
                    rintro e w9 ⟨rfl, rfl⟩
                    have HKL := hid (show Hid (wL.heap[w.heap.size]? = some (.cells #[.int .i64 q0, .int .i64 t0, .slice (some ⟨gb, go, none⟩) n cp] 24 (0, 0))) ∧ Hid (wL.heap[w.heap.size + 1]? = some (.cells #[.int .i64 0, .int .i64 0, .int .i64 0, .string ⟨#[]⟩, .int .i64 0, .int .i64 0, .int .i64 0] 41 (0, 0))) ∧ Hid (wL.heap[w.heap.size + 1 + 1]? = some (.cells #[.int .i64 0, .int .i64 0, .slice none 0 0] 24 (0, 0))) ∧ Hid (wL.heap[gx]? = some (.cells #[.slice B m c, .int .i64 p4, .int .i64 0] 94 (0, 0))) ∧ Hid (wL.heap[ge]? = some (.cells #[.int .i64 (q0 + v2), .int .i64 (t0 + v3), .int .i64 v1, .string z, .int .i64 0, .int .i64 0, .int .i64 0] 41 (0, 0))) from ⟨HK.out.1, HK.out.2.1, HK.out.2.2.1, HK.out.2.2.2.1, HK.out.2.2.2.2⟩)
                    clear HK z1 u10 u11 u12 f10 f11 f12 z2 u20 u21 u22 u23 u24 u25 u26 fz2 z3 u30 u31 u32 f30 f31 f32 z4 u40 u41 u42 f40 f41 f42 z5 u50 u51 u52 u53 u54 u55 u56 fz5
                    go_wp2_with fail
                    go_loopw [12] (fun i wr => ∃ (j : Nat) (pj ej : Int), j ≤ mm ∧ i = .int .i64 j ∧ Hid (cu zs p4 0 j = (pj, ej)) ∧ Hid (∀ i, i < j → ((va zs p4 0 i : Nat) : Int) ≤ 2147483647) ∧ Hid (wr.heap[w.heap.size]? = some (.cells #[.int .i64 q0, .int .i64 t0, .slice (some ⟨gb, go, none⟩) n cp] 24 (0, 0))) ∧ Hid (wr.heap[w.heap.size + 1]? = some (.cells #[.int .i64 0, .int .i64 0, .int .i64 0, .string ⟨#[]⟩, .int .i64 0, .int .i64 0, .int .i64 0] 41 (0, 0))) ∧ Hid (wr.heap[w.heap.size + 1 + 1]? = some (.cells #[.int .i64 0, .int .i64 0, .slice none 0 0] 24 (0, 0))) ∧ Hid (wr.heap[gx]? = some (.cells #[.slice B m c, .int .i64 pj, .int .i64 ej] 94 (0, 0))) ∧ Hid (wr.heap[ge]? = some (.cells #[.int .i64 (q0 + v2), .int .i64 (t0 + v3), .int .i64 v1, .string z, .int .i64 (ny zs p4 0 j 0), .int .i64 (ny zs p4 0 j 1), .int .i64 (ny zs p4 0 j 2)] 41 (0, 0))) ∧ Below w.heap.size w wr)
                      (fun i _ => mm - (intOf i).toNat)
                    case atStart => exact ⟨0, p4, 0, by omega, rfl, rfl, hid (fun i hi => absurd hi (by omega)), HKL.out.1, HKL.out.2.1, HKL.out.2.2.1, HKL.out.2.2.2.1, HKL.out.2.2.2.2, hbwL⟩
                    case round =>
                      clear HKL
                      obtain ⟨j, pj, ej, hj, rfl, HCJ, HLE, H1, H2, H3, H4, H5, hbq⟩ := hrel
                      have K1 := H1.out
                      have K2 := H2.out
                      have K3 := H3.out
                      have K4 := H4.out
                      have K5 := H5.out
                      have z1 := blk_lt K1
                      obtain ⟨u10, u11, u12, f10, f11, f12⟩ := blk3 K1
                      have z2 := blk_lt K2
                      obtain ⟨u20, u21, u22, u23, u24, u25, u26⟩ := blk7 K2
                      have fz2 := blk7f K2
                      have z3 := blk_lt K3
                      obtain ⟨u30, u31, u32, f30, f31, f32⟩ := blk3 K3
                      have z4 := blk_lt K4
                      obtain ⟨u40, u41, u42, f40, f41, f42⟩ := blk3 K4
                      have z5 := blk_lt K5
                      obtain ⟨u50, u51, u52, u53, u54, u55, u56⟩ := blk7 K5
                      have fz5 := blk7f K5
                      have HK := hid (And.intro K1 (And.intro K2 (And.intro K3 (And.intro K4 (K5)))))
                      clear K1 K2 K3 K4 K5
                      clear H1 H2 H3 H4 H5
                      by_cases hlt : j < mm
                      · obtain ⟨p', e', v', hu⟩ : ∃ p' e' v', uintS zs pj ej = (p', e', v') := ⟨_, _, _, rfl⟩
                        have HCS := hid (cu_succ HCJ.out hu)
                        have HU := hid hu
                        clear hu
                        go_wp2_with fail
                        with_reducible refine (PU.out _ hbq _ _ _ _ _ HU.out).mono ?_
                        rintro e wx ⟨rfl, hb2⟩
                        have hbwx : Below w.heap.size w wx := hbq.trans (hb2.mono hbq.size)
                        have K1 := (hb2.block _ z1).trans HK.out.1
                        have K2 := (hb2.block _ z2).trans HK.out.2.1
                        have K3 := (hb2.block _ z3).trans HK.out.2.2.1
                        have K4 := (hb2.block _ z4).trans HK.out.2.2.2.1
                        have K5 := (hb2.block _ z5).trans HK.out.2.2.2.2
                        clear z1 u10 u11 u12 f10 f11 f12 z2 u20 u21 u22 u23 u24 u25 u26 fz2 z3 u30 u31 u32 f30 f31 f32 z4 u40 u41 u42 f40 f41 f42 z5 u50 u51 u52 u53 u54 u55 u56 fz5 HK
                        have z1 := blk_lt K1
                        obtain ⟨u10, u11, u12, f10, f11, f12⟩ := blk3 K1
                        have z2 := blk_lt K2
                        obtain ⟨u20, u21, u22, u23, u24, u25, u26⟩ := blk7 K2
                        have fz2 := blk7f K2
                        have z3 := blk_lt K3
                        obtain ⟨u30, u31, u32, f30, f31, f32⟩ := blk3 K3
                        have z4 := blk_lt K4
                        obtain ⟨u40, u41, u42, f40, f41, f42⟩ := blk3 K4
                        have z5 := blk_lt K5
                        obtain ⟨u50, u51, u52, u53, u54, u55, u56⟩ := blk7 K5
                        have fz5 := blk7f K5
                        have HK := hid (And.intro K1 (And.intro K2 (And.intro K3 (And.intro K4 (K5)))))
                        clear K1 K2 K3 K4 K5
                        clear hb2 hbq
                        have hgg1 : ¬ gx = ge := by omega
                        have hgg2 : ¬ ge = gx := by omega
                        by_cases hbig : (2147483647 : Int) < v'
                        · have HD := hid (de_none hr (fun y hy => by have h1 := (HALL.out y hy).1 j hlt; rw [HCS.out.2] at h1; omega))
                          go_wp2_with fail
                          obtain ⟨wy, hWy⟩ : ∃ w9, w9 = ((((wx).setCell ⟨gx, 0, none⟩ (.slice B m c)).setCell ⟨gx, 1, none⟩ (.int .i64 p')).setCell ⟨gx, 2, none⟩ (.int .i64 e')).alloc (.cells #[.slice B m c, .int .i64 p', .int .i64 e'] 94) := ⟨_, rfl⟩
                          rw [← hWy]
                          have S4 := sto3 wx gx (.slice B m c) (.int .i64 p') (.int .i64 e')
                          have E1 := (Below.heap_alloc _ (.cells #[.slice B m c, .int .i64 p', .int .i64 e'] 94) w.heap.size (by rw [S4.size]; omega)).trans ((S4.block w.heap.size (by omega)).trans HK.out.1)
                          have E2 := (Below.heap_alloc _ (.cells #[.slice B m c, .int .i64 p', .int .i64 e'] 94) (w.heap.size + 1) (by rw [S4.size]; omega)).trans ((S4.block (w.heap.size + 1) (by omega)).trans HK.out.2.1)
                          have E3 := (Below.heap_alloc _ (.cells #[.slice B m c, .int .i64 p', .int .i64 e'] 94) (w.heap.size + 1 + 1) (by rw [S4.size]; omega)).trans ((S4.block (w.heap.size + 1 + 1) (by omega)).trans HK.out.2.2.1)
                          have hbwy := (S4.below hbwx (by omega)).alloc (by rw [S4.size]; omega) (.cells #[.slice B m c, .int .i64 p', .int .i64 e'] 94)
                          rw [← hWy] at E1 E2 E3 hbwy
                          have K1 := E1
                          have K2 := E2
                          have K3 := E3
                          clear E1 E2 E3 S4 HK hWy z1 u10 u11 u12 f10 f11 f12 z2 u20 u21 u22 u23 u24 u25 u26 fz2 z3 u30 u31 u32 f30 f31 f32 z4 u40 u41 u42 f40 f41 f42 z5 u50 u51 u52 u53 u54 u55 u56 fz5
                          have z1 := blk_lt K1
                          obtain ⟨u10, u11, u12, f10, f11, f12⟩ := blk3 K1
                          have z2 := blk_lt K2
                          obtain ⟨u20, u21, u22, u23, u24, u25, u26⟩ := blk7 K2
                          have fz2 := blk7f K2
                          have z3 := blk_lt K3
                          obtain ⟨u30, u31, u32, f30, f31, f32⟩ := blk3 K3
                          have HK := hid (And.intro K1 (And.intro K2 (K3)))
                          clear K1 K2 K3
                          go_region
                          go_wp2
                          refine bodyPost_ret (v := .tuple #[.agg #[.int .i64 0, .int .i64 0, .int .i64 0, .string ⟨#[]⟩, .int .i64 0, .int .i64 0, .int .i64 0], .agg #[.int .i64 q0, .int .i64 t0, .slice (some ⟨gb, go, none⟩) n cp], .int .i64 11]) (by simp [results, Tryz.results39, go_sem, u20, u21, u22, u23, u24, u25, u26, u30, u31, u32]) rfl ⟨⟨(some ⟨gb, go, none⟩), n, cp, ?_, ?_⟩, ?_⟩
                          · rw [HD.out.1, HD.out.2.1, HD.out.2.2.1, HD.out.2.2.2.1]; rfl
                          · rw [HD.out.2.2.2.2]
                            exact HR.out _ (Below.drew (((sto3 _ (w.heap.size + 1 + 1) (.int .i64 q0) (.int .i64 t0) (.slice (some ⟨gb, go, none⟩) n cp))).below (((sto7 wy (w.heap.size + 1) (.int .i64 0) (.int .i64 0) (.int .i64 0) (.string ⟨#[]⟩) (.int .i64 0) (.int .i64 0) (.int .i64 0))).below hbwy (by omega)) (by omega)))
                          · exact Below.drew (((sto3 _ (w.heap.size + 1 + 1) (.int .i64 q0) (.int .i64 t0) (.slice (some ⟨gb, go, none⟩) n cp))).below (((sto7 wy (w.heap.size + 1) (.int .i64 0) (.int .i64 0) (.int .i64 0) (.string ⟨#[]⟩) (.int .i64 0) (.int .i64 0) (.int .i64 0))).below hbwy (by omega)) (by omega))
                        · have HLE2 := hid (fun (i : Nat) (hi : i < j + 1) => show ((va zs p4 0 i : Nat) : Int) ≤ 2147483647 by
                            rcases Nat.lt_or_ge i j with h | h
                            · exact HLE.out i h
                            · obtain rfl : i = j := by omega
                              rw [HCS.out.2]; omega)
                          have HZ := hid (fun i => show ny zs p4 0 (j + 1) i = if i = j then (v' : Int) else ny zs p4 0 j i by
                            unfold ny
                            by_cases h : i = j
                            · subst h; rw [if_pos rfl, if_pos (by omega), HCS.out.2]
                            · rw [if_neg h]
                              by_cases h2 : i < j
                              · rw [if_pos h2, if_pos (by omega)]
                              · rw [if_neg h2, if_neg (by omega)])
                          have S4 := sto3 wx gx (.slice B m c) (.int .i64 p') (.int .i64 e')
                          have E1 := (S4.block w.heap.size (by omega)).trans HK.out.1
                          have E2 := (S4.block (w.heap.size + 1) (by omega)).trans HK.out.2.1
                          have E3 := (S4.block (w.heap.size + 1 + 1) (by omega)).trans HK.out.2.2.1
                          have E4 := all3 (a' := .slice B m c) (b' := .int .i64 p') (c' := .int .i64 e') HK.out.2.2.2.1
                          have E5 := (S4.block ge (by omega)).trans HK.out.2.2.2.2
                          have hbX := S4.below hbwx (by omega)
                          have hsz := S4.size
                          have HE := hid (And.intro E1 (And.intro E2 (And.intro E3 (And.intro E4 (And.intro E5 (And.intro hbX hsz))))))
                          clear E1 E2 E3 E4 E5 hbX S4 HK hsz
                          rcases (show j = 0 ∨ j = 1 ∨ j = 2 by omega) with rfl | rfl | rfl
                          · go_wp2_with fail
                            have hlts := hid (fun (u : Value) (k : Nat) (hk : k < wx.heap.size) => show k < (((((wx).setCell ⟨gx, 0, none⟩ (.slice B m c)).setCell ⟨gx, 1, none⟩ (.int .i64 p')).setCell ⟨gx, 2, none⟩ (.int .i64 e')).setCell ⟨ge, 4, none⟩ u).heap.size by
                              have h := HE.out.2.2.2.2.2.2
                              have h2 := (Sto.cell ((((wx).setCell ⟨gx, 0, none⟩ (.slice B m c)).setCell ⟨gx, 1, none⟩ (.int .i64 p')).setCell ⟨gx, 2, none⟩ (.int .i64 e')) ge 4 u).size
                              omega)
                            go_roundw
                            case rel =>
                              refine ⟨1, p', e', by omega, by first | rfl | go_num, HCS.out.1, hid (HLE2.out), ?_, ?_, ?_, ?_, ?_, ?_⟩
                              · exact (Below.heap_alloc _ _ _ (hlts.out _ _ (by omega))).trans ((Below.heap_setCell _ _ _ _ (by simp; omega)).trans HE.out.1)
                              · exact (Below.heap_alloc _ _ _ (hlts.out _ _ (by omega))).trans ((Below.heap_setCell _ _ _ _ (by simp; omega)).trans HE.out.2.1)
                              · exact (Below.heap_alloc _ _ _ (hlts.out _ _ (by omega))).trans ((Below.heap_setCell _ _ _ _ (by simp; omega)).trans HE.out.2.2.1)
                              · exact (Below.heap_alloc _ _ _ (hlts.out _ _ (by omega))).trans ((Below.heap_setCell _ _ _ _ (by simp; omega)).trans HE.out.2.2.2.1)
                              · have h := (fld7 (u := .int .i64 v') HE.out.2.2.2.2.1).2.1
                                have e0 := HZ.out 0
                                have e1 := HZ.out 1
                                have e2 := HZ.out 2
                                simp only [Nat.reduceAdd, Nat.reduceEqDiff, ↓reduceIte] at e0 e1 e2
                                show _ = _
                                rw [e0, e1, e2]
                                exact (Below.heap_alloc _ _ _ (hlts.out _ _ (by omega))).trans h
                              · exact Below.alloc (Below.setCell HE.out.2.2.2.2.2.1 (by simp; omega) _) (by have := hlts.out (.int .i64 v') w.heap.size (by omega); omega) _
                            case measure => simp [intOf]; omega
                          · go_wp2_with fail
                            have hlts := hid (fun (u : Value) (k : Nat) (hk : k < wx.heap.size) => show k < (((((wx).setCell ⟨gx, 0, none⟩ (.slice B m c)).setCell ⟨gx, 1, none⟩ (.int .i64 p')).setCell ⟨gx, 2, none⟩ (.int .i64 e')).setCell ⟨ge, 5, none⟩ u).heap.size by
                              have h := HE.out.2.2.2.2.2.2
                              have h2 := (Sto.cell ((((wx).setCell ⟨gx, 0, none⟩ (.slice B m c)).setCell ⟨gx, 1, none⟩ (.int .i64 p')).setCell ⟨gx, 2, none⟩ (.int .i64 e')) ge 5 u).size
                              omega)
                            go_roundw
                            case rel =>
                              refine ⟨2, p', e', by omega, by first | rfl | go_num, HCS.out.1, hid (HLE2.out), ?_, ?_, ?_, ?_, ?_, ?_⟩
                              · exact (Below.heap_alloc _ _ _ (hlts.out _ _ (by omega))).trans ((Below.heap_setCell _ _ _ _ (by simp; omega)).trans HE.out.1)
                              · exact (Below.heap_alloc _ _ _ (hlts.out _ _ (by omega))).trans ((Below.heap_setCell _ _ _ _ (by simp; omega)).trans HE.out.2.1)
                              · exact (Below.heap_alloc _ _ _ (hlts.out _ _ (by omega))).trans ((Below.heap_setCell _ _ _ _ (by simp; omega)).trans HE.out.2.2.1)
                              · exact (Below.heap_alloc _ _ _ (hlts.out _ _ (by omega))).trans ((Below.heap_setCell _ _ _ _ (by simp; omega)).trans HE.out.2.2.2.1)
                              · have h := (fld7 (u := .int .i64 v') HE.out.2.2.2.2.1).2.2.1
                                have e0 := HZ.out 0
                                have e1 := HZ.out 1
                                have e2 := HZ.out 2
                                simp only [Nat.reduceAdd, Nat.reduceEqDiff, ↓reduceIte] at e0 e1 e2
                                show _ = _
                                rw [e0, e1, e2]
                                exact (Below.heap_alloc _ _ _ (hlts.out _ _ (by omega))).trans h
                              · exact Below.alloc (Below.setCell HE.out.2.2.2.2.2.1 (by simp; omega) _) (by have := hlts.out (.int .i64 v') w.heap.size (by omega); omega) _
                            case measure => simp [intOf]; omega
                          · go_wp2_with fail
                            have hlts := hid (fun (u : Value) (k : Nat) (hk : k < wx.heap.size) => show k < (((((wx).setCell ⟨gx, 0, none⟩ (.slice B m c)).setCell ⟨gx, 1, none⟩ (.int .i64 p')).setCell ⟨gx, 2, none⟩ (.int .i64 e')).setCell ⟨ge, 6, none⟩ u).heap.size by
                              have h := HE.out.2.2.2.2.2.2
                              have h2 := (Sto.cell ((((wx).setCell ⟨gx, 0, none⟩ (.slice B m c)).setCell ⟨gx, 1, none⟩ (.int .i64 p')).setCell ⟨gx, 2, none⟩ (.int .i64 e')) ge 6 u).size
                              omega)
                            go_roundw
                            case rel =>
                              refine ⟨3, p', e', by omega, by first | rfl | go_num, HCS.out.1, hid (HLE2.out), ?_, ?_, ?_, ?_, ?_, ?_⟩
                              · exact (Below.heap_alloc _ _ _ (hlts.out _ _ (by omega))).trans ((Below.heap_setCell _ _ _ _ (by simp; omega)).trans HE.out.1)
                              · exact (Below.heap_alloc _ _ _ (hlts.out _ _ (by omega))).trans ((Below.heap_setCell _ _ _ _ (by simp; omega)).trans HE.out.2.1)
                              · exact (Below.heap_alloc _ _ _ (hlts.out _ _ (by omega))).trans ((Below.heap_setCell _ _ _ _ (by simp; omega)).trans HE.out.2.2.1)
                              · exact (Below.heap_alloc _ _ _ (hlts.out _ _ (by omega))).trans ((Below.heap_setCell _ _ _ _ (by simp; omega)).trans HE.out.2.2.2.1)
                              · have h := (fld7 (u := .int .i64 v') HE.out.2.2.2.2.1).2.2.2
                                have e0 := HZ.out 0
                                have e1 := HZ.out 1
                                have e2 := HZ.out 2
                                simp only [Nat.reduceAdd, Nat.reduceEqDiff, ↓reduceIte] at e0 e1 e2
                                show _ = _
                                rw [e0, e1, e2]
                                exact (Below.heap_alloc _ _ _ (hlts.out _ _ (by omega))).trans h
                              · exact Below.alloc (Below.setCell HE.out.2.2.2.2.2.1 (by simp; omega) _) (by have := hlts.out (.int .i64 v') w.heap.size (by omega); omega) _
                            case measure => simp [intOf]; omega
                      · obtain rfl : j = mm := by omega
                        have PE9 := PE.out _ hbq (q0 + v2) (t0 + v3) v1 (ny zs p4 0 j 0) (ny zs p4 0 j 1) (ny zs p4 0 j 2) z
                        obtain ⟨X, hX⟩ : ∃ X : Ev, X = ⟨q0 + v2, t0 + v3, v1, z, ny zs p4 0 j 0, ny zs p4 0 j 1, ny zs p4 0 j 2⟩ := ⟨_, rfl⟩
                        have hXl := hX
                        rw [← hX] at PE9
                        have HXF := hid (fun (y : Ev) (hy : Fo q0 t0 ss y zs) => hX.trans (HALL.out y hy).2.2)
                        have HXE := hid (fun (y : Ev) (hy : Fo q0 t0 ss y zs) => show ej = 0 by have h1 := (HALL.out y hy).2.1; rw [HCJ.out] at h1; exact h1)
                        have HXV := hid (show evV X = .agg #[.int .i64 (q0 + v2), .int .i64 (t0 + v3), .int .i64 v1, .string z, .int .i64 (ny zs p4 0 j 0), .int .i64 (ny zs p4 0 j 1), .int .i64 (ny zs p4 0 j 2)] by rw [hX]; rfl)
                        unfold Encs at PE9
                        obtain ⟨E, hE⟩ : ∃ E, enE q0 t0 ss X = E := ⟨_, rfl⟩
                        obtain ⟨BY, hBY⟩ : ∃ E, enB q0 t0 ss X = E := ⟨_, rfl⟩
                        obtain ⟨QQ, hQQ⟩ : ∃ E, enQ q0 t0 ss X = E := ⟨_, rfl⟩
                        obtain ⟨TT, hTT⟩ : ∃ E, enT q0 t0 ss X = E := ⟨_, rfl⟩
                        obtain ⟨LL, hLL⟩ : ∃ E, enL q0 t0 ss X = E := ⟨_, rfl⟩
                        rw [hE, hBY, hQQ, hTT, hLL] at PE9
                        have HE := hid hE
                        have HBY := hid hBY
                        have HEN := hid (And.intro hQQ (And.intro hTT hLL))
                        have PE8 := hid PE9
                        clear PE9 hX hE hBY hQQ hTT hLL HALL HLE hXl PU
                        go_wp2_with fail
                        refine PE8.out.mono ?_
                        rintro e wE ⟨⟨A9, n9, c9, A8, n8, c8, rfl, hR9, hR8⟩, hb2⟩
                        have hbwE : Below w.heap.size w wE := hbq.trans (hb2.mono hbq.size)
                        have K1 := (hb2.block _ z1).trans HK.out.1
                        have K2 := (hb2.block _ z2).trans HK.out.2.1
                        have K3 := (hb2.block _ z3).trans HK.out.2.2.1
                        have K4 := (hb2.block _ z4).trans HK.out.2.2.2.1
                        have K5 := (hb2.block _ z5).trans HK.out.2.2.2.2
                        clear z1 u10 u11 u12 f10 f11 f12 z2 u20 u21 u22 u23 u24 u25 u26 fz2 z3 u30 u31 u32 f30 f31 f32 z4 u40 u41 u42 f40 f41 f42 z5 u50 u51 u52 u53 u54 u55 u56 fz5 HK
                        have z1 := blk_lt K1
                        obtain ⟨u10, u11, u12, f10, f11, f12⟩ := blk3 K1
                        have z2 := blk_lt K2
                        obtain ⟨u20, u21, u22, u23, u24, u25, u26⟩ := blk7 K2
                        have fz2 := blk7f K2
                        have z3 := blk_lt K3
                        obtain ⟨u30, u31, u32, f30, f31, f32⟩ := blk3 K3
                        have z4 := blk_lt K4
                        obtain ⟨u40, u41, u42, f40, f41, f42⟩ := blk3 K4
                        have z5 := blk_lt K5
                        obtain ⟨u50, u51, u52, u53, u54, u55, u56⟩ := blk7 K5
                        have fz5 := blk7f K5
                        have HK := hid (And.intro K1 (And.intro K2 (And.intro K3 (And.intro K4 (K5)))))
                        clear K1 K2 K3 K4 K5
                        have HR9 := hid hR9
                        have HR8 := hid hR8
                        clear hb2 hR9 hR8 PE8 hbq
                        by_cases hee : ej = 0
                        case neg =>
                          have HD := hid (de_none hr (fun y hy => hee (HXE.out y hy)))
                          go_wp2_with fail
                          go_region
                          go_wp2
                          refine bodyPost_ret (v := .tuple #[.agg #[.int .i64 0, .int .i64 0, .int .i64 0, .string ⟨#[]⟩, .int .i64 0, .int .i64 0, .int .i64 0], .agg #[.int .i64 q0, .int .i64 t0, .slice (some ⟨gb, go, none⟩) n cp], .int .i64 11]) (by simp [results, Tryz.results39, go_sem, z2, z3, u20, u21, u22, u23, u24, u25, u26, u30, u31, u32]) rfl ⟨⟨(some ⟨gb, go, none⟩), n, cp, ?_, ?_⟩, ?_⟩
                          · rw [HD.out.1, HD.out.2.1, HD.out.2.2.1, HD.out.2.2.2.1]; rfl
                          · rw [HD.out.2.2.2.2]
                            exact HR.out _ (Below.drew (Below.alloc (((sto3 _ (w.heap.size + 1 + 1) (.int .i64 q0) (.int .i64 t0) (.slice (some ⟨gb, go, none⟩) n cp))).below (((sto7 wE (w.heap.size + 1) (.int .i64 0) (.int .i64 0) (.int .i64 0) (.string ⟨#[]⟩) (.int .i64 0) (.int .i64 0) (.int .i64 0))).below hbwE (by omega)) (by omega)) (by simp; omega) _))
                          · exact Below.drew (Below.alloc (((sto3 _ (w.heap.size + 1 + 1) (.int .i64 q0) (.int .i64 t0) (.slice (some ⟨gb, go, none⟩) n cp))).below (((sto7 wE (w.heap.size + 1) (.int .i64 0) (.int .i64 0) (.int .i64 0) (.string ⟨#[]⟩) (.int .i64 0) (.int .i64 0) (.int .i64 0))).below hbwE (by omega)) (by omega)) (by simp; omega) _)
                        case pos =>
                          by_cases hE0 : E = 0
                          case neg =>
                            have HD := hid (de_none hr (fun y hy => hE0 (by rw [← HE.out, en_fl hr, HXF.out y hy]; exact hy.1)))
                            go_wp2_with fail
                            go_region
                            go_wp2
                            refine bodyPost_ret (v := .tuple #[.agg #[.int .i64 0, .int .i64 0, .int .i64 0, .string ⟨#[]⟩, .int .i64 0, .int .i64 0, .int .i64 0], .agg #[.int .i64 q0, .int .i64 t0, .slice (some ⟨gb, go, none⟩) n cp], .int .i64 11]) (by simp [results, Tryz.results39, go_sem, z2, z3, u20, u21, u22, u23, u24, u25, u26, u30, u31, u32]) rfl ⟨⟨(some ⟨gb, go, none⟩), n, cp, ?_, ?_⟩, ?_⟩
                            · rw [HD.out.1, HD.out.2.1, HD.out.2.2.1, HD.out.2.2.2.1]; rfl
                            · rw [HD.out.2.2.2.2]
                              exact HR.out _ (Below.drew (Below.alloc (((sto3 _ (w.heap.size + 1 + 1) (.int .i64 q0) (.int .i64 t0) (.slice (some ⟨gb, go, none⟩) n cp))).below (((sto7 wE (w.heap.size + 1) (.int .i64 0) (.int .i64 0) (.int .i64 0) (.string ⟨#[]⟩) (.int .i64 0) (.int .i64 0) (.int .i64 0))).below hbwE (by omega)) (by omega)) (by simp; omega) _))
                            · exact Below.drew (Below.alloc (((sto3 _ (w.heap.size + 1 + 1) (.int .i64 q0) (.int .i64 t0) (.slice (some ⟨gb, go, none⟩) n cp))).below (((sto7 wE (w.heap.size + 1) (.int .i64 0) (.int .i64 0) (.int .i64 0) (.string ⟨#[]⟩) (.int .i64 0) (.int .i64 0) (.int .i64 0))).below hbwE (by omega)) (by omega)) (by simp; omega) _)
                          case pos =>
                            obtain ⟨-, hfl, hsp, hqq, htt, hll⟩ := en_zero (HE.out.trans hE0)
                            have hbyB : Bytes BY := by rw [← HBY.out, hsp]; exact sp_bytes _ _ _ _
                            have k1 := fun (o : Obj) => conv8 c9 (HR9.out.below ((Below.refl wE.heap.size wE).alloc (Nat.le_refl _) o)).1
                            have k2 := fun (o : Obj) => conv8 c (HS.out _ (hbwE.alloc (by omega) o)).1
                            have he := str_eq hbyB HB.out
                            have HFL := hid hfl
                            have HSP := hid (HBY.out.symm.trans hsp)
                            have HQ := hid (And.intro (HEN.out.1.symm.trans hqq) (And.intro (HEN.out.2.1.symm.trans htt) (HEN.out.2.2.symm.trans hll)))
                            clear hbyB hfl hsp hqq htt hll
                            by_cases hby : BY = zs
                            case neg =>
                              have HD := hid (de_none hr (fun y hy => hby (by rw [HSP.out, HXF.out y hy]; exact hy.2)))
                              rw [decide_eq_false hby] at he
                              clear hby
                              go_wp2_with fail
                              go_region
                              go_wp2
                              refine bodyPost_ret (v := .tuple #[.agg #[.int .i64 0, .int .i64 0, .int .i64 0, .string ⟨#[]⟩, .int .i64 0, .int .i64 0, .int .i64 0], .agg #[.int .i64 q0, .int .i64 t0, .slice (some ⟨gb, go, none⟩) n cp], .int .i64 11]) (by simp [results, Tryz.results39, go_sem, z2, z3, u20, u21, u22, u23, u24, u25, u26, u30, u31, u32]) rfl ⟨⟨(some ⟨gb, go, none⟩), n, cp, ?_, ?_⟩, ?_⟩
                              · rw [HD.out.1, HD.out.2.1, HD.out.2.2.1, HD.out.2.2.2.1]; rfl
                              · rw [HD.out.2.2.2.2]
                                exact HR.out _ (Below.drew (Below.alloc (((sto3 _ (w.heap.size + 1 + 1) (.int .i64 q0) (.int .i64 t0) (.slice (some ⟨gb, go, none⟩) n cp))).below (((sto7 wE (w.heap.size + 1) (.int .i64 0) (.int .i64 0) (.int .i64 0) (.string ⟨#[]⟩) (.int .i64 0) (.int .i64 0) (.int .i64 0))).below hbwE (by omega)) (by omega)) (by simp; omega) _))
                              · exact Below.drew (Below.alloc (((sto3 _ (w.heap.size + 1 + 1) (.int .i64 q0) (.int .i64 t0) (.slice (some ⟨gb, go, none⟩) n cp))).below (((sto7 wE (w.heap.size + 1) (.int .i64 0) (.int .i64 0) (.int .i64 0) (.string ⟨#[]⟩) (.int .i64 0) (.int .i64 0) (.int .i64 0))).below hbwE (by omega)) (by omega)) (by simp; omega) _)
                            case pos =>
                              have HD := hid (de_yes hr ⟨HFL.out, HSP.out.symm.trans hby⟩)
                              have HNE := hid (show ∀ s ∈ LL, 1 ≤ s.size from fun s hs => by
                                rw [HQ.out.2.2] at hs
                                exact (nm_size (((rgB_iff _).1 ((rc_iff _ _ _).1 (rc_next hr HFL.out)).2.2).2.1 s hs)).1)
                              rw [decide_eq_true hby] at he
                              clear hby
                              go_wp2_with fail
                              go_region
                              go_wp2
                              refine bodyPost_ret (v := .tuple #[.agg #[.int .i64 (q0 + v2), .int .i64 (t0 + v3), .int .i64 v1, .string z, .int .i64 (ny zs p4 0 j 0), .int .i64 (ny zs p4 0 j 1), .int .i64 (ny zs p4 0 j 2)], .agg #[.int .i64 QQ, .int .i64 TT, .slice A8 n8 c8], .int .i64 0]) (by simp [results, Tryz.results39, go_sem, z2, z3, u20, u21, u22, u23, u24, u25, u26, u30, u31, u32]) rfl ⟨⟨A8, n8, c8, ?_, ?_⟩, ?_⟩
                              · rw [HD.out.1, HD.out.2.1, HD.out.2.2.1, HD.out.2.2.2.1, HXV.out, HQ.out.1, HQ.out.2.1]
                              · rw [HD.out.2.2.2.2, ← HQ.out.2.2]
                                exact (((HR8.out.sto_ev HNE.out HK.out.2.1 (sto7 wE (w.heap.size + 1) (.int .i64 (q0 + v2)) (.int .i64 (t0 + v3)) (.int .i64 v1) (.string z) (.int .i64 (ny zs p4 0 j 0)) (.int .i64 (ny zs p4 0 j 1)) (.int .i64 (ny zs p4 0 j 2)))).sto (((sto7 wE (w.heap.size + 1) (.int .i64 (q0 + v2)) (.int .i64 (t0 + v3)) (.int .i64 v1) (.string z) (.int .i64 (ny zs p4 0 j 0)) (.int .i64 (ny zs p4 0 j 1)) (.int .i64 (ny zs p4 0 j 2))).block (w.heap.size + 1 + 1) (by omega)).trans HK.out.2.2.1) (sto3 _ (w.heap.size + 1 + 1) (.int .i64 QQ) (.int .i64 TT) (.slice A8 n8 c8))).below ((Below.refl _ _).alloc (Nat.le_refl _) _)).drew
                              · exact Below.drew (Below.alloc (((sto3 _ (w.heap.size + 1 + 1) (.int .i64 QQ) (.int .i64 TT) (.slice A8 n8 c8))).below (((sto7 wE (w.heap.size + 1) (.int .i64 (q0 + v2)) (.int .i64 (t0 + v3)) (.int .i64 v1) (.string z) (.int .i64 (ny zs p4 0 j 0)) (.int .i64 (ny zs p4 0 j 1)) (.int .i64 (ny zs p4 0 j 2)))).below hbwE (by omega)) (by omega)) (by simp; omega) _)
end Go.Proofs.YtondnbnaoacanaaGreatDoor
