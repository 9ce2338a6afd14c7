/- Layer 7: contracts of codec: readName, read. -/
import Derived.Test.YtgijhfdlecdijaaCodec2
namespace Go.Proofs.Ytgijhfdlecdijaa
open Go.ChangeShapes Go.WideShapes Go.ChangeAt Go.RowKit Fb Go.Maps

theorem tx_small {zs : List Int} {p er most p' e' : Int} {bs : List Int} (h : textS zs p er most = (p', e', bs)) : bs.length ≤ zs.length := by
  unfold textS at h
  split at h
  · split at h
    · simp only [Prod.mk.injEq] at h; rw [← h.2.2]; simp
    · split at h
      · simp only [Prod.mk.injEq] at h; rw [← h.2.2]; simp
      · simp only [Prod.mk.injEq] at h; rw [← h.2.2, List.length_take, List.length_drop]; omega
  · simp only [Prod.mk.injEq] at h; rw [← h.2.2]; simp
theorem str_size (bs : List Int) : (strOfNums bs).size = bs.length := by
  simp [strOfNums, ByteArray.size]

theorem i64_far {v n : Nat} (h : n < v) (hv : v < 18446744073709551616) : (IntKind.i64.wrap (v : Int) < 1 ∨ (n : Int) < IntKind.i64.wrap (v : Int)) ∧ (-9223372036854775808 ≤ IntKind.i64.wrap (v : Int) ∧ IntKind.i64.wrap (v : Int) ≤ 9223372036854775807) := by
  unfold IntKind.wrap
  simp [IntKind.bits, IntKind.signed]
  omega

/-- a name by its place, or as a text -/
def Named7 (w : World) (A : Option Addr) (n c : Nat) (ss : List ByteArray) (zs : List Int) (p4 e4 : Int) (v4 : Nat) (e : Ending) (w' : World) : Prop :=
  (∃ (p5 e5 : Int) (s : ByteArray), e = .returned (.tuple #[.agg #[.slice A n c, .int .i64 p5, .int .i64 e5], .string s]) ∧ Hid (s.size ≤ maxLen) ∧ Hid (v4 = 0 → ∃ bs, textS zs p4 e4 24 = (p5, e5, bs) ∧ s = strOfNums bs) ∧ Hid (v4 ≠ 0 → p5 = p4 ∧ e5 = e4 ∧ ∀ z, ss[v4 - 1]? = some z → s = z)) ∧ Below w.heap.size w w'

set_option maxRecDepth 100000 in
set_option maxHeartbeats 8000000 in
theorem readName_any {A : Option Addr} {n c : Nat} {p er p4 e4 : Int} {v4 : Nat} {zs : List Int} {An : Option Addr} {nn cn : Nat} {ss : List ByteArray} (hz : Ok9 ss) {w : World} (hR : Rs w An nn cn ss) (hn9 : nn ≤ 1000000)
    (hS : Rw w A n c zs) (hb : Bytes zs) (hn : n ≤ 100000) (hu : uintS zs p er = (p4, e4, v4)) :
    Calls Try.prog 29 #[.agg #[.slice A n c, .int .i64 p, .int .i64 er], .slice An nn cn] w (Named7 w A n c ss zs p4 e4 v4) := by
  have PU := hid (fun (w1 : World) (h : Below w.heap.size w w1) => Uint_any (c := c) hu (hS.below h).1 hb hn hS.2.1 hS.2.2.1)
  have hv := uS_lt hb hu
  have hbA : Below w.heap.size w ((w.alloc (.cells #[.slice A n c, .int .i64 p, .int .i64 er] 59)).alloc (.cells #[.slice none 0 0, .int .i64 0, .int .i64 0] 59)) := ((Below.refl _ _).alloc (Nat.le_refl _) _).alloc (by simp) _
  obtain ⟨p5, e5, bs, ht⟩ : ∃ p5 e5 bs, textS zs p4 e4 24 = (p5, e5, bs) := ⟨_, _, _, rfl⟩
  have PT := hid (fun (w1 : World) (h : Below w.heap.size w w1) => Text_any (c := c) ht (hS.below h).1 hb hS.2.2.2 hn hS.2.1 hS.2.2.1 (by omega))
  have hsz : (strOfNums bs).size ≤ maxLen := by rw [str_size]; have := tx_small ht; have := hS.len; unfold maxLen; omega
  have HT := hid ht
  have HSZ := hid hsz
  have HSS := hid (hz.2)
  have hln := hR.len
  have PA := hid (fun (w1 : World) (h : Below w.heap.size w w1) (k : Nat) (z : ByteArray) (hk : ss[k]? = some z) => At_yes (cap := cn) (hR.below h).1 hk hn9)
  have PB := hid (fun (w1 : World) (p9 : Int) (h : p9 < 1 ∨ (nn : Int) < p9) hp => At_no (A := An) (cap := cn) (n := nn) w1 h hn9 hp)
  have HLN := hid hln
  clear hz hR hS hb hu ht hsz hln
  by_cases h0 : v4 = 0
  · subst h0
    clear hv
    go_enter Try.func29, Try.ntmps29
    go_wp2_with fail
    refine (PU.out _ hbA).mono ?_
    rintro e wa ⟨rfl, hb1⟩
    have hbwa : Below w.heap.size w wa := hbA.trans (hb1.mono hbA.size)
    obtain ⟨K1, K2⟩ := kept2 hb1
    have z1 := blk_lt K1
    obtain ⟨u10, u11, u12, f10, f11, f12⟩ := blk3 K1
    have z2 := blk_lt K2
    obtain ⟨u20, u21, u22, f20, f21, f22⟩ := blk3 K2
    have HK := hid (And.intro K1 (K2))
    clear K1 K2
    have hbx := fun (x y z : Value) => Below.setCell (Below.setCell (Below.setCell hbwa (p := ⟨w.heap.size, 0, none⟩) (by simp) x) (p := ⟨w.heap.size, 1, none⟩) (by simp) y) (p := ⟨w.heap.size, 2, none⟩) (by simp) z
    have HK2 := hid (fun (x y z : Value) => (And.intro (all3 (a' := x) (b' := y) (c' := z) HK.out.1) (((sto3 wa w.heap.size x y z).block (w.heap.size + 1) (by omega)).trans HK.out.2)))
    go_wp2_with fail
    refine (PT.out _ (hbx _ _ _)).mono ?_
    rintro e wb ⟨rfl, hb2⟩
    have K2 := (hb2.block _ (by simp; omega)).trans (HK2.out _ _ _).2
    have hbb : Below w.heap.size w wb := (hbx _ _ _).trans (hb2.mono (hbx _ _ _).size)
    clear z1 u10 u11 u12 f10 f11 f12 z2 u20 u21 u22 f20 f21 f22 HK HK2 hbx hb1 hbwa hb2
    have z2 := blk_lt K2
    obtain ⟨u20, u21, u22, f20, f21, f22⟩ := blk3 K2
    clear K2
    go_wp2_with fail
    refine bodyPost_ret (v := .tuple #[.agg #[.slice A n c, .int .i64 p5, .int .i64 e5], .string (strOfNums bs)]) (by simp [results, Try.results29, go_sem, z2, u20, u21, u22]) rfl ⟨⟨_, _, _, rfl, HSZ, hid (fun _ => ⟨bs, HT.out, rfl⟩), hid (fun h => absurd rfl h)⟩, ?_⟩
    exact Below.setCell (Below.setCell (Below.setCell hbb (by simp) _) (by simp) _) (by simp) _
  · have h0' : ¬ (v4 : Int) = 0 := by omega
    clear PT HT HSZ
    by_cases h1 : v4 ≤ nn
    · have hk : v4 - 1 < ss.length := by have := HLN.out; omega
      have hx : ss[v4 - 1]? = some (ss[v4 - 1]'hk) := List.getElem?_eq_getElem hk
      have hw4 : IntKind.i64.wrap (v4 : Int) = ((v4 - 1 : Nat) : Int) + 1 := by rw [i64_in (by omega) (by omega)]; omega
      have HX := hid hx
      have HZ := hid (HSS.out _ (List.getElem_mem hk))
      generalize ss[v4 - 1]'hk = z at *
      clear hx h1 hv PB
      go_enter Try.func29, Try.ntmps29
      go_wp2_with fail
      refine (PU.out _ hbA).mono ?_
      rintro e wa ⟨rfl, hb1⟩
      have hbwa : Below w.heap.size w wa := hbA.trans (hb1.mono hbA.size)
      obtain ⟨K1, K2⟩ := kept2 hb1
      have z1 := blk_lt K1
      obtain ⟨u10, u11, u12, f10, f11, f12⟩ := blk3 K1
      have z2 := blk_lt K2
      obtain ⟨u20, u21, u22, f20, f21, f22⟩ := blk3 K2
      have HK := hid (And.intro K1 (K2))
      clear K1 K2
      have hbx := fun (x y z : Value) => Below.setCell (Below.setCell (Below.setCell hbwa (p := ⟨w.heap.size, 0, none⟩) (by simp) x) (p := ⟨w.heap.size, 1, none⟩) (by simp) y) (p := ⟨w.heap.size, 2, none⟩) (by simp) z
      go_wp2_with fail
      with_reducible refine (PA.out _ (hbx _ _ _) _ _ HX.out).mono ?_
      rintro e wb ⟨rfl, rfl⟩
      go_wp2_with fail
      refine bodyPost_ret (v := .tuple #[.agg #[.slice A n c, .int .i64 p4, .int .i64 e4], .string z]) (by simp [results, Try.results29, go_sem, z1, z2, u10, u11, u12, u20, u21, u22]) rfl ⟨⟨_, _, _, rfl, HZ, hid (fun h => absurd h h0), hid (fun _ => ⟨rfl, rfl, fun y hy => Option.some.inj (HX.out.symm.trans hy)⟩)⟩, ?_⟩
      exact Below.setCell (Below.setCell (Below.setCell (hbx _ _ _) (by simp) _) (by simp) _) (by simp) _
    · have hw := i64_far (n := nn) (by omega) hv
      have HZ := hid (show ss[v4 - 1]? = none from List.getElem?_eq_none (by have := HLN.out; omega))
      have HW := hid hw
      clear hw
      obtain ⟨p9, hp9⟩ : ∃ p9, IntKind.i64.wrap (v4 : Int) = p9 := ⟨_, rfl⟩
      rw [hp9] at HW
      clear h1 hv PA
      go_enter Try.func29, Try.ntmps29
      go_wp2_with fail
      refine (PU.out _ hbA).mono ?_
      rintro e wa ⟨rfl, hb1⟩
      have hbwa : Below w.heap.size w wa := hbA.trans (hb1.mono hbA.size)
      obtain ⟨K1, K2⟩ := kept2 hb1
      have z1 := blk_lt K1
      obtain ⟨u10, u11, u12, f10, f11, f12⟩ := blk3 K1
      have z2 := blk_lt K2
      obtain ⟨u20, u21, u22, f20, f21, f22⟩ := blk3 K2
      have HK := hid (And.intro K1 (K2))
      clear K1 K2
      have hbx := fun (x y z : Value) => Below.setCell (Below.setCell (Below.setCell hbwa (p := ⟨w.heap.size, 0, none⟩) (by simp) x) (p := ⟨w.heap.size, 1, none⟩) (by simp) y) (p := ⟨w.heap.size, 2, none⟩) (by simp) z
      go_wp2_with fail
      with_reducible refine (PB.out _ _ HW.out.1 HW.out.2).mono ?_
      rintro e wb ⟨rfl, rfl⟩
      go_wp2_with fail
      refine bodyPost_ret (v := .tuple #[.agg #[.slice A n c, .int .i64 p4, .int .i64 e4], .string ⟨#[]⟩]) (by simp [results, Try.results29, go_sem, z1, z2, u10, u11, u12, u20, u21, u22]) rfl ⟨⟨_, _, _, rfl, hid (by unfold maxLen; decide), hid (fun h => absurd h h0), hid (fun _ => ⟨rfl, rfl, fun y hy => by rw [HZ.out] at hy; cases hy⟩)⟩, ?_⟩
      exact Below.setCell (Below.setCell (Below.setCell (hbx _ _ _) (by simp) _) (by simp) _) (by simp) _
-- read: written by tools/codec/read.py
theorem ev7_size : (Try.prog.info? 26).map (·.size) = some 7 := by kernel_rfl
theorem ev7_one (q t k a b d : Int) (s : ByteArray) : (#[Value.int .i64 q, .int .i64 t, .int .i64 k, .string s, .int .i64 a, .int .i64 b, .int .i64 d] : Array Value).all (·.oneCell') = true := by simp [Value.oneCell']
theorem w64 (x : Int) : wrap64 x = IntKind.i64.wrap x := by
  unfold IntKind.wrap wrap64
  simp [IntKind.bits, IntKind.signed]
  omega
theorem ints_len (l : List Int) : (ints l).length = l.length := by simp [ints]
/-- m numbers, of which so many are laid, the others 0 -/
def nmv (m : Nat) (f : Nat → Int) (k : Nat) : List Int := (List.range m).map fun i => if i < k then f i else 0
theorem nmv_len (m : Nat) (f : Nat → Int) (k : Nat) : (nmv m f k).length = m := by simp [nmv]
theorem nmv_made (m : Nat) (f : Nat → Int) : ints (nmv m f 0) = (madeCells (Value.int .i64 0).cells (m * 1)).toList := by
  show _ = (madeCells #[Value.int .i64 0] (m * 1)).toList
  rw [toList_madeCells_one, Nat.mul_one]
  refine List.ext_getElem (by simp [ints, nmv]) fun i h1 h2 => ?_
  simp [ints, nmv]
theorem nmv_set {m : Nat} {f : Nat → Int} {k : Nat} : (ints (nmv m f k)).set k (.int .i64 (f k)) = ints (nmv m f (k + 1)) := by
  refine List.ext_getElem (by simp [ints, nmv]) fun i h1 h2 => ?_
  simp only [List.getElem_set, ints, nmv, List.getElem_map, List.getElem_range]
  by_cases h : k = i
  · subst h; simp
  · rw [if_neg h]
    congr 1
    by_cases h3 : i < k
    · rw [if_pos h3, if_pos (by omega)]
    · rw [if_neg h3, if_neg (by omega)]
theorem nmv_all (m : Nat) (f : Nat → Int) : nmv m f m = (List.range m).map f := by
  refine List.map_congr_left fun i hi => ?_
  rw [if_pos (List.mem_range.1 hi)]
/-- some event is read: the one whose bytes they are, if there is one -/
def Reads7 (w : World) (q0 t0 : Int) (ss : List ByteArray) (zs : List Int) (e : Ending) (w' : World) : Prop :=
  (∃ (q t k a b d : Int) (s : ByteArray), e = .returned (.agg #[.int .i64 q, .int .i64 t, .int .i64 k, .string s, .int .i64 a, .int .i64 b, .int .i64 d]) ∧ Hid (s.size ≤ maxLen) ∧ Hid (∀ y, Okk q0 t0 ss y → spB q0 t0 ss y = zs → (⟨q, t, k, s, a, b, d⟩ : Ev) = y)) ∧ Below w.heap.size w w'

set_option maxRecDepth 100000 in
set_option maxHeartbeats 16000000 in
theorem read_any (q0 t0 : Int) {A : Option Addr} {n c : Nat} {zs : List Int} {An : Option Addr} {nn cn : Nat} {ss : List ByteArray} (hz : Ok9 ss) {w : World} (hR : Rs w An nn cn ss) (hn9 : nn ≤ 1000000)
    (hS : Rw w A n c zs) (hb : Bytes zs) (hn : n ≤ 100000) :
    Calls Try.prog 16 #[.agg #[.int .i64 q0, .int .i64 t0, .slice An nn cn], .slice A n c] w (Reads7 w q0 t0 ss zs) := by
  have PU := hid (fun (w1 : World) (h : Below w.heap.size w w1) (p er p' e' : Int) (v : Nat) (hu : uintS zs p er = (p', e', v)) => Uint_any (c := c) hu (hS.below h).1 hb hn hS.2.1 hS.2.2.1)
  have PRN := hid (fun (w1 : World) (h : Below w.heap.size w w1) (p er p' e' : Int) (v : Nat) (hu : uintS zs p er = (p', e', v)) => readName_any (c := c) (cn := cn) hz (hR.below h) hn9 (hS.below h) hb hn hu)
  have HB := hid hb
  have hbA : Below w.heap.size w ((w.alloc (.cells #[.int .i64 q0, .int .i64 t0, .slice An nn cn] 24)).alloc (.cells #[.int .i64 0, .int .i64 0, .int .i64 0, .string ⟨#[]⟩, .int .i64 0, .int .i64 0, .int .i64 0] 26)) := ((Below.refl _ _).alloc (Nat.le_refl _) _).alloc (by simp) _
  obtain ⟨p1, e1, v1, hu1⟩ : ∃ p1 e1 v1, uintS zs 0 0 = (p1, e1, v1) := ⟨_, _, _, rfl⟩
  obtain ⟨p2, e2, v2, hu2⟩ : ∃ p2 e2 v2, uintS zs p1 e1 = (p2, e2, v2) := ⟨_, _, _, rfl⟩
  obtain ⟨p3, e3, v3, hu3⟩ : ∃ p3 e3 v3, uintS zs p2 e2 = (p3, e3, v3) := ⟨_, _, _, rfl⟩
  obtain ⟨p4, e4, v4, hu4⟩ : ∃ p4 e4 v4, uintS zs p3 e3 = (p4, e4, v4) := ⟨_, _, _, rfl⟩
  have HU1 := hid hu1
  have HU2 := hid hu2
  have HU3 := hid hu3
  have HU4 := hid hu4
  obtain ⟨i0, hi0, hz0, hz1, hz2⟩ := info_parts i64_info
  clear hz hR hS hb hu1 hu2 hu3 hu4
  go_enter Try.func16, Try.ntmps16
  go_wp2_with fail
  refine (Start_any A n c _).mono ?_
  rintro e wa ⟨rfl, hb1⟩
  have hbwa : Below w.heap.size w wa := hbA.trans (hb1.mono hbA.size)
  obtain ⟨K1, K2⟩ := kept2 hb1
  have z1 := blk_lt K1
  obtain ⟨u10, u11, u12, f10, f11, f12⟩ := blk3 K1
  have z2 := blk_lt K2
  obtain ⟨u20, u21, u22, u23, u24, u25, u26⟩ := blk7 K2
  have HK := hid (And.intro K1 (K2))
  clear K1 K2
  have hz9 : w.heap.size + 1 < wa.heap.size := z2
  go_wp2_with fail
  with_reducible refine (PU.out _ (hbwa.alloc (by omega) _) _ _ _ _ _ HU1.out).mono ?_
  rintro e wb ⟨rfl, hb2⟩
  have hbwb : Below w.heap.size w wb := (hbwa.alloc (by omega) _).trans (hb2.mono (by simp; omega))
  have K1 := (hb2.block _ (by simp; omega)).trans ((Below.heap_alloc _ _ _ z1).trans HK.out.1)
  have K2 := (hb2.block _ (by simp; omega)).trans ((Below.heap_alloc _ _ _ z2).trans HK.out.2)
  have K3 := (hb2.block _ (by simp)).trans (heap_alloc_new wa _)
  obtain ⟨gg, hgg⟩ : ∃ g, wa.heap.size = g := ⟨_, rfl⟩
  rw [hgg] at K3 hz9
  clear z1 u10 u11 u12 f10 f11 f12 z2 u20 u21 u22 u23 u24 u25 u26 HK hb1 hb2 hbwa
  have z1 := blk_lt K1
  obtain ⟨u10, u11, u12, f10, f11, f12⟩ := blk3 K1
  have z2 := blk_lt K2
  obtain ⟨u20, u21, u22, u23, u24, u25, u26⟩ := blk7 K2
  have z3 := blk_lt K3
  obtain ⟨u30, u31, u32, f30, f31, f32⟩ := blk3 K3
  have HK := hid (And.intro K1 (And.intro K2 (K3)))
  clear K1 K2 K3
  rw [hgg]
  go_wp2_with fail
  obtain ⟨wb1, hWwb1⟩ : ∃ w9, w9 = (((wb).setCell ⟨gg, 0, none⟩ (.slice A n c)).setCell ⟨gg, 1, none⟩ (.int .i64 p1)).setCell ⟨gg, 2, none⟩ (.int .i64 e1) := ⟨_, rfl⟩
  rw [← hWwb1]
  have STwb1 : Sto (gg) wb wb1 := by rw [hWwb1]; exact sto3 _ _ _ _ _
  have K1 := (STwb1.block _ (by omega)).trans HK.out.1
  have K2 := (STwb1.block _ (by omega)).trans HK.out.2.1
  have K3 : wb1.heap[gg]? = some (.cells #[.slice A n c, .int .i64 p1, .int .i64 e1] 59 (0, 0)) := by rw [hWwb1]; exact all3 HK.out.2.2
  have hbwb1 : Below w.heap.size w wb1 := STwb1.below hbwb (by omega)
  clear z1 u10 u11 u12 f10 f11 f12 z2 u20 u21 u22 u23 u24 u25 u26 z3 u30 u31 u32 f30 f31 f32 HK hWwb1
  have z1 := blk_lt K1
  obtain ⟨u10, u11, u12, f10, f11, f12⟩ := blk3 K1
  have z2 := blk_lt K2
  obtain ⟨u20, u21, u22, u23, u24, u25, u26⟩ := blk7 K2
  have z3 := blk_lt K3
  obtain ⟨u30, u31, u32, f30, f31, f32⟩ := blk3 K3
  have HK := hid (And.intro K1 (And.intro K2 (K3)))
  clear K1 K2 K3
  with_reducible refine (PU.out _ hbwb1 _ _ _ _ _ HU2.out).mono ?_
  rintro e wc ⟨rfl, hb2⟩
  have hbwc : Below w.heap.size w wc := hbwb1.trans (hb2.mono hbwb1.size)
  have K1 := (hb2.block _ z1).trans HK.out.1
  have K2 := (hb2.block _ z2).trans HK.out.2.1
  have K3 := (hb2.block _ z3).trans HK.out.2.2
  clear z1 u10 u11 u12 f10 f11 f12 z2 u20 u21 u22 u23 u24 u25 u26 z3 u30 u31 u32 f30 f31 f32 HK
  have z1 := blk_lt K1
  obtain ⟨u10, u11, u12, f10, f11, f12⟩ := blk3 K1
  have z2 := blk_lt K2
  obtain ⟨u20, u21, u22, u23, u24, u25, u26⟩ := blk7 K2
  have z3 := blk_lt K3
  obtain ⟨u30, u31, u32, f30, f31, f32⟩ := blk3 K3
  have HK := hid (And.intro K1 (And.intro K2 (K3)))
  clear K1 K2 K3
  clear hb2
  clear hbwb hbwb1 STwb1 hgg
  go_wp2_with fail
  obtain ⟨wc1, hWwc1⟩ : ∃ w9, w9 = (((wc).setCell ⟨gg, 0, none⟩ (.slice A n c)).setCell ⟨gg, 1, none⟩ (.int .i64 p2)).setCell ⟨gg, 2, none⟩ (.int .i64 e2) := ⟨_, rfl⟩
  rw [← hWwc1]
  have STwc1 : Sto (gg) wc wc1 := by rw [hWwc1]; exact sto3 _ _ _ _ _
  have K1 := (STwc1.block _ (by omega)).trans HK.out.1
  have K2 := (STwc1.block _ (by omega)).trans HK.out.2.1
  have K3 : wc1.heap[gg]? = some (.cells #[.slice A n c, .int .i64 p2, .int .i64 e2] 59 (0, 0)) := by rw [hWwc1]; exact all3 HK.out.2.2
  have hbwc1 : Below w.heap.size w wc1 := STwc1.below hbwc (by omega)
  clear z1 u10 u11 u12 f10 f11 f12 z2 u20 u21 u22 u23 u24 u25 u26 z3 u30 u31 u32 f30 f31 f32 HK hWwc1
  have z1 := blk_lt K1
  obtain ⟨u10, u11, u12, f10, f11, f12⟩ := blk3 K1
  have z2 := blk_lt K2
  obtain ⟨u20, u21, u22, u23, u24, u25, u26⟩ := blk7 K2
  have z3 := blk_lt K3
  obtain ⟨u30, u31, u32, f30, f31, f32⟩ := blk3 K3
  have HK := hid (And.intro K1 (And.intro K2 (K3)))
  clear K1 K2 K3
  with_reducible refine (PU.out _ hbwc1 _ _ _ _ _ HU3.out).mono ?_
  rintro e wd ⟨rfl, hb2⟩
  have hbwd : Below w.heap.size w wd := hbwc1.trans (hb2.mono hbwc1.size)
  have K1 := (hb2.block _ z1).trans HK.out.1
  have K2 := (hb2.block _ z2).trans HK.out.2.1
  have K3 := (hb2.block _ z3).trans HK.out.2.2
  clear z1 u10 u11 u12 f10 f11 f12 z2 u20 u21 u22 u23 u24 u25 u26 z3 u30 u31 u32 f30 f31 f32 HK
  have z1 := blk_lt K1
  obtain ⟨u10, u11, u12, f10, f11, f12⟩ := blk3 K1
  have z2 := blk_lt K2
  obtain ⟨u20, u21, u22, u23, u24, u25, u26⟩ := blk7 K2
  have z3 := blk_lt K3
  obtain ⟨u30, u31, u32, f30, f31, f32⟩ := blk3 K3
  have HK := hid (And.intro K1 (And.intro K2 (K3)))
  clear K1 K2 K3
  clear hb2
  go_wp2_with fail
  obtain ⟨wd1, hWwd1⟩ : ∃ w9, w9 = (((wd).setCell ⟨gg, 0, none⟩ (.slice A n c)).setCell ⟨gg, 1, none⟩ (.int .i64 p3)).setCell ⟨gg, 2, none⟩ (.int .i64 e3) := ⟨_, rfl⟩
  rw [← hWwd1]
  have STwd1 : Sto (gg) wd wd1 := by rw [hWwd1]; exact sto3 _ _ _ _ _
  have K1 := (STwd1.block _ (by omega)).trans HK.out.1
  have K2 := (STwd1.block _ (by omega)).trans HK.out.2.1
  have K3 : wd1.heap[gg]? = some (.cells #[.slice A n c, .int .i64 p3, .int .i64 e3] 59 (0, 0)) := by rw [hWwd1]; exact all3 HK.out.2.2
  have hbwd1 : Below w.heap.size w wd1 := STwd1.below hbwd (by omega)
  clear z1 u10 u11 u12 f10 f11 f12 z2 u20 u21 u22 u23 u24 u25 u26 z3 u30 u31 u32 f30 f31 f32 HK hWwd1
  have z1 := blk_lt K1
  obtain ⟨u10, u11, u12, f10, f11, f12⟩ := blk3 K1
  have z2 := blk_lt K2
  obtain ⟨u20, u21, u22, u23, u24, u25, u26⟩ := blk7 K2
  have z3 := blk_lt K3
  obtain ⟨u30, u31, u32, f30, f31, f32⟩ := blk3 K3
  have HK := hid (And.intro K1 (And.intro K2 (K3)))
  clear K1 K2 K3
  clear hbwc hbwc1 STwc1 hbwd STwd1
  with_reducible refine (PRN.out _ hbwd1 _ _ _ _ _ HU4.out).mono ?_
  rintro e we ⟨⟨p5, e5, s, rfl, HSZ, HN, HM⟩, hb2⟩
  have hbwe : Below w.heap.size w we := hbwd1.trans (hb2.mono hbwd1.size)
  have K1 := (hb2.block _ z1).trans HK.out.1
  have K2 := (hb2.block _ z2).trans HK.out.2.1
  have K3 := (hb2.block _ z3).trans HK.out.2.2
  clear z1 u10 u11 u12 f10 f11 f12 z2 u20 u21 u22 u23 u24 u25 u26 z3 u30 u31 u32 f30 f31 f32 HK
  have z1 := blk_lt K1
  obtain ⟨u10, u11, u12, f10, f11, f12⟩ := blk3 K1
  have z2 := blk_lt K2
  obtain ⟨u20, u21, u22, u23, u24, u25, u26⟩ := blk7 K2
  have z3 := blk_lt K3
  obtain ⟨u30, u31, u32, f30, f31, f32⟩ := blk3 K3
  have HK := hid (And.intro K1 (And.intro K2 (K3)))
  clear K1 K2 K3
  clear hb2
  obtain ⟨kd, hkd⟩ : ∃ kd, IntKind.i64.wrap (v1 : Int) = kd := ⟨_, rfl⟩
  have PMN := hid (Many_any kd)
  have hmn := mn_le kd
  obtain ⟨m, hm⟩ : ∃ m : Nat, (mnI kd).toNat = m := ⟨_, rfl⟩
  have hm2 : mnI kd = (m : Int) := by omega
  rw [hm2] at PMN
  have hm3 : m ≤ 3 := by omega
  have HKD := hid hkd
  have HMN := hid hm2
  clear hmn hm hm2
  go_wp2_with fail
  obtain ⟨we1, hWwe1⟩ : ∃ w9, w9 = (((we).setCell ⟨gg, 0, none⟩ (.slice A n c)).setCell ⟨gg, 1, none⟩ (.int .i64 p5)).setCell ⟨gg, 2, none⟩ (.int .i64 e5) := ⟨_, rfl⟩
  rw [← hWwe1]
  have STwe1 : Sto (gg) we we1 := by rw [hWwe1]; exact sto3 _ _ _ _ _
  have K1 := (STwe1.block _ (by omega)).trans HK.out.1
  have K2 := (STwe1.block _ (by omega)).trans HK.out.2.1
  have K3 : we1.heap[gg]? = some (.cells #[.slice A n c, .int .i64 p5, .int .i64 e5] 59 (0, 0)) := by rw [hWwe1]; exact all3 HK.out.2.2
  have hbwe1 : Below w.heap.size w we1 := STwe1.below hbwe (by omega)
  clear z1 u10 u11 u12 f10 f11 f12 z2 u20 u21 u22 u23 u24 u25 u26 z3 u30 u31 u32 f30 f31 f32 HK hWwe1
  have z1 := blk_lt K1
  obtain ⟨u10, u11, u12, f10, f11, f12⟩ := blk3 K1
  have z2 := blk_lt K2
  obtain ⟨u20, u21, u22, u23, u24, u25, u26⟩ := blk7 K2
  have z3 := blk_lt K3
  obtain ⟨u30, u31, u32, f30, f31, f32⟩ := blk3 K3
  have HK := hid (And.intro K1 (And.intro K2 (K3)))
  clear K1 K2 K3
  refine (PMN.out _).mono ?_
  rintro e wf ⟨rfl, hb2⟩
  have hbwf : Below w.heap.size w wf := hbwe1.trans (hb2.mono hbwe1.size)
  have K1 := (hb2.block _ z1).trans HK.out.1
  have K2 := (hb2.block _ z2).trans HK.out.2.1
  have K3 := (hb2.block _ z3).trans HK.out.2.2
  clear z1 u10 u11 u12 f10 f11 f12 z2 u20 u21 u22 u23 u24 u25 u26 z3 u30 u31 u32 f30 f31 f32 HK
  have z1 := blk_lt K1
  obtain ⟨u10, u11, u12, f10, f11, f12⟩ := blk3 K1
  have z2 := blk_lt K2
  obtain ⟨u20, u21, u22, u23, u24, u25, u26⟩ := blk7 K2
  have z3 := blk_lt K3
  obtain ⟨u30, u31, u32, f30, f31, f32⟩ := blk3 K3
  have HK := hid (And.intro K1 (And.intro K2 (K3)))
  clear K1 K2 K3
  clear hb2 hbwd1 hbwe hbwe1 STwe1 hkd
  go_wp2_with (refine wpList_make_full wf rfl (.tmp 40) (.tmp 40) 56 rfl (gg + 1) 2 i0 (.int .i64 0) 1 Try.underlying56 hi0 hz0 hz1 .i64 .i64 (m : Int) (m : Int) m rfl rfl rfl rfl (by rw [hz2]; omega) (by unfold maxLen; omega) (by omega) ?_; intro wg own9 hgr)
  have hb2 : Below wf.heap.size wf wg := (Below.refl _ _).grown hgr (Nat.le_refl _) (fun k hk => by cases hk)
  have zgg : gg < wf.heap.size := z3
  have hbwg : Below w.heap.size w wg := hbwf.trans (hb2.mono hbwf.size)
  have K1 := (hb2.block _ z1).trans HK.out.1
  have K2 := (hb2.block _ z2).trans HK.out.2.1
  have K3 := (hb2.block _ z3).trans HK.out.2.2
  clear z1 u10 u11 u12 f10 f11 f12 z2 u20 u21 u22 u23 u24 u25 u26 z3 u30 u31 u32 f30 f31 f32 HK
  have z1 := blk_lt K1
  obtain ⟨u10, u11, u12, f10, f11, f12⟩ := blk3 K1
  have z2 := blk_lt K2
  obtain ⟨u20, u21, u22, u23, u24, u25, u26⟩ := blk7 K2
  have z3 := blk_lt K3
  obtain ⟨u30, u31, u32, f30, f31, f32⟩ := blk3 K3
  have HK := hid (And.intro K1 (And.intro K2 (K3)))
  clear K1 K2 K3
  obtain ⟨GN, hGN⟩ : ∃ G, wf.heap.size = G := ⟨_, rfl⟩
  have OWN0 : Hid (wg.ownsRow (gg + 1) 2 1 (.slice (some ⟨GN, 0, none⟩) m m) m (ints (nmv m (fun j => IntKind.i64.wrap (va zs p5 e5 j)) 0))) := by
    rw [nmv_made, ← hGN]; exact own9
  have hGg : gg < GN := by rw [← hGN]; exact zgg
  rw [hGN]
  clear hb2 hbwf hgr own9 hGN zgg
  have HKg := hid (show Hid (wg.heap[w.heap.size]? = some (.cells #[.int .i64 q0, .int .i64 t0, .slice An nn cn] 24 (0, 0))) ∧ Hid (wg.heap[w.heap.size + 1]? = some (.cells #[.int .i64 0, .int .i64 0, .int .i64 0, .string ⟨#[]⟩, .int .i64 0, .int .i64 0, .int .i64 0] 26 (0, 0))) ∧ Hid (wg.heap[gg]? = some (.cells #[.slice A n c, .int .i64 p5, .int .i64 e5] 59 (0, 0))) from ⟨HK.out.1, HK.out.2.1, HK.out.2.2⟩)
  clear HK z1 u10 u11 u12 f10 f11 f12 z2 u20 u21 u22 u23 u24 u25 u26 z3 u30 u31 u32 f30 f31 f32
  go_loopw [44] (fun i wr => ∃ (j : Nat) (pj ej : Int), j ≤ m ∧ i = .int .i64 j ∧ Hid (cu zs p5 e5 j = (pj, ej)) ∧ Hid (wr.heap[w.heap.size]? = some (.cells #[.int .i64 q0, .int .i64 t0, .slice An nn cn] 24 (0, 0))) ∧ Hid (wr.heap[w.heap.size + 1]? = some (.cells #[.int .i64 0, .int .i64 0, .int .i64 0, .string ⟨#[]⟩, .int .i64 0, .int .i64 0, .int .i64 0] 26 (0, 0))) ∧ Hid (wr.heap[gg]? = some (.cells #[.slice A n c, .int .i64 pj, .int .i64 ej] 59 (0, 0))) ∧ Hid (wr.ownsRow (gg + 1) 2 1 (.slice (some ⟨GN, 0, none⟩) m m) m (ints (nmv m (fun j => IntKind.i64.wrap (va zs p5 e5 j)) j))) ∧ Below w.heap.size w wr)
    (fun i _ => m - (intOf i).toNat)
  case atStart => exact ⟨0, p5, e5, by omega, rfl, rfl, HKg.out.1, HKg.out.2.1, HKg.out.2.2, OWN0, hbwg⟩
  case round =>
    obtain ⟨j, pj, ej, hj, rfl, HC, H1, H2, H3, OWN, hbr⟩ := hrel
    have K1 := H1.out
    have K2 := H2.out
    have K3 := H3.out
    have z1 := blk_lt K1
    obtain ⟨u10, u11, u12, f10, f11, f12⟩ := blk3 K1
    have z2 := blk_lt K2
    obtain ⟨u20, u21, u22, u23, u24, u25, u26⟩ := blk7 K2
    have z3 := blk_lt K3
    obtain ⟨u30, u31, u32, f30, f31, f32⟩ := blk3 K3
    have HK := hid (And.intro K1 (And.intro K2 (K3)))
    clear K1 K2 K3
    by_cases hlt : j < m
    · clear H1 H2 H3
      obtain ⟨p', e', v', hu⟩ : ∃ p' e' v', uintS zs pj ej = (p', e', v') := ⟨_, _, _, rfl⟩
      have HCS := hid (cu_succ HC.out hu)
      have HU := hid hu
      clear hu
      go_wp2_with fail
      with_reducible refine (PU.out _ hbr _ _ _ _ _ HU.out).mono ?_
      rintro e wx ⟨rfl, hb2⟩
      have OWN2 := hid (own_below OWN.out hb2)
      have hbwx : Below w.heap.size w wx := hbr.trans (hb2.mono hbr.size)
      have K1 := (hb2.block _ z1).trans HK.out.1
      have K2 := (hb2.block _ z2).trans HK.out.2.1
      have K3 := (hb2.block _ z3).trans HK.out.2.2
      clear z1 u10 u11 u12 f10 f11 f12 z2 u20 u21 u22 u23 u24 u25 u26 z3 u30 u31 u32 f30 f31 f32 HK
      have z1 := blk_lt K1
      obtain ⟨u10, u11, u12, f10, f11, f12⟩ := blk3 K1
      have z2 := blk_lt K2
      obtain ⟨u20, u21, u22, u23, u24, u25, u26⟩ := blk7 K2
      have z3 := blk_lt K3
      obtain ⟨u30, u31, u32, f30, f31, f32⟩ := blk3 K3
      have HK := hid (And.intro K1 (And.intro K2 (K3)))
      clear K1 K2 K3
      have hcA := OWN2.out.cellAt j (by omega)
      have hcF := OWN2.out.frozenAt j
      have hcS : ∃ u9, (ints (nmv m (fun j => IntKind.i64.wrap (va zs p5 e5 j)) j))[j]? = some u9 := ⟨_, List.getElem?_eq_getElem (by rw [ints_len, nmv_len]; exact hlt)⟩
      obtain ⟨u9, hu9⟩ := hcS
      rw [hu9] at hcA
      clear hu9
      have hne1 : ¬ GN = gg := by omega
      have hne2 : ¬ gg = GN := by omega
      have hGl : GN < wx.heap.size := cell_lt hcA
      go_wp2_with fail
      go_roundw
      case rel =>
        have S3 := sto3 wx gg (.slice A n c) (.int .i64 p') (.int .i64 e')
        have E1 := (S3.block w.heap.size (by omega)).trans HK.out.1
        have E2 := (S3.block (w.heap.size + 1) (by omega)).trans HK.out.2.1
        have E3 := all3 (a' := .slice A n c) (b' := .int .i64 p') (c' := .int .i64 e') HK.out.2.2
        have OW4 := ((S3.own OWN2.out (by omega)).stored j (.int .i64 (wrap64 v'))).1
        have hset : (ints (nmv m (fun j => IntKind.i64.wrap (va zs p5 e5 j)) j)).set j (.int .i64 (wrap64 v')) = ints (nmv m (fun j => IntKind.i64.wrap (va zs p5 e5 j)) (j + 1)) := by
          rw [← HCS.out.2, w64]; exact nmv_set
        rw [hset] at OW4
        exact ⟨j + 1, p', e', by omega, by go_num, HCS.out.1, (Below.heap_setCell _ _ _ _ (by simp; omega)).trans E1, (Below.heap_setCell _ _ _ _ (by simp; omega)).trans E2, (Below.heap_setCell _ _ _ _ (by simp; omega)).trans E3, OW4, Below.setCell (S3.below hbwx (by omega)) (by simp; omega) _⟩
      case measure => simp [intOf]; omega
    · obtain rfl : j = m := by omega
      obtain ⟨AL, cL, hAL, h1L, h2L, h3L, SLL, -⟩ := own_reads OWN.out (Nat.le_refl _)
      simp only [Value.slice.injEq] at hAL
      obtain ⟨rfl, -, rfl⟩ := hAL
      have PF := hid (fun (w1 : World) (h : Below wr.heap.size wr w1) (q t k a b d : Int) (s : ByteArray) => Fill_any q t k s a b d (cp := j) (SLL.below h) h.size (by omega))
      have HSL := hid (nmv_all j (fun j => IntKind.i64.wrap (va zs p5 e5 j)))
      clear SLL h1L h2L h3L OWN
      go_wp2_with fail
      with_reducible refine (PF.out _ ((Below.refl _ _).alloc (Nat.le_refl _) _) _ _ _ _ _ _ _).mono ?_
      rintro e wx ⟨rfl, hb2⟩
      have K2 := (hb2.block _ (by simp; omega)).trans ((Below.heap_alloc _ _ _ z2).trans HK.out.2.1)
      have hbx : Below w.heap.size w wx := (hbr.alloc (by omega) _).trans (hb2.mono (by simp; omega))
      clear hb2 HK hbr z1 u10 u11 u12 f10 f11 f12 z2 u20 u21 u22 u23 u24 u25 u26 z3 u30 u31 u32 f30 f31 f32
      go_wp2_with (refine wpList_store_sto rfl 26 (.tmp 4) (.tmp 74) rfl (w.heap.size + 1) #[.int .i64 (wrap64 (q0 + wrap64 v2)), .int .i64 (wrap64 (t0 + wrap64 v3)), .int .i64 (wrap64 v1), .string s, .int .i64 (at3 (nmv j (fun j => IntKind.i64.wrap (va zs p5 e5 j)) j) 0), .int .i64 (at3 (nmv j (fun j => IntKind.i64.wrap (va zs p5 e5 j)) j) 1), .int .i64 (at3 (nmv j (fun j => IntKind.i64.wrap (va zs p5 e5 j)) j) 2)] rfl rfl 26 _ K2 ev7_size rfl (ev7_one _ _ _ _ _ _ _) ?_; intro w9 K9 S9; obtain ⟨r0, r1, r2, r3, r4, r5, r6⟩ := blk7 K9.out)
      have hb9 := S9.below hbx (by omega)
      refine bodyPost_ret (v := .agg #[.int .i64 (wrap64 (q0 + wrap64 v2)), .int .i64 (wrap64 (t0 + wrap64 v3)), .int .i64 (wrap64 v1), .string s, .int .i64 (at3 (nmv j (fun j => IntKind.i64.wrap (va zs p5 e5 j)) j) 0), .int .i64 (at3 (nmv j (fun j => IntKind.i64.wrap (va zs p5 e5 j)) j) 1), .int .i64 (at3 (nmv j (fun j => IntKind.i64.wrap (va zs p5 e5 j)) j) 2)]) (by simp [results, Try.results16, go_sem, r0, r1, r2, r3, r4, r5, r6]) rfl ⟨⟨_, _, _, _, _, _, _, rfl, HSZ, hid (fun y ok hz => ?_)⟩, hb9⟩
      rw [w64, w64, w64, w64, w64, HSL.out]
      exact (rd_eq HU1.out HU2.out HU3.out HU4.out HN.out HM.out (L := (List.range j).map fun j => IntKind.i64.wrap (va zs p5 e5 j)) (by rw [HKD.out, HMN.out, Int.toNat_natCast]) ok (rest := []) (by rw [List.append_nil]; exact hz)).1
end Go.Proofs.Ytgijhfdlecdijaa
