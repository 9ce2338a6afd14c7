/- The walk of CodecRight. -/
import Derived.Test.YtejkgolcehbhdaaCodec8
import Derived.Test.YtejkgolcehbhdaaCodecA
import Derived.Test.YtejkgolcehbhdaaEnv
namespace Go.Proofs.Ytejkgolcehbhdaa
open Go.ChangeShapes Go.WideShapes Go.ChangeAt Go.RowKit Fb Go.Maps

theorem en_bytes (q0 t0 : Int) (ss : List ByteArray) (x : Ev) : Bytes (enB q0 t0 ss x) := by
  unfold enB
  split
  · exact sp_bytes _ _ _ _
  · exact fun _ h => by cases h
theorem en_small {q0 t0 : Int} {ss : List ByteArray} {x : Ev} : (enB q0 t0 ss x).length ≤ 60 := by
  by_cases h : enE q0 t0 ss x = 0
  · obtain ⟨h1, h2, h3, -⟩ := en_zero h
    rw [h3]
    exact (sp_len (fl_ok h1 h2)).2.2.2.1
  · rw [(en_not h).1]; simp
theorem flL_small (ss : List ByteArray) (x : Ev) : (flL ss x).length ≤ ss.length + 1 := by
  unfold flL puL
  split
  · split
    · simp
    · simp
  · simp
theorem enL_small (q0 t0 : Int) (ss : List ByteArray) (x : Ev) : (enL q0 t0 ss x).length ≤ ss.length + 1 := by
  unfold enL
  split
  · exact flL_small ss x
  · omega
theorem deL_small (q0 t0 : Int) (ss : List ByteArray) (zs : List Int) : (deL q0 t0 ss zs).length ≤ ss.length + 1 := by
  unfold deL
  split
  · exact flL_small ss _
  · omega

set_option maxRecDepth 100000 in
set_option maxHeartbeats 32000000 in
theorem right_walk (q0 t0 q t k a b d : Int) (s : ByteArray) (A : Option Addr) (n cp : Nat) (ss : List ByteArray) (B : Option Addr) (m c : Nat) (zs : List Int) (w : World) (hR : Rs w A n cp ss) (hsl : s.size ≤ maxLen) (hS : Rw w B m c zs) (hb : Bytes zs) :
    Calls Try.prog 3 #[.agg #[.int .i64 q0, .int .i64 t0, .slice A n cp], .agg #[.int .i64 q, .int .i64 t, .int .i64 k, .string s, .int .i64 a, .int .i64 b, .int .i64 d], .slice B m c] w fun e w' => e = .returned (.bool true) ∧ Below w.heap.size w w' := by
  have hcm := hR.2.2.1
  have PS := hid (fun (w1 : World) (h : Below w.heap.size w w1) => RShort_any (c := cp) (hR.below h).1 (Nat.le_trans hR.2.1 hR.2.2.1))
  have hbA : Below w.heap.size w ((w.alloc (.cells #[.int .i64 q0, .int .i64 t0, .slice A n cp] 24)).alloc (.cells #[.int .i64 q, .int .i64 t, .int .i64 k, .string s, .int .i64 a, .int .i64 b, .int .i64 d] 26)) := ((Below.refl _ _).alloc (Nat.le_refl _) _).alloc (by simp) _
  cases h0 : shB ss with
  | false =>
    rw [h0] at PS
    clear hR hS
    go_enter Try.func3, Try.ntmps3
    go_wp2_with fail
    refine (awake7 _).mono ?_
    rintro e w1 ⟨rfl, hb1⟩
    have hbw1 : Below w.heap.size w w1 := hbA.trans (hb1.mono hbA.size)
    obtain ⟨K1, K2⟩ := kept2 hb1
    have z1 := blk_lt K1
    obtain ⟨u10, u11, u12, f10, f11, f12⟩ := blk3 K1
    have z2 := blk_lt K2
    obtain ⟨u20, u21, u22, u23, u24, u25, u26⟩ := blk7 K2
    have HK := hid (And.intro K1 (K2))
    clear K1 K2
    clear hb1
    go_wp2_with fail
    refine (PS.out _ hbw1).mono ?_
    rintro e w9 ⟨rfl, rfl⟩
    go_wp2_with fail
    go_ret
    exact ⟨rfl, hbw1⟩
  | true =>
    rw [h0] at PS
    by_cases hs : (100 : Int) < s.size
    · clear hR hS
      go_enter Try.func3, Try.ntmps3
      go_wp2_with fail
      refine (awake7 _).mono ?_
      rintro e w1 ⟨rfl, hb1⟩
      have hbw1 : Below w.heap.size w w1 := hbA.trans (hb1.mono hbA.size)
      obtain ⟨K1, K2⟩ := kept2 hb1
      have z1 := blk_lt K1
      obtain ⟨u10, u11, u12, f10, f11, f12⟩ := blk3 K1
      have z2 := blk_lt K2
      obtain ⟨u20, u21, u22, u23, u24, u25, u26⟩ := blk7 K2
      have HK := hid (And.intro K1 (K2))
      clear K1 K2
      clear hb1
      go_wp2_with fail
      refine (PS.out _ hbw1).mono ?_
      rintro e w9 ⟨rfl, rfl⟩
      go_wp2_with fail
      go_ret
      exact ⟨rfl, hbw1⟩
    · by_cases hm : (300 : Int) < m
      · clear hR hS
        go_enter Try.func3, Try.ntmps3
        go_wp2_with fail
        refine (awake7 _).mono ?_
        rintro e w1 ⟨rfl, hb1⟩
        have hbw1 : Below w.heap.size w w1 := hbA.trans (hb1.mono hbA.size)
        obtain ⟨K1, K2⟩ := kept2 hb1
        have z1 := blk_lt K1
        obtain ⟨u10, u11, u12, f10, f11, f12⟩ := blk3 K1
        have z2 := blk_lt K2
        obtain ⟨u20, u21, u22, u23, u24, u25, u26⟩ := blk7 K2
        have HK := hid (And.intro K1 (K2))
        clear K1 K2
        clear hb1
        go_wp2_with fail
        refine (PS.out _ hbw1).mono ?_
        rintro e w9 ⟨rfl, rfl⟩
        go_wp2_with fail
        go_ret
        exact ⟨rfl, hbw1⟩
      · obtain ⟨hok, h60, -⟩ := shB_ok h0
        have hn : n ≤ 60 := by have := hR.len; omega
        have HR := hid (fun (w1 : World) (h : Below w.heap.size w w1) => hR.below h)
        have HS := hid (fun (w1 : World) (h : Below w.heap.size w w1) => hS.below h)
        have HOK := hid hok
        have HB := hid hb
        have HLE := hid (enL_small q0 t0 ss ⟨q, t, k, s, a, b, d⟩)
        have HLD := hid (deL_small q0 t0 ss zs)
        have HEB := hid (en_bytes q0 t0 ss ⟨q, t, k, s, a, b, d⟩)
        have PE1 := hid (fun (w1 : World) (h : Below w.heap.size w w1) => Encode_any q0 t0 hok q t k a b d hsl (hR.below h) (by omega))
        have PE2 := hid (fun (w1 : World) (h : Below w.heap.size w w1) => REncode_any q0 t0 q t k a b d s (hR.below h) (by omega))
        have PD1 := hid (fun (w1 : World) (h : Below w.heap.size w w1) => Decode_any q0 t0 hok (hR.below h) (by omega) (hS.below h) hb (by omega))
        have PD2 := hid (fun (w1 : World) (h : Below w.heap.size w w1) => RDecode_any q0 t0 (hR.below h) (by omega) (hS.below h) hb (by omega))
        have PR1 := hid (fun (w1 : World) (h : Below w.heap.size w w1) => CRight_any q0 t0 (cp := cp) hok (hR.below h).1 (Nat.le_refl _))
        have PR2 := hid (fun (w1 : World) (h : Below w.heap.size w w1) => RRight7 q0 t0 (hR.below h) (by omega))
        have hss := hid h60
        unfold Encs at PE1 PE2
        unfold Decs at PD1 PD2
        unfold evV at PD1 PD2
        clear hR hS hok hb h60
        generalize enE q0 t0 ss ⟨q, t, k, s, a, b, d⟩ = E at *
        generalize enB q0 t0 ss ⟨q, t, k, s, a, b, d⟩ = BY at *
        generalize enQ q0 t0 ss ⟨q, t, k, s, a, b, d⟩ = QQ at *
        generalize enT q0 t0 ss ⟨q, t, k, s, a, b, d⟩ = TT at *
        generalize enL q0 t0 ss ⟨q, t, k, s, a, b, d⟩ = LL at *
        generalize deX q0 t0 ss zs = X at *
        generalize deE q0 t0 ss zs = DE at *
        generalize deQ q0 t0 ss zs = DQ at *
        generalize deT q0 t0 ss zs = DT at *
        generalize deL q0 t0 ss zs = DL at *
        generalize rcB q0 t0 ss = rc at *
        go_enter Try.func3, Try.ntmps3
        go_wp2_with fail
        refine (awake7 _).mono ?_
        rintro e w1 ⟨rfl, hb1⟩
        have hbw1 : Below w.heap.size w w1 := hbA.trans (hb1.mono hbA.size)
        obtain ⟨K1, K2⟩ := kept2 hb1
        have z1 := blk_lt K1
        obtain ⟨u10, u11, u12, f10, f11, f12⟩ := blk3 K1
        have z2 := blk_lt K2
        obtain ⟨u20, u21, u22, u23, u24, u25, u26⟩ := blk7 K2
        have HK := hid (And.intro K1 (K2))
        clear K1 K2
        clear hb1
        go_wp2_with fail
        refine (PS.out _ hbw1).mono ?_
        rintro e w9 ⟨rfl, rfl⟩
        go_wp2_with fail
        refine (PE1.out _ hbw1).mono ?_
        rintro e w2 ⟨⟨A1, n1, c1, A2, n2, c2, rfl, hR1, hR2⟩, hb1⟩
        have hbw2 : Below w.heap.size w w2 := hbw1.trans (hb1.mono hbw1.size)
        have K1 := (hb1.block _ z1).trans HK.out.1
        have K2 := (hb1.block _ z2).trans HK.out.2
        clear z1 u10 u11 u12 f10 f11 f12 z2 u20 u21 u22 u23 u24 u25 u26 HK
        have z1 := blk_lt K1
        obtain ⟨u10, u11, u12, f10, f11, f12⟩ := blk3 K1
        have z2 := blk_lt K2
        obtain ⟨u20, u21, u22, u23, u24, u25, u26⟩ := blk7 K2
        have HK := hid (And.intro K1 (K2))
        clear K1 K2
        have HR1 := hid hR1
        have HR2 := hid hR2
        clear hb1 hR1 hR2 hbw1
        have hal : Below w2.heap.size w2 (w2.alloc (.cells #[.int .i64 QQ, .int .i64 TT, .slice A2 n2 c2] 24)) := (Below.refl _ _).alloc (Nat.le_refl _) _
        go_wp2_with fail
        refine (PE2.out _ (hbw2.alloc (by omega) _)).mono ?_
        rintro e w3 ⟨⟨A3, n3, c3, A4, n4, c4, rfl, hR3, hR4⟩, hb2⟩
        have HR5 := hid ((HR1.out.below hal).below hb2)
        have HR6 := hid ((HR2.out.below hal).below hb2)
        have HR3 := hid hR3
        have HR4 := hid hR4
        have hbw3 : Below w.heap.size w w3 := (hbw2.alloc (by omega) _).trans (hb2.mono (by simp; omega))
        have K1 := (hb2.block _ (by simp; omega)).trans ((Below.heap_alloc _ _ _ z1).trans HK.out.1)
        have K2 := (hb2.block _ (by simp; omega)).trans ((Below.heap_alloc _ _ _ z2).trans HK.out.2)
        have K3 := (hb2.block _ (by simp)).trans (heap_alloc_new w2 _)
        obtain ⟨g8, hg8⟩ : ∃ g, w2.heap.size = g := ⟨_, rfl⟩
        have lg8 : w.heap.size + 2 ≤ g8 := by omega
        rw [hg8] at K3
        clear z1 u10 u11 u12 f10 f11 f12 z2 u20 u21 u22 u23 u24 u25 u26 HK
        have z1 := blk_lt K1
        obtain ⟨u10, u11, u12, f10, f11, f12⟩ := blk3 K1
        have z2 := blk_lt K2
        obtain ⟨u20, u21, u22, u23, u24, u25, u26⟩ := blk7 K2
        have z3 := blk_lt K3
        obtain ⟨u30, u31, u32, f30, f31, f32⟩ := blk3 K3
        have HK := hid (And.intro K1 (And.intro K2 (K3)))
        clear K1 K2 K3
        rw [hg8]
        clear hb2 hal HR1 HR2 hbw2 hR3 hR4 PE1 PE2 hg8
        go_wp2_with fail
        obtain ⟨w4, hW4⟩ : ∃ w9, w9 = w3.alloc (.cells #[.int .i64 QQ, .int .i64 TT, .slice A4 n4 c4] 24) := ⟨_, rfl⟩
        obtain ⟨g11, hg11⟩ : ∃ g, w3.heap.size = g := ⟨_, rfl⟩
        rw [← hW4, hg11]
        have E1 := (Below.heap_alloc w3 (.cells #[.int .i64 QQ, .int .i64 TT, .slice A4 n4 c4] 24) _ z1).trans HK.out.1
        have E2 := (Below.heap_alloc w3 (.cells #[.int .i64 QQ, .int .i64 TT, .slice A4 n4 c4] 24) _ z2).trans HK.out.2.1
        have E3 := (Below.heap_alloc w3 (.cells #[.int .i64 QQ, .int .i64 TT, .slice A4 n4 c4] 24) _ z3).trans HK.out.2.2
        have E4 := heap_alloc_new w3 (.cells #[.int .i64 QQ, .int .i64 TT, .slice A4 n4 c4] 24)
        have hal : Below w3.heap.size w3 (w3.alloc (.cells #[.int .i64 QQ, .int .i64 TT, .slice A4 n4 c4] 24)) := (Below.refl _ _).alloc (Nat.le_refl _) _
        have hbw4 := hbw3.alloc (by omega) (.cells #[.int .i64 QQ, .int .i64 TT, .slice A4 n4 c4] 24)
        have hgg : g8 < g11 := by rw [← hg11]; exact z3
        have lg11 : w.heap.size + 2 ≤ g11 := by omega
        have HR7 := hid (HR5.out.below hal)
        have HR8 := hid (HR6.out.below hal)
        have HR9 := hid (HR3.out.below hal)
        have HR10 := hid (HR4.out.below hal)
        rw [← hW4] at E1 E2 E3 E4 hbw4 HR7 HR8 HR9 HR10
        rw [hg11] at E4
        have K1 := E1
        have K2 := E2
        have K3 := E3
        have K4 := E4
        clear E1 E2 E3 E4 HK hW4 hal HR5 HR6 HR3 HR4 hbw3 hg11 z1 u10 u11 u12 f10 f11 f12 z2 u20 u21 u22 u23 u24 u25 u26 z3 u30 u31 u32 f30 f31 f32
        have z1 := blk_lt K1
        obtain ⟨u10, u11, u12, f10, f11, f12⟩ := blk3 K1
        have z2 := blk_lt K2
        obtain ⟨u20, u21, u22, u23, u24, u25, u26⟩ := blk7 K2
        have z3 := blk_lt K3
        obtain ⟨u30, u31, u32, f30, f31, f32⟩ := blk3 K3
        have z4 := blk_lt K4
        obtain ⟨u40, u41, u42, f40, f41, f42⟩ := blk3 K4
        have HK := hid (And.intro K1 (And.intro K2 (And.intro K3 (K4))))
        clear K1 K2 K3 K4
        have HN2 := hid (show n2 ≤ 1000000 by have := HR8.out.len; have := HLE.out; have := hss.out; omega)
        refine wp_region_env (A := fun vs => { tmps := #[Value.agg #[Value.int IntKind.i64 q0, Value.int IntKind.i64 t0, Value.slice A n cp], Value.agg #[Value.int IntKind.i64 q, Value.int IntKind.i64 t, Value.int IntKind.i64 k, Value.string s, Value.int IntKind.i64 a, Value.int IntKind.i64 b, Value.int IntKind.i64 d], Value.slice B m c, Value.pointer (some { block := w.heap.size, off := 0 }), Value.pointer (some { block := w.heap.size + 1, off := 0 }), undef, Value.bool false, Value.slice A1 n1 c1, Value.pointer (some { block := g8, off := 0 }), Value.int IntKind.i64 E, Value.slice A3 n3 c3, Value.pointer (some { block := g11, off := 0 }), Value.int IntKind.i64 E, undef, undef, Value.bool true, Value.bool false, Value.pointer (some { block := w.heap.size, off := 2 }), Value.slice A n cp, Value.bool true, Value.bool false, Value.bool false, Value.pointer (some { block := w.heap.size + 1, off := 3 }), Value.string s, Value.int IntKind.i64 ↑s.size, Value.bool (decide ((100 : Int) < ↑s.size)), Value.bool (decide ((100 : Int) < ↑s.size)), Value.bool (decide ((100 : Int) < ↑s.size)), Value.slice B m c, Value.int IntKind.i64 ↑m, Value.bool (decide ((300 : Int) < ↑m)), Value.bool (decide ((100 : Int) < ↑s.size) || decide ((300 : Int) < ↑m)), Value.tuple #[Value.slice A1 n1 c1, Value.agg #[Value.int IntKind.i64 QQ, Value.int IntKind.i64 TT, Value.slice A2 n2 c2], Value.int IntKind.i64 E], Value.agg #[Value.int IntKind.i64 q0, Value.int IntKind.i64 t0, Value.slice A n cp], Value.agg #[Value.int IntKind.i64 q, Value.int IntKind.i64 t, Value.int IntKind.i64 k, Value.string s, Value.int IntKind.i64 a, Value.int IntKind.i64 b, Value.int IntKind.i64 d], Value.tuple #[Value.slice A1 n1 c1, Value.agg #[Value.int IntKind.i64 QQ, Value.int IntKind.i64 TT, Value.slice A2 n2 c2], Value.int IntKind.i64 E], Value.slice A1 n1 c1, Value.agg #[Value.int IntKind.i64 QQ, Value.int IntKind.i64 TT, Value.slice A2 n2 c2], Value.int IntKind.i64 E, Value.tuple #[Value.slice A3 n3 c3, Value.agg #[Value.int IntKind.i64 QQ, Value.int IntKind.i64 TT, Value.slice A4 n4 c4], Value.int IntKind.i64 E], Value.agg #[Value.int IntKind.i64 q0, Value.int IntKind.i64 t0, Value.slice A n cp], Value.agg #[Value.int IntKind.i64 q, Value.int IntKind.i64 t, Value.int IntKind.i64 k, Value.string s, Value.int IntKind.i64 a, Value.int IntKind.i64 b, Value.int IntKind.i64 d], Value.tuple #[Value.slice A3 n3 c3, Value.agg #[Value.int IntKind.i64 QQ, Value.int IntKind.i64 TT, Value.slice A4 n4 c4], Value.int IntKind.i64 E], Value.slice A3 n3 c3, Value.agg #[Value.int IntKind.i64 QQ, Value.int IntKind.i64 TT, Value.slice A4 n4 c4], Value.int IntKind.i64 E, vs 0, vs 1, vs 2, vs 3, vs 4, vs 5, vs 6, vs 7, vs 8, vs 9, vs 10, vs 11, vs 12, vs 13, vs 14, vs 15, vs 16, vs 17, vs 18, vs 19, vs 20, vs 21, vs 22, undef, undef, undef, undef, undef, undef, undef, undef, undef, undef, undef, undef, undef, undef, undef, undef, undef, undef, undef, undef, undef, undef, undef, undef, undef, undef, undef], defers := [] }) (E := fun i yv wq => match i with | 0 => yv = .agg #[.int .i64 q0, .int .i64 t0, .slice A n cp] | 1 => yv = .bool rc | 2 => yv = .agg #[.int .i64 q0, .int .i64 t0, .slice A n cp] | 3 => yv = .bool rc | 4 => yv = .bool false | 5 => yv = .bool false | 6 => yv = .slice A1 n1 c1 | 7 => yv = .string (strOfNums BY) | 8 => yv = .slice A3 n3 c3 | 9 => yv = .string (strOfNums BY) | 10 => yv = .bool false | 11 => yv = .bool false | 12 => yv = .bool false | 13 => yv = .int .i64 E | 14 => yv = .int .i64 E | 15 => yv = .bool false | 16 => yv = .bool false | 17 => yv = .bool false | 18 => yv = .agg #[.int .i64 QQ, .int .i64 TT, .slice A2 n2 c2] | 19 => yv = .agg #[.int .i64 QQ, .int .i64 TT, .slice A4 n4 c4] | 20 => yv = .bool true | 21 => yv = .bool false | 22 => yv = .bool false | _ => True) (C := fun wq => Below w4.heap.size w4 wq) (Ext := fun a b => Below a.heap.size a b) (fun _ => undef) (by kernel_rfl) (by rfl) ?hC ?hstep ?hstab (low_of (by kernel_rfl)) ?hend
        case hC => exact Below.drew (Below.refl _ _)
        case hstab =>
          intro i yv wa wb hx h
          match i, h with
          | 0, h => exact h
          | 1, h => exact h
          | 2, h => exact h
          | 3, h => exact h
          | 4, h => exact h
          | 5, h => exact h
          | 6, h => exact h
          | 7, h => exact h
          | 8, h => exact h
          | 9, h => exact h
          | 10, h => exact h
          | 11, h => exact h
          | 12, h => exact h
          | 13, h => exact h
          | 14, h => exact h
          | 15, h => exact h
          | 16, h => exact h
          | 17, h => exact h
          | 18, h => exact h
          | 19, h => exact h
          | 20, h => exact h
          | 21, h => exact h
          | 22, h => exact h
          | (_ + 23), _ => trivial
        case hstep =>
          intro i o ho
          match i, ho with
          | 0, ho =>
            obtain rfl := Option.some.inj (show some _ = some o from ho)
            intro vs wq hC hE K hK
            obtain ⟨e0, e1, e2, -, -, -⟩ := blk3 ((hC.block _ z1).trans HK.out.1)
            go_simp
            have hh := hK.out (.agg #[.int .i64 q0, .int .i64 t0, .slice A n cp]) wq rfl (Below.refl _ _) hC
            simp only [upd, Nat.reduceEqDiff, ↓reduceIte] at hh
            exact hh
          | 1, ho =>
            obtain rfl := Option.some.inj (show some _ = some o from ho)
            intro vs wq hC hE K hK
            obtain d0 : vs 0 = .agg #[.int .i64 q0, .int .i64 t0, .slice A n cp] := hE { on := 0, ground := Ground.data } (by simp) rfl
            go_simp
            go_at_call 10
            refine (PR1.out _ (hbw4.trans (hC.mono hbw4.size))).mono ?_
            rintro e w5 ⟨rfl, hb5⟩
            have hh := hK.out (.bool rc) w5 rfl hb5 (hC.trans (hb5.mono hC.size))
            simp only [upd, Nat.reduceEqDiff, ↓reduceIte, d0] at hh
            exact hh
          | 2, ho =>
            obtain rfl := Option.some.inj (show some _ = some o from ho)
            intro vs wq hC hE K hK
            obtain ⟨e0, e1, e2, -, -, -⟩ := blk3 ((hC.block _ z1).trans HK.out.1)
            go_simp
            have hh := hK.out (.agg #[.int .i64 q0, .int .i64 t0, .slice A n cp]) wq rfl (Below.refl _ _) hC
            simp only [upd, Nat.reduceEqDiff, ↓reduceIte] at hh
            exact hh
          | 3, ho =>
            obtain rfl := Option.some.inj (show some _ = some o from ho)
            intro vs wq hC hE K hK
            obtain d2 : vs 2 = .agg #[.int .i64 q0, .int .i64 t0, .slice A n cp] := hE { on := 2, ground := Ground.data } (by simp) rfl
            go_simp
            go_at_call 11
            refine (PR2.out _ (hbw4.trans (hC.mono hbw4.size))).mono ?_
            rintro e w5 ⟨rfl, hb5⟩
            have hh := hK.out (.bool rc) w5 rfl hb5 (hC.trans (hb5.mono hC.size))
            simp only [upd, Nat.reduceEqDiff, ↓reduceIte, d2] at hh
            exact hh
          | 4, ho =>
            obtain rfl := Option.some.inj (show some _ = some o from ho)
            intro vs wq hC hE K hK
            obtain d1 : vs 1 = .bool rc := hE { on := 1, ground := Ground.data } (by simp) rfl
            obtain d3 : vs 3 = .bool rc := hE { on := 3, ground := Ground.data } (by simp) rfl
            go_simp
            have hh := hK.out (.bool false) wq rfl (Below.refl _ _) hC
            simp only [upd, Nat.reduceEqDiff, ↓reduceIte, d1, d3] at hh
            exact hh
          | 5, ho =>
            obtain rfl := Option.some.inj (show some _ = some o from ho)
            intro vs wq hC hE K hK
            obtain d4 : vs 4 = .bool false := hE { on := 4, ground := Ground.data } (by simp) rfl
            go_simp
            have hh := hK.out (.bool false) wq rfl (Below.refl _ _) hC
            simp only [upd, Nat.reduceEqDiff, ↓reduceIte, d4] at hh
            exact hh
          | 6, ho =>
            obtain rfl := Option.some.inj (show some _ = some o from ho)
            intro vs wq hC hE K hK
            obtain d5 : vs 5 = .bool false := hE { on := 5, ground := Ground.guard } (by simp) rfl
            go_simp
            have hh := hK.out (.slice A1 n1 c1) wq rfl (Below.refl _ _) hC
            simp only [upd, Nat.reduceEqDiff, ↓reduceIte, d5] at hh
            exact hh
          | 7, ho =>
            obtain rfl := Option.some.inj (show some _ = some o from ho)
            intro vs wq hC hE K hK
            obtain d6 : vs 6 = .slice A1 n1 c1 := hE { on := 6, ground := Ground.data } (by simp) rfl
            obtain d5 : vs 5 = .bool false := hE { on := 5, ground := Ground.guard } (by simp) rfl
            have cv := conv8 c1 (HR7.out.below hC).1
            go_simp
            have hh := hK.out (.string (strOfNums BY)) wq rfl (Below.refl _ _) hC
            simp only [upd, Nat.reduceEqDiff, ↓reduceIte, d5, d6] at hh
            exact hh
          | 8, ho =>
            obtain rfl := Option.some.inj (show some _ = some o from ho)
            intro vs wq hC hE K hK
            obtain d5 : vs 5 = .bool false := hE { on := 5, ground := Ground.guard } (by simp) rfl
            go_simp
            have hh := hK.out (.slice A3 n3 c3) wq rfl (Below.refl _ _) hC
            simp only [upd, Nat.reduceEqDiff, ↓reduceIte, d5] at hh
            exact hh
          | 9, ho =>
            obtain rfl := Option.some.inj (show some _ = some o from ho)
            intro vs wq hC hE K hK
            obtain d8 : vs 8 = .slice A3 n3 c3 := hE { on := 8, ground := Ground.data } (by simp) rfl
            obtain d5 : vs 5 = .bool false := hE { on := 5, ground := Ground.guard } (by simp) rfl
            have cv := conv8 c3 (HR9.out.below hC).1
            go_simp
            have hh := hK.out (.string (strOfNums BY)) wq rfl (Below.refl _ _) hC
            simp only [upd, Nat.reduceEqDiff, ↓reduceIte, d5, d8] at hh
            exact hh
          | 10, ho =>
            obtain rfl := Option.some.inj (show some _ = some o from ho)
            intro vs wq hC hE K hK
            obtain d7 : vs 7 = .string (strOfNums BY) := hE { on := 7, ground := Ground.data } (by simp) rfl
            obtain d9 : vs 9 = .string (strOfNums BY) := hE { on := 9, ground := Ground.data } (by simp) rfl
            obtain d5 : vs 5 = .bool false := hE { on := 5, ground := Ground.guard } (by simp) rfl
            have he : ((strOfNums BY).toList == (strOfNums BY).toList) = true := by simp
            go_simp
            have hh := hK.out (.bool false) wq rfl (Below.refl _ _) hC
            simp only [upd, Nat.reduceEqDiff, ↓reduceIte, d5, d7, d9] at hh
            exact hh
          | 11, ho =>
            obtain rfl := Option.some.inj (show some _ = some o from ho)
            intro vs wq hC hE K hK
            obtain d5 : vs 5 = .bool false := hE { on := 5, ground := Ground.data } (by simp) rfl
            obtain d10 : vs 10 = .bool false := hE { on := 10, ground := Ground.data } (by simp) rfl
            go_simp
            have hh := hK.out (.bool false) wq rfl (Below.refl _ _) hC
            simp only [upd, Nat.reduceEqDiff, ↓reduceIte, d5, d10] at hh
            exact hh
          | 12, ho =>
            obtain rfl := Option.some.inj (show some _ = some o from ho)
            intro vs wq hC hE K hK
            obtain d11 : vs 11 = .bool false := hE { on := 11, ground := Ground.data } (by simp) rfl
            go_simp
            have hh := hK.out (.bool false) wq rfl (Below.refl _ _) hC
            simp only [upd, Nat.reduceEqDiff, ↓reduceIte, d11] at hh
            exact hh
          | 13, ho =>
            obtain rfl := Option.some.inj (show some _ = some o from ho)
            intro vs wq hC hE K hK
            obtain d12 : vs 12 = .bool false := hE { on := 12, ground := Ground.guard } (by simp) rfl
            go_simp
            have hh := hK.out (.int .i64 E) wq rfl (Below.refl _ _) hC
            simp only [upd, Nat.reduceEqDiff, ↓reduceIte, d12] at hh
            exact hh
          | 14, ho =>
            obtain rfl := Option.some.inj (show some _ = some o from ho)
            intro vs wq hC hE K hK
            obtain d12 : vs 12 = .bool false := hE { on := 12, ground := Ground.guard } (by simp) rfl
            go_simp
            have hh := hK.out (.int .i64 E) wq rfl (Below.refl _ _) hC
            simp only [upd, Nat.reduceEqDiff, ↓reduceIte, d12] at hh
            exact hh
          | 15, ho =>
            obtain rfl := Option.some.inj (show some _ = some o from ho)
            intro vs wq hC hE K hK
            obtain d13 : vs 13 = .int .i64 E := hE { on := 13, ground := Ground.data } (by simp) rfl
            obtain d14 : vs 14 = .int .i64 E := hE { on := 14, ground := Ground.data } (by simp) rfl
            obtain d12 : vs 12 = .bool false := hE { on := 12, ground := Ground.guard } (by simp) rfl
            go_simp
            have hh := hK.out (.bool false) wq rfl (Below.refl _ _) hC
            simp only [upd, Nat.reduceEqDiff, ↓reduceIte, d12, d13, d14] at hh
            exact hh
          | 16, ho =>
            obtain rfl := Option.some.inj (show some _ = some o from ho)
            intro vs wq hC hE K hK
            obtain d12 : vs 12 = .bool false := hE { on := 12, ground := Ground.data } (by simp) rfl
            obtain d15 : vs 15 = .bool false := hE { on := 15, ground := Ground.data } (by simp) rfl
            go_simp
            have hh := hK.out (.bool false) wq rfl (Below.refl _ _) hC
            simp only [upd, Nat.reduceEqDiff, ↓reduceIte, d12, d15] at hh
            exact hh
          | 17, ho =>
            obtain rfl := Option.some.inj (show some _ = some o from ho)
            intro vs wq hC hE K hK
            obtain d16 : vs 16 = .bool false := hE { on := 16, ground := Ground.data } (by simp) rfl
            go_simp
            have hh := hK.out (.bool false) wq rfl (Below.refl _ _) hC
            simp only [upd, Nat.reduceEqDiff, ↓reduceIte, d16] at hh
            exact hh
          | 18, ho =>
            obtain rfl := Option.some.inj (show some _ = some o from ho)
            intro vs wq hC hE K hK
            obtain d17 : vs 17 = .bool false := hE { on := 17, ground := Ground.guard } (by simp) rfl
            obtain ⟨e0, e1, e2, -, -, -⟩ := blk3 ((hC.block _ z3).trans HK.out.2.2.1)
            go_simp
            have hh := hK.out (.agg #[.int .i64 QQ, .int .i64 TT, .slice A2 n2 c2]) wq rfl (Below.refl _ _) hC
            simp only [upd, Nat.reduceEqDiff, ↓reduceIte, d17] at hh
            exact hh
          | 19, ho =>
            obtain rfl := Option.some.inj (show some _ = some o from ho)
            intro vs wq hC hE K hK
            obtain d17 : vs 17 = .bool false := hE { on := 17, ground := Ground.guard } (by simp) rfl
            obtain ⟨e0, e1, e2, -, -, -⟩ := blk3 ((hC.block _ z4).trans HK.out.2.2.2)
            go_simp
            have hh := hK.out (.agg #[.int .i64 QQ, .int .i64 TT, .slice A4 n4 c4]) wq rfl (Below.refl _ _) hC
            simp only [upd, Nat.reduceEqDiff, ↓reduceIte, d17] at hh
            exact hh
          | 20, ho =>
            obtain rfl := Option.some.inj (show some _ = some o from ho)
            intro vs wq hC hE K hK
            obtain d18 : vs 18 = .agg #[.int .i64 QQ, .int .i64 TT, .slice A2 n2 c2] := hE { on := 18, ground := Ground.data } (by simp) rfl
            obtain d19 : vs 19 = .agg #[.int .i64 QQ, .int .i64 TT, .slice A4 n4 c4] := hE { on := 19, ground := Ground.data } (by simp) rfl
            obtain d17 : vs 17 = .bool false := hE { on := 17, ground := Ground.guard } (by simp) rfl
            go_simp
            go_at_call 12
            have PSA := RSame7 (q0 := QQ) (t0 := TT) (q1 := QQ) (t1 := TT) (c := c2) (c' := c4) (HR8.out.below hC) (HR10.out.below hC) HN2.out
            rw [show decide (QQ = QQ ∧ TT = TT ∧ LL = LL) = true by simp] at PSA
            refine PSA.mono ?_
            rintro e w5 ⟨rfl, hb5⟩
            have hh := hK.out (.bool true) w5 rfl hb5 (hC.trans (hb5.mono hC.size))
            simp only [upd, Nat.reduceEqDiff, ↓reduceIte, d17, d18, d19] at hh
            exact hh
          | 21, ho =>
            obtain rfl := Option.some.inj (show some _ = some o from ho)
            intro vs wq hC hE K hK
            obtain d20 : vs 20 = .bool true := hE { on := 20, ground := Ground.data } (by simp) rfl
            obtain d17 : vs 17 = .bool false := hE { on := 17, ground := Ground.guard } (by simp) rfl
            go_simp
            have hh := hK.out (.bool false) wq rfl (Below.refl _ _) hC
            simp only [upd, Nat.reduceEqDiff, ↓reduceIte, d17, d20] at hh
            exact hh
          | 22, ho =>
            obtain rfl := Option.some.inj (show some _ = some o from ho)
            intro vs wq hC hE K hK
            obtain d17 : vs 17 = .bool false := hE { on := 17, ground := Ground.data } (by simp) rfl
            obtain d21 : vs 21 = .bool false := hE { on := 21, ground := Ground.data } (by simp) rfl
            go_simp
            have hh := hK.out (.bool false) wq rfl (Below.refl _ _) hC
            simp only [upd, Nat.reduceEqDiff, ↓reduceIte, d17, d21] at hh
            exact hh
          | (_ + 23), ho => exact absurd ho (by simp)
        case hend =>
          intro va w5 hC hE
          have r22 : va 22 = _ := hE 22 (by decide)
          simp only [r22]
          have hbw5 : Below w.heap.size w w5 := hbw4.trans (hC.mono hbw4.size)
          have K1 := (hC.block _ z1).trans HK.out.1
          have K2 := (hC.block _ z2).trans HK.out.2.1
          have K3 := (hC.block _ z3).trans HK.out.2.2.1
          have K4 := (hC.block _ z4).trans HK.out.2.2.2
          clear r22 hE hC HR7 HR8 HR9 HR10 PR1 PR2 hbw4 HN2 HK z1 u10 u11 u12 f10 f11 f12 z2 u20 u21 u22 u23 u24 u25 u26 z3 u30 u31 u32 f30 f31 f32 z4 u40 u41 u42 f40 f41 f42
          have z1 := blk_lt K1
          obtain ⟨u10, u11, u12, f10, f11, f12⟩ := blk3 K1
          have z2 := blk_lt K2
          obtain ⟨u20, u21, u22, u23, u24, u25, u26⟩ := blk7 K2
          have z3 := blk_lt K3
          obtain ⟨u30, u31, u32, f30, f31, f32⟩ := blk3 K3
          have z4 := blk_lt K4
          obtain ⟨u40, u41, u42, f40, f41, f42⟩ := blk3 K4
          have HK := hid (And.intro K1 (And.intro K2 (And.intro K3 (K4))))
          clear K1 K2 K3 K4
          go_wp2_with fail
          refine (PD1.out _ hbw5).mono ?_
          rintro e w6 ⟨⟨A5, n5, c5, rfl, hR5⟩, hb1⟩
          have hbw6 : Below w.heap.size w w6 := hbw5.trans (hb1.mono hbw5.size)
          have K1 := (hb1.block _ z1).trans HK.out.1
          have K2 := (hb1.block _ z2).trans HK.out.2.1
          have K3 := (hb1.block _ z3).trans HK.out.2.2.1
          have K4 := (hb1.block _ z4).trans HK.out.2.2.2
          clear z1 u10 u11 u12 f10 f11 f12 z2 u20 u21 u22 u23 u24 u25 u26 z3 u30 u31 u32 f30 f31 f32 z4 u40 u41 u42 f40 f41 f42 HK
          have z1 := blk_lt K1
          obtain ⟨u10, u11, u12, f10, f11, f12⟩ := blk3 K1
          have z2 := blk_lt K2
          obtain ⟨u20, u21, u22, u23, u24, u25, u26⟩ := blk7 K2
          have z3 := blk_lt K3
          obtain ⟨u30, u31, u32, f30, f31, f32⟩ := blk3 K3
          have z4 := blk_lt K4
          obtain ⟨u40, u41, u42, f40, f41, f42⟩ := blk3 K4
          have HK := hid (And.intro K1 (And.intro K2 (And.intro K3 (K4))))
          clear K1 K2 K3 K4
          have HR5 := hid hR5
          clear hb1 hR5 hbw5 PD1
          go_wp2_with fail
          obtain ⟨w7, hWw7⟩ : ∃ w9, w9 = ((((w6).setCell ⟨g8, 0, none⟩ (.int .i64 DQ)).setCell ⟨g8, 1, none⟩ (.int .i64 DT)).setCell ⟨g8, 2, none⟩ (.slice A5 n5 c5)).alloc (.cells #[.int .i64 X.q, .int .i64 X.t, .int .i64 X.k, .string X.s, .int .i64 X.a, .int .i64 X.b, .int .i64 X.c] 26) := ⟨_, rfl⟩
          rw [← hWw7]
          obtain ⟨gp, hgp⟩ : ∃ g, w6.heap.size = g := ⟨_, rfl⟩
          rw [hgp]
          have S4 := sto3 w6 g8 (.int .i64 DQ) (.int .i64 DT) (.slice A5 n5 c5)
          have hal : Below ((((w6).setCell ⟨g8, 0, none⟩ (.int .i64 DQ)).setCell ⟨g8, 1, none⟩ (.int .i64 DT)).setCell ⟨g8, 2, none⟩ (.slice A5 n5 c5)).heap.size ((((w6).setCell ⟨g8, 0, none⟩ (.int .i64 DQ)).setCell ⟨g8, 1, none⟩ (.int .i64 DT)).setCell ⟨g8, 2, none⟩ (.slice A5 n5 c5)) (((((w6).setCell ⟨g8, 0, none⟩ (.int .i64 DQ)).setCell ⟨g8, 1, none⟩ (.int .i64 DT)).setCell ⟨g8, 2, none⟩ (.slice A5 n5 c5)).alloc (.cells #[.int .i64 X.q, .int .i64 X.t, .int .i64 X.k, .string X.s, .int .i64 X.a, .int .i64 X.b, .int .i64 X.c] 26)) := (Below.refl _ _).alloc (Nat.le_refl _) _
          have E1 := (Below.heap_alloc _ (.cells #[.int .i64 X.q, .int .i64 X.t, .int .i64 X.k, .string X.s, .int .i64 X.a, .int .i64 X.b, .int .i64 X.c] 26) _ (by rw [S4.size]; exact z1)).trans ((S4.block _ (by omega)).trans HK.out.1)
          have E2 := (Below.heap_alloc _ (.cells #[.int .i64 X.q, .int .i64 X.t, .int .i64 X.k, .string X.s, .int .i64 X.a, .int .i64 X.b, .int .i64 X.c] 26) _ (by rw [S4.size]; exact z2)).trans ((S4.block _ (by omega)).trans HK.out.2.1)
          have E3 := (Below.heap_alloc _ (.cells #[.int .i64 X.q, .int .i64 X.t, .int .i64 X.k, .string X.s, .int .i64 X.a, .int .i64 X.b, .int .i64 X.c] 26) g8 (by rw [S4.size]; exact z3)).trans (all3 (a' := .int .i64 DQ) (b' := .int .i64 DT) (c' := .slice A5 n5 c5) HK.out.2.2.1)
          have E4 := (Below.heap_alloc _ (.cells #[.int .i64 X.q, .int .i64 X.t, .int .i64 X.k, .string X.s, .int .i64 X.a, .int .i64 X.b, .int .i64 X.c] 26) _ (by rw [S4.size]; exact z4)).trans ((S4.block _ (by omega)).trans HK.out.2.2.2)
          have E5 := heap_alloc_new ((((w6).setCell ⟨g8, 0, none⟩ (.int .i64 DQ)).setCell ⟨g8, 1, none⟩ (.int .i64 DT)).setCell ⟨g8, 2, none⟩ (.slice A5 n5 c5)) (.cells #[.int .i64 X.q, .int .i64 X.t, .int .i64 X.k, .string X.s, .int .i64 X.a, .int .i64 X.b, .int .i64 X.c] 26)
          have hbw7 := (S4.below hbw6 (by omega)).alloc (by rw [S4.size]; omega) (.cells #[.int .i64 X.q, .int .i64 X.t, .int .i64 X.k, .string X.s, .int .i64 X.a, .int .i64 X.b, .int .i64 X.c] 26)
          rw [S4.size, hgp] at E5
          have lgp : w.heap.size + 2 ≤ gp := by omega
          have HR6 := hid ((HR5.out.sto HK.out.2.2.1 S4).below hal)
          have hgpg : g11 < gp := by rw [← hgp]; exact z4
          rw [← hWw7] at E1 E2 E3 E4 E5 hbw7 HR6
          have K1 := E1
          have K2 := E2
          have K3 := E3
          have K4 := E4
          have K5 := E5
          clear E1 E2 E3 E4 E5 S4 hal HK HR5 hWw7 hbw6 hgp z1 u10 u11 u12 f10 f11 f12 z2 u20 u21 u22 u23 u24 u25 u26 z3 u30 u31 u32 f30 f31 f32 z4 u40 u41 u42 f40 f41 f42
          have z1 := blk_lt K1
          obtain ⟨u10, u11, u12, f10, f11, f12⟩ := blk3 K1
          have z2 := blk_lt K2
          obtain ⟨u20, u21, u22, u23, u24, u25, u26⟩ := blk7 K2
          have z3 := blk_lt K3
          obtain ⟨u30, u31, u32, f30, f31, f32⟩ := blk3 K3
          have z4 := blk_lt K4
          obtain ⟨u40, u41, u42, f40, f41, f42⟩ := blk3 K4
          have z5 := blk_lt K5
          obtain ⟨u50, u51, u52, u53, u54, u55, u56⟩ := blk7 K5
          have HK := hid (And.intro K1 (And.intro K2 (And.intro K3 (And.intro K4 (K5)))))
          clear K1 K2 K3 K4 K5
          refine (PD2.out _ hbw7).mono ?_
          rintro e w8 ⟨⟨A6, n6, c6, rfl, hR6⟩, hb1⟩
          have HR7 := hid (HR6.out.below hb1)
          have HR8 := hid hR6
          have hbw8 : Below w.heap.size w w8 := hbw7.trans (hb1.mono hbw7.size)
          have K1 := (hb1.block _ z1).trans HK.out.1
          have K2 := (hb1.block _ z2).trans HK.out.2.1
          have K3 := (hb1.block _ z3).trans HK.out.2.2.1
          have K4 := (hb1.block _ z4).trans HK.out.2.2.2.1
          have K5 := (hb1.block _ z5).trans HK.out.2.2.2.2
          clear z1 u10 u11 u12 f10 f11 f12 z2 u20 u21 u22 u23 u24 u25 u26 z3 u30 u31 u32 f30 f31 f32 z4 u40 u41 u42 f40 f41 f42 z5 u50 u51 u52 u53 u54 u55 u56 HK
          have z1 := blk_lt K1
          obtain ⟨u10, u11, u12, f10, f11, f12⟩ := blk3 K1
          have z2 := blk_lt K2
          obtain ⟨u20, u21, u22, u23, u24, u25, u26⟩ := blk7 K2
          have z3 := blk_lt K3
          obtain ⟨u30, u31, u32, f30, f31, f32⟩ := blk3 K3
          have z4 := blk_lt K4
          obtain ⟨u40, u41, u42, f40, f41, f42⟩ := blk3 K4
          have z5 := blk_lt K5
          obtain ⟨u50, u51, u52, u53, u54, u55, u56⟩ := blk7 K5
          have HK := hid (And.intro K1 (And.intro K2 (And.intro K3 (And.intro K4 (K5)))))
          clear K1 K2 K3 K4 K5
          clear hb1 hR6 HR6 hbw7 PD2
          have hEq := eq_event X.q X.t X.k X.a X.b X.c X.s
          have hne1 : ¬ gp = g11 := by omega
          have hne2 : ¬ g11 = gp := by omega
          have hne3 : ¬ g8 = g11 := by omega
          have hne4 : ¬ g11 = g8 := by omega
          go_wp2_with fail
          obtain ⟨w9, hWw9⟩ : ∃ w9, w9 = ((((w8).setCell ⟨g11, 0, none⟩ (.int .i64 DQ)).setCell ⟨g11, 1, none⟩ (.int .i64 DT)).setCell ⟨g11, 2, none⟩ (.slice A6 n6 c6)).alloc (.cells #[.int .i64 X.q, .int .i64 X.t, .int .i64 X.k, .string X.s, .int .i64 X.a, .int .i64 X.b, .int .i64 X.c] 26) := ⟨_, rfl⟩
          rw [← hWw9]
          obtain ⟨gq, hgq⟩ : ∃ g, w8.heap.size = g := ⟨_, rfl⟩
          rw [hgq]
          have S4 := sto3 w8 g11 (.int .i64 DQ) (.int .i64 DT) (.slice A6 n6 c6)
          have hal : Below ((((w8).setCell ⟨g11, 0, none⟩ (.int .i64 DQ)).setCell ⟨g11, 1, none⟩ (.int .i64 DT)).setCell ⟨g11, 2, none⟩ (.slice A6 n6 c6)).heap.size ((((w8).setCell ⟨g11, 0, none⟩ (.int .i64 DQ)).setCell ⟨g11, 1, none⟩ (.int .i64 DT)).setCell ⟨g11, 2, none⟩ (.slice A6 n6 c6)) (((((w8).setCell ⟨g11, 0, none⟩ (.int .i64 DQ)).setCell ⟨g11, 1, none⟩ (.int .i64 DT)).setCell ⟨g11, 2, none⟩ (.slice A6 n6 c6)).alloc (.cells #[.int .i64 X.q, .int .i64 X.t, .int .i64 X.k, .string X.s, .int .i64 X.a, .int .i64 X.b, .int .i64 X.c] 26)) := (Below.refl _ _).alloc (Nat.le_refl _) _
          have E1 := (Below.heap_alloc _ (.cells #[.int .i64 X.q, .int .i64 X.t, .int .i64 X.k, .string X.s, .int .i64 X.a, .int .i64 X.b, .int .i64 X.c] 26) _ (by rw [S4.size]; exact z1)).trans ((S4.block _ (by omega)).trans HK.out.1)
          have E2 := (Below.heap_alloc _ (.cells #[.int .i64 X.q, .int .i64 X.t, .int .i64 X.k, .string X.s, .int .i64 X.a, .int .i64 X.b, .int .i64 X.c] 26) _ (by rw [S4.size]; exact z2)).trans ((S4.block _ (by omega)).trans HK.out.2.1)
          have E3 := (Below.heap_alloc _ (.cells #[.int .i64 X.q, .int .i64 X.t, .int .i64 X.k, .string X.s, .int .i64 X.a, .int .i64 X.b, .int .i64 X.c] 26) _ (by rw [S4.size]; exact z3)).trans ((S4.block _ (by omega)).trans HK.out.2.2.1)
          have E4 := (Below.heap_alloc _ (.cells #[.int .i64 X.q, .int .i64 X.t, .int .i64 X.k, .string X.s, .int .i64 X.a, .int .i64 X.b, .int .i64 X.c] 26) g11 (by rw [S4.size]; exact z4)).trans (all3 (a' := .int .i64 DQ) (b' := .int .i64 DT) (c' := .slice A6 n6 c6) HK.out.2.2.2.1)
          have E5 := (Below.heap_alloc _ (.cells #[.int .i64 X.q, .int .i64 X.t, .int .i64 X.k, .string X.s, .int .i64 X.a, .int .i64 X.b, .int .i64 X.c] 26) _ (by rw [S4.size]; exact z5)).trans ((S4.block _ (by omega)).trans HK.out.2.2.2.2)
          have E6 := heap_alloc_new ((((w8).setCell ⟨g11, 0, none⟩ (.int .i64 DQ)).setCell ⟨g11, 1, none⟩ (.int .i64 DT)).setCell ⟨g11, 2, none⟩ (.slice A6 n6 c6)) (.cells #[.int .i64 X.q, .int .i64 X.t, .int .i64 X.k, .string X.s, .int .i64 X.a, .int .i64 X.b, .int .i64 X.c] 26)
          have hbw9 := (S4.below hbw8 (by omega)).alloc (by rw [S4.size]; omega) (.cells #[.int .i64 X.q, .int .i64 X.t, .int .i64 X.k, .string X.s, .int .i64 X.a, .int .i64 X.b, .int .i64 X.c] 26)
          rw [S4.size, hgq] at E6
          have lgq : w.heap.size + 2 ≤ gq := by omega
          have HR9 := hid ((HR7.out.sto HK.out.2.2.2.1 S4).below hal)
          have HR10 := hid ((HR8.out.sto HK.out.2.2.2.1 S4).below hal)
          rw [← hWw9] at E1 E2 E3 E4 E5 E6 hbw9 HR9 HR10
          clear E1 E2 E3 E4 E5 E6 S4 hal HK HR7 HR8 hWw9 hbw8 hgq z1 u10 u11 u12 f10 f11 f12 z2 u20 u21 u22 u23 u24 u25 u26 z3 u30 u31 u32 f30 f31 f32 z4 u40 u41 u42 f40 f41 f42 z5 u50 u51 u52 u53 u54 u55 u56
          have PSA := hid (RSame7 (q0 := DQ) (t0 := DT) (q1 := DQ) (t1 := DT) (c := c5) (c' := c6) HR9.out HR10.out (show n5 ≤ 1000000 by have := HR9.out.len; have := HLD.out; have := hss.out; omega))
          rw [show decide (DQ = DQ ∧ DT = DT ∧ DL = DL) = true by simp] at PSA
          refine PSA.out.mono ?_
          rintro e w10 ⟨rfl, hb1⟩
          go_wp2_with fail
          go_ret
          exact ⟨rfl, hbw9.trans (hb1.mono hbw9.size)⟩
end Go.Proofs.Ytejkgolcehbhdaa
