/- The walk of WireRight. -/
import Derived.Test.YtacdkifoiaacdaaWireN
import Derived.Test.YtacdkifoiaacdaaEnv
import Derived.Deep.DeepCutAuto
import Derived.IntWalk
namespace Go.Proofs.Ytacdkifoiaacdaa
open Go.ChangeShapes Go.WideShapes Go.ChangeAt Go.RowKit Fb

set_option maxRecDepth 100000 in
set_option maxHeartbeats 4000000 in
theorem right_long {Ab Ac : Option Addr} {cb cc N : Nat} {zb zc : List Int} {s : ByteArray} {k p er take most : Int} {w : World} (h : 2000 < zb.length ∨ 2000 < s.size ∨ 2000 < zc.length) :
    Calls Try.prog 3 #[.slice Ab zb.length cb, .int .u64 N, .int .i64 k, .string s, .agg #[.slice Ac zc.length cc, .int .i64 p, .int .i64 er], .int .i64 take, .int .i64 most] w fun e w' => e = .returned (.bool true) ∧ Below w.heap.size w w' := by
  by_cases h1 : 2000 < zb.length
  · clear h
    go_enter Try.func3, Try.ntmps3
    go_wp2_with fail
    refine (awake_any _).mono ?_
    rintro e w1 ⟨rfl, hbel⟩
    have k0 := (hbel.block w.heap.size (by simp)).trans (heap_alloc_new w _)
    obtain ⟨c0, c1, c2, f0, f1, f2⟩ := blk3 k0
    go_wp2_with fail
    go_ret
    exact ⟨rfl, ((Below.refl _ _).alloc (Nat.le_refl _) _).trans (hbel.mono (by simp))⟩
  · by_cases h2 : 2000 < s.size
    · clear h
      go_enter Try.func3, Try.ntmps3
      go_wp2_with fail
      refine (awake_any _).mono ?_
      rintro e w1 ⟨rfl, hbel⟩
      have k0 := (hbel.block w.heap.size (by simp)).trans (heap_alloc_new w _)
      obtain ⟨c0, c1, c2, f0, f1, f2⟩ := blk3 k0
      go_wp2_with fail
      go_ret
      exact ⟨rfl, ((Below.refl _ _).alloc (Nat.le_refl _) _).trans (hbel.mono (by simp))⟩
    · have h3 : 2000 < zc.length := by omega
      clear h
      go_enter Try.func3, Try.ntmps3
      go_wp2_with fail
      refine (awake_any _).mono ?_
      rintro e w1 ⟨rfl, hbel⟩
      have k0 := (hbel.block w.heap.size (by simp)).trans (heap_alloc_new w _)
      obtain ⟨c0, c1, c2, f0, f1, f2⟩ := blk3 k0
      go_wp2_with fail
      go_ret
      exact ⟨rfl, ((Below.refl _ _).alloc (Nat.le_refl _) _).trans (hbel.mono (by simp))⟩

set_option maxRecDepth 100000 in
set_option maxHeartbeats 8000000 in
theorem right_walk (Ab Ac : Option Addr) (cb cc N : Nat) (zb zc : List Int) (s : ByteArray) (k p er take most : Int) (w : World) (hp0 : -9223372036854775808 ≤ p ∧ p ≤ 9223372036854775807) (hN0 : N < 18446744073709551616) (hk0 : -9223372036854775808 ≤ k ∧ k ≤ 9223372036854775807) (htk0 : take ≤ 9223372036854775807) (hmo0 : most ≤ 9223372036854775807)
    (hSb : Sl w w.heap.size Ab zb.length (by8 zb)) (hnb : Ab = none → cb = 0) (hSc : Sl w w.heap.size Ac zc.length (by8 zc)) (hzc : Bytes zc) (hnc : Ac = none → cc = 0) (hcc : zc.length ≤ cc) (hcm : cc ≤ maxLen) :
    Calls Try.prog 3 #[.slice Ab zb.length cb, .int .u64 N, .int .i64 k, .string s, .agg #[.slice Ac zc.length cc, .int .i64 p, .int .i64 er], .int .i64 take, .int .i64 most] w fun e w' => e = .returned (.bool true) ∧ Below w.heap.size w w' := by
  by_cases hlong : 2000 < zb.length ∨ 2000 < s.size ∨ 2000 < zc.length
  · exact right_long hlong
  · have hb20 : zb.length ≤ 2000 := by omega
    have hs20 : s.size ≤ 2000 := by omega
    have hc20 : zc.length ≤ 2000 := by omega
    have PU := hid (fun (w' : World) (h : Below w.heap.size w w') => PutUint_any (c := cb) (m := N) ((hSb.below h).up h.size) hnb (by omega) hN0)
    have RPU := hid (fun (w' : World) (h : Below w.heap.size w w') => RPutUint_any (c := cb) (m := N) ((hSb.below h).up h.size) hnb (by omega) hN0)
    have PI := hid (fun (w' : World) (h : Below w.heap.size w w') => PutInt_any (c := cb) (k := k) ((hSb.below h).up h.size) hnb (by omega) hk0.1 hk0.2)
    have RPI := hid (fun (w' : World) (h : Below w.heap.size w w') => RPutInt_any (c := cb) (k := k) ((hSb.below h).up h.size) hnb (by omega) hk0.1 hk0.2)
    have PT := hid (fun (w' : World) (h : Below w.heap.size w w') => PutText_any (c := cb) ((hSb.below h).up h.size) hnb (by omega) s (by omega))
    have RPT := hid (fun (w' : World) (h : Below w.heap.size w w') => RPutText_any (c := cb) ((hSb.below h).up h.size) hnb (by omega) s (by omega))
    generalize zb ++ leb N = Z1 at *
    generalize zb ++ leb (zig k) = Z2 at *
    generalize zb ++ (leb s.size ++ sI s) = Z3 at *
    obtain ⟨L1, hL1⟩ : ∃ L, Z1.length = L := ⟨_, rfl⟩
    obtain ⟨L2, hL2⟩ : ∃ L, Z2.length = L := ⟨_, rfl⟩
    obtain ⟨L3, hL3⟩ : ∃ L, Z3.length = L := ⟨_, rfl⟩
    have HL1 := hid hL1
    have HL2 := hid hL2
    have HL3 := hid hL3
    obtain ⟨p1, e1, v, hu⟩ : ∃ p1 e1 v, uintS zc p er = (p1, e1, v) := ⟨_, _, _, rfl⟩
    obtain ⟨p2, e2, bs, ht⟩ : ∃ p2 e2 bs, takeS zc p er take = (p2, e2, bs) := ⟨_, _, _, rfl⟩
    obtain ⟨p3, e3, ts, hx⟩ : ∃ p3 e3 ts, textS zc p er most = (p3, e3, ts) := ⟨_, _, _, rfl⟩
    have UI := hid (fun (w' : World) (h : Below w.heap.size w w') => Uint_any (c := cc) hu ((hSc.below h).up h.size) hzc (by omega) hcc hcm)
    have RUI := hid (fun (w' : World) (h : Below w.heap.size w w') => RUint_any (c := cc) hu ((hSc.below h).up h.size) hzc (by omega) hcc hcm)
    have II := hid (fun (w' : World) (h : Below w.heap.size w w') => Int_any (c := cc) hu ((hSc.below h).up h.size) hzc (by omega) hcc hcm)
    have RII := hid (fun (w' : World) (h : Below w.heap.size w w') => RInt_any (c := cc) hu ((hSc.below h).up h.size) hzc (by omega) hcc hcm)
    have TK := hid (fun (w' : World) (h : Below w.heap.size w w') => Take_any (c := cc) ht ((hSc.below h).up h.size) hnc (by omega) hcc hcm htk0)
    have RTK := hid (fun (w' : World) (h : Below w.heap.size w w') => RTake_any (c := cc) ht ((hSc.below h).up h.size) hnc (by omega) hcc hcm htk0)
    have TX := hid (fun (w' : World) (h : Below w.heap.size w w') => Text_any (c := cc) hx ((hSc.below h).up h.size) hzc hnc (by omega) hcc hcm hmo0)
    have RTX := hid (fun (w' : World) (h : Below w.heap.size w w') => RText_any (c := cc) hx ((hSc.below h).up h.size) hzc hnc (by omega) hcc hcm hmo0)
    generalize zag v = zg at *
    generalize strOfNums ts = sx at *
    have SB := hid hSb
    have SC := hid hSc
    have HP : Hid (-9223372036854775808 ≤ p ∧ p ≤ 9223372036854775807) := hid hp0
    clear hL1 hL2 hL3 hu ht hx hSb hnb hSc hzc hnc hcm hN0 hk0 htk0 hmo0 hp0 hlong
    go_enter Try.func3, Try.ntmps3
    go_wp2_with fail
    refine (awake_any _).mono ?_
    rintro e w1 ⟨rfl, hbel⟩
    have K0 := (hbel.block w.heap.size (by simp)).trans (heap_alloc_new w _)
    have hB1 : Below w.heap.size w w1 := ((Below.refl _ _).alloc (Nat.le_refl _) _).trans (hbel.mono (by simp))
    have hz0 : w.heap.size < w1.heap.size := by have := hbel.size; simp at this; omega
    clear hbel
    obtain ⟨c0, c1, c2, f0, f1, f2⟩ := blk3 K0
    go_upto_region 5 with fail
    go_cut [72] (fun s72 wx => s72 = .bool false ∧ Below w.heap.size w wx ∧ wx.heap[w.heap.size]? = some (.cells #[.slice Ac zc.length cc, .int .i64 p, .int .i64 er] 26 (0, 0)) ∧ w.heap.size < wx.heap.size)
    case first =>
      refine wp_region_env (A := fun vs => { tmps := #[Value.slice Ab zb.length cb, Value.int IntKind.u64 ↑N, Value.int IntKind.i64 k, Value.string s, Value.agg #[Value.slice Ac zc.length cc, Value.int IntKind.i64 p, Value.int IntKind.i64 er], Value.int IntKind.i64 take, Value.int IntKind.i64 most, undef, undef, undef, undef, Value.pointer (some { block := w.heap.size, off := 0 }), undef, undef, Value.bool false, undef, undef, undef, undef, undef, undef, undef, undef, undef, undef, undef, Value.bool true, Value.bool false, Value.slice Ab zb.length cb, Value.int IntKind.i64 ↑zb.length, Value.bool (decide ((2000 : Int) < ↑zb.length)), Value.bool (decide ((2000 : Int) < ↑zb.length)), Value.string s, Value.int IntKind.i64 ↑s.size, Value.bool (decide ((2000 : Int) < ↑s.size)), Value.bool (decide ((2000 : Int) < ↑zb.length) || decide ((2000 : Int) < ↑s.size)), Value.bool (decide ((2000 : Int) < ↑zb.length) || decide ((2000 : Int) < ↑s.size)), Value.pointer (some { block := w.heap.size, off := 0 }), Value.slice Ac zc.length cc, Value.int IntKind.i64 ↑zc.length, Value.bool (decide ((2000 : Int) < ↑zc.length)), Value.bool (decide ((2000 : Int) < ↑zb.length) || decide ((2000 : Int) < ↑s.size) || decide ((2000 : Int) < ↑zc.length)), vs 0, vs 1, vs 2, vs 3, vs 4, vs 5, vs 6, vs 7, vs 8, vs 9, vs 10, vs 11, vs 12, vs 13, vs 14, vs 15, vs 16, vs 17, vs 18, vs 19, vs 20, vs 21, vs 22, vs 23, vs 24, vs 25, vs 26, vs 27, vs 28, vs 29, vs 30, undef, undef, undef, undef, undef, undef, undef, undef, undef, undef, undef, undef, undef, undef, undef, undef, undef, undef, undef, undef, undef, undef, undef, undef, undef, undef, undef, undef, undef, undef, undef, undef, undef, undef, undef, undef, undef, undef, undef, undef, undef, undef, undef, undef, undef, undef, undef, undef, undef, undef, undef, undef, undef, undef, undef, undef, undef, undef, undef, undef, undef, undef, undef, undef, undef, undef, undef, undef, undef, undef, undef, undef, undef, undef, undef, undef, undef, undef, undef, undef, undef, undef, undef, undef, undef, undef, undef, undef, undef, undef, undef, undef, undef, undef, undef, undef, undef, undef, undef, undef, undef], defers := [] }) (E := fun i yv wq => match i with | 0 => yv = .slice Ab zb.length cb | 1 => yv = .int .u64 ↑N | 2 => ∃ A3 c3, yv = .slice A3 L1 c3 ∧ Sl wq wq.heap.size A3 L1 (by8 Z1) | 3 => yv = .string (strOfNums Z1) | 4 => yv = .slice Ab zb.length cb | 5 => yv = .int .u64 ↑N | 6 => ∃ A3 c3, yv = .slice A3 L1 c3 ∧ Sl wq wq.heap.size A3 L1 (by8 Z1) | 7 => yv = .string (strOfNums Z1) | 8 => yv = .bool false | 9 => yv = .bool false | 10 => yv = .slice Ab zb.length cb | 11 => yv = .int .i64 k | 12 => ∃ A3 c3, yv = .slice A3 L2 c3 ∧ Sl wq wq.heap.size A3 L2 (by8 Z2) | 13 => yv = .string (strOfNums Z2) | 14 => yv = .slice Ab zb.length cb | 15 => yv = .int .i64 k | 16 => ∃ A3 c3, yv = .slice A3 L2 c3 ∧ Sl wq wq.heap.size A3 L2 (by8 Z2) | 17 => yv = .string (strOfNums Z2) | 18 => yv = .bool false | 19 => yv = .bool false | 20 => yv = .bool false | 21 => yv = .slice Ab zb.length cb | 22 => yv = .string s | 23 => ∃ A3 c3, yv = .slice A3 L3 c3 ∧ Sl wq wq.heap.size A3 L3 (by8 Z3) | 24 => yv = .string (strOfNums Z3) | 25 => yv = .slice Ab zb.length cb | 26 => yv = .string s | 27 => ∃ A3 c3, yv = .slice A3 L3 c3 ∧ Sl wq wq.heap.size A3 L3 (by8 Z3) | 28 => yv = .string (strOfNums Z3) | 29 => yv = .bool false | 30 => yv = .bool false | _ => True) (C := fun wq => Below w1.heap.size w1 wq) (Ext := fun a b => Below a.heap.size a b) (fun _ => undef) (by kernel_rfl) (by rfl) ?hC ?hstep ?hstab (low_of (by kernel_rfl)) ?hend
      case hC => exact Below.drew (Below.refl _ _)
      case hstab =>
        intro i yv wa wb hx h
        match i, h with
        | 0, h => exact h
        | 1, h => exact h
        | 2, h => exact (by obtain ⟨A3, c3, h1, h2⟩ := h; exact ⟨A3, c3, h1, (h2.below hx).up hx.size⟩)
        | 3, h => exact h
        | 4, h => exact h
        | 5, h => exact h
        | 6, h => exact (by obtain ⟨A3, c3, h1, h2⟩ := h; exact ⟨A3, c3, h1, (h2.below hx).up hx.size⟩)
        | 7, h => exact h
        | 8, h => exact h
        | 9, h => exact h
        | 10, h => exact h
        | 11, h => exact h
        | 12, h => exact (by obtain ⟨A3, c3, h1, h2⟩ := h; exact ⟨A3, c3, h1, (h2.below hx).up hx.size⟩)
        | 13, h => exact h
        | 14, h => exact h
        | 15, h => exact h
        | 16, h => exact (by obtain ⟨A3, c3, h1, h2⟩ := h; exact ⟨A3, c3, h1, (h2.below hx).up hx.size⟩)
        | 17, h => exact h
        | 18, h => exact h
        | 19, h => exact h
        | 20, h => exact h
        | 21, h => exact h
        | 22, h => exact h
        | 23, h => exact (by obtain ⟨A3, c3, h1, h2⟩ := h; exact ⟨A3, c3, h1, (h2.below hx).up hx.size⟩)
        | 24, h => exact h
        | 25, h => exact h
        | 26, h => exact h
        | 27, h => exact (by obtain ⟨A3, c3, h1, h2⟩ := h; exact ⟨A3, c3, h1, (h2.below hx).up hx.size⟩)
        | 28, h => exact h
        | 29, h => exact h
        | 30, h => exact h
        | (_ + 31), _ => trivial
      case hstep =>
        intro i o ho
        match i, ho with
        | 0, ho =>
          obtain rfl := Option.some.inj (show some _ = some o from ho)
          intro vs wq hC hE K hK
          go_simp
          have hh := hK.out (.slice Ab zb.length cb) wq rfl (Below.refl _ _) hC
          simp only [upd, Nat.reduceEqDiff, ↓reduceIte] at hh
          exact hh
        | 1, ho =>
          obtain rfl := Option.some.inj (show some _ = some o from ho)
          intro vs wq hC hE K hK
          go_simp
          have hh := hK.out (.int .u64 ↑N) wq rfl (Below.refl _ _) hC
          simp only [upd, Nat.reduceEqDiff, ↓reduceIte] at hh
          exact hh
        | 2, ho =>
          obtain rfl := Option.some.inj (show some _ = some o from ho)
          intro vs wq hC hE K hK
          have d0 : vs 0 = .slice Ab zb.length cb := hE { on := 0, ground := Ground.data } (by simp) rfl
          have d1 : vs 1 = .int .u64 ↑N := hE { on := 1, ground := Ground.data } (by simp) rfl
          go_simp
          go_at_call 7
          refine (PU.out _ (hB1.trans (hC.mono hB1.size))).mono ?_
          rintro e w3 ⟨⟨v', rfl, hown⟩, hb3⟩
          rw [HL1.out] at hown
          obtain ⟨A3, c3, rfl, -, -, -, hSl, -⟩ := own_reads hown (Nat.le_refl _)
          have hh := hK.out (.slice A3 L1 c3) w3 ⟨A3, c3, rfl, hSl⟩ hb3 (hC.trans (hb3.mono hC.size))
          simp only [upd, Nat.reduceEqDiff, ↓reduceIte, d0, d1] at hh
          exact hh
        | 3, ho =>
          obtain rfl := Option.some.inj (show some _ = some o from ho)
          intro vs wq hC hE K hK
          obtain ⟨A3, c3, d2, hS3⟩ : ∃ A3 c3, vs 2 = .slice A3 L1 c3 ∧ Sl wq wq.heap.size A3 L1 (by8 Z1) := hE { on := 2, ground := Ground.data } (by simp) rfl
          have cv := conv8 c3 hS3
          go_simp
          have hh := hK.out (.string (strOfNums Z1)) wq rfl (Below.refl _ _) hC
          simp only [upd, Nat.reduceEqDiff, ↓reduceIte, d2] at hh
          exact hh
        | 4, ho =>
          obtain rfl := Option.some.inj (show some _ = some o from ho)
          intro vs wq hC hE K hK
          go_simp
          have hh := hK.out (.slice Ab zb.length cb) wq rfl (Below.refl _ _) hC
          simp only [upd, Nat.reduceEqDiff, ↓reduceIte] at hh
          exact hh
        | 5, ho =>
          obtain rfl := Option.some.inj (show some _ = some o from ho)
          intro vs wq hC hE K hK
          go_simp
          have hh := hK.out (.int .u64 ↑N) wq rfl (Below.refl _ _) hC
          simp only [upd, Nat.reduceEqDiff, ↓reduceIte] at hh
          exact hh
        | 6, ho =>
          obtain rfl := Option.some.inj (show some _ = some o from ho)
          intro vs wq hC hE K hK
          have d4 : vs 4 = .slice Ab zb.length cb := hE { on := 4, ground := Ground.data } (by simp) rfl
          have d5 : vs 5 = .int .u64 ↑N := hE { on := 5, ground := Ground.data } (by simp) rfl
          go_simp
          go_at_call 8
          refine (RPU.out _ (hB1.trans (hC.mono hB1.size))).mono ?_
          rintro e w3 ⟨⟨v', rfl, hown⟩, hb3⟩
          rw [HL1.out] at hown
          obtain ⟨A3, c3, rfl, -, -, -, hSl, -⟩ := own_reads hown (Nat.le_refl _)
          have hh := hK.out (.slice A3 L1 c3) w3 ⟨A3, c3, rfl, hSl⟩ hb3 (hC.trans (hb3.mono hC.size))
          simp only [upd, Nat.reduceEqDiff, ↓reduceIte, d4, d5] at hh
          exact hh
        | 7, ho =>
          obtain rfl := Option.some.inj (show some _ = some o from ho)
          intro vs wq hC hE K hK
          obtain ⟨A3, c3, d6, hS3⟩ : ∃ A3 c3, vs 6 = .slice A3 L1 c3 ∧ Sl wq wq.heap.size A3 L1 (by8 Z1) := hE { on := 6, ground := Ground.data } (by simp) rfl
          have cv := conv8 c3 hS3
          go_simp
          have hh := hK.out (.string (strOfNums Z1)) wq rfl (Below.refl _ _) hC
          simp only [upd, Nat.reduceEqDiff, ↓reduceIte, d6] at hh
          exact hh
        | 8, ho =>
          obtain rfl := Option.some.inj (show some _ = some o from ho)
          intro vs wq hC hE K hK
          have d3 : vs 3 = .string (strOfNums Z1) := hE { on := 3, ground := Ground.data } (by simp) rfl
          have d7 : vs 7 = .string (strOfNums Z1) := hE { on := 7, ground := Ground.data } (by simp) rfl
          go_simp
          have hh := hK.out (.bool false) wq rfl (Below.refl _ _) hC
          simp only [upd, Nat.reduceEqDiff, ↓reduceIte, d3, d7] at hh
          exact hh
        | 9, ho =>
          obtain rfl := Option.some.inj (show some _ = some o from ho)
          intro vs wq hC hE K hK
          have d8 : vs 8 = .bool false := hE { on := 8, ground := Ground.data } (by simp) rfl
          go_simp
          have hh := hK.out (.bool false) wq rfl (Below.refl _ _) hC
          simp only [upd, Nat.reduceEqDiff, ↓reduceIte, d8] at hh
          exact hh
        | 10, ho =>
          obtain rfl := Option.some.inj (show some _ = some o from ho)
          intro vs wq hC hE K hK
          have d9 : vs 9 = .bool false := hE { on := 9, ground := Ground.guard } (by simp) rfl
          go_simp
          have hh := hK.out (.slice Ab zb.length cb) wq rfl (Below.refl _ _) hC
          simp only [upd, Nat.reduceEqDiff, ↓reduceIte, d9] at hh
          exact hh
        | 11, ho =>
          obtain rfl := Option.some.inj (show some _ = some o from ho)
          intro vs wq hC hE K hK
          have d9 : vs 9 = .bool false := hE { on := 9, ground := Ground.guard } (by simp) rfl
          go_simp
          have hh := hK.out (.int .i64 k) wq rfl (Below.refl _ _) hC
          simp only [upd, Nat.reduceEqDiff, ↓reduceIte, d9] at hh
          exact hh
        | 12, ho =>
          obtain rfl := Option.some.inj (show some _ = some o from ho)
          intro vs wq hC hE K hK
          have d10 : vs 10 = .slice Ab zb.length cb := hE { on := 10, ground := Ground.data } (by simp) rfl
          have d11 : vs 11 = .int .i64 k := hE { on := 11, ground := Ground.data } (by simp) rfl
          have d9 : vs 9 = .bool false := hE { on := 9, ground := Ground.guard } (by simp) rfl
          go_simp
          go_at_call 9
          refine (PI.out _ (hB1.trans (hC.mono hB1.size))).mono ?_
          rintro e w3 ⟨⟨v', rfl, hown⟩, hb3⟩
          rw [HL2.out] at hown
          obtain ⟨A3, c3, rfl, -, -, -, hSl, -⟩ := own_reads hown (Nat.le_refl _)
          have hh := hK.out (.slice A3 L2 c3) w3 ⟨A3, c3, rfl, hSl⟩ hb3 (hC.trans (hb3.mono hC.size))
          simp only [upd, Nat.reduceEqDiff, ↓reduceIte, d9, d10, d11] at hh
          exact hh
        | 13, ho =>
          obtain rfl := Option.some.inj (show some _ = some o from ho)
          intro vs wq hC hE K hK
          obtain ⟨A3, c3, d12, hS3⟩ : ∃ A3 c3, vs 12 = .slice A3 L2 c3 ∧ Sl wq wq.heap.size A3 L2 (by8 Z2) := hE { on := 12, ground := Ground.data } (by simp) rfl
          have d9 : vs 9 = .bool false := hE { on := 9, ground := Ground.guard } (by simp) rfl
          have cv := conv8 c3 hS3
          go_simp
          have hh := hK.out (.string (strOfNums Z2)) wq rfl (Below.refl _ _) hC
          simp only [upd, Nat.reduceEqDiff, ↓reduceIte, d9, d12] at hh
          exact hh
        | 14, ho =>
          obtain rfl := Option.some.inj (show some _ = some o from ho)
          intro vs wq hC hE K hK
          have d9 : vs 9 = .bool false := hE { on := 9, ground := Ground.guard } (by simp) rfl
          go_simp
          have hh := hK.out (.slice Ab zb.length cb) wq rfl (Below.refl _ _) hC
          simp only [upd, Nat.reduceEqDiff, ↓reduceIte, d9] at hh
          exact hh
        | 15, ho =>
          obtain rfl := Option.some.inj (show some _ = some o from ho)
          intro vs wq hC hE K hK
          have d9 : vs 9 = .bool false := hE { on := 9, ground := Ground.guard } (by simp) rfl
          go_simp
          have hh := hK.out (.int .i64 k) wq rfl (Below.refl _ _) hC
          simp only [upd, Nat.reduceEqDiff, ↓reduceIte, d9] at hh
          exact hh
        | 16, ho =>
          obtain rfl := Option.some.inj (show some _ = some o from ho)
          intro vs wq hC hE K hK
          have d14 : vs 14 = .slice Ab zb.length cb := hE { on := 14, ground := Ground.data } (by simp) rfl
          have d15 : vs 15 = .int .i64 k := hE { on := 15, ground := Ground.data } (by simp) rfl
          have d9 : vs 9 = .bool false := hE { on := 9, ground := Ground.guard } (by simp) rfl
          go_simp
          go_at_call 10
          refine (RPI.out _ (hB1.trans (hC.mono hB1.size))).mono ?_
          rintro e w3 ⟨⟨v', rfl, hown⟩, hb3⟩
          rw [HL2.out] at hown
          obtain ⟨A3, c3, rfl, -, -, -, hSl, -⟩ := own_reads hown (Nat.le_refl _)
          have hh := hK.out (.slice A3 L2 c3) w3 ⟨A3, c3, rfl, hSl⟩ hb3 (hC.trans (hb3.mono hC.size))
          simp only [upd, Nat.reduceEqDiff, ↓reduceIte, d9, d14, d15] at hh
          exact hh
        | 17, ho =>
          obtain rfl := Option.some.inj (show some _ = some o from ho)
          intro vs wq hC hE K hK
          obtain ⟨A3, c3, d16, hS3⟩ : ∃ A3 c3, vs 16 = .slice A3 L2 c3 ∧ Sl wq wq.heap.size A3 L2 (by8 Z2) := hE { on := 16, ground := Ground.data } (by simp) rfl
          have d9 : vs 9 = .bool false := hE { on := 9, ground := Ground.guard } (by simp) rfl
          have cv := conv8 c3 hS3
          go_simp
          have hh := hK.out (.string (strOfNums Z2)) wq rfl (Below.refl _ _) hC
          simp only [upd, Nat.reduceEqDiff, ↓reduceIte, d9, d16] at hh
          exact hh
        | 18, ho =>
          obtain rfl := Option.some.inj (show some _ = some o from ho)
          intro vs wq hC hE K hK
          have d13 : vs 13 = .string (strOfNums Z2) := hE { on := 13, ground := Ground.data } (by simp) rfl
          have d17 : vs 17 = .string (strOfNums Z2) := hE { on := 17, ground := Ground.data } (by simp) rfl
          have d9 : vs 9 = .bool false := hE { on := 9, ground := Ground.guard } (by simp) rfl
          go_simp
          have hh := hK.out (.bool false) wq rfl (Below.refl _ _) hC
          simp only [upd, Nat.reduceEqDiff, ↓reduceIte, d9, d13, d17] at hh
          exact hh
        | 19, ho =>
          obtain rfl := Option.some.inj (show some _ = some o from ho)
          intro vs wq hC hE K hK
          have d9 : vs 9 = .bool false := hE { on := 9, ground := Ground.data } (by simp) rfl
          have d18 : vs 18 = .bool false := hE { on := 18, ground := Ground.data } (by simp) rfl
          go_simp
          have hh := hK.out (.bool false) wq rfl (Below.refl _ _) hC
          simp only [upd, Nat.reduceEqDiff, ↓reduceIte, d9, d18] at hh
          exact hh
        | 20, ho =>
          obtain rfl := Option.some.inj (show some _ = some o from ho)
          intro vs wq hC hE K hK
          have d19 : vs 19 = .bool false := hE { on := 19, ground := Ground.data } (by simp) rfl
          go_simp
          have hh := hK.out (.bool false) wq rfl (Below.refl _ _) hC
          simp only [upd, Nat.reduceEqDiff, ↓reduceIte, d19] at hh
          exact hh
        | 21, ho =>
          obtain rfl := Option.some.inj (show some _ = some o from ho)
          intro vs wq hC hE K hK
          have d20 : vs 20 = .bool false := hE { on := 20, ground := Ground.guard } (by simp) rfl
          go_simp
          have hh := hK.out (.slice Ab zb.length cb) wq rfl (Below.refl _ _) hC
          simp only [upd, Nat.reduceEqDiff, ↓reduceIte, d20] at hh
          exact hh
        | 22, ho =>
          obtain rfl := Option.some.inj (show some _ = some o from ho)
          intro vs wq hC hE K hK
          have d20 : vs 20 = .bool false := hE { on := 20, ground := Ground.guard } (by simp) rfl
          go_simp
          have hh := hK.out (.string s) wq rfl (Below.refl _ _) hC
          simp only [upd, Nat.reduceEqDiff, ↓reduceIte, d20] at hh
          exact hh
        | 23, ho =>
          obtain rfl := Option.some.inj (show some _ = some o from ho)
          intro vs wq hC hE K hK
          have d21 : vs 21 = .slice Ab zb.length cb := hE { on := 21, ground := Ground.data } (by simp) rfl
          have d22 : vs 22 = .string s := hE { on := 22, ground := Ground.data } (by simp) rfl
          have d20 : vs 20 = .bool false := hE { on := 20, ground := Ground.guard } (by simp) rfl
          go_simp
          go_at_call 11
          refine (PT.out _ (hB1.trans (hC.mono hB1.size))).mono ?_
          rintro e w3 ⟨⟨v', rfl, hown⟩, hb3⟩
          rw [HL3.out] at hown
          obtain ⟨A3, c3, rfl, -, -, -, hSl, -⟩ := own_reads hown (Nat.le_refl _)
          have hh := hK.out (.slice A3 L3 c3) w3 ⟨A3, c3, rfl, hSl⟩ hb3 (hC.trans (hb3.mono hC.size))
          simp only [upd, Nat.reduceEqDiff, ↓reduceIte, d20, d21, d22] at hh
          exact hh
        | 24, ho =>
          obtain rfl := Option.some.inj (show some _ = some o from ho)
          intro vs wq hC hE K hK
          obtain ⟨A3, c3, d23, hS3⟩ : ∃ A3 c3, vs 23 = .slice A3 L3 c3 ∧ Sl wq wq.heap.size A3 L3 (by8 Z3) := hE { on := 23, ground := Ground.data } (by simp) rfl
          have d20 : vs 20 = .bool false := hE { on := 20, ground := Ground.guard } (by simp) rfl
          have cv := conv8 c3 hS3
          go_simp
          have hh := hK.out (.string (strOfNums Z3)) wq rfl (Below.refl _ _) hC
          simp only [upd, Nat.reduceEqDiff, ↓reduceIte, d20, d23] at hh
          exact hh
        | 25, ho =>
          obtain rfl := Option.some.inj (show some _ = some o from ho)
          intro vs wq hC hE K hK
          have d20 : vs 20 = .bool false := hE { on := 20, ground := Ground.guard } (by simp) rfl
          go_simp
          have hh := hK.out (.slice Ab zb.length cb) wq rfl (Below.refl _ _) hC
          simp only [upd, Nat.reduceEqDiff, ↓reduceIte, d20] at hh
          exact hh
        | 26, ho =>
          obtain rfl := Option.some.inj (show some _ = some o from ho)
          intro vs wq hC hE K hK
          have d20 : vs 20 = .bool false := hE { on := 20, ground := Ground.guard } (by simp) rfl
          go_simp
          have hh := hK.out (.string s) wq rfl (Below.refl _ _) hC
          simp only [upd, Nat.reduceEqDiff, ↓reduceIte, d20] at hh
          exact hh
        | 27, ho =>
          obtain rfl := Option.some.inj (show some _ = some o from ho)
          intro vs wq hC hE K hK
          have d25 : vs 25 = .slice Ab zb.length cb := hE { on := 25, ground := Ground.data } (by simp) rfl
          have d26 : vs 26 = .string s := hE { on := 26, ground := Ground.data } (by simp) rfl
          have d20 : vs 20 = .bool false := hE { on := 20, ground := Ground.guard } (by simp) rfl
          go_simp
          go_at_call 12
          refine (RPT.out _ (hB1.trans (hC.mono hB1.size))).mono ?_
          rintro e w3 ⟨⟨v', rfl, hown⟩, hb3⟩
          rw [HL3.out] at hown
          obtain ⟨A3, c3, rfl, -, -, -, hSl, -⟩ := own_reads hown (Nat.le_refl _)
          have hh := hK.out (.slice A3 L3 c3) w3 ⟨A3, c3, rfl, hSl⟩ hb3 (hC.trans (hb3.mono hC.size))
          simp only [upd, Nat.reduceEqDiff, ↓reduceIte, d20, d25, d26] at hh
          exact hh
        | 28, ho =>
          obtain rfl := Option.some.inj (show some _ = some o from ho)
          intro vs wq hC hE K hK
          obtain ⟨A3, c3, d27, hS3⟩ : ∃ A3 c3, vs 27 = .slice A3 L3 c3 ∧ Sl wq wq.heap.size A3 L3 (by8 Z3) := hE { on := 27, ground := Ground.data } (by simp) rfl
          have d20 : vs 20 = .bool false := hE { on := 20, ground := Ground.guard } (by simp) rfl
          have cv := conv8 c3 hS3
          go_simp
          have hh := hK.out (.string (strOfNums Z3)) wq rfl (Below.refl _ _) hC
          simp only [upd, Nat.reduceEqDiff, ↓reduceIte, d20, d27] at hh
          exact hh
        | 29, ho =>
          obtain rfl := Option.some.inj (show some _ = some o from ho)
          intro vs wq hC hE K hK
          have d24 : vs 24 = .string (strOfNums Z3) := hE { on := 24, ground := Ground.data } (by simp) rfl
          have d28 : vs 28 = .string (strOfNums Z3) := hE { on := 28, ground := Ground.data } (by simp) rfl
          have d20 : vs 20 = .bool false := hE { on := 20, ground := Ground.guard } (by simp) rfl
          go_simp
          have hh := hK.out (.bool false) wq rfl (Below.refl _ _) hC
          simp only [upd, Nat.reduceEqDiff, ↓reduceIte, d20, d24, d28] at hh
          exact hh
        | 30, ho =>
          obtain rfl := Option.some.inj (show some _ = some o from ho)
          intro vs wq hC hE K hK
          have d20 : vs 20 = .bool false := hE { on := 20, ground := Ground.data } (by simp) rfl
          have d29 : vs 29 = .bool false := hE { on := 29, ground := Ground.data } (by simp) rfl
          go_simp
          have hh := hK.out (.bool false) wq rfl (Below.refl _ _) hC
          simp only [upd, Nat.reduceEqDiff, ↓reduceIte, d20, d29] at hh
          exact hh
        | (_ + 31), ho => exact absurd ho (by simp)
      case hend =>
        intro vs wq hC hE
        have r := hE 30 (by decide)
        simp only at r
        go_wp2_with fail
        go_meet
        exact ⟨r, hB1.trans (hC.mono hB1.size), (hC.block _ hz0).trans K0, Nat.lt_of_lt_of_le hz0 hC.size⟩
    case rest =>
      obtain ⟨rfl, hBx, K0x, hz0x⟩ := hcut
      obtain ⟨rb, lf, hrb⟩ : ∃ (rb : Bool) (lf : Int), (rb = true ∧ Rgt zc.length p er ∧ lf = (zc.length : Int) - p) ∨ (rb = false ∧ ¬ Rgt zc.length p er ∧ lf = 0) := by
        by_cases h : Rgt zc.length p er
        · exact ⟨true, _, .inl ⟨rfl, h, rfl⟩⟩
        · exact ⟨false, 0, .inr ⟨rfl, h, rfl⟩⟩
      have hRR : ∀ w' : World, Calls Try.prog 13 #[.agg #[.slice Ac zc.length cc, .int .i64 p, .int .i64 er]] w' fun e w'' => e = .returned (.bool rb) ∧ w'.alloc (.cells #[.slice Ac zc.length cc, .int .i64 p, .int .i64 er] 26) = w'' := fun w' => by
        rcases hrb with ⟨rfl, h, -⟩ | ⟨rfl, h, -⟩
        · exact Right_yes h _
        · exact Right_no h _
      have hLF : ∀ w' : World, Calls Try.prog 14 #[.agg #[.slice Ac zc.length cc, .int .i64 p, .int .i64 er]] w' fun e w'' => e = .returned (.int .i64 lf) ∧ Below w'.heap.size w' w'' := fun w' => by
        rcases hrb with ⟨-, h, rfl⟩ | ⟨-, h, rfl⟩
        · exact Left_yes h (by omega) _
        · exact Left_no h _
      have RR := hid hRR
      have LF := hid hLF
      have HRB := hid hrb
      clear hrb hRR hLF
      obtain ⟨c0, c1, c2, f0, f1, f2⟩ := blk3 K0x
      go_wp2_with fail
      with_reducible refine (RR.out _).mono ?_
      rintro e w' ⟨rfl, rfl⟩
      go_upto_if 74 with fail
      go_cut [15] (fun s15 wx => s15 = .int .i64 lf ∧ Below w.heap.size w wx ∧ wx.heap[w.heap.size]? = some (.cells #[.slice Ac zc.length cc, .int .i64 p, .int .i64 er] 26 (0, 0)) ∧ w.heap.size < wx.heap.size)
      case first =>
        have hp := HP.out
        rcases HRB.out with ⟨rfl, h, hl⟩ | ⟨rfl, h, hl⟩
        · have h1 := h.2.1
          have h2 := h.2.2
          have hl2 := hid hl
          clear hl h
          go_wp2_with fail
          go_meet
          exact ⟨by rw [hl2.out], hBx.alloc hBx.size _, (Below.heap_alloc _ _ _ hz0x).trans K0x, by simp; omega⟩
        · have hl2 := hid hl
          clear hl h
          go_wp2_with fail
          go_meet
          exact ⟨by rw [hl2.out], hBx.alloc hBx.size _, (Below.heap_alloc _ _ _ hz0x).trans K0x, by simp; omega⟩
      case rest =>
        obtain ⟨rfl, hB0, K00, hz00⟩ := hcut
        clear c0 c1 c2 f0 f1 f2 K0x
        obtain ⟨c0, c1, c2, f0, f1, f2⟩ := blk3 K00
        go_wp2_with fail
        with_reducible refine (LF.out _).mono ?_
        rintro e wl ⟨rfl, hbl⟩
        have hBl := hB0.trans (hbl.mono hB0.size)
        have K0l := (hbl.block w.heap.size hz00).trans K00
        have hz0l : w.heap.size < wl.heap.size := Nat.lt_of_lt_of_le hz00 hbl.size
        go_wp2_with fail
        with_reducible refine (Start_any _ _ _ _).mono ?_
        rintro e ws ⟨rfl, hbs⟩
        have hBs := hBl.trans (hbs.mono hBl.size)
        have K0s := (hbs.block w.heap.size hz0l).trans K0l
        have hz0s : w.heap.size < ws.heap.size := Nat.lt_of_lt_of_le hz0l hbs.size
        go_wp2_with fail
        with_reducible refine (Same_yes (SB.out.below hBs) (SB.out.below hBs) hBs.size hBs.size).mono ?_
        rintro e wm ⟨rfl, hbm⟩
        have hBm := hBs.trans (hbm.mono hBs.size)
        have K0m := (hbm.block w.heap.size hz0s).trans K0s
        have hz0m : w.heap.size < wm.heap.size := Nat.lt_of_lt_of_le hz0s hbm.size
        clear c0 c1 c2 f0 f1 f2 K00 K0l K0s hbl hbs hbm
        obtain ⟨c0, c1, c2, f0, f1, f2⟩ := blk3 K0m
        go_wp2_with fail
        with_reducible refine (UI.out _ hBm).mono ?_
        rintro e w2 ⟨rfl, hb2⟩
        have hB2 := hBm.trans (hb2.mono hBm.size)
        have K02 := (hb2.block w.heap.size hz0m).trans K0m
        have hz02 : w.heap.size < w2.heap.size := Nat.lt_of_lt_of_le hz0m hb2.size
        have hBV2 := hB2.alloc hB2.size (.cells #[.slice Ac zc.length cc, .int .i64 p1, .int .i64 e1] 26)
        clear c0 c1 c2 f0 f1 f2 K0m hb2
        obtain ⟨c0, c1, c2, f0, f1, f2⟩ := blk3 K02
        go_wp2_with fail
        with_reducible refine (RUI.out _ hBV2).mono ?_
        rintro e w3 ⟨rfl, hb3⟩
        have hB3 := hBV2.trans (hb3.mono hBV2.size)
        have K03 := (hb3.block w.heap.size (by simp; omega)).trans ((Below.heap_alloc w2 _ _ hz02).trans K02)
        have K163 := (hb3.block w2.heap.size (by simp)).trans (heap_alloc_new w2 _)
        have hz23 : w2.heap.size < w3.heap.size := by have := hb3.size; simp at this; omega
        have hz03 : w.heap.size < w3.heap.size := by omega
        have n1 : ¬ w.heap.size = w2.heap.size := by omega
        have n2 : ¬ w2.heap.size = w.heap.size := by omega
        have n3 : ¬ w.heap.size = w3.heap.size := by omega
        have n4 : ¬ w3.heap.size = w.heap.size := by omega
        have n5 : ¬ w2.heap.size = w3.heap.size := by omega
        have n6 : ¬ w3.heap.size = w2.heap.size := by omega
        have hBV3 := hB3.alloc hB3.size (.cells #[.slice Ac zc.length cc, .int .i64 p1, .int .i64 e1] 26)
        clear c0 c1 c2 f0 f1 f2 K02 hb3
        obtain ⟨c0, c1, c2, f0, f1, f2⟩ := blk3 K03
        obtain ⟨d0, d1, d2, g0, g1, g2⟩ := blk3 K163
        go_wp2_with fail
        with_reducible refine (Same_yes (SC.out.below hBV3) (SC.out.below hBV3) hBV3.size hBV3.size).mono ?_
        rintro e w4 ⟨rfl, hb4⟩
        have hB4 := hBV3.trans (hb4.mono hBV3.size)
        have K04 := (hb4.block w.heap.size (by simp; omega)).trans ((Below.heap_alloc w3 _ _ hz03).trans K03)
        have K164 := (hb4.block w2.heap.size (by simp; omega)).trans ((Below.heap_alloc w3 _ _ hz23).trans K163)
        have K184 := (hb4.block w3.heap.size (by simp)).trans (heap_alloc_new w3 _)
        have hz34 : w3.heap.size < w4.heap.size := by have := hb4.size; simp at this; omega
        clear c0 c1 c2 f0 f1 f2 d0 d1 d2 g0 g1 g2 K03 K163 hb4
        obtain ⟨c0, c1, c2, f0, f1, f2⟩ := blk3 K04
        go_wp2_with fail
        with_reducible refine (II.out _ hB4).mono ?_
        rintro e w5 ⟨rfl, hb5⟩
        have hB5 := hB4.trans (hb5.mono hB4.size)
        have hz35 : w3.heap.size < w5.heap.size := Nat.lt_of_lt_of_le hz34 hb5.size
        have hz25 : w2.heap.size < w5.heap.size := by omega
        have hz05 : w.heap.size < w5.heap.size := by omega
        have K05 := (hb5.block w.heap.size (by omega)).trans K04
        have K165 := (hb5.block w2.heap.size (by omega)).trans K164
        have K185 := (hb5.block w3.heap.size hz34).trans K184
        have hBV5 := ((hB5.setCell (p := ⟨w2.heap.size, 0, none⟩) (by show w.heap.size ≤ w2.heap.size; omega) (.slice Ac zc.length cc)).setCell (p := ⟨w2.heap.size, 1, none⟩) (by show w.heap.size ≤ w2.heap.size; omega) (.int .i64 p1)).setCell (p := ⟨w2.heap.size, 2, none⟩) (by show w.heap.size ≤ w2.heap.size; omega) (.int .i64 e1)
        have L05 := (far3 (a' := .slice Ac zc.length cc) (b' := .int .i64 p1) (c' := .int .i64 e1) n1).trans K05
        have L165 := set3 (a' := .slice Ac zc.length cc) (b' := .int .i64 p1) (c' := .int .i64 e1) K165
        have L185 := (far3 (a' := .slice Ac zc.length cc) (b' := .int .i64 p1) (c' := .int .i64 e1) n6).trans K185
        clear c0 c1 c2 f0 f1 f2 K04 K164 K184
        obtain ⟨c0, c1, c2, f0, f1, f2⟩ := blk3 K05
        obtain ⟨d0, d1, d2, g0, g1, g2⟩ := blk3 K165
        go_wp2_with fail
        with_reducible refine (RII.out _ hBV5).mono ?_
        rintro e w6 ⟨rfl, hb6⟩
        have hB6 := hBV5.trans (hb6.mono hBV5.size)
        have hz36 : w3.heap.size < w6.heap.size := by have := hb6.size; simp at this; omega
        have hz26 : w2.heap.size < w6.heap.size := by omega
        have hz06 : w.heap.size < w6.heap.size := by omega
        have K06 := (hb6.block w.heap.size (by simp; omega)).trans L05
        have K166 := (hb6.block w2.heap.size (by simp; omega)).trans L165
        have K186 := (hb6.block w3.heap.size (by simp; omega)).trans L185
        have hBV6 := ((hB6.setCell (p := ⟨w3.heap.size, 0, none⟩) (by show w.heap.size ≤ w3.heap.size; omega) (.slice Ac zc.length cc)).setCell (p := ⟨w3.heap.size, 1, none⟩) (by show w.heap.size ≤ w3.heap.size; omega) (.int .i64 p1)).setCell (p := ⟨w3.heap.size, 2, none⟩) (by show w.heap.size ≤ w3.heap.size; omega) (.int .i64 e1)
        have L06 := (far3 (a' := .slice Ac zc.length cc) (b' := .int .i64 p1) (c' := .int .i64 e1) n3).trans K06
        have L166 := (far3 (a' := .slice Ac zc.length cc) (b' := .int .i64 p1) (c' := .int .i64 e1) n5).trans K166
        have L186 := set3 (a' := .slice Ac zc.length cc) (b' := .int .i64 p1) (c' := .int .i64 e1) K186
        clear c0 c1 c2 f0 f1 f2 d0 d1 d2 g0 g1 g2 L05 L165 L185
        obtain ⟨c0, c1, c2, f0, f1, f2⟩ := blk3 K06
        obtain ⟨d0, d1, d2, g0, g1, g2⟩ := blk3 K166
        obtain ⟨h0, h1, h2, r0, r1, r2⟩ := blk3 K186
        go_wp2_with fail
        with_reducible refine (Same_yes (SC.out.below hBV6) (SC.out.below hBV6) hBV6.size hBV6.size).mono ?_
        rintro e w7 ⟨rfl, hb7⟩
        have hB7 := hBV6.trans (hb7.mono hBV6.size)
        have hz37 : w3.heap.size < w7.heap.size := by have := hb7.size; simp at this; omega
        have K07 := (hb7.block w.heap.size (by simp; omega)).trans L06
        have K167 := (hb7.block w2.heap.size (by simp; omega)).trans L166
        have K187 := (hb7.block w3.heap.size (by simp; omega)).trans L186
        clear c0 c1 c2 f0 f1 f2 d0 d1 d2 g0 g1 g2 h0 h1 h2 r0 r1 r2 L06 L166 L186
        obtain ⟨c0, c1, c2, f0, f1, f2⟩ := blk3 K07
        go_wp2_with fail
        with_reducible refine (TK.out _ hB7).mono ?_
        rintro e w8 ⟨⟨Af, cf, rfl, hSf, hlf⟩, hb8⟩
        have hB8 := hB7.trans (hb8.mono hB7.size)
        have hz38 : w3.heap.size < w8.heap.size := Nat.lt_of_lt_of_le hz37 hb8.size
        have hz28 : w2.heap.size < w8.heap.size := by omega
        have hz08 : w.heap.size < w8.heap.size := by omega
        have K08 := (hb8.block w.heap.size (by omega)).trans K07
        have K168 := (hb8.block w2.heap.size (by omega)).trans K167
        have K188 := (hb8.block w3.heap.size hz37).trans K187
        have hBV8 := ((hB8.setCell (p := ⟨w2.heap.size, 0, none⟩) (by show w.heap.size ≤ w2.heap.size; omega) (.slice Ac zc.length cc)).setCell (p := ⟨w2.heap.size, 1, none⟩) (by show w.heap.size ≤ w2.heap.size; omega) (.int .i64 p2)).setCell (p := ⟨w2.heap.size, 2, none⟩) (by show w.heap.size ≤ w2.heap.size; omega) (.int .i64 e2)
        have L08 := (far3 (a' := .slice Ac zc.length cc) (b' := .int .i64 p2) (c' := .int .i64 e2) n1).trans K08
        have L168 := set3 (a' := .slice Ac zc.length cc) (b' := .int .i64 p2) (c' := .int .i64 e2) K168
        have L188 := (far3 (a' := .slice Ac zc.length cc) (b' := .int .i64 p2) (c' := .int .i64 e2) n6).trans K188
        clear c0 c1 c2 f0 f1 f2 K07 K167 K187
        obtain ⟨c0, c1, c2, f0, f1, f2⟩ := blk3 K08
        obtain ⟨d0, d1, d2, g0, g1, g2⟩ := blk3 K168
        go_wp2_with fail
        with_reducible refine (RTK.out _ hBV8).mono ?_
        rintro e w9 ⟨⟨Ag, cg, rfl, hSg, hlg⟩, hb9⟩
        have hB9 := hBV8.trans (hb9.mono hBV8.size)
        have hz39 : w3.heap.size < w9.heap.size := by have := hb9.size; simp at this; omega
        have hz29 : w2.heap.size < w9.heap.size := by omega
        have hz09 : w.heap.size < w9.heap.size := by omega
        have K09 := (hb9.block w.heap.size (by simp; omega)).trans L08
        have K169 := (hb9.block w2.heap.size (by simp; omega)).trans L168
        have K189 := (hb9.block w3.heap.size (by simp; omega)).trans L188
        have hBV9 := ((hB9.setCell (p := ⟨w3.heap.size, 0, none⟩) (by show w.heap.size ≤ w3.heap.size; omega) (.slice Ac zc.length cc)).setCell (p := ⟨w3.heap.size, 1, none⟩) (by show w.heap.size ≤ w3.heap.size; omega) (.int .i64 p2)).setCell (p := ⟨w3.heap.size, 2, none⟩) (by show w.heap.size ≤ w3.heap.size; omega) (.int .i64 e2)
        have L09 := (far3 (a' := .slice Ac zc.length cc) (b' := .int .i64 p2) (c' := .int .i64 e2) n3).trans K09
        have L169 := (far3 (a' := .slice Ac zc.length cc) (b' := .int .i64 p2) (c' := .int .i64 e2) n5).trans K169
        have L189 := set3 (a' := .slice Ac zc.length cc) (b' := .int .i64 p2) (c' := .int .i64 e2) K189
        clear c0 c1 c2 f0 f1 f2 d0 d1 d2 g0 g1 g2 L08 L168 L188
        obtain ⟨c0, c1, c2, f0, f1, f2⟩ := blk3 K09
        obtain ⟨d0, d1, d2, g0, g1, g2⟩ := blk3 K169
        obtain ⟨h0, h1, h2, r0, r1, r2⟩ := blk3 K189
        have hf2 : ∀ a, Af = some a → a.block ≠ w2.heap.size := fun a ha => by have := hlf a ha; omega
        have hf3 : ∀ a, Af = some a → a.block ≠ w3.heap.size := fun a ha => by have := hlf a ha; omega
        have hg3 : ∀ a, Ag = some a → a.block ≠ w3.heap.size := fun a ha => by have := hlg a ha; simp at this; omega
        have hSf1 := Sl.far (Sl.far (Sl.far hSf (p := ⟨w2.heap.size, 0, none⟩) hf2 (.slice Ac zc.length cc)) (p := ⟨w2.heap.size, 1, none⟩) hf2 (.int .i64 p2)) (p := ⟨w2.heap.size, 2, none⟩) hf2 (.int .i64 e2)
        have hSf2 := hSf1.below (hb9.mono (by simp))
        have cvf := conv8 cf (Sl.far (Sl.far (Sl.far hSf2 (p := ⟨w3.heap.size, 0, none⟩) hf3 (.slice Ac zc.length cc)) (p := ⟨w3.heap.size, 1, none⟩) hf3 (.int .i64 p2)) (p := ⟨w3.heap.size, 2, none⟩) hf3 (.int .i64 e2))
        have cvg := conv8 cg (Sl.far (Sl.far (Sl.far hSg (p := ⟨w3.heap.size, 0, none⟩) hg3 (.slice Ac zc.length cc)) (p := ⟨w3.heap.size, 1, none⟩) hg3 (.int .i64 p2)) (p := ⟨w3.heap.size, 2, none⟩) hg3 (.int .i64 e2))
        clear hSf hSf1 hSf2 hSg hf2 hf3 hg3 hlf hlg
        go_wp2_with fail
        with_reducible refine (Same_yes (SC.out.below hBV9) (SC.out.below hBV9) hBV9.size hBV9.size).mono ?_
        rintro e w10 ⟨rfl, hb10⟩
        have hB10 := hBV9.trans (hb10.mono hBV9.size)
        have hz310 : w3.heap.size < w10.heap.size := by have := hb10.size; simp at this; omega
        have K010 := (hb10.block w.heap.size (by simp; omega)).trans L09
        have K1610 := (hb10.block w2.heap.size (by simp; omega)).trans L169
        have K1810 := (hb10.block w3.heap.size (by simp; omega)).trans L189
        clear c0 c1 c2 f0 f1 f2 d0 d1 d2 g0 g1 g2 h0 h1 h2 r0 r1 r2 L09 L169 L189
        obtain ⟨c0, c1, c2, f0, f1, f2⟩ := blk3 K010
        go_wp2_with fail
        with_reducible refine (TX.out _ hB10).mono ?_
        rintro e w11 ⟨rfl, hb11⟩
        have hB11 := hB10.trans (hb11.mono hB10.size)
        have hz311 : w3.heap.size < w11.heap.size := Nat.lt_of_lt_of_le hz310 hb11.size
        have hz211 : w2.heap.size < w11.heap.size := by omega
        have hz011 : w.heap.size < w11.heap.size := by omega
        have K011 := (hb11.block w.heap.size (by omega)).trans K010
        have K1611 := (hb11.block w2.heap.size (by omega)).trans K1610
        have K1811 := (hb11.block w3.heap.size hz310).trans K1810
        have hBV11 := ((hB11.setCell (p := ⟨w2.heap.size, 0, none⟩) (by show w.heap.size ≤ w2.heap.size; omega) (.slice Ac zc.length cc)).setCell (p := ⟨w2.heap.size, 1, none⟩) (by show w.heap.size ≤ w2.heap.size; omega) (.int .i64 p3)).setCell (p := ⟨w2.heap.size, 2, none⟩) (by show w.heap.size ≤ w2.heap.size; omega) (.int .i64 e3)
        have L011 := (far3 (a' := .slice Ac zc.length cc) (b' := .int .i64 p3) (c' := .int .i64 e3) n1).trans K011
        have L1611 := set3 (a' := .slice Ac zc.length cc) (b' := .int .i64 p3) (c' := .int .i64 e3) K1611
        have L1811 := (far3 (a' := .slice Ac zc.length cc) (b' := .int .i64 p3) (c' := .int .i64 e3) n6).trans K1811
        clear c0 c1 c2 f0 f1 f2 K010 K1610 K1810
        obtain ⟨c0, c1, c2, f0, f1, f2⟩ := blk3 K011
        obtain ⟨d0, d1, d2, g0, g1, g2⟩ := blk3 K1611
        go_wp2_with fail
        with_reducible refine (RTX.out _ hBV11).mono ?_
        rintro e w12 ⟨rfl, hb12⟩
        have hB12 := hBV11.trans (hb12.mono hBV11.size)
        have hz312 : w3.heap.size < w12.heap.size := by have := hb12.size; simp at this; omega
        have hz212 : w2.heap.size < w12.heap.size := by omega
        have hz012 : w.heap.size < w12.heap.size := by omega
        have K012 := (hb12.block w.heap.size (by simp; omega)).trans L011
        have K1612 := (hb12.block w2.heap.size (by simp; omega)).trans L1611
        have K1812 := (hb12.block w3.heap.size (by simp; omega)).trans L1811
        have hBV12 := ((hB12.setCell (p := ⟨w3.heap.size, 0, none⟩) (by show w.heap.size ≤ w3.heap.size; omega) (.slice Ac zc.length cc)).setCell (p := ⟨w3.heap.size, 1, none⟩) (by show w.heap.size ≤ w3.heap.size; omega) (.int .i64 p3)).setCell (p := ⟨w3.heap.size, 2, none⟩) (by show w.heap.size ≤ w3.heap.size; omega) (.int .i64 e3)
        have L012 := (far3 (a' := .slice Ac zc.length cc) (b' := .int .i64 p3) (c' := .int .i64 e3) n3).trans K012
        have L1612 := (far3 (a' := .slice Ac zc.length cc) (b' := .int .i64 p3) (c' := .int .i64 e3) n5).trans K1612
        have L1812 := set3 (a' := .slice Ac zc.length cc) (b' := .int .i64 p3) (c' := .int .i64 e3) K1812
        clear c0 c1 c2 f0 f1 f2 d0 d1 d2 g0 g1 g2 L011 L1611 L1811
        obtain ⟨c0, c1, c2, f0, f1, f2⟩ := blk3 K012
        obtain ⟨d0, d1, d2, g0, g1, g2⟩ := blk3 K1612
        obtain ⟨h0, h1, h2, r0, r1, r2⟩ := blk3 K1812
        go_wp2_with fail
        with_reducible refine (Same_yes (SC.out.below hBV12) (SC.out.below hBV12) hBV12.size hBV12.size).mono ?_
        rintro e w13 ⟨rfl, hb13⟩
        go_wp2_with fail
        go_ret
        exact ⟨rfl, hBV12.trans (hb13.mono hBV12.size)⟩
end Go.Proofs.Ytacdkifoiaacdaa
