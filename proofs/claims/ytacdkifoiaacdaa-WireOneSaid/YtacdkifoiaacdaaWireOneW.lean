/- The walk of WireOne. -/
import Derived.Test.YtacdkifoiaacdaaWireN
import Derived.Test.YtacdkifoiaacdaaEnv
import Derived.Deep.RegionHeld3
import Derived.Deep.RegionWith
import Derived.Deep.DeepCutAuto
import Derived.Deep.QuietTactic
import Derived.BigQuiet
import Derived.IntWalk
namespace Go.Proofs.Ytacdkifoiaacdaa
open Go.ChangeShapes Go.WideShapes Go.ChangeAt Go.RowKit Fb

theorem belowN {B : Nat} {a w : World} {n : Nat} (h : Below B a w) : Below B a (w.drewN n) := ⟨h.os, h.tape, h.output, h.size, h.block⟩

set_option maxRecDepth 100000 in
set_option maxHeartbeats 4000000 in
theorem one_walk (A : Option Addr) (c : Nat) (zs : List Int) (p most : Int) (w : World) (hc : zs.length ≤ c) (hcm : c ≤ maxLen) (hS0 : Sl w w.heap.size A zs.length (zs.map (Value.int .u8))) (hz : Bytes zs) (hnil : A = none → c = 0) (hp : 0 ≤ p ∧ p ≤ 65535) (hm : 0 ≤ most ∧ most ≤ 255) :
    Calls Try.prog 5 #[.slice A zs.length c, .int .u16 p, .int .u8 most] w fun e w' => e = .returned (.bool true) ∧ Below w.heap.size w w' := by
  have hS : Sl w w.heap.size A zs.length (by8 zs) := hS0
  clear hS0
  by_cases hl : 2000 < zs.length
  · clear hS hnil
    go_enter Try.func5, Try.ntmps5
    go_wp2_with fail
    refine (awake_any _).mono ?_
    rintro e w1 ⟨rfl, hbel⟩
    go_wp2_with fail
    go_ret
    exact ⟨rfl, hbel⟩
  · have hK0 : 0 ≤ p % ((zs.length : Int) + 1) := Int.emod_nonneg _ (by omega)
    have hK1 : p % ((zs.length : Int) + 1) ≤ (zs.length : Int) := by have := Int.emod_lt_of_pos p (show 0 < (zs.length : Int) + 1 by omega); omega
    have HS := hid hS
    have HZ := hid hz
    have HN := hid hnil
    have HCM := hid hcm
    unfold maxLen at hcm
    clear hS hz hnil
    go_enter Try.func5, Try.ntmps5
    go_wp2_with fail
    refine (awake_any _).mono ?_
    rintro e w1 ⟨rfl, hbel⟩
    go_wp2_with fail
    generalize p % ((zs.length : Int) + 1) = K at *
    obtain ⟨k, rfl⟩ : ∃ k : Nat, K = (k : Int) := ⟨K.toNat, by omega⟩
    have hkl : k ≤ zs.length := by omega
    obtain ⟨p1, e1, v, hu⟩ : ∃ p1 e1 v, uintS zs k 0 = (p1, e1, v) := ⟨_, _, _, rfl⟩
    obtain ⟨p2, e2, bs, ht⟩ : ∃ p2 e2 bs, textS zs k 0 most = (p2, e2, bs) := ⟨_, _, _, rfl⟩
    have hUI : ∀ w', Below w.heap.size w w' → Calls Try.prog 17 #[.agg #[.slice A zs.length c, .int .i64 k, .int .i64 0]] w' fun e w'' => e = .returned (.tuple #[.agg #[.slice A zs.length c, .int .i64 p1, .int .i64 e1], .int .u64 v]) ∧ Below w'.heap.size w' w'' := fun w' hbel => Uint_any hu ((HS.out.below hbel).up hbel.size) HZ.out (by omega) hc HCM.out
    have hII : ∀ w', Below w.heap.size w w' → Calls Try.prog 19 #[.agg #[.slice A zs.length c, .int .i64 k, .int .i64 0]] w' fun e w'' => e = .returned (.tuple #[.agg #[.slice A zs.length c, .int .i64 p1, .int .i64 e1], .int .i64 (zag v)]) ∧ Below w'.heap.size w' w'' := fun w' hbel => Int_any hu ((HS.out.below hbel).up hbel.size) HZ.out (by omega) hc HCM.out
    have hTI : ∀ w', Below w.heap.size w w' → Calls Try.prog 23 #[.agg #[.slice A zs.length c, .int .i64 k, .int .i64 0], .int .i64 most] w' fun e w'' => e = .returned (.tuple #[.agg #[.slice A zs.length c, .int .i64 p2, .int .i64 e2], .string (strOfNums bs)]) ∧ Below w'.heap.size w' w'' := fun w' hbel => Text_any ht ((HS.out.below hbel).up hbel.size) HZ.out HN.out (by omega) hc HCM.out (by omega)
    have UI := hid hUI
    have II := hid hII
    have TI := hid hTI
    clear hUI hII hTI
    have hB1 := hbel.alloc hbel.size (.cells #[.slice A zs.length c, .int .i64 k, .int .i64 0] 26)
    with_reducible refine (UI.out _ hB1).mono ?_
    rintro e w2 ⟨rfl, hb2⟩
    have K8 := (hb2.block w1.heap.size (by simp)).trans (heap_alloc_new w1 _)
    have hg8 : w.heap.size ≤ w1.heap.size := hbel.size
    have hz8 : w1.heap.size < w2.heap.size := by have := hb2.size; simp at this; omega
    have hB2 : Below w.heap.size w w2 := hB1.trans (hb2.mono hB1.size)
    by_cases he : e1 = 0
    · subst he
      obtain ⟨q, rfl, hkq, hql, hcat, hv⟩ := uS_one HZ.out hkl hu
      have hSk : Sl w w.heap.size A k (by8 (zs.take k)) := by
        have := HS.out.take (k := k) hkl
        unfold by8 at this ⊢; rwa [← List.map_take] at this
      have hSq : Sl w w.heap.size A q (by8 (zs.take q)) := by
        have := HS.out.take (k := q) hql
        unfold by8 at this ⊢; rwa [← List.map_take] at this
      have hPU : ∀ w', Below w.heap.size w w' → Calls Try.prog 7 #[.slice A k c, .int .u64 v] w' (Puts w'.heap.size w' (zs.take q)) := fun w' hbel => by
        have := PutUint_any (c := c) (m := v) ((hSk.below hbel).up hbel.size) HN.out (by rw [List.length_take]; omega) hv
        rwa [hcat] at this
      have hPI : ∀ w', Below w.heap.size w w' → Calls Try.prog 9 #[.slice A k c, .int .i64 (zag v)] w' (Puts w'.heap.size w' (zs.take q)) := fun w' hbel => by
        have := PutInt_any (c := c) (k := zag v) ((hSk.below hbel).up hbel.size) HN.out (by rw [List.length_take]; omega) (zag_in hv).1 (zag_in hv).2
        rwa [zig_zag, hcat] at this
      have PU := hid hPU
      have PI := hid hPI
      have SQ := hid hSq
      have SK := hid hSk
      have HQ : Hid ((zs.take q).length = q) := hid (by rw [List.length_take]; omega)
      generalize zag v = zg at *
      have hu2 := hid hu
      have ht2 := hid ht
      have i1 : (k : Int) ≤ (q : Int) := by omega
      have i2 : (q : Int) ≤ (zs.length : Int) := by omega
      have i3 : (q : Int) ≤ (c : Int) := by omega
      have i4 : (k : Int) ≤ (c : Int) := by omega
      clear hu ht hPU hPI hSk hSq hcat hv
      obtain ⟨c0, c1, c2, f0, f1, f2⟩ := blk3 K8
      go_upto_region 9 with fail
      go_cut [61] (fun s61 wx => s61 = .bool false ∧ Below w.heap.size w wx ∧ wx.heap[w1.heap.size]? = some (.cells #[.slice A zs.length c, .int .i64 k, .int .i64 0] 26 (0, 0)) ∧ wx.heap[w2.heap.size]? = some (.cells #[.slice A zs.length c, .int .i64 q, .int .i64 0] 26 (0, 0)) ∧ w2.heap.size < wx.heap.size)
      case first =>
        have hBW := hB2.alloc hB2.size (.cells #[.slice A zs.length c, .int .i64 q, .int .i64 0] 26)
        have K9 := heap_alloc_new w2 (.cells #[.slice A zs.length c, .int .i64 q, .int .i64 0] 26)
        have K8' := (Below.heap_alloc w2 (.cells #[.slice A zs.length c, .int .i64 q, .int .i64 0] 26) _ hz8).trans K8
        have s0 := (blk3 K9).2.1
        have cq1 := conv8d c (SQ.out.below hBW)
        have dg1 : decide ((q : Int) < (k : Int)) = false := by simp; omega
        have dg2 : decide (q < k) = false := by simp; omega
        have dg3 : decide ((zs.length : Int) < (q : Int)) = false := by simp; omega
        have dg4 : decide (zs.length < q) = false := by simp; omega
        refine wp_region_env (A := fun vs => { tmps := #[Value.slice A zs.length c, Value.int IntKind.u16 p, Value.int IntKind.u8 most, undef, undef, undef, Value.bool false, Value.int IntKind.i64 ↑k, Value.pointer (some { block := w1.heap.size, off := 0 }), Value.pointer (some { block := w2.heap.size, off := 0 }), Value.int IntKind.u64 ↑v, undef, undef, undef, undef, Value.bool true, Value.bool false, Value.slice A zs.length c, Value.int IntKind.i64 ↑zs.length, Value.bool (decide ((2000 : Int) < ↑zs.length)), Value.int IntKind.u16 p, Value.int IntKind.i64 p, Value.slice A zs.length c, Value.int IntKind.i64 ↑zs.length, Value.int IntKind.i64 (↑zs.length + 1), Value.int IntKind.i64 ↑k, Value.slice A zs.length c, Value.int IntKind.i64 ↑k, Value.agg #[Value.slice A zs.length c, Value.int IntKind.i64 ↑k, Value.int IntKind.i64 0], Value.tuple #[Value.agg #[Value.slice A zs.length c, Value.int IntKind.i64 ↑q, Value.int IntKind.i64 0], Value.int IntKind.u64 ↑v], Value.agg #[Value.slice A zs.length c, Value.int IntKind.i64 ↑k, Value.int IntKind.i64 0], Value.tuple #[Value.agg #[Value.slice A zs.length c, Value.int IntKind.i64 ↑q, Value.int IntKind.i64 0], Value.int IntKind.u64 ↑v], Value.agg #[Value.slice A zs.length c, Value.int IntKind.i64 ↑q, Value.int IntKind.i64 0], Value.int IntKind.u64 ↑v, Value.pointer (some { block := w2.heap.size, off := 2 }), Value.int IntKind.i64 0, Value.bool true, vs 0, vs 1, vs 2, vs 3, vs 4, vs 5, vs 6, vs 7, vs 8, vs 9, vs 10, vs 11, vs 12, vs 13, vs 14, vs 15, vs 16, vs 17, vs 18, vs 19, vs 20, vs 21, vs 22, vs 23, vs 24, undef, undef, undef, undef, undef, undef, undef, undef, undef, undef, undef, undef, undef, undef, undef, undef, undef, undef, undef, undef, undef, undef, undef, undef, undef, undef, undef, undef, undef, undef, undef, undef, undef, undef, undef, undef, undef, undef, undef, undef, undef, undef, undef, undef, undef, undef, undef, undef, undef, undef, undef, undef, undef, undef, undef, undef, undef, undef, undef, undef, undef, undef, undef, undef, undef, undef, undef, undef, undef, undef, undef, undef, undef, undef, undef, undef, undef, undef, undef, undef, undef, undef, undef, undef, undef, undef, undef, undef, undef, undef, undef, undef, undef, undef], defers := [] }) (E := fun i yv wq => match i with | 0 => yv = .pointer (some ⟨w2.heap.size, 1, none⟩) | 1 => yv = .int .i64 ↑q | 2 => yv = .int .i64 ↑k | 3 => yv = .bool false | 4 => yv = .bool false | 5 => yv = .pointer (some ⟨w2.heap.size, 1, none⟩) | 6 => yv = .int .i64 ↑q | 7 => yv = .slice A zs.length c | 8 => yv = .int .i64 ↑zs.length | 9 => yv = .bool false | 10 => yv = .bool false | 11 => yv = .bool false | 12 => yv = .slice A zs.length c | 13 => yv = .int .i64 ↑k | 14 => yv = .slice A k c | 15 => yv = .int .u64 ↑v | 16 => ∃ A3 c3, yv = .slice A3 q c3 ∧ Sl wq wq.heap.size A3 q (by8 (zs.take q)) | 17 => yv = .string (strOfNums (zs.take q)) | 18 => yv = .slice A zs.length c | 19 => yv = .pointer (some ⟨w2.heap.size, 1, none⟩) | 20 => yv = .int .i64 ↑q | 21 => yv = .slice A q c | 22 => yv = .string (strOfNums (zs.take q)) | 23 => yv = .bool false | 24 => yv = .bool false | _ => True) (C := fun wq => Below (w2.alloc (.cells #[.slice A zs.length c, .int .i64 ↑q, .int .i64 0] 26)).heap.size (w2.alloc (.cells #[.slice A zs.length c, .int .i64 ↑q, .int .i64 0] 26)) wq) (Ext := fun a b => Below a.heap.size a b) (fun _ => undef) (by kernel_rfl) (by rfl) ?hC ?hstep ?hstab (low_of (by kernel_rfl)) ?hend
        case hC => exact Below.drew (Below.refl _ _)
        case hstab =>
          intro i yv wa wb hx h
          match i, h with
          | 0, h => exact h
          | 1, h => exact h
          | 2, h => exact h
          | 3, h => exact h
          | 4, h => exact h
          | 5, h => exact h
          | 6, h => exact h
          | 7, h => exact h
          | 8, h => exact h
          | 9, h => exact h
          | 10, h => exact h
          | 11, h => exact h
          | 12, h => exact h
          | 13, h => exact h
          | 14, h => exact h
          | 15, h => exact h
          | 16, h => exact (by obtain ⟨A3, c3, h1, h2⟩ := h; exact ⟨A3, c3, h1, (h2.below hx).up hx.size⟩)
          | 17, h => exact h
          | 18, h => exact h
          | 19, h => exact h
          | 20, h => exact h
          | 21, h => exact h
          | 22, h => exact h
          | 23, h => exact h
          | 24, h => exact h
          | (_ + 25), _ => trivial
        case hstep =>
          intro i o ho
          match i, ho with
          | 0, ho =>
            obtain rfl := Option.some.inj (show some _ = some o from ho)
            intro vs wq hC hE K hK
            go_simp
            have hh := hK.out (.pointer (some ⟨w2.heap.size, 1, none⟩)) wq rfl (Below.refl _ _) hC
            simp only [upd, Nat.reduceEqDiff, ↓reduceIte] at hh
            exact hh
          | 1, ho =>
            obtain rfl := Option.some.inj (show some _ = some o from ho)
            intro vs wq hC hE K hK
            have d0 : vs 0 = .pointer (some ⟨w2.heap.size, 1, none⟩) := hE { on := 0, ground := Ground.data } (by simp) rfl
            have t0 := (hC.cell (p := ⟨w2.heap.size, 1, none⟩) (by simp)).trans s0
            go_simp
            have hh := hK.out (.int .i64 ↑q) wq rfl (Below.refl _ _) hC
            simp only [upd, Nat.reduceEqDiff, ↓reduceIte, d0] at hh
            exact hh
          | 2, ho =>
            obtain rfl := Option.some.inj (show some _ = some o from ho)
            intro vs wq hC hE K hK
            go_simp
            have hh := hK.out (.int .i64 ↑k) wq rfl (Below.refl _ _) hC
            simp only [upd, Nat.reduceEqDiff, ↓reduceIte] at hh
            exact hh
          | 3, ho =>
            obtain rfl := Option.some.inj (show some _ = some o from ho)
            intro vs wq hC hE K hK
            have d1 : vs 1 = .int .i64 ↑q := hE { on := 1, ground := Ground.data } (by simp) rfl
            have d2 : vs 2 = .int .i64 ↑k := hE { on := 2, ground := Ground.data } (by simp) rfl
            go_simp
            have hh := hK.out (.bool false) wq rfl (Below.refl _ _) hC
            simp only [upd, Nat.reduceEqDiff, ↓reduceIte, d1, d2] at hh
            exact hh
          | 4, ho =>
            obtain rfl := Option.some.inj (show some _ = some o from ho)
            intro vs wq hC hE K hK
            have d3 : vs 3 = .bool false := hE { on := 3, ground := Ground.data } (by simp) rfl
            go_simp
            have hh := hK.out (.bool false) wq rfl (Below.refl _ _) hC
            simp only [upd, Nat.reduceEqDiff, ↓reduceIte, d3] at hh
            exact hh
          | 5, ho =>
            obtain rfl := Option.some.inj (show some _ = some o from ho)
            intro vs wq hC hE K hK
            have d4 : vs 4 = .bool false := hE { on := 4, ground := Ground.guard } (by simp) rfl
            go_simp
            have hh := hK.out (.pointer (some ⟨w2.heap.size, 1, none⟩)) wq rfl (Below.refl _ _) hC
            simp only [upd, Nat.reduceEqDiff, ↓reduceIte, d4] at hh
            exact hh
          | 6, ho =>
            obtain rfl := Option.some.inj (show some _ = some o from ho)
            intro vs wq hC hE K hK
            have d5 : vs 5 = .pointer (some ⟨w2.heap.size, 1, none⟩) := hE { on := 5, ground := Ground.data } (by simp) rfl
            have d4 : vs 4 = .bool false := hE { on := 4, ground := Ground.guard } (by simp) rfl
            have t0 := (hC.cell (p := ⟨w2.heap.size, 1, none⟩) (by simp)).trans s0
            go_simp
            have hh := hK.out (.int .i64 ↑q) wq rfl (Below.refl _ _) hC
            simp only [upd, Nat.reduceEqDiff, ↓reduceIte, d4, d5] at hh
            exact hh
          | 7, ho =>
            obtain rfl := Option.some.inj (show some _ = some o from ho)
            intro vs wq hC hE K hK
            have d4 : vs 4 = .bool false := hE { on := 4, ground := Ground.guard } (by simp) rfl
            go_simp
            have hh := hK.out (.slice A zs.length c) wq rfl (Below.refl _ _) hC
            simp only [upd, Nat.reduceEqDiff, ↓reduceIte, d4] at hh
            exact hh
          | 8, ho =>
            obtain rfl := Option.some.inj (show some _ = some o from ho)
            intro vs wq hC hE K hK
            have d7 : vs 7 = .slice A zs.length c := hE { on := 7, ground := Ground.data } (by simp) rfl
            have d4 : vs 4 = .bool false := hE { on := 4, ground := Ground.guard } (by simp) rfl
            go_simp
            have hh := hK.out (.int .i64 ↑zs.length) wq rfl (Below.refl _ _) hC
            simp only [upd, Nat.reduceEqDiff, ↓reduceIte, d4, d7] at hh
            exact hh
          | 9, ho =>
            obtain rfl := Option.some.inj (show some _ = some o from ho)
            intro vs wq hC hE K hK
            have d6 : vs 6 = .int .i64 ↑q := hE { on := 6, ground := Ground.data } (by simp) rfl
            have d8 : vs 8 = .int .i64 ↑zs.length := hE { on := 8, ground := Ground.data } (by simp) rfl
            have d4 : vs 4 = .bool false := hE { on := 4, ground := Ground.guard } (by simp) rfl
            go_simp
            have hh := hK.out (.bool false) wq rfl (Below.refl _ _) hC
            simp only [upd, Nat.reduceEqDiff, ↓reduceIte, d4, d6, d8] at hh
            exact hh
          | 10, ho =>
            obtain rfl := Option.some.inj (show some _ = some o from ho)
            intro vs wq hC hE K hK
            have d4 : vs 4 = .bool false := hE { on := 4, ground := Ground.data } (by simp) rfl
            have d9 : vs 9 = .bool false := hE { on := 9, ground := Ground.data } (by simp) rfl
            go_simp
            have hh := hK.out (.bool false) wq rfl (Below.refl _ _) hC
            simp only [upd, Nat.reduceEqDiff, ↓reduceIte, d4, d9] at hh
            exact hh
          | 11, ho =>
            obtain rfl := Option.some.inj (show some _ = some o from ho)
            intro vs wq hC hE K hK
            have d10 : vs 10 = .bool false := hE { on := 10, ground := Ground.data } (by simp) rfl
            go_simp
            have hh := hK.out (.bool false) wq rfl (Below.refl _ _) hC
            simp only [upd, Nat.reduceEqDiff, ↓reduceIte, d10] at hh
            exact hh
          | 12, ho =>
            obtain rfl := Option.some.inj (show some _ = some o from ho)
            intro vs wq hC hE K hK
            have d11 : vs 11 = .bool false := hE { on := 11, ground := Ground.guard } (by simp) rfl
            go_simp
            have hh := hK.out (.slice A zs.length c) wq rfl (Below.refl _ _) hC
            simp only [upd, Nat.reduceEqDiff, ↓reduceIte, d11] at hh
            exact hh
          | 13, ho =>
            obtain rfl := Option.some.inj (show some _ = some o from ho)
            intro vs wq hC hE K hK
            have d11 : vs 11 = .bool false := hE { on := 11, ground := Ground.guard } (by simp) rfl
            go_simp
            have hh := hK.out (.int .i64 ↑k) wq rfl (Below.refl _ _) hC
            simp only [upd, Nat.reduceEqDiff, ↓reduceIte, d11] at hh
            exact hh
          | 14, ho =>
            obtain rfl := Option.some.inj (show some _ = some o from ho)
            intro vs wq hC hE K hK
            have d12 : vs 12 = .slice A zs.length c := hE { on := 12, ground := Ground.data } (by simp) rfl
            have d13 : vs 13 = .int .i64 ↑k := hE { on := 13, ground := Ground.data } (by simp) rfl
            have d11 : vs 11 = .bool false := hE { on := 11, ground := Ground.guard } (by simp) rfl
            go_simp
            have hh := hK.out (.slice A k c) wq rfl (Below.refl _ _) hC
            simp only [upd, Nat.reduceEqDiff, ↓reduceIte, d11, d12, d13] at hh
            exact hh
          | 15, ho =>
            obtain rfl := Option.some.inj (show some _ = some o from ho)
            intro vs wq hC hE K hK
            have d11 : vs 11 = .bool false := hE { on := 11, ground := Ground.guard } (by simp) rfl
            go_simp
            have hh := hK.out (.int .u64 ↑v) wq rfl (Below.refl _ _) hC
            simp only [upd, Nat.reduceEqDiff, ↓reduceIte, d11] at hh
            exact hh
          | 16, ho =>
            obtain rfl := Option.some.inj (show some _ = some o from ho)
            intro vs wq hC hE K hK
            have d14 : vs 14 = .slice A k c := hE { on := 14, ground := Ground.data } (by simp) rfl
            have d15 : vs 15 = .int .u64 ↑v := hE { on := 15, ground := Ground.data } (by simp) rfl
            have d11 : vs 11 = .bool false := hE { on := 11, ground := Ground.guard } (by simp) rfl
            go_simp
            go_at_call 7
            refine (PU.out _ (hBW.trans (hC.mono (by simp; omega)))).mono ?_
            rintro e w3 ⟨⟨v', rfl, hown⟩, hb3⟩
            rw [HQ.out] at hown
            obtain ⟨A3, c3, rfl, -, -, -, hSl, -⟩ := own_reads hown (Nat.le_refl _)
            have hh := hK.out (.slice A3 q c3) w3 ⟨A3, c3, rfl, hSl⟩ hb3 (hC.trans (hb3.mono hC.size))
            simp only [upd, Nat.reduceEqDiff, ↓reduceIte, d11, d14, d15] at hh
            exact hh
          | 17, ho =>
            obtain rfl := Option.some.inj (show some _ = some o from ho)
            intro vs wq hC hE K hK
            obtain ⟨A3, c3, d16, hS3⟩ : ∃ A3 c3, vs 16 = .slice A3 q c3 ∧ Sl wq wq.heap.size A3 q (by8 (zs.take q)) := hE { on := 16, ground := Ground.data } (by simp) rfl
            have d11 : vs 11 = .bool false := hE { on := 11, ground := Ground.guard } (by simp) rfl
            have cv := conv8 c3 hS3
            go_simp
            have hh := hK.out (.string (strOfNums (zs.take q))) wq rfl (Below.refl _ _) hC
            simp only [upd, Nat.reduceEqDiff, ↓reduceIte, d11, d16] at hh
            exact hh
          | 18, ho =>
            obtain rfl := Option.some.inj (show some _ = some o from ho)
            intro vs wq hC hE K hK
            have d11 : vs 11 = .bool false := hE { on := 11, ground := Ground.guard } (by simp) rfl
            go_simp
            have hh := hK.out (.slice A zs.length c) wq rfl (Below.refl _ _) hC
            simp only [upd, Nat.reduceEqDiff, ↓reduceIte, d11] at hh
            exact hh
          | 19, ho =>
            obtain rfl := Option.some.inj (show some _ = some o from ho)
            intro vs wq hC hE K hK
            have d11 : vs 11 = .bool false := hE { on := 11, ground := Ground.guard } (by simp) rfl
            go_simp
            have hh := hK.out (.pointer (some ⟨w2.heap.size, 1, none⟩)) wq rfl (Below.refl _ _) hC
            simp only [upd, Nat.reduceEqDiff, ↓reduceIte, d11] at hh
            exact hh
          | 20, ho =>
            obtain rfl := Option.some.inj (show some _ = some o from ho)
            intro vs wq hC hE K hK
            have d19 : vs 19 = .pointer (some ⟨w2.heap.size, 1, none⟩) := hE { on := 19, ground := Ground.data } (by simp) rfl
            have d11 : vs 11 = .bool false := hE { on := 11, ground := Ground.guard } (by simp) rfl
            have t0 := (hC.cell (p := ⟨w2.heap.size, 1, none⟩) (by simp)).trans s0
            go_simp
            have hh := hK.out (.int .i64 ↑q) wq rfl (Below.refl _ _) hC
            simp only [upd, Nat.reduceEqDiff, ↓reduceIte, d11, d19] at hh
            exact hh
          | 21, ho =>
            obtain rfl := Option.some.inj (show some _ = some o from ho)
            intro vs wq hC hE K hK
            have d18 : vs 18 = .slice A zs.length c := hE { on := 18, ground := Ground.data } (by simp) rfl
            have d20 : vs 20 = .int .i64 ↑q := hE { on := 20, ground := Ground.data } (by simp) rfl
            have d11 : vs 11 = .bool false := hE { on := 11, ground := Ground.guard } (by simp) rfl
            go_simp
            have hh := hK.out (.slice A q c) wq rfl (Below.refl _ _) hC
            simp only [upd, Nat.reduceEqDiff, ↓reduceIte, d11, d18, d20] at hh
            exact hh
          | 22, ho =>
            obtain rfl := Option.some.inj (show some _ = some o from ho)
            intro vs wq hC hE K hK
            have d21 : vs 21 = .slice A q c := hE { on := 21, ground := Ground.data } (by simp) rfl
            have d11 : vs 11 = .bool false := hE { on := 11, ground := Ground.guard } (by simp) rfl
            have cv := conv8 c (SQ.out.below (hBW.trans (hC.mono (by simp; omega))))
            go_simp
            have hh := hK.out (.string (strOfNums (zs.take q))) wq rfl (Below.refl _ _) hC
            simp only [upd, Nat.reduceEqDiff, ↓reduceIte, d11, d21] at hh
            exact hh
          | 23, ho =>
            obtain rfl := Option.some.inj (show some _ = some o from ho)
            intro vs wq hC hE K hK
            have d17 : vs 17 = .string (strOfNums (zs.take q)) := hE { on := 17, ground := Ground.data } (by simp) rfl
            have d22 : vs 22 = .string (strOfNums (zs.take q)) := hE { on := 22, ground := Ground.data } (by simp) rfl
            have d11 : vs 11 = .bool false := hE { on := 11, ground := Ground.guard } (by simp) rfl
            go_simp
            have hh := hK.out (.bool false) wq rfl (Below.refl _ _) hC
            simp only [upd, Nat.reduceEqDiff, ↓reduceIte, d11, d17, d22] at hh
            exact hh
          | 24, ho =>
            obtain rfl := Option.some.inj (show some _ = some o from ho)
            intro vs wq hC hE K hK
            have d11 : vs 11 = .bool false := hE { on := 11, ground := Ground.data } (by simp) rfl
            have d23 : vs 23 = .bool false := hE { on := 23, ground := Ground.data } (by simp) rfl
            go_simp
            have hh := hK.out (.bool false) wq rfl (Below.refl _ _) hC
            simp only [upd, Nat.reduceEqDiff, ↓reduceIte, d11, d23] at hh
            exact hh
          | (_ + 25), ho => exact absurd ho (by simp)
        case hend =>
          intro vs wq hC hE
          have r := hE 24 (by decide)
          simp only at r
          go_wp2_with fail
          go_meet
          exact ⟨r, hBW.trans (hC.mono (by simp; omega)), (hC.block _ (by simp; omega)).trans K8', (hC.block _ (by simp)).trans K9, by have := hC.size; simp at this; omega⟩
      case rest =>
        obtain ⟨rfl, hBx, K8x, K9x, hz9x⟩ := hcut
        obtain ⟨c0, c1, c2, f0, f1, f2⟩ := blk3 K8x
        have hz8x : w1.heap.size < wc.heap.size := by omega
        go_wp2_with fail
        with_reducible refine (II.out _ hBx).mono ?_
        rintro e w4 ⟨rfl, hb4⟩
        have hB4 : Below w.heap.size w w4 := hBx.trans (hb4.mono hBx.size)
        have K84 := (hb4.block w1.heap.size (by omega)).trans K8x
        have K94 := (hb4.block w2.heap.size (by omega)).trans K9x
        have hz84 : w1.heap.size < w4.heap.size := by have := hb4.size; omega
        have hz94 : w2.heap.size < w4.heap.size := by have := hb4.size; omega
        clear c0 c1 c2 f0 f1 f2 K8x K9x
        obtain ⟨c0, c1, c2, f0, f1, f2⟩ := blk3 K84
        go_upto_region 14 with fail
        go_cut [105] (fun s105 wx => s105 = .bool false ∧ Below w.heap.size w wx ∧ wx.heap[w1.heap.size]? = some (.cells #[.slice A zs.length c, .int .i64 k, .int .i64 0] 26 (0, 0)) ∧ w1.heap.size < wx.heap.size)
        case first =>
          have hBW := hB4.alloc hB4.size (.cells #[.slice A zs.length c, .int .i64 q, .int .i64 0] 26)
          have K11 := heap_alloc_new w4 (.cells #[.slice A zs.length c, .int .i64 q, .int .i64 0] 26)
          have K8' := (Below.heap_alloc w4 (.cells #[.slice A zs.length c, .int .i64 q, .int .i64 0] 26) _ hz84).trans K84
          have K9' := (Below.heap_alloc w4 (.cells #[.slice A zs.length c, .int .i64 q, .int .i64 0] 26) _ hz94).trans K94
          have s1 := (blk3 K11).2.1
          have s2 := (blk3 K11).2.2.1
          have r1 := (blk3 K9').2.1
          have r2 := (blk3 K9').2.2.1
          refine wp_region_env (A := fun vs => { tmps := #[Value.slice A zs.length c, Value.int IntKind.u16 p, Value.int IntKind.u8 most, undef, undef, undef, Value.bool false, Value.int IntKind.i64 ↑k, Value.pointer (some { block := w1.heap.size, off := 0 }), Value.pointer (some { block := w2.heap.size, off := 0 }), Value.int IntKind.u64 ↑v, Value.pointer (some { block := w4.heap.size, off := 0 }), Value.int IntKind.i64 zg, undef, undef, u15, u16, u17, u18, u19, u20, u21, u22, u23, u24, u25, u26, u27, u28, u29, u30, u31, u32, u33, u34, u35, u36, u37, u38, u39, u40, u41, u42, u43, u44, u45, u46, u47, u48, u49, u50, u51, u52, u53, u54, u55, u56, u57, u58, u59, u60, Value.bool false, u62, u63, u64, u65, u66, u67, u68, u69, Value.tuple #[Value.agg #[Value.slice A zs.length c, Value.int IntKind.i64 ↑q, Value.int IntKind.i64 0], Value.int IntKind.i64 zg], Value.agg #[Value.slice A zs.length c, Value.int IntKind.i64 ↑k, Value.int IntKind.i64 0], Value.tuple #[Value.agg #[Value.slice A zs.length c, Value.int IntKind.i64 ↑q, Value.int IntKind.i64 0], Value.int IntKind.i64 zg], Value.agg #[Value.slice A zs.length c, Value.int IntKind.i64 ↑q, Value.int IntKind.i64 0], Value.int IntKind.i64 zg, vs 0, vs 1, vs 2, vs 3, vs 4, vs 5, vs 6, vs 7, vs 8, vs 9, vs 10, vs 11, vs 12, vs 13, vs 14, vs 15, vs 16, vs 17, vs 18, vs 19, vs 20, vs 21, vs 22, vs 23, vs 24, vs 25, vs 26, vs 27, vs 28, vs 29, vs 30, u106, u107, u108, u109, u110, u111, u112, u113, u114, u115, u116, u117, u118, u119, u120, u121, u122, u123, u124, u125, u126, u127, u128, u129, u130, u131, u132, u133, u134, u135, u136, u137, u138, u139, u140, u141, u142, u143, u144, u145, u146, u147, u148, u149, u150, u151, u152, u153, u154, u155], defers := [] }) (E := fun i yv wq => match i with | 0 => yv = .pointer (some ⟨w4.heap.size, 2, none⟩) | 1 => yv = .int .i64 0 | 2 => yv = .pointer (some ⟨w2.heap.size, 2, none⟩) | 3 => yv = .int .i64 0 | 4 => yv = .bool false | 5 => yv = .bool false | 6 => yv = .pointer (some ⟨w4.heap.size, 1, none⟩) | 7 => yv = .int .i64 ↑q | 8 => yv = .pointer (some ⟨w2.heap.size, 1, none⟩) | 9 => yv = .int .i64 ↑q | 10 => yv = .bool false | 11 => yv = .bool false | 12 => yv = .bool false | 13 => yv = .pointer (some ⟨w4.heap.size, 2, none⟩) | 14 => yv = .int .i64 0 | 15 => yv = .bool true | 16 => yv = .bool true | 17 => yv = .slice A zs.length c | 18 => yv = .int .i64 ↑k | 19 => yv = .slice A k c | 20 => yv = .int .i64 zg | 21 => ∃ A3 c3, yv = .slice A3 q c3 ∧ Sl wq wq.heap.size A3 q (by8 (zs.take q)) | 22 => yv = .string (strOfNums (zs.take q)) | 23 => yv = .slice A zs.length c | 24 => yv = .pointer (some ⟨w4.heap.size, 1, none⟩) | 25 => yv = .int .i64 ↑q | 26 => yv = .slice A q c | 27 => yv = .string (strOfNums (zs.take q)) | 28 => yv = .bool false | 29 => yv = .bool false | 30 => yv = .bool false | _ => True) (C := fun wq => Below (w4.alloc (.cells #[.slice A zs.length c, .int .i64 ↑q, .int .i64 0] 26)).heap.size (w4.alloc (.cells #[.slice A zs.length c, .int .i64 ↑q, .int .i64 0] 26)) wq) (Ext := fun a b => Below a.heap.size a b) (fun i => match i with | 0 => u75 | 1 => u76 | 2 => u77 | 3 => u78 | 4 => u79 | 5 => u80 | 6 => u81 | 7 => u82 | 8 => u83 | 9 => u84 | 10 => u85 | 11 => u86 | 12 => u87 | 13 => u88 | 14 => u89 | 15 => u90 | 16 => u91 | 17 => u92 | 18 => u93 | 19 => u94 | 20 => u95 | 21 => u96 | 22 => u97 | 23 => u98 | 24 => u99 | 25 => u100 | 26 => u101 | 27 => u102 | 28 => u103 | 29 => u104 | 30 => u105 | _ => undef) (by kernel_rfl) (by rfl) ?hC ?hstep ?hstab (low_of (by kernel_rfl)) ?hend
          case hC => exact Below.drew (Below.refl _ _)
          case hstab =>
            intro i yv wa wb hx h
            match i, h with
            | 0, h => exact h
            | 1, h => exact h
            | 2, h => exact h
            | 3, h => exact h
            | 4, h => exact h
            | 5, h => exact h
            | 6, h => exact h
            | 7, h => exact h
            | 8, h => exact h
            | 9, h => exact h
            | 10, h => exact h
            | 11, h => exact h
            | 12, h => exact h
            | 13, h => exact h
            | 14, h => exact h
            | 15, h => exact h
            | 16, h => exact h
            | 17, h => exact h
            | 18, h => exact h
            | 19, h => exact h
            | 20, h => exact h
            | 21, h => exact (by obtain ⟨A3, c3, h1, h2⟩ := h; exact ⟨A3, c3, h1, (h2.below hx).up hx.size⟩)
            | 22, h => exact h
            | 23, h => exact h
            | 24, h => exact h
            | 25, h => exact h
            | 26, h => exact h
            | 27, h => exact h
            | 28, h => exact h
            | 29, h => exact h
            | 30, h => exact h
            | (_ + 31), _ => trivial
          case hstep =>
            intro i o ho
            match i, ho with
            | 0, ho =>
              obtain rfl := Option.some.inj (show some _ = some o from ho)
              intro vs wq hC hE K hK
              go_simp
              have hh := hK.out (.pointer (some ⟨w4.heap.size, 2, none⟩)) wq rfl (Below.refl _ _) hC
              simp only [upd, Nat.reduceEqDiff, ↓reduceIte] at hh
              exact hh
            | 1, ho =>
              obtain rfl := Option.some.inj (show some _ = some o from ho)
              intro vs wq hC hE K hK
              have d0 : vs 0 = .pointer (some ⟨w4.heap.size, 2, none⟩) := hE { on := 0, ground := Ground.data } (by simp) rfl
              have t0 := (hC.cell (p := ⟨w4.heap.size, 2, none⟩) (by simp)).trans s2
              go_simp
              have hh := hK.out (.int .i64 0) wq rfl (Below.refl _ _) hC
              simp only [upd, Nat.reduceEqDiff, ↓reduceIte, d0] at hh
              exact hh
            | 2, ho =>
              obtain rfl := Option.some.inj (show some _ = some o from ho)
              intro vs wq hC hE K hK
              go_simp
              have hh := hK.out (.pointer (some ⟨w2.heap.size, 2, none⟩)) wq rfl (Below.refl _ _) hC
              simp only [upd, Nat.reduceEqDiff, ↓reduceIte] at hh
              exact hh
            | 3, ho =>
              obtain rfl := Option.some.inj (show some _ = some o from ho)
              intro vs wq hC hE K hK
              have d2 : vs 2 = .pointer (some ⟨w2.heap.size, 2, none⟩) := hE { on := 2, ground := Ground.data } (by simp) rfl
              have t0 := (hC.cell (p := ⟨w2.heap.size, 2, none⟩) (by simp; omega)).trans r2
              go_simp
              have hh := hK.out (.int .i64 0) wq rfl (Below.refl _ _) hC
              simp only [upd, Nat.reduceEqDiff, ↓reduceIte, d2] at hh
              exact hh
            | 4, ho =>
              obtain rfl := Option.some.inj (show some _ = some o from ho)
              intro vs wq hC hE K hK
              have d1 : vs 1 = .int .i64 0 := hE { on := 1, ground := Ground.data } (by simp) rfl
              have d3 : vs 3 = .int .i64 0 := hE { on := 3, ground := Ground.data } (by simp) rfl
              go_simp
              have hh := hK.out (.bool false) wq rfl (Below.refl _ _) hC
              simp only [upd, Nat.reduceEqDiff, ↓reduceIte, d1, d3] at hh
              exact hh
            | 5, ho =>
              obtain rfl := Option.some.inj (show some _ = some o from ho)
              intro vs wq hC hE K hK
              have d4 : vs 4 = .bool false := hE { on := 4, ground := Ground.data } (by simp) rfl
              go_simp
              have hh := hK.out (.bool false) wq rfl (Below.refl _ _) hC
              simp only [upd, Nat.reduceEqDiff, ↓reduceIte, d4] at hh
              exact hh
            | 6, ho =>
              obtain rfl := Option.some.inj (show some _ = some o from ho)
              intro vs wq hC hE K hK
              have d5 : vs 5 = .bool false := hE { on := 5, ground := Ground.guard } (by simp) rfl
              go_simp
              have hh := hK.out (.pointer (some ⟨w4.heap.size, 1, none⟩)) wq rfl (Below.refl _ _) hC
              simp only [upd, Nat.reduceEqDiff, ↓reduceIte, d5] at hh
              exact hh
            | 7, ho =>
              obtain rfl := Option.some.inj (show some _ = some o from ho)
              intro vs wq hC hE K hK
              have d6 : vs 6 = .pointer (some ⟨w4.heap.size, 1, none⟩) := hE { on := 6, ground := Ground.data } (by simp) rfl
              have d5 : vs 5 = .bool false := hE { on := 5, ground := Ground.guard } (by simp) rfl
              have t0 := (hC.cell (p := ⟨w4.heap.size, 1, none⟩) (by simp)).trans s1
              go_simp
              have hh := hK.out (.int .i64 ↑q) wq rfl (Below.refl _ _) hC
              simp only [upd, Nat.reduceEqDiff, ↓reduceIte, d5, d6] at hh
              exact hh
            | 8, ho =>
              obtain rfl := Option.some.inj (show some _ = some o from ho)
              intro vs wq hC hE K hK
              have d5 : vs 5 = .bool false := hE { on := 5, ground := Ground.guard } (by simp) rfl
              go_simp
              have hh := hK.out (.pointer (some ⟨w2.heap.size, 1, none⟩)) wq rfl (Below.refl _ _) hC
              simp only [upd, Nat.reduceEqDiff, ↓reduceIte, d5] at hh
              exact hh
            | 9, ho =>
              obtain rfl := Option.some.inj (show some _ = some o from ho)
              intro vs wq hC hE K hK
              have d8 : vs 8 = .pointer (some ⟨w2.heap.size, 1, none⟩) := hE { on := 8, ground := Ground.data } (by simp) rfl
              have d5 : vs 5 = .bool false := hE { on := 5, ground := Ground.guard } (by simp) rfl
              have t0 := (hC.cell (p := ⟨w2.heap.size, 1, none⟩) (by simp; omega)).trans r1
              go_simp
              have hh := hK.out (.int .i64 ↑q) wq rfl (Below.refl _ _) hC
              simp only [upd, Nat.reduceEqDiff, ↓reduceIte, d5, d8] at hh
              exact hh
            | 10, ho =>
              obtain rfl := Option.some.inj (show some _ = some o from ho)
              intro vs wq hC hE K hK
              have d7 : vs 7 = .int .i64 ↑q := hE { on := 7, ground := Ground.data } (by simp) rfl
              have d9 : vs 9 = .int .i64 ↑q := hE { on := 9, ground := Ground.data } (by simp) rfl
              have d5 : vs 5 = .bool false := hE { on := 5, ground := Ground.guard } (by simp) rfl
              go_simp
              have hh := hK.out (.bool false) wq rfl (Below.refl _ _) hC
              simp only [upd, Nat.reduceEqDiff, ↓reduceIte, d5, d7, d9] at hh
              exact hh
            | 11, ho =>
              obtain rfl := Option.some.inj (show some _ = some o from ho)
              intro vs wq hC hE K hK
              have d5 : vs 5 = .bool false := hE { on := 5, ground := Ground.data } (by simp) rfl
              have d10 : vs 10 = .bool false := hE { on := 10, ground := Ground.data } (by simp) rfl
              go_simp
              have hh := hK.out (.bool false) wq rfl (Below.refl _ _) hC
              simp only [upd, Nat.reduceEqDiff, ↓reduceIte, d5, d10] at hh
              exact hh
            | 12, ho =>
              obtain rfl := Option.some.inj (show some _ = some o from ho)
              intro vs wq hC hE K hK
              have d11 : vs 11 = .bool false := hE { on := 11, ground := Ground.data } (by simp) rfl
              go_simp
              have hh := hK.out (.bool false) wq rfl (Below.refl _ _) hC
              simp only [upd, Nat.reduceEqDiff, ↓reduceIte, d11] at hh
              exact hh
            | 13, ho =>
              obtain rfl := Option.some.inj (show some _ = some o from ho)
              intro vs wq hC hE K hK
              have d12 : vs 12 = .bool false := hE { on := 12, ground := Ground.guard } (by simp) rfl
              go_simp
              have hh := hK.out (.pointer (some ⟨w4.heap.size, 2, none⟩)) wq rfl (Below.refl _ _) hC
              simp only [upd, Nat.reduceEqDiff, ↓reduceIte, d12] at hh
              exact hh
            | 14, ho =>
              obtain rfl := Option.some.inj (show some _ = some o from ho)
              intro vs wq hC hE K hK
              have d13 : vs 13 = .pointer (some ⟨w4.heap.size, 2, none⟩) := hE { on := 13, ground := Ground.data } (by simp) rfl
              have d12 : vs 12 = .bool false := hE { on := 12, ground := Ground.guard } (by simp) rfl
              have t0 := (hC.cell (p := ⟨w4.heap.size, 2, none⟩) (by simp)).trans s2
              go_simp
              have hh := hK.out (.int .i64 0) wq rfl (Below.refl _ _) hC
              simp only [upd, Nat.reduceEqDiff, ↓reduceIte, d12, d13] at hh
              exact hh
            | 15, ho =>
              obtain rfl := Option.some.inj (show some _ = some o from ho)
              intro vs wq hC hE K hK
              have d14 : vs 14 = .int .i64 0 := hE { on := 14, ground := Ground.data } (by simp) rfl
              have d12 : vs 12 = .bool false := hE { on := 12, ground := Ground.guard } (by simp) rfl
              go_simp
              have hh := hK.out (.bool true) wq rfl (Below.refl _ _) hC
              simp only [upd, Nat.reduceEqDiff, ↓reduceIte, d12, d14] at hh
              exact hh
            | 16, ho =>
              obtain rfl := Option.some.inj (show some _ = some o from ho)
              intro vs wq hC hE K hK
              have d15 : vs 15 = .bool true := hE { on := 15, ground := Ground.data } (by simp) rfl
              have d12 : vs 12 = .bool false := hE { on := 12, ground := Ground.guard } (by simp) rfl
              go_simp
              have hh := hK.out (.bool true) wq rfl (Below.refl _ _) hC
              simp only [upd, Nat.reduceEqDiff, ↓reduceIte, d12, d15] at hh
              exact hh
            | 17, ho =>
              obtain rfl := Option.some.inj (show some _ = some o from ho)
              intro vs wq hC hE K hK
              have d16 : vs 16 = .bool true := hE { on := 16, ground := Ground.guard } (by simp) rfl
              go_simp
              have hh := hK.out (.slice A zs.length c) wq rfl (Below.refl _ _) hC
              simp only [upd, Nat.reduceEqDiff, ↓reduceIte, d16] at hh
              exact hh
            | 18, ho =>
              obtain rfl := Option.some.inj (show some _ = some o from ho)
              intro vs wq hC hE K hK
              have d16 : vs 16 = .bool true := hE { on := 16, ground := Ground.guard } (by simp) rfl
              go_simp
              have hh := hK.out (.int .i64 ↑k) wq rfl (Below.refl _ _) hC
              simp only [upd, Nat.reduceEqDiff, ↓reduceIte, d16] at hh
              exact hh
            | 19, ho =>
              obtain rfl := Option.some.inj (show some _ = some o from ho)
              intro vs wq hC hE K hK
              have d17 : vs 17 = .slice A zs.length c := hE { on := 17, ground := Ground.data } (by simp) rfl
              have d18 : vs 18 = .int .i64 ↑k := hE { on := 18, ground := Ground.data } (by simp) rfl
              have d16 : vs 16 = .bool true := hE { on := 16, ground := Ground.guard } (by simp) rfl
              go_simp
              have hh := hK.out (.slice A k c) wq rfl (Below.refl _ _) hC
              simp only [upd, Nat.reduceEqDiff, ↓reduceIte, d16, d17, d18] at hh
              exact hh
            | 20, ho =>
              obtain rfl := Option.some.inj (show some _ = some o from ho)
              intro vs wq hC hE K hK
              have d16 : vs 16 = .bool true := hE { on := 16, ground := Ground.guard } (by simp) rfl
              go_simp
              have hh := hK.out (.int .i64 zg) wq rfl (Below.refl _ _) hC
              simp only [upd, Nat.reduceEqDiff, ↓reduceIte, d16] at hh
              exact hh
            | 21, ho =>
              obtain rfl := Option.some.inj (show some _ = some o from ho)
              intro vs wq hC hE K hK
              have d19 : vs 19 = .slice A k c := hE { on := 19, ground := Ground.data } (by simp) rfl
              have d20 : vs 20 = .int .i64 zg := hE { on := 20, ground := Ground.data } (by simp) rfl
              have d16 : vs 16 = .bool true := hE { on := 16, ground := Ground.guard } (by simp) rfl
              go_simp
              go_at_call 9
              refine (PI.out _ (hBW.trans (hC.mono (by simp; omega)))).mono ?_
              rintro e w3 ⟨⟨v', rfl, hown⟩, hb3⟩
              rw [HQ.out] at hown
              obtain ⟨A3, c3, rfl, -, -, -, hSl, -⟩ := own_reads hown (Nat.le_refl _)
              have hh := hK.out (.slice A3 q c3) w3 ⟨A3, c3, rfl, hSl⟩ hb3 (hC.trans (hb3.mono hC.size))
              simp only [upd, Nat.reduceEqDiff, ↓reduceIte, d16, d19, d20] at hh
              exact hh
            | 22, ho =>
              obtain rfl := Option.some.inj (show some _ = some o from ho)
              intro vs wq hC hE K hK
              obtain ⟨A3, c3, d21, hS3⟩ : ∃ A3 c3, vs 21 = .slice A3 q c3 ∧ Sl wq wq.heap.size A3 q (by8 (zs.take q)) := hE { on := 21, ground := Ground.data } (by simp) rfl
              have d16 : vs 16 = .bool true := hE { on := 16, ground := Ground.guard } (by simp) rfl
              have cv := conv8 c3 hS3
              go_simp
              have hh := hK.out (.string (strOfNums (zs.take q))) wq rfl (Below.refl _ _) hC
              simp only [upd, Nat.reduceEqDiff, ↓reduceIte, d16, d21] at hh
              exact hh
            | 23, ho =>
              obtain rfl := Option.some.inj (show some _ = some o from ho)
              intro vs wq hC hE K hK
              have d16 : vs 16 = .bool true := hE { on := 16, ground := Ground.guard } (by simp) rfl
              go_simp
              have hh := hK.out (.slice A zs.length c) wq rfl (Below.refl _ _) hC
              simp only [upd, Nat.reduceEqDiff, ↓reduceIte, d16] at hh
              exact hh
            | 24, ho =>
              obtain rfl := Option.some.inj (show some _ = some o from ho)
              intro vs wq hC hE K hK
              have d16 : vs 16 = .bool true := hE { on := 16, ground := Ground.guard } (by simp) rfl
              go_simp
              have hh := hK.out (.pointer (some ⟨w4.heap.size, 1, none⟩)) wq rfl (Below.refl _ _) hC
              simp only [upd, Nat.reduceEqDiff, ↓reduceIte, d16] at hh
              exact hh
            | 25, ho =>
              obtain rfl := Option.some.inj (show some _ = some o from ho)
              intro vs wq hC hE K hK
              have d24 : vs 24 = .pointer (some ⟨w4.heap.size, 1, none⟩) := hE { on := 24, ground := Ground.data } (by simp) rfl
              have d16 : vs 16 = .bool true := hE { on := 16, ground := Ground.guard } (by simp) rfl
              have t0 := (hC.cell (p := ⟨w4.heap.size, 1, none⟩) (by simp)).trans s1
              go_simp
              have hh := hK.out (.int .i64 ↑q) wq rfl (Below.refl _ _) hC
              simp only [upd, Nat.reduceEqDiff, ↓reduceIte, d16, d24] at hh
              exact hh
            | 26, ho =>
              obtain rfl := Option.some.inj (show some _ = some o from ho)
              intro vs wq hC hE K hK
              have d23 : vs 23 = .slice A zs.length c := hE { on := 23, ground := Ground.data } (by simp) rfl
              have d25 : vs 25 = .int .i64 ↑q := hE { on := 25, ground := Ground.data } (by simp) rfl
              have d16 : vs 16 = .bool true := hE { on := 16, ground := Ground.guard } (by simp) rfl
              go_simp
              have hh := hK.out (.slice A q c) wq rfl (Below.refl _ _) hC
              simp only [upd, Nat.reduceEqDiff, ↓reduceIte, d16, d23, d25] at hh
              exact hh
            | 27, ho =>
              obtain rfl := Option.some.inj (show some _ = some o from ho)
              intro vs wq hC hE K hK
              have d26 : vs 26 = .slice A q c := hE { on := 26, ground := Ground.data } (by simp) rfl
              have d16 : vs 16 = .bool true := hE { on := 16, ground := Ground.guard } (by simp) rfl
              have cv := conv8 c (SQ.out.below (hBW.trans (hC.mono (by simp; omega))))
              go_simp
              have hh := hK.out (.string (strOfNums (zs.take q))) wq rfl (Below.refl _ _) hC
              simp only [upd, Nat.reduceEqDiff, ↓reduceIte, d16, d26] at hh
              exact hh
            | 28, ho =>
              obtain rfl := Option.some.inj (show some _ = some o from ho)
              intro vs wq hC hE K hK
              have d22 : vs 22 = .string (strOfNums (zs.take q)) := hE { on := 22, ground := Ground.data } (by simp) rfl
              have d27 : vs 27 = .string (strOfNums (zs.take q)) := hE { on := 27, ground := Ground.data } (by simp) rfl
              have d16 : vs 16 = .bool true := hE { on := 16, ground := Ground.guard } (by simp) rfl
              go_simp
              have hh := hK.out (.bool false) wq rfl (Below.refl _ _) hC
              simp only [upd, Nat.reduceEqDiff, ↓reduceIte, d16, d22, d27] at hh
              exact hh
            | 29, ho =>
              obtain rfl := Option.some.inj (show some _ = some o from ho)
              intro vs wq hC hE K hK
              have d16 : vs 16 = .bool true := hE { on := 16, ground := Ground.data } (by simp) rfl
              have d28 : vs 28 = .bool false := hE { on := 28, ground := Ground.data } (by simp) rfl
              have d12 : vs 12 = .bool false := hE { on := 12, ground := Ground.guard } (by simp) rfl
              go_simp
              have hh := hK.out (.bool false) wq rfl (Below.refl _ _) hC
              simp only [upd, Nat.reduceEqDiff, ↓reduceIte, d12, d16, d28] at hh
              exact hh
            | 30, ho =>
              obtain rfl := Option.some.inj (show some _ = some o from ho)
              intro vs wq hC hE K hK
              have d12 : vs 12 = .bool false := hE { on := 12, ground := Ground.data } (by simp) rfl
              have d29 : vs 29 = .bool false := hE { on := 29, ground := Ground.data } (by simp) rfl
              go_simp
              have hh := hK.out (.bool false) wq rfl (Below.refl _ _) hC
              simp only [upd, Nat.reduceEqDiff, ↓reduceIte, d12, d29] at hh
              exact hh
            | (_ + 31), ho => exact absurd ho (by simp)
          case hend =>
            intro vs wq hC hE
            have r := hE 30 (by decide)
            simp only at r
            go_wp2_with fail
            go_meet
            exact ⟨r, hBW.trans (hC.mono (by simp; omega)), (hC.block _ (by simp; omega)).trans K8', by have := hC.size; simp at this; omega⟩
        case rest =>
          obtain ⟨rfl, hBy, K8y, hz8y⟩ := hcut
          obtain ⟨c0, c1, c2, f0, f1, f2⟩ := blk3 K8y
          go_wp2_with fail
          with_reducible refine (TI.out _ hBy).mono ?_
          rintro e w5 ⟨rfl, hb5⟩
          have hB5 : Below w.heap.size w w5 := hBy.trans (hb5.mono hBy.size)
          have hBW := hB5.alloc hB5.size (.cells #[.slice A zs.length c, .int .i64 p2, .int .i64 e2] 26)
          have K13 := heap_alloc_new w5 (.cells #[.slice A zs.length c, .int .i64 p2, .int .i64 e2] 26)
          have s1 := (blk3 K13).2.1
          clear c0 c1 c2 f0 f1 f2 K8y
          by_cases he2 : e2 = 0
          · subst he2
            obtain ⟨q2, rfl, hkq2, hql2, hcat2, hmost, hbb⟩ := tx_one HZ.out hkl ht2.out
            have hSk2 := SK.out
            have hSq2 : Sl w w.heap.size A q2 (by8 (zs.take q2)) := by
              have := HS.out.take (k := q2) hql2
              unfold by8 at this ⊢; rwa [← List.map_take] at this
            have hPT : ∀ w', Below w.heap.size w w' → Calls Try.prog 11 #[.slice A k c, .string (strOfNums bs)] w' (Puts w'.heap.size w' (zs.take q2)) := fun w' hbel => by
              have := PutText_any (c := c) ((hSk2.below hbel).up hbel.size) HN.out (by rw [List.length_take]; omega) (strOfNums bs) (by rw [strOfNums_size]; omega)
              rwa [strOfNums_size, sI_str hbb, hcat2] at this
            have PT := hid hPT
            have SQ2 := hid hSq2
            have HQ2 : Hid ((zs.take q2).length = q2) := hid (by rw [List.length_take]; omega)
            have hsz : ((strOfNums bs).size : Int) ≤ most := by rw [strOfNums_size]; exact hmost
            generalize strOfNums bs = sb at *
            clear hPT hSq2 hSk2 hcat2 hmost hbb
            have j1 : (k : Int) ≤ (q2 : Int) := by omega
            have j2 : (q2 : Int) ≤ (zs.length : Int) := by omega
            have j3 : (q2 : Int) ≤ (c : Int) := by omega
            have jd1 : decide ((k : Int) ≤ (q2 : Int)) = true := by simp; omega
            have jd2 : decide (k ≤ q2) = true := by simp; omega
            have jd3 : decide ((q2 : Int) ≤ (zs.length : Int)) = true := by simp; omega
            have jd4 : decide (q2 ≤ zs.length) = true := by simp; omega
            have hws : w.heap.size ≤ w5.heap.size := hB5.size
            have jd5 : decide ((sb.size : Int) ≤ most) = true := by simp; omega
            go_wp2_with fail
            refine wp_region_env (A := fun vs => { tmps := #[Value.slice A zs.length c, Value.int IntKind.u16 p, Value.int IntKind.u8 most, undef, undef, undef, vs 32, Value.int IntKind.i64 ↑k, Value.pointer (some { block := w1.heap.size, off := 0 }), Value.pointer (some { block := w2.heap.size, off := 0 }), Value.int IntKind.u64 ↑v, Value.pointer (some { block := w4.heap.size, off := 0 }), Value.int IntKind.i64 zg, Value.pointer (some { block := w5.heap.size, off := 0 }), Value.string sb, u15, u16, u17, u18, u19, u20, u21, u22, u23, u24, u25, u26, u27, u28, u29, u30, u31, u32, u33, u34, u35, u36, u37, u38, u39, u40, u41, u42, u43, u44, u45, u46, u47, u48, u49, u50, u51, u52, u53, u54, u55, u56, u57, u58, u59, u60, u61, u62, u63, u64, u65, u66, u67, u68, u69, u70, u71, u72, u73, u74, u75, u76, u77, u78, u79, u80, u81, u82, u83, u84, u85, u86, u87, u88, u89, u90, u91, u92, u93, u94, u95, u96, u97, u98, u99, u100, u101, u102, u103, u104, Value.bool false, Value.tuple #[Value.agg #[Value.slice A zs.length c, Value.int IntKind.i64 ↑q2, Value.int IntKind.i64 0], Value.string sb], Value.agg #[Value.slice A zs.length c, Value.int IntKind.i64 ↑k, Value.int IntKind.i64 0], Value.int IntKind.u8 most, Value.int IntKind.i64 most, Value.tuple #[Value.agg #[Value.slice A zs.length c, Value.int IntKind.i64 ↑q2, Value.int IntKind.i64 0], Value.string sb], Value.agg #[Value.slice A zs.length c, Value.int IntKind.i64 ↑q2, Value.int IntKind.i64 0], Value.string sb, Value.pointer (some { block := w5.heap.size, off := 2 }), Value.int IntKind.i64 0, Value.bool false, u116, u117, u118, u119, u120, u121, u122, u123, vs 0, vs 1, vs 2, vs 3, vs 4, vs 5, vs 6, vs 7, vs 8, vs 9, vs 10, vs 11, vs 12, vs 13, vs 14, vs 15, vs 16, vs 17, vs 18, vs 19, vs 20, vs 21, vs 22, vs 23, vs 24, vs 25, vs 26, vs 27, vs 28, vs 29, vs 30, vs 31], defers := [] }) (E := fun i yv wq => match i with | 0 => yv = .pointer (some ⟨w5.heap.size, 1, none⟩) | 1 => yv = .int .i64 ↑q2 | 2 => yv = .int .i64 ↑k | 3 => yv = .bool true | 4 => yv = .bool true | 5 => yv = .pointer (some ⟨w5.heap.size, 1, none⟩) | 6 => yv = .int .i64 ↑q2 | 7 => yv = .slice A zs.length c | 8 => yv = .int .i64 ↑zs.length | 9 => yv = .bool true | 10 => yv = .bool true | 11 => yv = .bool true | 12 => yv = .string sb | 13 => yv = .int .i64 ↑sb.size | 14 => yv = .int .u8 most | 15 => yv = .int .i64 most | 16 => yv = .bool true | 17 => yv = .bool true | 18 => yv = .bool true | 19 => yv = .slice A zs.length c | 20 => yv = .int .i64 ↑k | 21 => yv = .slice A k c | 22 => yv = .string sb | 23 => ∃ A3 c3, yv = .slice A3 q2 c3 ∧ Sl wq wq.heap.size A3 q2 (by8 (zs.take q2)) | 24 => yv = .string (strOfNums (zs.take q2)) | 25 => yv = .slice A zs.length c | 26 => yv = .pointer (some ⟨w5.heap.size, 1, none⟩) | 27 => yv = .int .i64 ↑q2 | 28 => yv = .slice A q2 c | 29 => yv = .string (strOfNums (zs.take q2)) | 30 => yv = .bool true | 31 => yv = .bool true | 32 => yv = .bool true | _ => True) (C := fun wq => Below (w5.alloc (.cells #[.slice A zs.length c, .int .i64 ↑q2, .int .i64 0] 26)).heap.size (w5.alloc (.cells #[.slice A zs.length c, .int .i64 ↑q2, .int .i64 0] 26)) wq) (Ext := fun a b => Below a.heap.size a b) (fun i => match i with | 0 => u124 | 1 => u125 | 2 => u126 | 3 => u127 | 4 => u128 | 5 => u129 | 6 => u130 | 7 => u131 | 8 => u132 | 9 => u133 | 10 => u134 | 11 => u135 | 12 => u136 | 13 => u137 | 14 => u138 | 15 => u139 | 16 => u140 | 17 => u141 | 18 => u142 | 19 => u143 | 20 => u144 | 21 => u145 | 22 => u146 | 23 => u147 | 24 => u148 | 25 => u149 | 26 => u150 | 27 => u151 | 28 => u152 | 29 => u153 | 30 => u154 | 31 => u155 | 32 => Value.bool false | _ => undef) (by kernel_rfl) (by rfl) ?hC ?hstep ?hstab (low_of (by kernel_rfl)) ?hend
            case hC => exact Below.drew (Below.refl _ _)
            case hstab =>
              intro i yv wa wb hx h
              match i, h with
              | 0, h => exact h
              | 1, h => exact h
              | 2, h => exact h
              | 3, h => exact h
              | 4, h => exact h
              | 5, h => exact h
              | 6, h => exact h
              | 7, h => exact h
              | 8, h => exact h
              | 9, h => exact h
              | 10, h => exact h
              | 11, h => exact h
              | 12, h => exact h
              | 13, h => exact h
              | 14, h => exact h
              | 15, h => exact h
              | 16, h => exact h
              | 17, h => exact h
              | 18, h => exact h
              | 19, h => exact h
              | 20, h => exact h
              | 21, h => exact h
              | 22, h => exact h
              | 23, h => exact (by obtain ⟨A3, c3, h1, h2⟩ := h; exact ⟨A3, c3, h1, (h2.below hx).up hx.size⟩)
              | 24, h => exact h
              | 25, h => exact h
              | 26, h => exact h
              | 27, h => exact h
              | 28, h => exact h
              | 29, h => exact h
              | 30, h => exact h
              | 31, h => exact h
              | 32, h => exact h
              | (_ + 33), _ => trivial
            case hstep =>
              intro i o ho
              match i, ho with
              | 0, ho =>
                obtain rfl := Option.some.inj (show some _ = some o from ho)
                intro vs wq hC hE K hK
                go_simp
                have hh := hK.out (.pointer (some ⟨w5.heap.size, 1, none⟩)) wq rfl (Below.refl _ _) hC
                simp only [upd, Nat.reduceEqDiff, ↓reduceIte] at hh
                exact hh
              | 1, ho =>
                obtain rfl := Option.some.inj (show some _ = some o from ho)
                intro vs wq hC hE K hK
                have d0 : vs 0 = .pointer (some ⟨w5.heap.size, 1, none⟩) := hE { on := 0, ground := Ground.data } (by simp) rfl
                have t0 := (hC.cell (p := ⟨w5.heap.size, 1, none⟩) (by simp)).trans s1
                go_simp
                have hh := hK.out (.int .i64 ↑q2) wq rfl (Below.refl _ _) hC
                simp only [upd, Nat.reduceEqDiff, ↓reduceIte, d0] at hh
                exact hh
              | 2, ho =>
                obtain rfl := Option.some.inj (show some _ = some o from ho)
                intro vs wq hC hE K hK
                go_simp
                have hh := hK.out (.int .i64 ↑k) wq rfl (Below.refl _ _) hC
                simp only [upd, Nat.reduceEqDiff, ↓reduceIte] at hh
                exact hh
              | 3, ho =>
                obtain rfl := Option.some.inj (show some _ = some o from ho)
                intro vs wq hC hE K hK
                have d1 : vs 1 = .int .i64 ↑q2 := hE { on := 1, ground := Ground.data } (by simp) rfl
                have d2 : vs 2 = .int .i64 ↑k := hE { on := 2, ground := Ground.data } (by simp) rfl
                go_simp
                have hh := hK.out (.bool true) wq rfl (Below.refl _ _) hC
                simp only [upd, Nat.reduceEqDiff, ↓reduceIte, d1, d2] at hh
                exact hh
              | 4, ho =>
                obtain rfl := Option.some.inj (show some _ = some o from ho)
                intro vs wq hC hE K hK
                have d3 : vs 3 = .bool true := hE { on := 3, ground := Ground.data } (by simp) rfl
                go_simp
                have hh := hK.out (.bool true) wq rfl (Below.refl _ _) hC
                simp only [upd, Nat.reduceEqDiff, ↓reduceIte, d3] at hh
                exact hh
              | 5, ho =>
                obtain rfl := Option.some.inj (show some _ = some o from ho)
                intro vs wq hC hE K hK
                have d4 : vs 4 = .bool true := hE { on := 4, ground := Ground.guard } (by simp) rfl
                go_simp
                have hh := hK.out (.pointer (some ⟨w5.heap.size, 1, none⟩)) wq rfl (Below.refl _ _) hC
                simp only [upd, Nat.reduceEqDiff, ↓reduceIte, d4] at hh
                exact hh
              | 6, ho =>
                obtain rfl := Option.some.inj (show some _ = some o from ho)
                intro vs wq hC hE K hK
                have d5 : vs 5 = .pointer (some ⟨w5.heap.size, 1, none⟩) := hE { on := 5, ground := Ground.data } (by simp) rfl
                have d4 : vs 4 = .bool true := hE { on := 4, ground := Ground.guard } (by simp) rfl
                have t0 := (hC.cell (p := ⟨w5.heap.size, 1, none⟩) (by simp)).trans s1
                go_simp
                have hh := hK.out (.int .i64 ↑q2) wq rfl (Below.refl _ _) hC
                simp only [upd, Nat.reduceEqDiff, ↓reduceIte, d4, d5] at hh
                exact hh
              | 7, ho =>
                obtain rfl := Option.some.inj (show some _ = some o from ho)
                intro vs wq hC hE K hK
                have d4 : vs 4 = .bool true := hE { on := 4, ground := Ground.guard } (by simp) rfl
                go_simp
                have hh := hK.out (.slice A zs.length c) wq rfl (Below.refl _ _) hC
                simp only [upd, Nat.reduceEqDiff, ↓reduceIte, d4] at hh
                exact hh
              | 8, ho =>
                obtain rfl := Option.some.inj (show some _ = some o from ho)
                intro vs wq hC hE K hK
                have d7 : vs 7 = .slice A zs.length c := hE { on := 7, ground := Ground.data } (by simp) rfl
                have d4 : vs 4 = .bool true := hE { on := 4, ground := Ground.guard } (by simp) rfl
                go_simp
                have hh := hK.out (.int .i64 ↑zs.length) wq rfl (Below.refl _ _) hC
                simp only [upd, Nat.reduceEqDiff, ↓reduceIte, d4, d7] at hh
                exact hh
              | 9, ho =>
                obtain rfl := Option.some.inj (show some _ = some o from ho)
                intro vs wq hC hE K hK
                have d6 : vs 6 = .int .i64 ↑q2 := hE { on := 6, ground := Ground.data } (by simp) rfl
                have d8 : vs 8 = .int .i64 ↑zs.length := hE { on := 8, ground := Ground.data } (by simp) rfl
                have d4 : vs 4 = .bool true := hE { on := 4, ground := Ground.guard } (by simp) rfl
                go_simp
                have hh := hK.out (.bool true) wq rfl (Below.refl _ _) hC
                simp only [upd, Nat.reduceEqDiff, ↓reduceIte, d4, d6, d8] at hh
                exact hh
              | 10, ho =>
                obtain rfl := Option.some.inj (show some _ = some o from ho)
                intro vs wq hC hE K hK
                have d4 : vs 4 = .bool true := hE { on := 4, ground := Ground.data } (by simp) rfl
                have d9 : vs 9 = .bool true := hE { on := 9, ground := Ground.data } (by simp) rfl
                go_simp
                have hh := hK.out (.bool true) wq rfl (Below.refl _ _) hC
                simp only [upd, Nat.reduceEqDiff, ↓reduceIte, d4, d9] at hh
                exact hh
              | 11, ho =>
                obtain rfl := Option.some.inj (show some _ = some o from ho)
                intro vs wq hC hE K hK
                have d10 : vs 10 = .bool true := hE { on := 10, ground := Ground.data } (by simp) rfl
                go_simp
                have hh := hK.out (.bool true) wq rfl (Below.refl _ _) hC
                simp only [upd, Nat.reduceEqDiff, ↓reduceIte, d10] at hh
                exact hh
              | 12, ho =>
                obtain rfl := Option.some.inj (show some _ = some o from ho)
                intro vs wq hC hE K hK
                have d11 : vs 11 = .bool true := hE { on := 11, ground := Ground.guard } (by simp) rfl
                go_simp
                have hh := hK.out (.string sb) wq rfl (Below.refl _ _) hC
                simp only [upd, Nat.reduceEqDiff, ↓reduceIte, d11] at hh
                exact hh
              | 13, ho =>
                obtain rfl := Option.some.inj (show some _ = some o from ho)
                intro vs wq hC hE K hK
                have d12 : vs 12 = .string sb := hE { on := 12, ground := Ground.data } (by simp) rfl
                have d11 : vs 11 = .bool true := hE { on := 11, ground := Ground.guard } (by simp) rfl
                go_simp
                have hh := hK.out (.int .i64 ↑sb.size) wq rfl (Below.refl _ _) hC
                simp only [upd, Nat.reduceEqDiff, ↓reduceIte, d11, d12] at hh
                exact hh
              | 14, ho =>
                obtain rfl := Option.some.inj (show some _ = some o from ho)
                intro vs wq hC hE K hK
                have d11 : vs 11 = .bool true := hE { on := 11, ground := Ground.guard } (by simp) rfl
                go_simp
                have hh := hK.out (.int .u8 most) wq rfl (Below.refl _ _) hC
                simp only [upd, Nat.reduceEqDiff, ↓reduceIte, d11] at hh
                exact hh
              | 15, ho =>
                obtain rfl := Option.some.inj (show some _ = some o from ho)
                intro vs wq hC hE K hK
                have d14 : vs 14 = .int .u8 most := hE { on := 14, ground := Ground.data } (by simp) rfl
                have d11 : vs 11 = .bool true := hE { on := 11, ground := Ground.guard } (by simp) rfl
                have hw15 : IntKind.i64.wrap most = most := Go.IntWalk.i64_in _ (by omega)
                go_simp
                have hh := hK.out (.int .i64 most) wq rfl (Below.refl _ _) hC
                simp only [upd, Nat.reduceEqDiff, ↓reduceIte, d11, d14] at hh
                exact hh
              | 16, ho =>
                obtain rfl := Option.some.inj (show some _ = some o from ho)
                intro vs wq hC hE K hK
                have d13 : vs 13 = .int .i64 ↑sb.size := hE { on := 13, ground := Ground.data } (by simp) rfl
                have d15 : vs 15 = .int .i64 most := hE { on := 15, ground := Ground.data } (by simp) rfl
                have d11 : vs 11 = .bool true := hE { on := 11, ground := Ground.guard } (by simp) rfl
                go_simp
                have hh := hK.out (.bool true) wq rfl (Below.refl _ _) hC
                simp only [upd, Nat.reduceEqDiff, ↓reduceIte, d11, d13, d15] at hh
                exact hh
              | 17, ho =>
                obtain rfl := Option.some.inj (show some _ = some o from ho)
                intro vs wq hC hE K hK
                have d11 : vs 11 = .bool true := hE { on := 11, ground := Ground.data } (by simp) rfl
                have d16 : vs 16 = .bool true := hE { on := 16, ground := Ground.data } (by simp) rfl
                go_simp
                have hh := hK.out (.bool true) wq rfl (Below.refl _ _) hC
                simp only [upd, Nat.reduceEqDiff, ↓reduceIte, d11, d16] at hh
                exact hh
              | 18, ho =>
                obtain rfl := Option.some.inj (show some _ = some o from ho)
                intro vs wq hC hE K hK
                have d17 : vs 17 = .bool true := hE { on := 17, ground := Ground.data } (by simp) rfl
                go_simp
                have hh := hK.out (.bool true) wq rfl (Below.refl _ _) hC
                simp only [upd, Nat.reduceEqDiff, ↓reduceIte, d17] at hh
                exact hh
              | 19, ho =>
                obtain rfl := Option.some.inj (show some _ = some o from ho)
                intro vs wq hC hE K hK
                have d18 : vs 18 = .bool true := hE { on := 18, ground := Ground.guard } (by simp) rfl
                go_simp
                have hh := hK.out (.slice A zs.length c) wq rfl (Below.refl _ _) hC
                simp only [upd, Nat.reduceEqDiff, ↓reduceIte, d18] at hh
                exact hh
              | 20, ho =>
                obtain rfl := Option.some.inj (show some _ = some o from ho)
                intro vs wq hC hE K hK
                have d18 : vs 18 = .bool true := hE { on := 18, ground := Ground.guard } (by simp) rfl
                go_simp
                have hh := hK.out (.int .i64 ↑k) wq rfl (Below.refl _ _) hC
                simp only [upd, Nat.reduceEqDiff, ↓reduceIte, d18] at hh
                exact hh
              | 21, ho =>
                obtain rfl := Option.some.inj (show some _ = some o from ho)
                intro vs wq hC hE K hK
                have d19 : vs 19 = .slice A zs.length c := hE { on := 19, ground := Ground.data } (by simp) rfl
                have d20 : vs 20 = .int .i64 ↑k := hE { on := 20, ground := Ground.data } (by simp) rfl
                have d18 : vs 18 = .bool true := hE { on := 18, ground := Ground.guard } (by simp) rfl
                go_simp
                have hh := hK.out (.slice A k c) wq rfl (Below.refl _ _) hC
                simp only [upd, Nat.reduceEqDiff, ↓reduceIte, d18, d19, d20] at hh
                exact hh
              | 22, ho =>
                obtain rfl := Option.some.inj (show some _ = some o from ho)
                intro vs wq hC hE K hK
                have d18 : vs 18 = .bool true := hE { on := 18, ground := Ground.guard } (by simp) rfl
                go_simp
                have hh := hK.out (.string sb) wq rfl (Below.refl _ _) hC
                simp only [upd, Nat.reduceEqDiff, ↓reduceIte, d18] at hh
                exact hh
              | 23, ho =>
                obtain rfl := Option.some.inj (show some _ = some o from ho)
                intro vs wq hC hE K hK
                have d21 : vs 21 = .slice A k c := hE { on := 21, ground := Ground.data } (by simp) rfl
                have d22 : vs 22 = .string sb := hE { on := 22, ground := Ground.data } (by simp) rfl
                have d18 : vs 18 = .bool true := hE { on := 18, ground := Ground.guard } (by simp) rfl
                go_simp
                go_at_call 11
                refine (PT.out _ (hBW.trans (hC.mono (by simp; omega)))).mono ?_
                rintro e w3 ⟨⟨v', rfl, hown⟩, hb3⟩
                rw [HQ2.out] at hown
                obtain ⟨A3, c3, rfl, -, -, -, hSl, -⟩ := own_reads hown (Nat.le_refl _)
                have hh := hK.out (.slice A3 q2 c3) w3 ⟨A3, c3, rfl, hSl⟩ hb3 (hC.trans (hb3.mono hC.size))
                simp only [upd, Nat.reduceEqDiff, ↓reduceIte, d18, d21, d22] at hh
                exact hh
              | 24, ho =>
                obtain rfl := Option.some.inj (show some _ = some o from ho)
                intro vs wq hC hE K hK
                obtain ⟨A3, c3, d23, hS3⟩ : ∃ A3 c3, vs 23 = .slice A3 q2 c3 ∧ Sl wq wq.heap.size A3 q2 (by8 (zs.take q2)) := hE { on := 23, ground := Ground.data } (by simp) rfl
                have d18 : vs 18 = .bool true := hE { on := 18, ground := Ground.guard } (by simp) rfl
                have cv := conv8 c3 hS3
                go_simp
                have hh := hK.out (.string (strOfNums (zs.take q2))) wq rfl (Below.refl _ _) hC
                simp only [upd, Nat.reduceEqDiff, ↓reduceIte, d18, d23] at hh
                exact hh
              | 25, ho =>
                obtain rfl := Option.some.inj (show some _ = some o from ho)
                intro vs wq hC hE K hK
                have d18 : vs 18 = .bool true := hE { on := 18, ground := Ground.guard } (by simp) rfl
                go_simp
                have hh := hK.out (.slice A zs.length c) wq rfl (Below.refl _ _) hC
                simp only [upd, Nat.reduceEqDiff, ↓reduceIte, d18] at hh
                exact hh
              | 26, ho =>
                obtain rfl := Option.some.inj (show some _ = some o from ho)
                intro vs wq hC hE K hK
                have d18 : vs 18 = .bool true := hE { on := 18, ground := Ground.guard } (by simp) rfl
                go_simp
                have hh := hK.out (.pointer (some ⟨w5.heap.size, 1, none⟩)) wq rfl (Below.refl _ _) hC
                simp only [upd, Nat.reduceEqDiff, ↓reduceIte, d18] at hh
                exact hh
              | 27, ho =>
                obtain rfl := Option.some.inj (show some _ = some o from ho)
                intro vs wq hC hE K hK
                have d26 : vs 26 = .pointer (some ⟨w5.heap.size, 1, none⟩) := hE { on := 26, ground := Ground.data } (by simp) rfl
                have d18 : vs 18 = .bool true := hE { on := 18, ground := Ground.guard } (by simp) rfl
                have t0 := (hC.cell (p := ⟨w5.heap.size, 1, none⟩) (by simp)).trans s1
                go_simp
                have hh := hK.out (.int .i64 ↑q2) wq rfl (Below.refl _ _) hC
                simp only [upd, Nat.reduceEqDiff, ↓reduceIte, d18, d26] at hh
                exact hh
              | 28, ho =>
                obtain rfl := Option.some.inj (show some _ = some o from ho)
                intro vs wq hC hE K hK
                have d25 : vs 25 = .slice A zs.length c := hE { on := 25, ground := Ground.data } (by simp) rfl
                have d27 : vs 27 = .int .i64 ↑q2 := hE { on := 27, ground := Ground.data } (by simp) rfl
                have d18 : vs 18 = .bool true := hE { on := 18, ground := Ground.guard } (by simp) rfl
                go_simp
                have hh := hK.out (.slice A q2 c) wq rfl (Below.refl _ _) hC
                simp only [upd, Nat.reduceEqDiff, ↓reduceIte, d18, d25, d27] at hh
                exact hh
              | 29, ho =>
                obtain rfl := Option.some.inj (show some _ = some o from ho)
                intro vs wq hC hE K hK
                have d28 : vs 28 = .slice A q2 c := hE { on := 28, ground := Ground.data } (by simp) rfl
                have d18 : vs 18 = .bool true := hE { on := 18, ground := Ground.guard } (by simp) rfl
                have cv := conv8 c (SQ2.out.below (hBW.trans (hC.mono (by simp; omega))))
                go_simp
                have hh := hK.out (.string (strOfNums (zs.take q2))) wq rfl (Below.refl _ _) hC
                simp only [upd, Nat.reduceEqDiff, ↓reduceIte, d18, d28] at hh
                exact hh
              | 30, ho =>
                obtain rfl := Option.some.inj (show some _ = some o from ho)
                intro vs wq hC hE K hK
                have d24 : vs 24 = .string (strOfNums (zs.take q2)) := hE { on := 24, ground := Ground.data } (by simp) rfl
                have d29 : vs 29 = .string (strOfNums (zs.take q2)) := hE { on := 29, ground := Ground.data } (by simp) rfl
                have d18 : vs 18 = .bool true := hE { on := 18, ground := Ground.guard } (by simp) rfl
                go_simp
                have hh := hK.out (.bool true) wq rfl (Below.refl _ _) hC
                simp only [upd, Nat.reduceEqDiff, ↓reduceIte, d18, d24, d29] at hh
                exact hh
              | 31, ho =>
                obtain rfl := Option.some.inj (show some _ = some o from ho)
                intro vs wq hC hE K hK
                have d18 : vs 18 = .bool true := hE { on := 18, ground := Ground.data } (by simp) rfl
                have d30 : vs 30 = .bool true := hE { on := 30, ground := Ground.data } (by simp) rfl
                go_simp
                have hh := hK.out (.bool true) wq rfl (Below.refl _ _) hC
                simp only [upd, Nat.reduceEqDiff, ↓reduceIte, d18, d30] at hh
                exact hh
              | 32, ho =>
                obtain rfl := Option.some.inj (show some _ = some o from ho)
                intro vs wq hC hE K hK
                have d31 : vs 31 = .bool true := hE { on := 31, ground := Ground.data } (by simp) rfl
                go_simp
                have hh := hK.out (.bool true) wq rfl (Below.refl _ _) hC
                simp only [upd, Nat.reduceEqDiff, ↓reduceIte, d31] at hh
                exact hh
              | (_ + 33), ho => exact absurd ho (by simp)
            case hend =>
              intro vs wq hC hE
              have r := hE 32 (by decide)
              simp only at r
              rw [r]
              go_wp2_with fail
              go_ret
              exact ⟨by first | rfl | simp, hBW.trans (hC.mono (by simp; omega))⟩
          · obtain ⟨h2, rfl⟩ := tx_stay hkl he2 ht2.out
            subst h2
            rw [show strOfNums [] = ⟨#[]⟩ from rfl]
            go_wp2_with fail
            go_ret
            exact ⟨rfl, hBW⟩
    · have he2 := tx_no he hu ht
      obtain ⟨rfl, rfl⟩ := uS_stay hkl he hu
      obtain ⟨rfl, rfl⟩ := tx_stay hkl he2 ht
      generalize zag 0 = zg at *
      rw [show strOfNums [] = ⟨#[]⟩ from rfl] at TI
      clear hu ht
      obtain ⟨c0, c1, c2, f0, f1, f2⟩ := blk3 K8
      go_wp2_with fail
      with_reducible refine (II.out _ (hB2.alloc hB2.size _)).mono ?_
      rintro e w3 ⟨rfl, hb3⟩
      have K9 := (hb3.block w2.heap.size (by simp)).trans (heap_alloc_new w2 _)
      have K83 := (hb3.block w1.heap.size (by simp; omega)).trans ((Below.heap_alloc w2 _ _ (by omega)).trans K8)
      obtain ⟨d0, d1, d2, g0, g1, g2⟩ := blk3 K9
      clear c0 c1 c2 f0 f1 f2
      obtain ⟨c0, c1, c2, f0, f1, f2⟩ := blk3 K83
      have hz9 : w2.heap.size < w3.heap.size := by have := hb3.size; simp at this; omega
      have hz83 : w1.heap.size < w3.heap.size := by omega
      have hB3 : Below w.heap.size w w3 := (hB2.alloc hB2.size _).trans (hb3.mono (by simp; omega))
      go_wp2_with fail
      go_quiet (fail)
      go_wp2_with fail
      with_reducible refine (TI.out _ (belowN (hB3.alloc hB3.size _))).mono ?_
      rintro e w4 ⟨rfl, hb4⟩
      go_wp2_with fail
      go_ret
      have hB4 : Below w.heap.size w w4 := (belowN (hB3.alloc hB3.size _)).trans (hb4.mono (belowN (hB3.alloc hB3.size _)).size)
      exact ⟨rfl, hB4.alloc hB4.size _⟩
end Go.Proofs.Ytacdkifoiaacdaa
