/- The walk of CrcBack. -/
import Derived.Test.YtdoehcecpfadbaaCrcN
namespace Go.Proofs.Ytdoehcecpfadbaa
open Go.ChangeShapes Go.WideShapes Go.ChangeAt Go.RowKit Fb

theorem sum_inj {s t : Nat} (hs : s < 4294967296) (ht : t < 4294967296) {zs : List Int} (hb : Bytes zs) : (sumT tabN s (n8 zs) = sumT tabN t (n8 zs)) = (s = t) := by
  refine propext ⟨fun h => ?_, fun h => by rw [h]⟩
  unfold sumT at h
  have h1 := congrArg cpl h
  rw [cpl_cpl, cpl_cpl, regT_tabN _ _ (n8_lt hb), regT_tabN _ _ (n8_lt hb)] at h1
  have h2 := creg_inj _ (cpl_lt hs) (cpl_lt ht) (n8_lt hb) h1
  have h3 := congrArg cpl h2
  rwa [cpl_cpl, cpl_cpl] at h3
set_option maxRecDepth 100000 in
set_option maxHeartbeats 4000000 in
theorem back_walk {T : List Nat} (hT : Tb T) (a b : Nat) (ha : a < 4294967296) (hb : b < 4294967296) (A : Option Addr) (c n : Nat) (zs : List Int) (p : Int) (w : World) (hS : Sl w w.heap.size A n (by8 zs)) (hzs : Bytes zs) (hnil : A = none → c = 0) (hc : n ≤ c) (hcm : c ≤ maxLen) (hp : 0 ≤ p ∧ p ≤ 65535) :
    Calls Try.prog 5 #[.agg (c32 T), .int .u32 a, .int .u32 b, .slice A n c, .int .u16 p] w fun e w' => e = .returned (.bool true) ∧ Below w.heap.size w w' := by
  have hbY : Below w.heap.size w (w.alloc (.cells (c32 T) 23)) := (Below.refl _ _).alloc (Nat.le_refl _) _
  have hl : n = zs.length := by have := hS.len; rw [by8_len] at this; exact this.symm
  have HL := hid hl
  clear hl
  unfold maxLen at hcm
  by_cases hlong : 3000 < n
  · go_enter Try.func5, Try.ntmps5
    go_wp2_with fail
    refine (awake_any _).mono ?_
    rintro e w1 ⟨rfl, hb1⟩
    go_wp2_with fail
    go_ret
    exact ⟨rfl, hbY.trans (hb1.mono hbY.size)⟩
  · have Hs := hid (show (Try.prog.info? 23).map (·.size) = some (c32 T).size by rw [c32_size, hT.1]; exact t256_size)
    have PS := hid (fun (w' : World) (h : Below w.heap.size w w') => Seal_any hT (c := c) (hS.below h) h.size hzs hnil (by omega))
    have HT := hid (show sealed T ((sealed T zs).take n) = sealed T zs by rw [show (sealed T zs).take n = zs by unfold sealed; rw [HL.out, List.take_left]])
    have HX := hid (show (sealed T zs).take n = zs by unfold sealed; rw [HL.out, List.take_left])
    have HQ := hid (show (sealed T zs).length = n + 4 by rw [sealed_len, HL.out])
    have HZb := hid (sealed_bytes T hzs)
    generalize sealed T zs = Z at *
    go_enter Try.func5, Try.ntmps5
    go_wp2_with fail
    refine (awake_any _).mono ?_
    rintro e w1 ⟨rfl, hb1⟩
    have hbA : Below w.heap.size w w1 := hbY.trans (hb1.mono hbY.size)
    have kT1 := hid ((hb1.block w.heap.size (by simp)).trans (heap_alloc_new w _))
    have hg1 : w.heap.size < w1.heap.size := by have := hb1.size; simp at this; omega
    go_wp2_with fail
    refine wp_region_env (A := fun vs => { tmps := #[Value.agg (c32 T), Value.int IntKind.u32 ↑a, Value.int IntKind.u32 ↑b, Value.slice A n c, Value.int IntKind.u16 p, Value.pointer (some { block := w.heap.size, off := 0 }), undef, undef, undef, undef, Value.bool false, vs 8, vs 9, undef, undef, Value.bool true, Value.bool false, Value.slice A n c, Value.int IntKind.i64 ↑n, Value.bool (decide ((3000 : Int) < ↑n)), vs 5, vs 0, vs 1, vs 2, vs 3, vs 4, vs 6, vs 7, undef, undef, undef, undef, undef, undef, undef, undef, undef, undef, undef, undef, undef, undef, undef, undef, undef, undef, undef, undef, undef, undef, undef, undef, undef, undef, undef, undef, undef, undef, undef, undef, undef, undef, undef, undef, undef, undef, undef, undef, undef, undef, undef, undef, undef, undef, undef, undef, undef, undef, undef, undef], defers := [] }) (E := fun i yv wq => match i with | 0 => yv = .agg (c32 T) | 1 => yv = .agg (c32 T) | 2 => yv = .slice A n c | 3 => ∃ A3 c3, yv = .slice A3 (n + 4) c3 ∧ Rw wq A3 (n + 4) c3 Z | 4 => ∃ A4 c4, yv = .tuple #[.slice A4 n c4, .int .i64 0] ∧ Sl wq wq.heap.size A4 n (by8 zs) | 5 => ∃ A4 c4, yv = .tuple #[.slice A4 n c4, .int .i64 0] ∧ Sl wq wq.heap.size A4 n (by8 zs) | 6 => ∃ A4 c4, yv = .slice A4 n c4 ∧ Sl wq wq.heap.size A4 n (by8 zs) | 7 => yv = .int .i64 0 | 8 => ∃ A4 c4, yv = .slice A4 n c4 ∧ Sl wq wq.heap.size A4 n (by8 zs) | 9 => yv = .int .i64 0 | _ => True) (C := fun wq => Below w1.heap.size w1 wq) (Ext := fun a b => Below a.heap.size a b) (fun _ => undef) (by kernel_rfl) (by rfl) ?hC ?hstep ?hstab (low_of (by kernel_rfl)) ?hend
    case hC => exact Below.drew (Below.refl _ _)
    case hstab =>
      intro i yv wa wb hx h
      match i, h with
      | 0, h => exact h
      | 1, h => exact h
      | 2, h => exact h
      | 3, h => exact (by obtain ⟨A3, c3, h1, h2⟩ := h; exact ⟨A3, c3, h1, h2.below hx⟩)
      | 4, h => exact (by obtain ⟨A3, c3, h1, h2⟩ := h; exact ⟨A3, c3, h1, (h2.below hx).up hx.size⟩)
      | 5, h => exact (by obtain ⟨A3, c3, h1, h2⟩ := h; exact ⟨A3, c3, h1, (h2.below hx).up hx.size⟩)
      | 6, h => exact (by obtain ⟨A3, c3, h1, h2⟩ := h; exact ⟨A3, c3, h1, (h2.below hx).up hx.size⟩)
      | 7, h => exact h
      | 8, h => exact (by obtain ⟨A3, c3, h1, h2⟩ := h; exact ⟨A3, c3, h1, (h2.below hx).up hx.size⟩)
      | 9, h => exact h
      | (_ + 10), _ => trivial
    case hstep =>
      intro i o ho
      match i, ho with
      | 0, ho =>
        obtain rfl := Option.some.inj (show some _ = some o from ho)
        intro vs wq hC hE K hK
        rw [if_pos (by rfl)]
        refine wp_load_row 23 (.tmp 5) rfl w.heap.size rfl 23 _ (0, 0) _ ((hC.block w.heap.size hg1).trans kT1.out) Try.underlying23 rfl Hs.out ?_
        have hh := hK.out (.agg (c32 T)) wq rfl (Below.refl _ _) hC
        simp only [upd, Nat.reduceEqDiff, ↓reduceIte] at hh
        exact hh
      | 1, ho =>
        obtain rfl := Option.some.inj (show some _ = some o from ho)
        intro vs wq hC hE K hK
        rw [if_pos (by rfl)]
        refine wp_load_row 23 (.tmp 5) rfl w.heap.size rfl 23 _ (0, 0) _ ((hC.block w.heap.size hg1).trans kT1.out) Try.underlying23 rfl Hs.out ?_
        have hh := hK.out (.agg (c32 T)) wq rfl (Below.refl _ _) hC
        simp only [upd, Nat.reduceEqDiff, ↓reduceIte] at hh
        exact hh
      | 2, ho =>
        obtain rfl := Option.some.inj (show some _ = some o from ho)
        intro vs wq hC hE K hK
        go_simp
        have hh := hK.out (.slice A n c) wq rfl (Below.refl _ _) hC
        simp only [upd, Nat.reduceEqDiff, ↓reduceIte] at hh
        exact hh
      | 3, ho =>
        obtain rfl := Option.some.inj (show some _ = some o from ho)
        intro vs wq hC hE K hK
        obtain d1 : vs 1 = .agg (c32 T) := hE { on := 1, ground := Ground.data } (by simp) rfl
        obtain d2 : vs 2 = .slice A n c := hE { on := 2, ground := Ground.data } (by simp) rfl
        go_simp
        go_at_call 10
        refine (PS.out _ (hbA.trans (hC.mono hbA.size))).mono ?_
        rintro e w3 ⟨⟨v', rfl, hown⟩, hb3⟩
        rw [HQ.out] at hown
        obtain ⟨A3, c3, rfl, hR, -⟩ := own_rw hown
        have hh := hK.out (.slice A3 (n + 4) c3) w3 ⟨A3, c3, rfl, hR⟩ hb3 (hC.trans (hb3.mono hC.size))
        simp only [upd, Nat.reduceEqDiff, ↓reduceIte, d1, d2] at hh
        exact hh
      | 4, ho =>
        obtain rfl := Option.some.inj (show some _ = some o from ho)
        intro vs wq hC hE K hK
        obtain d0 : vs 0 = .agg (c32 T) := hE { on := 0, ground := Ground.data } (by simp) rfl
        obtain ⟨A3, c3, d3, hR⟩ : ∃ A3 c3, vs 3 = .slice A3 (n + 4) c3 ∧ Rw wq A3 (n + 4) c3 Z := hE { on := 3, ground := Ground.data } (by simp) rfl
        go_simp
        go_at_call 14
        refine (Open_any hT (c := c3) hR.1 HZb.out hR.2.2.2 (by omega) hR.2.1 hR.2.2.1 (by omega)).mono ?_
        rintro e w3 ⟨hO, hb3⟩
        rw [show n + 4 - 4 = n by omega] at hO
        unfold OpensP at hO
        rw [if_pos HT.out, HX.out] at hO
        obtain ⟨A4, c4, rfl, hS4⟩ := hO
        have hh := hK.out (.tuple #[.slice A4 n c4, .int .i64 0]) w3 ⟨A4, c4, rfl, hS4⟩ hb3 (hC.trans (hb3.mono hC.size))
        simp only [upd, Nat.reduceEqDiff, ↓reduceIte, d0, d3] at hh
        exact hh
      | 5, ho =>
        obtain rfl := Option.some.inj (show some _ = some o from ho)
        intro vs wq hC hE K hK
        obtain ⟨A4, c4, d4, hS4⟩ : ∃ A4 c4, vs 4 = .tuple #[.slice A4 n c4, .int .i64 0] ∧ Sl wq wq.heap.size A4 n (by8 zs) := hE { on := 4, ground := Ground.data } (by simp) rfl
        go_simp
        have hh := hK.out (.tuple #[.slice A4 n c4, .int .i64 0]) wq ⟨A4, c4, rfl, hS4⟩ (Below.refl _ _) hC
        simp only [upd, Nat.reduceEqDiff, ↓reduceIte, d4] at hh
        exact hh
      | 6, ho =>
        obtain rfl := Option.some.inj (show some _ = some o from ho)
        intro vs wq hC hE K hK
        obtain ⟨A4, c4, d5, hS4⟩ : ∃ A4 c4, vs 5 = .tuple #[.slice A4 n c4, .int .i64 0] ∧ Sl wq wq.heap.size A4 n (by8 zs) := hE { on := 5, ground := Ground.data } (by simp) rfl
        go_simp
        have hh := hK.out (.slice A4 n c4) wq ⟨A4, c4, rfl, hS4⟩ (Below.refl _ _) hC
        simp only [upd, Nat.reduceEqDiff, ↓reduceIte, d5] at hh
        exact hh
      | 7, ho =>
        obtain rfl := Option.some.inj (show some _ = some o from ho)
        intro vs wq hC hE K hK
        obtain ⟨A4, c4, d5, hS4⟩ : ∃ A4 c4, vs 5 = .tuple #[.slice A4 n c4, .int .i64 0] ∧ Sl wq wq.heap.size A4 n (by8 zs) := hE { on := 5, ground := Ground.data } (by simp) rfl
        go_simp
        have hh := hK.out (.int .i64 0) wq rfl (Below.refl _ _) hC
        simp only [upd, Nat.reduceEqDiff, ↓reduceIte, d5] at hh
        exact hh
      | 8, ho =>
        obtain rfl := Option.some.inj (show some _ = some o from ho)
        intro vs wq hC hE K hK
        obtain ⟨A4, c4, d6, hS4⟩ : ∃ A4 c4, vs 6 = .slice A4 n c4 ∧ Sl wq wq.heap.size A4 n (by8 zs) := hE { on := 6, ground := Ground.data } (by simp) rfl
        go_simp
        have hh := hK.out (.slice A4 n c4) wq ⟨A4, c4, rfl, hS4⟩ (Below.refl _ _) hC
        simp only [upd, Nat.reduceEqDiff, ↓reduceIte, d6] at hh
        exact hh
      | 9, ho =>
        obtain rfl := Option.some.inj (show some _ = some o from ho)
        intro vs wq hC hE K hK
        obtain d7 : vs 7 = .int .i64 0 := hE { on := 7, ground := Ground.data } (by simp) rfl
        go_simp
        have hh := hK.out (.int .i64 0) wq rfl (Below.refl _ _) hC
        simp only [upd, Nat.reduceEqDiff, ↓reduceIte, d7] at hh
        exact hh
      | (_ + 10), ho => exact absurd ho (by simp)
    case hend =>
      intro va wq0 hC hE
      obtain ⟨A4, c4, r8, hS4⟩ := hE 8 (by decide)
      have r9 : va 9 = _ := hE 9 (by decide)
      have hbq : Below w.heap.size w wq0 := hbA.trans (hC.mono hbA.size)
      have cv1 := conv8 c4 hS4
      have cv2 := conv8 c (hS.below hbq)
      have kTq := hid ((hC.block w.heap.size hg1).trans kT1.out)
      have hgq : w.heap.size < wq0.heap.size := Nat.lt_of_lt_of_le hg1 hC.size
      clear hS4 HT HX HQ HZb PS
      go_wp2_with fail
      obtain ⟨kk, hK, hKn⟩ : ∃ kk : Nat, p % ((n : Int) + 1) = kk ∧ kk ≤ n := by
        have m1 := Int.emod_nonneg p (b := (n : Int) + 1) (by omega)
        have m2 := Int.emod_lt_of_pos p (b := (n : Int) + 1) (by omega)
        exact ⟨(p % ((n : Int) + 1)).toNat, by omega, by omega⟩
      rw [hK]
      clear hK cv1 cv2 r8 r9
      have hkc : kk ≤ c := by omega
      have PU := hid (fun (w' : World) (h : Below w.heap.size w w') => Sum_crc hT (c := c) (s := a) (hS.below h) h.size hzs (by omega) ha)
      have PU1 := hid (fun (w' : World) (h : Below w.heap.size w w') => Sum_crc hT (c := c) (n := kk) (zs := zs.take kk) (s := a) (by have h2 := (hS.below h).take (k := kk) (by omega); rw [by8, ← List.map_take] at h2; exact h2) h.size (fun x hx => hzs x (List.mem_of_mem_take hx)) (by omega) ha)
      have hR2 : sumT T a (n8 (zs.take kk)) < 4294967296 := sumT_lt hT ha (n8_lt fun x hx => hzs x (List.mem_of_mem_take hx))
      have PU2 := hid (fun (w' : World) (A2 : Option Addr) (c2 : Nat) (h : Sl w' w'.heap.size A2 (n - kk) (by8 (zs.drop kk))) => Sum_crc hT (c := c2) (n := n - kk) (zs := zs.drop kk) (s := sumT T a (n8 (zs.take kk))) h (Nat.le_refl _) (fun x hx => hzs x (List.mem_of_mem_drop hx)) (by omega) hR2)
      rw [← sumT_append, ← n8_append, List.take_append_drop] at PU2
      have PU3 := hid (fun (w' : World) (h : Below w.heap.size w w') => Sum_crc hT (A := none) (n := 0) (c := 0) (zs := []) (s := a) (Sl.nil w' w.heap.size none) h.size (fun x hx => by cases hx) (by omega) ha)
      rw [show sumT T a (n8 []) = a from sumT_nil T a] at PU3
      generalize sumT T a (n8 zs) = R1 at *
      generalize sumT T a (n8 (zs.take kk)) = R2 at *
      refine wp_region_env (A := fun vs => { tmps := #[Value.agg (c32 T), Value.int IntKind.u32 ↑a, Value.int IntKind.u32 ↑b, Value.slice A n c, Value.int IntKind.u16 p, Value.pointer (some { block := w.heap.size, off := 0 }), undef, undef, undef, undef, Value.bool false, va 8, va 9, Value.int IntKind.i64 ↑kk, undef, Value.bool true, Value.bool false, Value.slice A n c, Value.int IntKind.i64 ↑n, Value.bool (decide ((3000 : Int) < ↑n)), va 5, va 0, va 1, va 2, va 3, va 4, va 6, va 7, va 9, Value.bool false, Value.bool false, va 8, Value.string (strOfNums zs), Value.slice A n c, Value.string (strOfNums zs), Value.bool false, Value.bool false, Value.int IntKind.u16 p, Value.int IntKind.i64 p, Value.slice A n c, Value.int IntKind.i64 ↑n, Value.int IntKind.i64 (↑n + 1), Value.int IntKind.i64 ↑kk, vs 0, vs 1, vs 2, vs 3, vs 4, vs 5, vs 6, vs 7, vs 8, vs 9, vs 10, vs 11, vs 12, vs 13, vs 14, vs 15, vs 16, vs 17, vs 18, vs 19, vs 20, vs 21, vs 22, undef, undef, undef, undef, undef, undef, undef, undef, undef, undef, undef, undef, undef, undef], defers := [] }) (E := fun i yv wq => match i with | 0 => yv = .agg (c32 T) | 1 => yv = .int .u32 ↑a | 2 => yv = .slice A n c | 3 => yv = .int .u32 (↑R1) | 4 => yv = .agg (c32 T) | 5 => yv = .agg (c32 T) | 6 => yv = .int .u32 ↑a | 7 => yv = .slice A n c | 8 => yv = .int .i64 ↑kk | 9 => yv = .slice A kk c | 10 => yv = .int .u32 (↑R2) | 11 => yv = .slice A n c | 12 => yv = .int .i64 ↑kk | 13 => ∃ A2 c2, yv = .slice A2 (n - kk) c2 ∧ Sl wq wq.heap.size A2 (n - kk) (by8 (zs.drop kk)) | 14 => yv = .int .u32 (↑R1) | 15 => yv = .bool false | 16 => yv = .bool false | 17 => yv = .agg (c32 T) | 18 => yv = .int .u32 ↑a | 19 => yv = .int .u32 (↑a) | 20 => yv = .int .u32 ↑a | 21 => yv = .bool false | 22 => yv = .bool false | _ => True) (C := fun wq => Below wq0.heap.size wq0 wq) (Ext := fun a b => Below a.heap.size a b) (fun _ => undef) (by kernel_rfl) (by rfl) ?hC ?hstep ?hstab (low_of (by kernel_rfl)) ?hend
      case hC => exact Below.drew (Below.refl _ _)
      case hstab =>
        intro i yv wa wb hx h
        match i, h with
        | 0, h => exact h
        | 1, h => exact h
        | 2, h => exact h
        | 3, h => exact h
        | 4, h => exact h
        | 5, h => exact h
        | 6, h => exact h
        | 7, h => exact h
        | 8, h => exact h
        | 9, h => exact h
        | 10, h => exact h
        | 11, h => exact h
        | 12, h => exact h
        | 13, h => exact (by obtain ⟨A2, c2, h1, h2⟩ := h; exact ⟨A2, c2, h1, (h2.below hx).up hx.size⟩)
        | 14, h => exact h
        | 15, h => exact h
        | 16, h => exact h
        | 17, h => exact h
        | 18, h => exact h
        | 19, h => exact h
        | 20, h => exact h
        | 21, h => exact h
        | 22, h => exact h
        | (_ + 23), _ => trivial
      case hstep =>
        intro i o ho
        match i, ho with
        | 0, ho =>
          obtain rfl := Option.some.inj (show some _ = some o from ho)
          intro vs wq hC hE K hK
          rw [if_pos (by rfl)]
          refine wp_load_row 23 (.tmp 5) rfl w.heap.size rfl 23 _ (0, 0) _ ((hC.block w.heap.size hgq).trans kTq.out) Try.underlying23 rfl Hs.out ?_
          have hh := hK.out (.agg (c32 T)) wq rfl (Below.refl _ _) hC
          simp only [upd, Nat.reduceEqDiff, ↓reduceIte] at hh
          exact hh
        | 1, ho =>
          obtain rfl := Option.some.inj (show some _ = some o from ho)
          intro vs wq hC hE K hK
          go_simp
          have hh := hK.out (.int .u32 ↑a) wq rfl (Below.refl _ _) hC
          simp only [upd, Nat.reduceEqDiff, ↓reduceIte] at hh
          exact hh
        | 2, ho =>
          obtain rfl := Option.some.inj (show some _ = some o from ho)
          intro vs wq hC hE K hK
          go_simp
          have hh := hK.out (.slice A n c) wq rfl (Below.refl _ _) hC
          simp only [upd, Nat.reduceEqDiff, ↓reduceIte] at hh
          exact hh
        | 3, ho =>
          obtain rfl := Option.some.inj (show some _ = some o from ho)
          intro vs wq hC hE K hK
          obtain d0 : vs 0 = .agg (c32 T) := hE { on := 0, ground := Ground.data } (by simp) rfl
          obtain d1 : vs 1 = .int .u32 ↑a := hE { on := 1, ground := Ground.data } (by simp) rfl
          obtain d2 : vs 2 = .slice A n c := hE { on := 2, ground := Ground.data } (by simp) rfl
          go_simp
          go_at_call 9
          refine (PU.out _ (hbq.trans (hC.mono hbq.size))).mono ?_
          rintro e w3 ⟨rfl, hb3⟩
          have hh := hK.out (.int .u32 (↑R1)) w3 rfl hb3 (hC.trans (hb3.mono hC.size))
          simp only [upd, Nat.reduceEqDiff, ↓reduceIte, d0, d1, d2] at hh
          exact hh
        | 4, ho =>
          obtain rfl := Option.some.inj (show some _ = some o from ho)
          intro vs wq hC hE K hK
          rw [if_pos (by rfl)]
          refine wp_load_row 23 (.tmp 5) rfl w.heap.size rfl 23 _ (0, 0) _ ((hC.block w.heap.size hgq).trans kTq.out) Try.underlying23 rfl Hs.out ?_
          have hh := hK.out (.agg (c32 T)) wq rfl (Below.refl _ _) hC
          simp only [upd, Nat.reduceEqDiff, ↓reduceIte] at hh
          exact hh
        | 5, ho =>
          obtain rfl := Option.some.inj (show some _ = some o from ho)
          intro vs wq hC hE K hK
          rw [if_pos (by rfl)]
          refine wp_load_row 23 (.tmp 5) rfl w.heap.size rfl 23 _ (0, 0) _ ((hC.block w.heap.size hgq).trans kTq.out) Try.underlying23 rfl Hs.out ?_
          have hh := hK.out (.agg (c32 T)) wq rfl (Below.refl _ _) hC
          simp only [upd, Nat.reduceEqDiff, ↓reduceIte] at hh
          exact hh
        | 6, ho =>
          obtain rfl := Option.some.inj (show some _ = some o from ho)
          intro vs wq hC hE K hK
          go_simp
          have hh := hK.out (.int .u32 ↑a) wq rfl (Below.refl _ _) hC
          simp only [upd, Nat.reduceEqDiff, ↓reduceIte] at hh
          exact hh
        | 7, ho =>
          obtain rfl := Option.some.inj (show some _ = some o from ho)
          intro vs wq hC hE K hK
          go_simp
          have hh := hK.out (.slice A n c) wq rfl (Below.refl _ _) hC
          simp only [upd, Nat.reduceEqDiff, ↓reduceIte] at hh
          exact hh
        | 8, ho =>
          obtain rfl := Option.some.inj (show some _ = some o from ho)
          intro vs wq hC hE K hK
          go_simp
          have hh := hK.out (.int .i64 ↑kk) wq rfl (Below.refl _ _) hC
          simp only [upd, Nat.reduceEqDiff, ↓reduceIte] at hh
          exact hh
        | 9, ho =>
          obtain rfl := Option.some.inj (show some _ = some o from ho)
          intro vs wq hC hE K hK
          obtain d7 : vs 7 = .slice A n c := hE { on := 7, ground := Ground.data } (by simp) rfl
          obtain d8 : vs 8 = .int .i64 ↑kk := hE { on := 8, ground := Ground.data } (by simp) rfl
          go_simp
          have hh := hK.out (.slice A kk c) wq rfl (Below.refl _ _) hC
          simp only [upd, Nat.reduceEqDiff, ↓reduceIte, d7, d8] at hh
          exact hh
        | 10, ho =>
          obtain rfl := Option.some.inj (show some _ = some o from ho)
          intro vs wq hC hE K hK
          obtain d5 : vs 5 = .agg (c32 T) := hE { on := 5, ground := Ground.data } (by simp) rfl
          obtain d6 : vs 6 = .int .u32 ↑a := hE { on := 6, ground := Ground.data } (by simp) rfl
          obtain d9 : vs 9 = .slice A kk c := hE { on := 9, ground := Ground.data } (by simp) rfl
          go_simp
          go_at_call 9
          refine (PU1.out _ (hbq.trans (hC.mono hbq.size))).mono ?_
          rintro e w3 ⟨rfl, hb3⟩
          have hh := hK.out (.int .u32 (↑R2)) w3 rfl hb3 (hC.trans (hb3.mono hC.size))
          simp only [upd, Nat.reduceEqDiff, ↓reduceIte, d5, d6, d9] at hh
          exact hh
        | 11, ho =>
          obtain rfl := Option.some.inj (show some _ = some o from ho)
          intro vs wq hC hE K hK
          go_simp
          have hh := hK.out (.slice A n c) wq rfl (Below.refl _ _) hC
          simp only [upd, Nat.reduceEqDiff, ↓reduceIte] at hh
          exact hh
        | 12, ho =>
          obtain rfl := Option.some.inj (show some _ = some o from ho)
          intro vs wq hC hE K hK
          go_simp
          have hh := hK.out (.int .i64 ↑kk) wq rfl (Below.refl _ _) hC
          simp only [upd, Nat.reduceEqDiff, ↓reduceIte] at hh
          exact hh
        | 13, ho =>
          obtain rfl := Option.some.inj (show some _ = some o from ho)
          intro vs wq hC hE K hK
          obtain d11 : vs 11 = .slice A n c := hE { on := 11, ground := Ground.data } (by simp) rfl
          obtain d12 : vs 12 = .int .i64 ↑kk := hE { on := 12, ground := Ground.data } (by simp) rfl
          go_simp
          have hbw := hbq.trans (hC.mono hbq.size)
          have hS2 : Sl wq wq.heap.size (if c = kk then A else A.map (·.add kk)) (n - kk) (by8 (zs.drop kk)) := by
            have h2 := ((hS.below hbw).up hbw.size).drop (k := kk) (c := c) (by omega) (by omega)
            rw [by8, ← List.map_drop] at h2
            exact h2
          have hh := hK.out (.slice (if c = kk then A else A.map (·.add kk)) (n - kk) (c - kk)) wq ⟨_, _, rfl, hS2⟩ (Below.refl _ _) hC
          simp only [upd, Nat.reduceEqDiff, ↓reduceIte, d11, d12] at hh
          exact hh
        | 14, ho =>
          obtain rfl := Option.some.inj (show some _ = some o from ho)
          intro vs wq hC hE K hK
          obtain d4 : vs 4 = .agg (c32 T) := hE { on := 4, ground := Ground.data } (by simp) rfl
          obtain d10 : vs 10 = .int .u32 (↑R2) := hE { on := 10, ground := Ground.data } (by simp) rfl
          obtain ⟨A2, c2, d13, hS2⟩ : ∃ A2 c2, vs 13 = .slice A2 (n - kk) c2 ∧ Sl wq wq.heap.size A2 (n - kk) (by8 (zs.drop kk)) := hE { on := 13, ground := Ground.data } (by simp) rfl
          go_simp
          go_at_call 9
          refine (PU2.out _ A2 c2 hS2).mono ?_
          rintro e w3 ⟨rfl, hb3⟩
          have hh := hK.out (.int .u32 (↑R1)) w3 rfl hb3 (hC.trans (hb3.mono hC.size))
          simp only [upd, Nat.reduceEqDiff, ↓reduceIte, d4, d10, d13] at hh
          exact hh
        | 15, ho =>
          obtain rfl := Option.some.inj (show some _ = some o from ho)
          intro vs wq hC hE K hK
          obtain d3 : vs 3 = .int .u32 (↑R1) := hE { on := 3, ground := Ground.data } (by simp) rfl
          obtain d14 : vs 14 = .int .u32 (↑R1) := hE { on := 14, ground := Ground.data } (by simp) rfl
          go_simp
          have hh := hK.out (.bool false) wq rfl (Below.refl _ _) hC
          simp only [upd, Nat.reduceEqDiff, ↓reduceIte, d3, d14] at hh
          exact hh
        | 16, ho =>
          obtain rfl := Option.some.inj (show some _ = some o from ho)
          intro vs wq hC hE K hK
          obtain d15 : vs 15 = .bool false := hE { on := 15, ground := Ground.data } (by simp) rfl
          go_simp
          have hh := hK.out (.bool false) wq rfl (Below.refl _ _) hC
          simp only [upd, Nat.reduceEqDiff, ↓reduceIte, d15] at hh
          exact hh
        | 17, ho =>
          obtain rfl := Option.some.inj (show some _ = some o from ho)
          intro vs wq hC hE K hK
          obtain d16 : vs 16 = .bool false := hE { on := 16, ground := Ground.guard } (by simp) rfl
          rw [if_pos (by simp [Region.wanted, yielded, d16])]
          refine wp_load_row 23 (.tmp 5) rfl w.heap.size rfl 23 _ (0, 0) _ ((hC.block w.heap.size hgq).trans kTq.out) Try.underlying23 rfl Hs.out ?_
          have hh := hK.out (.agg (c32 T)) wq rfl (Below.refl _ _) hC
          simp only [upd, Nat.reduceEqDiff, ↓reduceIte] at hh
          exact hh
        | 18, ho =>
          obtain rfl := Option.some.inj (show some _ = some o from ho)
          intro vs wq hC hE K hK
          obtain d16 : vs 16 = .bool false := hE { on := 16, ground := Ground.guard } (by simp) rfl
          go_simp
          have hh := hK.out (.int .u32 ↑a) wq rfl (Below.refl _ _) hC
          simp only [upd, Nat.reduceEqDiff, ↓reduceIte, d16] at hh
          exact hh
        | 19, ho =>
          obtain rfl := Option.some.inj (show some _ = some o from ho)
          intro vs wq hC hE K hK
          obtain d17 : vs 17 = .agg (c32 T) := hE { on := 17, ground := Ground.data } (by simp) rfl
          obtain d18 : vs 18 = .int .u32 ↑a := hE { on := 18, ground := Ground.data } (by simp) rfl
          obtain d16 : vs 16 = .bool false := hE { on := 16, ground := Ground.guard } (by simp) rfl
          go_simp
          go_at_call 9
          refine (PU3.out _ (hbq.trans (hC.mono hbq.size))).mono ?_
          rintro e w3 ⟨rfl, hb3⟩
          have hh := hK.out (.int .u32 (↑a)) w3 rfl hb3 (hC.trans (hb3.mono hC.size))
          simp only [upd, Nat.reduceEqDiff, ↓reduceIte, d16, d17, d18] at hh
          exact hh
        | 20, ho =>
          obtain rfl := Option.some.inj (show some _ = some o from ho)
          intro vs wq hC hE K hK
          obtain d16 : vs 16 = .bool false := hE { on := 16, ground := Ground.guard } (by simp) rfl
          go_simp
          have hh := hK.out (.int .u32 ↑a) wq rfl (Below.refl _ _) hC
          simp only [upd, Nat.reduceEqDiff, ↓reduceIte, d16] at hh
          exact hh
        | 21, ho =>
          obtain rfl := Option.some.inj (show some _ = some o from ho)
          intro vs wq hC hE K hK
          obtain d19 : vs 19 = .int .u32 (↑a) := hE { on := 19, ground := Ground.data } (by simp) rfl
          obtain d20 : vs 20 = .int .u32 ↑a := hE { on := 20, ground := Ground.data } (by simp) rfl
          obtain d16 : vs 16 = .bool false := hE { on := 16, ground := Ground.guard } (by simp) rfl
          go_simp
          have hh := hK.out (.bool false) wq rfl (Below.refl _ _) hC
          simp only [upd, Nat.reduceEqDiff, ↓reduceIte, d16, d19, d20] at hh
          exact hh
        | 22, ho =>
          obtain rfl := Option.some.inj (show some _ = some o from ho)
          intro vs wq hC hE K hK
          obtain d16 : vs 16 = .bool false := hE { on := 16, ground := Ground.data } (by simp) rfl
          obtain d21 : vs 21 = .bool false := hE { on := 21, ground := Ground.data } (by simp) rfl
          go_simp
          have hh := hK.out (.bool false) wq rfl (Below.refl _ _) hC
          simp only [upd, Nat.reduceEqDiff, ↓reduceIte, d16, d21] at hh
          exact hh
        | (_ + 23), ho => exact absurd ho (by simp)
      case hend =>
        intro vb wq1 hC hE
        have r22 : vb 22 = _ := hE 22 (by decide)
        simp only [r22]
        go_wp2_with fail
        refine (Table_any _).mono ?_
        rintro e w5 ⟨rfl, hb5⟩
        have hbR : Below w.heap.size w wq1 := hbq.trans (hC.mono hbq.size)
        have hbS : Below w.heap.size w w5 := hbR.trans (hb5.mono hbR.size)
        have hz := (zero_of_info t256_info).1
        have h0 := hid (heap_alloc_new w5 (.cells (c32 tabN) 23))
        have h00 := hid (heap_alloc_new w5 (.cells (Array.replicate 256 (Value.int .u32 0)) 23))
        have hbT : Below w.heap.size w (w5.alloc (.cells (c32 tabN) 23)) := hbS.alloc hbS.size _
        have PA := hid (fun (w' : World) (h : Below w.heap.size w w') => Sum_crc tabN_tb (c := c) (s := a) (hS.below h) h.size hzs (by omega) ha)
        have PB := hid (fun (w' : World) (h : Below w.heap.size w w') => Sum_crc tabN_tb (c := c) (s := b) (hS.below h) h.size hzs (by omega) hb)
        have HAB := hid (show (((a : Nat) : Int) == ((b : Nat) : Int)) = decide (a = b) by
          by_cases h : a = b
          · subst h; simp
          · rw [decide_eq_false h]; simp; omega)
        have HSE := hid (show (((sumT tabN a (n8 zs) : Nat) : Int) == ((sumT tabN b (n8 zs) : Nat) : Int)) = decide (a = b) by
          by_cases h : a = b
          · subst h; simp
          · have h2 : sumT tabN a (n8 zs) ≠ sumT tabN b (n8 zs) := fun e => h (Eq.mp (sum_inj ha hb hzs) e)
            rw [decide_eq_false h]; simp; omega)
        generalize sumT tabN a (n8 zs) = SX at *
        generalize sumT tabN b (n8 zs) = SY at *
        go_wp2_with (refine wpList_store_row rfl 23 (.tmp 14) (.tmp 66) rfl w5.heap.size (c32 tabN) rfl rfl 23 _ h00.out t256_own zero_size (c32_one _) ?_; rw [World.setRow_alloc_new])
        clear hz
        refine wp_region_env (A := fun vs => { tmps := #[Value.agg (c32 T), Value.int IntKind.u32 ↑a, Value.int IntKind.u32 ↑b, Value.slice A n c, Value.int IntKind.u16 p, Value.pointer (some { block := w.heap.size, off := 0 }), undef, undef, undef, undef, vs 13, va 8, va 9, Value.int IntKind.i64 ↑kk, Value.pointer (some { block := w5.heap.size, off := 0 }), Value.bool true, Value.bool false, Value.slice A n c, Value.int IntKind.i64 ↑n, Value.bool (decide ((3000 : Int) < ↑n)), va 5, va 0, va 1, va 2, va 3, va 4, va 6, va 7, va 9, Value.bool false, Value.bool false, va 8, Value.string (strOfNums zs), Value.slice A n c, Value.string (strOfNums zs), Value.bool false, Value.bool false, Value.int IntKind.u16 p, Value.int IntKind.i64 p, Value.slice A n c, Value.int IntKind.i64 ↑n, Value.int IntKind.i64 (↑n + 1), Value.int IntKind.i64 ↑kk, vb 0, vb 1, vb 2, vb 3, vb 4, vb 5, vb 6, vb 7, vb 8, vb 9, vb 10, vb 11, vb 12, vb 13, vb 14, vb 15, vb 16, vb 17, vb 18, vb 19, vb 20, vb 21, Value.bool false, Value.agg (c32 tabN), vs 0, vs 1, vs 2, vs 3, vs 4, vs 5, vs 6, vs 7, vs 8, vs 9, vs 10, vs 11, vs 12], defers := [] }) (E := fun i yv wq => match i with | 0 => yv = .agg (c32 tabN) | 1 => yv = .int .u32 ↑a | 2 => yv = .slice A n c | 3 => yv = .int .u32 (↑SX) | 4 => yv = .agg (c32 tabN) | 5 => yv = .int .u32 ↑b | 6 => yv = .slice A n c | 7 => yv = .int .u32 (↑SY) | 8 => yv = .bool (decide (a = b)) | 9 => yv = .int .u32 ↑a | 10 => yv = .int .u32 ↑b | 11 => yv = .bool (decide (a = b)) | 12 => yv = .bool true | 13 => yv = .bool true | _ => True) (C := fun wq => Below (w5.alloc (.cells (c32 tabN) 23)).heap.size (w5.alloc (.cells (c32 tabN) 23)) wq) (Ext := fun a b => Below a.heap.size a b) (fun i => match i with | 0 => undef | 1 => undef | 2 => undef | 3 => undef | 4 => undef | 5 => undef | 6 => undef | 7 => undef | 8 => undef | 9 => undef | 10 => undef | 11 => undef | 12 => undef | 13 => Value.bool false | _ => undef) (by kernel_rfl) (by rfl) ?hC ?hstep ?hstab (low_of (by kernel_rfl)) ?hend
        case hC => exact Below.drew (Below.refl _ _)
        case hstab =>
          intro i yv wa wb hx h
          match i, h with
          | 0, h => exact h
          | 1, h => exact h
          | 2, h => exact h
          | 3, h => exact h
          | 4, h => exact h
          | 5, h => exact h
          | 6, h => exact h
          | 7, h => exact h
          | 8, h => exact h
          | 9, h => exact h
          | 10, h => exact h
          | 11, h => exact h
          | 12, h => exact h
          | 13, h => exact h
          | (_ + 14), _ => trivial
        case hstep =>
          intro i o ho
          match i, ho with
          | 0, ho =>
            obtain rfl := Option.some.inj (show some _ = some o from ho)
            intro vs wq hC hE K hK
            rw [if_pos (by rfl)]
            refine wp_load_row 23 (.tmp 14) rfl w5.heap.size rfl 23 _ (0, 0) _ ((hC.block w5.heap.size (by simp)).trans h0.out) Try.underlying23 rfl t256_own ?_
            have hh := hK.out (.agg (c32 tabN)) wq rfl (Below.refl _ _) hC
            simp only [upd, Nat.reduceEqDiff, ↓reduceIte] at hh
            exact hh
          | 1, ho =>
            obtain rfl := Option.some.inj (show some _ = some o from ho)
            intro vs wq hC hE K hK
            go_simp
            have hh := hK.out (.int .u32 ↑a) wq rfl (Below.refl _ _) hC
            simp only [upd, Nat.reduceEqDiff, ↓reduceIte] at hh
            exact hh
          | 2, ho =>
            obtain rfl := Option.some.inj (show some _ = some o from ho)
            intro vs wq hC hE K hK
            go_simp
            have hh := hK.out (.slice A n c) wq rfl (Below.refl _ _) hC
            simp only [upd, Nat.reduceEqDiff, ↓reduceIte] at hh
            exact hh
          | 3, ho =>
            obtain rfl := Option.some.inj (show some _ = some o from ho)
            intro vs wq hC hE K hK
            obtain d0 : vs 0 = .agg (c32 tabN) := hE { on := 0, ground := Ground.data } (by simp) rfl
            obtain d1 : vs 1 = .int .u32 ↑a := hE { on := 1, ground := Ground.data } (by simp) rfl
            obtain d2 : vs 2 = .slice A n c := hE { on := 2, ground := Ground.data } (by simp) rfl
            go_simp
            go_at_call 9
            refine (PA.out _ (hbT.trans (hC.mono hbT.size))).mono ?_
            rintro e w3 ⟨rfl, hb3⟩
            have hh := hK.out (.int .u32 (↑SX)) w3 rfl hb3 (hC.trans (hb3.mono hC.size))
            simp only [upd, Nat.reduceEqDiff, ↓reduceIte, d0, d1, d2] at hh
            exact hh
          | 4, ho =>
            obtain rfl := Option.some.inj (show some _ = some o from ho)
            intro vs wq hC hE K hK
            rw [if_pos (by rfl)]
            refine wp_load_row 23 (.tmp 14) rfl w5.heap.size rfl 23 _ (0, 0) _ ((hC.block w5.heap.size (by simp)).trans h0.out) Try.underlying23 rfl t256_own ?_
            have hh := hK.out (.agg (c32 tabN)) wq rfl (Below.refl _ _) hC
            simp only [upd, Nat.reduceEqDiff, ↓reduceIte] at hh
            exact hh
          | 5, ho =>
            obtain rfl := Option.some.inj (show some _ = some o from ho)
            intro vs wq hC hE K hK
            go_simp
            have hh := hK.out (.int .u32 ↑b) wq rfl (Below.refl _ _) hC
            simp only [upd, Nat.reduceEqDiff, ↓reduceIte] at hh
            exact hh
          | 6, ho =>
            obtain rfl := Option.some.inj (show some _ = some o from ho)
            intro vs wq hC hE K hK
            go_simp
            have hh := hK.out (.slice A n c) wq rfl (Below.refl _ _) hC
            simp only [upd, Nat.reduceEqDiff, ↓reduceIte] at hh
            exact hh
          | 7, ho =>
            obtain rfl := Option.some.inj (show some _ = some o from ho)
            intro vs wq hC hE K hK
            obtain d4 : vs 4 = .agg (c32 tabN) := hE { on := 4, ground := Ground.data } (by simp) rfl
            obtain d5 : vs 5 = .int .u32 ↑b := hE { on := 5, ground := Ground.data } (by simp) rfl
            obtain d6 : vs 6 = .slice A n c := hE { on := 6, ground := Ground.data } (by simp) rfl
            go_simp
            go_at_call 9
            refine (PB.out _ (hbT.trans (hC.mono hbT.size))).mono ?_
            rintro e w3 ⟨rfl, hb3⟩
            have hh := hK.out (.int .u32 (↑SY)) w3 rfl hb3 (hC.trans (hb3.mono hC.size))
            simp only [upd, Nat.reduceEqDiff, ↓reduceIte, d4, d5, d6] at hh
            exact hh
          | 8, ho =>
            obtain rfl := Option.some.inj (show some _ = some o from ho)
            intro vs wq hC hE K hK
            obtain d3 : vs 3 = .int .u32 (↑SX) := hE { on := 3, ground := Ground.data } (by simp) rfl
            obtain d7 : vs 7 = .int .u32 (↑SY) := hE { on := 7, ground := Ground.data } (by simp) rfl
            have hse := HSE.out
            go_simp
            have hh := hK.out (.bool (decide (a = b))) wq rfl (Below.refl _ _) hC
            simp only [upd, Nat.reduceEqDiff, ↓reduceIte, d3, d7] at hh
            exact hh
          | 9, ho =>
            obtain rfl := Option.some.inj (show some _ = some o from ho)
            intro vs wq hC hE K hK
            go_simp
            have hh := hK.out (.int .u32 ↑a) wq rfl (Below.refl _ _) hC
            simp only [upd, Nat.reduceEqDiff, ↓reduceIte] at hh
            exact hh
          | 10, ho =>
            obtain rfl := Option.some.inj (show some _ = some o from ho)
            intro vs wq hC hE K hK
            go_simp
            have hh := hK.out (.int .u32 ↑b) wq rfl (Below.refl _ _) hC
            simp only [upd, Nat.reduceEqDiff, ↓reduceIte] at hh
            exact hh
          | 11, ho =>
            obtain rfl := Option.some.inj (show some _ = some o from ho)
            intro vs wq hC hE K hK
            obtain d9 : vs 9 = .int .u32 ↑a := hE { on := 9, ground := Ground.data } (by simp) rfl
            obtain d10 : vs 10 = .int .u32 ↑b := hE { on := 10, ground := Ground.data } (by simp) rfl
            have hab := HAB.out
            go_simp
            have hh := hK.out (.bool (decide (a = b))) wq rfl (Below.refl _ _) hC
            simp only [upd, Nat.reduceEqDiff, ↓reduceIte, d9, d10] at hh
            exact hh
          | 12, ho =>
            obtain rfl := Option.some.inj (show some _ = some o from ho)
            intro vs wq hC hE K hK
            obtain d8 : vs 8 = .bool (decide (a = b)) := hE { on := 8, ground := Ground.data } (by simp) rfl
            obtain d11 : vs 11 = .bool (decide (a = b)) := hE { on := 11, ground := Ground.data } (by simp) rfl
            go_simp
            have hh := hK.out (.bool true) wq rfl (Below.refl _ _) hC
            simp only [upd, Nat.reduceEqDiff, ↓reduceIte, d8, d11] at hh
            exact hh
          | 13, ho =>
            obtain rfl := Option.some.inj (show some _ = some o from ho)
            intro vs wq hC hE K hK
            obtain d12 : vs 12 = .bool true := hE { on := 12, ground := Ground.data } (by simp) rfl
            go_simp
            have hh := hK.out (.bool true) wq rfl (Below.refl _ _) hC
            simp only [upd, Nat.reduceEqDiff, ↓reduceIte, d12] at hh
            exact hh
          | (_ + 14), ho => exact absurd ho (by simp)
        case hend =>
          intro vs wq hC hE
          have r13 : vs 13 = _ := hE 13 (by decide)
          go_wp2_with fail
          go_ret
          exact ⟨congrArg Ending.returned r13, hbT.trans (hC.mono hbT.size)⟩
end Go.Proofs.Ytdoehcecpfadbaa
