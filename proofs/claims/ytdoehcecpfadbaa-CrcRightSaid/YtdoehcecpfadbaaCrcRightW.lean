/- The walk of CrcRight. -/
import Derived.Test.YtdoehcecpfadbaaCrcN
namespace Go.Proofs.Ytdoehcecpfadbaa
open Go.ChangeShapes Go.WideShapes Go.ChangeAt Go.RowKit Fb

set_option maxRecDepth 100000 in
set_option maxHeartbeats 4000000 in
theorem right_walk {T : List Nat} (hT : Tb T) (s : Nat) (hs : s < 4294967296) (A : Option Addr) (c n : Nat) (zs : List Int) (w : World) (hS : Sl w w.heap.size A n (by8 zs)) (hzs : Bytes zs) (hnil : A = none → c = 0) (hc : n ≤ c) (hcm : c ≤ maxLen) :
    Calls Try.prog 3 #[.agg (c32 T), .int .u32 s, .slice A n c] w fun e w' => e = .returned (.bool true) ∧ Below w.heap.size w w' := by
  have hbY : Below w.heap.size w (w.alloc (.cells (c32 T) 23)) := (Below.refl _ _).alloc (Nat.le_refl _) _
  have hl : n = zs.length := by have := hS.len; rw [by8_len] at this; exact this.symm
  have HL := hid hl
  clear hl
  have HCM := hid hcm
  unfold maxLen at hcm
  by_cases hlong : 3000 < n
  · go_enter Try.func3, Try.ntmps3
    go_wp2_with fail
    refine (awake_any _).mono ?_
    rintro e w1 ⟨rfl, hb1⟩
    go_wp2_with fail
    go_ret
    exact ⟨rfl, hbY.trans (hb1.mono hbY.size)⟩
  · have Hs := hid (show (Try.prog.info? 23).map (·.size) = some (c32 T).size by rw [c32_size, hT.1]; exact t256_size)
    have HN : Hid (sumT T 0 (n8 zs) < 4294967296) := sumT_lt hT (by omega) (n8_lt hzs)
    have PS := hid (fun (w' : World) (h : Below w.heap.size w w') => Seal_any hT (c := c) (hS.below h) h.size hzs hnil (by omega))
    have PT : Hid (∀ (w' : World) (h : Below w.heap.size w w'), Calls Try.prog 11 #[.slice A n c, .int .u32 (sumT T 0 (n8 zs) : Nat)] w' (PutsB w'.heap.size w' (sealed T zs))) := fun w' h => Tail_any (c := c) (hS.below h) h.size hnil (by omega) HN.out
    have PR := hid (fun (w' : World) (h : Below w.heap.size w w') => RSum_crc hT (c := c) (s := 0) (hS.below h) h.size hzs (by omega) (by omega))
    have PU := hid (fun (w' : World) (h : Below w.heap.size w w') => Sum_crc hT (c := c) (s := s) (hS.below h) h.size hzs (by omega) hs)
    have PV := hid (fun (w' : World) (h : Below w.heap.size w w') => RSum_crc hT (c := c) (s := s) (hS.below h) h.size hzs (by omega) hs)
    have HQ := hid (show (sealed T zs).length = n + 4 by rw [sealed_len, HL.out])
    generalize sealed T zs = Z at *
    generalize sumT T 0 (n8 zs) = N0 at *
    generalize sumT T s (n8 zs) = R at *
    go_enter Try.func3, Try.ntmps3
    go_wp2_with fail
    refine (awake_any _).mono ?_
    rintro e w1 ⟨rfl, hb1⟩
    have hbA : Below w.heap.size w w1 := hbY.trans (hb1.mono hbY.size)
    have kT1 := hid ((hb1.block w.heap.size (by simp)).trans (heap_alloc_new w _))
    have hg1 : w.heap.size < w1.heap.size := by have := hb1.size; simp at this; omega
    go_wp2_with (refine wpList_load_row rfl 23 (.tmp 3) rfl w.heap.size rfl 23 _ (0, 0) _ kT1.out Try.underlying23 rfl Hs.out ?_)
    refine (PR.out _ hbA).mono ?_
    rintro e w2 ⟨rfl, hb2⟩
    have hbB : Below w.heap.size w w2 := hbA.trans (hb2.mono hbA.size)
    have kT2 := hid ((hb2.block w.heap.size hg1).trans kT1.out)
    have hg2 : w.heap.size < w2.heap.size := Nat.lt_of_lt_of_le hg1 hb2.size
    clear kT1 PR hb1 hb2
    go_wp2_with fail
    refine wp_region_env (A := fun vs => { tmps := #[Value.agg (c32 T), Value.int IntKind.u32 ↑s, Value.slice A n c, Value.pointer (some { block := w.heap.size, off := 0 }), undef, undef, Value.bool false, Value.int IntKind.u32 ↑N0, undef, undef, undef, Value.bool true, Value.bool false, Value.slice A n c, Value.int IntKind.i64 ↑n, Value.bool (decide ((3000 : Int) < ↑n)), Value.agg (c32 T), Value.slice A n c, Value.int IntKind.u32 ↑N0, vs 0, vs 1, vs 2, vs 3, vs 4, vs 5, vs 6, vs 7, vs 8, vs 9, vs 10, vs 11, vs 12, vs 13, vs 14, vs 15, vs 16, vs 17, vs 18, vs 19, undef, undef, undef, undef, undef, undef, undef, undef, undef, undef, undef, undef, undef, undef, undef, undef, undef, undef, undef, undef, undef, undef, undef, undef, undef, undef, undef, undef, undef, undef, undef, undef, undef, undef, undef, undef, undef, undef, undef, undef, undef, undef, undef, undef, undef, undef], defers := [] }) (E := fun i yv wq => match i with | 0 => yv = .agg (c32 T) | 1 => yv = .int .u32 ↑s | 2 => yv = .slice A n c | 3 => yv = .int .u32 (↑R) | 4 => yv = .agg (c32 T) | 5 => yv = .int .u32 ↑s | 6 => yv = .slice A n c | 7 => yv = .int .u32 (↑R) | 8 => yv = .bool false | 9 => yv = .bool false | 10 => yv = .agg (c32 T) | 11 => yv = .slice A n c | 12 => ∃ A3 c3, yv = .slice A3 (n + 4) c3 ∧ Rw wq A3 (n + 4) c3 Z | 13 => yv = .string (strOfNums Z) | 14 => yv = .slice A n c | 15 => yv = .int .u32 ↑N0 | 16 => ∃ A3 c3, yv = .slice A3 (n + 4) c3 ∧ Rw wq A3 (n + 4) c3 Z | 17 => yv = .string (strOfNums Z) | 18 => yv = .bool false | 19 => yv = .bool false | _ => True) (C := fun wq => Below w2.heap.size w2 wq) (Ext := fun a b => Below a.heap.size a b) (fun _ => undef) (by kernel_rfl) (by rfl) ?hC ?hstep ?hstab (low_of (by kernel_rfl)) ?hend
    case hC => exact Below.drew (Below.refl _ _)
    case hstab =>
      intro i yv wa wb hx h
      match i, h with
      | 0, h => exact h
      | 1, h => exact h
      | 2, h => exact h
      | 3, h => exact h
      | 4, h => exact h
      | 5, h => exact h
      | 6, h => exact h
      | 7, h => exact h
      | 8, h => exact h
      | 9, h => exact h
      | 10, h => exact h
      | 11, h => exact h
      | 12, h => exact (by obtain ⟨A3, c3, h1, h2⟩ := h; exact ⟨A3, c3, h1, h2.below hx⟩)
      | 13, h => exact h
      | 14, h => exact h
      | 15, h => exact h
      | 16, h => exact (by obtain ⟨A3, c3, h1, h2⟩ := h; exact ⟨A3, c3, h1, h2.below hx⟩)
      | 17, h => exact h
      | 18, h => exact h
      | 19, h => exact h
      | (_ + 20), _ => trivial
    case hstep =>
      intro i o ho
      match i, ho with
      | 0, ho =>
        obtain rfl := Option.some.inj (show some _ = some o from ho)
        intro vs wq hC hE K hK
        rw [if_pos (by rfl)]
        refine wp_load_row 23 (.tmp 3) rfl w.heap.size rfl 23 _ (0, 0) _ ((hC.block w.heap.size hg2).trans kT2.out) Try.underlying23 rfl Hs.out ?_
        have hh := hK.out (.agg (c32 T)) wq rfl (Below.refl _ _) hC
        simp only [upd, Nat.reduceEqDiff, ↓reduceIte] at hh
        exact hh
      | 1, ho =>
        obtain rfl := Option.some.inj (show some _ = some o from ho)
        intro vs wq hC hE K hK
        go_simp
        have hh := hK.out (.int .u32 ↑s) wq rfl (Below.refl _ _) hC
        simp only [upd, Nat.reduceEqDiff, ↓reduceIte] at hh
        exact hh
      | 2, ho =>
        obtain rfl := Option.some.inj (show some _ = some o from ho)
        intro vs wq hC hE K hK
        go_simp
        have hh := hK.out (.slice A n c) wq rfl (Below.refl _ _) hC
        simp only [upd, Nat.reduceEqDiff, ↓reduceIte] at hh
        exact hh
      | 3, ho =>
        obtain rfl := Option.some.inj (show some _ = some o from ho)
        intro vs wq hC hE K hK
        obtain d0 : vs 0 = .agg (c32 T) := hE { on := 0, ground := Ground.data } (by simp) rfl
        obtain d1 : vs 1 = .int .u32 ↑s := hE { on := 1, ground := Ground.data } (by simp) rfl
        obtain d2 : vs 2 = .slice A n c := hE { on := 2, ground := Ground.data } (by simp) rfl
        go_simp
        go_at_call 9
        refine (PU.out _ (hbB.trans (hC.mono hbB.size))).mono ?_
        rintro e w3 ⟨rfl, hb3⟩
        have hh := hK.out (.int .u32 (↑R)) w3 rfl hb3 (hC.trans (hb3.mono hC.size))
        simp only [upd, Nat.reduceEqDiff, ↓reduceIte, d0, d1, d2] at hh
        exact hh
      | 4, ho =>
        obtain rfl := Option.some.inj (show some _ = some o from ho)
        intro vs wq hC hE K hK
        rw [if_pos (by rfl)]
        refine wp_load_row 23 (.tmp 3) rfl w.heap.size rfl 23 _ (0, 0) _ ((hC.block w.heap.size hg2).trans kT2.out) Try.underlying23 rfl Hs.out ?_
        have hh := hK.out (.agg (c32 T)) wq rfl (Below.refl _ _) hC
        simp only [upd, Nat.reduceEqDiff, ↓reduceIte] at hh
        exact hh
      | 5, ho =>
        obtain rfl := Option.some.inj (show some _ = some o from ho)
        intro vs wq hC hE K hK
        go_simp
        have hh := hK.out (.int .u32 ↑s) wq rfl (Below.refl _ _) hC
        simp only [upd, Nat.reduceEqDiff, ↓reduceIte] at hh
        exact hh
      | 6, ho =>
        obtain rfl := Option.some.inj (show some _ = some o from ho)
        intro vs wq hC hE K hK
        go_simp
        have hh := hK.out (.slice A n c) wq rfl (Below.refl _ _) hC
        simp only [upd, Nat.reduceEqDiff, ↓reduceIte] at hh
        exact hh
      | 7, ho =>
        obtain rfl := Option.some.inj (show some _ = some o from ho)
        intro vs wq hC hE K hK
        obtain d4 : vs 4 = .agg (c32 T) := hE { on := 4, ground := Ground.data } (by simp) rfl
        obtain d5 : vs 5 = .int .u32 ↑s := hE { on := 5, ground := Ground.data } (by simp) rfl
        obtain d6 : vs 6 = .slice A n c := hE { on := 6, ground := Ground.data } (by simp) rfl
        go_simp
        go_at_call 8
        refine (PV.out _ (hbB.trans (hC.mono hbB.size))).mono ?_
        rintro e w3 ⟨rfl, hb3⟩
        have hh := hK.out (.int .u32 (↑R)) w3 rfl hb3 (hC.trans (hb3.mono hC.size))
        simp only [upd, Nat.reduceEqDiff, ↓reduceIte, d4, d5, d6] at hh
        exact hh
      | 8, ho =>
        obtain rfl := Option.some.inj (show some _ = some o from ho)
        intro vs wq hC hE K hK
        obtain d3 : vs 3 = .int .u32 (↑R) := hE { on := 3, ground := Ground.data } (by simp) rfl
        obtain d7 : vs 7 = .int .u32 (↑R) := hE { on := 7, ground := Ground.data } (by simp) rfl
        go_simp
        have hh := hK.out (.bool false) wq rfl (Below.refl _ _) hC
        simp only [upd, Nat.reduceEqDiff, ↓reduceIte, d3, d7] at hh
        exact hh
      | 9, ho =>
        obtain rfl := Option.some.inj (show some _ = some o from ho)
        intro vs wq hC hE K hK
        obtain d8 : vs 8 = .bool false := hE { on := 8, ground := Ground.data } (by simp) rfl
        go_simp
        have hh := hK.out (.bool false) wq rfl (Below.refl _ _) hC
        simp only [upd, Nat.reduceEqDiff, ↓reduceIte, d8] at hh
        exact hh
      | 10, ho =>
        obtain rfl := Option.some.inj (show some _ = some o from ho)
        intro vs wq hC hE K hK
        obtain d9 : vs 9 = .bool false := hE { on := 9, ground := Ground.guard } (by simp) rfl
        rw [if_pos (by simp [Region.wanted, yielded, d9])]
        refine wp_load_row 23 (.tmp 3) rfl w.heap.size rfl 23 _ (0, 0) _ ((hC.block w.heap.size hg2).trans kT2.out) Try.underlying23 rfl Hs.out ?_
        have hh := hK.out (.agg (c32 T)) wq rfl (Below.refl _ _) hC
        simp only [upd, Nat.reduceEqDiff, ↓reduceIte] at hh
        exact hh
      | 11, ho =>
        obtain rfl := Option.some.inj (show some _ = some o from ho)
        intro vs wq hC hE K hK
        obtain d9 : vs 9 = .bool false := hE { on := 9, ground := Ground.guard } (by simp) rfl
        go_simp
        have hh := hK.out (.slice A n c) wq rfl (Below.refl _ _) hC
        simp only [upd, Nat.reduceEqDiff, ↓reduceIte, d9] at hh
        exact hh
      | 12, ho =>
        obtain rfl := Option.some.inj (show some _ = some o from ho)
        intro vs wq hC hE K hK
        obtain d10 : vs 10 = .agg (c32 T) := hE { on := 10, ground := Ground.data } (by simp) rfl
        obtain d11 : vs 11 = .slice A n c := hE { on := 11, ground := Ground.data } (by simp) rfl
        obtain d9 : vs 9 = .bool false := hE { on := 9, ground := Ground.guard } (by simp) rfl
        go_simp
        go_at_call 10
        refine (PS.out _ (hbB.trans (hC.mono hbB.size))).mono ?_
        rintro e w3 ⟨⟨v', rfl, hown⟩, hb3⟩
        rw [HQ.out] at hown
        obtain ⟨A3, c3, rfl, hR, -⟩ := own_rw hown
        have hh := hK.out (.slice A3 (n + 4) c3) w3 ⟨A3, c3, rfl, hR⟩ hb3 (hC.trans (hb3.mono hC.size))
        simp only [upd, Nat.reduceEqDiff, ↓reduceIte, d9, d10, d11] at hh
        exact hh
      | 13, ho =>
        obtain rfl := Option.some.inj (show some _ = some o from ho)
        intro vs wq hC hE K hK
        obtain ⟨A3, c3, d12, hR3⟩ : ∃ A3 c3, vs 12 = .slice A3 (n + 4) c3 ∧ Rw wq A3 (n + 4) c3 Z := hE { on := 12, ground := Ground.data } (by simp) rfl
        obtain d9 : vs 9 = .bool false := hE { on := 9, ground := Ground.guard } (by simp) rfl
        have cv := conv8 c3 hR3.1
        go_simp
        have hh := hK.out (.string (strOfNums Z)) wq rfl (Below.refl _ _) hC
        simp only [upd, Nat.reduceEqDiff, ↓reduceIte, d9, d12] at hh
        exact hh
      | 14, ho =>
        obtain rfl := Option.some.inj (show some _ = some o from ho)
        intro vs wq hC hE K hK
        obtain d9 : vs 9 = .bool false := hE { on := 9, ground := Ground.guard } (by simp) rfl
        go_simp
        have hh := hK.out (.slice A n c) wq rfl (Below.refl _ _) hC
        simp only [upd, Nat.reduceEqDiff, ↓reduceIte, d9] at hh
        exact hh
      | 15, ho =>
        obtain rfl := Option.some.inj (show some _ = some o from ho)
        intro vs wq hC hE K hK
        obtain d9 : vs 9 = .bool false := hE { on := 9, ground := Ground.guard } (by simp) rfl
        go_simp
        have hh := hK.out (.int .u32 ↑N0) wq rfl (Below.refl _ _) hC
        simp only [upd, Nat.reduceEqDiff, ↓reduceIte, d9] at hh
        exact hh
      | 16, ho =>
        obtain rfl := Option.some.inj (show some _ = some o from ho)
        intro vs wq hC hE K hK
        obtain d14 : vs 14 = .slice A n c := hE { on := 14, ground := Ground.data } (by simp) rfl
        obtain d15 : vs 15 = .int .u32 ↑N0 := hE { on := 15, ground := Ground.data } (by simp) rfl
        obtain d9 : vs 9 = .bool false := hE { on := 9, ground := Ground.guard } (by simp) rfl
        go_simp
        go_at_call 11
        refine (PT.out _ (hbB.trans (hC.mono hbB.size))).mono ?_
        rintro e w3 ⟨⟨v', rfl, hown⟩, hb3⟩
        rw [HQ.out] at hown
        obtain ⟨A3, c3, rfl, hR, -⟩ := own_rw hown
        have hh := hK.out (.slice A3 (n + 4) c3) w3 ⟨A3, c3, rfl, hR⟩ hb3 (hC.trans (hb3.mono hC.size))
        simp only [upd, Nat.reduceEqDiff, ↓reduceIte, d9, d14, d15] at hh
        exact hh
      | 17, ho =>
        obtain rfl := Option.some.inj (show some _ = some o from ho)
        intro vs wq hC hE K hK
        obtain ⟨A4, c4, d16, hR4⟩ : ∃ A3 c3, vs 16 = .slice A3 (n + 4) c3 ∧ Rw wq A3 (n + 4) c3 Z := hE { on := 16, ground := Ground.data } (by simp) rfl
        obtain d9 : vs 9 = .bool false := hE { on := 9, ground := Ground.guard } (by simp) rfl
        have cv := conv8 c4 hR4.1
        go_simp
        have hh := hK.out (.string (strOfNums Z)) wq rfl (Below.refl _ _) hC
        simp only [upd, Nat.reduceEqDiff, ↓reduceIte, d9, d16] at hh
        exact hh
      | 18, ho =>
        obtain rfl := Option.some.inj (show some _ = some o from ho)
        intro vs wq hC hE K hK
        obtain d13 : vs 13 = .string (strOfNums Z) := hE { on := 13, ground := Ground.data } (by simp) rfl
        obtain d17 : vs 17 = .string (strOfNums Z) := hE { on := 17, ground := Ground.data } (by simp) rfl
        obtain d9 : vs 9 = .bool false := hE { on := 9, ground := Ground.guard } (by simp) rfl
        go_simp
        have hh := hK.out (.bool false) wq rfl (Below.refl _ _) hC
        simp only [upd, Nat.reduceEqDiff, ↓reduceIte, d9, d13, d17] at hh
        exact hh
      | 19, ho =>
        obtain rfl := Option.some.inj (show some _ = some o from ho)
        intro vs wq hC hE K hK
        obtain d9 : vs 9 = .bool false := hE { on := 9, ground := Ground.data } (by simp) rfl
        obtain d18 : vs 18 = .bool false := hE { on := 18, ground := Ground.data } (by simp) rfl
        go_simp
        have hh := hK.out (.bool false) wq rfl (Below.refl _ _) hC
        simp only [upd, Nat.reduceEqDiff, ↓reduceIte, d9, d18] at hh
        exact hh
      | (_ + 20), ho => exact absurd ho (by simp)
    case hend =>
      intro va wq0 hC hE
      have r19 : va 19 = _ := hE 19 (by decide)
      simp only [r19]
      have hbC : Below w.heap.size w wq0 := hbB.trans (hC.mono hbB.size)
      clear PS PT PU PV HQ HN kT2 r19 hE hC
      go_wp2_with fail
      refine (Table_any _).mono ?_
      rintro e w5 ⟨rfl, hb5⟩
      have hbS : Below w.heap.size w w5 := hbC.trans (hb5.mono hbC.size)
      have hz := (zero_of_info t256_info).1
      have h0 := hid (heap_alloc_new w5 (.cells (c32 tabN) 23))
      have h00 := hid (heap_alloc_new w5 (.cells (Array.replicate 256 (Value.int .u32 0)) 23))
      have hbT : Below w.heap.size w (w5.alloc (.cells (c32 tabN) 23)) := hbS.alloc hbS.size _
      have PA := hid (fun (w' : World) (h : Below w.heap.size w w') => Sum_crc tabN_tb (c := c) (s := 0) (hS.below h) h.size hzs (by omega) (by omega))
      have PB := hid (fun (w' : World) (h : Below w.heap.size w w') => Plain_any (c := c) (hS.below h) hzs (by omega))
      generalize sumT tabN 0 (n8 zs) = M at *
      go_wp2_with (first
        | (refine wpList_store_row rfl 23 (.tmp 8) (.tmp 39) rfl w5.heap.size (c32 tabN) rfl rfl 23 _ h00.out t256_own zero_size (c32_one _) ?_; rw [World.setRow_alloc_new])
        | (refine wpList_load_row rfl 23 (.tmp 8) rfl w5.heap.size rfl 23 _ (0, 0) _ h0.out Try.underlying23 rfl t256_own ?_))
      clear hz
      refine (PA.out _ hbT).mono ?_
      rintro e w6 ⟨rfl, hb6⟩
      have hbU : Below w.heap.size w w6 := hbT.trans (hb6.mono hbT.size)
      have h6 := hid ((hb6.block w5.heap.size (by simp)).trans h0.out)
      go_wp2_with fail
      refine (PB.out _ hbU).mono ?_
      rintro e w7 ⟨rfl, rfl⟩
      clear PA PB h0 h00
      by_cases h4 : n < 4
      · go_wp2_with (refine wpList_load_row rfl 23 (.tmp 8) rfl w5.heap.size rfl 23 _ (0, 0) _ h6.out Try.underlying23 rfl t256_own ?_)
        refine (Open_short h4 _).mono ?_
        rintro e w8 ⟨rfl, hb8⟩
        go_wp2_with fail
        go_ret
        exact ⟨rfl, hbU.trans (hb8.mono hbU.size)⟩
      · have PO := hid (Open_any tabN_tb (c := c) ((hS.below hbU).up hbU.size) hzs hnil (by omega) hc HCM.out (by omega))
        have PX := hid (fun (w' : World) (h : Below w.heap.size w w') => Opens_any (c := c) ((hS.below h).up h.size) hzs hnil (by omega) hc HCM.out (by omega))
        obtain ⟨m, rfl⟩ : ∃ m, n = m + 4 := ⟨n - 4, by omega⟩
        rw [show m + 4 - 4 = m by omega] at PO PX
        go_wp2_with (refine wpList_load_row rfl 23 (.tmp 8) rfl w5.heap.size rfl 23 _ (0, 0) _ h6.out Try.underlying23 rfl t256_own ?_)
        refine PO.out.mono ?_
        rintro e w8 ⟨hO, hb8⟩
        have hbV : Below w.heap.size w w8 := hbU.trans (hb8.mono hbU.size)
        unfold OpensP at hO
        have PX8 := hid (PX.out _ hbV)
        clear PX PO
        have hmc : m ≤ c := by omega
        by_cases hse : sealed tabN (zs.take m) = zs
        · rw [if_pos hse] at hO
          obtain ⟨A4, c4, rfl, hS4⟩ := hO
          rw [decide_eq_true hse] at PX8
          have HS4 := hid hS4
          clear hse hS4
          go_wp2_with fail
          refine PX8.out.mono ?_
          rintro e w9 ⟨rfl, hb9⟩
          have hbW : Below w.heap.size w w9 := hbV.trans (hb9.mono hbV.size)
          have cv1 := conv8d c4 (HS4.out.below hb9)
          have hT4 := (hS.below hbW).take (k := m) (by omega)
          rw [by8, ← List.map_take] at hT4
          have cv2 := conv8d c hT4
          clear hT4 PX8 HS4
          go_wp2_with fail
          go_region
          go_wp2_with fail
          go_ret
          exact ⟨rfl, hbW.drew⟩
        · rw [if_neg hse] at hO
          subst hO
          rw [decide_eq_false hse] at PX8
          clear hse
          go_wp2_with fail
          refine PX8.out.mono ?_
          rintro e w9 ⟨rfl, hb9⟩
          go_wp2_with fail
          go_ret
          exact ⟨rfl, hbV.trans (hb9.mono hbV.size)⟩
end Go.Proofs.Ytdoehcecpfadbaa
