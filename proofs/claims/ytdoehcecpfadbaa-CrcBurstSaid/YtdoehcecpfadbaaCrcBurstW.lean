/- The walk of CrcBurst. -/
import Derived.Test.YtdoehcecpfadbaaCrcN
import Derived.Laws.OwnMore
import Derived.RegionTactic
namespace Go.Proofs.Ytdoehcecpfadbaa
open Go.ChangeShapes Go.WideShapes Go.ChangeAt Go.RowKit Fb

theorem zero_size : (Array.replicate 256 (Value.int .u32 0)).size = (c32 tabN).size := by rw [Array.size_replicate, c32_size, tabN_len]
theorem blk4 {w : World} {g : Nat} {t : TypeId} {a b c d : Value} (h : w.heap[g]? = some (.cells #[a, b, c, d] t (0, 0))) :
    w.cell? ⟨g, 0, none⟩ = some a ∧ w.cell? ⟨g, 1, none⟩ = some b ∧ w.cell? ⟨g, 2, none⟩ = some c ∧ w.cell? ⟨g, 3, none⟩ = some d :=
  ⟨cell_of_row w g 0 #[a, b, c, d] t (0, 0) h, cell_of_row w g 1 #[a, b, c, d] t (0, 0) h, cell_of_row w g 2 #[a, b, c, d] t (0, 0) h, cell_of_row w g 3 #[a, b, c, d] t (0, 0) h⟩
theorem eq4 (a b c d : Int) (w : World) : (Op.equalIn 10000 40 (.agg #[.int .u8 a, .int .u8 b, .int .u8 c, .int .u8 d]) (.agg #[.int .u8 0, .int .u8 0, .int .u8 0, .int .u8 0])).run Try.prog w = .ok (decide (a = 0 ∧ b = 0 ∧ c = 0 ∧ d = 0)) w := by
  have u5 := Try.underlying5
  have a5 := Try.isAgg5
  have z5 := Try.sizeOf5
  rw [show (10000 : Nat) = 9999 + 1 from rfl, Op.equalIn]
  simp only [Sem.run_bind, run_underlying Try.underlying40, Result.andThen_ok]
  simp only [Std.Legacy.Range.forIn_eq_forIn_range', Std.Legacy.Range.size, Nat.sub_zero, Nat.add_sub_cancel, Nat.div_one, List.range'_succ, List.range'_zero, List.forIn_cons, List.forIn_nil]
  go_simp
  by_cases h1 : a = 0 <;> by_cases h2 : b = 0 <;> by_cases h3 : c = 0 <;> by_cases h4 : d = 0 <;> simp [h1, h2, h3, h4]
set_option maxRecDepth 100000 in
set_option maxHeartbeats 4000000 in
theorem burst_walk (A : Option Addr) (c n : Nat) (zs : List Int) (p y0 y1 y2 y3 : Int) (w : World) (hS : Sl w w.heap.size A n (by8 zs)) (hzs : Bytes zs) (hnil : A = none → c = 0) (hc : n ≤ c) (hcm : c ≤ maxLen) (hp : 0 ≤ p ∧ p ≤ 65535) (hy : Bytes [y0, y1, y2, y3]) :
    Calls Try.prog 6 #[.slice A n c, .int .u16 p, .agg #[.int .u8 y0, .int .u8 y1, .int .u8 y2, .int .u8 y3]] w fun e w' => e = .returned (.bool true) ∧ Below w.heap.size w w' := by
  have hbY : Below w.heap.size w (w.alloc (.cells #[.int .u8 y0, .int .u8 y1, .int .u8 y2, .int .u8 y3] 40)) := (Below.refl _ _).alloc (Nat.le_refl _) _
  have b0 := hy y0 (by simp); have b1 := hy y1 (by simp); have b2 := hy y2 (by simp); have b3 := hy y3 (by simp)
  have hz := (zero_of_info t256_info).1
  have hl : n = zs.length := by have := hS.len; rw [by8_len] at this; exact this.symm
  have HL := hid hl
  clear hl
  unfold maxLen at hcm
  by_cases hlong : 3000 < n
  · go_enter Try.func6, Try.ntmps6
    go_wp2_with fail
    refine (awake_any _).mono ?_
    rintro e w1 ⟨rfl, hb1⟩
    go_wp2_with fail
    go_ret
    exact ⟨rfl, hbY.trans (hb1.mono hbY.size)⟩
  · go_enter Try.func6, Try.ntmps6
    go_wp2_with fail
    refine (awake_any _).mono ?_
    rintro e w1 ⟨rfl, hb1⟩
    have hbA : Below w.heap.size w w1 := hbY.trans (hb1.mono hbY.size)
    have kY1 := hid ((hb1.block w.heap.size (by simp)).trans (heap_alloc_new w _))
    go_wp2_with fail
    refine (Table_any _).mono ?_
    rintro e w2 ⟨rfl, hb2⟩
    have hbB : Below w.heap.size w w2 := hbA.trans (hb2.mono hbA.size)
    have hg1 : w.heap.size + 1 ≤ w1.heap.size := by have := hb1.size; simp at this; omega
    have hg2 : w.heap.size + 1 ≤ w2.heap.size := Nat.le_trans hg1 hb2.size
    have kY2 := hid ((hb2.block w.heap.size (by omega)).trans kY1.out)
    have h0 := hid (heap_alloc_new w2 (.cells (c32 tabN) 23))
    have h00 := hid (heap_alloc_new w2 (.cells (Array.replicate 256 (Value.int .u32 0)) 23))
    have hbC : Below w.heap.size w (w2.alloc (.cells (c32 tabN) 23)) := hbB.alloc hbB.size _
    have kY3 := hid ((Below.heap_alloc w2 (.cells (c32 tabN) 23) w.heap.size (by omega)).trans kY2.out)
    have PS := hid (Seal_any tabN_tb (c := c) (hS.below hbC) hbC.size hzs hnil (by omega))
    clear kY1 kY2
    go_wp2_with (first
      | (refine wpList_store_row rfl 23 (.tmp 7) (.tmp 18) rfl w2.heap.size (c32 tabN) rfl rfl 23 _ h00.out t256_own zero_size (c32_one _) ?_; rw [World.setRow_alloc_new])
      | (refine wpList_load_row rfl 23 (.tmp 7) rfl w2.heap.size rfl 23 _ (0, 0) _ h0.out Try.underlying23 rfl t256_own ?_))
    refine PS.out.mono ?_
    rintro e w4 ⟨⟨v, rfl, hown⟩, hb4⟩
    have hZb := sealed_bytes tabN hzs
    have hZt : sealed tabN ((sealed tabN zs).take n) = sealed tabN zs := by
      have : (sealed tabN zs).take n = zs := by unfold sealed; rw [HL.out, List.take_left]
      rw [this]
    have hZx : (sealed tabN zs).take n = zs := by unfold sealed; rw [HL.out, List.take_left]
    have hZl : (sealed tabN zs).length = n + 4 := by rw [sealed_len, HL.out]
    rw [hZl] at hown
    generalize sealed tabN zs = Z at *
    have k4 := hid ((hb4.block w2.heap.size (by simp)).trans h0.out)
    have kY4 := hid ((hb4.block w.heap.size (by simp; omega)).trans kY3.out)
    have hbD : Below w.heap.size w w4 := hbC.trans (hb4.mono hbC.size)
    obtain ⟨g, cap, rfl⟩ : ∃ g cap, v = .slice (some ⟨g, 0, none⟩) (n + 4) cap := by
      obtain ⟨_, h | ⟨g, cap, cur, hv, _⟩⟩ := hown
      · omega
      · exact ⟨g, cap, hv⟩
    have HT := hid hZt
    have HX := hid hZx
    have HZl := hid hZl
    clear hZt hZx hZl PS h0 h00 kY3 hz
    go_wp2_with fail
    obtain ⟨k, hk, hkn⟩ : ∃ k : Nat, p % ((n : Int) + 4 - 3) = k ∧ k ≤ n := by
      have m1 := Int.emod_nonneg p (b := (n : Int) + 4 - 3) (by omega)
      have m2 := Int.emod_lt_of_pos p (b := (n : Int) + 4 - 3) (by omega)
      exact ⟨(p % ((n : Int) + 4 - 3)).toNat, by omega, by omega⟩
    rw [hk]
    have hgg : w2.heap.size < g := by
      obtain ⟨_, h | ⟨g', cap', cur, hv, hg, _⟩⟩ := hown
      · omega
      · simp only [Value.slice.injEq, Option.some.injEq, Addr.mk.injEq] at hv
        simp at hg; omega
    have hwg : w.heap.size < g := by omega
    clear hk
    have HZb := hid hZb
    have Hb := hid hbD
    clear hbD hZb hbC hbB hbA hbY hb1 hb2 hb4
    go_loopw [10] (fun i wr => ∃ j : Nat, j ≤ 4 ∧ i = .int .i64 j ∧ wr.ownsRow (w2.alloc (.cells (c32 tabN) 23)).heap.size 5 1 (.slice (some ⟨g, 0, none⟩) (n + 4) cap) (n + 4) (by8 (chg Z k [y0, y1, y2, y3] j)) ∧ Below w.heap.size w wr ∧ wr.heap[w2.heap.size]? = some (.cells (c32 tabN) 23 (0, 0)) ∧ wr.heap[w.heap.size]? = some (.cells #[.int .u8 y0, .int .u8 y1, .int .u8 y2, .int .u8 y3] 40 (0, 0))) (fun i _ => 4 - (intOf i).toNat)
    case atStart => exact ⟨0, by omega, rfl, hown, Hb.out, k4.out, kY4.out⟩
    case round =>
      obtain ⟨j, hj, rfl, hown', hbr, kT, kY⟩ := hrel
      by_cases hlt : j < 4
      · have hYb := getD_byte hy j
        have hcy : wr.drew.cell? ⟨w.heap.size, j, none⟩ = some (.int .u8 ([y0, y1, y2, y3][j]?.getD 0)) := by
          rw [cell_of_row wr.drew _ j _ _ _ kY]
          have hq : j = 0 ∨ j = 1 ∨ j = 2 ∨ j = 3 := by omega
          rcases hq with rfl | rfl | rfl | rfl <;> rfl
        have hZj := getD_byte (chg_bytes k HZb.out hy j) (k + j)
        have hcl : (chg Z k [y0, y1, y2, y3] j).length = n + 4 := by rw [chg_len]; exact HZl.out
        have hcz : wr.drew.cell? ⟨g, k + j, none⟩ = some (.int .u8 ((chg Z k [y0, y1, y2, y3] j)[k + j]?.getD 0)) := by
          rw [hown'.drew.cellAt (k + j) (by omega), by8, List.getElem?_map, List.getElem?_eq_getElem (by omega)]; rfl
        have hfz : wr.drew.frozen? ⟨g, k + j, none⟩ = false := hown'.drew.frozenAt (k + j)
        have hst := hid (hown'.drew.stored (k + j) (.int .u8 (xr ((chg Z k [y0, y1, y2, y3] j)[k + j]?.getD 0) ([y0, y1, y2, y3][j]?.getD 0)))).1
        have he : by8 (chg Z k [y0, y1, y2, y3] (j + 1)) = (by8 (chg Z k [y0, y1, y2, y3] j)).set (k + j) (.int .u8 (xr ((chg Z k [y0, y1, y2, y3] j)[k + j]?.getD 0) ([y0, y1, y2, y3][j]?.getD 0))) := by
          rw [chg, by8, by8, List.map_set]
        have HE := hid he
        have hx := u8_xor ((chg Z k [y0, y1, y2, y3] j)[k + j]?.getD 0) ([y0, y1, y2, y3][j]?.getD 0) (by omega) (by omega) (by omega) (by omega)
        have hx' : bits .xor .u8 ((chg Z k [y0, y1, y2, y3] j)[k + j]?.getD 0) ([y0, y1, y2, y3][j]?.getD 0) = xr ((chg Z k [y0, y1, y2, y3] j)[k + j]?.getD 0) ([y0, y1, y2, y3][j]?.getD 0) := hx
        have hxb := xr_byte hZj hYb
        clear hx he hcl
        generalize xr ((chg Z k [y0, y1, y2, y3] j)[k + j]?.getD 0) ([y0, y1, y2, y3][j]?.getD 0) = q at *
        generalize (chg Z k [y0, y1, y2, y3] j)[k + j]?.getD 0 = z at *
        generalize [y0, y1, y2, y3][j]?.getD 0 = y at *
        go_wp2
        go_region
        go_wp2
        go_roundw
        case rel =>
          refine ⟨j + 1, by omega, by go_num, ?_, ?_, ?_, ?_⟩
          · rw [HE.out]; exact hst.out
          · exact (hbr.drew).setCell (p := ⟨g, k + j, none⟩) (by simp; omega) _
          · exact (heap_setCell_other wr _ _ _ (by simp; omega)).trans kT
          · exact (heap_setCell_other wr _ _ _ (by simp; omega)).trans kY
        case measure => simp [intOf]; omega
      · obtain rfl : j = 4 := by omega
        obtain ⟨A3, c3, hv, hR, -⟩ := own_rw hown'
        simp only [Value.slice.injEq, true_and] at hv
        obtain ⟨rfl, rfl⟩ := hv
        have PO := hid (Open_any tabN_tb (c := cap) hR.1 (chg_bytes k HZb.out hy 4) hR.2.2.2 (by omega) hR.2.1 hR.2.2.1 (by omega))
        have kT' := hid kT
        have kY' := hid kY
        have hlw := hid (Array.getElem?_eq_some_iff.1 kY).1
        have Hbr := hid hbr
        clear hown' hR kT kY hbr
        go_wp2_with (refine wpList_load_row rfl 23 (.tmp 7) rfl w2.heap.size rfl 23 _ (0, 0) _ kT'.out Try.underlying23 rfl t256_own ?_)
        refine PO.out.mono ?_
        rintro e w5 ⟨hO, hb5⟩
        have kY5 := hid ((hb5.block w.heap.size hlw.out).trans kY'.out)
        have hbE : Below w.heap.size w w5 := Hbr.out.trans (hb5.mono Hbr.out.size)
        have hB := burst HZb.out HZl.out hkn HT.out hy
        rw [show n + 4 - 4 = n by omega] at hO
        unfold OpensP at hO
        have hgy : w.heap.size < w5.heap.size := (Array.getElem?_eq_some_iff.1 kY5.out).1
        by_cases hz : y0 = 0 ∧ y1 = 0 ∧ y2 = 0 ∧ y3 = 0
        · rw [if_pos (hB.2 hz)] at hO
          obtain ⟨rfl, rfl, rfl, rfl⟩ := hz
          rw [chg_none HZb.out (by rw [HZl.out]; omega), HX.out] at hO
          obtain ⟨A5, c5, rfl, hS5⟩ := hO
          have cv1 := conv8 c5 hS5
          have cv2 := conv8 c (hS.below hbE)
          clear hS5 PO hB
          obtain ⟨e0, e1, e2, e3⟩ := blk4 kY5.out
          have hq := eq4 0 0 0 0 w5
          rw [decide_eq_true (by exact ⟨rfl, rfl, rfl, rfl⟩)] at hq
          go_wp2
          go_ret
          exact ⟨rfl, hbE⟩
        · rw [if_neg (fun h => hz (hB.1 h))] at hO
          subst hO
          clear PO hB
          obtain ⟨e0, e1, e2, e3⟩ := blk4 kY5.out
          have hq := eq4 y0 y1 y2 y3 w5
          rw [decide_eq_false hz] at hq
          clear hz
          go_wp2
          go_ret
          exact ⟨rfl, hbE⟩
end Go.Proofs.Ytdoehcecpfadbaa
