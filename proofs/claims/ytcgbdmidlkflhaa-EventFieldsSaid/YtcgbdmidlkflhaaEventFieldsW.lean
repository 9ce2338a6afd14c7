/- The walk of EventFields. -/
import Derived.Test.YtcgbdmidlkflhaaEventA
import Derived.Test.YtcgbdmidlkflhaaEnvD
import Derived.Test.YtcgbdmidlkflhaaRow
import Derived.Deep.AppendLies
namespace Go.Proofs.Ytcgbdmidlkflhaa
open Go.ChangeShapes Go.WideShapes Go.ChangeAt Go.RowKit Fb

/-- a block of seven cells, one of them written -/
theorem set1 {w : World} {g : Nat} {t : TypeId} {a b c d e f i b' : Value} (h : w.heap[g]? = some (.cells #[a, b, c, d, e, f, i] t (0, 0))) :
    (w.setCell ⟨g, 1, none⟩ b').heap[g]? = some (.cells #[a, b', c, d, e, f, i] t (0, 0)) := by
  simp [World.setCell, Array.getElem?_modify, h]
theorem event_size : (Try.prog.info? 23).map (·.size) = some 7 := by kernel_rfl
theorem ev_one (q t k a b c : Int) (s : ByteArray) : (#[.int .i64 q, .int .i64 t, .int .i64 k, .string s, .int .i64 a, .int .i64 b, .int .i64 c] : Array Value).all (·.oneCell') = true := by simp [Value.oneCell']
/-- all of them -/
theorem set7 {w : World} {g : Nat} {t : TypeId} {a b c d e f i a' b' c' d' e' f' i' : Value} (h : w.heap[g]? = some (.cells #[a, b, c, d, e, f, i] t (0, 0))) :
    (((((((w.setCell ⟨g, 0, none⟩ a').setCell ⟨g, 1, none⟩ b').setCell ⟨g, 2, none⟩ c').setCell ⟨g, 3, none⟩ d').setCell ⟨g, 4, none⟩ e').setCell ⟨g, 5, none⟩ f').setCell ⟨g, 6, none⟩ i').heap[g]? = some (.cells #[a', b', c', d', e', f', i'] t (0, 0)) := by
  simp [World.setCell, Array.getElem?_modify, h]
theorem vl_of {k a b c : Int} (h : vlB k a b c = true) : loI k ≤ a ∧ a ≤ hiI k ∧ 0 ≤ b ∧ b ≤ hjI k ∧ 0 ≤ c ∧ c ≤ hkI k := of_decide_eq_true h
/-- an event that may be told is filled with its numbers as it was -/
theorem fills {k a b c : Int} (hk : ¬ (k < 1 ∨ 10 < k)) (h : vlB k a b c = true) {m : Nat} (hm : mnI k = m) : at3 ([a, b, c].take m) 0 = a ∧ at3 ([a, b, c].take m) 1 = b ∧ at3 ([a, b, c].take m) 2 = c := by
  have hv := vl_of h
  unfold hjI hkI at hv
  unfold mnI at hm
  rcases (show m = 1 ∨ m = 2 ∨ m = 3 by split at hm <;> (try split at hm) <;> (try split at hm) <;> omega) with rfl | rfl | rfl
  · have hb : b = 0 := by omega
    have hc : c = 0 := by omega
    exact ⟨rfl, hb.symm, hc.symm⟩
  · have hc : c = 0 := by omega
    exact ⟨rfl, rfl, hc.symm⟩
  · exact ⟨rfl, rfl, rfl⟩
/-- one number more than its kind has is no event -/
theorem fills_no {q t k a b c nn : Int} {s : ByteArray} (h0 : chI q t k s a b c = 0) {m : Nat} (hm : mnI k = m) (h3 : m ≠ 3) (hn : nn ≠ 0) :
    chI q t k s (at3 ([a, b, c].take m ++ [nn]) 0) (at3 ([a, b, c].take m ++ [nn]) 1) (at3 ([a, b, c].take m ++ [nn]) 2) = 4 := by
  rcases ch_all q t k s a b c with h | ⟨h, h1⟩ | ⟨h, h1, h2⟩ | ⟨h, h1, h2, hx⟩ | ⟨h, h1, h2, hx, hy⟩ | ⟨h, h1, h2, hx, hy⟩
  · rw [ch_kind h] at h0; omega
  · rw [ch_name h h1] at h0; omega
  · rw [ch_value h h1 h2] at h0; omega
  · rw [ch_time h h1 h2 hx] at h0; omega
  · rw [ch_seq h h1 h2 hx hy] at h0; omega
  · refine ch_value h h1 (vlB_no ?_)
    unfold mnI at hm
    rcases (show m = 1 ∨ m = 2 by split at hm <;> (try split at hm) <;> (try split at hm) <;> omega) with rfl | rfl
    · show ¬ (loI k ≤ a ∧ a ≤ hiI k ∧ 0 ≤ nn ∧ nn ≤ hjI k ∧ 0 ≤ (0 : Int) ∧ 0 ≤ hkI k)
      unfold hjI hkI
      omega
    · show ¬ (loI k ≤ a ∧ a ≤ hiI k ∧ 0 ≤ b ∧ b ≤ hjI k ∧ 0 ≤ nn ∧ nn ≤ hkI k)
      unfold hjI hkI
      omega
theorem ch_ok_of {q t k : Int} {s : ByteArray} {a b c : Int} (h0 : chI q t k s a b c = 0) : ¬ (k < 1 ∨ 10 < k) ∧ nmB s = true ∧ vlB k a b c = true ∧ chI q t k ⟨#[]⟩ a b c = 3 ∧ chI q (-1) k s a b c = 5 := by
  rcases ch_all q t k s a b c with h | ⟨h, h1⟩ | ⟨h, h1, h2⟩ | ⟨h, h1, h2, hx⟩ | ⟨h, h1, h2, hx, hy⟩ | ⟨h, h1, h2, hx, hy⟩
  · rw [ch_kind h] at h0; omega
  · rw [ch_name h h1] at h0; omega
  · rw [ch_value h h1 h2] at h0; omega
  · rw [ch_time h h1 h2 hx] at h0; omega
  · rw [ch_seq h h1 h2 hx hy] at h0; omega
  · exact ⟨h, h1, h2, ch_name h (by decide), ch_time h h1 h2 (by decide)⟩
theorem far7 {w : World} {g h : Nat} {a' b' c' d' e' f' i' : Value} (hg : h ≠ g) :
    (((((((w.setCell ⟨g, 0, none⟩ a').setCell ⟨g, 1, none⟩ b').setCell ⟨g, 2, none⟩ c').setCell ⟨g, 3, none⟩ d').setCell ⟨g, 4, none⟩ e').setCell ⟨g, 5, none⟩ f').setCell ⟨g, 6, none⟩ i').heap[h]? = w.heap[h]? := by
  rw [Below.heap_setCell _ _ _ _ hg, Below.heap_setCell _ _ _ _ hg, Below.heap_setCell _ _ _ _ hg, Below.heap_setCell _ _ _ _ hg, Below.heap_setCell _ _ _ _ hg, Below.heap_setCell _ _ _ _ hg, Below.heap_setCell _ _ _ _ hg]
theorem below7 {B : Nat} {w0 w : World} (h : Below B w0 w) {g : Nat} (hg : B ≤ g) (a' b' c' d' e' f' i' : Value) :
    Below B w0 (((((((w.setCell ⟨g, 0, none⟩ a').setCell ⟨g, 1, none⟩ b').setCell ⟨g, 2, none⟩ c').setCell ⟨g, 3, none⟩ d').setCell ⟨g, 4, none⟩ e').setCell ⟨g, 5, none⟩ f').setCell ⟨g, 6, none⟩ i') :=
  ((((((h.setCell (p := ⟨g, 0, none⟩) hg a').setCell (p := ⟨g, 1, none⟩) hg b').setCell (p := ⟨g, 2, none⟩) hg c').setCell (p := ⟨g, 3, none⟩) hg d').setCell (p := ⟨g, 4, none⟩) hg e').setCell (p := ⟨g, 5, none⟩) hg f').setCell (p := ⟨g, 6, none⟩) hg i'
theorem own_low {w : World} {base n size : Nat} {e : TypeId} {v : Value} {xs : List Value} (h : w.ownsRow base e size v n xs) : ∀ k, v.ownBlock = some k → base ≤ k := by
  intro k hk
  obtain ⟨_, hh | ⟨g, cap, cur, hv, hg, _⟩⟩ := h
  · rw [hh.1] at hk; simp [Value.ownBlock] at hk
  · rw [hv] at hk; simp [Value.ownBlock] at hk; omega
/-- a row of the call's own stays where its block is let be -/
theorem own_at {w w' : World} {base n size : Nat} {e : TypeId} {v : Value} {xs : List Value} (h : w.ownsRow base e size v n xs) (hb : ∀ g, base ≤ g → g < w.heap.size → w'.heap[g]? = w.heap[g]?) : w'.ownsRow base e size v n xs := by
  obtain ⟨hl, h | ⟨g, cap, cur, hv, hg, hh, r⟩⟩ := h
  · exact ⟨hl, .inl h⟩
  · exact ⟨hl, .inr ⟨g, cap, cur, hv, hg, (hb g hg (blk_lt hh)).trans hh, r⟩⟩

set_option maxRecDepth 100000 in
set_option maxHeartbeats 4000000 in
theorem fields_walk (q t k a b c : Int) (s : ByteArray) (nn : Int) (w : World) :
    Calls Try.prog 4 #[.agg #[.int .i64 q, .int .i64 t, .int .i64 k, .string s, .int .i64 a, .int .i64 b, .int .i64 c], .int .i64 nn] w fun e w' => e = .returned (.bool true) ∧ Below w.heap.size w w' := by
  have HK := hid (heap_alloc_new w (.cells #[.int .i64 q, .int .i64 t, .int .i64 k, .string s, .int .i64 a, .int .i64 b, .int .i64 c] 23))
  have hbY : Below w.heap.size w (w.alloc (.cells #[.int .i64 q, .int .i64 t, .int .i64 k, .string s, .int .i64 a, .int .i64 b, .int .i64 c] 23)) := (Below.refl _ _).alloc (Nat.le_refl _) _
  have hlong : decide ((100 : Int) < s.size) = true ∨ decide ((100 : Int) < s.size) = false := by cases decide ((100 : Int) < s.size) <;> simp
  rcases hlong with g1 | g1
  · go_enter Try.func4, Try.ntmps4
    go_wp2_with fail
    refine (awake_any _).mono ?_
    rintro e w1 ⟨rfl, hb1⟩
    have K1 := (hb1.block w.heap.size (by simp)).trans HK.out
    have z1 := blk_lt K1
    obtain ⟨d0, d1, d2, d3, d4, d5, d6⟩ := blk7 K1
    clear K1
    go_wp2_with fail
    go_ret
    exact ⟨rfl, hbY.trans (hb1.mono hbY.size)⟩
  obtain ⟨m, hm, hm3⟩ : ∃ m : Nat, mnI k = (m : Int) ∧ m ≤ 3 := ⟨(mnI k).toNat, by unfold mnI; omega, by unfold mnI; omega⟩
  have hmt : (mnI k).toNat = m := by omega
  have PN := hid (Numbers_any q t k s a b c)
  have PM := hid (Many_any k)
  have PR := hid (Role_any k)
  have PC := hid (Check_any q t k s a b c)
  rw [hmt] at PN
  rw [hm] at PM
  obtain ⟨r, hr1, hr2⟩ : ∃ r, (roI k == -1) = r ∧ ((m : Int) == 0) = r := by
    rw [← hm]
    unfold roI mnI
    by_cases h : k < 1 ∨ 10 < k
    · exact ⟨true, by rw [if_pos h]; rfl, by rw [if_pos h]; rfl⟩
    · refine ⟨false, ?_, ?_⟩
      · rw [if_neg h]; split <;> (try split) <;> (try split) <;> rfl
      · rw [if_neg h]; split <;> (try split) <;> rfl
  by_cases hch : chI q t k s a b c = 0
  case neg =>
    have hce : (chI q t k s a b c == 0) = false := by simpa using hch
    generalize chI q t k s a b c = ch at *
    generalize roI k = ro at *
    have HM := hid hm
    clear hm hmt
    go_enter Try.func4, Try.ntmps4
    go_wp2_with fail
    refine (awake_any _).mono ?_
    rintro e w1 ⟨rfl, hb1⟩
    have hbA : Below w.heap.size w w1 := hbY.trans (hb1.mono hbY.size)
    have K1 := (hb1.block w.heap.size (by simp)).trans HK.out
    have z1 := blk_lt K1
    obtain ⟨d0, d1, d2, d3, d4, d5, d6⟩ := blk7 K1
    have HK1 := hid K1
    clear K1
    go_wp2_with fail
    refine (PN.out _).mono ?_
    rintro e w2 ⟨⟨A1, c1, rfl, -, -, -, -⟩, hb2⟩
    have hbB : Below w.heap.size w w2 := hbA.trans (hb2.mono hbA.size)
    have K2 := (hb2.block w.heap.size z1).trans HK1.out
    have z2 := blk_lt K2
    clear d0 d1 d2 d3 d4 d5 d6
    obtain ⟨d0, d1, d2, d3, d4, d5, d6⟩ := blk7 K2
    have HK2 := hid K2
    clear K2
    go_wp2_with fail
    refine (PM.out _).mono ?_
    rintro e w3 ⟨rfl, hb3⟩
    have hbC : Below w.heap.size w w3 := hbB.trans (hb3.mono hbB.size)
    have K3 := (hb3.block w.heap.size z2).trans HK2.out
    have z3 := blk_lt K3
    clear d0 d1 d2 d3 d4 d5 d6
    obtain ⟨d0, d1, d2, d3, d4, d5, d6⟩ := blk7 K3
    have HK3 := hid K3
    clear K3
    go_wp2_with fail
    refine (PR.out _).mono ?_
    rintro e w4 ⟨rfl, hb4⟩
    have hbD : Below w.heap.size w w4 := hbC.trans (hb4.mono hbC.size)
    have K4 := (hb4.block w.heap.size z3).trans HK3.out
    have z4 := blk_lt K4
    clear d0 d1 d2 d3 d4 d5 d6
    obtain ⟨d0, d1, d2, d3, d4, d5, d6⟩ := blk7 K4
    clear K4
    go_wp2_with fail
    refine (PC.out _).mono ?_
    rintro e w5 ⟨rfl, hb5⟩
    go_wp2_with fail
    go_ret
    exact ⟨rfl, hbD.trans (hb5.mono hbD.size)⟩
  case pos =>
    obtain ⟨hk, hnm, hvl, hc3, hc5⟩ := ch_ok_of hch
    have PC3 := hid (Check_any q t k ⟨#[]⟩ a b c)
    have PC5 := hid (Check_any q (-1) k s a b c)
    have PC4 := hid (fun h3 hn => fills_no (nn := nn) hch hm h3 hn)
    have HF := hid (fills hk hvl hm)
    have hm1 : 1 ≤ m := by unfold mnI at hm; split at hm <;> (try split at hm) <;> (try split at hm) <;> omega
    have hro : (roI k == -1) = false ∧ decide (roI k < 0) = false ∧ decide (3 < roI k) = false := by
      unfold roI
      rw [if_neg hk]
      split <;> (try split) <;> (try split) <;> exact ⟨rfl, rfl, rfl⟩
    obtain ⟨hro1, hro2, hro3⟩ := hro
    rw [hro1] at hr1
    subst hr1
    rw [hch] at PC
    rw [hc3] at PC3
    rw [hc5] at PC5
    have HM := hid hm
    have HM1 := hid hm1
    have HM3 := hid hm3
    have HLL : Hid (([a, b, c].take m).length = m) := by show _ = _; rw [List.length_take]; simp; omega
    generalize roI k = ro at *
    generalize [a, b, c].take m = L at *
    have hEq := eq_event q t k a b c s
    clear hm hmt hch hk hnm hvl hc3 hc5 hm1 hm3
    go_enter Try.func4, Try.ntmps4
    go_wp2_with fail
    refine (awake_any _).mono ?_
    rintro e w1 ⟨rfl, hb1⟩
    have hbA : Below w.heap.size w w1 := hbY.trans (hb1.mono hbY.size)
    have K1 := (hb1.block w.heap.size (by simp)).trans HK.out
    have z1 := blk_lt K1
    obtain ⟨d0, d1, d2, d3, d4, d5, d6⟩ := blk7 K1
    have HK1 := hid K1
    clear K1
    go_wp2_with fail
    refine (PN.out _).mono ?_
    rintro e w2 ⟨⟨A1, c1, rfl, hcl, hcm, -, hS⟩, hb2⟩
    have hbB : Below w.heap.size w w2 := hbA.trans (hb2.mono hbA.size)
    have K2 := (hb2.block w.heap.size z1).trans HK1.out
    have z2 := blk_lt K2
    clear d0 d1 d2 d3 d4 d5 d6
    obtain ⟨d0, d1, d2, d3, d4, d5, d6⟩ := blk7 K2
    have HK2 := hid K2
    clear K2 hb1 hb2
    go_wp2_with fail
    refine (PM.out _).mono ?_
    rintro e w3 ⟨rfl, hb3⟩
    have hbC : Below w.heap.size w w3 := hbB.trans (hb3.mono hbB.size)
    have K3 := (hb3.block w.heap.size z2).trans HK2.out
    have z3 := blk_lt K3
    clear d0 d1 d2 d3 d4 d5 d6
    obtain ⟨d0, d1, d2, d3, d4, d5, d6⟩ := blk7 K3
    have HK3 := hid K3
    clear K3
    go_wp2_with fail
    refine (PR.out _).mono ?_
    rintro e w4 ⟨rfl, hb4⟩
    have hbD : Below w.heap.size w w4 := hbC.trans (hb4.mono hbC.size)
    have K4 := (hb4.block w.heap.size z3).trans HK3.out
    have z4 := blk_lt K4
    clear d0 d1 d2 d3 d4 d5 d6
    obtain ⟨d0, d1, d2, d3, d4, d5, d6⟩ := blk7 K4
    have HK4 := hid K4
    clear K4
    have B24 : Below w2.heap.size w2 w4 := hb3.trans (hb4.mono hb3.size)
    go_wp2_with fail
    refine (PC.out _).mono ?_
    rintro e w5 ⟨rfl, hb5⟩
    have hbE : Below w.heap.size w w5 := hbD.trans (hb5.mono hbD.size)
    have B25 : Below w2.heap.size w2 w5 := B24.trans (hb5.mono B24.size)
    have K5 := (hb5.block w.heap.size z4).trans HK4.out
    have z5 := blk_lt K5
    clear d0 d1 d2 d3 d4 d5 d6
    obtain ⟨d0, d1, d2, d3, d4, d5, d6⟩ := blk7 K5
    have HK5 := hid K5
    clear K5 HK1 HK2 HK3 HK4 hbA hbB hbC hbD B24 hb3 hb4 hb5
    have PF : Hid (∀ w', Below w2.heap.size w2 w' → Calls Try.prog 15 #[.agg #[.int .i64 q, .int .i64 t, .int .i64 k, .string s, .int .i64 a, .int .i64 b, .int .i64 c], .slice A1 m c1] w' fun e w'' => e = .returned (.agg #[.int .i64 q, .int .i64 t, .int .i64 k, .string s, .int .i64 a, .int .i64 b, .int .i64 c]) ∧ Below w'.heap.size w' w'') := by
      intro w' h
      have := Fill_any q t k s a b c (cp := c1) (hS.below h) h.size (by have := HM3.out; omega)
      rwa [HF.out.1, HF.out.2.1, HF.out.2.2] at this
    go_wp2_with fail
    refine wp_region_env (A := fun vs => { tmps := #[Value.agg #[Value.int IntKind.i64 q, Value.int IntKind.i64 t, Value.int IntKind.i64 k, Value.string s, Value.int IntKind.i64 a, Value.int IntKind.i64 b, Value.int IntKind.i64 c], Value.int IntKind.i64 nn, Value.pointer (some { block := w.heap.size, off := 0 }), undef, Value.bool false, Value.slice A1 m c1, undef, Value.bool true, Value.bool false, Value.pointer (some { block := w.heap.size, off := 3 }), Value.string s, Value.int IntKind.i64 ↑s.size, Value.bool false, Value.agg #[Value.int IntKind.i64 q, Value.int IntKind.i64 t, Value.int IntKind.i64 k, Value.string s, Value.int IntKind.i64 a, Value.int IntKind.i64 b, Value.int IntKind.i64 c], Value.slice A1 m c1, Value.slice A1 m c1, Value.int IntKind.i64 ↑m, Value.pointer (some { block := w.heap.size, off := 2 }), Value.int IntKind.i64 k, Value.int IntKind.i64 ↑m, Value.bool false, Value.bool false, Value.pointer (some { block := w.heap.size, off := 2 }), Value.int IntKind.i64 k, Value.int IntKind.i64 ro, Value.bool false, Value.slice A1 m c1, Value.int IntKind.i64 ↑m, Value.bool false, Value.bool false, Value.bool false, Value.agg #[Value.int IntKind.i64 q, Value.int IntKind.i64 t, Value.int IntKind.i64 k, Value.string s, Value.int IntKind.i64 a, Value.int IntKind.i64 b, Value.int IntKind.i64 c], Value.int IntKind.i64 0, Value.bool false, vs 0, vs 1, vs 2, vs 3, vs 4, vs 5, vs 6, vs 7, vs 8, vs 9, vs 10, vs 11, vs 12, vs 13, vs 14, vs 15, vs 16, vs 17, vs 18, vs 19, vs 20, vs 21, undef, undef, undef, undef, undef, undef, undef, undef, undef, undef, undef, undef, undef, undef, undef, undef, undef, undef, undef, undef, undef, undef, undef, undef, undef, undef, undef, undef], defers := [] }) (E := fun i yv wq => match i with | 0 => yv = .agg #[.int .i64 q, .int .i64 t, .int .i64 k, .string s, .int .i64 a, .int .i64 b, .int .i64 c] | 1 => yv = .slice A1 m c1 | 2 => yv = .agg #[.int .i64 q, .int .i64 t, .int .i64 k, .string s, .int .i64 a, .int .i64 b, .int .i64 c] | 3 => yv = .agg #[.int .i64 q, .int .i64 t, .int .i64 k, .string s, .int .i64 a, .int .i64 b, .int .i64 c] | 4 => yv = .bool false | 5 => yv = .bool false | 6 => yv = .slice A1 m c1 | 7 => yv = .int .i64 ↑m | 8 => yv = .bool false | 9 => yv = .bool false | 10 => yv = .bool false | 11 => yv = .pointer (some ⟨w.heap.size, 2, none⟩) | 12 => yv = .int .i64 k | 13 => yv = .int .i64 ro | 14 => yv = .bool false | 15 => yv = .bool false | 16 => yv = .bool false | 17 => yv = .pointer (some ⟨w.heap.size, 2, none⟩) | 18 => yv = .int .i64 k | 19 => yv = .int .i64 ro | 20 => yv = .bool false | 21 => yv = .bool false | _ => True) (C := fun wq => Below w5.heap.size w5 wq) (Ext := fun a b => Below a.heap.size a b) (fun _ => undef) (by kernel_rfl) (by rfl) ?hC ?hstep ?hstab (low_of (by kernel_rfl)) ?hend
    case hC => exact Below.drew (Below.refl _ _)
    case hstab =>
      intro i yv wa wb hx h
      match i, h with
      | 0, h => exact h
      | 1, h => exact h
      | 2, h => exact h
      | 3, h => exact h
      | 4, h => exact h
      | 5, h => exact h
      | 6, h => exact h
      | 7, h => exact h
      | 8, h => exact h
      | 9, h => exact h
      | 10, h => exact h
      | 11, h => exact h
      | 12, h => exact h
      | 13, h => exact h
      | 14, h => exact h
      | 15, h => exact h
      | 16, h => exact h
      | 17, h => exact h
      | 18, h => exact h
      | 19, h => exact h
      | 20, h => exact h
      | 21, h => exact h
      | (_ + 22), _ => trivial
    case hstep =>
      intro i o ho
      match i, ho with
      | 0, ho =>
        obtain rfl := Option.some.inj (show some _ = some o from ho)
        intro vs wq hC hE K hK
        obtain ⟨e0, e1, e2, e3, e4, e5, e6⟩ := blk7 ((hC.block w.heap.size z5).trans HK5.out)
        go_simp
        have hh := hK.out (.agg #[.int .i64 q, .int .i64 t, .int .i64 k, .string s, .int .i64 a, .int .i64 b, .int .i64 c]) wq rfl (Below.refl _ _) hC
        simp only [upd, Nat.reduceEqDiff, ↓reduceIte] at hh
        exact hh
      | 1, ho =>
        obtain rfl := Option.some.inj (show some _ = some o from ho)
        intro vs wq hC hE K hK
        go_simp
        have hh := hK.out (.slice A1 m c1) wq rfl (Below.refl _ _) hC
        simp only [upd, Nat.reduceEqDiff, ↓reduceIte] at hh
        exact hh
      | 2, ho =>
        obtain rfl := Option.some.inj (show some _ = some o from ho)
        intro vs wq hC hE K hK
        obtain d0 : vs 0 = .agg #[.int .i64 q, .int .i64 t, .int .i64 k, .string s, .int .i64 a, .int .i64 b, .int .i64 c] := hE { on := 0, ground := Ground.data } (by simp) rfl
        obtain d1 : vs 1 = .slice A1 m c1 := hE { on := 1, ground := Ground.data } (by simp) rfl
        go_simp
        go_at_call 15
        refine (PF.out _ (B25.trans (hC.mono B25.size))).mono ?_
        rintro e w3 ⟨rfl, hb3⟩
        have hh := hK.out (.agg #[.int .i64 q, .int .i64 t, .int .i64 k, .string s, .int .i64 a, .int .i64 b, .int .i64 c]) w3 rfl hb3 (hC.trans (hb3.mono hC.size))
        simp only [upd, Nat.reduceEqDiff, ↓reduceIte, d0, d1] at hh
        exact hh
      | 3, ho =>
        obtain rfl := Option.some.inj (show some _ = some o from ho)
        intro vs wq hC hE K hK
        obtain ⟨e0, e1, e2, e3, e4, e5, e6⟩ := blk7 ((hC.block w.heap.size z5).trans HK5.out)
        go_simp
        have hh := hK.out (.agg #[.int .i64 q, .int .i64 t, .int .i64 k, .string s, .int .i64 a, .int .i64 b, .int .i64 c]) wq rfl (Below.refl _ _) hC
        simp only [upd, Nat.reduceEqDiff, ↓reduceIte] at hh
        exact hh
      | 4, ho =>
        obtain rfl := Option.some.inj (show some _ = some o from ho)
        intro vs wq hC hE K hK
        obtain d2 : vs 2 = .agg #[.int .i64 q, .int .i64 t, .int .i64 k, .string s, .int .i64 a, .int .i64 b, .int .i64 c] := hE { on := 2, ground := Ground.data } (by simp) rfl
        obtain d3 : vs 3 = .agg #[.int .i64 q, .int .i64 t, .int .i64 k, .string s, .int .i64 a, .int .i64 b, .int .i64 c] := hE { on := 3, ground := Ground.data } (by simp) rfl
        go_simp
        have hh := hK.out (.bool false) wq rfl (Below.refl _ _) hC
        simp only [upd, Nat.reduceEqDiff, ↓reduceIte, d2, d3] at hh
        exact hh
      | 5, ho =>
        obtain rfl := Option.some.inj (show some _ = some o from ho)
        intro vs wq hC hE K hK
        obtain d4 : vs 4 = .bool false := hE { on := 4, ground := Ground.data } (by simp) rfl
        go_simp
        have hh := hK.out (.bool false) wq rfl (Below.refl _ _) hC
        simp only [upd, Nat.reduceEqDiff, ↓reduceIte, d4] at hh
        exact hh
      | 6, ho =>
        obtain rfl := Option.some.inj (show some _ = some o from ho)
        intro vs wq hC hE K hK
        obtain d5 : vs 5 = .bool false := hE { on := 5, ground := Ground.guard } (by simp) rfl
        go_simp
        have hh := hK.out (.slice A1 m c1) wq rfl (Below.refl _ _) hC
        simp only [upd, Nat.reduceEqDiff, ↓reduceIte, d5] at hh
        exact hh
      | 7, ho =>
        obtain rfl := Option.some.inj (show some _ = some o from ho)
        intro vs wq hC hE K hK
        obtain d6 : vs 6 = .slice A1 m c1 := hE { on := 6, ground := Ground.data } (by simp) rfl
        obtain d5 : vs 5 = .bool false := hE { on := 5, ground := Ground.guard } (by simp) rfl
        go_simp
        have hh := hK.out (.int .i64 ↑m) wq rfl (Below.refl _ _) hC
        simp only [upd, Nat.reduceEqDiff, ↓reduceIte, d5, d6] at hh
        exact hh
      | 8, ho =>
        obtain rfl := Option.some.inj (show some _ = some o from ho)
        intro vs wq hC hE K hK
        obtain d7 : vs 7 = .int .i64 ↑m := hE { on := 7, ground := Ground.data } (by simp) rfl
        obtain d5 : vs 5 = .bool false := hE { on := 5, ground := Ground.guard } (by simp) rfl
        go_simp
        have hh := hK.out (.bool false) wq rfl (Below.refl _ _) hC
        simp only [upd, Nat.reduceEqDiff, ↓reduceIte, d5, d7] at hh
        exact hh
      | 9, ho =>
        obtain rfl := Option.some.inj (show some _ = some o from ho)
        intro vs wq hC hE K hK
        obtain d5 : vs 5 = .bool false := hE { on := 5, ground := Ground.data } (by simp) rfl
        obtain d8 : vs 8 = .bool false := hE { on := 8, ground := Ground.data } (by simp) rfl
        go_simp
        have hh := hK.out (.bool false) wq rfl (Below.refl _ _) hC
        simp only [upd, Nat.reduceEqDiff, ↓reduceIte, d5, d8] at hh
        exact hh
      | 10, ho =>
        obtain rfl := Option.some.inj (show some _ = some o from ho)
        intro vs wq hC hE K hK
        obtain d9 : vs 9 = .bool false := hE { on := 9, ground := Ground.data } (by simp) rfl
        go_simp
        have hh := hK.out (.bool false) wq rfl (Below.refl _ _) hC
        simp only [upd, Nat.reduceEqDiff, ↓reduceIte, d9] at hh
        exact hh
      | 11, ho =>
        obtain rfl := Option.some.inj (show some _ = some o from ho)
        intro vs wq hC hE K hK
        obtain d10 : vs 10 = .bool false := hE { on := 10, ground := Ground.guard } (by simp) rfl
        go_simp
        have hh := hK.out (.pointer (some ⟨w.heap.size, 2, none⟩)) wq rfl (Below.refl _ _) hC
        simp only [upd, Nat.reduceEqDiff, ↓reduceIte, d10] at hh
        exact hh
      | 12, ho =>
        obtain rfl := Option.some.inj (show some _ = some o from ho)
        intro vs wq hC hE K hK
        obtain d11 : vs 11 = .pointer (some ⟨w.heap.size, 2, none⟩) := hE { on := 11, ground := Ground.data } (by simp) rfl
        obtain d10 : vs 10 = .bool false := hE { on := 10, ground := Ground.guard } (by simp) rfl
        obtain ⟨e0, e1, e2, e3, e4, e5, e6⟩ := blk7 ((hC.block w.heap.size z5).trans HK5.out)
        go_simp
        have hh := hK.out (.int .i64 k) wq rfl (Below.refl _ _) hC
        simp only [upd, Nat.reduceEqDiff, ↓reduceIte, d10, d11] at hh
        exact hh
      | 13, ho =>
        obtain rfl := Option.some.inj (show some _ = some o from ho)
        intro vs wq hC hE K hK
        obtain d12 : vs 12 = .int .i64 k := hE { on := 12, ground := Ground.data } (by simp) rfl
        obtain d10 : vs 10 = .bool false := hE { on := 10, ground := Ground.guard } (by simp) rfl
        go_simp
        go_at_call 8
        refine (PR.out _).mono ?_
        rintro e w3 ⟨rfl, hb3⟩
        have hh := hK.out (.int .i64 ro) w3 rfl hb3 (hC.trans (hb3.mono hC.size))
        simp only [upd, Nat.reduceEqDiff, ↓reduceIte, d10, d12] at hh
        exact hh
      | 14, ho =>
        obtain rfl := Option.some.inj (show some _ = some o from ho)
        intro vs wq hC hE K hK
        obtain d13 : vs 13 = .int .i64 ro := hE { on := 13, ground := Ground.data } (by simp) rfl
        obtain d10 : vs 10 = .bool false := hE { on := 10, ground := Ground.guard } (by simp) rfl
        go_simp
        have hh := hK.out (.bool false) wq rfl (Below.refl _ _) hC
        simp only [upd, Nat.reduceEqDiff, ↓reduceIte, d10, d13] at hh
        exact hh
      | 15, ho =>
        obtain rfl := Option.some.inj (show some _ = some o from ho)
        intro vs wq hC hE K hK
        obtain d10 : vs 10 = .bool false := hE { on := 10, ground := Ground.data } (by simp) rfl
        obtain d14 : vs 14 = .bool false := hE { on := 14, ground := Ground.data } (by simp) rfl
        go_simp
        have hh := hK.out (.bool false) wq rfl (Below.refl _ _) hC
        simp only [upd, Nat.reduceEqDiff, ↓reduceIte, d10, d14] at hh
        exact hh
      | 16, ho =>
        obtain rfl := Option.some.inj (show some _ = some o from ho)
        intro vs wq hC hE K hK
        obtain d15 : vs 15 = .bool false := hE { on := 15, ground := Ground.data } (by simp) rfl
        go_simp
        have hh := hK.out (.bool false) wq rfl (Below.refl _ _) hC
        simp only [upd, Nat.reduceEqDiff, ↓reduceIte, d15] at hh
        exact hh
      | 17, ho =>
        obtain rfl := Option.some.inj (show some _ = some o from ho)
        intro vs wq hC hE K hK
        obtain d16 : vs 16 = .bool false := hE { on := 16, ground := Ground.guard } (by simp) rfl
        go_simp
        have hh := hK.out (.pointer (some ⟨w.heap.size, 2, none⟩)) wq rfl (Below.refl _ _) hC
        simp only [upd, Nat.reduceEqDiff, ↓reduceIte, d16] at hh
        exact hh
      | 18, ho =>
        obtain rfl := Option.some.inj (show some _ = some o from ho)
        intro vs wq hC hE K hK
        obtain d17 : vs 17 = .pointer (some ⟨w.heap.size, 2, none⟩) := hE { on := 17, ground := Ground.data } (by simp) rfl
        obtain d16 : vs 16 = .bool false := hE { on := 16, ground := Ground.guard } (by simp) rfl
        obtain ⟨e0, e1, e2, e3, e4, e5, e6⟩ := blk7 ((hC.block w.heap.size z5).trans HK5.out)
        go_simp
        have hh := hK.out (.int .i64 k) wq rfl (Below.refl _ _) hC
        simp only [upd, Nat.reduceEqDiff, ↓reduceIte, d16, d17] at hh
        exact hh
      | 19, ho =>
        obtain rfl := Option.some.inj (show some _ = some o from ho)
        intro vs wq hC hE K hK
        obtain d18 : vs 18 = .int .i64 k := hE { on := 18, ground := Ground.data } (by simp) rfl
        obtain d16 : vs 16 = .bool false := hE { on := 16, ground := Ground.guard } (by simp) rfl
        go_simp
        go_at_call 8
        refine (PR.out _).mono ?_
        rintro e w3 ⟨rfl, hb3⟩
        have hh := hK.out (.int .i64 ro) w3 rfl hb3 (hC.trans (hb3.mono hC.size))
        simp only [upd, Nat.reduceEqDiff, ↓reduceIte, d16, d18] at hh
        exact hh
      | 20, ho =>
        obtain rfl := Option.some.inj (show some _ = some o from ho)
        intro vs wq hC hE K hK
        obtain d19 : vs 19 = .int .i64 ro := hE { on := 19, ground := Ground.data } (by simp) rfl
        obtain d16 : vs 16 = .bool false := hE { on := 16, ground := Ground.guard } (by simp) rfl
        go_simp
        have hh := hK.out (.bool false) wq rfl (Below.refl _ _) hC
        simp only [upd, Nat.reduceEqDiff, ↓reduceIte, d16, d19] at hh
        exact hh
      | 21, ho =>
        obtain rfl := Option.some.inj (show some _ = some o from ho)
        intro vs wq hC hE K hK
        obtain d16 : vs 16 = .bool false := hE { on := 16, ground := Ground.data } (by simp) rfl
        obtain d20 : vs 20 = .bool false := hE { on := 20, ground := Ground.data } (by simp) rfl
        go_simp
        have hh := hK.out (.bool false) wq rfl (Below.refl _ _) hC
        simp only [upd, Nat.reduceEqDiff, ↓reduceIte, d16, d20] at hh
        exact hh
      | (_ + 22), ho => exact absurd ho (by simp)
    case hend =>
      intro va w6 hC hE
      have r21 : va 21 = _ := hE 21 (by decide)
      simp only [r21]
      have hbF : Below w.heap.size w w6 := hbE.trans (hC.mono hbE.size)
      have B26 : Below w2.heap.size w2 w6 := B25.trans (hC.mono B25.size)
      have K6 := (hC.block w.heap.size z5).trans HK5.out
      have z6 := blk_lt K6
      clear d0 d1 d2 d3 d4 d5 d6
      obtain ⟨d0, d1, d2, d3, d4, d5, d6⟩ := blk7 K6
      have HK6 := hid K6
      clear K6 PC PM PN PR PF HF hE hC r21 HK5 hbE B25 hro1 hro2 hro3
      have hb6 := hbF.alloc hbF.size (.cells #[.int .i64 q, .int .i64 t, .int .i64 k, .string ⟨#[]⟩, .int .i64 a, .int .i64 b, .int .i64 c] 23)
      have B26' := B26.alloc B26.size (.cells #[.int .i64 q, .int .i64 t, .int .i64 k, .string ⟨#[]⟩, .int .i64 a, .int .i64 b, .int .i64 c] 23)
      go_wp2_with fail
      refine (PC3.out _).mono ?_
      rintro e w7 ⟨rfl, hb7⟩
      have F7 := hid ((hb7.block w6.heap.size (by simp)).trans (heap_alloc_new w6 _))
      have K7 := (hb7.block w.heap.size (by simp; omega)).trans ((Below.heap_alloc w6 _ _ z6).trans HK6.out)
      have hbG : Below w.heap.size w w7 := hb6.trans (hb7.mono hb6.size)
      have B27 : Below w2.heap.size w2 w7 := B26'.trans (hb7.mono B26'.size)
      have z7 := blk_lt K7
      have y7 := blk_lt F7.out
      clear d0 d1 d2 d3 d4 d5 d6
      obtain ⟨d0, d1, d2, d3, d4, d5, d6⟩ := blk7 K7
      have HK7 := hid K7
      clear K7 hb6 B26' hb7
      go_wp2_with (refine wpList_store_blk rfl 23 (.tmp 6) (.tmp 61) rfl w6.heap.size #[.int .i64 q, .int .i64 t, .int .i64 k, .string s, .int .i64 a, .int .i64 b, .int .i64 c] rfl rfl 23 _ F7.out event_size rfl (ev_one _ _ _ _ _ _ _) ?_; intro w7b F7b hb7b; obtain ⟨f0, f1, f2, f3, f4, f5, f6⟩ := blk7 F7b.out; have fz := blk7f F7b.out; have y7b := blk_lt F7b.out)
      refine (PC5.out _).mono ?_
      rintro e w8 ⟨rfl, hb8⟩
      have hbX := (hb7b w6.heap.size w7 (Below.refl _ _) (Nat.le_refl _)).setCell (p := ⟨w6.heap.size, 1, none⟩) (Nat.le_refl _) (.int .i64 (-1))
      have F8 := hid ((hb8.block w6.heap.size (Nat.lt_of_lt_of_le y7 hbX.size)).trans (set1 F7b.out))
      have K8 := (hb8.block w.heap.size (Nat.lt_of_lt_of_le z7 hbX.size)).trans ((hbX.block w.heap.size z6).trans HK7.out)
      have hbG' := hbG.trans (hbX.mono hbF.size)
      have hbH : Below w.heap.size w w8 := hbG'.trans (hb8.mono hbG'.size)
      have B27' := B27.trans (hbX.mono B26.size)
      have B28 : Below w2.heap.size w2 w8 := B27'.trans (hb8.mono B27'.size)
      have z8 := blk_lt K8
      have y8 := blk_lt F8.out
      clear d0 d1 d2 d3 d4 d5 d6 f0 f1 f2 f3 f4 f5 f6 fz
      obtain ⟨d0, d1, d2, d3, d4, d5, d6⟩ := blk7 K8
      have HK8 := hid K8
      clear K8 hbG hbG' B27 B27' hb8 hbX F7 F7b hb7b y7b HK7 y7 z7 PC3 PC5
      have hways : ((nn == 0) = true) ∨ ((nn == 0) = false ∧ ((m : Int) == 3) = true) ∨ ((nn == 0) = false ∧ ((m : Int) == 3) = false) := by cases (nn == 0) <;> cases ((m : Int) == 3) <;> simp
      rcases hways with n1 | ⟨n1, n2⟩ | ⟨n1, n2⟩
      · go_wp2_with fail
        go_ret
        exact ⟨rfl, hbH⟩
      · go_wp2_with fail
        go_ret
        exact ⟨rfl, hbH⟩
      have P4 := PC4.out (by intro e; subst e; simp at n2) (by simpa using n1)
      have PG := hid (Check_any q t k s (at3 (L ++ [nn]) 0) (at3 (L ++ [nn]) 1) (at3 (L ++ [nn]) 2))
      rw [P4] at PG
      obtain ⟨x0, hx0⟩ : ∃ x, at3 (L ++ [nn]) 0 = x := ⟨_, rfl⟩
      obtain ⟨x1, hx1⟩ : ∃ x, at3 (L ++ [nn]) 1 = x := ⟨_, rfl⟩
      obtain ⟨x2, hx2⟩ : ∃ x, at3 (L ++ [nn]) 2 = x := ⟨_, rfl⟩
      rw [hx0, hx1, hx2] at PG
      have HX := hid (show at3 (L ++ [nn]) 0 = x0 ∧ at3 (L ++ [nn]) 1 = x1 ∧ at3 (L ++ [nn]) 2 = x2 from ⟨hx0, hx1, hx2⟩)
      obtain ⟨b1, o1, rfl, hb1, hcc⟩ := hS.2 (by have := HM1.out; omega)
      have hb16 : b1 < w6.heap.size := Nat.lt_of_lt_of_le hb1 B26.size
      have HC8 := hid (show ∀ j u, (ints L)[j]? = some u → w8.cell? ⟨b1, o1 + j, none⟩ = some u from fun j u hu => (B28.cell (p := ⟨b1, o1 + j, none⟩) hb1).trans (hcc j u hu))
      obtain ⟨i0, hi0, hz0, hz1, hz2⟩ := info_parts i64_info
      have HI := hid hi0
      have HZ0 := hid hz0
      have HZ1 := hid hz1
      have HZ2 := hid hz2
      clear P4 hx0 hx1 hx2 PC4 hcc hS hi0 hz0 hz1 hz2
      go_wp2_with fail
      refine wp_region_envd (A := fun vs => { tmps := #[Value.agg #[Value.int IntKind.i64 q, Value.int IntKind.i64 t, Value.int IntKind.i64 k, Value.string s, Value.int IntKind.i64 a, Value.int IntKind.i64 b, Value.int IntKind.i64 c], Value.int IntKind.i64 nn, Value.pointer (some { block := w.heap.size, off := 0 }), undef, Value.bool false, Value.slice (some { block := b1, off := o1 }) m c1, Value.pointer (some { block := w6.heap.size, off := 0 }), Value.bool true, Value.bool false, Value.pointer (some { block := w.heap.size, off := 3 }), Value.string s, Value.int IntKind.i64 ↑s.size, Value.bool false, Value.agg #[Value.int IntKind.i64 q, Value.int IntKind.i64 t, Value.int IntKind.i64 k, Value.string s, Value.int IntKind.i64 a, Value.int IntKind.i64 b, Value.int IntKind.i64 c], Value.slice (some { block := b1, off := o1 }) m c1, Value.slice (some { block := b1, off := o1 }) m c1, Value.int IntKind.i64 ↑m, Value.pointer (some { block := w.heap.size, off := 2 }), Value.int IntKind.i64 k, Value.int IntKind.i64 ↑m, Value.bool false, Value.bool false, Value.pointer (some { block := w.heap.size, off := 2 }), Value.int IntKind.i64 k, Value.int IntKind.i64 ro, Value.bool false, Value.slice (some { block := b1, off := o1 }) m c1, Value.int IntKind.i64 ↑m, Value.bool false, Value.bool false, Value.bool false, Value.agg #[Value.int IntKind.i64 q, Value.int IntKind.i64 t, Value.int IntKind.i64 k, Value.string s, Value.int IntKind.i64 a, Value.int IntKind.i64 b, Value.int IntKind.i64 c], Value.int IntKind.i64 0, Value.bool false, va 0, va 1, va 2, va 3, va 4, va 5, va 6, va 7, va 8, va 9, va 10, va 11, va 12, va 13, va 14, va 15, va 16, va 17, va 18, va 19, va 20, Value.bool false, Value.agg #[Value.int IntKind.i64 q, Value.int IntKind.i64 t, Value.int IntKind.i64 k, Value.string s, Value.int IntKind.i64 a, Value.int IntKind.i64 b, Value.int IntKind.i64 c], Value.pointer (some { block := w6.heap.size, off := 3 }), Value.agg #[Value.int IntKind.i64 q, Value.int IntKind.i64 t, Value.int IntKind.i64 k, Value.string { data := #[] }, Value.int IntKind.i64 a, Value.int IntKind.i64 b, Value.int IntKind.i64 c], Value.int IntKind.i64 3, Value.bool false, Value.agg #[Value.int IntKind.i64 q, Value.int IntKind.i64 t, Value.int IntKind.i64 k, Value.string s, Value.int IntKind.i64 a, Value.int IntKind.i64 b, Value.int IntKind.i64 c], Value.pointer (some { block := w6.heap.size, off := 1 }), Value.agg #[Value.int IntKind.i64 q, Value.int IntKind.i64 (-1), Value.int IntKind.i64 k, Value.string s, Value.int IntKind.i64 a, Value.int IntKind.i64 b, Value.int IntKind.i64 c], Value.int IntKind.i64 5, Value.bool false, Value.int IntKind.i64 nn, Value.bool false, Value.bool false, Value.slice (some { block := b1, off := o1 }) m c1, Value.int IntKind.i64 ↑m, Value.bool false, Value.bool false, vs 0, vs 1, vs 2, vs 3, vs 4, vs 5, vs 6, vs 7, undef, undef, undef], defers := [] }) (E := fun dn i yv wq => match i with | 0 => yv = .agg #[.int .i64 q, .int .i64 t, .int .i64 k, .string s, .int .i64 a, .int .i64 b, .int .i64 c] | 1 => dn 3 = false → ∃ h, yv = .slice (some ⟨h, 0, none⟩) 0 0 ∧ w8.heap.size ≤ h ∧ wq.heap[h]? = some (.cells #[] 2 (0, 0)) | 2 => yv = .slice (some ⟨b1, o1, none⟩) m c1 | 3 => dn 6 = false → wq.ownsRow w8.heap.size 2 1 (yv) m (ints L) | 4 => yv = .int .i64 nn | 5 => dn 6 = false → ∃ h, yv = .slice (some ⟨h, 0, none⟩) 1 1 ∧ w8.heap.size ≤ h ∧ wq.heap[h]? = some (.cells #[.int .i64 nn] 2 (0, 0)) | 6 => dn 7 = false → wq.ownsRow w8.heap.size 2 1 (yv) (m + 1) (ints (L ++ [nn])) | 7 => yv = .agg #[.int .i64 q, .int .i64 t, .int .i64 k, .string s, .int .i64 x0, .int .i64 x1, .int .i64 x2] | 8 => wq.heap[w6.heap.size]? = some (.cells #[.int .i64 q, .int .i64 t, .int .i64 k, .string s, .int .i64 x0, .int .i64 x1, .int .i64 x2] 23 (0, 0)) | _ => True) (C := fun wq => Below w6.heap.size w8 wq ∧ ∃ u0 u1 u2 u3 u4 u5 u6, wq.heap[w6.heap.size]? = some (.cells #[u0, u1, u2, u3, u4, u5, u6] 23 (0, 0))) (Ext := fun k wa wb => wa.heap.size ≤ wb.heap.size ∧ (k ≠ 8 → ∀ h, h < w8.heap.size → wb.heap[h]? = wa.heap[h]?) ∧ (k ≠ 6 → ∀ h, w8.heap.size ≤ h → h < wa.heap.size → (k = 3 → ∀ t fr, wa.heap[h]? ≠ some (.cells #[] t fr)) → wb.heap[h]? = wa.heap[h]?)) (fun i => match i with | 0 => undef | 1 => undef | 2 => undef | 3 => undef | 4 => undef | 5 => undef | 6 => undef | 7 => undef | 8 => undef | _ => undef) (by kernel_rfl) (by rfl) ?hC ?hstep ?hstab (low_of (by kernel_rfl)) ?hend
      case hC => exact ⟨Below.drew (Below.refl _ _), _, _, _, _, _, _, _, F8.out⟩
      case hstab =>
        intro dn k i yv wa wb hcl hcl2 hk hi hC hx h
        match i, hi, h with
        | 0, hi, h =>
          exact h
        | 1, hi, h =>
          intro h3
          have k3 : k ≠ 3 := fun e => by subst e; rw [mark_self] at h3; cases h3
          have k6 : k ≠ 6 := fun e => by
            subst e
            have h9 := hcl2 6 _ rfl (mark_self _ _) { on := 3, ground := Ground.data } (by simp) rfl
            rw [h3] at h9
            cases h9
          rw [mark_ne (Ne.symm k3)] at h3
          obtain ⟨h', e1, e2, e3⟩ := h h3
          exact ⟨h', e1, e2, (hx.2.2 k6 h' e2 (blk_lt e3) (fun e => absurd e k3)).trans e3⟩
        | 2, hi, h =>
          exact h
        | 3, hi, h =>
          intro h6
          have k6 : k ≠ 6 := fun e => by subst e; rw [mark_self] at h6; cases h6
          rw [mark_ne (Ne.symm k6)] at h6
          have k3 : k ≠ 3 := fun e => by subst e; rw [hk] at hi; cases hi
          exact own_at (h h6) (fun g hg hlt => hx.2.2 k6 g hg hlt (fun e => absurd e k3))
        | 4, hi, h =>
          exact h
        | 5, hi, h =>
          intro h6
          have k6 : k ≠ 6 := fun e => by subst e; rw [mark_self] at h6; cases h6
          rw [mark_ne (Ne.symm k6)] at h6
          obtain ⟨h', e1, e2, e3⟩ := h h6
          exact ⟨h', e1, e2, (hx.2.2 k6 h' e2 (blk_lt e3) (fun _ t fr e => by rw [e3] at e; simp at e)).trans e3⟩
        | 6, hi, h =>
          intro h7
          have k7 : k ≠ 7 := fun e => by subst e; rw [mark_self] at h7; cases h7
          rw [mark_ne (Ne.symm k7)] at h7
          have k6 : k ≠ 6 := fun e => by subst e; rw [hk] at hi; cases hi
          have k3 : k ≠ 3 := fun e => by
            subst e
            have h9 := hcl 6 _ rfl hi { on := 3, ground := Ground.data } (by simp) rfl
            rw [hk] at h9
            cases h9
          exact own_at (h h7) (fun g hg hlt => hx.2.2 k6 g hg hlt (fun e => absurd e k3))
        | 7, hi, h =>
          exact h
        | 8, hi, h =>
          have k8 : k ≠ 8 := fun e => by subst e; rw [hk] at hi; cases hi
          exact (hx.2.1 k8 _ y8).trans h
        | (_ + 9), _, _ => trivial
      case hstep =>
        intro i o ho
        match i, ho with
        | 0, ho =>
          obtain rfl := Option.some.inj (show some _ = some o from ho)
          intro dn vs wq hd hC hE K hK
          obtain ⟨e0, e1, e2, e3, e4, e5, e6⟩ := blk7 ((hC.1.block w.heap.size z6).trans HK8.out)
          go_simp
          have hh := hK.out (.agg #[.int .i64 q, .int .i64 t, .int .i64 k, .string s, .int .i64 a, .int .i64 b, .int .i64 c]) wq rfl ⟨Nat.le_refl _, fun _ _ _ => rfl, fun _ _ _ _ _ => rfl⟩ hC
          simp only [upd, Nat.reduceEqDiff, ↓reduceIte] at hh
          exact hh
        | 1, ho =>
          obtain rfl := Option.some.inj (show some _ = some o from ho)
          intro dn vs wq hd hC hE K hK
          go_simp
          have hh := hK.out (.slice (some ⟨wq.heap.size, 0, none⟩) 0 0) (wq.alloc (.cells #[] 2)) (fun _ => ⟨wq.heap.size, rfl, hC.1.size, heap_alloc_new _ _⟩) ⟨by simp, fun _ h hl => Below.heap_alloc _ _ _ (Nat.lt_of_lt_of_le hl hC.1.size), fun _ h _ hl _ => Below.heap_alloc _ _ _ hl⟩ ⟨hC.1.alloc (by have := hC.1.size; omega) _, by obtain ⟨u0, u1, u2, u3, u4, u5, u6, hu⟩ := hC.2; exact ⟨u0, u1, u2, u3, u4, u5, u6, (Below.heap_alloc _ _ _ (blk_lt hu)).trans hu⟩⟩
          simp only [upd, Nat.reduceEqDiff, ↓reduceIte] at hh
          exact hh
        | 2, ho =>
          obtain rfl := Option.some.inj (show some _ = some o from ho)
          intro dn vs wq hd hC hE K hK
          go_simp
          have hh := hK.out (.slice (some ⟨b1, o1, none⟩) m c1) wq rfl ⟨Nat.le_refl _, fun _ _ _ => rfl, fun _ _ _ _ _ => rfl⟩ hC
          simp only [upd, Nat.reduceEqDiff, ↓reduceIte] at hh
          exact hh
        | 3, ho =>
          obtain rfl := Option.some.inj (show some _ = some o from ho)
          intro dn vs wq hd hC hE K hK
          obtain ⟨-, d1⟩ : dn 1 = true ∧ (dn 3 = false → ∃ h, vs 1 = .slice (some ⟨h, 0, none⟩) 0 0 ∧ w8.heap.size ≤ h ∧ wq.heap[h]? = some (.cells #[] 2 (0, 0))) := hE { on := 1, ground := Ground.data } (by simp) rfl
          obtain ⟨-, d2⟩ : dn 2 = true ∧ (vs 2 = .slice (some ⟨b1, o1, none⟩) m c1) := hE { on := 2, ground := Ground.data } (by simp) rfl
          rw [if_pos (by rfl)]
          obtain ⟨h1, e1, l1, r1⟩ := d1 hd
          refine wp_append_own _ (.tmp 74) (.tmp 75) 24 rfl w8.heap.size 2 i0 _ 1 8 Try.underlying24 HI.out HZ0.out HZ1.out HZ2.out rfl (by decide) (vs 1) 0 [] rfl ⟨rfl, .inr ⟨h1, 0, #[], e1, l1, r1, Nat.le_refl _, Nat.zero_le _, rfl, rfl⟩⟩ ⟨b1, o1, none⟩ m c1 (ints L) d2 (by have := HLL.out; simp [ints, this]) ?hnews (ints_one L) (by have := HM3.out; simp [maxLen]; omega) (by have := HM3.out; omega) hC.1.size ?_
          case hnews =>
            intro j u hu
            have ha : (⟨b1, o1, none⟩ : Addr).add j = ⟨b1, o1 + j, none⟩ := by unfold Addr.add; split <;> simp_all
            rw [ha]
            exact (hC.1.cell (p := ⟨b1, o1 + j, none⟩) hb16).trans (HC8.out j u hu)
          intro v' w3 hown3 hgrow _
          have hbw : Below w8.heap.size wq w3 := (Below.refl _ _).grown hgrow hC.1.size (by intro x hx; rw [e1] at hx; simp [Value.ownBlock] at hx; omega)
          have hh := hK.out v' w3 (fun _ => by simpa using hown3) ⟨hgrow.size, fun _ h hl => hbw.block h hl, fun _ h hg hl hne => hgrow.block h hl (by rw [e1]; intro e; simp [Value.ownBlock] at e; subst e; exact hne rfl _ _ r1)⟩ ⟨hC.1.trans (hbw.mono (by omega)), by obtain ⟨u0, u1, u2, u3, u4, u5, u6, hu⟩ := hC.2; exact ⟨u0, u1, u2, u3, u4, u5, u6, (hbw.block _ y8).trans hu⟩⟩
          simp only [upd, Nat.reduceEqDiff, ↓reduceIte] at hh
          exact hh
        | 4, ho =>
          obtain rfl := Option.some.inj (show some _ = some o from ho)
          intro dn vs wq hd hC hE K hK
          go_simp
          have hh := hK.out (.int .i64 nn) wq rfl ⟨Nat.le_refl _, fun _ _ _ => rfl, fun _ _ _ _ _ => rfl⟩ hC
          simp only [upd, Nat.reduceEqDiff, ↓reduceIte] at hh
          exact hh
        | 5, ho =>
          obtain rfl := Option.some.inj (show some _ = some o from ho)
          intro dn vs wq hd hC hE K hK
          obtain ⟨-, d4⟩ : dn 4 = true ∧ (vs 4 = .int .i64 nn) := hE { on := 4, ground := Ground.data } (by simp) rfl
          go_simp
          have hh := hK.out (.slice (some ⟨wq.heap.size, 0, none⟩) 1 1) (wq.alloc (.cells #[.int .i64 nn] 2)) (fun _ => ⟨wq.heap.size, rfl, hC.1.size, heap_alloc_new _ _⟩) ⟨by simp, fun _ h hl => Below.heap_alloc _ _ _ (Nat.lt_of_lt_of_le hl hC.1.size), fun _ h _ hl _ => Below.heap_alloc _ _ _ hl⟩ ⟨hC.1.alloc (by have := hC.1.size; omega) _, by obtain ⟨u0, u1, u2, u3, u4, u5, u6, hu⟩ := hC.2; exact ⟨u0, u1, u2, u3, u4, u5, u6, (Below.heap_alloc _ _ _ (blk_lt hu)).trans hu⟩⟩
          simp only [upd, Nat.reduceEqDiff, ↓reduceIte, d4] at hh
          exact hh
        | 6, ho =>
          obtain rfl := Option.some.inj (show some _ = some o from ho)
          intro dn vs wq hd hC hE K hK
          obtain ⟨-, d3⟩ : dn 3 = true ∧ (dn 6 = false → wq.ownsRow w8.heap.size 2 1 (vs 3) m (ints L)) := hE { on := 3, ground := Ground.data } (by simp) rfl
          obtain ⟨-, d5⟩ : dn 5 = true ∧ (dn 6 = false → ∃ h, vs 5 = .slice (some ⟨h, 0, none⟩) 1 1 ∧ w8.heap.size ≤ h ∧ wq.heap[h]? = some (.cells #[.int .i64 nn] 2 (0, 0))) := hE { on := 5, ground := Ground.data } (by simp) rfl
          rw [if_pos (by rfl)]
          obtain ⟨h5, e5, l5, r5⟩ := d5 hd
          have own := d3 hd
          refine wp_append_own _ (.tmp 76) (.tmp 78) 24 rfl w8.heap.size 2 i0 _ 1 8 Try.underlying24 HI.out HZ0.out HZ1.out HZ2.out rfl (by decide) (vs 3) m (ints L) rfl own ⟨h5, 0, none⟩ 1 1 [.int .i64 nn] e5 rfl (World.news_of_block (cs := #[.int .i64 nn]) (t := 2) (fr := (0, 0)) r5) (by simp [Value.oneCell']) (by have := HM3.out; simp [maxLen]; omega) (by have := HM3.out; omega) hC.1.size ?_
          intro v' w3 hown3 hgrow _
          have hbw : Below w8.heap.size wq w3 := (Below.refl _ _).grown hgrow hC.1.size (own_low own)
          have hh := hK.out v' w3 (fun _ => by have h9 := hown3; rw [show ints L ++ [.int .i64 nn] = ints (L ++ [nn]) by simp [ints]] at h9; exact h9) ⟨hgrow.size, fun _ h hl => hbw.block h hl, fun e => absurd rfl e⟩ ⟨hC.1.trans (hbw.mono (by omega)), by obtain ⟨u0, u1, u2, u3, u4, u5, u6, hu⟩ := hC.2; exact ⟨u0, u1, u2, u3, u4, u5, u6, (hbw.block _ y8).trans hu⟩⟩
          simp only [upd, Nat.reduceEqDiff, ↓reduceIte] at hh
          exact hh
        | 7, ho =>
          obtain rfl := Option.some.inj (show some _ = some o from ho)
          intro dn vs wq hd hC hE K hK
          obtain ⟨-, d0⟩ : dn 0 = true ∧ (vs 0 = .agg #[.int .i64 q, .int .i64 t, .int .i64 k, .string s, .int .i64 a, .int .i64 b, .int .i64 c]) := hE { on := 0, ground := Ground.data } (by simp) rfl
          obtain ⟨-, d6⟩ : dn 6 = true ∧ (dn 7 = false → wq.ownsRow w8.heap.size 2 1 (vs 6) (m + 1) (ints (L ++ [nn]))) := hE { on := 6, ground := Ground.data } (by simp) rfl
          obtain ⟨A6, c6, e6, -, -, -, hS6, -⟩ := own_reads (d6 hd) (Nat.le_refl _)
          have PZ := Fill_any q t k s a b c (cp := c6) hS6 (Nat.le_refl _) (by have := HM3.out; omega)
          rw [HX.out.1, HX.out.2.1, HX.out.2.2] at PZ
          go_simp
          go_at_call 15
          refine PZ.mono ?_
          rintro e w3 ⟨rfl, hb3⟩
          have hh := hK.out (.agg #[.int .i64 q, .int .i64 t, .int .i64 k, .string s, .int .i64 x0, .int .i64 x1, .int .i64 x2]) w3 rfl ⟨hb3.size, fun _ h hl => hb3.block h (Nat.lt_of_lt_of_le hl hC.1.size), fun _ h _ hl _ => hb3.block h hl⟩ ⟨hC.1.trans (hb3.mono (by have := hC.1.size; omega)), by obtain ⟨u0, u1, u2, u3, u4, u5, u6, hu⟩ := hC.2; exact ⟨u0, u1, u2, u3, u4, u5, u6, (hb3.block _ (blk_lt hu)).trans hu⟩⟩
          simp only [upd, Nat.reduceEqDiff, ↓reduceIte, d0, e6] at hh
          exact hh
        | 8, ho =>
          obtain rfl := Option.some.inj (show some _ = some o from ho)
          intro dn vs wq hd hC hE K hK
          obtain ⟨-, d7⟩ : dn 7 = true ∧ (vs 7 = .agg #[.int .i64 q, .int .i64 t, .int .i64 k, .string s, .int .i64 x0, .int .i64 x1, .int .i64 x2]) := hE { on := 7, ground := Ground.data } (by simp) rfl
          obtain ⟨u0, u1, u2, u3, u4, u5, u6, hu⟩ := hC.2
          obtain ⟨f0, f1, f2, f3, f4, f5, f6⟩ := blk7 hu
          have fz := blk7f hu
          have fl := blk_lt hu
          go_simp
          have hh := hK.out undef (((((((wq.setCell ⟨w6.heap.size, 0, none⟩ (.int .i64 q)).setCell ⟨w6.heap.size, 1, none⟩ (.int .i64 t)).setCell ⟨w6.heap.size, 2, none⟩ (.int .i64 k)).setCell ⟨w6.heap.size, 3, none⟩ (.string s)).setCell ⟨w6.heap.size, 4, none⟩ (.int .i64 x0)).setCell ⟨w6.heap.size, 5, none⟩ (.int .i64 x1)).setCell ⟨w6.heap.size, 6, none⟩ (.int .i64 x2)) (set7 hu) ⟨(below7 (Below.refl 0 wq) (Nat.zero_le _) (.int .i64 q) (.int .i64 t) (.int .i64 k) (.string s) (.int .i64 x0) (.int .i64 x1) (.int .i64 x2)).size, fun e => absurd rfl e, fun _ h hg _ _ => far7 (by omega)⟩ ⟨below7 hC.1 (Nat.le_refl _) (.int .i64 q) (.int .i64 t) (.int .i64 k) (.string s) (.int .i64 x0) (.int .i64 x1) (.int .i64 x2), _, _, _, _, _, _, _, set7 hu⟩
          simp only [upd, Nat.reduceEqDiff, ↓reduceIte, d7] at hh
          exact hh
        | (_ + 9), ho => exact absurd ho (by simp)
      case hend =>
        intro dn va w9 hd hC hE
        have F9 : w9.heap[w6.heap.size]? = _ := hE 8 (by decide)
        have y9 := blk_lt F9
        clear d0 d1 d2 d3 d4 d5 d6
        obtain ⟨f0, f1, f2, f3, f4, f5, f6⟩ := blk7 F9
        have hbI : Below w.heap.size w w9 := hbH.trans (hC.1.mono hbF.size)
        clear F9 hE hC hd
        go_wp2_with fail
        refine (PG.out _).mono ?_
        rintro e w10 ⟨rfl, hb10⟩
        go_wp2_with fail
        go_ret
        exact ⟨rfl, hbI.trans (hb10.mono hbI.size)⟩
end Go.Proofs.Ytcgbdmidlkflhaa
