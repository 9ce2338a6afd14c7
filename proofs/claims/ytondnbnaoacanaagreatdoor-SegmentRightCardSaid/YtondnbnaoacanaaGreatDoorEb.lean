/- Texts laid together: Event5, Event4, Event6. -/
import Derived.Test.YtondnbnaoacanaaGreatDoorEa
import Derived.Laws.CopyOwn
import Derived.Test.YtondnbnaoacanaaGreatDoorEvent3
import Derived.Test.YtondnbnaoacanaaGreatDoorBase
import Derived.Laws.StructEq
/- Contracts of layer 5 (event): the numbers of an event, and an event filled with numbers. -/
namespace Go.Proofs.YtondnbnaoacanaaGreatDoor
open Go.ChangeShapes Go.WideShapes Go.ChangeAt Go.RowKit Fb

theorem ints_one (l : List Int) : ∀ u ∈ ints l, u.oneCell' = true := by
  intro u hu
  obtain ⟨x, -, rfl⟩ := List.mem_map.1 hu
  rfl
def at3 (zs : List Int) (i : Nat) : Int := zs.getD i 0
theorem splice_at3 (zs : List Int) : splice [Value.int .i64 0, Value.int .i64 0, Value.int .i64 0] 0 ((ints zs).take 3) = [.int .i64 (at3 zs 0), .int .i64 (at3 zs 1), .int .i64 (at3 zs 2)] := by
  rcases zs with _ | ⟨x, _ | ⟨y, _ | ⟨z, r⟩⟩⟩ <;> simp [splice, ints, at3]
theorem blk7 {w : World} {g : Nat} {t : TypeId} {a b c d e f h : Value} (H : w.heap[g]? = some (.cells #[a, b, c, d, e, f, h] t (0, 0))) :
    w.cell? ⟨g, 0, none⟩ = some a ∧ w.cell? ⟨g, 1, none⟩ = some b ∧ w.cell? ⟨g, 2, none⟩ = some c ∧ w.cell? ⟨g, 3, none⟩ = some d ∧ w.cell? ⟨g, 4, none⟩ = some e ∧ w.cell? ⟨g, 5, none⟩ = some f ∧ w.cell? ⟨g, 6, none⟩ = some h :=
  ⟨cell_of_row w g 0 _ t (0, 0) H, cell_of_row w g 1 _ t (0, 0) H, cell_of_row w g 2 _ t (0, 0) H, cell_of_row w g 3 _ t (0, 0) H, cell_of_row w g 4 _ t (0, 0) H, cell_of_row w g 5 _ t (0, 0) H, cell_of_row w g 6 _ t (0, 0) H⟩
theorem blk7f {w : World} {g : Nat} {t : TypeId} {a b c d e f h : Value} (H : w.heap[g]? = some (.cells #[a, b, c, d, e, f, h] t (0, 0))) (k : Nat) : w.frozen? ⟨g, k, none⟩ = false := by simp [World.frozen?, H]
theorem blk_lt {w : World} {g : Nat} {o : Obj} (H : w.heap[g]? = some o) : g < w.heap.size := by
  rcases Nat.lt_or_ge g w.heap.size with h | h
  · exact h
  · rw [Array.getElem?_eq_none h] at H; cases H
theorem i64_size : (Tryz.prog.info? 2).map (·.size) = some 1 := by kernel_rfl

set_option maxHeartbeats 4000000 in
theorem Fill_any (q t k : Int) (s : ByteArray) (a b c : Int) {A : Option Addr} {n cp B : Nat} {zs : List Int} {w : World} (hS : Sl w B A n (ints zs)) (hB : B ≤ w.heap.size) (hn : n ≤ 1000000) :
    Calls Tryz.prog 122 #[.agg #[.int .i64 q, .int .i64 t, .int .i64 k, .string s, .int .i64 a, .int .i64 b, .int .i64 c], .slice A n cp] w fun e w' => e = .returned (.agg #[.int .i64 q, .int .i64 t, .int .i64 k, .string s, .int .i64 (at3 zs 0), .int .i64 (at3 zs 1), .int .i64 (at3 zs 2)]) ∧ Below w.heap.size w w' := by
  generalize hx0 : at3 zs 0 = x0
  generalize hx1 : at3 zs 1 = x1
  generalize hx2 : at3 zs 2 = x2
  have HX := hid (show splice [Value.int .i64 0, Value.int .i64 0, Value.int .i64 0] 0 ((ints zs).take 3) = [.int .i64 x0, .int .i64 x1, .int .i64 x2] by rw [splice_at3, hx0, hx1, hx2])
  clear hx0 hx1 hx2
  go_enter Tryz.func122, Tryz.ntmps122
  go_wp2_with (refine wpList_copy_splice rfl (.tmp 6) (.tmp 7) 79 79 rfl 2 Tryz.underlying79 i64_size _ _ 3 3 n cp rfl rfl (w.heap.size + 2) 0 [.int .i64 0, .int .i64 0, .int .i64 0] 140 ?hg ((ints zs).take 3) ?hn ?hpos (by simp [ints]; omega) ?h1 (w.heap.size + 2) _ (Below.refl _ _) (Nat.le_refl _) ?_)
  case hg => exact (kept3 (w := w) (Below.refl _ _)).2.2
  case hn => rw [List.length_take, hS.len]; exact Nat.min_comm _ _
  case h1 => exact fun u hu => ints_one zs u (List.mem_of_mem_take hu)
  case hpos =>
    intro h0
    have hS3 := hS.below ((((Below.refl B w).alloc hB (.cells #[.int .i64 q, .int .i64 t, .int .i64 k, .string s, .int .i64 a, .int .i64 b, .int .i64 c] 41)).alloc (by simp; omega) (.cells #[.int .i64 0, .int .i64 0, .int .i64 0, .string ⟨#[]⟩, .int .i64 0, .int .i64 0, .int .i64 0] 41)).alloc (by simp; omega) (.cells #[.int .i64 0, .int .i64 0, .int .i64 0] 140))
    obtain ⟨b0, o, rfl, -, hc⟩ := hS3.2 (by have := hS.len; omega)
    refine ⟨_, rfl, fun j v hv => ?_⟩
    have ha : (⟨b0, o, none⟩ : Addr).add j = ⟨b0, o + j, none⟩ := by unfold Addr.add; split <;> simp_all
    rw [ha]
    refine hc j v ?_
    rw [List.getElem?_take] at hv
    split at hv
    · exact hv
    · cases hv
  intro w1 K1 hb1
  rw [HX.out] at K1
  clear HX
  have k2 := kept2 (w := w) (o1 := .cells #[.int .i64 q, .int .i64 t, .int .i64 k, .string s, .int .i64 a, .int .i64 b, .int .i64 c] 41) (o2 := .cells #[.int .i64 0, .int .i64 0, .int .i64 0, .string ⟨#[]⟩, .int .i64 0, .int .i64 0, .int .i64 0] 41) (Below.refl _ _)
  have hbB : Below w.heap.size w w1 := ((((Below.refl _ w).alloc (Nat.le_refl _) (.cells #[.int .i64 q, .int .i64 t, .int .i64 k, .string s, .int .i64 a, .int .i64 b, .int .i64 c] 41)).alloc (by simp) (.cells #[.int .i64 0, .int .i64 0, .int .i64 0, .string ⟨#[]⟩, .int .i64 0, .int .i64 0, .int .i64 0] 41)).alloc (by simp; omega) (.cells #[.int .i64 0, .int .i64 0, .int .i64 0] 140)).trans (hb1.mono (by omega))
  have E1 := ((hb1.block w.heap.size (by omega)).trans (Below.heap_alloc _ _ _ (by simp; omega))).trans k2.1
  have E2 := ((hb1.block (w.heap.size + 1) (by omega)).trans (Below.heap_alloc _ _ _ (by simp))).trans k2.2
  have z1 := blk_lt K1.out
  have z2 := blk_lt E1
  have z3 := blk_lt E2
  obtain ⟨d0, d1, d2, d3, d4, d5, d6⟩ := blk7 E1
  obtain ⟨f0, f1, f2, f3, f4, f5, f6⟩ := blk7 E2
  obtain ⟨c0, c1, c2, -, -, -⟩ := blk3 K1.out
  have fz1 := blk7f E1
  have fz2 := blk7f E2
  clear k2 E1 E2 K1 hb1 hS hn
  go_wp2_with fail
  go_region
  go_wp2
  refine bodyPost_ret (v := .agg #[.int .i64 q, .int .i64 t, .int .i64 k, .string s, .int .i64 x0, .int .i64 x1, .int .i64 x2]) (by simp [results, Tryz.results122, go_sem, f0, f1, f2, f3, f4, f5, f6]) rfl ⟨rfl, ?_⟩
  refine Below.drew ?_
  iterate 10 refine Below.setCell ?_ (by simp) _
  exact hbB
set_option maxHeartbeats 4000000 in
theorem Numbers_any (q t k : Int) (s : ByteArray) (a b c : Int) (w : World) :
    Calls Tryz.prog 72 #[.agg #[.int .i64 q, .int .i64 t, .int .i64 k, .string s, .int .i64 a, .int .i64 b, .int .i64 c]] w fun e w' => (∃ A cp, e = .returned (.slice A (mnI k).toNat cp) ∧ (mnI k).toNat ≤ cp ∧ cp ≤ 3 ∧ (A = none → cp = 0) ∧ Sl w' w'.heap.size A (mnI k).toNat (ints ([a, b, c].take (mnI k).toNat))) ∧ Below w.heap.size w w' := by
  have hm : mnI k = 0 ∨ mnI k = 1 ∨ mnI k = 2 ∨ mnI k = 3 := by unfold mnI; omega
  have HP := hid (Many_any k)
  have hbA : Below w.heap.size w (w.alloc (.cells #[.int .i64 q, .int .i64 t, .int .i64 k, .string s, .int .i64 a, .int .i64 b, .int .i64 c] 41)) := (Below.refl _ _).alloc (Nat.le_refl _) _
  have HK := hid (heap_alloc_new w (.cells #[.int .i64 q, .int .i64 t, .int .i64 k, .string s, .int .i64 a, .int .i64 b, .int .i64 c] 41))
  rcases hm with hm | hm | hm | hm
  all_goals
    rw [hm] at HP
    rw [hm]
    clear hm
    go_enter Tryz.func72, Tryz.ntmps72
    go_wp2_with fail
    refine (HP.out _).mono ?_
    rintro e w1 ⟨rfl, hb1⟩
    have K1 := (hb1.block w.heap.size (by simp)).trans HK.out
    have z1 := blk_lt K1
    obtain ⟨d0, d1, d2, d3, d4, d5, d6⟩ := blk7 K1
    have hb2 := hbA.trans (hb1.mono hbA.size)
    clear K1
    go_wp2_with fail
    go_ret
    refine ⟨⟨_, _, rfl, by decide, by decide, by simp, ?_⟩, hb2.alloc hb2.size _⟩
    exact (Sl.fresh w1 #[.int .i64 a, .int .i64 b, .int .i64 c] 2 (by simp)).take (by show _ ≤ 3; decide)
end Go.Proofs.YtondnbnaoacanaaGreatDoor
/- Contracts of layer 5 (event) and of its reference: may an event be told? -/
namespace Go.Proofs.YtondnbnaoacanaaGreatDoor
open Go.ChangeShapes Go.WideShapes Go.ChangeAt Go.RowKit Fb

/-- what is said of an event -/
def chI (q t k : Int) (s : ByteArray) (a b c : Int) : Int :=
  if k < 1 ∨ 10 < k then 2 else if nmB s = false then 3 else if vlB k a b c = false then 4 else if inB 0 1099511627776 t = false then 5 else if inB 0 4294967296 q = false then 1 else 0
theorem ch_kind {q t k : Int} {s : ByteArray} {a b c : Int} (h : k < 1 ∨ 10 < k) : chI q t k s a b c = 2 := by simp [chI, h]
theorem ch_name {q t k : Int} {s : ByteArray} {a b c : Int} (h : ¬ (k < 1 ∨ 10 < k)) (h1 : nmB s = false) : chI q t k s a b c = 3 := by simp [chI, h, h1]
theorem ch_value {q t k : Int} {s : ByteArray} {a b c : Int} (h : ¬ (k < 1 ∨ 10 < k)) (h1 : nmB s = true) (h2 : vlB k a b c = false) : chI q t k s a b c = 4 := by simp [chI, h, h1, h2]
theorem ch_time {q t k : Int} {s : ByteArray} {a b c : Int} (h : ¬ (k < 1 ∨ 10 < k)) (h1 : nmB s = true) (h2 : vlB k a b c = true) (h3 : inB 0 1099511627776 t = false) : chI q t k s a b c = 5 := by simp [chI, h, h1, h2, h3]
theorem ch_seq {q t k : Int} {s : ByteArray} {a b c : Int} (h : ¬ (k < 1 ∨ 10 < k)) (h1 : nmB s = true) (h2 : vlB k a b c = true) (h3 : inB 0 1099511627776 t = true) (h4 : inB 0 4294967296 q = false) : chI q t k s a b c = 1 := by simp [chI, h, h1, h2, h3, h4]
theorem ch_ok {q t k : Int} {s : ByteArray} {a b c : Int} (h : ¬ (k < 1 ∨ 10 < k)) (h1 : nmB s = true) (h2 : vlB k a b c = true) (h3 : inB 0 1099511627776 t = true) (h4 : inB 0 4294967296 q = true) : chI q t k s a b c = 0 := by simp [chI, h, h1, h2, h3, h4]
theorem ch_all (q t k : Int) (s : ByteArray) (a b c : Int) : (k < 1 ∨ 10 < k) ∨ (¬ (k < 1 ∨ 10 < k) ∧ nmB s = false) ∨ (¬ (k < 1 ∨ 10 < k) ∧ nmB s = true ∧ vlB k a b c = false) ∨ (¬ (k < 1 ∨ 10 < k) ∧ nmB s = true ∧ vlB k a b c = true ∧ inB 0 1099511627776 t = false) ∨ (¬ (k < 1 ∨ 10 < k) ∧ nmB s = true ∧ vlB k a b c = true ∧ inB 0 1099511627776 t = true ∧ inB 0 4294967296 q = false) ∨ (¬ (k < 1 ∨ 10 < k) ∧ nmB s = true ∧ vlB k a b c = true ∧ inB 0 1099511627776 t = true ∧ inB 0 4294967296 q = true) := by
  by_cases h : k < 1 ∨ 10 < k
  · exact .inl h
  · cases h1 : nmB s <;> cases h2 : vlB k a b c <;> cases h3 : inB 0 1099511627776 t <;> cases h4 : inB 0 4294967296 q <;> simp [h]

theorem Named_is {s : ByteArray} {r : Bool} (h : nmB s = r) (w : World) :
    Calls Tryz.prog 87 #[.string s] w fun e w' => e = .returned (.bool r) ∧ w = w' := h ▸ Named_any s w
theorem within_is {lo hi n : Int} {r : Bool} (h : inB lo hi n = r) (w : World) :
    Calls Tryz.prog 92 #[.int .i64 n, .agg #[.int .i64 lo, .int .i64 hi]] w fun e w' => e = .returned (.bool r) ∧ Below w.heap.size w w' := h ▸ within_any n lo hi w
theorem fits_is {k a b c : Int} {r : Bool} (h : vlB k a b c = r) (x y : Int) (w : World) :
    Calls Tryz.prog 91 #[.agg #[.int .i64 x, .int .i64 y, .int .i64 (loI k), .int .i64 (hiI k), .int .i64 0, .int .i64 (hjI k), .int .i64 0, .int .i64 (hkI k)], .agg #[.int .i64 a, .int .i64 b, .int .i64 c]] w fun e w' => e = .returned (.bool r) ∧ Below w.heap.size w w' := by
  have := fits_any x y (loI k) (hiI k) 0 (hjI k) 0 (hkI k) a b c w
  rw [vlB_in, h] at this
  exact this
theorem values_is {k a b c : Int} {r : Bool} (hk : ¬ (k < 1 ∨ 10 < k)) (h : vlB k a b c = r) (q t : Int) (s : ByteArray) (w : World) :
    Calls Tryz.prog 95 #[.agg #[.int .i64 q, .int .i64 t, .int .i64 k, .string s, .int .i64 a, .int .i64 b, .int .i64 c]] w fun e w' => e = .returned (.bool r) ∧ Below w.heap.size w w' :=
  h ▸ values_any (by omega) q t s a b c w
set_option maxHeartbeats 4000000 in
theorem RCheck_any (q t k : Int) (s : ByteArray) (a b c : Int) (w : World) :
    Calls Tryz.prog 73 #[.agg #[.int .i64 q, .int .i64 t, .int .i64 k, .string s, .int .i64 a, .int .i64 b, .int .i64 c]] w fun e w' => e = .returned (.int .i64 (chI q t k s a b c)) ∧ Below w.heap.size w w' := by
  have hbA : Below w.heap.size w (w.alloc (.cells #[.int .i64 q, .int .i64 t, .int .i64 k, .string s, .int .i64 a, .int .i64 b, .int .i64 c] 41)) := (Below.refl _ _).alloc (Nat.le_refl _) _
  have HK := hid (heap_alloc_new w (.cells #[.int .i64 q, .int .i64 t, .int .i64 k, .string s, .int .i64 a, .int .i64 b, .int .i64 c] 41))
  rcases ch_all q t k s a b c with h | ⟨h, h1⟩ | ⟨h, h1, h2⟩ | ⟨h, h1, h2, h3⟩ | ⟨h, h1, h2, h3, h4⟩ | ⟨h, h1, h2, h3, h4⟩
  · rw [ch_kind h]
    have dk : decide (k < 1) = true ∨ (decide (k < 1) = false ∧ decide (10 < k) = true) := by
      rcases h with h | h
      · exact .inl (decide_eq_true h)
      · exact .inr ⟨decide_eq_false (by omega), decide_eq_true h⟩
    clear h
    rcases dk with dk | ⟨dk, dl⟩
    all_goals
      go_enter Tryz.func73, Tryz.ntmps73
      go_wp2_with fail
      go_ret
      exact ⟨rfl, hbA⟩
  · rw [ch_name h h1]
    have h1' : ((s.size : Int) == 0) = true ∨ (((s.size : Int) == 0) = false ∧ decide ((24 : Int) < s.size) = true) := by
      unfold nmB at h1
      have := of_decide_eq_false h1
      by_cases h0 : (s.size : Int) = 0
      · exact .inl (by simpa using h0)
      · exact .inr ⟨by simpa using h0, decide_eq_true (by omega)⟩
    have dk : decide (k < 1) = false := decide_eq_false (by omega)
    have dl : decide (10 < k) = false := decide_eq_false (by omega)
    clear h h1
    rcases h1' with h1 | ⟨h0, h1⟩
    all_goals
      go_enter Tryz.func73, Tryz.ntmps73
      go_wp2_with fail
      go_ret
      exact ⟨rfl, hbA⟩
  all_goals
    have s1 : ((s.size : Int) == 0) = false := by unfold nmB at h1; have := of_decide_eq_true h1; simp; intro e; rw [e] at this; simp at this
    have s2 : decide ((24 : Int) < s.size) = false := by unfold nmB at h1; have := of_decide_eq_true h1; exact decide_eq_false (by omega)
    have dk : decide (k < 1) = false := decide_eq_false (by omega)
    have dl : decide (10 < k) = false := decide_eq_false (by omega)
    have HV := hid (values_is h h2 q t s)
  · rw [ch_value h h1 h2]
    clear h h1 h2
    go_enter Tryz.func73, Tryz.ntmps73
    go_wp2_with fail
    refine (HV.out _).mono ?_
    rintro e w1 ⟨rfl, hb1⟩
    go_wp2_with fail
    go_ret
    exact ⟨rfl, hbA.trans (hb1.mono hbA.size)⟩
  · rw [ch_time h h1 h2 h3]
    have g3 : decide (t < 0) = true ∨ (decide (t < 0) = false ∧ decide (1099511627776 < t) = true) := by
      unfold inB at h3
      have := of_decide_eq_false h3
      by_cases h0 : t < 0
      · exact .inl (decide_eq_true h0)
      · exact .inr ⟨decide_eq_false h0, decide_eq_true (by omega)⟩
    clear h h1 h2 h3
    rcases g3 with g3 | ⟨g2, g3⟩
    all_goals
      go_enter Tryz.func73, Tryz.ntmps73
      go_wp2_with fail
      refine (HV.out _).mono ?_
      rintro e w1 ⟨rfl, hb1⟩
      have K1 := (hb1.block w.heap.size (by simp)).trans HK.out
      have z1 := blk_lt K1
      obtain ⟨d0, d1, d2, d3, d4, d5, d6⟩ := blk7 K1
      clear K1
      go_wp2_with fail
      go_ret
      exact ⟨rfl, hbA.trans (hb1.mono hbA.size)⟩
  · rw [ch_seq h h1 h2 h3 h4]
    have g3 : decide (t < 0) = false ∧ decide (1099511627776 < t) = false := by unfold inB at h3; have := of_decide_eq_true h3; exact ⟨decide_eq_false (by omega), decide_eq_false (by omega)⟩
    have g4 : decide (q < 0) = true ∨ (decide (q < 0) = false ∧ decide (4294967296 < q) = true) := by
      unfold inB at h4
      have := of_decide_eq_false h4
      by_cases h0 : q < 0
      · exact .inl (decide_eq_true h0)
      · exact .inr ⟨decide_eq_false h0, decide_eq_true (by omega)⟩
    obtain ⟨g3a, g3b⟩ := g3
    clear h h1 h2 h3 h4
    rcases g4 with g4 | ⟨g2, g4⟩
    all_goals
      go_enter Tryz.func73, Tryz.ntmps73
      go_wp2_with fail
      refine (HV.out _).mono ?_
      rintro e w1 ⟨rfl, hb1⟩
      have K1 := (hb1.block w.heap.size (by simp)).trans HK.out
      have z1 := blk_lt K1
      obtain ⟨d0, d1, d2, d3, d4, d5, d6⟩ := blk7 K1
      clear K1
      go_wp2_with fail
      go_ret
      exact ⟨rfl, hbA.trans (hb1.mono hbA.size)⟩
  · rw [ch_ok h h1 h2 h3 h4]
    have g3 : decide (t < 0) = false ∧ decide (1099511627776 < t) = false := by unfold inB at h3; have := of_decide_eq_true h3; exact ⟨decide_eq_false (by omega), decide_eq_false (by omega)⟩
    have g4 : decide (q < 0) = false ∧ decide (4294967296 < q) = false := by unfold inB at h4; have := of_decide_eq_true h4; exact ⟨decide_eq_false (by omega), decide_eq_false (by omega)⟩
    obtain ⟨g3a, g3b⟩ := g3
    obtain ⟨g4a, g4b⟩ := g4
    clear h h1 h2 h3 h4
    go_enter Tryz.func73, Tryz.ntmps73
    go_wp2_with fail
    refine (HV.out _).mono ?_
    rintro e w1 ⟨rfl, hb1⟩
    have K1 := (hb1.block w.heap.size (by simp)).trans HK.out
    have z1 := blk_lt K1
    obtain ⟨d0, d1, d2, d3, d4, d5, d6⟩ := blk7 K1
    clear K1
    go_wp2_with fail
    go_ret
    exact ⟨rfl, hbA.trans (hb1.mono hbA.size)⟩

set_option maxHeartbeats 4000000 in
theorem Check_any (q t k : Int) (s : ByteArray) (a b c : Int) (w : World) :
    Calls Tryz.prog 68 #[.agg #[.int .i64 q, .int .i64 t, .int .i64 k, .string s, .int .i64 a, .int .i64 b, .int .i64 c]] w fun e w' => e = .returned (.int .i64 (chI q t k s a b c)) ∧ Below w.heap.size w w' := by
  have hbA : Below w.heap.size w (w.alloc (.cells #[.int .i64 q, .int .i64 t, .int .i64 k, .string s, .int .i64 a, .int .i64 b, .int .i64 c] 41)) := (Below.refl _ _).alloc (Nat.le_refl _) _
  have HK := hid (heap_alloc_new w (.cells #[.int .i64 q, .int .i64 t, .int .i64 k, .string s, .int .i64 a, .int .i64 b, .int .i64 c] 41))
  have P := ruleOf_any k
  unfold ruV at P
  have HP := hid P
  clear P
  rcases ch_all q t k s a b c with h | ⟨h, h1⟩ | ⟨h, h1, h2⟩ | ⟨h, h1, h2, h3⟩ | ⟨h, h1, h2, h3, h4⟩ | ⟨h, h1, h2, h3, h4⟩
  · rw [ch_kind h]
    have m0 : (mnI k == 0) = true := by unfold mnI; rw [if_pos h]; rfl
    clear h
    go_enter Tryz.func68, Tryz.ntmps68
    go_wp2_with fail
    refine (HP.out _).mono ?_
    rintro e w1 ⟨rfl, hb1⟩
    have hbB := hbA.trans (hb1.mono hbA.size)
    go_wp2_with fail
    go_ret
    exact ⟨rfl, hbB.alloc hbB.size _⟩
  all_goals
    have m0 : (mnI k == 0) = false := by unfold mnI; rw [if_neg h]; split <;> (try split) <;> rfl
    have HN := hid (Named_is h1)
  · rw [ch_name h h1]
    clear h h1
    go_enter Tryz.func68, Tryz.ntmps68
    go_wp2_with fail
    refine (HP.out _).mono ?_
    rintro e w1 ⟨rfl, hb1⟩
    have K1 := (hb1.block w.heap.size (by simp)).trans HK.out
    have z1 := blk_lt K1
    obtain ⟨d0, d1, d2, d3, d4, d5, d6⟩ := blk7 K1
    have hbB := hbA.trans (hb1.mono hbA.size)
    go_wp2_with fail
    refine (HN.out _).mono ?_
    rintro e w2 ⟨rfl, rfl⟩
    go_wp2_with fail
    go_ret
    exact ⟨rfl, hbB.alloc hbB.size _⟩
  all_goals
    have HF := hid (fits_is h2 (roI k) (mnI k))
  · rw [ch_value h h1 h2]
    clear h h1 h2
    go_enter Tryz.func68, Tryz.ntmps68
    go_wp2_with fail
    refine (HP.out _).mono ?_
    rintro e w1 ⟨rfl, hb1⟩
    have K1 := (hb1.block w.heap.size (by simp)).trans HK.out
    have z1 := blk_lt K1
    obtain ⟨d0, d1, d2, d3, d4, d5, d6⟩ := blk7 K1
    have hbB := hbA.trans (hb1.mono hbA.size)
    go_wp2_with fail
    refine (HN.out _).mono ?_
    rintro e w2 ⟨rfl, rfl⟩
    go_wp2_with fail
    refine (HF.out _).mono ?_
    rintro e w3 ⟨rfl, hb3⟩
    have hbC := hbB.alloc hbB.size (.cells (ruV k) 137)
    have hbD : Below w.heap.size w w3 := hbC.trans (hb3.mono hbC.size)
    go_wp2_with fail
    go_ret
    exact ⟨rfl, hbD⟩
  all_goals
    have HT := hid (within_is h3)
  · rw [ch_time h h1 h2 h3]
    clear h h1 h2 h3
    go_enter Tryz.func68, Tryz.ntmps68
    go_wp2_with fail
    refine (HP.out _).mono ?_
    rintro e w1 ⟨rfl, hb1⟩
    have K1 := (hb1.block w.heap.size (by simp)).trans HK.out
    have z1 := blk_lt K1
    obtain ⟨d0, d1, d2, d3, d4, d5, d6⟩ := blk7 K1
    have hbB := hbA.trans (hb1.mono hbA.size)
    have HK1 := hid K1
    clear K1
    go_wp2_with fail
    refine (HN.out _).mono ?_
    rintro e w2 ⟨rfl, rfl⟩
    go_wp2_with fail
    refine (HF.out _).mono ?_
    rintro e w3 ⟨rfl, hb3⟩
    have hbC := hbB.alloc hbB.size (.cells (ruV k) 137)
    have hbD : Below w.heap.size w w3 := hbC.trans (hb3.mono hbC.size)
    have K3 := (hb3.block w.heap.size (by simp; omega)).trans ((Below.heap_alloc _ _ _ z1).trans HK1.out)
    have z3 := blk_lt K3
    clear d0 d1 d2 d3 d4 d5 d6
    obtain ⟨d0, d1, d2, d3, d4, d5, d6⟩ := blk7 K3
    clear K3
    go_wp2_with fail
    refine (HT.out _).mono ?_
    rintro e w4 ⟨rfl, hb4⟩
    go_wp2_with fail
    go_ret
    exact ⟨rfl, hbD.trans (hb4.mono hbD.size)⟩
  all_goals
    have HQ := hid (within_is h4)
  · rw [ch_seq h h1 h2 h3 h4]
    clear h h1 h2 h3 h4
    go_enter Tryz.func68, Tryz.ntmps68
    go_wp2_with fail
    refine (HP.out _).mono ?_
    rintro e w1 ⟨rfl, hb1⟩
    have K1 := (hb1.block w.heap.size (by simp)).trans HK.out
    have z1 := blk_lt K1
    obtain ⟨d0, d1, d2, d3, d4, d5, d6⟩ := blk7 K1
    have hbB := hbA.trans (hb1.mono hbA.size)
    have HK1 := hid K1
    clear K1
    go_wp2_with fail
    refine (HN.out _).mono ?_
    rintro e w2 ⟨rfl, rfl⟩
    go_wp2_with fail
    refine (HF.out _).mono ?_
    rintro e w3 ⟨rfl, hb3⟩
    have hbC := hbB.alloc hbB.size (.cells (ruV k) 137)
    have hbD : Below w.heap.size w w3 := hbC.trans (hb3.mono hbC.size)
    have K3 := (hb3.block w.heap.size (by simp; omega)).trans ((Below.heap_alloc _ _ _ z1).trans HK1.out)
    have z3 := blk_lt K3
    clear d0 d1 d2 d3 d4 d5 d6
    obtain ⟨d0, d1, d2, d3, d4, d5, d6⟩ := blk7 K3
    have HK3 := hid K3
    clear K3
    go_wp2_with fail
    refine (HT.out _).mono ?_
    rintro e w4 ⟨rfl, hb4⟩
    have hbE : Below w.heap.size w w4 := hbD.trans (hb4.mono hbD.size)
    have K4 := (hb4.block w.heap.size z3).trans HK3.out
    have z4 := blk_lt K4
    clear d0 d1 d2 d3 d4 d5 d6
    obtain ⟨d0, d1, d2, d3, d4, d5, d6⟩ := blk7 K4
    clear K4
    go_wp2_with fail
    refine (HQ.out _).mono ?_
    rintro e w5 ⟨rfl, hb5⟩
    go_wp2_with fail
    go_ret
    exact ⟨rfl, hbE.trans (hb5.mono hbE.size)⟩
  · rw [ch_ok h h1 h2 h3 h4]
    clear h h1 h2 h3 h4
    go_enter Tryz.func68, Tryz.ntmps68
    go_wp2_with fail
    refine (HP.out _).mono ?_
    rintro e w1 ⟨rfl, hb1⟩
    have K1 := (hb1.block w.heap.size (by simp)).trans HK.out
    have z1 := blk_lt K1
    obtain ⟨d0, d1, d2, d3, d4, d5, d6⟩ := blk7 K1
    have hbB := hbA.trans (hb1.mono hbA.size)
    have HK1 := hid K1
    clear K1
    go_wp2_with fail
    refine (HN.out _).mono ?_
    rintro e w2 ⟨rfl, rfl⟩
    go_wp2_with fail
    refine (HF.out _).mono ?_
    rintro e w3 ⟨rfl, hb3⟩
    have hbC := hbB.alloc hbB.size (.cells (ruV k) 137)
    have hbD : Below w.heap.size w w3 := hbC.trans (hb3.mono hbC.size)
    have K3 := (hb3.block w.heap.size (by simp; omega)).trans ((Below.heap_alloc _ _ _ z1).trans HK1.out)
    have z3 := blk_lt K3
    clear d0 d1 d2 d3 d4 d5 d6
    obtain ⟨d0, d1, d2, d3, d4, d5, d6⟩ := blk7 K3
    have HK3 := hid K3
    clear K3
    go_wp2_with fail
    refine (HT.out _).mono ?_
    rintro e w4 ⟨rfl, hb4⟩
    have hbE : Below w.heap.size w w4 := hbD.trans (hb4.mono hbD.size)
    have K4 := (hb4.block w.heap.size z3).trans HK3.out
    have z4 := blk_lt K4
    clear d0 d1 d2 d3 d4 d5 d6
    obtain ⟨d0, d1, d2, d3, d4, d5, d6⟩ := blk7 K4
    clear K4
    go_wp2_with fail
    refine (HQ.out _).mono ?_
    rintro e w5 ⟨rfl, hb5⟩
    go_wp2_with fail
    go_ret
    exact ⟨rfl, hbE.trans (hb5.mono hbE.size)⟩
end Go.Proofs.YtondnbnaoacanaaGreatDoor
/- Contracts of layer 5: the numbers of an event in its reference; events compared; awake. -/
namespace Go.Proofs.YtondnbnaoacanaaGreatDoor
open Go.ChangeShapes Go.WideShapes Go.ChangeAt Go.RowKit Fb

theorem i64_info : (Tryz.prog.info? 2).map (fun i => (i.zero, i.size, i.bytes)) = some (some (.int .i64 0), 1, 8) := by kernel_rfl
/-- an event is the same as itself -/
theorem eq_event (q t k a b c : Int) (s : ByteArray) (w : World) : (Op.equalIn 10000 41 (.agg #[.int .i64 q, .int .i64 t, .int .i64 k, .string s, .int .i64 a, .int .i64 b, .int .i64 c]) (.agg #[.int .i64 q, .int .i64 t, .int .i64 k, .string s, .int .i64 a, .int .i64 b, .int .i64 c])).run Tryz.prog w = .ok true w := by
  go_simp

set_option maxHeartbeats 4000000 in
theorem RNumbers_any (q t k : Int) (s : ByteArray) (a b c : Int) (w : World) :
    Calls Tryz.prog 53 #[.agg #[.int .i64 q, .int .i64 t, .int .i64 k, .string s, .int .i64 a, .int .i64 b, .int .i64 c]] w fun e w' => (∃ A cp, e = .returned (.slice A (mnI k).toNat cp) ∧ (mnI k).toNat ≤ cp ∧ cp ≤ maxLen ∧ (A = none → cp = 0) ∧ Sl w' w'.heap.size A (mnI k).toNat (ints ([a, b, c].take (mnI k).toNat))) ∧ Below w.heap.size w w' := by
  have hm : mnI k = 0 ∨ mnI k = 1 ∨ mnI k = 2 ∨ mnI k = 3 := by unfold mnI; omega
  obtain ⟨i0, hi0, hz0, hz1, hz2⟩ := info_parts i64_info
  have HP := hid (RMany_any k)
  have hbA : Below w.heap.size w (w.alloc (.cells #[.int .i64 q, .int .i64 t, .int .i64 k, .string s, .int .i64 a, .int .i64 b, .int .i64 c] 41)) := (Below.refl _ _).alloc (Nat.le_refl _) _
  have HK := hid (heap_alloc_new w (.cells #[.int .i64 q, .int .i64 t, .int .i64 k, .string s, .int .i64 a, .int .i64 b, .int .i64 c] 41))
  rcases hm with hm | hm | hm | hm
  all_goals
    rw [hm] at HP
    rw [hm]
    clear hm
    go_enter Tryz.func53, Tryz.ntmps53
    go_wp2_with fail
    refine (HP.out _).mono ?_
    rintro e w1 ⟨rfl, hw⟩
    have K1 : w1.heap[w.heap.size]? = some (.cells #[.int .i64 q, .int .i64 t, .int .i64 k, .string s, .int .i64 a, .int .i64 b, .int .i64 c] 41 (0, 0)) := hw ▸ HK.out
    have hbA' : Below w.heap.size w w1 := hw ▸ hbA
    clear hw hbA HK
    have z1 := blk_lt K1
    have z1' : w.heap.size + 1 ≤ w1.heap.size := z1
    obtain ⟨d0, d1, d2, d3, d4, d5, d6⟩ := blk7 K1
    have HK := hid K1
    have own0 : w1.ownsRow (w.heap.size + 1) 2 1 (.slice none 0 0) 0 [] := ⟨rfl, .inl ⟨rfl, rfl⟩⟩
    clear K1
  · go_wp2_with fail
    go_ret
    exact ⟨⟨_, _, rfl, by decide, by decide, by simp, Sl.nil _ _ _⟩, hbA'⟩
  · go_wp2_with (at_builtin; refine wpList_push rfl (.tmp 10) (.tmp 13) 79 rfl Tryz.underlying79 hi0 hz0 hz1 hz2 rfl (by decide) rfl own0 rfl rfl ?_ ?c1 ?c2 ?c3 ?c4; intro v1 w2 own1 hb2)
    case c1 => simp [Value.oneCell']
    case c2 => simp [maxLen]
    case c3 => omega
    case c4 => exact z1'
    clear own0
    go_ret
    obtain ⟨A, cp, rfl, h1, h2, h3, h4, -⟩ := own_reads own1 (Nat.le_refl _)
    exact ⟨⟨A, cp, rfl, h1, h2, h3, h4⟩, hbA'.trans (hb2.mono (by omega))⟩
  · go_wp2_with (at_builtin; first
      | (refine wpList_push rfl (.tmp 10) (.tmp 13) 79 rfl Tryz.underlying79 hi0 hz0 hz1 hz2 rfl (by decide) rfl own0 rfl rfl ?_ ?c1 ?c2 ?c3 ?c4; intro v1 w2 own1 hb2; have K2 := (hb2.block w.heap.size (by omega)).trans HK.out; have z2 := blk_lt K2; obtain ⟨e0, e1, e2, e3, e4, e5, e6⟩ := blk7 K2; clear K2 own0)
      | (refine wpList_push rfl (.tmp 17) (.tmp 20) 79 rfl Tryz.underlying79 hi0 hz0 hz1 hz2 rfl (by decide) rfl own1 rfl rfl ?_ ?e1 ?e2 ?e3 ?e4; intro v2 w3 own2 hb3))
    case c1 => simp [Value.oneCell']
    case c2 => simp [maxLen]
    case c3 => omega
    case c4 => exact z1'
    case e1 => simp [Value.oneCell']
    case e2 => simp [maxLen]
    case e4 => omega
    go_ret
    obtain ⟨A, cp, rfl, h1, h2, h3, h4, -⟩ := own_reads own2 (Nat.le_refl _)
    exact ⟨⟨A, cp, rfl, h1, h2, h3, h4⟩, (hbA'.trans (hb2.mono (by omega))).trans (hb3.mono (by omega))⟩
  · go_wp2_with (at_builtin; (first
      | (refine wpList_push rfl (.tmp 10) (.tmp 13) 79 rfl Tryz.underlying79 hi0 hz0 hz1 hz2 rfl (by decide) rfl own0 rfl rfl ?_ ?c1 ?c2 ?c3 ?c4; intro v1 w2 own1 hb2; have K2 := (hb2.block w.heap.size (by omega)).trans HK.out; have z2 := blk_lt K2; obtain ⟨e0, e1, e2, e3, e4, e5, e6⟩ := blk7 K2; have HK2 := hid K2; clear K2 own0)
      | (refine wpList_push rfl (.tmp 17) (.tmp 20) 79 rfl Tryz.underlying79 hi0 hz0 hz1 hz2 rfl (by decide) rfl own1 rfl rfl ?_ ?e1 ?e2 ?e3 ?e4; intro v2 w3 own2 hb3; have K3 := (hb3.block w.heap.size (by omega)).trans HK2.out; have z3 := blk_lt K3; obtain ⟨e0, e1, e2, e3, e4, e5, e6⟩ := blk7 K3; clear K3)
      | (refine wpList_push rfl (.tmp 24) (.tmp 27) 79 rfl Tryz.underlying79 hi0 hz0 hz1 hz2 rfl (by decide) rfl own2 rfl rfl ?_ ?f1 ?f2 ?f3 ?f4; intro v3 w4 own3 hb4)))
    case c1 => simp [Value.oneCell']
    case c2 => simp [maxLen]
    case c3 => omega
    case c4 => exact z1'
    case e1 => simp [Value.oneCell']
    case e2 => simp [maxLen]
    case e4 => omega
    case f1 => simp [Value.oneCell']
    case f2 => simp [maxLen]
    case f4 => omega
    go_ret
    obtain ⟨A, cp, rfl, h1, h2, h3, h4, -⟩ := own_reads own3 (Nat.le_refl _)
    exact ⟨⟨A, cp, rfl, h1, h2, h3, h4⟩, ((hbA'.trans (hb2.mono (by omega))).trans (hb3.mono (by omega))).trans (hb4.mono (by omega))⟩
end Go.Proofs.YtondnbnaoacanaaGreatDoor
