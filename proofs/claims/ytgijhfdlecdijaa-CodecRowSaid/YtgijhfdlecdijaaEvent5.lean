/- Contracts of layer 5 (event): the numbers of an event, and an event filled with numbers. -/
import Derived.Test.YtgijhfdlecdijaaEvent2
import Derived.Laws.CopyOwn
namespace Go.Proofs.Ytgijhfdlecdijaa
open Go.ChangeShapes Go.WideShapes Go.ChangeAt Go.RowKit Fb

def ints (l : List Int) : List Value := l.map (Value.int .i64)
theorem ints_one (l : List Int) : ∀ u ∈ ints l, u.oneCell' = true := by
  intro u hu
  obtain ⟨x, -, rfl⟩ := List.mem_map.1 hu
  rfl
def at3 (zs : List Int) (i : Nat) : Int := zs.getD i 0
theorem splice_at3 (zs : List Int) : splice [Value.int .i64 0, Value.int .i64 0, Value.int .i64 0] 0 ((ints zs).take 3) = [.int .i64 (at3 zs 0), .int .i64 (at3 zs 1), .int .i64 (at3 zs 2)] := by
  rcases zs with _ | ⟨x, _ | ⟨y, _ | ⟨z, r⟩⟩⟩ <;> simp [splice, ints, at3]
theorem blk7 {w : World} {g : Nat} {t : TypeId} {a b c d e f h : Value} (H : w.heap[g]? = some (.cells #[a, b, c, d, e, f, h] t (0, 0))) :
    w.cell? ⟨g, 0, none⟩ = some a ∧ w.cell? ⟨g, 1, none⟩ = some b ∧ w.cell? ⟨g, 2, none⟩ = some c ∧ w.cell? ⟨g, 3, none⟩ = some d ∧ w.cell? ⟨g, 4, none⟩ = some e ∧ w.cell? ⟨g, 5, none⟩ = some f ∧ w.cell? ⟨g, 6, none⟩ = some h :=
  ⟨cell_of_row w g 0 _ t (0, 0) H, cell_of_row w g 1 _ t (0, 0) H, cell_of_row w g 2 _ t (0, 0) H, cell_of_row w g 3 _ t (0, 0) H, cell_of_row w g 4 _ t (0, 0) H, cell_of_row w g 5 _ t (0, 0) H, cell_of_row w g 6 _ t (0, 0) H⟩
theorem blk7f {w : World} {g : Nat} {t : TypeId} {a b c d e f h : Value} (H : w.heap[g]? = some (.cells #[a, b, c, d, e, f, h] t (0, 0))) (k : Nat) : w.frozen? ⟨g, k, none⟩ = false := by simp [World.frozen?, H]
theorem blk_lt {w : World} {g : Nat} {o : Obj} (H : w.heap[g]? = some o) : g < w.heap.size := by
  rcases Nat.lt_or_ge g w.heap.size with h | h
  · exact h
  · rw [Array.getElem?_eq_none h] at H; cases H
theorem i64_size : (Try.prog.info? 2).map (·.size) = some 1 := by kernel_rfl

set_option maxHeartbeats 4000000 in
theorem Fill_any (q t k : Int) (s : ByteArray) (a b c : Int) {A : Option Addr} {n cp B : Nat} {zs : List Int} {w : World} (hS : Sl w B A n (ints zs)) (hB : B ≤ w.heap.size) (hn : n ≤ 1000000) :
    Calls Try.prog 31 #[.agg #[.int .i64 q, .int .i64 t, .int .i64 k, .string s, .int .i64 a, .int .i64 b, .int .i64 c], .slice A n cp] w fun e w' => e = .returned (.agg #[.int .i64 q, .int .i64 t, .int .i64 k, .string s, .int .i64 (at3 zs 0), .int .i64 (at3 zs 1), .int .i64 (at3 zs 2)]) ∧ Below w.heap.size w w' := by
  generalize hx0 : at3 zs 0 = x0
  generalize hx1 : at3 zs 1 = x1
  generalize hx2 : at3 zs 2 = x2
  have HX := hid (show splice [Value.int .i64 0, Value.int .i64 0, Value.int .i64 0] 0 ((ints zs).take 3) = [.int .i64 x0, .int .i64 x1, .int .i64 x2] by rw [splice_at3, hx0, hx1, hx2])
  clear hx0 hx1 hx2
  go_enter Try.func31, Try.ntmps31
  go_wp2_with (refine wpList_copy_splice rfl (.tmp 6) (.tmp 7) 56 56 rfl 2 Try.underlying56 i64_size _ _ 3 3 n cp rfl rfl (w.heap.size + 2) 0 [.int .i64 0, .int .i64 0, .int .i64 0] 78 ?hg ((ints zs).take 3) ?hn ?hpos (by simp [ints]; omega) ?h1 (w.heap.size + 2) _ (Below.refl _ _) (Nat.le_refl _) ?_)
  case hg => exact (kept3 (w := w) (Below.refl _ _)).2.2
  case hn => rw [List.length_take, hS.len]; exact Nat.min_comm _ _
  case h1 => exact fun u hu => ints_one zs u (List.mem_of_mem_take hu)
  case hpos =>
    intro h0
    have hS3 := hS.below ((((Below.refl B w).alloc hB (.cells #[.int .i64 q, .int .i64 t, .int .i64 k, .string s, .int .i64 a, .int .i64 b, .int .i64 c] 26)).alloc (by simp; omega) (.cells #[.int .i64 0, .int .i64 0, .int .i64 0, .string ⟨#[]⟩, .int .i64 0, .int .i64 0, .int .i64 0] 26)).alloc (by simp; omega) (.cells #[.int .i64 0, .int .i64 0, .int .i64 0] 78))
    obtain ⟨b0, o, rfl, -, hc⟩ := hS3.2 (by have := hS.len; omega)
    refine ⟨_, rfl, fun j v hv => ?_⟩
    have ha : (⟨b0, o, none⟩ : Addr).add j = ⟨b0, o + j, none⟩ := by unfold Addr.add; split <;> simp_all
    rw [ha]
    refine hc j v ?_
    rw [List.getElem?_take] at hv
    split at hv
    · exact hv
    · cases hv
  intro w1 K1 hb1
  rw [HX.out] at K1
  clear HX
  have k2 := kept2 (w := w) (o1 := .cells #[.int .i64 q, .int .i64 t, .int .i64 k, .string s, .int .i64 a, .int .i64 b, .int .i64 c] 26) (o2 := .cells #[.int .i64 0, .int .i64 0, .int .i64 0, .string ⟨#[]⟩, .int .i64 0, .int .i64 0, .int .i64 0] 26) (Below.refl _ _)
  have hbB : Below w.heap.size w w1 := ((((Below.refl _ w).alloc (Nat.le_refl _) (.cells #[.int .i64 q, .int .i64 t, .int .i64 k, .string s, .int .i64 a, .int .i64 b, .int .i64 c] 26)).alloc (by simp) (.cells #[.int .i64 0, .int .i64 0, .int .i64 0, .string ⟨#[]⟩, .int .i64 0, .int .i64 0, .int .i64 0] 26)).alloc (by simp; omega) (.cells #[.int .i64 0, .int .i64 0, .int .i64 0] 78)).trans (hb1.mono (by omega))
  have E1 := ((hb1.block w.heap.size (by omega)).trans (Below.heap_alloc _ _ _ (by simp; omega))).trans k2.1
  have E2 := ((hb1.block (w.heap.size + 1) (by omega)).trans (Below.heap_alloc _ _ _ (by simp))).trans k2.2
  have z1 := blk_lt K1.out
  have z2 := blk_lt E1
  have z3 := blk_lt E2
  obtain ⟨d0, d1, d2, d3, d4, d5, d6⟩ := blk7 E1
  obtain ⟨f0, f1, f2, f3, f4, f5, f6⟩ := blk7 E2
  obtain ⟨c0, c1, c2, -, -, -⟩ := blk3 K1.out
  have fz1 := blk7f E1
  have fz2 := blk7f E2
  clear k2 E1 E2 K1 hb1 hS hn
  go_wp2_with fail
  go_region
  go_wp2
  refine bodyPost_ret (v := .agg #[.int .i64 q, .int .i64 t, .int .i64 k, .string s, .int .i64 x0, .int .i64 x1, .int .i64 x2]) (by simp [results, Try.results31, go_sem, d0, d1, d2, d3, d4, d5, d6, z1, z2, z3, f0, f1, f2, f3, f4, f5, f6]) rfl ⟨rfl, ?_⟩
  refine Below.drew ?_
  iterate 10 refine Below.setCell ?_ (by simp) _
  exact hbB
set_option maxHeartbeats 4000000 in
theorem Numbers_any (q t k : Int) (s : ByteArray) (a b c : Int) (w : World) :
    Calls Try.prog 26 #[.agg #[.int .i64 q, .int .i64 t, .int .i64 k, .string s, .int .i64 a, .int .i64 b, .int .i64 c]] w fun e w' => (∃ A cp, e = .returned (.slice A (mnI k).toNat cp) ∧ (mnI k).toNat ≤ cp ∧ cp ≤ 3 ∧ (A = none → cp = 0) ∧ Sl w' w'.heap.size A (mnI k).toNat (ints ([a, b, c].take (mnI k).toNat))) ∧ Below w.heap.size w w' := by
  have hm : mnI k = 0 ∨ mnI k = 1 ∨ mnI k = 2 ∨ mnI k = 3 := by unfold mnI; omega
  have HP := hid (Many_any k)
  have hbA : Below w.heap.size w (w.alloc (.cells #[.int .i64 q, .int .i64 t, .int .i64 k, .string s, .int .i64 a, .int .i64 b, .int .i64 c] 26)) := (Below.refl _ _).alloc (Nat.le_refl _) _
  have HK := hid (heap_alloc_new w (.cells #[.int .i64 q, .int .i64 t, .int .i64 k, .string s, .int .i64 a, .int .i64 b, .int .i64 c] 26))
  rcases hm with hm | hm | hm | hm
  all_goals
    rw [hm] at HP
    rw [hm]
    clear hm
    go_enter Try.func26, Try.ntmps26
    go_wp2_with fail
    refine (HP.out _).mono ?_
    rintro e w1 ⟨rfl, hb1⟩
    have K1 := (hb1.block w.heap.size (by simp)).trans HK.out
    have z1 := blk_lt K1
    obtain ⟨d0, d1, d2, d3, d4, d5, d6⟩ := blk7 K1
    have hb2 := hbA.trans (hb1.mono hbA.size)
    clear K1
    go_wp2_with fail
    go_ret
    refine ⟨⟨_, _, rfl, by decide, by decide, by simp, ?_⟩, hb2.alloc hb2.size _⟩
    exact (Sl.fresh w1 #[.int .i64 a, .int .i64 b, .int .i64 c] 2 (by simp)).take (by show _ ≤ 3; decide)
end Go.Proofs.Ytgijhfdlecdijaa
