/- Layer 8: contract of the reference's Next. -/
import Derived.Test.YtondnbnaoacanaaGreatDoorFa
import Derived.BigQuiet
namespace Go.Proofs.YtondnbnaoacanaaGreatDoor
open Go.ChangeShapes Go.WideShapes Go.ChangeAt Go.RowKit Fb

/-- what stands there, as the reference tells it -/
def RFNext (w : World) (zs : List Int) (p : Int) (e : Ending) (w' : World) : Prop :=
  (∃ A2 c2, e = .returned (.agg #[.int .i64 (nxS zs p), .int .i64 (nxK zs p), .slice A2 (nxP zs p).length c2, .int .i64 (nxN zs p)]) ∧ Rw w' A2 (nxP zs p).length c2 (nxP zs p)) ∧ Below w.heap.size w w'
theorem RFNext.none {w w' : World} {zs : List Int} {p E : Int} (h : nxS zs p = E) (h0 : E ≠ 0) (hb : Below w.heap.size w w') : RFNext w zs p (.returned (.agg #[.int .i64 E, .int .i64 0, .slice none 0 0, .int .i64 0])) w' := by
  obtain ⟨e1, e2, e3⟩ := nx_no (zs := zs) (p := p) (by rw [h]; exact h0)
  unfold RFNext
  rw [h, e1, e2, e3]
  exact ⟨⟨_, _, rfl, Rw.nil w'⟩, hb⟩

theorem all4 {w : World} {g : Nat} {t : TypeId} {a b c d a' b' c' d' : Value} (K : w.heap[g]? = some (.cells #[a, b, c, d] t (0, 0))) :
    ((((w.setCell ⟨g, 0, none⟩ a').setCell ⟨g, 1, none⟩ b').setCell ⟨g, 2, none⟩ c').setCell ⟨g, 3, none⟩ d').heap[g]? = some (.cells #[a', b', c', d'] t (0, 0)) := by
  simp [World.setCell, Array.getElem?_modify, K]
theorem blk48 {w : World} {g : Nat} {t : TypeId} {a b c d : Value} (h : w.heap[g]? = some (.cells #[a, b, c, d] t (0, 0))) :
    w.cell? ⟨g, 0, none⟩ = some a ∧ w.cell? ⟨g, 1, none⟩ = some b ∧ w.cell? ⟨g, 2, none⟩ = some c ∧ w.cell? ⟨g, 3, none⟩ = some d ∧ w.frozen? ⟨g, 0, none⟩ = false ∧ w.frozen? ⟨g, 1, none⟩ = false ∧ w.frozen? ⟨g, 2, none⟩ = false ∧ w.frozen? ⟨g, 3, none⟩ = false :=
  ⟨cell_of_row w g 0 #[a, b, c, d] t (0, 0) h, cell_of_row w g 1 #[a, b, c, d] t (0, 0) h, cell_of_row w g 2 #[a, b, c, d] t (0, 0) h, cell_of_row w g 3 #[a, b, c, d] t (0, 0) h, by simp [World.frozen?, h], by simp [World.frozen?, h], by simp [World.frozen?, h], by simp [World.frozen?, h]⟩
theorem blk_lt4 {w : World} {g : Nat} {o : Obj} (h : w.heap[g]? = some o) : g < w.heap.size := by
  rcases Nat.lt_or_ge g w.heap.size with h1 | h1
  · exact h1
  · rw [Array.getElem?_eq_none h1] at h; cases h
theorem set4 {B g : Nat} {w w' : World} (h : Below B w w') (hg : B ≤ g) (a b c d : Value) : Below B w ((((w'.setCell ⟨g, 0, none⟩ a).setCell ⟨g, 1, none⟩ b).setCell ⟨g, 2, none⟩ c).setCell ⟨g, 3, none⟩ d) :=
  Below.setCell (Below.setCell (Below.setCell (Below.setCell h hg _) hg _) hg _) hg _
theorem rw_set4 {g : Nat} {w : World} {A : Option Addr} {n cp : Nat} {zs : List Int} (h : Rw w A n cp zs) (hA : ∀ a, A = some a → a.block ≠ g) (a b c d : Value) : Rw ((((w.setCell ⟨g, 0, none⟩ a).setCell ⟨g, 1, none⟩ b).setCell ⟨g, 2, none⟩ c).setCell ⟨g, 3, none⟩ d) A n cp zs := by
  have e : ((((w.setCell ⟨g, 0, none⟩ a).setCell ⟨g, 1, none⟩ b).setCell ⟨g, 2, none⟩ c).setCell ⟨g, 3, none⟩ d).heap.size = w.heap.size := by simp [World.setCell]
  refine ⟨?_, h.2⟩
  rw [e]
  exact Sl.far (Sl.far (Sl.far (Sl.far h.1 hA _) hA _) hA _) hA _
theorem fr8_size : (Tryz.prog.info? 66).map (·.size) = some 4 := by kernel_rfl
set_option maxRecDepth 100000 in
set_option maxHeartbeats 8000000 in
theorem RFNext_any {A : Option Addr} {n c : Nat} {zs : List Int} (p : Int) {w : World} (hS : Rw w A n c zs) (hb : Bytes zs) :
    Calls Tryz.prog 37 #[.slice A n c, .int .i64 p] w (RFNext w zs p) := by
  have hl : n = zs.length := by have := hS.1.len; rw [by8_len] at this; exact this.symm
  have hal : Below w.heap.size w (w.alloc (.cells #[.int .i64 0, .int .i64 0, .slice none 0 0, .int .i64 0] 66)) := (Below.refl _ _).alloc (Nat.le_refl _) _
  have K8 : Hid (∀ k : Nat, ((w.alloc (.cells #[.int .i64 0, .int .i64 0, .slice none 0 0, .int .i64 0] 66)).drewN k).heap[w.heap.size]? = some (.cells #[.int .i64 0, .int .i64 0, .slice none 0 0, .int .i64 0] 66 (0, 0))) := hid fun k => heap_alloc_new w _
  have H8 := hid (heap_alloc_new w (.cells #[.int .i64 0, .int .i64 0, .slice none 0 0, .int .i64 0] 66))
  by_cases h0 : p < 0
  · have E := hid (nx_out (zs := zs) (p := p) (Or.inl h0)).1
    clear hS hl
    go_enter Tryz.func37, Tryz.ntmps37
    go_wp2_with fail
    refine bodyPost_ret (v := .agg #[.int .i64 3, .int .i64 0, .slice none 0 0, .int .i64 0]) (results_cell_row Tryz.results37 _ _ w.heap.size 66 #[.int .i64 3, .int .i64 0, .slice none 0 0, .int .i64 0] (0, 0) _ rfl (heap_alloc_new w _) Tryz.underlying66 rfl fr8_size) rfl (RFNext.none E.out (by decide) ((Below.refl _ _).alloc (Nat.le_refl _) _))
  · by_cases h1 : (n : Int) < p
    · have E := hid (nx_out (zs := zs) (p := p) (Or.inr (by omega))).1
      have hp : decide (p < 0) = false := decide_eq_false h0
      clear hS hl
      go_enter Tryz.func37, Tryz.ntmps37
      go_wp2_with fail
      refine bodyPost_ret (v := .agg #[.int .i64 3, .int .i64 0, .slice none 0 0, .int .i64 0]) (results_cell_row Tryz.results37 _ _ w.heap.size 66 #[.int .i64 3, .int .i64 0, .slice none 0 0, .int .i64 0] (0, 0) _ rfl (heap_alloc_new w _) Tryz.underlying66 rfl fr8_size) rfl (RFNext.none E.out (by decide) ((Below.refl _ _).alloc (Nat.le_refl _) _))
    · obtain ⟨q, rfl⟩ : ∃ q : Nat, p = (q : Int) := ⟨p.toNat, by omega⟩
      have EI := hid (nx_in (zs := zs) (p := (q : Int)) (by omega))
      rw [Int.toNat_natCast] at EI
      have HYL := hid (show (zs.drop q).length = n - q by rw [List.length_drop]; omega)
      have hp : decide ((q : Int) < 0) = false := decide_eq_false h0
      have hp1 : decide ((n : Int) < (q : Int)) = false := decide_eq_false h1
      have hp2 : decide (n < q) = false := decide_eq_false (by omega)
      obtain ⟨d, hd⟩ : ∃ d, n = q + d := ⟨n - q, by omega⟩
      have e4 : (n : Int) - (q : Int) = (d : Int) := by omega
      have HYD := hid (show (zs.drop q).length = d by rw [HYL.out]; omega)
      clear h0 h1 HYL
      by_cases d0 : d = 0
      · have E := hid (EI.out.trans (fi_end (by rw [HYD.out]; exact d0)))
        have d0' : ((d : Int) == 0) = true := by rw [d0]; rfl
        clear hS hl
        go_enter Tryz.func37, Tryz.ntmps37
        go_wp2_with fail
        refine bodyPost_ret (v := .agg #[.int .i64 1, .int .i64 0, .slice none 0 0, .int .i64 0]) (results_cell_row Tryz.results37 _ _ w.heap.size 66 #[.int .i64 1, .int .i64 0, .slice none 0 0, .int .i64 0] (0, 0) _ rfl (heap_alloc_new w _) Tryz.underlying66 rfl fr8_size) rfl (RFNext.none E.out (by decide) ((Below.refl _ _).alloc (Nat.le_refl _) _))
      · have d0' : ((d : Int) == 0) = false := by simp; omega
        by_cases d7 : d < 7
        · have E := hid (EI.out.trans (fi_few (by rw [HYD.out]; exact d0) (by rw [HYD.out]; exact d7)))
          clear hS hl
          go_enter Tryz.func37, Tryz.ntmps37
          go_wp2_with fail
          refine bodyPost_ret (v := .agg #[.int .i64 2, .int .i64 0, .slice none 0 0, .int .i64 0]) (results_cell_row Tryz.results37 _ _ w.heap.size 66 #[.int .i64 2, .int .i64 0, .slice none 0 0, .int .i64 0] (0, 0) _ rfl (heap_alloc_new w _) Tryz.underlying66 rfl fr8_size) rfl (RFNext.none E.out (by decide) ((Below.refl _ _).alloc (Nat.le_refl _) _))
        · obtain ⟨b, o, rfl, hbw, -⟩ := cell_at0 hS.1 (by omega)
          obtain ⟨b', o', hbo, hbB, hcell⟩ := cell_at0 (hS.below hal).1 (by omega)
          obtain ⟨rfl, rfl⟩ : b = b' ∧ o = o' := by simpa using hbo
          clear hbo
          have at1 : ∀ j, at0 zs (q + j) = at0 (zs.drop q) j := fun j => by unfold at0; rw [List.getElem?_drop]
          have c0 := hcell q (by omega)
          have c1 := hcell (q + 1) (by omega)
          have c2 := hcell (q + 2) (by omega)
          have t0 := at1 0
          rw [Nat.add_zero] at t0
          rw [t0] at c0
          rw [at1] at c1 c2
          have HYB := hid (show Bytes (zs.drop q) from fun x hx => hb x (List.mem_of_mem_drop hx))
          have b0 := at0_byte HYB.out 0
          have b1 := at0_byte HYB.out 1
          have b2 := at0_byte HYB.out 2
          have hN := fsN_val HYB.out
          have hc1 := hS.2.1
          have hc2 := hS.2.2.1
          unfold maxLen at hc2
          have HS := hid (hS.below hal)
          obtain ⟨ys, hys⟩ : ∃ ys, zs.drop q = ys := ⟨_, rfl⟩
          have HYS := hid hys
          rw [hys] at c0 c1 c2 HYB b0 b1 b2 hN EI HYD
          obtain ⟨x0, hx0⟩ : ∃ x, at0 ys 0 = x := ⟨_, rfl⟩
          obtain ⟨x1, hx1⟩ : ∃ x, at0 ys 1 = x := ⟨_, rfl⟩
          obtain ⟨x2, hx2⟩ : ∃ x, at0 ys 2 = x := ⟨_, rfl⟩
          obtain ⟨m, hm⟩ : ∃ m, fsN ys = m := ⟨_, rfl⟩
          rw [hx0, hx1, hm] at hN
          rw [hx0] at c0 b0
          rw [hx1] at c1 b1
          rw [hx2] at c2 b2
          have e5 : 256 * x0 + x1 = (m : Int) := hN.symm
          have HX := hid hx2
          have HM := hid hm
          have b2a := b2.1
          have b2b := b2.2
          have i1 : ((q : Int) + 1).toNat = q + 1 := by omega
          have i2 : ((q : Int) + 2).toNat = q + 2 := by omega
          have i3 : (q : Int) + 1 < (n : Int) := by omega
          have i4 : (q : Int) + 2 < (n : Int) := by omega
          have i5 : (q : Int) < (n : Int) := by omega
          have i6 : (0 : Int) ≤ (q : Int) + 1 := by omega
          have i7 : (0 : Int) ≤ (q : Int) + 2 := by omega
          clear hcell at1 t0 hS hl hys hx0 hx1 hx2 hm hN b2 hb
          have HD := hid hd
          clear hd
          by_cases hm2 : 200 < m
          · have E := hid (EI.out.trans (fi_long (ys := ys) (by rw [HYD.out]; exact d7) (by rw [HM.out]; exact hm2)))
            clear HS EI HYB HYD
            go_enter Tryz.func37, Tryz.ntmps37
            go_wp2_with fail
            go_region
            go_wp2_with fail
            refine bodyPost_ret (v := .agg #[.int .i64 3, .int .i64 0, .slice none 0 0, .int .i64 0]) (results_cell_row Tryz.results37 _ _ w.heap.size 66 #[.int .i64 3, .int .i64 0, .slice none 0 0, .int .i64 0] (0, 0) _ rfl (heap_alloc_new w _) Tryz.underlying66 rfl fr8_size) rfl (RFNext.none E.out (by decide) (Below.drew ((Below.refl _ _).alloc (Nat.le_refl _) _)))
          · obtain ⟨L, hL⟩ : ∃ L, 7 + m = L := ⟨_, rfl⟩
            have e7 : 7 + (m : Int) = (L : Int) := by omega
            by_cases hm3 : d < L
            · have E := hid (EI.out.trans (fi_torn (ys := ys) (by rw [HYD.out]; exact d7) (by rw [HM.out]; exact hm2) (by rw [HYD.out, HM.out, hL]; exact hm3)))
              clear HS EI HYB HYD
              go_enter Tryz.func37, Tryz.ntmps37
              go_wp2_with fail
              go_region
              go_wp2_with fail
              refine bodyPost_ret (v := .agg #[.int .i64 2, .int .i64 0, .slice none 0 0, .int .i64 0]) (results_cell_row Tryz.results37 _ _ w.heap.size 66 #[.int .i64 2, .int .i64 0, .slice none 0 0, .int .i64 0] (0, 0) _ rfl (heap_alloc_new w _) Tryz.underlying66 rfl fr8_size) rfl (RFNext.none E.out (by decide) (Below.drew ((Below.refl _ _).alloc (Nat.le_refl _) _)))
            · have hqn : q + L ≤ n := by have := HD.out; omega
              have f1 : ((q : Int) + 3).toNat = q + 3 := by omega
              have f2 : ((q : Int) + 3 + (m : Int)).toNat = q + 3 + m := by omega
              have f3 : (q : Int) + 3 ≤ (q : Int) + 3 + (m : Int) := by omega
              have f4 : (q : Int) + 3 + (m : Int) ≤ (c : Int) := by omega
              have f5 : ¬ c = q + 3 := by omega
              have f6 : (0 : Int) ≤ (q : Int) + 3 := by omega
              have f7 : (0 : Int) ≤ (q : Int) + 3 + (m : Int) := by omega
              by_cases hk : 1 ≤ x2 ∧ x2 ≤ 3
              · have k1 : decide (x2 < 1) = false := decide_eq_false (by omega)
                have k3 : decide (3 < x2) = false := decide_eq_false (by omega)
                have g2 : ((q : Int) + 7 + (m : Int)).toNat = q + L := by omega
                have g3 : (q : Int) ≤ (q : Int) + 7 + (m : Int) := by omega
                have g4 : (q : Int) + 7 + (m : Int) ≤ (c : Int) := by omega
                have g5 : ¬ c = q := by omega
                have g7 : (0 : Int) ≤ (q : Int) + 7 + (m : Int) := by omega
                have HPL := hid (show (fsP ys).length = m by rw [fsP_len (by rw [HYD.out, HM.out, hL]; omega), HM.out])
                have HPB := hid (show Bytes (fsP ys) from fun x hx => HYB.out x (List.mem_of_mem_drop (List.mem_of_mem_take hx)))
                have hT : Rw (w.alloc (.cells #[.int .i64 0, .int .i64 0, .slice none 0 0, .int .i64 0] 66)) (some ⟨b, o + (q + 3), none⟩) m (c - (q + 3)) (fsP ys) := by
                  have hD := HS.out.1.drop (k := q + 3) (c := c) (by omega) hc1
                  rw [if_neg (by omega)] at hD
                  have hD2 := hD.take (k := m) (by omega)
                  have e8 : ((by8 zs).drop (q + 3)).take m = by8 (fsP ys) := by unfold fsP; rw [HM.out, ← HYS.out, List.drop_drop]; simp only [by8, List.map_take, List.map_drop]
                  rw [e8] at hD2
                  exact ⟨hD2, by omega, by unfold maxLen; omega, fun h => by cases h⟩
                have hU : Sl (w.alloc (.cells #[.int .i64 0, .int .i64 0, .slice none 0 0, .int .i64 0] 66)) (w.alloc (.cells #[.int .i64 0, .int .i64 0, .slice none 0 0, .int .i64 0] 66)).heap.size (some ⟨b, o + q, none⟩) L (by8 (ys.take L)) := by
                  have hD := HS.out.1.drop (k := q) (c := c) (by omega) hc1
                  rw [if_neg (by omega)] at hD
                  have hD2 := hD.take (k := L) (by omega)
                  have e8 : ((by8 zs).drop q).take L = by8 (ys.take L) := by rw [← HYS.out]; simp only [by8, List.map_take, List.map_drop]
                  have ea : (⟨b, o, none⟩ : Addr).add q = ⟨b, o + q, none⟩ := by unfold Addr.add; split <;> simp_all
                  rw [e8, Option.map_some, ea] at hD2
                  exact hD2
                have HE0 := hid (fpE_ok (k := x2) (n := (fsP ys).length) (by omega) (by rw [HPL.out]; omega))
                have HT := hid hT
                have HU := hid hU
                have PP := hid (fun (w1 : World) (h : Below (w.alloc (.cells #[.int .i64 0, .int .i64 0, .slice none 0 0, .int .i64 0] 66)).heap.size (w.alloc (.cells #[.int .i64 0, .int .i64 0, .slice none 0 0, .int .i64 0] 66)) w1) => RFPut_any (hT.below h) HPB.out HE0.out)
                have HFL := hid (show (frB x2 (fsP ys)).length = L by rw [frB_len, HPL.out]; omega)
                have ES := str_eq (frB_bytes (k := x2) (zs := fsP ys) (by omega) (by rw [HPL.out]; omega) HPB.out) (show Bytes (ys.take L) from fun x hx => HYB.out x (List.mem_of_mem_take hx))
                obtain ⟨r, hr⟩ : ∃ r, decide (frB x2 (fsP ys) = ys.take L) = r := ⟨_, rfl⟩
                rw [hr] at ES
                have HRR := hid hr
                have H7 := hid d7
                have HM2 := hid hm2
                have HM3 := hid hm3
                have HLL := hid hL
                clear hT hU hr d7 hL
                go_enter Tryz.func37, Tryz.ntmps37
                go_wp2_with fail
                go_region
                go_wp2_with fail
                -- r15
                refine wp_region_env (A := fun vs => { tmps := #[Value.slice (some { block := b, off := o }) n c, Value.int IntKind.i64 ↑q, undef, undef, Value.pointer (some { block := w.heap.size, off := 0 }), Value.int IntKind.i64 ↑d, Value.int IntKind.i64 ↑m, Value.int IntKind.i64 x2, Value.slice (some { block := b, off := o + (q + 3) }) m (c - (q + 3)), Value.int IntKind.i64 ↑q, Value.bool false, Value.bool false, Value.int IntKind.i64 ↑q, Value.slice (some { block := b, off := o }) n c, Value.int IntKind.i64 ↑n, Value.bool false, Value.bool false, undef, Value.slice (some { block := b, off := o }) n c, Value.int IntKind.i64 ↑n, Value.int IntKind.i64 ↑q, Value.int IntKind.i64 ↑d, Value.int IntKind.i64 ↑d, Value.bool false, undef, Value.int IntKind.i64 ↑d, Value.bool (decide ((↑d : Int) < 7)), undef, Value.slice (some { block := b, off := o }) n c, Value.int IntKind.i64 ↑q, Value.pointer (some { block := b, off := o + q }), Value.int IntKind.u8 x0, Value.int IntKind.i64 x0, Value.int IntKind.i64 (256 * x0), Value.slice (some { block := b, off := o }) n c, Value.int IntKind.i64 ↑q, Value.int IntKind.i64 (↑q + 1), Value.pointer (some { block := b, off := o + (q + 1) }), Value.int IntKind.u8 x1, Value.int IntKind.i64 x1, Value.int IntKind.i64 ↑m, Value.int IntKind.i64 ↑m, Value.bool (decide ((200 : Int) < ↑m)), undef, Value.int IntKind.i64 ↑d, Value.int IntKind.i64 ↑m, Value.int IntKind.i64 ↑L, Value.bool false, undef, Value.slice (some { block := b, off := o }) n c, Value.int IntKind.i64 ↑q, Value.int IntKind.i64 (↑q + 2), Value.pointer (some { block := b, off := o + (q + 2) }), Value.int IntKind.u8 x2, Value.int IntKind.i64 x2, Value.slice (some { block := b, off := o }) n c, Value.int IntKind.i64 ↑q, Value.int IntKind.i64 (↑q + 3), Value.int IntKind.i64 ↑q, Value.int IntKind.i64 (↑q + 3), Value.int IntKind.i64 ↑m, Value.int IntKind.i64 (↑q + 3 + ↑m), Value.slice (some { block := b, off := o + (q + 3) }) m (c - (q + 3)), vs 0, vs 1, vs 2, vs 3, vs 4, vs 5, vs 6, vs 7, vs 8, vs 9, vs 10, vs 11, vs 12, vs 13, vs 14, vs 15, vs 16, vs 17, vs 18, vs 19, vs 20, undef, undef, undef, undef, undef, undef], defers := [] }) (E := fun i yv wq => match i with | 0 => yv = .int .i64 x2 | 1 => yv = .bool false | 2 => yv = .bool false | 3 => yv = .int .i64 x2 | 4 => yv = .bool false | 5 => yv = .bool false | 6 => yv = .bool false | 7 => yv = .int .i64 x2 | 8 => yv = .slice (some ⟨b, o + (q + 3), none⟩) m (c - (q + 3)) | 9 => ∃ A3 c3, yv = .slice A3 L c3 ∧ Rw wq A3 L c3 (frB x2 (fsP ys)) | 10 => yv = .string (strOfNums (frB x2 (fsP ys))) | 11 => yv = .slice (some ⟨b, o, none⟩) n c | 12 => yv = .int .i64 ↑q | 13 => yv = .int .i64 ↑q | 14 => yv = .int .i64 (↑q + 7) | 15 => yv = .int .i64 ↑m | 16 => yv = .int .i64 (↑q + 7 + ↑m) | 17 => yv = .slice (some ⟨b, o + q, none⟩) L (c - q) | 18 => yv = .string (strOfNums (ys.take L)) | 19 => yv = .bool (!r) | 20 => yv = .bool (!r) | _ => True) (C := fun wq => Below (w.alloc (.cells #[.int .i64 0, .int .i64 0, .slice none 0 0, .int .i64 0] 66)).heap.size (w.alloc (.cells #[.int .i64 0, .int .i64 0, .slice none 0 0, .int .i64 0] 66)) wq) (Ext := fun a b => Below a.heap.size a b) (fun _ => undef) (by kernel_rfl) (by rfl) ?hC ?hstep ?hstab (low_of (by kernel_rfl)) ?hend
                case hC => exact Below.drew (Below.drew (Below.refl _ _))
                case hstab =>
                  intro i yv wa wb hx h
                  match i, h with
                  | 0, h => exact h
                  | 1, h => exact h
                  | 2, h => exact h
                  | 3, h => exact h
                  | 4, h => exact h
                  | 5, h => exact h
                  | 6, h => exact h
                  | 7, h => exact h
                  | 8, h => exact h
                  | 9, h => exact (by obtain ⟨A3, c3, h1, h2⟩ := h; exact ⟨A3, c3, h1, h2.below hx⟩)
                  | 10, h => exact h
                  | 11, h => exact h
                  | 12, h => exact h
                  | 13, h => exact h
                  | 14, h => exact h
                  | 15, h => exact h
                  | 16, h => exact h
                  | 17, h => exact h
                  | 18, h => exact h
                  | 19, h => exact h
                  | 20, h => exact h
                  | (_ + 21), _ => trivial
                case hstep =>
                  intro i o ho
                  match i, ho with
                  | 0, ho =>
                    obtain rfl := Option.some.inj (show some _ = some o from ho)
                    intro vs wq hC hE K hK
                    go_simp
                    have hh := hK.out (.int .i64 x2) wq rfl (Below.refl _ _) hC
                    simp only [upd, Nat.reduceEqDiff, ↓reduceIte] at hh
                    exact hh
                  | 1, ho =>
                    obtain rfl := Option.some.inj (show some _ = some o from ho)
                    intro vs wq hC hE K hK
                    obtain d0 : vs 0 = .int .i64 x2 := hE { on := 0, ground := Ground.data } (by simp) rfl
                    go_simp
                    have hh := hK.out (.bool false) wq rfl (Below.refl _ _) hC
                    simp only [upd, Nat.reduceEqDiff, ↓reduceIte, d0] at hh
                    exact hh
                  | 2, ho =>
                    obtain rfl := Option.some.inj (show some _ = some o from ho)
                    intro vs wq hC hE K hK
                    obtain d1 : vs 1 = .bool false := hE { on := 1, ground := Ground.data } (by simp) rfl
                    go_simp
                    have hh := hK.out (.bool false) wq rfl (Below.refl _ _) hC
                    simp only [upd, Nat.reduceEqDiff, ↓reduceIte, d1] at hh
                    exact hh
                  | 3, ho =>
                    obtain rfl := Option.some.inj (show some _ = some o from ho)
                    intro vs wq hC hE K hK
                    obtain d2 : vs 2 = .bool false := hE { on := 2, ground := Ground.guard } (by simp) rfl
                    go_simp
                    have hh := hK.out (.int .i64 x2) wq rfl (Below.refl _ _) hC
                    simp only [upd, Nat.reduceEqDiff, ↓reduceIte, d2] at hh
                    exact hh
                  | 4, ho =>
                    obtain rfl := Option.some.inj (show some _ = some o from ho)
                    intro vs wq hC hE K hK
                    obtain d3 : vs 3 = .int .i64 x2 := hE { on := 3, ground := Ground.data } (by simp) rfl
                    obtain d2 : vs 2 = .bool false := hE { on := 2, ground := Ground.guard } (by simp) rfl
                    go_simp
                    have hh := hK.out (.bool false) wq rfl (Below.refl _ _) hC
                    simp only [upd, Nat.reduceEqDiff, ↓reduceIte, d2, d3] at hh
                    exact hh
                  | 5, ho =>
                    obtain rfl := Option.some.inj (show some _ = some o from ho)
                    intro vs wq hC hE K hK
                    obtain d2 : vs 2 = .bool false := hE { on := 2, ground := Ground.data } (by simp) rfl
                    obtain d4 : vs 4 = .bool false := hE { on := 4, ground := Ground.data } (by simp) rfl
                    go_simp
                    have hh := hK.out (.bool false) wq rfl (Below.refl _ _) hC
                    simp only [upd, Nat.reduceEqDiff, ↓reduceIte, d2, d4] at hh
                    exact hh
                  | 6, ho =>
                    obtain rfl := Option.some.inj (show some _ = some o from ho)
                    intro vs wq hC hE K hK
                    obtain d5 : vs 5 = .bool false := hE { on := 5, ground := Ground.data } (by simp) rfl
                    go_simp
                    have hh := hK.out (.bool false) wq rfl (Below.refl _ _) hC
                    simp only [upd, Nat.reduceEqDiff, ↓reduceIte, d5] at hh
                    exact hh
                  | 7, ho =>
                    obtain rfl := Option.some.inj (show some _ = some o from ho)
                    intro vs wq hC hE K hK
                    obtain d6 : vs 6 = .bool false := hE { on := 6, ground := Ground.guard } (by simp) rfl
                    go_simp
                    have hh := hK.out (.int .i64 x2) wq rfl (Below.refl _ _) hC
                    simp only [upd, Nat.reduceEqDiff, ↓reduceIte, d6] at hh
                    exact hh
                  | 8, ho =>
                    obtain rfl := Option.some.inj (show some _ = some o from ho)
                    intro vs wq hC hE K hK
                    obtain d6 : vs 6 = .bool false := hE { on := 6, ground := Ground.guard } (by simp) rfl
                    go_simp
                    have hh := hK.out (.slice (some ⟨b, o + (q + 3), none⟩) m (c - (q + 3))) wq rfl (Below.refl _ _) hC
                    simp only [upd, Nat.reduceEqDiff, ↓reduceIte, d6] at hh
                    exact hh
                  | 9, ho =>
                    obtain rfl := Option.some.inj (show some _ = some o from ho)
                    intro vs wq hC hE K hK
                    obtain d7 : vs 7 = .int .i64 x2 := hE { on := 7, ground := Ground.data } (by simp) rfl
                    obtain d8 : vs 8 = .slice (some ⟨b, o + (q + 3), none⟩) m (c - (q + 3)) := hE { on := 8, ground := Ground.data } (by simp) rfl
                    obtain d6 : vs 6 = .bool false := hE { on := 6, ground := Ground.guard } (by simp) rfl
                    go_simp
                    go_at_call 30
                    refine (PP.out wq hC).mono ?_
                    rintro e w3 ⟨⟨v', rfl, hown⟩, hb3⟩
                    rw [HFL.out] at hown
                    obtain ⟨A3, c3, rfl, hR, -⟩ := own_rw hown
                    have hh := hK.out (.slice A3 L c3) w3 ⟨A3, c3, rfl, hR⟩ hb3 (hC.trans (hb3.mono hC.size))
                    simp only [upd, Nat.reduceEqDiff, ↓reduceIte, d6, d7, d8] at hh
                    exact hh
                  | 10, ho =>
                    obtain rfl := Option.some.inj (show some _ = some o from ho)
                    intro vs wq hC hE K hK
                    obtain ⟨A3, c3, d9, hR⟩ : ∃ A3 c3, vs 9 = .slice A3 L c3 ∧ Rw wq A3 L c3 (frB x2 (fsP ys)) := hE { on := 9, ground := Ground.data } (by simp) rfl
                    obtain d6 : vs 6 = .bool false := hE { on := 6, ground := Ground.guard } (by simp) rfl
                    have cv := conv8 c3 hR.1
                    go_simp
                    have hh := hK.out (.string (strOfNums (frB x2 (fsP ys)))) wq rfl (Below.refl _ _) hC
                    simp only [upd, Nat.reduceEqDiff, ↓reduceIte, d6, d9] at hh
                    exact hh
                  | 11, ho =>
                    obtain rfl := Option.some.inj (show some _ = some o from ho)
                    intro vs wq hC hE K hK
                    obtain d6 : vs 6 = .bool false := hE { on := 6, ground := Ground.guard } (by simp) rfl
                    go_simp
                    have hh := hK.out (.slice (some ⟨b, o, none⟩) n c) wq rfl (Below.refl _ _) hC
                    simp only [upd, Nat.reduceEqDiff, ↓reduceIte, d6] at hh
                    exact hh
                  | 12, ho =>
                    obtain rfl := Option.some.inj (show some _ = some o from ho)
                    intro vs wq hC hE K hK
                    obtain d6 : vs 6 = .bool false := hE { on := 6, ground := Ground.guard } (by simp) rfl
                    go_simp
                    have hh := hK.out (.int .i64 ↑q) wq rfl (Below.refl _ _) hC
                    simp only [upd, Nat.reduceEqDiff, ↓reduceIte, d6] at hh
                    exact hh
                  | 13, ho =>
                    obtain rfl := Option.some.inj (show some _ = some o from ho)
                    intro vs wq hC hE K hK
                    obtain d6 : vs 6 = .bool false := hE { on := 6, ground := Ground.guard } (by simp) rfl
                    go_simp
                    have hh := hK.out (.int .i64 ↑q) wq rfl (Below.refl _ _) hC
                    simp only [upd, Nat.reduceEqDiff, ↓reduceIte, d6] at hh
                    exact hh
                  | 14, ho =>
                    obtain rfl := Option.some.inj (show some _ = some o from ho)
                    intro vs wq hC hE K hK
                    obtain d13 : vs 13 = .int .i64 ↑q := hE { on := 13, ground := Ground.data } (by simp) rfl
                    obtain d6 : vs 6 = .bool false := hE { on := 6, ground := Ground.guard } (by simp) rfl
                    have v2 : IntKind.i64.wrap ((q : Int) + 7) = (q : Int) + 7 := wrap_i64 (by omega) (by omega)
                    go_simp
                    have hh := hK.out (.int .i64 (↑q + 7)) wq rfl (Below.refl _ _) hC
                    simp only [upd, Nat.reduceEqDiff, ↓reduceIte, d6, d13] at hh
                    exact hh
                  | 15, ho =>
                    obtain rfl := Option.some.inj (show some _ = some o from ho)
                    intro vs wq hC hE K hK
                    obtain d6 : vs 6 = .bool false := hE { on := 6, ground := Ground.guard } (by simp) rfl
                    go_simp
                    have hh := hK.out (.int .i64 ↑m) wq rfl (Below.refl _ _) hC
                    simp only [upd, Nat.reduceEqDiff, ↓reduceIte, d6] at hh
                    exact hh
                  | 16, ho =>
                    obtain rfl := Option.some.inj (show some _ = some o from ho)
                    intro vs wq hC hE K hK
                    obtain d14 : vs 14 = .int .i64 (↑q + 7) := hE { on := 14, ground := Ground.data } (by simp) rfl
                    obtain d15 : vs 15 = .int .i64 ↑m := hE { on := 15, ground := Ground.data } (by simp) rfl
                    obtain d6 : vs 6 = .bool false := hE { on := 6, ground := Ground.guard } (by simp) rfl
                    have v2 : IntKind.i64.wrap ((q : Int) + 7 + (m : Int)) = (q : Int) + 7 + (m : Int) := wrap_i64 (by omega) (by omega)
                    go_simp
                    have hh := hK.out (.int .i64 (↑q + 7 + ↑m)) wq rfl (Below.refl _ _) hC
                    simp only [upd, Nat.reduceEqDiff, ↓reduceIte, d6, d14, d15] at hh
                    exact hh
                  | 17, ho =>
                    obtain rfl := Option.some.inj (show some _ = some o from ho)
                    intro vs wq hC hE K hK
                    obtain d11 : vs 11 = .slice (some ⟨b, o, none⟩) n c := hE { on := 11, ground := Ground.data } (by simp) rfl
                    obtain d12 : vs 12 = .int .i64 ↑q := hE { on := 12, ground := Ground.data } (by simp) rfl
                    obtain d16 : vs 16 = .int .i64 (↑q + 7 + ↑m) := hE { on := 16, ground := Ground.data } (by simp) rfl
                    obtain d6 : vs 6 = .bool false := hE { on := 6, ground := Ground.guard } (by simp) rfl
                    go_simp
                    have hh := hK.out (.slice (some ⟨b, o + q, none⟩) L (c - q)) wq rfl (Below.refl _ _) hC
                    simp only [upd, Nat.reduceEqDiff, ↓reduceIte, d6, d11, d12, d16] at hh
                    exact hh
                  | 18, ho =>
                    obtain rfl := Option.some.inj (show some _ = some o from ho)
                    intro vs wq hC hE K hK
                    obtain d17 : vs 17 = .slice (some ⟨b, o + q, none⟩) L (c - q) := hE { on := 17, ground := Ground.data } (by simp) rfl
                    obtain d6 : vs 6 = .bool false := hE { on := 6, ground := Ground.guard } (by simp) rfl
                    have cv := conv8 (c - q) (HU.out.below hC)
                    go_simp
                    have hh := hK.out (.string (strOfNums (ys.take L))) wq rfl (Below.refl _ _) hC
                    simp only [upd, Nat.reduceEqDiff, ↓reduceIte, d6, d17] at hh
                    exact hh
                  | 19, ho =>
                    obtain rfl := Option.some.inj (show some _ = some o from ho)
                    intro vs wq hC hE K hK
                    obtain d10 : vs 10 = .string (strOfNums (frB x2 (fsP ys))) := hE { on := 10, ground := Ground.data } (by simp) rfl
                    obtain d18 : vs 18 = .string (strOfNums (ys.take L)) := hE { on := 18, ground := Ground.data } (by simp) rfl
                    obtain d6 : vs 6 = .bool false := hE { on := 6, ground := Ground.guard } (by simp) rfl
                    go_simp
                    have hh := hK.out (.bool (!r)) wq rfl (Below.refl _ _) hC
                    simp only [upd, Nat.reduceEqDiff, ↓reduceIte, d6, d10, d18] at hh
                    exact hh
                  | 20, ho =>
                    obtain rfl := Option.some.inj (show some _ = some o from ho)
                    intro vs wq hC hE K hK
                    obtain d6 : vs 6 = .bool false := hE { on := 6, ground := Ground.data } (by simp) rfl
                    obtain d19 : vs 19 = .bool (!r) := hE { on := 19, ground := Ground.data } (by simp) rfl
                    go_simp
                    have hh := hK.out (.bool (!r)) wq rfl (Below.refl _ _) hC
                    simp only [upd, Nat.reduceEqDiff, ↓reduceIte, d6, d19] at hh
                    exact hh
                  | (_ + 21), ho => exact absurd ho (by simp)
                case hend =>
                  intro vs wq hC hE
                  have r20 : vs 20 = .bool (!r) := hE 20 (by decide)
                  have K := (hC.block w.heap.size (by simp)).trans H8.out
                  have hbq : Below w.heap.size w wq := hal.trans (hC.mono hal.size)
                  have z0 : w.heap.size < wq.heap.size := blk_lt4 K
                  obtain ⟨u0, u1, u2, u3, v0, v1, v2, v3⟩ := blk48 K
                  have HK := hid K
                  have HTq := hid ((HT.out.below hC))
                  clear K hE ES
                  cases r with
                  | true =>
                    have e := of_decide_eq_true HRR.out
                    have ES0 := hid (EI.out.trans (fi_yes (ys := ys) (by rw [HYD.out]; exact H7.out) (by rw [HM.out]; exact HM2.out) (by rw [HYD.out, HM.out, HLL.out]; exact HM3.out) (by rw [HX.out]; exact hk) (by rw [HX.out, HM.out, HLL.out]; exact e)))
                    obtain ⟨YK, YP, YN⟩ := nx_yes ES0.out
                    rw [Int.toNat_natCast, HYS.out] at YK YP YN
                    rw [HX.out] at YK
                    rw [HM.out] at YN
                    have HY := hid (And.intro YK (And.intro YP YN))
                    clear YK YP YN e
                    simp only [Bool.not_true] at r20
                    simp only [r20]
                    go_wp2_with fail
                    refine bodyPost_ret (v := .agg #[.int .i64 0, .int .i64 x2, .slice (some ⟨b, o + (q + 3), none⟩) m (c - (q + 3)), .int .i64 L]) (results_cell_row Tryz.results37 _ _ w.heap.size 66 #[.int .i64 0, .int .i64 x2, .slice (some ⟨b, o + (q + 3), none⟩) m (c - (q + 3)), .int .i64 L] (0, 0) _ rfl (all4 HK.out) Tryz.underlying66 rfl fr8_size) rfl ?_
                    unfold RFNext
                    rw [ES0.out, HY.out.1, HY.out.2.1, HY.out.2.2, HPL.out, e7]
                    exact ⟨⟨_, _, rfl, rw_set4 HTq.out (fun a ha => by cases ha; exact Nat.ne_of_lt hbw) _ _ _ _⟩, set4 hbq (Nat.le_refl _) _ _ _ _⟩
                  | false =>
                    have e := of_decide_eq_false HRR.out
                    have E := hid (EI.out.trans (fi_no (ys := ys) (by rw [HYD.out]; exact H7.out) (by rw [HM.out]; exact HM2.out) (by rw [HYD.out, HM.out, HLL.out]; exact HM3.out) (fun h => e (by rw [← HX.out, h.2, HM.out, HLL.out]))))
                    clear e
                    simp only [Bool.not_false] at r20
                    simp only [r20]
                    go_wp2_with fail
                    refine bodyPost_ret (v := .agg #[.int .i64 3, .int .i64 0, .slice none 0 0, .int .i64 0]) (results_cell_row Tryz.results37 _ _ w.heap.size 66 #[.int .i64 3, .int .i64 0, .slice none 0 0, .int .i64 0] (0, 0) _ rfl (all4 HK.out) Tryz.underlying66 rfl fr8_size) rfl (RFNext.none E.out (by decide) (set4 hbq (Nat.le_refl _) _ _ _ _))
                -- endr15
              · have E := hid (EI.out.trans (fi_no (ys := ys) (by rw [HYD.out]; exact d7) (by rw [HM.out]; exact hm2) (by rw [HYD.out, HM.out, hL]; exact hm3) (fun h => hk (by rw [← HX.out]; exact h.1))))
                clear HS EI HYB HYD
                by_cases k1 : x2 < 1
                · have k1d : decide (x2 < 1) = true := decide_eq_true k1
                  clear hk k1
                  go_enter Tryz.func37, Tryz.ntmps37
                  go_wp2_with fail
                  go_region
                  go_wp2_with fail
                  go_quiet (fail)
                  go_wp2_with fail
                  refine bodyPost_ret (v := .agg #[.int .i64 3, .int .i64 0, .slice none 0 0, .int .i64 0]) (results_cell_row Tryz.results37 _ _ w.heap.size 66 #[.int .i64 3, .int .i64 0, .slice none 0 0, .int .i64 0] (0, 0) _ rfl (all4 (K8.out _)) Tryz.underlying66 rfl fr8_size) rfl (RFNext.none E.out (by decide) (set4 (below_drewN hal _) (Nat.le_refl _) _ _ _ _))
                · have k1d : decide (x2 < 1) = false := decide_eq_false k1
                  have k3d : decide (3 < x2) = true := decide_eq_true (by omega)
                  clear hk k1
                  go_enter Tryz.func37, Tryz.ntmps37
                  go_wp2_with fail
                  go_region
                  go_wp2_with fail
                  go_quiet (fail)
                  go_wp2_with fail
                  refine bodyPost_ret (v := .agg #[.int .i64 3, .int .i64 0, .slice none 0 0, .int .i64 0]) (results_cell_row Tryz.results37 _ _ w.heap.size 66 #[.int .i64 3, .int .i64 0, .slice none 0 0, .int .i64 0] (0, 0) _ rfl (all4 (K8.out _)) Tryz.underlying66 rfl fr8_size) rfl (RFNext.none E.out (by decide) (set4 (below_drewN hal _) (Nat.le_refl _) _ _ _ _))
end Go.Proofs.YtondnbnaoacanaaGreatDoor
