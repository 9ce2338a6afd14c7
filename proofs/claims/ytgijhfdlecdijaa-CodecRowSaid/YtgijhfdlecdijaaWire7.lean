/- Contracts of layer 3 (wire) and of its reference: texts that are read; bytes as a text. -/
import Derived.Test.YtgijhfdlecdijaaWire6
import Derived.RegionTactic
namespace Go.Proofs.Ytgijhfdlecdijaa
open Go.ChangeShapes Go.WideShapes Go.ChangeAt Go.RowKit Fb

/-- a text of at most so many bytes: the place behind it, the error, its bytes -/
def textS (zs : List Int) (p er most : Int) : Int × Int × List Int :=
  if (uintS zs p er).2.1 = 0 then
    (if most < 0 ∨ most < (uintS zs p er).2.2 then (p, 9, [])
     else if (zs.length : Int) - (uintS zs p er).1 < (uintS zs p er).2.2 then (p, 10, [])
     else ((uintS zs p er).1 + (uintS zs p er).2.2, 0, (zs.drop (uintS zs p er).1.toNat).take (uintS zs p er).2.2))
  else ((uintS zs p er).1, (uintS zs p er).2.1, [])
theorem tx_err {zs : List Int} {p er most p1 e1 : Int} {v : Nat} (hu : uintS zs p er = (p1, e1, v)) (h : e1 ≠ 0) : textS zs p er most = (p1, e1, []) := by
  unfold textS; rw [hu]; simp only; rw [if_neg h]
theorem tx_many {zs : List Int} {p er most p1 : Int} {v : Nat} (hu : uintS zs p er = (p1, 0, v)) (h : most < 0 ∨ most < v) : textS zs p er most = (p, 9, []) := by
  unfold textS; rw [hu]; simp only; rw [if_pos trivial, if_pos h]
theorem tx_short {zs : List Int} {p er most p1 : Int} {v : Nat} (hu : uintS zs p er = (p1, 0, v)) (h : ¬(most < 0 ∨ most < v)) (hs : (zs.length : Int) - p1 < v) : textS zs p er most = (p, 10, []) := by
  unfold textS; rw [hu]; simp only; rw [if_pos trivial, if_neg h, if_pos hs]
theorem tx_ok {zs : List Int} {p er most p1 : Int} {v : Nat} (hu : uintS zs p er = (p1, 0, v)) (h : ¬(most < 0 ∨ most < v)) (hs : ¬ (zs.length : Int) - p1 < v) : textS zs p er most = (p1 + v, 0, (zs.drop p1.toNat).take v) := by
  unfold textS; rw [hu]; simp only; rw [if_pos trivial, if_neg h, if_neg hs]
theorem uS_zero {zs : List Int} {p er p1 : Int} {v : Nat} (hu : uintS zs p er = (p1, 0, v)) : er = 0 ∧ 0 ≤ p ∧ p < p1 ∧ p1 ≤ zs.length := by
  unfold uintS at hu
  split at hu
  · rename_i h
    split at hu
    · rename_i hE
      simp only [Prod.mk.injEq] at hu
      have := uE_lt hE
      have h2 : (win zs p).length ≤ zs.length - p.toNat := by simp [win]; omega
      omega
    · rename_i hE
      simp only [Prod.mk.injEq] at hu
      exact absurd hu.2.1 hE
  · rename_i h
    simp only [Prod.mk.injEq] at hu
    split at hu
    · omega
    · omega

set_option maxHeartbeats 4000000 in
set_option maxRecDepth 100000 in
theorem Text_any {A : Option Addr} {n c : Nat} {p er most p' e' : Int} {bs : List Int} {zs : List Int} {w : World} (ht : textS zs p er most = (p', e', bs)) (hS : Sl w w.heap.size A n (by8 zs)) (hb : Bytes zs) (hnil : A = none → c = 0) (hn : n ≤ 100000) (hc : n ≤ c) (hcm : c ≤ maxLen) (hm : most ≤ 9223372036854775807) :
    Calls Try.prog 45 #[.agg #[.slice A n c, .int .i64 p, .int .i64 er], .int .i64 most] w fun e w' => e = .returned (.tuple #[.agg #[.slice A n c, .int .i64 p', .int .i64 e'], .string (strOfNums bs)]) ∧ Below w.heap.size w w' := by
  have hl : n = zs.length := by have := hS.len; rw [by8_len] at this; exact this.symm
  obtain ⟨p1, e1, v, hu⟩ : ∃ p1 e1 v, uintS zs p er = (p1, e1, v) := ⟨_, _, _, rfl⟩
  have hUI : ∀ w', Below w.heap.size w w' → Calls Try.prog 28 #[.agg #[.slice A n c, .int .i64 p, .int .i64 er]] w' fun e w'' => e = .returned (.tuple #[.agg #[.slice A n c, .int .i64 p1, .int .i64 e1], .int .u64 v]) ∧ Below w'.heap.size w' w'' := fun w' hbel => Uint_any hu ((hS.below hbel).up hbel.size) hb hn hc hcm
  have UI := hid hUI
  clear hUI
  have hcm' := hcm
  unfold maxLen at hcm
  by_cases he : e1 = 0
  · subst he
    have hz := uS_zero hu
    by_cases hmany : most < 0 ∨ most < v
    · rw [tx_many hu hmany] at ht
      simp only [Prod.mk.injEq] at ht
      obtain ⟨rfl, rfl, rfl⟩ := ht
      obtain ⟨rfl, hz⟩ := hz
      have hv := uS_lt hb hu
      have HV := hid hv
      clear hl hu hb hS hnil hcm' hz hv
      have hcs : most < 0 ∨ (0 ≤ most ∧ most < (v : Int)) := by omega
      clear hmany
      rcases hcs with h1 | ⟨h1, h2⟩
      all_goals
        go_enter Try.func45, Try.ntmps45
        go_wp2_with fail
        with_reducible refine (UI.out _ (((Below.refl _ _).alloc (Nat.le_refl _) _).alloc (by simp) _)).mono ?_
        rintro e w1 ⟨rfl, hbel⟩
        obtain ⟨k1, k2⟩ := kept2 hbel
        obtain ⟨c0, c1, c2, f0, f1, f2⟩ := blk3 k1
        have hz1 : w.heap.size + 1 < w1.heap.size := by have := hbel.size; simp at this; omega
        have hz0 : w.heap.size < w1.heap.size := by omega
        go_wp2_with fail
        with_reducible refine (stay_any (if_pos rfl) _).mono ?_
        rintro e w2 ⟨rfl, hbel2⟩
        obtain ⟨d0, d1, d2, g0, g1, g2⟩ := blk3 ((hbel2.block _ (by simp; omega)).trans ((Below.heap_alloc _ _ _ (by omega)).trans k2))
        clear k1 k2
        go_wp2_with fail
        refine bodyPost_ret (v := .tuple #[.agg #[.slice A n c, .int .i64 p, .int .i64 9], .string (strOfNums [])]) (by simp [results, Try.results45, go_sem, d0, d1, d2]; rfl) rfl ⟨rfl, ?_⟩
        refine Below.setCell (Below.setCell (Below.setCell (Below.trans (Below.alloc (Below.trans ?_ (hbel.mono (by simp; omega))) (by omega) _) (hbel2.mono (by simp; omega))) (by simp) _) (by simp) _) (by simp) _
        exact ((Below.refl _ _).alloc (Nat.le_refl _) _).alloc (by simp) _
    · have hm0 : 0 ≤ most := by omega
      have hvm : (v : Int) ≤ most := by omega
      by_cases hsh : (zs.length : Int) - p1 < v
      · rw [tx_short hu hmany hsh] at ht
        simp only [Prod.mk.injEq] at ht
        obtain ⟨rfl, rfl, rfl⟩ := ht
        clear hmany
        have hTK : ∀ w', Below w.heap.size w w' → Calls Try.prog 52 #[.agg #[.slice A n c, .int .i64 p1, .int .i64 0], .int .i64 v] w' (Takes w'.heap.size w' A n c p1 10 []) := fun w' hbel => Take_any (tS_short ⟨by omega, hz.2.2.2⟩ (by omega) hsh) ((hS.below hbel).up hbel.size) hnil hn hc hcm' (by omega)
        have TK := hid hTK
        clear hTK hl hu hb hS hnil hcm' hsh
        obtain ⟨rfl, hz⟩ := hz
        go_enter Try.func45, Try.ntmps45
        go_wp2_with fail
        with_reducible refine (UI.out _ (((Below.refl _ _).alloc (Nat.le_refl _) _).alloc (by simp) _)).mono ?_
        rintro e w1 ⟨rfl, hbel⟩
        obtain ⟨k1, k2⟩ := kept2 hbel
        have hz1 : w.heap.size + 1 < w1.heap.size := by have := hbel.size; simp at this; omega
        have hz0 : w.heap.size < w1.heap.size := by omega
        have hB1 : Below w.heap.size w w1 := Below.trans (((Below.refl _ _).alloc (Nat.le_refl _) _).alloc (by simp) _) (hbel.mono (by simp; omega))
        go_wp2_with fail
        with_reducible refine (TK.out _ (hB1.alloc (by omega) _)).mono ?_
        rintro e w2 ⟨⟨A3, c3, rfl, hSl, hlo⟩, hbel2⟩
        have hs2 : w1.heap.size + 1 ≤ w2.heap.size := by have := hbel2.size; simp at this; omega
        have hz3 : w.heap.size + 1 < w2.heap.size := by omega
        have hz2 : w.heap.size < w2.heap.size := by omega
        have m1 := (hbel2.block w.heap.size (by simp; omega)).trans ((Below.heap_alloc _ _ _ (by omega)).trans k1)
        have m2 := (hbel2.block (w.heap.size + 1) (by simp; omega)).trans ((Below.heap_alloc _ _ _ (by omega)).trans k2)
        have hB2 : Below w.heap.size w w2 := Below.trans (hB1.alloc (by omega) _) (hbel2.mono (by simp; omega))
        clear k1 k2
        obtain ⟨c0, c1, c2, f0, f1, f2⟩ := blk3 m1
        go_wp2_with fail
        with_reducible refine (stay_any (if_pos rfl) _).mono ?_
        rintro e w3 ⟨rfl, hbel3⟩
        obtain ⟨d0, d1, d2, g0, g1, g2⟩ := blk3 ((hbel3.block _ (by simp; omega)).trans ((Below.heap_alloc _ _ _ (by omega)).trans m2))
        clear m1 m2
        go_wp2_with fail
        refine bodyPost_ret (v := .tuple #[.agg #[.slice A n c, .int .i64 p, .int .i64 10], .string (strOfNums [])]) (by simp [results, Try.results45, go_sem, d0, d1, d2]; rfl) rfl ⟨rfl, ?_⟩
        exact Below.setCell (Below.setCell (Below.setCell (Below.trans (Below.alloc hB2 (by omega) _) (hbel3.mono (by simp; omega))) (by simp) _) (by simp) _) (by simp) _
      · rw [tx_ok hu hmany hsh] at ht
        simp only [Prod.mk.injEq] at ht
        obtain ⟨rfl, rfl, rfl⟩ := ht
        clear hmany
        have hTK : ∀ w', Below w.heap.size w w' → Calls Try.prog 52 #[.agg #[.slice A n c, .int .i64 p1, .int .i64 0], .int .i64 v] w' (Takes w'.heap.size w' A n c (p1 + v) 0 ((zs.drop p1.toNat).take v)) := fun w' hbel => Take_any (tS_ok (m := (v : Int)) ⟨by omega, hz.2.2.2⟩ (by omega) (by omega)) ((hS.below hbel).up hbel.size) hnil hn hc hcm' (by omega)
        have TK := hid hTK
        clear hTK hl hu hb hS hnil hcm' hsh
        obtain ⟨rfl, hz⟩ := hz
        generalize (zs.drop p1.toNat).take v = bs at *
        go_enter Try.func45, Try.ntmps45
        go_wp2_with fail
        with_reducible refine (UI.out _ (((Below.refl _ _).alloc (Nat.le_refl _) _).alloc (by simp) _)).mono ?_
        rintro e w1 ⟨rfl, hbel⟩
        obtain ⟨k1, k2⟩ := kept2 hbel
        have hz1 : w.heap.size + 1 < w1.heap.size := by have := hbel.size; simp at this; omega
        have hz0 : w.heap.size < w1.heap.size := by omega
        have hB1 : Below w.heap.size w w1 := Below.trans (((Below.refl _ _).alloc (Nat.le_refl _) _).alloc (by simp) _) (hbel.mono (by simp; omega))
        go_wp2_with fail
        with_reducible refine (TK.out _ (hB1.alloc (by omega) _)).mono ?_
        rintro e w2 ⟨⟨A3, c3, rfl, hSl, hlo⟩, hbel2⟩
        have hs2 : w1.heap.size + 1 ≤ w2.heap.size := by have := hbel2.size; simp at this; omega
        have hz3 : w.heap.size + 1 < w2.heap.size := by omega
        have hz2 : w.heap.size < w2.heap.size := by omega
        have m1 := (hbel2.block w.heap.size (by simp; omega)).trans ((Below.heap_alloc _ _ _ (by omega)).trans k1)
        have m2 := (hbel2.block (w.heap.size + 1) (by simp; omega)).trans ((Below.heap_alloc _ _ _ (by omega)).trans k2)
        have hB2 : Below w.heap.size w w2 := Below.trans (hB1.alloc (by omega) _) (hbel2.mono (by simp; omega))
        clear k1 k2
        obtain ⟨d0, d1, d2, g0, g1, g2⟩ := blk3 m2
        have hS3 := hSl.below ((Below.refl w2.heap.size w2).alloc (Nat.le_refl _) (.cells #[.slice A n c, .int .i64 (p1 + v), .int .i64 0] 59))
        have hfar : ∀ a, A3 = some a → a.block ≠ w.heap.size + 1 := fun a ha => by have := hlo a ha; simp at this; omega
        have hS4 := (Sl.far (Sl.far (Sl.far hSl (p := ⟨w.heap.size + 1, 0, none⟩) hfar (.slice A n c)) (p := ⟨w.heap.size + 1, 1, none⟩) hfar (.int .i64 (p1 + v))) (p := ⟨w.heap.size + 1, 2, none⟩) hfar (.int .i64 0)).below ((Below.refl w2.heap.size _).alloc (by simp) (.cells #[.slice A n c, .int .i64 (p1 + v), .int .i64 0] 59))
        have cv1 := conv8d c3 hS3
        have cv2 := conv8d c3 hS4
        clear hS3 hS4 hSl hlo hfar
        clear m1 m2
        go_wp2_with fail
        go_region
        go_wp2
        refine bodyPost_ret (v := .tuple #[.agg #[.slice A n c, .int .i64 (p1 + ↑v), .int .i64 0], .string (strOfNums bs)]) (by simp [results, Try.results45, go_sem, d0, d1, d2, hz3]) rfl ⟨rfl, ?_⟩
        exact Below.drew (Below.alloc (Below.setCell (Below.setCell (Below.setCell hB2 (by simp) _) (by simp) _) (by simp) _) (by simp; omega) _)
  · rw [tx_err hu he] at ht
    simp only [Prod.mk.injEq] at ht
    obtain ⟨rfl, rfl, rfl⟩ := ht
    clear hl hu hb hS hnil hcm'
    go_enter Try.func45, Try.ntmps45
    go_wp2_with fail
    with_reducible refine (UI.out _ (((Below.refl _ _).alloc (Nat.le_refl _) _).alloc (by simp) _)).mono ?_
    rintro e w1 ⟨rfl, hbel⟩
    obtain ⟨k1, k2⟩ := kept2 hbel
    obtain ⟨c0, c1, c2, f0, f1, f2⟩ := blk3 k1
    obtain ⟨d0, d1, d2, g0, g1, g2⟩ := blk3 k2
    have hz1 : w.heap.size + 1 < w1.heap.size := by have := hbel.size; simp at this; omega
    have hz0 : w.heap.size < w1.heap.size := by omega
    clear k1 k2
    go_wp2_with fail
    refine bodyPost_ret (v := .tuple #[.agg #[.slice A n c, .int .i64 p1, .int .i64 e1], .string (strOfNums [])]) (by simp [results, Try.results45, go_sem, d0, d1, d2, hz0, hz1]; rfl) rfl ⟨rfl, ?_⟩
    refine Below.alloc (Below.setCell (Below.setCell (Below.setCell (Below.trans ?_ (hbel.mono (by simp; omega))) (by simp) _) (by simp) _) (by simp) _) (by simp; omega) _
    exact ((Below.refl _ _).alloc (Nat.le_refl _) _).alloc (by simp) _
end Go.Proofs.Ytgijhfdlecdijaa
