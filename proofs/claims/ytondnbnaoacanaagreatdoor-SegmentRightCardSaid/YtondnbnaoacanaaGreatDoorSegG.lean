/- Layer 9, the reference: contract of Add. -/
import Derived.Test.YtondnbnaoacanaaGreatDoorSegF
namespace Go.Proofs.YtondnbnaoacanaaGreatDoor
open Go.ChangeShapes Go.WideShapes Go.ChangeAt Go.RowKit Fb Go.Maps

set_option maxRecDepth 100000 in
set_option maxHeartbeats 16000000 in
theorem RAdd9 (q0 t0 : Int) {A : Option Addr} {n cp : Nat} {ss : List ByteArray} (q t k a b d : Int) (s : ByteArray) {w : World} (hR : Rs w A n cp ss) (hn9 : n ≤ 1000000) :
    Calls Tryz.prog 14 #[.agg #[.int .i64 q0, .int .i64 t0, .slice A n cp], .agg #[.int .i64 q, .int .i64 t, .int .i64 k, .string s, .int .i64 a, .int .i64 b, .int .i64 d]] w (AdR w q0 t0 ss ⟨q, t, k, s, a, b, d⟩) := by
  have PC := hid (fun (w1 : World) (h : Below w.heap.size w w1) => REncode_any q0 t0 (cp := cp) q t k a b d s (hR.below h) hn9)
  have HR := hid hR
  have hbA : Below w.heap.size w (((w.alloc (.cells #[.int .i64 q0, .int .i64 t0, .slice A n cp] 24)).alloc (.cells #[.int .i64 q, .int .i64 t, .int .i64 k, .string s, .int .i64 a, .int .i64 b, .int .i64 d] 41)).alloc (.cells #[.int .i64 0, .int .i64 0, .slice none 0 0] 24)) := (((Below.refl _ _).alloc (Nat.le_refl _) _).alloc (by simp) _).alloc (by simp; omega) _
  clear hR
  unfold Encs at PC
  by_cases h0 : enE q0 t0 ss ⟨q, t, k, s, a, b, d⟩ = 0
  case neg =>
    have e1 : adB q0 t0 ss ⟨q, t, k, s, a, b, d⟩ = [] := if_neg h0
    obtain ⟨-, e2, e3, e4⟩ := en_not h0
    unfold AdR
    rw [e1, e2, e3, e4]
    clear e1 e2 e3 e4
    generalize enQ q0 t0 ss ⟨q, t, k, s, a, b, d⟩ = Q at *
    generalize enT q0 t0 ss ⟨q, t, k, s, a, b, d⟩ = T at *
    generalize enL q0 t0 ss ⟨q, t, k, s, a, b, d⟩ = L at *
    generalize enE q0 t0 ss ⟨q, t, k, s, a, b, d⟩ = E at *
    go_enter Tryz.func14, Tryz.ntmps14
    go_wp2_with fail
    refine (PC.out _ hbA).mono ?_
    rintro e wa ⟨⟨A1, n1, c1, A2, n2, c2, rfl, -, -⟩, hb1⟩
    have hbwa : Below w.heap.size w wa := hbA.trans (hb1.mono hbA.size)
    obtain ⟨K1, K2, K3⟩ := kept3 hb1
    have z1 := blk_lt K1
    obtain ⟨u10, u11, u12, f10, f11, f12⟩ := blk3 K1
    have z3 := blk_lt K3
    obtain ⟨u30, u31, u32, f30, f31, f32⟩ := blk3 K3
    have HK := hid K3
    clear K1 K2 K3 hb1
    go_wp2_with fail
    go_region
    go_wp2
    refine bodyPost_ret (v := .tuple #[.slice none 0 0, .agg #[.int .i64 q0, .int .i64 t0, .slice A n cp], .int .i64 E]) (by simp [results, Tryz.results14, go_sem, z3, u30, u31, u32]) rfl ⟨⟨_, A, n, cp, rfl, ⟨rfl, .inl ⟨rfl, rfl⟩⟩, HR.out.below ?_⟩, ?_⟩
    all_goals exact Below.drew (Below.alloc (Below.setCell (Below.setCell (Below.setCell hbwa (by simp; omega) _) (by simp; omega) _) (by simp; omega) _) (by simp; omega) _)
  case pos =>
    have e1 : adB q0 t0 ss ⟨q, t, k, s, a, b, d⟩ = frB 2 (spB q0 t0 ss ⟨q, t, k, s, a, b, d⟩) := if_pos h0
    obtain ⟨hr, hf, hB, -, -, -⟩ := en_zero h0
    have HPL := hid (sp_200 (c := ⟨q0, t0, ss⟩) (x := ⟨q, t, k, s, a, b, d⟩) hr hf)
    have HPB := hid (sp_bytes q0 t0 ss ⟨q, t, k, s, a, b, d⟩)
    unfold Ahd.sp at HPL
    simp only at HPL
    unfold AdR
    rw [e1]
    rw [hB, h0] at PC
    rw [h0]
    clear e1 hr hf hB h0
    generalize enQ q0 t0 ss ⟨q, t, k, s, a, b, d⟩ = Q at *
    generalize enT q0 t0 ss ⟨q, t, k, s, a, b, d⟩ = T at *
    generalize enL q0 t0 ss ⟨q, t, k, s, a, b, d⟩ = L at *
    generalize spB q0 t0 ss ⟨q, t, k, s, a, b, d⟩ = SP at *
    go_enter Tryz.func14, Tryz.ntmps14
    go_wp2_with fail
    refine (PC.out _ hbA).mono ?_
    rintro e wa ⟨⟨A1, n1, c1, A2, n2, c2, rfl, hR1, hR2⟩, hb1⟩
    have hbwa : Below w.heap.size w wa := hbA.trans (hb1.mono hbA.size)
    obtain ⟨K1, K2, K3⟩ := kept3 hb1
    have z3 := blk_lt K3
    have HK := hid K3
    have HR1 := hid hR1
    have HR2 := hid hR2
    clear K1 K2 K3 hR1 hR2 hb1
    have hal : Below wa.heap.size wa (wa.alloc (.cells #[.int .i64 Q, .int .i64 T, .slice A2 n2 c2] 24)).drew := Below.drew ((Below.refl _ _).alloc (Nat.le_refl _) _)
    have PF := hid (RFPut_any (k := 2) (HR1.out.below hal) HPB.out (fpE_ok (by omega) HPL.out))
    unfold PutsB at PF
    have HW := hid (show ∀ w2, Below ((wa.alloc (.cells #[.int .i64 Q, .int .i64 T, .slice A2 n2 c2] 24)).drew).heap.size ((wa.alloc (.cells #[.int .i64 Q, .int .i64 T, .slice A2 n2 c2] 24)).drew) w2 → Below wa.heap.size wa w2 ∧ w2.heap[w.heap.size + 1 + 1]? = some (.cells #[.int .i64 0, .int .i64 0, .slice none 0 0] 24 (0, 0)) from fun w2 h2 => by
      have h3 := hal.trans (h2.mono hal.size)
      exact ⟨h3, (h3.block _ z3).trans HK.out⟩)
    go_wp2_with fail
    go_region_held3 (fun w' => w'.cell? ⟨wa.heap.size, 0, none⟩ = some (.int .i64 Q) ∧ w'.cell? ⟨wa.heap.size, 1, none⟩ = some (.int .i64 T) ∧ w'.cell? ⟨wa.heap.size, 2, none⟩ = some (.slice A2 n2 c2))
      (first
        | go_keep
        | (go_split_ands
           exact ⟨keep_cell hbx.out (by assumption), keep_cell hbx.out (by assumption), keep_cell hbx.out (by assumption)⟩)
        | (go_split_ands
           simp [World.cell?_setCell_other, *]))
      (first
        | (go_at_call 30; refine PF.out.mono ?_; rintro e w2 ⟨⟨v, rfl, hown⟩, hb2⟩; have hbx := hid hb2; obtain ⟨hh2, K4⟩ := HW.out w2 hb2; have HO := hid hown; have y4 := blk_lt K4; obtain ⟨s0, s1, s2, g0, g1, g2⟩ := blk3 K4; have HK4 := hid K4; have HH2 := hid hh2; obtain ⟨A9, m9, c9, rfl⟩ := own_slice hown; clear K4 hown hb2 hh2))
    have SS := sto3 w2 (w.heap.size + 1 + 1) (.int .i64 Q) (.int .i64 T) (.slice A2 n2 c2)
    have HO9 := hid (own_down (SS.own HO.out (by simp; omega)) (base' := w.heap.size) (by simp; omega))
    have HR9 := hid ((HR2.out.below HH2.out).sto HK4.out SS)
    have HB9 := hid (SS.below (hbwa.trans (HH2.out.mono hbwa.size)) (by omega))
    clear SS
    go_wp2
    refine bodyPost_ret (v := .tuple #[.slice A9 m9 c9, .agg #[.int .i64 Q, .int .i64 T, .slice A2 n2 c2], .int .i64 0]) (by simp [results, Tryz.results14, go_sem, y4, s0, s1, s2]) rfl ⟨⟨_, A2, n2, c2, rfl, HO9.out, HR9.out⟩, HB9.out⟩
end Go.Proofs.YtondnbnaoacanaaGreatDoor
