/- Layer 9: contract of Add. -/
import Derived.Test.YtondnbnaoacanaaGreatDoorSegQ
namespace Go.Proofs.YtondnbnaoacanaaGreatDoor
open Go.ChangeShapes Go.WideShapes Go.ChangeAt Go.RowKit Fb Go.Maps

def adB (q0 t0 : Int) (ss : List ByteArray) (x : Ev) : List Int := if enE q0 t0 ss x = 0 then frB 2 (spB q0 t0 ss x) else []
def AdR (w : World) (q0 t0 : Int) (ss : List ByteArray) (x : Ev) (e : Ending) (w' : World) : Prop :=
  (∃ (v : Value) (A2 : Option Addr) (n2 c2 : Nat), e = .returned (.tuple #[v, .agg #[.int .i64 (enQ q0 t0 ss x), .int .i64 (enT q0 t0 ss x), .slice A2 n2 c2], .int .i64 (enE q0 t0 ss x)]) ∧ w'.ownsRow w.heap.size 5 1 v (adB q0 t0 ss x).length (by8 (adB q0 t0 ss x)) ∧ Rs w' A2 n2 c2 (enL q0 t0 ss x)) ∧ Below w.heap.size w w'

set_option maxRecDepth 100000 in
set_option maxHeartbeats 16000000 in
theorem Add_any (q0 t0 : Int) {A : Option Addr} {n cp : Nat} {ss : List ByteArray} (hz : Ok9 ss) (q t k a b d : Int) {s : ByteArray} (hs : s.size ≤ maxLen) {w : World} (hR : Rs w A n cp ss) (hn9 : n ≤ 1000000) :
    Calls Tryz.prog 13 #[.agg #[.int .i64 q0, .int .i64 t0, .slice A n cp], .agg #[.int .i64 q, .int .i64 t, .int .i64 k, .string s, .int .i64 a, .int .i64 b, .int .i64 d]] w (AdR w q0 t0 ss ⟨q, t, k, s, a, b, d⟩) := by
  have PC := hid (fun (w1 : World) (h : Below w.heap.size w w1) => Encode_any q0 t0 (cp := cp) hz q t k a b d hs (hR.below h) hn9)
  have hbA : Below w.heap.size w (((w.alloc (.cells #[.int .i64 q0, .int .i64 t0, .slice A n cp] 24)).alloc (.cells #[.int .i64 q, .int .i64 t, .int .i64 k, .string s, .int .i64 a, .int .i64 b, .int .i64 d] 41)).alloc (.cells #[.int .i64 0, .int .i64 0, .slice none 0 0] 24)) := (((Below.refl _ _).alloc (Nat.le_refl _) _).alloc (by simp) _).alloc (by simp; omega) _
  clear hz hR
  unfold Encs at PC
  by_cases h0 : enE q0 t0 ss ⟨q, t, k, s, a, b, d⟩ = 0
  case neg =>
    have e1 : adB q0 t0 ss ⟨q, t, k, s, a, b, d⟩ = [] := if_neg h0
    unfold AdR
    rw [e1]
    clear e1
    generalize enQ q0 t0 ss ⟨q, t, k, s, a, b, d⟩ = Q at *
    generalize enT q0 t0 ss ⟨q, t, k, s, a, b, d⟩ = T at *
    generalize enL q0 t0 ss ⟨q, t, k, s, a, b, d⟩ = L at *
    generalize enE q0 t0 ss ⟨q, t, k, s, a, b, d⟩ = E at *
    go_enter Tryz.func13, Tryz.ntmps13
    go_wp2_with fail
    refine (PC.out _ hbA).mono ?_
    rintro e wa ⟨⟨A1, n1, c1, A2, n2, c2, rfl, -, hR2⟩, hb1⟩
    have hbwa : Below w.heap.size w wa := hbA.trans (hb1.mono hbA.size)
    obtain ⟨K1, K2, K3⟩ := kept3 hb1
    have z3 := blk_lt K3
    obtain ⟨u30, u31, u32, f30, f31, f32⟩ := blk3 K3
    have HK := hid K3
    have HR2 := hid hR2
    clear K1 K2 K3 hR2 hb1
    go_wp2_with fail
    go_region
    go_wp2
    refine bodyPost_ret (v := .tuple #[.slice none 0 0, .agg #[.int .i64 Q, .int .i64 T, .slice A2 n2 c2], .int .i64 E]) (by simp [results, Tryz.results13, go_sem, z3, u30, u31, u32]) rfl ⟨⟨_, A2, n2, c2, rfl, ⟨rfl, .inl ⟨rfl, rfl⟩⟩, ?_⟩, ?_⟩
    · exact ((HR2.out.sto HK.out (sto3 wa (w.heap.size + 1 + 1) (.int .i64 Q) (.int .i64 T) (.slice A2 n2 c2))).below ((Below.refl _ _).alloc (Nat.le_refl _) _)).drew
    · exact Below.drew (Below.alloc (Below.setCell (Below.setCell (Below.setCell hbwa (by simp; omega) _) (by simp; omega) _) (by simp; omega) _) (by simp; omega) _)
  case pos =>
    have e1 : adB q0 t0 ss ⟨q, t, k, s, a, b, d⟩ = frB 2 (spB q0 t0 ss ⟨q, t, k, s, a, b, d⟩) := if_pos h0
    obtain ⟨hr, hf, hB, -, -, -⟩ := en_zero h0
    have HPL := hid (sp_200 (c := ⟨q0, t0, ss⟩) (x := ⟨q, t, k, s, a, b, d⟩) hr hf)
    have HPB := hid (sp_bytes q0 t0 ss ⟨q, t, k, s, a, b, d⟩)
    unfold Ahd.sp at HPL
    simp only at HPL
    unfold AdR
    rw [e1]
    rw [hB, h0] at PC
    rw [h0]
    clear e1 hr hf hB h0
    generalize enQ q0 t0 ss ⟨q, t, k, s, a, b, d⟩ = Q at *
    generalize enT q0 t0 ss ⟨q, t, k, s, a, b, d⟩ = T at *
    generalize enL q0 t0 ss ⟨q, t, k, s, a, b, d⟩ = L at *
    generalize spB q0 t0 ss ⟨q, t, k, s, a, b, d⟩ = SP at *
    go_enter Tryz.func13, Tryz.ntmps13
    go_wp2_with fail
    refine (PC.out _ hbA).mono ?_
    rintro e wa ⟨⟨A1, n1, c1, A2, n2, c2, rfl, hR1, hR2⟩, hb1⟩
    have hbwa : Below w.heap.size w wa := hbA.trans (hb1.mono hbA.size)
    obtain ⟨K1, K2, K3⟩ := kept3 hb1
    have z3 := blk_lt K3
    have HK := hid K3
    have HR1 := hid hR1
    have HR2 := hid hR2
    clear K1 K2 K3 hR1 hR2 hb1
    have hal : Below wa.heap.size wa (wa.alloc (.cells #[.int .i64 Q, .int .i64 T, .slice A2 n2 c2] 24)) := (Below.refl _ _).alloc (Nat.le_refl _) _
    go_wp2_with fail
    refine (FPut_any 2 (HR1.out.below hal) HPB.out).mono ?_
    rintro e wb ⟨⟨v, rfl, hown⟩, hb2⟩
    have e1 := fpE_ok (k := 2) (by omega) HPL.out
    have e2 := fpB_ok e1
    rw [e2] at hown
    rw [e1]
    have HO := hid hown
    have h9 : Below wa.heap.size wa wb := hal.trans (hb2.mono hal.size)
    have hsz := h9.size
    have hsz2 := hb2.size
    simp only [World.size_alloc] at hsz2
    have k3 := (h9.block _ z3).trans HK.out
    have k8 := (hb2.block wa.heap.size (by simp)).trans (heap_alloc_new wa _)
    have y3 := blk_lt k3
    have y8 := blk_lt k8
    obtain ⟨u30, u31, u32, f30, f31, f32⟩ := blk3 k3
    obtain ⟨u80, u81, u82, f80, f81, f82⟩ := blk3 k8
    have HK3 := hid k3
    have HR9 := hid (HR2.out.below h9)
    have hbwb : Below w.heap.size w wb := hbwa.trans (h9.mono hbwa.size)
    clear k3 k8 hown hb2 h9 e1 e2 HR1 HR2
    go_wp2_with fail
    go_region
    go_wp2
    refine bodyPost_ret (v := .tuple #[v, .agg #[.int .i64 Q, .int .i64 T, .slice A2 n2 c2], .int .i64 0]) (by simp [results, Tryz.results13, go_sem, y3, u30, u31, u32]) rfl ⟨⟨_, A2, n2, c2, rfl, ?_, ?_⟩, ?_⟩
    · exact own_down ((sto3 wb (w.heap.size + 1 + 1) (.int .i64 Q) (.int .i64 T) (.slice A2 n2 c2)).drew.own HO.out (by simp; omega)) (by simp; omega)
    · exact (HR9.out.sto HK3.out (sto3 wb (w.heap.size + 1 + 1) (.int .i64 Q) (.int .i64 T) (.slice A2 n2 c2))).drew
    · exact Below.drew (Below.setCell (Below.setCell (Below.setCell hbwb (by simp; omega) _) (by simp; omega) _) (by simp; omega) _)
end Go.Proofs.YtondnbnaoacanaaGreatDoor
