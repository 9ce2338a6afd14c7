/- Layer 9, the reference: contract of Same. -/
import Derived.Test.YtondnbnaoacanaaGreatDoorSegL
import Derived.Test.YtondnbnaoacanaaGreatDoorSegB
namespace Go.Proofs.YtondnbnaoacanaaGreatDoor
open Go.ChangeShapes Go.WideShapes Go.ChangeAt Go.RowKit Fb Go.Maps

theorem rs_nil (w : World) : Rs w none 0 0 [] := ⟨Sl.nil _ _ _, Nat.le_refl _, Nat.zero_le _, fun _ => rfl⟩

set_option maxRecDepth 100000 in
set_option maxHeartbeats 8000000 in
theorem RSame9 {n q t aq ta st sz : Int} {AE AF : Option Addr} {cE cF : Nat} {l : List Ev} {A2 A3 : Option Addr} {n2 c2 n3 c3 : Nat} {ss : List ByteArray} {w : World}
    (hE : Se w w.heap.size AE l) (hF : Se w w.heap.size AF l) (hl : l.length ≤ 1000000) (h2 : Rs w A2 n2 c2 ss) (h3 : Rs w A3 n3 c3 ss) (hn : n2 ≤ 1000000) :
    Calls Tryz.prog 19 #[.agg #[.int .i64 n, .int .i64 q, .int .i64 t, .slice none 0 0, .slice AE l.length cE, .int .i64 aq, .int .i64 ta, .slice A2 n2 c2, .int .i64 st, .int .i64 sz], .agg #[.int .i64 n, .int .i64 q, .int .i64 t, .slice none 0 0, .slice AF l.length cF, .int .i64 aq, .int .i64 ta, .slice A3 n3 c3, .int .i64 st, .int .i64 sz]] w fun e w' => e = .returned (.bool true) ∧ Below w.heap.size w w' := by
  have hb0 : Below w.heap.size w ((w.alloc (.cells #[.int .i64 n, .int .i64 q, .int .i64 t, .slice none 0 0, .slice AE l.length cE, .int .i64 aq, .int .i64 ta, .slice A2 n2 c2, .int .i64 st, .int .i64 sz] 50)).alloc (.cells #[.int .i64 n, .int .i64 q, .int .i64 t, .slice none 0 0, .slice AF l.length cF, .int .i64 aq, .int .i64 ta, .slice A3 n3 c3, .int .i64 st, .int .i64 sz] 50)) := ((Below.refl _ _).alloc (Nat.le_refl _) _).alloc (by simp) _
  have P1 := hid (RSame7 (q0 := q) (t0 := t) (q1 := q) (t1 := t) (c := 0) (c' := 0) (rs_nil ((w.alloc (.cells #[.int .i64 n, .int .i64 q, .int .i64 t, .slice none 0 0, .slice AE l.length cE, .int .i64 aq, .int .i64 ta, .slice A2 n2 c2, .int .i64 st, .int .i64 sz] 50)).alloc (.cells #[.int .i64 n, .int .i64 q, .int .i64 t, .slice none 0 0, .slice AF l.length cF, .int .i64 aq, .int .i64 ta, .slice A3 n3 c3, .int .i64 st, .int .i64 sz] 50))) (rs_nil _) (by omega))
  rw [decide_eq_true ⟨rfl, rfl, rfl⟩] at P1
  have P2 := hid (fun (w1 : World) (h : Below w.heap.size w w1) => RSame7 (q0 := aq) (t0 := ta) (q1 := aq) (t1 := ta) (c := c2) (c' := c3) (h2.below h) (h3.below h) hn)
  rw [decide_eq_true ⟨rfl, rfl, rfl⟩] at P2
  have P3 := hid (fun (w1 : World) (h : Below w.heap.size w w1) => RSame5q (c := cE) (c' := cF) ((hE.below h).up h.size) ((hF.below h).up h.size) hl)
  obtain ⟨L, hL⟩ : ∃ L, l.length = L := ⟨_, rfl⟩
  rw [hL] at P1 P3 hb0 ⊢
  clear hE hF h2 h3 hn hl hL
  go_enter Tryz.func19, Tryz.ntmps19
  go_wp2_with fail
  refine P1.out.mono ?_
  rintro e w1 ⟨rfl, hb1⟩
  have hbw1 := hb0.trans (hb1.mono hb0.size)
  obtain ⟨K1, K2⟩ := kept2 hb1
  have z1 := blk_lt K1
  have z2 := blk_lt K2
  obtain ⟨u0, u1, u2, u3, u4, u5, u6, u7, u8, u9⟩ := blk10 K1
  obtain ⟨v0, v1, v2, v3, v4, v5, v6, v7, v8, v9⟩ := blk10 K2
  have HK := hid (And.intro K1 K2)
  clear K1 K2 hb1
  go_wp2_with fail
  refine (P2.out _ hbw1).mono ?_
  rintro e w2 ⟨rfl, hb2⟩
  have hbw2 := hbw1.trans (hb2.mono hbw1.size)
  have K1 := (hb2.block _ z1).trans HK.out.1
  have K2 := (hb2.block _ z2).trans HK.out.2
  clear z1 z2 u0 u1 u2 u3 u4 u5 u6 u7 u8 u9 v0 v1 v2 v3 v4 v5 v6 v7 v8 v9 hb2
  have z1 := blk_lt K1
  have z2 := blk_lt K2
  obtain ⟨u0, u1, u2, u3, u4, u5, u6, u7, u8, u9⟩ := blk10 K1
  obtain ⟨v0, v1, v2, v3, v4, v5, v6, v7, v8, v9⟩ := blk10 K2
  clear K1 K2 HK
  go_wp2_with fail
  refine (P3.out _ hbw2).mono ?_
  rintro e w3 ⟨rfl, k, rfl⟩
  go_wp2_with fail
  go_ret
  exact ⟨rfl, hbw2.trans ⟨rfl, rfl, rfl, Nat.le_refl _, fun _ _ => rfl⟩⟩
end Go.Proofs.YtondnbnaoacanaaGreatDoor
