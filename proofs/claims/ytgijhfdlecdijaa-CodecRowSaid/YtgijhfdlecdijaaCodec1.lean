/- Layer 7: contracts of codec: within, Right, follow. -/
import Derived.Test.YtgijhfdlecdijaaCodecN
import Derived.Test.YtgijhfdlecdijaaEvent6
import Derived.Test.YtgijhfdlecdijaaNames7
import Derived.Test.YtgijhfdlecdijaaBlk
namespace Go.Proofs.Ytgijhfdlecdijaa
open Go.ChangeShapes Go.WideShapes Go.ChangeAt Go.RowKit Fb Go.Maps

theorem cw_any (n most : Int) (w : World) :
    Calls Try.prog 19 #[.int .i64 n, .int .i64 most] w fun e w' => e = .returned (.bool (decide (0 ≤ n ∧ n ≤ most))) ∧ w = w' := by
  by_cases h1 : 0 ≤ n <;> by_cases h2 : n ≤ most
  all_goals
    go_enter Try.func19, Try.ntmps19
    go_wp2
    go_ret
    exact ⟨ret_bool (by simp [h1, h2]), rfl⟩

set_option maxHeartbeats 2000000 in
theorem CRight_any (q0 t0 : Int) {A : Option Addr} {n cp B : Nat} {ss : List ByteArray} (hz : Ok9 ss) {w : World} (hS : Sl w B A n (st9 ss)) (hB : B ≤ w.heap.size) :
    Calls Try.prog 10 #[.agg #[.int .i64 q0, .int .i64 t0, .slice A n cp]] w fun e w' => e = .returned (.bool (rcB q0 t0 ss)) ∧ Below w.heap.size w w' := by
  have PQ := hid (cw_any q0 4294967296)
  have PT := hid (cw_any t0 1099511627776)
  have PR := hid (fun (w1 : World) (h : Below w.heap.size w w1) => Right_any (cap := cp) hz (hS.below (h.mono hB)) (Nat.le_trans hB h.size))
  have hbA : Below w.heap.size w (w.alloc (.cells #[.int .i64 q0, .int .i64 t0, .slice A n cp] 24)) := (Below.refl _ _).alloc (Nat.le_refl _) _
  clear hS hz
  cases h1 : decide (0 ≤ q0 ∧ q0 ≤ 4294967296) with
  | false =>
    rw [h1] at PQ
    have e : rcB q0 t0 ss = false := by unfold rcB; rw [h1]; rfl
    rw [e]
    go_enter Try.func10, Try.ntmps10
    go_wp2_with fail
    refine (PQ.out _).mono ?_
    rintro e w1 ⟨rfl, rfl⟩
    go_wp2_with fail
    go_ret
    exact ⟨rfl, hbA⟩
  | true =>
    rw [h1] at PQ
    cases h2 : decide (0 ≤ t0 ∧ t0 ≤ 1099511627776) with
    | false =>
      rw [h2] at PT
      have e : rcB q0 t0 ss = false := by unfold rcB; rw [h1, h2]; rfl
      rw [e]
      go_enter Try.func10, Try.ntmps10
      go_wp2_with fail
      refine (PQ.out _).mono ?_
      rintro e w1 ⟨rfl, rfl⟩
      go_wp2_with fail
      refine (PT.out _).mono ?_
      rintro e w1 ⟨rfl, rfl⟩
      go_wp2_with fail
      go_ret
      exact ⟨rfl, hbA⟩
    | true =>
      rw [h2] at PT
      have e : rcB q0 t0 ss = rgB ss := by unfold rcB; rw [h1, h2]; rfl
      rw [e]
      go_enter Try.func10, Try.ntmps10
      go_wp2_with fail
      refine (PQ.out _).mono ?_
      rintro e w1 ⟨rfl, rfl⟩
      go_wp2_with fail
      refine (PT.out _).mono ?_
      rintro e w1 ⟨rfl, rfl⟩
      go_wp2_with fail
      refine (PR.out _ hbA).mono ?_
      rintro e w1 ⟨rfl, hb1⟩
      go_wp2_with fail
      go_ret
      exact ⟨rfl, hbA.trans (hb1.mono hbA.size)⟩

theorem fl_ch {q0 t0 : Int} {ss : List ByteArray} {q t k a b d : Int} {s : ByteArray} (h : chI q t k s a b d ≠ 0) : flE q0 t0 ss ⟨q, t, k, s, a, b, d⟩ = chI q t k s a b d := by unfold flE; rw [if_neg h]
theorem fl_seq {q0 t0 : Int} {ss : List ByteArray} {q t k a b d : Int} {s : ByteArray} (h : chI q t k s a b d = 0) (h1 : q ≤ q0) : flE q0 t0 ss ⟨q, t, k, s, a, b, d⟩ = 1 := by unfold flE; rw [if_pos h, if_pos h1]
theorem fl_time {q0 t0 : Int} {ss : List ByteArray} {q t k a b d : Int} {s : ByteArray} (h : chI q t k s a b d = 0) (h1 : ¬ q ≤ q0) (h2 : t < t0) : flE q0 t0 ss ⟨q, t, k, s, a, b, d⟩ = 5 := by unfold flE; rw [if_pos h, if_neg h1, if_pos h2]
theorem fl_known {q0 t0 : Int} {ss : List ByteArray} {q t k a b d : Int} {s : ByteArray} (h : chI q t k s a b d = 0) (h1 : ¬ q ≤ q0) (h2 : ¬ t < t0) (h3 : plc s ss ≠ 0) : flE q0 t0 ss ⟨q, t, k, s, a, b, d⟩ = 0 ∧ flL ss ⟨q, t, k, s, a, b, d⟩ = ss := by
  unfold flE flL; rw [if_pos h, if_neg h1, if_neg h2, if_neg h3, if_neg h3]; exact ⟨rfl, rfl⟩
theorem fl_new {q0 t0 : Int} {ss : List ByteArray} {q t k a b d : Int} {s : ByteArray} (h : chI q t k s a b d = 0) (h1 : ¬ q ≤ q0) (h2 : ¬ t < t0) (h3 : plc s ss = 0) : flE q0 t0 ss ⟨q, t, k, s, a, b, d⟩ = puE ss s ∧ flL ss ⟨q, t, k, s, a, b, d⟩ = puL ss s := by
  unfold flE flL; rw [if_pos h, if_neg h1, if_neg h2, if_pos h3, if_pos h3]; exact ⟨rfl, rfl⟩

/-- a list of names doesn't lie where what was ahead lies -/
theorem Rs.sto {w w' : World} {A : Option Addr} {n cp g : Nat} {ss : List ByteArray} {t : TypeId} {a b : Int} {X : Option Addr} {y z : Nat} (h : Rs w A n cp ss) (K : w.heap[g]? = some (.cells #[.int .i64 a, .int .i64 b, .slice X y z] t (0, 0))) (S : Sto g w w') : Rs w' A n cp ss := by
  refine ⟨?_, h.2⟩
  rw [S.size]
  refine S.sl h.1 fun hn ad hA e => ?_
  obtain ⟨b0, o, u, hA2, -, hu, hc⟩ := h.1.get hn
  rw [hA] at hA2
  obtain rfl := Option.some.inj hA2
  simp only at e
  subst e
  rw [cell_of_row w b0 (o + 0) _ t (0, 0) K] at hc
  have hx := st9_at hu
  subst hx
  rcases (show o = 0 ∨ o = 1 ∨ o = 2 ∨ 3 ≤ o by omega) with rfl | rfl | rfl | ho
  · cases hc
  · cases hc
  · cases hc
  · rw [Nat.add_zero, Array.getElem?_eq_none (by simpa using ho)] at hc
    cases hc
/-- what stands behind an event, and why not -/
def Folls (w : World) (q0 t0 : Int) (ss : List ByteArray) (x : Ev) (e : Ending) (w' : World) : Prop :=
  (∃ (q1 t1 : Int) (A1 : Option Addr) (m1 c1 : Nat), e = .returned (.tuple #[.agg #[.int .i64 q1, .int .i64 t1, .slice A1 m1 c1], .int .i64 (flE q0 t0 ss x)]) ∧ (flE q0 t0 ss x = 0 → q1 = x.q ∧ t1 = x.t ∧ Rs w' A1 m1 c1 (flL ss x))) ∧ Below w.heap.size w w'

set_option maxRecDepth 100000 in
set_option maxHeartbeats 8000000 in
theorem follow_any (q0 t0 : Int) {A : Option Addr} {n cp : Nat} {ss : List ByteArray} (hz : Ok9 ss) (q t k a b d : Int) {s : ByteArray} (hs : s.size ≤ maxLen) {w : World} (hR : Rs w A n cp ss) :
    Calls Try.prog 14 #[.agg #[.int .i64 q0, .int .i64 t0, .slice A n cp], .agg #[.int .i64 q, .int .i64 t, .int .i64 k, .string s, .int .i64 a, .int .i64 b, .int .i64 d]] w (Folls w q0 t0 ss ⟨q, t, k, s, a, b, d⟩) := by
  have PC := hid (Check_any q t k s a b d)
  have PP := hid (fun (w1 : World) (h : Below w.heap.size w w1) => Place_any (cap := cp) hz hs (hR.below h).1 (Nat.le_refl _))
  have PU := hid (fun (w1 : World) (h : Below w.heap.size w w1) => Put_any (cap := cp) hz hs (hR.below h).1 (Nat.le_refl _) hR.2.2.2)
  have HR := hid (fun (w1 : World) (h : Below w.heap.size w w1) => hR.below h)
  have hbA : Below w.heap.size w (((w.alloc (.cells #[.int .i64 q0, .int .i64 t0, .slice A n cp] 24)).alloc (.cells #[.int .i64 q, .int .i64 t, .int .i64 k, .string s, .int .i64 a, .int .i64 b, .int .i64 d] 26)).alloc (.cells #[.int .i64 0, .int .i64 0, .slice none 0 0] 24)) := (((Below.refl _ _).alloc (Nat.le_refl _) _).alloc (by simp) _).alloc (by simp; omega) _
  have hq := plc_le s ss
  clear hR hz
  by_cases hc : chI q t k s a b d = 0
  case neg =>
    have fl := fl_ch (q0 := q0) (t0 := t0) (ss := ss) hc
    unfold Folls
    rw [fl]
    clear fl
    generalize chI q t k s a b d = ch at *
    go_enter Try.func14, Try.ntmps14
    go_wp2_with fail
    refine (PC.out _).mono ?_
    rintro e w1 ⟨rfl, hb1⟩
    obtain ⟨K1, K2, K3⟩ := kept3 hb1
    have z1 := blk_lt K1
    have z2 := blk_lt K2
    have z3 := blk_lt K3
    obtain ⟨c0, c1, c2, f0, f1, f2⟩ := blk3 K1
    obtain ⟨g0, g1, g2, i0, i1, i2⟩ := blk3 K3
    have hbB := hbA.trans (hb1.mono hbA.size)
    clear K1 K2 K3
    go_wp2_with fail
    refine bodyPost_ret (v := .tuple #[.agg #[.int .i64 q0, .int .i64 t0, .slice A n cp], .int .i64 ch]) (by simp [results, Try.results14, go_sem, z3, g0, g1, g2]) rfl ⟨⟨_, _, _, _, _, rfl, fun h => absurd h hc⟩, ?_⟩
    exact Below.setCell (Below.setCell (Below.setCell hbB (by simp; omega) _) (by simp; omega) _) (by simp; omega) _
  case pos =>
    rw [hc] at PC
    by_cases h1 : q ≤ q0
    · have fl := fl_seq (t0 := t0) (ss := ss) hc h1
      unfold Folls
      rw [fl]
      clear fl
      go_enter Try.func14, Try.ntmps14
      go_wp2_with fail
      refine (PC.out _).mono ?_
      rintro e w1 ⟨rfl, hb1⟩
      obtain ⟨K1, K2, K3⟩ := kept3 hb1
      have z1 := blk_lt K1
      have z2 := blk_lt K2
      have z3 := blk_lt K3
      obtain ⟨c0, c1, c2, f0, f1, f2⟩ := blk3 K1
      obtain ⟨d0, d1, d2, d3, d4, d5, d6⟩ := blk7 K2
      obtain ⟨g0, g1, g2, i0, i1, i2⟩ := blk3 K3
      have hbB : Below w.heap.size w w1 := hbA.trans (hb1.mono hbA.size)
      clear K1 K2 K3
      go_wp2_with fail
      refine bodyPost_ret (v := .tuple #[.agg #[.int .i64 q0, .int .i64 t0, .slice A n cp], .int .i64 1]) (by simp [results, Try.results14, go_sem, z3, g0, g1, g2]) rfl ⟨⟨_, _, _, _, _, rfl, fun h => absurd h (by decide)⟩, ?_⟩
      exact Below.setCell (Below.setCell (Below.setCell hbB (by simp; omega) _) (by simp; omega) _) (by simp; omega) _
    · by_cases h2 : t < t0
      · have fl := fl_time (ss := ss) hc h1 h2
        unfold Folls
        rw [fl]
        clear fl
        go_enter Try.func14, Try.ntmps14
        go_wp2_with fail
        refine (PC.out _).mono ?_
        rintro e w1 ⟨rfl, hb1⟩
        obtain ⟨K1, K2, K3⟩ := kept3 hb1
        have z1 := blk_lt K1
        have z2 := blk_lt K2
        have z3 := blk_lt K3
        obtain ⟨c0, c1, c2, f0, f1, f2⟩ := blk3 K1
        obtain ⟨d0, d1, d2, d3, d4, d5, d6⟩ := blk7 K2
        obtain ⟨g0, g1, g2, i0, i1, i2⟩ := blk3 K3
        have hbB : Below w.heap.size w w1 := hbA.trans (hb1.mono hbA.size)
        clear K1 K2 K3
        go_wp2_with fail
        refine bodyPost_ret (v := .tuple #[.agg #[.int .i64 q0, .int .i64 t0, .slice A n cp], .int .i64 5]) (by simp [results, Try.results14, go_sem, z3, g0, g1, g2]) rfl ⟨⟨_, _, _, _, _, rfl, fun h => absurd h (by decide)⟩, ?_⟩
        exact Below.setCell (Below.setCell (Below.setCell hbB (by simp; omega) _) (by simp; omega) _) (by simp; omega) _
      · have hk : ∀ (w1 : World), w1.heap[w.heap.size]? = some (.cells #[.int .i64 q0, .int .i64 t0, .slice A n cp] 24) → True := fun _ _ => trivial
        clear hk
        by_cases h3 : plc s ss = 0
        · obtain ⟨fl, fl2⟩ := fl_new (q0 := q0) (t0 := t0) hc h1 h2 h3
          unfold Folls
          rw [fl, fl2]
          clear fl fl2 hq
          rw [h3] at PP
          clear h3 hc
          go_enter Try.func14, Try.ntmps14
          go_wp2_with fail
          refine (PC.out _).mono ?_
          rintro e w1 ⟨rfl, hb1⟩
          obtain ⟨K1, K2, K3⟩ := kept3 hb1
          have z1 := blk_lt K1
          have z2 := blk_lt K2
          have z3 := blk_lt K3
          obtain ⟨c0, c1, c2, f0, f1, f2⟩ := blk3 K1
          obtain ⟨d0, d1, d2, d3, d4, d5, d6⟩ := blk7 K2
          obtain ⟨g0, g1, g2, i0, i1, i2⟩ := blk3 K3
          have hbB : Below w.heap.size w w1 := hbA.trans (hb1.mono hbA.size)
          have HK := hid (And.intro K1 (And.intro K2 K3))
          clear K1 K2 K3
          go_wp2_with fail
          refine (PP.out _ hbB).mono ?_
          rintro e w2 ⟨rfl, hb2⟩
          have K1 := (hb2.block _ z1).trans HK.out.1
          have K2 := (hb2.block _ z2).trans HK.out.2.1
          have K3 := (hb2.block _ z3).trans HK.out.2.2
          clear c0 c1 c2 f0 f1 f2 d0 d1 d2 d3 d4 d5 d6 g0 g1 g2 i0 i1 i2 z1 z2 z3 HK
          have z1 := blk_lt K1
          have z2 := blk_lt K2
          have z3 := blk_lt K3
          obtain ⟨c0, c1, c2, f0, f1, f2⟩ := blk3 K1
          obtain ⟨d0, d1, d2, d3, d4, d5, d6⟩ := blk7 K2
          obtain ⟨g0, g1, g2, i0, i1, i2⟩ := blk3 K3
          have hbC : Below w.heap.size w w2 := hbB.trans (hb2.mono hbB.size)
          have HK := hid (And.intro K1 (And.intro K2 K3))
          clear K1 K2 K3 hb1 hb2 hbB
          go_wp2_with fail
          refine (PU.out _ hbC).mono ?_
          rintro e w3 ⟨⟨A3, m3, c3, rfl, hR3⟩, hb3⟩
          have K1 := (hb3.block _ z1).trans HK.out.1
          have K2 := (hb3.block _ z2).trans HK.out.2.1
          have K3 := (hb3.block _ z3).trans HK.out.2.2
          clear c0 c1 c2 f0 f1 f2 d0 d1 d2 d3 d4 d5 d6 g0 g1 g2 i0 i1 i2 z1 z2 z3 HK
          have z1 := blk_lt K1
          have z2 := blk_lt K2
          have z3 := blk_lt K3
          obtain ⟨c0, c1, c2, f0, f1, f2⟩ := blk3 K1
          obtain ⟨d0, d1, d2, d3, d4, d5, d6⟩ := blk7 K2
          obtain ⟨g0, g1, g2, i0, i1, i2⟩ := blk3 K3
          have hbD : Below w.heap.size w w3 := hbC.trans (hb3.mono hbC.size)
          have HR3 := hid ((hR3.sto K1 (Sto.cell w3 w.heap.size 2 (.slice A3 m3 c3))).sto ((Below.heap_setCell _ _ _ _ (by simp)).trans K3) (sto3 _ (w.heap.size + 1 + 1) (.int .i64 q) (.int .i64 t) (.slice A3 m3 c3)))
          clear K1 K2 K3 hb3 hbC hR3
          go_wp2_with fail
          refine bodyPost_ret (v := .tuple #[.agg #[.int .i64 q, .int .i64 t, .slice A3 m3 c3], .int .i64 (puE ss s)]) (by simp [results, Try.results14, go_sem, z3, g0, g1, g2]) rfl ⟨⟨_, _, _, _, _, rfl, fun _ => ⟨rfl, rfl, HR3.out⟩⟩, ?_⟩
          exact Below.setCell (Below.setCell (Below.setCell (Below.setCell hbD (by simp) _) (by simp; omega) _) (by simp; omega) _) (by simp; omega) _
        · obtain ⟨fl, fl2⟩ := fl_known (q0 := q0) (t0 := t0) hc h1 h2 h3
          unfold Folls
          rw [fl, fl2]
          clear fl fl2 hc
          generalize plc s ss = p at *
          have h3' : ¬ (p : Int) = 0 := by omega
          clear hq h3
          go_enter Try.func14, Try.ntmps14
          go_wp2_with fail
          refine (PC.out _).mono ?_
          rintro e w1 ⟨rfl, hb1⟩
          obtain ⟨K1, K2, K3⟩ := kept3 hb1
          have z1 := blk_lt K1
          have z2 := blk_lt K2
          have z3 := blk_lt K3
          obtain ⟨c0, c1, c2, f0, f1, f2⟩ := blk3 K1
          obtain ⟨d0, d1, d2, d3, d4, d5, d6⟩ := blk7 K2
          obtain ⟨g0, g1, g2, i0, i1, i2⟩ := blk3 K3
          have hbB : Below w.heap.size w w1 := hbA.trans (hb1.mono hbA.size)
          have HK := hid (And.intro K1 (And.intro K2 K3))
          clear K1 K2 K3
          go_wp2_with fail
          refine (PP.out _ hbB).mono ?_
          rintro e w2 ⟨rfl, hb2⟩
          have K1 := (hb2.block _ z1).trans HK.out.1
          have K2 := (hb2.block _ z2).trans HK.out.2.1
          have K3 := (hb2.block _ z3).trans HK.out.2.2
          clear c0 c1 c2 f0 f1 f2 d0 d1 d2 d3 d4 d5 d6 g0 g1 g2 i0 i1 i2 z1 z2 z3 HK
          have z1 := blk_lt K1
          have z2 := blk_lt K2
          have z3 := blk_lt K3
          obtain ⟨c0, c1, c2, f0, f1, f2⟩ := blk3 K1
          obtain ⟨d0, d1, d2, d3, d4, d5, d6⟩ := blk7 K2
          obtain ⟨g0, g1, g2, i0, i1, i2⟩ := blk3 K3
          have hbC : Below w.heap.size w w2 := hbB.trans (hb2.mono hbB.size)
          clear K1 K2 K3 hb1 hb2 hbB
          go_wp2_with fail
          refine bodyPost_ret (v := .tuple #[.agg #[.int .i64 q, .int .i64 t, .slice A n cp], .int .i64 0]) (by simp [results, Try.results14, go_sem, z3, g0, g1, g2]) rfl ⟨⟨_, _, _, _, _, rfl, fun _ => ⟨rfl, rfl, HR.out _ (Below.setCell (Below.setCell (Below.setCell hbC (by simp; omega) _) (by simp; omega) _) (by simp; omega) _)⟩⟩, ?_⟩
          exact Below.setCell (Below.setCell (Below.setCell hbC (by simp; omega) _) (by simp; omega) _) (by simp; omega) _
end Go.Proofs.Ytgijhfdlecdijaa
