/- Texts laid together: Codec1, Codec2, Codec3. -/
import Derived.Test.YtondnbnaoacanaaGreatDoorCa
import Derived.Test.YtondnbnaoacanaaGreatDoorEb
import Derived.Test.YtondnbnaoacanaaGreatDoorNb
import Derived.Test.YtondnbnaoacanaaGreatDoorBase
/- Layer 7: contracts of codec: within, Right, follow. -/
namespace Go.Proofs.YtondnbnaoacanaaGreatDoor
open Go.ChangeShapes Go.WideShapes Go.ChangeAt Go.RowKit Fb Go.Maps

theorem cw_any (n most : Int) (w : World) :
    Calls Tryz.prog 42 #[.int .i64 n, .int .i64 most] w fun e w' => e = .returned (.bool (decide (0 ≤ n ∧ n ≤ most))) ∧ w = w' := by
  by_cases h1 : 0 ≤ n <;> by_cases h2 : n ≤ most
  all_goals
    go_enter Tryz.func42, Tryz.ntmps42
    go_wp2
    go_ret
    exact ⟨ret_bool (by simp [h1, h2]), rfl⟩

set_option maxHeartbeats 2000000 in
theorem CRight_any (q0 t0 : Int) {A : Option Addr} {n cp B : Nat} {ss : List ByteArray} (hz : Ok9 ss) {w : World} (hS : Sl w B A n (st9 ss)) (hB : B ≤ w.heap.size) :
    Calls Tryz.prog 26 #[.agg #[.int .i64 q0, .int .i64 t0, .slice A n cp]] w fun e w' => e = .returned (.bool (rcB q0 t0 ss)) ∧ Below w.heap.size w w' := by
  have PQ := hid (cw_any q0 4294967296)
  have PT := hid (cw_any t0 1099511627776)
  have PR := hid (fun (w1 : World) (h : Below w.heap.size w w1) => Right_any (cap := cp) hz (hS.below (h.mono hB)) (Nat.le_trans hB h.size))
  have hbA : Below w.heap.size w (w.alloc (.cells #[.int .i64 q0, .int .i64 t0, .slice A n cp] 24)) := (Below.refl _ _).alloc (Nat.le_refl _) _
  clear hS hz
  cases h1 : decide (0 ≤ q0 ∧ q0 ≤ 4294967296) with
  | false =>
    rw [h1] at PQ
    have e : rcB q0 t0 ss = false := by unfold rcB; rw [h1]; rfl
    rw [e]
    go_enter Tryz.func26, Tryz.ntmps26
    go_wp2_with fail
    refine (PQ.out _).mono ?_
    rintro e w1 ⟨rfl, rfl⟩
    go_wp2_with fail
    go_ret
    exact ⟨rfl, hbA⟩
  | true =>
    rw [h1] at PQ
    cases h2 : decide (0 ≤ t0 ∧ t0 ≤ 1099511627776) with
    | false =>
      rw [h2] at PT
      have e : rcB q0 t0 ss = false := by unfold rcB; rw [h1, h2]; rfl
      rw [e]
      go_enter Tryz.func26, Tryz.ntmps26
      go_wp2_with fail
      refine (PQ.out _).mono ?_
      rintro e w1 ⟨rfl, rfl⟩
      go_wp2_with fail
      refine (PT.out _).mono ?_
      rintro e w1 ⟨rfl, rfl⟩
      go_wp2_with fail
      go_ret
      exact ⟨rfl, hbA⟩
    | true =>
      rw [h2] at PT
      have e : rcB q0 t0 ss = rgB ss := by unfold rcB; rw [h1, h2]; rfl
      rw [e]
      go_enter Tryz.func26, Tryz.ntmps26
      go_wp2_with fail
      refine (PQ.out _).mono ?_
      rintro e w1 ⟨rfl, rfl⟩
      go_wp2_with fail
      refine (PT.out _).mono ?_
      rintro e w1 ⟨rfl, rfl⟩
      go_wp2_with fail
      refine (PR.out _ hbA).mono ?_
      rintro e w1 ⟨rfl, hb1⟩
      go_wp2_with fail
      go_ret
      exact ⟨rfl, hbA.trans (hb1.mono hbA.size)⟩

theorem fl_ch {q0 t0 : Int} {ss : List ByteArray} {q t k a b d : Int} {s : ByteArray} (h : chI q t k s a b d ≠ 0) : flE q0 t0 ss ⟨q, t, k, s, a, b, d⟩ = chI q t k s a b d := by unfold flE; rw [if_neg h]
theorem fl_seq {q0 t0 : Int} {ss : List ByteArray} {q t k a b d : Int} {s : ByteArray} (h : chI q t k s a b d = 0) (h1 : q ≤ q0) : flE q0 t0 ss ⟨q, t, k, s, a, b, d⟩ = 1 := by unfold flE; rw [if_pos h, if_pos h1]
theorem fl_time {q0 t0 : Int} {ss : List ByteArray} {q t k a b d : Int} {s : ByteArray} (h : chI q t k s a b d = 0) (h1 : ¬ q ≤ q0) (h2 : t < t0) : flE q0 t0 ss ⟨q, t, k, s, a, b, d⟩ = 5 := by unfold flE; rw [if_pos h, if_neg h1, if_pos h2]
theorem fl_known {q0 t0 : Int} {ss : List ByteArray} {q t k a b d : Int} {s : ByteArray} (h : chI q t k s a b d = 0) (h1 : ¬ q ≤ q0) (h2 : ¬ t < t0) (h3 : plc s ss ≠ 0) : flE q0 t0 ss ⟨q, t, k, s, a, b, d⟩ = 0 ∧ flL ss ⟨q, t, k, s, a, b, d⟩ = ss := by
  unfold flE flL; rw [if_pos h, if_neg h1, if_neg h2, if_neg h3, if_neg h3]; exact ⟨rfl, rfl⟩
theorem fl_new {q0 t0 : Int} {ss : List ByteArray} {q t k a b d : Int} {s : ByteArray} (h : chI q t k s a b d = 0) (h1 : ¬ q ≤ q0) (h2 : ¬ t < t0) (h3 : plc s ss = 0) : flE q0 t0 ss ⟨q, t, k, s, a, b, d⟩ = puE ss s ∧ flL ss ⟨q, t, k, s, a, b, d⟩ = puL ss s := by
  unfold flE flL; rw [if_pos h, if_neg h1, if_neg h2, if_pos h3, if_pos h3]; exact ⟨rfl, rfl⟩

/-- a list of names doesn't lie where what was ahead lies -/
theorem Rs.sto {w w' : World} {A : Option Addr} {n cp g : Nat} {ss : List ByteArray} {t : TypeId} {a b : Int} {X : Option Addr} {y z : Nat} (h : Rs w A n cp ss) (K : w.heap[g]? = some (.cells #[.int .i64 a, .int .i64 b, .slice X y z] t (0, 0))) (S : Sto g w w') : Rs w' A n cp ss := by
  refine ⟨?_, h.2⟩
  rw [S.size]
  refine S.sl h.1 fun hn ad hA e => ?_
  obtain ⟨b0, o, u, hA2, -, hu, hc⟩ := h.1.get hn
  rw [hA] at hA2
  obtain rfl := Option.some.inj hA2
  simp only at e
  subst e
  rw [cell_of_row w b0 (o + 0) _ t (0, 0) K] at hc
  have hx := st9_at hu
  subst hx
  rcases (show o = 0 ∨ o = 1 ∨ o = 2 ∨ 3 ≤ o by omega) with rfl | rfl | rfl | ho
  · cases hc
  · cases hc
  · cases hc
  · rw [Nat.add_zero, Array.getElem?_eq_none (by simpa using ho)] at hc
    cases hc
/-- what stands behind an event, and why not -/
def Folls (w : World) (q0 t0 : Int) (ss : List ByteArray) (x : Ev) (e : Ending) (w' : World) : Prop :=
  (∃ (q1 t1 : Int) (A1 : Option Addr) (m1 c1 : Nat), e = .returned (.tuple #[.agg #[.int .i64 q1, .int .i64 t1, .slice A1 m1 c1], .int .i64 (flE q0 t0 ss x)]) ∧ (flE q0 t0 ss x = 0 → q1 = x.q ∧ t1 = x.t ∧ Rs w' A1 m1 c1 (flL ss x))) ∧ Below w.heap.size w w'

set_option maxRecDepth 100000 in
set_option maxHeartbeats 8000000 in
theorem follow_any (q0 t0 : Int) {A : Option Addr} {n cp : Nat} {ss : List ByteArray} (hz : Ok9 ss) (q t k a b d : Int) {s : ByteArray} (hs : s.size ≤ maxLen) {w : World} (hR : Rs w A n cp ss) :
    Calls Tryz.prog 49 #[.agg #[.int .i64 q0, .int .i64 t0, .slice A n cp], .agg #[.int .i64 q, .int .i64 t, .int .i64 k, .string s, .int .i64 a, .int .i64 b, .int .i64 d]] w (Folls w q0 t0 ss ⟨q, t, k, s, a, b, d⟩) := by
  have PC := hid (Check_any q t k s a b d)
  have PP := hid (fun (w1 : World) (h : Below w.heap.size w w1) => Place_any (cap := cp) hz hs (hR.below h).1 (Nat.le_refl _))
  have PU := hid (fun (w1 : World) (h : Below w.heap.size w w1) => Put_any (cap := cp) hz hs (hR.below h).1 (Nat.le_refl _) hR.2.2.2)
  have HR := hid (fun (w1 : World) (h : Below w.heap.size w w1) => hR.below h)
  have hbA : Below w.heap.size w (((w.alloc (.cells #[.int .i64 q0, .int .i64 t0, .slice A n cp] 24)).alloc (.cells #[.int .i64 q, .int .i64 t, .int .i64 k, .string s, .int .i64 a, .int .i64 b, .int .i64 d] 41)).alloc (.cells #[.int .i64 0, .int .i64 0, .slice none 0 0] 24)) := (((Below.refl _ _).alloc (Nat.le_refl _) _).alloc (by simp) _).alloc (by simp; omega) _
  have hq := plc_le s ss
  clear hR hz
  by_cases hc : chI q t k s a b d = 0
  case neg =>
    have fl := fl_ch (q0 := q0) (t0 := t0) (ss := ss) hc
    unfold Folls
    rw [fl]
    clear fl
    generalize chI q t k s a b d = ch at *
    go_enter Tryz.func49, Tryz.ntmps49
    go_wp2_with fail
    refine (PC.out _).mono ?_
    rintro e w1 ⟨rfl, hb1⟩
    obtain ⟨K1, K2, K3⟩ := kept3 hb1
    have z1 := blk_lt K1
    have z2 := blk_lt K2
    have z3 := blk_lt K3
    obtain ⟨c0, c1, c2, f0, f1, f2⟩ := blk3 K1
    obtain ⟨g0, g1, g2, i0, i1, i2⟩ := blk3 K3
    have hbB := hbA.trans (hb1.mono hbA.size)
    clear K1 K2 K3
    go_wp2_with fail
    refine bodyPost_ret (v := .tuple #[.agg #[.int .i64 q0, .int .i64 t0, .slice A n cp], .int .i64 ch]) (by simp [results, Tryz.results49, go_sem, g0, g1, g2]) rfl ⟨⟨_, _, _, _, _, rfl, fun h => absurd h hc⟩, ?_⟩
    exact Below.setCell (Below.setCell (Below.setCell hbB (by simp; omega) _) (by simp; omega) _) (by simp; omega) _
  case pos =>
    rw [hc] at PC
    by_cases h1 : q ≤ q0
    · have fl := fl_seq (t0 := t0) (ss := ss) hc h1
      unfold Folls
      rw [fl]
      clear fl
      go_enter Tryz.func49, Tryz.ntmps49
      go_wp2_with fail
      refine (PC.out _).mono ?_
      rintro e w1 ⟨rfl, hb1⟩
      obtain ⟨K1, K2, K3⟩ := kept3 hb1
      have z1 := blk_lt K1
      have z2 := blk_lt K2
      have z3 := blk_lt K3
      obtain ⟨c0, c1, c2, f0, f1, f2⟩ := blk3 K1
      obtain ⟨d0, d1, d2, d3, d4, d5, d6⟩ := blk7 K2
      obtain ⟨g0, g1, g2, i0, i1, i2⟩ := blk3 K3
      have hbB : Below w.heap.size w w1 := hbA.trans (hb1.mono hbA.size)
      clear K1 K2 K3
      go_wp2_with fail
      refine bodyPost_ret (v := .tuple #[.agg #[.int .i64 q0, .int .i64 t0, .slice A n cp], .int .i64 1]) (by simp [results, Tryz.results49, go_sem, g0, g1, g2]) rfl ⟨⟨_, _, _, _, _, rfl, fun h => absurd h (by decide)⟩, ?_⟩
      exact Below.setCell (Below.setCell (Below.setCell hbB (by simp; omega) _) (by simp; omega) _) (by simp; omega) _
    · by_cases h2 : t < t0
      · have fl := fl_time (ss := ss) hc h1 h2
        unfold Folls
        rw [fl]
        clear fl
        go_enter Tryz.func49, Tryz.ntmps49
        go_wp2_with fail
        refine (PC.out _).mono ?_
        rintro e w1 ⟨rfl, hb1⟩
        obtain ⟨K1, K2, K3⟩ := kept3 hb1
        have z1 := blk_lt K1
        have z2 := blk_lt K2
        have z3 := blk_lt K3
        obtain ⟨c0, c1, c2, f0, f1, f2⟩ := blk3 K1
        obtain ⟨d0, d1, d2, d3, d4, d5, d6⟩ := blk7 K2
        obtain ⟨g0, g1, g2, i0, i1, i2⟩ := blk3 K3
        have hbB : Below w.heap.size w w1 := hbA.trans (hb1.mono hbA.size)
        clear K1 K2 K3
        go_wp2_with fail
        refine bodyPost_ret (v := .tuple #[.agg #[.int .i64 q0, .int .i64 t0, .slice A n cp], .int .i64 5]) (by simp [results, Tryz.results49, go_sem, g0, g1, g2]) rfl ⟨⟨_, _, _, _, _, rfl, fun h => absurd h (by decide)⟩, ?_⟩
        exact Below.setCell (Below.setCell (Below.setCell hbB (by simp; omega) _) (by simp; omega) _) (by simp; omega) _
      · have hk : ∀ (w1 : World), w1.heap[w.heap.size]? = some (.cells #[.int .i64 q0, .int .i64 t0, .slice A n cp] 24) → True := fun _ _ => trivial
        clear hk
        by_cases h3 : plc s ss = 0
        · obtain ⟨fl, fl2⟩ := fl_new (q0 := q0) (t0 := t0) hc h1 h2 h3
          unfold Folls
          rw [fl, fl2]
          clear fl fl2 hq
          rw [h3] at PP
          clear h3 hc
          go_enter Tryz.func49, Tryz.ntmps49
          go_wp2_with fail
          refine (PC.out _).mono ?_
          rintro e w1 ⟨rfl, hb1⟩
          obtain ⟨K1, K2, K3⟩ := kept3 hb1
          have z1 := blk_lt K1
          have z2 := blk_lt K2
          have z3 := blk_lt K3
          obtain ⟨c0, c1, c2, f0, f1, f2⟩ := blk3 K1
          obtain ⟨d0, d1, d2, d3, d4, d5, d6⟩ := blk7 K2
          obtain ⟨g0, g1, g2, i0, i1, i2⟩ := blk3 K3
          have hbB : Below w.heap.size w w1 := hbA.trans (hb1.mono hbA.size)
          have HK := hid (And.intro K1 (And.intro K2 K3))
          clear K1 K2 K3
          go_wp2_with fail
          refine (PP.out _ hbB).mono ?_
          rintro e w2 ⟨rfl, hb2⟩
          have K1 := (hb2.block _ z1).trans HK.out.1
          have K2 := (hb2.block _ z2).trans HK.out.2.1
          have K3 := (hb2.block _ z3).trans HK.out.2.2
          clear c0 c1 c2 f0 f1 f2 d0 d1 d2 d3 d4 d5 d6 g0 g1 g2 i0 i1 i2 z1 z2 z3 HK
          have z1 := blk_lt K1
          have z2 := blk_lt K2
          have z3 := blk_lt K3
          obtain ⟨c0, c1, c2, f0, f1, f2⟩ := blk3 K1
          obtain ⟨d0, d1, d2, d3, d4, d5, d6⟩ := blk7 K2
          obtain ⟨g0, g1, g2, i0, i1, i2⟩ := blk3 K3
          have hbC : Below w.heap.size w w2 := hbB.trans (hb2.mono hbB.size)
          have HK := hid (And.intro K1 (And.intro K2 K3))
          clear K1 K2 K3 hb1 hb2 hbB
          go_wp2_with fail
          refine (PU.out _ hbC).mono ?_
          rintro e w3 ⟨⟨A3, m3, c3, rfl, hR3⟩, hb3⟩
          have K1 := (hb3.block _ z1).trans HK.out.1
          have K2 := (hb3.block _ z2).trans HK.out.2.1
          have K3 := (hb3.block _ z3).trans HK.out.2.2
          clear c0 c1 c2 f0 f1 f2 d0 d1 d2 d3 d4 d5 d6 g0 g1 g2 i0 i1 i2 z1 z2 z3 HK
          have z1 := blk_lt K1
          have z2 := blk_lt K2
          have z3 := blk_lt K3
          obtain ⟨c0, c1, c2, f0, f1, f2⟩ := blk3 K1
          obtain ⟨d0, d1, d2, d3, d4, d5, d6⟩ := blk7 K2
          obtain ⟨g0, g1, g2, i0, i1, i2⟩ := blk3 K3
          have hbD : Below w.heap.size w w3 := hbC.trans (hb3.mono hbC.size)
          have HR3 := hid ((hR3.sto K1 (Sto.cell w3 w.heap.size 2 (.slice A3 m3 c3))).sto ((Below.heap_setCell _ _ _ _ (by simp)).trans K3) (sto3 _ (w.heap.size + 1 + 1) (.int .i64 q) (.int .i64 t) (.slice A3 m3 c3)))
          clear K1 K2 K3 hb3 hbC hR3
          go_wp2_with fail
          refine bodyPost_ret (v := .tuple #[.agg #[.int .i64 q, .int .i64 t, .slice A3 m3 c3], .int .i64 (puE ss s)]) (by simp [results, Tryz.results49, go_sem, g0, g1, g2]) rfl ⟨⟨_, _, _, _, _, rfl, fun _ => ⟨rfl, rfl, HR3.out⟩⟩, ?_⟩
          exact Below.setCell (Below.setCell (Below.setCell (Below.setCell hbD (by simp) _) (by simp; omega) _) (by simp; omega) _) (by simp; omega) _
        · obtain ⟨fl, fl2⟩ := fl_known (q0 := q0) (t0 := t0) hc h1 h2 h3
          unfold Folls
          rw [fl, fl2]
          clear fl fl2 hc
          generalize plc s ss = p at *
          have h3' : ¬ (p : Int) = 0 := by omega
          clear hq h3
          go_enter Tryz.func49, Tryz.ntmps49
          go_wp2_with fail
          refine (PC.out _).mono ?_
          rintro e w1 ⟨rfl, hb1⟩
          obtain ⟨K1, K2, K3⟩ := kept3 hb1
          have z1 := blk_lt K1
          have z2 := blk_lt K2
          have z3 := blk_lt K3
          obtain ⟨c0, c1, c2, f0, f1, f2⟩ := blk3 K1
          obtain ⟨d0, d1, d2, d3, d4, d5, d6⟩ := blk7 K2
          obtain ⟨g0, g1, g2, i0, i1, i2⟩ := blk3 K3
          have hbB : Below w.heap.size w w1 := hbA.trans (hb1.mono hbA.size)
          have HK := hid (And.intro K1 (And.intro K2 K3))
          clear K1 K2 K3
          go_wp2_with fail
          refine (PP.out _ hbB).mono ?_
          rintro e w2 ⟨rfl, hb2⟩
          have K1 := (hb2.block _ z1).trans HK.out.1
          have K2 := (hb2.block _ z2).trans HK.out.2.1
          have K3 := (hb2.block _ z3).trans HK.out.2.2
          clear c0 c1 c2 f0 f1 f2 d0 d1 d2 d3 d4 d5 d6 g0 g1 g2 i0 i1 i2 z1 z2 z3 HK
          have z1 := blk_lt K1
          have z2 := blk_lt K2
          have z3 := blk_lt K3
          obtain ⟨c0, c1, c2, f0, f1, f2⟩ := blk3 K1
          obtain ⟨d0, d1, d2, d3, d4, d5, d6⟩ := blk7 K2
          obtain ⟨g0, g1, g2, i0, i1, i2⟩ := blk3 K3
          have hbC : Below w.heap.size w w2 := hbB.trans (hb2.mono hbB.size)
          clear K1 K2 K3 hb1 hb2 hbB
          go_wp2_with fail
          refine bodyPost_ret (v := .tuple #[.agg #[.int .i64 q, .int .i64 t, .slice A n cp], .int .i64 0]) (by simp [results, Tryz.results49, go_sem, g0, g1, g2]) rfl ⟨⟨_, _, _, _, _, rfl, fun _ => ⟨rfl, rfl, HR.out _ (Below.setCell (Below.setCell (Below.setCell hbC (by simp; omega) _) (by simp; omega) _) (by simp; omega) _)⟩⟩, ?_⟩
          exact Below.setCell (Below.setCell (Below.setCell hbC (by simp; omega) _) (by simp; omega) _) (by simp; omega) _
end Go.Proofs.YtondnbnaoacanaaGreatDoor
/- Layer 7: contract of codec: spell. -/
namespace Go.Proofs.YtondnbnaoacanaaGreatDoor
open Go.ChangeShapes Go.WideShapes Go.ChangeAt Go.RowKit Fb Go.Maps

/-- bytes are handed back -/
def Put8 (w : World) (zs : List Int) (e : Ending) (w' : World) : Prop := (∃ (A : Option Addr) (n c : Nat), e = .returned (.slice A n c) ∧ Rw w' A n c zs) ∧ Below w.heap.size w w'
theorem Puts.put8 {w w' : World} {zs : List Int} {e : Ending} (h : Puts w.heap.size w zs e w') : Put8 w zs e w' := by
  obtain ⟨⟨v, rfl, hown⟩, hb⟩ := h
  obtain ⟨A, c, rfl, h1, -⟩ := own_rw hown
  exact ⟨⟨A, _, c, rfl, h1⟩, hb⟩
theorem PutU {A : Option Addr} {n c m : Nat} {zs : List Int} {w : World} (hR : Rw w A n c zs) (hn : zs.length ≤ 100000) (hm : m < 18446744073709551616) :
    Calls Tryz.prog 46 #[.slice A n c, .int .u64 m] w (Put8 w (zs ++ leb m)) := (PutUint_any hR.1 hR.2.2.2 hn hm).mono fun _ _ h => h.put8
theorem PutT {A : Option Addr} {n c : Nat} {zs : List Int} {w : World} (hR : Rw w A n c zs) (hn : zs.length ≤ 100000) (s : ByteArray) (hs : s.size ≤ 100000) :
    Calls Tryz.prog 71 #[.slice A n c, .string s] w (Put8 w (zs ++ (leb s.size ++ sI s))) := (PutText_any hR.1 hR.2.2.2 hn s hs).mono fun _ _ h => h.put8
theorem RPutU {A : Option Addr} {n c m : Nat} {zs : List Int} {w : World} (hR : Rw w A n c zs) (hn : zs.length ≤ 100000) (hm : m < 18446744073709551616) :
    Calls Tryz.prog 29 #[.slice A n c, .int .u64 m] w (Put8 w (zs ++ leb m)) := (RPutUint_any hR.1 hR.2.2.2 hn hm).mono fun _ _ h => h.put8
theorem RPutT {A : Option Addr} {n c : Nat} {zs : List Int} {w : World} (hR : Rw w A n c zs) (hn : zs.length ≤ 100000) (s : ByteArray) (hs : s.size ≤ 100000) :
    Calls Tryz.prog 52 #[.slice A n c, .string s] w (Put8 w (zs ++ (leb s.size ++ sI s))) := (RPutText_any hR.1 hR.2.2.2 hn s hs).mono fun _ _ h => h.put8
theorem Rw.len {w : World} {A : Option Addr} {n c : Nat} {zs : List Int} (h : Rw w A n c zs) : n = zs.length := by have := h.1.len; rw [by8_len] at this; exact this.symm
/-- one number more -/
theorem lebs_next {L : List Int} {j : Nat} {v : Int} (h : L[j]? = some v) (H : List Int) : (H ++ lebs (L.take j)) ++ leb v.toNat = H ++ lebs (L.take (j + 1)) := by
  have hlt : j < L.length := by
    rcases Nat.lt_or_ge j L.length with h1 | h1
    · exact h1
    · rw [List.getElem?_eq_none h1] at h; cases h
  have hx : L[j] = v := by rw [List.getElem?_eq_getElem hlt] at h; exact Option.some.inj h
  rw [List.take_succ_eq_append_getElem hlt, hx, lebs_app, lebs_one, List.append_assoc]
theorem lebs_take_len {L : List Int} (hL : ∀ n ∈ L, 0 ≤ n ∧ n ≤ 2147483647) (h3 : L.length ≤ 3) (j : Nat) : (lebs (L.take j)).length ≤ 15 := by
  have := lebs_len (L.take j) (fun n hn => hL n (List.mem_of_mem_take hn))
  have : (L.take j).length ≤ 3 := by rw [List.length_take]; omega
  omega

set_option maxRecDepth 100000 in
set_option maxHeartbeats 8000000 in
theorem spell_any (q0 t0 : Int) {A : Option Addr} {n cp : Nat} {ss : List ByteArray} (hz : Ok9 ss) (q t k a b d : Int) {s : ByteArray} (ok : Okk q0 t0 ss ⟨q, t, k, s, a, b, d⟩) {w : World} (hR : Rs w A n cp ss) :
    Calls Tryz.prog 50 #[.agg #[.int .i64 q0, .int .i64 t0, .slice A n cp], .agg #[.int .i64 q, .int .i64 t, .int .i64 k, .string s, .int .i64 a, .int .i64 b, .int .i64 d]] w (Put8 w (spB q0 t0 ss ⟨q, t, k, s, a, b, d⟩)) := by
  have hs := nm_size ok.nm
  simp only at hs
  have PP := hid (fun (w1 : World) (h : Below w.heap.size w w1) => Place_any (cap := cp) hz (s := s) (by unfold maxLen; omega) (hR.below h).1 (Nat.le_refl _))
  have PN := hid (Numbers_any q t k s a b d)
  have HH4 : Hid ((((([] ++ leb k.toNat) ++ leb (q - q0).toNat) ++ leb (t - t0).toNat) ++ leb (plc s ss)) = h4 q0 t0 ss ⟨q, t, k, s, a, b, d⟩) := rfl
  have HSP : Hid (spB q0 t0 ss ⟨q, t, k, s, a, b, d⟩ = (h4 q0 t0 ss ⟨q, t, k, s, a, b, d⟩ ++ tx ss ⟨q, t, k, s, a, b, d⟩) ++ lebs ([a, b, d].take (mnI k).toNat)) := rfl
  have HTX : Hid ((plc s ss = 0 → tx ss ⟨q, t, k, s, a, b, d⟩ = leb s.size ++ sI s) ∧ (plc s ss ≠ 0 → tx ss ⟨q, t, k, s, a, b, d⟩ = [])) := hid ⟨fun h => if_pos h, fun h => if_neg h⟩
  have HL := hid (nm_in ok.vl)
  have HLL := hid (nm_len ⟨q, t, k, s, a, b, d⟩)
  unfold nmL at HL HLL
  simp only at HL HLL
  have H13 := hid (sp_len ok).1
  have HTL : Hid ((h4 q0 t0 ss ⟨q, t, k, s, a, b, d⟩ ++ tx ss ⟨q, t, k, s, a, b, d⟩).length ≤ 1000) := by
    have h1 := (sp_len ok).2.2.2.1
    unfold spB at h1
    rw [List.length_append] at h1
    show _ ≤ _
    omega
  have LN : Hid (([] ++ leb k.toNat).length ≤ 100000 ∧ (([] ++ leb k.toNat) ++ leb (q - q0).toNat).length ≤ 100000 ∧ ((([] ++ leb k.toNat) ++ leb (q - q0).toNat) ++ leb (t - t0).toNat).length ≤ 100000) := by
    have h1 := (sp_len ok).1
    unfold h4 at h1
    simp only [List.length_append] at h1
    refine ⟨?_, ?_, ?_⟩ <;> simp only [List.length_append] <;> omega
  have hm3 := mn_le k
  have k1 := ok.k1
  have k2 := ok.k2
  have q1 := ok.q
  have q2 := ok.q2
  have t1 := ok.t
  have t2 := ok.t2
  have q3 := ok.q0
  have t3 := ok.t0
  simp only at k1 k2 q1 q2 t1 t2
  have hpl : plc s ss ≤ 32 := Nat.le_trans (plc_le s ss) ((rgB_iff ss).1 ok.rg).1
  obtain ⟨K, hK⟩ : ∃ K : Nat, k.toNat = K := ⟨_, rfl⟩
  obtain ⟨DQ, hDQ⟩ : ∃ K : Nat, (q - q0).toNat = K := ⟨_, rfl⟩
  obtain ⟨DT, hDT⟩ : ∃ K : Nat, (t - t0).toNat = K := ⟨_, rfl⟩
  rw [hK, hDQ, hDT] at HH4 LN
  have w1 : IntKind.u64.wrap k = (K : Int) := by rw [u64_in _ (by omega) (by omega)]; omega
  have w2 : IntKind.u64.wrap (q - q0) = (DQ : Int) := by rw [u64_in _ (by omega) (by omega)]; omega
  have w3 : IntKind.u64.wrap (t - t0) = (DT : Int) := by rw [u64_in _ (by omega) (by omega)]; omega
  have w4 : IntKind.u64.wrap (plc s ss : Nat) = ((plc s ss : Nat) : Int) := u64_in _ (by omega) (by omega)
  have hKm : Hid (K < 18446744073709551616 ∧ DQ < 18446744073709551616 ∧ DT < 18446744073709551616 ∧ plc s ss < 18446744073709551616) := by refine ⟨?_, ?_, ?_, ?_⟩ <;> omega
  have hbA : Below w.heap.size w ((w.alloc (.cells #[.int .i64 q0, .int .i64 t0, .slice A n cp] 24)).alloc (.cells #[.int .i64 q, .int .i64 t, .int .i64 k, .string s, .int .i64 a, .int .i64 b, .int .i64 d] 41)) := ((Below.refl _ _).alloc (Nat.le_refl _) _).alloc (by simp) _
  clear hR hz ok hK hDQ hDT
  generalize spB q0 t0 ss ⟨q, t, k, s, a, b, d⟩ = SP at *
  generalize h4 q0 t0 ss ⟨q, t, k, s, a, b, d⟩ = H4 at *
  generalize tx ss ⟨q, t, k, s, a, b, d⟩ = TX at *
  generalize [a, b, d].take (mnI k).toNat = L at *
  generalize plc s ss = p at *
  obtain ⟨m, hm⟩ : ∃ m : Nat, (mnI k).toNat = m := ⟨_, rfl⟩
  rw [hm] at PN HLL
  have hm3' : m ≤ 3 := by omega
  clear hm hm3
  go_enter Tryz.func50, Tryz.ntmps50
  go_wp2_with fail
  refine (PP.out _ hbA).mono ?_
  rintro e wa ⟨rfl, hb1⟩
  have hbwa : Below w.heap.size w wa := hbA.trans (hb1.mono hbA.size)
  obtain ⟨K1, K2⟩ := kept2 hb1
  have z1 := blk_lt K1
  obtain ⟨u10, u11, u12, f10, f11, f12⟩ := blk3 K1
  have z2 := blk_lt K2
  obtain ⟨u20, u21, u22, u23, u24, u25, u26⟩ := blk7 K2
  have HK := hid (And.intro K1 (K2))
  clear K1 K2
  go_wp2_with fail
  refine (PutU (m := K) (Rw.nil _) (by simp) hKm.out.1).mono ?_
  rintro e wb ⟨⟨A1, n1, c1, rfl, hR1⟩, hb2⟩
  have hbwb : Below w.heap.size w wb := hbwa.trans (hb2.mono hbwa.size)
  have K1 := (hb2.block _ z1).trans HK.out.1
  have K2 := (hb2.block _ z2).trans HK.out.2
  clear z1 u10 u11 u12 f10 f11 f12 z2 u20 u21 u22 u23 u24 u25 u26 HK
  have z1 := blk_lt K1
  obtain ⟨u10, u11, u12, f10, f11, f12⟩ := blk3 K1
  have z2 := blk_lt K2
  obtain ⟨u20, u21, u22, u23, u24, u25, u26⟩ := blk7 K2
  have HK := hid (And.intro K1 (K2))
  clear K1 K2
  have HR1 := hid hR1
  clear hR1
  go_wp2_with fail
  refine (PutU (m := DQ) HR1.out LN.out.1 hKm.out.2.1).mono ?_
  rintro e wc ⟨⟨A2, n2, c2, rfl, hR2⟩, hb3⟩
  have hbwc : Below w.heap.size w wc := hbwb.trans (hb3.mono hbwb.size)
  have K1 := (hb3.block _ z1).trans HK.out.1
  have K2 := (hb3.block _ z2).trans HK.out.2
  clear z1 u10 u11 u12 f10 f11 f12 z2 u20 u21 u22 u23 u24 u25 u26 HK
  have z1 := blk_lt K1
  obtain ⟨u10, u11, u12, f10, f11, f12⟩ := blk3 K1
  have z2 := blk_lt K2
  obtain ⟨u20, u21, u22, u23, u24, u25, u26⟩ := blk7 K2
  have HK := hid (And.intro K1 (K2))
  clear K1 K2
  have HR2 := hid hR2
  clear hR2
  go_wp2_with fail
  refine (PutU (m := DT) HR2.out LN.out.2.1 hKm.out.2.2.1).mono ?_
  rintro e wd ⟨⟨A3, n3, c3, rfl, hR3⟩, hb4⟩
  have hbwd : Below w.heap.size w wd := hbwc.trans (hb4.mono hbwc.size)
  have K1 := (hb4.block _ z1).trans HK.out.1
  have K2 := (hb4.block _ z2).trans HK.out.2
  clear z1 u10 u11 u12 f10 f11 f12 z2 u20 u21 u22 u23 u24 u25 u26 HK
  have z1 := blk_lt K1
  obtain ⟨u10, u11, u12, f10, f11, f12⟩ := blk3 K1
  have z2 := blk_lt K2
  obtain ⟨u20, u21, u22, u23, u24, u25, u26⟩ := blk7 K2
  have HK := hid (And.intro K1 (K2))
  clear K1 K2
  have HR3 := hid hR3
  clear hR3
  go_wp2_with fail
  refine (PutU (m := p) HR3.out LN.out.2.2 hKm.out.2.2.2).mono ?_
  rintro e we ⟨⟨A4, n4, c4, rfl, hR4⟩, hb5⟩
  have hbwe : Below w.heap.size w we := hbwd.trans (hb5.mono hbwd.size)
  have K1 := (hb5.block _ z1).trans HK.out.1
  have K2 := (hb5.block _ z2).trans HK.out.2
  clear z1 u10 u11 u12 f10 f11 f12 z2 u20 u21 u22 u23 u24 u25 u26 HK
  have z1 := blk_lt K1
  obtain ⟨u10, u11, u12, f10, f11, f12⟩ := blk3 K1
  have z2 := blk_lt K2
  obtain ⟨u20, u21, u22, u23, u24, u25, u26⟩ := blk7 K2
  have HK := hid (And.intro K1 (K2))
  clear K1 K2
  have HR4 := hid hR4
  clear hR4
  clear hb1 hb2 hb3 hb4 hb5 hbwa hbwb hbwc hbwd
  rw [HH4.out] at HR4
  by_cases h0 : p = 0
  · subst h0
    have HTX2 := hid (HTX.out.1 rfl)
    go_wp2_with fail
    refine (PutT HR4.out (by have := H13.out; omega) s (by have := hs; omega)).mono ?_
    rintro e wf ⟨⟨A5, n5, c5, rfl, hR5⟩, hb6⟩
    have hbwf : Below w.heap.size w wf := hbwe.trans (hb6.mono hbwe.size)
    have K1 := (hb6.block _ z1).trans HK.out.1
    have K2 := (hb6.block _ z2).trans HK.out.2
    clear z1 u10 u11 u12 f10 f11 f12 z2 u20 u21 u22 u23 u24 u25 u26 HK
    have z1 := blk_lt K1
    obtain ⟨u10, u11, u12, f10, f11, f12⟩ := blk3 K1
    have z2 := blk_lt K2
    obtain ⟨u20, u21, u22, u23, u24, u25, u26⟩ := blk7 K2
    have HK := hid (And.intro K1 (K2))
    clear K1 K2
    rw [← HTX2.out] at hR5
    clear hb6 hbwe HR4
    have HRX := hid (hR5)
    clear HR1 HR2 HR3
    go_wp2_with fail
    refine (PN.out _).mono ?_
    rintro e wn ⟨⟨AN, cN, rfl, hcl, hcm, hnl, hSN⟩, hbN⟩
    have HRY := hid (HRX.out.below hbN)
    have hbwn : Below w.heap.size w wn := hbwf.trans (hbN.mono hbwf.size)
    have HSN := hid hSN
    clear hSN HRX hbN HK z1 u10 u11 u12 f10 f11 f12 z2 u20 u21 u22 u23 u24 u25 u26
    go_wp2
    go_loopw [6, 47] (fun v i wr => ∃ (j : Nat) (A9 : Option Addr) (n9 c9 : Nat), j ≤ m ∧ i = .int .i64 j ∧ v = .slice A9 n9 c9 ∧ Hid (Rw wr A9 n9 c9 ((H4 ++ TX) ++ lebs (L.take j))) ∧ Below w.heap.size w wr ∧ Below wn.heap.size wn wr)
      (fun _ i _ => m - (intOf i).toNat)
    case atStart => exact ⟨0, _, _, _, by omega, rfl, rfl, hid (by rw [List.take_zero, lebs_nil, List.append_nil]; exact HRY.out), hbwn, Below.refl _ _⟩
    case round =>
      obtain ⟨j, A9, n9, c9, hj, rfl, rfl, hRj, hbr, hbn⟩ := hrel
      by_cases hlt : j < m
      · obtain ⟨bb, oo, uu, rfl, hB9, hu9, hc9⟩ := (HSN.out.below hbn).get (k := j) hlt
        have hjl : j < L.length := by have := HLL.out; omega
        obtain rfl : uu = .int .i64 (L[j]'hjl) := by
          simp only [ints, List.getElem?_map, List.getElem?_eq_getElem hjl, Option.map_some, Option.some.injEq] at hu9
          exact hu9.symm
        have hv := HL.out _ (List.getElem_mem hjl)
        have hnx := lebs_next (List.getElem?_eq_getElem hjl) (H4 ++ TX)
        generalize L[j]'hjl = v9 at *
        obtain ⟨V, hV⟩ : ∃ V : Nat, v9.toNat = V := ⟨_, rfl⟩
        rw [hV] at hnx
        have hvw : IntKind.u64.wrap v9 = (V : Int) := by rw [u64_in _ (by omega) (by omega)]; omega
        have HNX := hid hnx
        have HV2 := hid (show V < 18446744073709551616 by omega)
        have HLN := hid (show ((H4 ++ TX) ++ lebs (L.take j)).length ≤ 100000 by
          have h1 := lebs_take_len HL.out (by have := HLL.out; omega) j
          have h2 := HTL.out
          rw [List.length_append]; omega)
        clear hnx hu9 hV hjl hB9
        go_wp2_with fail
        refine (PutU (m := V) hRj.out HLN.out HV2.out).mono ?_
        rintro e wz ⟨⟨AZ, nZ, cZ, rfl, hRZ⟩, hbZ⟩
        rw [HNX.out] at hRZ
        have HRZ := hid hRZ
        clear hRZ
        go_wp2_with fail
        go_roundw
        case rel => exact ⟨j + 1, _, _, _, by omega, by go_num, rfl, HRZ, hbr.trans (hbZ.mono hbr.size), hbn.trans (hbZ.mono hbn.size)⟩
        case measure => simp [intOf]; omega
      · obtain rfl : j = m := by omega
        have e9 : L.take j = L := List.take_of_length_le (by rw [HLL.out]; omega)
        have HR9 := hid hRj.out
        rw [e9, ← HSP.out] at HR9
        clear hRj
        go_wp2
        go_ret
        exact ⟨⟨_, _, _, rfl, HR9.out⟩, hbr⟩
  · have h0' : ¬ (p : Int) = 0 := by omega
    have e8 := HTX.out.2 h0
    have HR8 := HR4.out
    rw [← List.append_nil H4, ← e8] at HR8
    clear h0 HR4
    have HRX := hid (HR8)
    clear HR1 HR2 HR3
    go_wp2_with fail
    refine (PN.out _).mono ?_
    rintro e wn ⟨⟨AN, cN, rfl, hcl, hcm, hnl, hSN⟩, hbN⟩
    have HRY := hid (HRX.out.below hbN)
    have hbwn : Below w.heap.size w wn := hbwe.trans (hbN.mono hbwe.size)
    have HSN := hid hSN
    clear hSN HRX hbN HK z1 u10 u11 u12 f10 f11 f12 z2 u20 u21 u22 u23 u24 u25 u26
    go_wp2
    go_loopw [6, 47] (fun v i wr => ∃ (j : Nat) (A9 : Option Addr) (n9 c9 : Nat), j ≤ m ∧ i = .int .i64 j ∧ v = .slice A9 n9 c9 ∧ Hid (Rw wr A9 n9 c9 ((H4 ++ TX) ++ lebs (L.take j))) ∧ Below w.heap.size w wr ∧ Below wn.heap.size wn wr)
      (fun _ i _ => m - (intOf i).toNat)
    case atStart => exact ⟨0, _, _, _, by omega, rfl, rfl, hid (by rw [List.take_zero, lebs_nil, List.append_nil]; exact HRY.out), hbwn, Below.refl _ _⟩
    case round =>
      obtain ⟨j, A9, n9, c9, hj, rfl, rfl, hRj, hbr, hbn⟩ := hrel
      by_cases hlt : j < m
      · obtain ⟨bb, oo, uu, rfl, hB9, hu9, hc9⟩ := (HSN.out.below hbn).get (k := j) hlt
        have hjl : j < L.length := by have := HLL.out; omega
        obtain rfl : uu = .int .i64 (L[j]'hjl) := by
          simp only [ints, List.getElem?_map, List.getElem?_eq_getElem hjl, Option.map_some, Option.some.injEq] at hu9
          exact hu9.symm
        have hv := HL.out _ (List.getElem_mem hjl)
        have hnx := lebs_next (List.getElem?_eq_getElem hjl) (H4 ++ TX)
        generalize L[j]'hjl = v9 at *
        obtain ⟨V, hV⟩ : ∃ V : Nat, v9.toNat = V := ⟨_, rfl⟩
        rw [hV] at hnx
        have hvw : IntKind.u64.wrap v9 = (V : Int) := by rw [u64_in _ (by omega) (by omega)]; omega
        have HNX := hid hnx
        have HV2 := hid (show V < 18446744073709551616 by omega)
        have HLN := hid (show ((H4 ++ TX) ++ lebs (L.take j)).length ≤ 100000 by
          have h1 := lebs_take_len HL.out (by have := HLL.out; omega) j
          have h2 := HTL.out
          rw [List.length_append]; omega)
        clear hnx hu9 hV hjl hB9
        go_wp2_with fail
        refine (PutU (m := V) hRj.out HLN.out HV2.out).mono ?_
        rintro e wz ⟨⟨AZ, nZ, cZ, rfl, hRZ⟩, hbZ⟩
        rw [HNX.out] at hRZ
        have HRZ := hid hRZ
        clear hRZ
        go_wp2_with fail
        go_roundw
        case rel => exact ⟨j + 1, _, _, _, by omega, by go_num, rfl, HRZ, hbr.trans (hbZ.mono hbr.size), hbn.trans (hbZ.mono hbn.size)⟩
        case measure => simp [intOf]; omega
      · obtain rfl : j = m := by omega
        have e9 : L.take j = L := List.take_of_length_le (by rw [HLL.out]; omega)
        have HR9 := hid hRj.out
        rw [e9, ← HSP.out] at HR9
        clear hRj
        go_wp2
        go_ret
        exact ⟨⟨_, _, _, rfl, HR9.out⟩, hbr⟩
end Go.Proofs.YtondnbnaoacanaaGreatDoor
/- Layer 7: contracts of codec: readName, read. -/
namespace Go.Proofs.YtondnbnaoacanaaGreatDoor
open Go.ChangeShapes Go.WideShapes Go.ChangeAt Go.RowKit Fb Go.Maps

theorem tx_small {zs : List Int} {p er most p' e' : Int} {bs : List Int} (h : textS zs p er most = (p', e', bs)) : bs.length ≤ zs.length := by
  unfold textS at h
  split at h
  · split at h
    · simp only [Prod.mk.injEq] at h; rw [← h.2.2]; simp
    · split at h
      · simp only [Prod.mk.injEq] at h; rw [← h.2.2]; simp
      · simp only [Prod.mk.injEq] at h; rw [← h.2.2, List.length_take, List.length_drop]; omega
  · simp only [Prod.mk.injEq] at h; rw [← h.2.2]; simp
theorem str_size (bs : List Int) : (strOfNums bs).size = bs.length := by
  simp [strOfNums, ByteArray.size]

theorem i64_far {v n : Nat} (h : n < v) (hv : v < 18446744073709551616) : (IntKind.i64.wrap (v : Int) < 1 ∨ (n : Int) < IntKind.i64.wrap (v : Int)) ∧ (-9223372036854775808 ≤ IntKind.i64.wrap (v : Int) ∧ IntKind.i64.wrap (v : Int) ≤ 9223372036854775807) := by
  unfold IntKind.wrap
  simp [IntKind.bits, IntKind.signed]
  omega

/-- a name by its place, or as a text -/
def Named7 (w : World) (A : Option Addr) (n c : Nat) (ss : List ByteArray) (zs : List Int) (p4 e4 : Int) (v4 : Nat) (e : Ending) (w' : World) : Prop :=
  (∃ (p5 e5 : Int) (s : ByteArray), e = .returned (.tuple #[.agg #[.slice A n c, .int .i64 p5, .int .i64 e5], .string s]) ∧ Hid (s.size ≤ maxLen) ∧ Hid (v4 = 0 → ∃ bs, textS zs p4 e4 24 = (p5, e5, bs) ∧ s = strOfNums bs) ∧ Hid (v4 ≠ 0 → p5 = p4 ∧ e5 = e4 ∧ ∀ z, ss[v4 - 1]? = some z → s = z)) ∧ Below w.heap.size w w'

set_option maxRecDepth 100000 in
set_option maxHeartbeats 8000000 in
theorem readName_any {A : Option Addr} {n c : Nat} {p er p4 e4 : Int} {v4 : Nat} {zs : List Int} {An : Option Addr} {nn cn : Nat} {ss : List ByteArray} (hz : Ok9 ss) {w : World} (hR : Rs w An nn cn ss) (hn9 : nn ≤ 1000000)
    (hS : Rw w A n c zs) (hb : Bytes zs) (hn : n ≤ 100000) (hu : uintS zs p er = (p4, e4, v4)) :
    Calls Tryz.prog 121 #[.agg #[.slice A n c, .int .i64 p, .int .i64 er], .slice An nn cn] w (Named7 w A n c ss zs p4 e4 v4) := by
  have PU := hid (fun (w1 : World) (h : Below w.heap.size w w1) => Uint_any (c := c) hu (hS.below h).1 hb hn hS.2.1 hS.2.2.1)
  have hv := uS_lt hb hu
  have hbA : Below w.heap.size w ((w.alloc (.cells #[.slice A n c, .int .i64 p, .int .i64 er] 94)).alloc (.cells #[.slice none 0 0, .int .i64 0, .int .i64 0] 94)) := ((Below.refl _ _).alloc (Nat.le_refl _) _).alloc (by simp) _
  obtain ⟨p5, e5, bs, ht⟩ : ∃ p5 e5 bs, textS zs p4 e4 24 = (p5, e5, bs) := ⟨_, _, _, rfl⟩
  have PT := hid (fun (w1 : World) (h : Below w.heap.size w w1) => Text_any (c := c) ht (hS.below h).1 hb hS.2.2.2 hn hS.2.1 hS.2.2.1 (by omega))
  have hsz : (strOfNums bs).size ≤ maxLen := by rw [str_size]; have := tx_small ht; have := hS.len; unfold maxLen; omega
  have HT := hid ht
  have HSZ := hid hsz
  have HSS := hid (hz.2)
  have hln := hR.len
  have PA := hid (fun (w1 : World) (h : Below w.heap.size w w1) (k : Nat) (z : ByteArray) (hk : ss[k]? = some z) => At_yes (cap := cn) (hR.below h).1 hk hn9)
  have PB := hid (fun (w1 : World) (p9 : Int) (h : p9 < 1 ∨ (nn : Int) < p9) hp => At_no (A := An) (cap := cn) (n := nn) w1 h hn9 hp)
  have HLN := hid hln
  clear hz hR hS hb hu ht hsz hln
  by_cases h0 : v4 = 0
  · subst h0
    clear hv
    go_enter Tryz.func121, Tryz.ntmps121
    go_wp2_with fail
    refine (PU.out _ hbA).mono ?_
    rintro e wa ⟨rfl, hb1⟩
    have hbwa : Below w.heap.size w wa := hbA.trans (hb1.mono hbA.size)
    obtain ⟨K1, K2⟩ := kept2 hb1
    have z1 := blk_lt K1
    obtain ⟨u10, u11, u12, f10, f11, f12⟩ := blk3 K1
    have z2 := blk_lt K2
    obtain ⟨u20, u21, u22, f20, f21, f22⟩ := blk3 K2
    have HK := hid (And.intro K1 (K2))
    clear K1 K2
    have hbx := fun (x y z : Value) => Below.setCell (Below.setCell (Below.setCell hbwa (p := ⟨w.heap.size, 0, none⟩) (by simp) x) (p := ⟨w.heap.size, 1, none⟩) (by simp) y) (p := ⟨w.heap.size, 2, none⟩) (by simp) z
    have HK2 := hid (fun (x y z : Value) => (And.intro (all3 (a' := x) (b' := y) (c' := z) HK.out.1) (((sto3 wa w.heap.size x y z).block (w.heap.size + 1) (by omega)).trans HK.out.2)))
    go_wp2_with fail
    refine (PT.out _ (hbx _ _ _)).mono ?_
    rintro e wb ⟨rfl, hb2⟩
    have K2 := (hb2.block _ (by simp; omega)).trans (HK2.out _ _ _).2
    have hbb : Below w.heap.size w wb := (hbx _ _ _).trans (hb2.mono (hbx _ _ _).size)
    clear z1 u10 u11 u12 f10 f11 f12 z2 u20 u21 u22 f20 f21 f22 HK HK2 hbx hb1 hbwa hb2
    have z2 := blk_lt K2
    obtain ⟨u20, u21, u22, f20, f21, f22⟩ := blk3 K2
    clear K2
    go_wp2_with fail
    refine bodyPost_ret (v := .tuple #[.agg #[.slice A n c, .int .i64 p5, .int .i64 e5], .string (strOfNums bs)]) (by simp [results, Tryz.results121, go_sem, u20, u21, u22]) rfl ⟨⟨_, _, _, rfl, HSZ, hid (fun _ => ⟨bs, HT.out, rfl⟩), hid (fun h => absurd rfl h)⟩, ?_⟩
    exact Below.setCell (Below.setCell (Below.setCell hbb (by simp) _) (by simp) _) (by simp) _
  · have h0' : ¬ (v4 : Int) = 0 := by omega
    clear PT HT HSZ
    by_cases h1 : v4 ≤ nn
    · have hk : v4 - 1 < ss.length := by have := HLN.out; omega
      have hx : ss[v4 - 1]? = some (ss[v4 - 1]'hk) := List.getElem?_eq_getElem hk
      have hw4 : IntKind.i64.wrap (v4 : Int) = ((v4 - 1 : Nat) : Int) + 1 := by rw [i64_in (by omega) (by omega)]; omega
      have HX := hid hx
      have HZ := hid (HSS.out _ (List.getElem_mem hk))
      generalize ss[v4 - 1]'hk = z at *
      clear hx h1 hv PB
      go_enter Tryz.func121, Tryz.ntmps121
      go_wp2_with fail
      refine (PU.out _ hbA).mono ?_
      rintro e wa ⟨rfl, hb1⟩
      have hbwa : Below w.heap.size w wa := hbA.trans (hb1.mono hbA.size)
      obtain ⟨K1, K2⟩ := kept2 hb1
      have z1 := blk_lt K1
      obtain ⟨u10, u11, u12, f10, f11, f12⟩ := blk3 K1
      have z2 := blk_lt K2
      obtain ⟨u20, u21, u22, f20, f21, f22⟩ := blk3 K2
      have HK := hid (And.intro K1 (K2))
      clear K1 K2
      have hbx := fun (x y z : Value) => Below.setCell (Below.setCell (Below.setCell hbwa (p := ⟨w.heap.size, 0, none⟩) (by simp) x) (p := ⟨w.heap.size, 1, none⟩) (by simp) y) (p := ⟨w.heap.size, 2, none⟩) (by simp) z
      go_wp2_with fail
      with_reducible refine (PA.out _ (hbx _ _ _) _ _ HX.out).mono ?_
      rintro e wb ⟨rfl, rfl⟩
      go_wp2_with fail
      refine bodyPost_ret (v := .tuple #[.agg #[.slice A n c, .int .i64 p4, .int .i64 e4], .string z]) (by simp [results, Tryz.results121, go_sem, u20, u21, u22]) rfl ⟨⟨_, _, _, rfl, HZ, hid (fun h => absurd h h0), hid (fun _ => ⟨rfl, rfl, fun y hy => Option.some.inj (HX.out.symm.trans hy)⟩)⟩, ?_⟩
      exact Below.setCell (Below.setCell (Below.setCell (hbx _ _ _) (by simp) _) (by simp) _) (by simp) _
    · have hw := i64_far (n := nn) (by omega) hv
      have HZ := hid (show ss[v4 - 1]? = none from List.getElem?_eq_none (by have := HLN.out; omega))
      have HW := hid hw
      clear hw
      obtain ⟨p9, hp9⟩ : ∃ p9, IntKind.i64.wrap (v4 : Int) = p9 := ⟨_, rfl⟩
      rw [hp9] at HW
      clear h1 hv PA
      go_enter Tryz.func121, Tryz.ntmps121
      go_wp2_with fail
      refine (PU.out _ hbA).mono ?_
      rintro e wa ⟨rfl, hb1⟩
      have hbwa : Below w.heap.size w wa := hbA.trans (hb1.mono hbA.size)
      obtain ⟨K1, K2⟩ := kept2 hb1
      have z1 := blk_lt K1
      obtain ⟨u10, u11, u12, f10, f11, f12⟩ := blk3 K1
      have z2 := blk_lt K2
      obtain ⟨u20, u21, u22, f20, f21, f22⟩ := blk3 K2
      have HK := hid (And.intro K1 (K2))
      clear K1 K2
      have hbx := fun (x y z : Value) => Below.setCell (Below.setCell (Below.setCell hbwa (p := ⟨w.heap.size, 0, none⟩) (by simp) x) (p := ⟨w.heap.size, 1, none⟩) (by simp) y) (p := ⟨w.heap.size, 2, none⟩) (by simp) z
      go_wp2_with fail
      with_reducible refine (PB.out _ _ HW.out.1 HW.out.2).mono ?_
      rintro e wb ⟨rfl, rfl⟩
      go_wp2_with fail
      refine bodyPost_ret (v := .tuple #[.agg #[.slice A n c, .int .i64 p4, .int .i64 e4], .string ⟨#[]⟩]) (by simp [results, Tryz.results121, go_sem, u20, u21, u22]) rfl ⟨⟨_, _, _, rfl, hid (by unfold maxLen; decide), hid (fun h => absurd h h0), hid (fun _ => ⟨rfl, rfl, fun y hy => by rw [HZ.out] at hy; cases hy⟩)⟩, ?_⟩
      exact Below.setCell (Below.setCell (Below.setCell (hbx _ _ _) (by simp) _) (by simp) _) (by simp) _
-- read: written by tools/codec/read.py
theorem ev7_size : (Tryz.prog.info? 41).map (·.size) = some 7 := by kernel_rfl
theorem ev7_one (q t k a b d : Int) (s : ByteArray) : (#[Value.int .i64 q, .int .i64 t, .int .i64 k, .string s, .int .i64 a, .int .i64 b, .int .i64 d] : Array Value).all (·.oneCell') = true := by simp [Value.oneCell']
theorem w64 (x : Int) : wrap64 x = IntKind.i64.wrap x := by
  unfold IntKind.wrap wrap64
  simp [IntKind.bits, IntKind.signed]
  omega
theorem ints_len (l : List Int) : (ints l).length = l.length := by simp [ints]
/-- m numbers, of which so many are laid, the others 0 -/
def nmv (m : Nat) (f : Nat → Int) (k : Nat) : List Int := (List.range m).map fun i => if i < k then f i else 0
theorem nmv_len (m : Nat) (f : Nat → Int) (k : Nat) : (nmv m f k).length = m := by simp [nmv]
theorem nmv_made (m : Nat) (f : Nat → Int) : ints (nmv m f 0) = (madeCells (Value.int .i64 0).cells (m * 1)).toList := by
  show _ = (madeCells #[Value.int .i64 0] (m * 1)).toList
  rw [toList_madeCells_one, Nat.mul_one]
  refine List.ext_getElem (by simp [ints, nmv]) fun i h1 h2 => ?_
  simp [ints, nmv]
theorem nmv_set {m : Nat} {f : Nat → Int} {k : Nat} : (ints (nmv m f k)).set k (.int .i64 (f k)) = ints (nmv m f (k + 1)) := by
  refine List.ext_getElem (by simp [ints, nmv]) fun i h1 h2 => ?_
  simp only [List.getElem_set, ints, nmv, List.getElem_map, List.getElem_range]
  by_cases h : k = i
  · subst h; simp
  · rw [if_neg h]
    congr 1
    by_cases h3 : i < k
    · rw [if_pos h3, if_pos (by omega)]
    · rw [if_neg h3, if_neg (by omega)]
theorem nmv_all (m : Nat) (f : Nat → Int) : nmv m f m = (List.range m).map f := by
  refine List.map_congr_left fun i hi => ?_
  rw [if_pos (List.mem_range.1 hi)]
/-- some event is read: the one whose bytes they are, if there is one -/
def Reads7 (w : World) (q0 t0 : Int) (ss : List ByteArray) (zs : List Int) (e : Ending) (w' : World) : Prop :=
  (∃ (q t k a b d : Int) (s : ByteArray), e = .returned (.agg #[.int .i64 q, .int .i64 t, .int .i64 k, .string s, .int .i64 a, .int .i64 b, .int .i64 d]) ∧ Hid (s.size ≤ maxLen) ∧ Hid (∀ y, Okk q0 t0 ss y → spB q0 t0 ss y = zs → (⟨q, t, k, s, a, b, d⟩ : Ev) = y)) ∧ Below w.heap.size w w'

set_option maxRecDepth 100000 in
set_option maxHeartbeats 16000000 in
theorem read_any (q0 t0 : Int) {A : Option Addr} {n c : Nat} {zs : List Int} {An : Option Addr} {nn cn : Nat} {ss : List ByteArray} (hz : Ok9 ss) {w : World} (hR : Rs w An nn cn ss) (hn9 : nn ≤ 1000000)
    (hS : Rw w A n c zs) (hb : Bytes zs) (hn : n ≤ 100000) :
    Calls Tryz.prog 117 #[.agg #[.int .i64 q0, .int .i64 t0, .slice An nn cn], .slice A n c] w (Reads7 w q0 t0 ss zs) := by
  have PU := hid (fun (w1 : World) (h : Below w.heap.size w w1) (p er p' e' : Int) (v : Nat) (hu : uintS zs p er = (p', e', v)) => Uint_any (c := c) hu (hS.below h).1 hb hn hS.2.1 hS.2.2.1)
  have PRN := hid (fun (w1 : World) (h : Below w.heap.size w w1) (p er p' e' : Int) (v : Nat) (hu : uintS zs p er = (p', e', v)) => readName_any (c := c) (cn := cn) hz (hR.below h) hn9 (hS.below h) hb hn hu)
  have HB := hid hb
  have hbA : Below w.heap.size w ((w.alloc (.cells #[.int .i64 q0, .int .i64 t0, .slice An nn cn] 24)).alloc (.cells #[.int .i64 0, .int .i64 0, .int .i64 0, .string ⟨#[]⟩, .int .i64 0, .int .i64 0, .int .i64 0] 41)) := ((Below.refl _ _).alloc (Nat.le_refl _) _).alloc (by simp) _
  obtain ⟨p1, e1, v1, hu1⟩ : ∃ p1 e1 v1, uintS zs 0 0 = (p1, e1, v1) := ⟨_, _, _, rfl⟩
  obtain ⟨p2, e2, v2, hu2⟩ : ∃ p2 e2 v2, uintS zs p1 e1 = (p2, e2, v2) := ⟨_, _, _, rfl⟩
  obtain ⟨p3, e3, v3, hu3⟩ : ∃ p3 e3 v3, uintS zs p2 e2 = (p3, e3, v3) := ⟨_, _, _, rfl⟩
  obtain ⟨p4, e4, v4, hu4⟩ : ∃ p4 e4 v4, uintS zs p3 e3 = (p4, e4, v4) := ⟨_, _, _, rfl⟩
  have HU1 := hid hu1
  have HU2 := hid hu2
  have HU3 := hid hu3
  have HU4 := hid hu4
  obtain ⟨i0, hi0, hz0, hz1, hz2⟩ := info_parts i64_info
  clear hz hR hS hb hu1 hu2 hu3 hu4
  go_enter Tryz.func117, Tryz.ntmps117
  go_wp2_with fail
  refine (Start_any A n c _).mono ?_
  rintro e wa ⟨rfl, hb1⟩
  have hbwa : Below w.heap.size w wa := hbA.trans (hb1.mono hbA.size)
  obtain ⟨K1, K2⟩ := kept2 hb1
  have z1 := blk_lt K1
  obtain ⟨u10, u11, u12, f10, f11, f12⟩ := blk3 K1
  have z2 := blk_lt K2
  obtain ⟨u20, u21, u22, u23, u24, u25, u26⟩ := blk7 K2
  have HK := hid (And.intro K1 (K2))
  clear K1 K2
  have hz9 : w.heap.size + 1 < wa.heap.size := z2
  go_wp2_with fail
  with_reducible refine (PU.out _ (hbwa.alloc (by omega) _) _ _ _ _ _ HU1.out).mono ?_
  rintro e wb ⟨rfl, hb2⟩
  have hbwb : Below w.heap.size w wb := (hbwa.alloc (by omega) _).trans (hb2.mono (by simp; omega))
  have K1 := (hb2.block _ (by simp; omega)).trans ((Below.heap_alloc _ _ _ z1).trans HK.out.1)
  have K2 := (hb2.block _ (by simp; omega)).trans ((Below.heap_alloc _ _ _ z2).trans HK.out.2)
  have K3 := (hb2.block _ (by simp)).trans (heap_alloc_new wa _)
  obtain ⟨gg, hgg⟩ : ∃ g, wa.heap.size = g := ⟨_, rfl⟩
  rw [hgg] at K3 hz9
  clear z1 u10 u11 u12 f10 f11 f12 z2 u20 u21 u22 u23 u24 u25 u26 HK hb1 hb2 hbwa
  have z1 := blk_lt K1
  obtain ⟨u10, u11, u12, f10, f11, f12⟩ := blk3 K1
  have z2 := blk_lt K2
  obtain ⟨u20, u21, u22, u23, u24, u25, u26⟩ := blk7 K2
  have z3 := blk_lt K3
  obtain ⟨u30, u31, u32, f30, f31, f32⟩ := blk3 K3
  have HK := hid (And.intro K1 (And.intro K2 (K3)))
  clear K1 K2 K3
  rw [hgg]
  go_wp2_with fail
  obtain ⟨wb1, hWwb1⟩ : ∃ w9, w9 = (((wb).setCell ⟨gg, 0, none⟩ (.slice A n c)).setCell ⟨gg, 1, none⟩ (.int .i64 p1)).setCell ⟨gg, 2, none⟩ (.int .i64 e1) := ⟨_, rfl⟩
  rw [← hWwb1]
  have STwb1 : Sto (gg) wb wb1 := by rw [hWwb1]; exact sto3 _ _ _ _ _
  have K1 := (STwb1.block _ (by omega)).trans HK.out.1
  have K2 := (STwb1.block _ (by omega)).trans HK.out.2.1
  have K3 : wb1.heap[gg]? = some (.cells #[.slice A n c, .int .i64 p1, .int .i64 e1] 94 (0, 0)) := by rw [hWwb1]; exact all3 HK.out.2.2
  have hbwb1 : Below w.heap.size w wb1 := STwb1.below hbwb (by omega)
  clear z1 u10 u11 u12 f10 f11 f12 z2 u20 u21 u22 u23 u24 u25 u26 z3 u30 u31 u32 f30 f31 f32 HK hWwb1
  have z1 := blk_lt K1
  obtain ⟨u10, u11, u12, f10, f11, f12⟩ := blk3 K1
  have z2 := blk_lt K2
  obtain ⟨u20, u21, u22, u23, u24, u25, u26⟩ := blk7 K2
  have z3 := blk_lt K3
  obtain ⟨u30, u31, u32, f30, f31, f32⟩ := blk3 K3
  have HK := hid (And.intro K1 (And.intro K2 (K3)))
  clear K1 K2 K3
  with_reducible refine (PU.out _ hbwb1 _ _ _ _ _ HU2.out).mono ?_
  rintro e wc ⟨rfl, hb2⟩
  have hbwc : Below w.heap.size w wc := hbwb1.trans (hb2.mono hbwb1.size)
  have K1 := (hb2.block _ z1).trans HK.out.1
  have K2 := (hb2.block _ z2).trans HK.out.2.1
  have K3 := (hb2.block _ z3).trans HK.out.2.2
  clear z1 u10 u11 u12 f10 f11 f12 z2 u20 u21 u22 u23 u24 u25 u26 z3 u30 u31 u32 f30 f31 f32 HK
  have z1 := blk_lt K1
  obtain ⟨u10, u11, u12, f10, f11, f12⟩ := blk3 K1
  have z2 := blk_lt K2
  obtain ⟨u20, u21, u22, u23, u24, u25, u26⟩ := blk7 K2
  have z3 := blk_lt K3
  obtain ⟨u30, u31, u32, f30, f31, f32⟩ := blk3 K3
  have HK := hid (And.intro K1 (And.intro K2 (K3)))
  clear K1 K2 K3
  clear hb2
  clear hbwb hbwb1 STwb1 hgg
  go_wp2_with fail
  obtain ⟨wc1, hWwc1⟩ : ∃ w9, w9 = (((wc).setCell ⟨gg, 0, none⟩ (.slice A n c)).setCell ⟨gg, 1, none⟩ (.int .i64 p2)).setCell ⟨gg, 2, none⟩ (.int .i64 e2) := ⟨_, rfl⟩
  rw [← hWwc1]
  have STwc1 : Sto (gg) wc wc1 := by rw [hWwc1]; exact sto3 _ _ _ _ _
  have K1 := (STwc1.block _ (by omega)).trans HK.out.1
  have K2 := (STwc1.block _ (by omega)).trans HK.out.2.1
  have K3 : wc1.heap[gg]? = some (.cells #[.slice A n c, .int .i64 p2, .int .i64 e2] 94 (0, 0)) := by rw [hWwc1]; exact all3 HK.out.2.2
  have hbwc1 : Below w.heap.size w wc1 := STwc1.below hbwc (by omega)
  clear z1 u10 u11 u12 f10 f11 f12 z2 u20 u21 u22 u23 u24 u25 u26 z3 u30 u31 u32 f30 f31 f32 HK hWwc1
  have z1 := blk_lt K1
  obtain ⟨u10, u11, u12, f10, f11, f12⟩ := blk3 K1
  have z2 := blk_lt K2
  obtain ⟨u20, u21, u22, u23, u24, u25, u26⟩ := blk7 K2
  have z3 := blk_lt K3
  obtain ⟨u30, u31, u32, f30, f31, f32⟩ := blk3 K3
  have HK := hid (And.intro K1 (And.intro K2 (K3)))
  clear K1 K2 K3
  with_reducible refine (PU.out _ hbwc1 _ _ _ _ _ HU3.out).mono ?_
  rintro e wd ⟨rfl, hb2⟩
  have hbwd : Below w.heap.size w wd := hbwc1.trans (hb2.mono hbwc1.size)
  have K1 := (hb2.block _ z1).trans HK.out.1
  have K2 := (hb2.block _ z2).trans HK.out.2.1
  have K3 := (hb2.block _ z3).trans HK.out.2.2
  clear z1 u10 u11 u12 f10 f11 f12 z2 u20 u21 u22 u23 u24 u25 u26 z3 u30 u31 u32 f30 f31 f32 HK
  have z1 := blk_lt K1
  obtain ⟨u10, u11, u12, f10, f11, f12⟩ := blk3 K1
  have z2 := blk_lt K2
  obtain ⟨u20, u21, u22, u23, u24, u25, u26⟩ := blk7 K2
  have z3 := blk_lt K3
  obtain ⟨u30, u31, u32, f30, f31, f32⟩ := blk3 K3
  have HK := hid (And.intro K1 (And.intro K2 (K3)))
  clear K1 K2 K3
  clear hb2
  go_wp2_with fail
  obtain ⟨wd1, hWwd1⟩ : ∃ w9, w9 = (((wd).setCell ⟨gg, 0, none⟩ (.slice A n c)).setCell ⟨gg, 1, none⟩ (.int .i64 p3)).setCell ⟨gg, 2, none⟩ (.int .i64 e3) := ⟨_, rfl⟩
  rw [← hWwd1]
  have STwd1 : Sto (gg) wd wd1 := by rw [hWwd1]; exact sto3 _ _ _ _ _
  have K1 := (STwd1.block _ (by omega)).trans HK.out.1
  have K2 := (STwd1.block _ (by omega)).trans HK.out.2.1
  have K3 : wd1.heap[gg]? = some (.cells #[.slice A n c, .int .i64 p3, .int .i64 e3] 94 (0, 0)) := by rw [hWwd1]; exact all3 HK.out.2.2
  have hbwd1 : Below w.heap.size w wd1 := STwd1.below hbwd (by omega)
  clear z1 u10 u11 u12 f10 f11 f12 z2 u20 u21 u22 u23 u24 u25 u26 z3 u30 u31 u32 f30 f31 f32 HK hWwd1
  have z1 := blk_lt K1
  obtain ⟨u10, u11, u12, f10, f11, f12⟩ := blk3 K1
  have z2 := blk_lt K2
  obtain ⟨u20, u21, u22, u23, u24, u25, u26⟩ := blk7 K2
  have z3 := blk_lt K3
  obtain ⟨u30, u31, u32, f30, f31, f32⟩ := blk3 K3
  have HK := hid (And.intro K1 (And.intro K2 (K3)))
  clear K1 K2 K3
  clear hbwc hbwc1 STwc1 hbwd STwd1
  with_reducible refine (PRN.out _ hbwd1 _ _ _ _ _ HU4.out).mono ?_
  rintro e we ⟨⟨p5, e5, s, rfl, HSZ, HN, HM⟩, hb2⟩
  have hbwe : Below w.heap.size w we := hbwd1.trans (hb2.mono hbwd1.size)
  have K1 := (hb2.block _ z1).trans HK.out.1
  have K2 := (hb2.block _ z2).trans HK.out.2.1
  have K3 := (hb2.block _ z3).trans HK.out.2.2
  clear z1 u10 u11 u12 f10 f11 f12 z2 u20 u21 u22 u23 u24 u25 u26 z3 u30 u31 u32 f30 f31 f32 HK
  have z1 := blk_lt K1
  obtain ⟨u10, u11, u12, f10, f11, f12⟩ := blk3 K1
  have z2 := blk_lt K2
  obtain ⟨u20, u21, u22, u23, u24, u25, u26⟩ := blk7 K2
  have z3 := blk_lt K3
  obtain ⟨u30, u31, u32, f30, f31, f32⟩ := blk3 K3
  have HK := hid (And.intro K1 (And.intro K2 (K3)))
  clear K1 K2 K3
  clear hb2
  obtain ⟨kd, hkd⟩ : ∃ kd, IntKind.i64.wrap (v1 : Int) = kd := ⟨_, rfl⟩
  have PMN := hid (Many_any kd)
  have hmn := mn_le kd
  obtain ⟨m, hm⟩ : ∃ m : Nat, (mnI kd).toNat = m := ⟨_, rfl⟩
  have hm2 : mnI kd = (m : Int) := by omega
  rw [hm2] at PMN
  have hm3 : m ≤ 3 := by omega
  have HKD := hid hkd
  have HMN := hid hm2
  clear hmn hm hm2
  go_wp2_with fail
  obtain ⟨we1, hWwe1⟩ : ∃ w9, w9 = (((we).setCell ⟨gg, 0, none⟩ (.slice A n c)).setCell ⟨gg, 1, none⟩ (.int .i64 p5)).setCell ⟨gg, 2, none⟩ (.int .i64 e5) := ⟨_, rfl⟩
  rw [← hWwe1]
  have STwe1 : Sto (gg) we we1 := by rw [hWwe1]; exact sto3 _ _ _ _ _
  have K1 := (STwe1.block _ (by omega)).trans HK.out.1
  have K2 := (STwe1.block _ (by omega)).trans HK.out.2.1
  have K3 : we1.heap[gg]? = some (.cells #[.slice A n c, .int .i64 p5, .int .i64 e5] 94 (0, 0)) := by rw [hWwe1]; exact all3 HK.out.2.2
  have hbwe1 : Below w.heap.size w we1 := STwe1.below hbwe (by omega)
  clear z1 u10 u11 u12 f10 f11 f12 z2 u20 u21 u22 u23 u24 u25 u26 z3 u30 u31 u32 f30 f31 f32 HK hWwe1
  have z1 := blk_lt K1
  obtain ⟨u10, u11, u12, f10, f11, f12⟩ := blk3 K1
  have z2 := blk_lt K2
  obtain ⟨u20, u21, u22, u23, u24, u25, u26⟩ := blk7 K2
  have z3 := blk_lt K3
  obtain ⟨u30, u31, u32, f30, f31, f32⟩ := blk3 K3
  have HK := hid (And.intro K1 (And.intro K2 (K3)))
  clear K1 K2 K3
  refine (PMN.out _).mono ?_
  rintro e wf ⟨rfl, hb2⟩
  have hbwf : Below w.heap.size w wf := hbwe1.trans (hb2.mono hbwe1.size)
  have K1 := (hb2.block _ z1).trans HK.out.1
  have K2 := (hb2.block _ z2).trans HK.out.2.1
  have K3 := (hb2.block _ z3).trans HK.out.2.2
  clear z1 u10 u11 u12 f10 f11 f12 z2 u20 u21 u22 u23 u24 u25 u26 z3 u30 u31 u32 f30 f31 f32 HK
  have z1 := blk_lt K1
  obtain ⟨u10, u11, u12, f10, f11, f12⟩ := blk3 K1
  have z2 := blk_lt K2
  obtain ⟨u20, u21, u22, u23, u24, u25, u26⟩ := blk7 K2
  have z3 := blk_lt K3
  obtain ⟨u30, u31, u32, f30, f31, f32⟩ := blk3 K3
  have HK := hid (And.intro K1 (And.intro K2 (K3)))
  clear K1 K2 K3
  clear hb2 hbwd1 hbwe hbwe1 STwe1 hkd
  go_wp2_with (refine wpList_make_full wf rfl (.tmp 40) (.tmp 40) 79 rfl (gg + 1) 2 i0 (.int .i64 0) 1 Tryz.underlying79 hi0 hz0 hz1 .i64 .i64 (m : Int) (m : Int) m rfl rfl rfl rfl (by rw [hz2]; omega) (by unfold maxLen; omega) (by omega) ?_; intro wg own9 hgr)
  have hb2 : Below wf.heap.size wf wg := (Below.refl _ _).grown hgr (Nat.le_refl _) (fun k hk => by cases hk)
  have zgg : gg < wf.heap.size := z3
  have hbwg : Below w.heap.size w wg := hbwf.trans (hb2.mono hbwf.size)
  have K1 := (hb2.block _ z1).trans HK.out.1
  have K2 := (hb2.block _ z2).trans HK.out.2.1
  have K3 := (hb2.block _ z3).trans HK.out.2.2
  clear z1 u10 u11 u12 f10 f11 f12 z2 u20 u21 u22 u23 u24 u25 u26 z3 u30 u31 u32 f30 f31 f32 HK
  have z1 := blk_lt K1
  obtain ⟨u10, u11, u12, f10, f11, f12⟩ := blk3 K1
  have z2 := blk_lt K2
  obtain ⟨u20, u21, u22, u23, u24, u25, u26⟩ := blk7 K2
  have z3 := blk_lt K3
  obtain ⟨u30, u31, u32, f30, f31, f32⟩ := blk3 K3
  have HK := hid (And.intro K1 (And.intro K2 (K3)))
  clear K1 K2 K3
  obtain ⟨GN, hGN⟩ : ∃ G, wf.heap.size = G := ⟨_, rfl⟩
  have OWN0 : Hid (wg.ownsRow (gg + 1) 2 1 (.slice (some ⟨GN, 0, none⟩) m m) m (ints (nmv m (fun j => IntKind.i64.wrap (va zs p5 e5 j)) 0))) := by
    rw [nmv_made, ← hGN]; exact own9
  have hGg : gg < GN := by rw [← hGN]; exact zgg
  rw [hGN]
  clear hb2 hbwf hgr own9 hGN zgg
  have HKg := hid (show Hid (wg.heap[w.heap.size]? = some (.cells #[.int .i64 q0, .int .i64 t0, .slice An nn cn] 24 (0, 0))) ∧ Hid (wg.heap[w.heap.size + 1]? = some (.cells #[.int .i64 0, .int .i64 0, .int .i64 0, .string ⟨#[]⟩, .int .i64 0, .int .i64 0, .int .i64 0] 41 (0, 0))) ∧ Hid (wg.heap[gg]? = some (.cells #[.slice A n c, .int .i64 p5, .int .i64 e5] 94 (0, 0))) from ⟨HK.out.1, HK.out.2.1, HK.out.2.2⟩)
  clear HK z1 u10 u11 u12 f10 f11 f12 z2 u20 u21 u22 u23 u24 u25 u26 z3 u30 u31 u32 f30 f31 f32
  go_loopw [44] (fun i wr => ∃ (j : Nat) (pj ej : Int), j ≤ m ∧ i = .int .i64 j ∧ Hid (cu zs p5 e5 j = (pj, ej)) ∧ Hid (wr.heap[w.heap.size]? = some (.cells #[.int .i64 q0, .int .i64 t0, .slice An nn cn] 24 (0, 0))) ∧ Hid (wr.heap[w.heap.size + 1]? = some (.cells #[.int .i64 0, .int .i64 0, .int .i64 0, .string ⟨#[]⟩, .int .i64 0, .int .i64 0, .int .i64 0] 41 (0, 0))) ∧ Hid (wr.heap[gg]? = some (.cells #[.slice A n c, .int .i64 pj, .int .i64 ej] 94 (0, 0))) ∧ Hid (wr.ownsRow (gg + 1) 2 1 (.slice (some ⟨GN, 0, none⟩) m m) m (ints (nmv m (fun j => IntKind.i64.wrap (va zs p5 e5 j)) j))) ∧ Below w.heap.size w wr)
    (fun i _ => m - (intOf i).toNat)
  case atStart => exact ⟨0, p5, e5, by omega, rfl, rfl, HKg.out.1, HKg.out.2.1, HKg.out.2.2, OWN0, hbwg⟩
  case round =>
    obtain ⟨j, pj, ej, hj, rfl, HC, H1, H2, H3, OWN, hbr⟩ := hrel
    have K1 := H1.out
    have K2 := H2.out
    have K3 := H3.out
    have z1 := blk_lt K1
    obtain ⟨u10, u11, u12, f10, f11, f12⟩ := blk3 K1
    have z2 := blk_lt K2
    obtain ⟨u20, u21, u22, u23, u24, u25, u26⟩ := blk7 K2
    have z3 := blk_lt K3
    obtain ⟨u30, u31, u32, f30, f31, f32⟩ := blk3 K3
    have HK := hid (And.intro K1 (And.intro K2 (K3)))
    clear K1 K2 K3
    by_cases hlt : j < m
    · clear H1 H2 H3
      obtain ⟨p', e', v', hu⟩ : ∃ p' e' v', uintS zs pj ej = (p', e', v') := ⟨_, _, _, rfl⟩
      have HCS := hid (cu_succ HC.out hu)
      have HU := hid hu
      clear hu
      go_wp2_with fail
      with_reducible refine (PU.out _ hbr _ _ _ _ _ HU.out).mono ?_
      rintro e wx ⟨rfl, hb2⟩
      have OWN2 := hid (own_below OWN.out hb2)
      have hbwx : Below w.heap.size w wx := hbr.trans (hb2.mono hbr.size)
      have K1 := (hb2.block _ z1).trans HK.out.1
      have K2 := (hb2.block _ z2).trans HK.out.2.1
      have K3 := (hb2.block _ z3).trans HK.out.2.2
      clear z1 u10 u11 u12 f10 f11 f12 z2 u20 u21 u22 u23 u24 u25 u26 z3 u30 u31 u32 f30 f31 f32 HK
      have z1 := blk_lt K1
      obtain ⟨u10, u11, u12, f10, f11, f12⟩ := blk3 K1
      have z2 := blk_lt K2
      obtain ⟨u20, u21, u22, u23, u24, u25, u26⟩ := blk7 K2
      have z3 := blk_lt K3
      obtain ⟨u30, u31, u32, f30, f31, f32⟩ := blk3 K3
      have HK := hid (And.intro K1 (And.intro K2 (K3)))
      clear K1 K2 K3
      have hcA := OWN2.out.cellAt j (by omega)
      have hcF := OWN2.out.frozenAt j
      have hcS : ∃ u9, (ints (nmv m (fun j => IntKind.i64.wrap (va zs p5 e5 j)) j))[j]? = some u9 := ⟨_, List.getElem?_eq_getElem (by rw [ints_len, nmv_len]; exact hlt)⟩
      obtain ⟨u9, hu9⟩ := hcS
      rw [hu9] at hcA
      clear hu9
      have hne1 : ¬ GN = gg := by omega
      have hne2 : ¬ gg = GN := by omega
      have hGl : GN < wx.heap.size := cell_lt hcA
      go_wp2_with fail
      go_roundw
      case rel =>
        have S3 := sto3 wx gg (.slice A n c) (.int .i64 p') (.int .i64 e')
        have E1 := (S3.block w.heap.size (by omega)).trans HK.out.1
        have E2 := (S3.block (w.heap.size + 1) (by omega)).trans HK.out.2.1
        have E3 := all3 (a' := .slice A n c) (b' := .int .i64 p') (c' := .int .i64 e') HK.out.2.2
        have OW4 := ((S3.own OWN2.out (by omega)).stored j (.int .i64 (wrap64 v'))).1
        have hset : (ints (nmv m (fun j => IntKind.i64.wrap (va zs p5 e5 j)) j)).set j (.int .i64 (wrap64 v')) = ints (nmv m (fun j => IntKind.i64.wrap (va zs p5 e5 j)) (j + 1)) := by
          rw [← HCS.out.2, w64]; exact nmv_set
        rw [hset] at OW4
        exact ⟨j + 1, p', e', by omega, by go_num, HCS.out.1, (Below.heap_setCell _ _ _ _ (by simp; omega)).trans E1, (Below.heap_setCell _ _ _ _ (by simp; omega)).trans E2, (Below.heap_setCell _ _ _ _ (by simp; omega)).trans E3, OW4, Below.setCell (S3.below hbwx (by omega)) (by simp; omega) _⟩
      case measure => simp [intOf]; omega
    · obtain rfl : j = m := by omega
      obtain ⟨AL, cL, hAL, h1L, h2L, h3L, SLL, -⟩ := own_reads OWN.out (Nat.le_refl _)
      simp only [Value.slice.injEq] at hAL
      obtain ⟨rfl, -, rfl⟩ := hAL
      have PF := hid (fun (w1 : World) (h : Below wr.heap.size wr w1) (q t k a b d : Int) (s : ByteArray) => Fill_any q t k s a b d (cp := j) (SLL.below h) h.size (by omega))
      have HSL := hid (nmv_all j (fun j => IntKind.i64.wrap (va zs p5 e5 j)))
      clear SLL h1L h2L h3L OWN
      go_wp2_with fail
      with_reducible refine (PF.out _ ((Below.refl _ _).alloc (Nat.le_refl _) _) _ _ _ _ _ _ _).mono ?_
      rintro e wx ⟨rfl, hb2⟩
      have K2 := (hb2.block _ (by simp; omega)).trans ((Below.heap_alloc _ _ _ z2).trans HK.out.2.1)
      have hbx : Below w.heap.size w wx := (hbr.alloc (by omega) _).trans (hb2.mono (by simp; omega))
      clear hb2 HK hbr z1 u10 u11 u12 f10 f11 f12 z2 u20 u21 u22 u23 u24 u25 u26 z3 u30 u31 u32 f30 f31 f32
      go_wp2_with (refine wpList_store_sto rfl 41 (.tmp 4) (.tmp 74) rfl (w.heap.size + 1) #[.int .i64 (wrap64 (q0 + wrap64 v2)), .int .i64 (wrap64 (t0 + wrap64 v3)), .int .i64 (wrap64 v1), .string s, .int .i64 (at3 (nmv j (fun j => IntKind.i64.wrap (va zs p5 e5 j)) j) 0), .int .i64 (at3 (nmv j (fun j => IntKind.i64.wrap (va zs p5 e5 j)) j) 1), .int .i64 (at3 (nmv j (fun j => IntKind.i64.wrap (va zs p5 e5 j)) j) 2)] rfl rfl 41 _ K2 ev7_size rfl (ev7_one _ _ _ _ _ _ _) ?_; intro w9 K9 S9; obtain ⟨r0, r1, r2, r3, r4, r5, r6⟩ := blk7 K9.out)
      have hb9 := S9.below hbx (by omega)
      refine bodyPost_ret (v := .agg #[.int .i64 (wrap64 (q0 + wrap64 v2)), .int .i64 (wrap64 (t0 + wrap64 v3)), .int .i64 (wrap64 v1), .string s, .int .i64 (at3 (nmv j (fun j => IntKind.i64.wrap (va zs p5 e5 j)) j) 0), .int .i64 (at3 (nmv j (fun j => IntKind.i64.wrap (va zs p5 e5 j)) j) 1), .int .i64 (at3 (nmv j (fun j => IntKind.i64.wrap (va zs p5 e5 j)) j) 2)]) (by simp [results, Tryz.results117, go_sem, r0, r1, r2, r3, r4, r5, r6]) rfl ⟨⟨_, _, _, _, _, _, _, rfl, HSZ, hid (fun y ok hz => ?_)⟩, hb9⟩
      rw [w64, w64, w64, w64, w64, HSL.out]
      exact (rd_eq HU1.out HU2.out HU3.out HU4.out HN.out HM.out (L := (List.range j).map fun j => IntKind.i64.wrap (va zs p5 e5 j)) (by rw [HKD.out, HMN.out, Int.toNat_natCast]) ok (rest := []) (by rw [List.append_nil]; exact hz)).1
end Go.Proofs.YtondnbnaoacanaaGreatDoor
