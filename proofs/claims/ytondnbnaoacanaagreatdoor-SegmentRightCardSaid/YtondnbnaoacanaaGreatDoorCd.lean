/- Texts laid together: Codec6, Codec7. -/
import Derived.Test.YtondnbnaoacanaaGreatDoorCc
/- Layer 7: contracts of the reference: Right, Behind, Same. -/
namespace Go.Proofs.YtondnbnaoacanaaGreatDoor
open Go.ChangeShapes Go.WideShapes Go.ChangeAt Go.RowKit Fb Go.Maps

set_option maxHeartbeats 2000000 in
theorem RRight7 (q0 t0 : Int) {A : Option Addr} {n cp : Nat} {ss : List ByteArray} {w : World} (hR : Rs w A n cp ss) (hn : n ≤ 1000000) :
    Calls Tryz.prog 6 #[.agg #[.int .i64 q0, .int .i64 t0, .slice A n cp]] w fun e w' => e = .returned (.bool (rcB q0 t0 ss)) ∧ Below w.heap.size w w' := by
  have hbA : Below w.heap.size w (w.alloc (.cells #[.int .i64 q0, .int .i64 t0, .slice A n cp] 24)) := (Below.refl _ _).alloc (Nat.le_refl _) _
  have PR := hid (RRight_any (c := cp) (hR.below hbA).1 (by unfold maxLen; omega))
  clear hR
  by_cases h1 : 0 ≤ q0
  · by_cases h2 : q0 ≤ 4294967296
    · by_cases h3 : 0 ≤ t0
      · by_cases h4 : t0 ≤ 1099511627776
        · have e : rcB q0 t0 ss = rgB ss := by unfold rcB; rw [decide_eq_true ⟨h1, h2⟩, decide_eq_true ⟨h3, h4⟩]; rfl
          rw [e]
          go_enter Tryz.func6, Tryz.ntmps6
          go_wp2_with fail
          refine PR.out.mono ?_
          rintro e w1 ⟨rfl, rfl⟩
          go_wp2_with fail
          go_ret
          exact ⟨rfl, hbA⟩
        · have e : rcB q0 t0 ss = false := by unfold rcB; rw [decide_eq_true ⟨h1, h2⟩, decide_eq_false (fun h => h4 h.2)]; rfl
          rw [e]
          go_enter Tryz.func6, Tryz.ntmps6
          go_wp2_with fail
          go_ret
          exact ⟨rfl, hbA⟩
      · have e : rcB q0 t0 ss = false := by unfold rcB; rw [decide_eq_true ⟨h1, h2⟩, decide_eq_false (fun h => h3 h.1)]; rfl
        rw [e]
        go_enter Tryz.func6, Tryz.ntmps6
        go_wp2_with fail
        go_ret
        exact ⟨rfl, hbA⟩
    · have e : rcB q0 t0 ss = false := by unfold rcB; rw [decide_eq_false (fun h => h2 h.2)]; rfl
      rw [e]
      go_enter Tryz.func6, Tryz.ntmps6
      go_wp2_with fail
      go_ret
      exact ⟨rfl, hbA⟩
  · have e : rcB q0 t0 ss = false := by unfold rcB; rw [decide_eq_false (fun h => h1 h.1)]; rfl
    rw [e]
    go_enter Tryz.func6, Tryz.ntmps6
    go_wp2_with fail
    go_ret
    exact ⟨rfl, hbA⟩

/-- what stands behind an event, and why not -/
def RFolls (w : World) (q0 t0 : Int) (ss : List ByteArray) (x : Ev) (e : Ending) (w' : World) : Prop :=
  (∃ (q1 t1 : Int) (A1 : Option Addr) (m1 c1 : Nat), e = .returned (.tuple #[.agg #[.int .i64 q1, .int .i64 t1, .slice A1 m1 c1], .int .i64 (enE q0 t0 ss x)]) ∧ (enE q0 t0 ss x = 0 → q1 = x.q ∧ t1 = x.t ∧ Rs w' A1 m1 c1 (flL ss x))) ∧ Below w.heap.size w w'

set_option maxRecDepth 100000 in
set_option maxHeartbeats 8000000 in
theorem Behind_any (q0 t0 : Int) {A : Option Addr} {n cp : Nat} {ss : List ByteArray} (q t k a b d : Int) (s : ByteArray) {w : World} (hR : Rs w A n cp ss) (hn : n ≤ 1000000) :
    Calls Tryz.prog 51 #[.agg #[.int .i64 q0, .int .i64 t0, .slice A n cp], .agg #[.int .i64 q, .int .i64 t, .int .i64 k, .string s, .int .i64 a, .int .i64 b, .int .i64 d]] w (RFolls w q0 t0 ss ⟨q, t, k, s, a, b, d⟩) := by
  have PRR := hid (fun (w1 : World) (h : Below w.heap.size w w1) => RRight7 q0 t0 (hR.below h) hn)
  have PC := hid (RCheck_any q t k s a b d)
  have PP := hid (fun (w1 : World) (h : Below w.heap.size w w1) => RPlace_any (c := cp) (hR.below h).1 (by unfold maxLen; omega) s)
  have PU := hid (fun (w1 : World) (h : Below w.heap.size w w1) => RPut_any (hR.below h) hn s)
  have HR := hid (fun (w1 : World) (h : Below w.heap.size w w1) => hR.below h)
  have hbA : Below w.heap.size w (((w.alloc (.cells #[.int .i64 q0, .int .i64 t0, .slice A n cp] 24)).alloc (.cells #[.int .i64 q, .int .i64 t, .int .i64 k, .string s, .int .i64 a, .int .i64 b, .int .i64 d] 41)).alloc (.cells #[.int .i64 0, .int .i64 0, .slice none 0 0] 24)) := (((Below.refl _ _).alloc (Nat.le_refl _) _).alloc (by simp) _).alloc (by simp; omega) _
  have hq := plc_le s ss
  clear hR
  cases hr : rcB q0 t0 ss with
  | false =>
    have en := en_bad (x := ⟨q, t, k, s, a, b, d⟩) hr
    rw [hr] at PRR
    unfold RFolls
    rw [en]
    clear en
    go_enter Tryz.func51, Tryz.ntmps51
    go_wp2_with fail
    refine (PRR.out _ hbA).mono ?_
    rintro e wa ⟨rfl, hb1⟩
    have hbwa : Below w.heap.size w wa := hbA.trans (hb1.mono hbA.size)
    obtain ⟨K1, K2, K3⟩ := kept3 hb1
    have z1 := blk_lt K1
    obtain ⟨u10, u11, u12, f10, f11, f12⟩ := blk3 K1
    have z2 := blk_lt K2
    obtain ⟨u20, u21, u22, u23, u24, u25, u26⟩ := blk7 K2
    have z3 := blk_lt K3
    obtain ⟨u30, u31, u32, f30, f31, f32⟩ := blk3 K3
    have HK := hid (And.intro K1 (And.intro K2 (K3)))
    clear K1 K2 K3
    clear hb1
    go_wp2_with fail
    refine bodyPost_ret (v := .tuple #[.agg #[.int .i64 q0, .int .i64 t0, .slice A n cp], .int .i64 1]) (by simp [results, Tryz.results51, go_sem, u30, u31, u32]) rfl ⟨⟨_, _, _, _, _, rfl, fun h => absurd h (by decide)⟩, ?_⟩
    exact Below.setCell (Below.setCell (Below.setCell hbwa (by simp; omega) _) (by simp; omega) _) (by simp; omega) _
  | true =>
    have en := en_fl (x := ⟨q, t, k, s, a, b, d⟩) hr
    rw [hr] at PRR
    by_cases hc : chI q t k s a b d = 0
    case neg =>
      have fl := fl_ch (q0 := q0) (t0 := t0) (ss := ss) hc
      unfold RFolls
      rw [en, fl]
      clear fl en
      generalize chI q t k s a b d = ch at *
      go_enter Tryz.func51, Tryz.ntmps51
      go_wp2_with fail
      refine (PRR.out _ hbA).mono ?_
      rintro e wa ⟨rfl, hb1⟩
      have hbwa : Below w.heap.size w wa := hbA.trans (hb1.mono hbA.size)
      obtain ⟨K1, K2, K3⟩ := kept3 hb1
      have z1 := blk_lt K1
      obtain ⟨u10, u11, u12, f10, f11, f12⟩ := blk3 K1
      have z2 := blk_lt K2
      obtain ⟨u20, u21, u22, u23, u24, u25, u26⟩ := blk7 K2
      have z3 := blk_lt K3
      obtain ⟨u30, u31, u32, f30, f31, f32⟩ := blk3 K3
      have HK := hid (And.intro K1 (And.intro K2 (K3)))
      clear K1 K2 K3
      clear hb1
      go_wp2_with fail
      refine (PC.out _).mono ?_
      rintro e wb ⟨rfl, hb1⟩
      have hbwb : Below w.heap.size w wb := hbwa.trans (hb1.mono hbwa.size)
      have K1 := (hb1.block _ z1).trans HK.out.1
      have K2 := (hb1.block _ z2).trans HK.out.2.1
      have K3 := (hb1.block _ z3).trans HK.out.2.2
      clear z1 u10 u11 u12 f10 f11 f12 z2 u20 u21 u22 u23 u24 u25 u26 z3 u30 u31 u32 f30 f31 f32 HK
      have z1 := blk_lt K1
      obtain ⟨u10, u11, u12, f10, f11, f12⟩ := blk3 K1
      have z2 := blk_lt K2
      obtain ⟨u20, u21, u22, u23, u24, u25, u26⟩ := blk7 K2
      have z3 := blk_lt K3
      obtain ⟨u30, u31, u32, f30, f31, f32⟩ := blk3 K3
      have HK := hid (And.intro K1 (And.intro K2 (K3)))
      clear K1 K2 K3
      clear hb1
      go_wp2_with fail
      refine bodyPost_ret (v := .tuple #[.agg #[.int .i64 q0, .int .i64 t0, .slice A n cp], .int .i64 ch]) (by simp [results, Tryz.results51, go_sem, u30, u31, u32]) rfl ⟨⟨_, _, _, _, _, rfl, fun h => absurd h hc⟩, ?_⟩
      exact Below.setCell (Below.setCell (Below.setCell hbwb (by simp; omega) _) (by simp; omega) _) (by simp; omega) _
    case pos =>
      rw [hc] at PC
      by_cases h1 : q ≤ q0
      · have fl := fl_seq (t0 := t0) (ss := ss) hc h1
        unfold RFolls
        rw [en, fl]
        clear fl en
        go_enter Tryz.func51, Tryz.ntmps51
        go_wp2_with fail
        refine (PRR.out _ hbA).mono ?_
        rintro e wa ⟨rfl, hb1⟩
        have hbwa : Below w.heap.size w wa := hbA.trans (hb1.mono hbA.size)
        obtain ⟨K1, K2, K3⟩ := kept3 hb1
        have z1 := blk_lt K1
        obtain ⟨u10, u11, u12, f10, f11, f12⟩ := blk3 K1
        have z2 := blk_lt K2
        obtain ⟨u20, u21, u22, u23, u24, u25, u26⟩ := blk7 K2
        have z3 := blk_lt K3
        obtain ⟨u30, u31, u32, f30, f31, f32⟩ := blk3 K3
        have HK := hid (And.intro K1 (And.intro K2 (K3)))
        clear K1 K2 K3
        clear hb1
        go_wp2_with fail
        refine (PC.out _).mono ?_
        rintro e wb ⟨rfl, hb1⟩
        have hbwb : Below w.heap.size w wb := hbwa.trans (hb1.mono hbwa.size)
        have K1 := (hb1.block _ z1).trans HK.out.1
        have K2 := (hb1.block _ z2).trans HK.out.2.1
        have K3 := (hb1.block _ z3).trans HK.out.2.2
        clear z1 u10 u11 u12 f10 f11 f12 z2 u20 u21 u22 u23 u24 u25 u26 z3 u30 u31 u32 f30 f31 f32 HK
        have z1 := blk_lt K1
        obtain ⟨u10, u11, u12, f10, f11, f12⟩ := blk3 K1
        have z2 := blk_lt K2
        obtain ⟨u20, u21, u22, u23, u24, u25, u26⟩ := blk7 K2
        have z3 := blk_lt K3
        obtain ⟨u30, u31, u32, f30, f31, f32⟩ := blk3 K3
        have HK := hid (And.intro K1 (And.intro K2 (K3)))
        clear K1 K2 K3
        clear hb1
        go_wp2_with fail
        refine bodyPost_ret (v := .tuple #[.agg #[.int .i64 q0, .int .i64 t0, .slice A n cp], .int .i64 1]) (by simp [results, Tryz.results51, go_sem, u30, u31, u32]) rfl ⟨⟨_, _, _, _, _, rfl, fun h => absurd h (by decide)⟩, ?_⟩
        exact Below.setCell (Below.setCell (Below.setCell hbwb (by simp; omega) _) (by simp; omega) _) (by simp; omega) _
      · by_cases h2 : t < t0
        · have fl := fl_time (ss := ss) hc h1 h2
          unfold RFolls
          rw [en, fl]
          clear fl en
          go_enter Tryz.func51, Tryz.ntmps51
          go_wp2_with fail
          refine (PRR.out _ hbA).mono ?_
          rintro e wa ⟨rfl, hb1⟩
          have hbwa : Below w.heap.size w wa := hbA.trans (hb1.mono hbA.size)
          obtain ⟨K1, K2, K3⟩ := kept3 hb1
          have z1 := blk_lt K1
          obtain ⟨u10, u11, u12, f10, f11, f12⟩ := blk3 K1
          have z2 := blk_lt K2
          obtain ⟨u20, u21, u22, u23, u24, u25, u26⟩ := blk7 K2
          have z3 := blk_lt K3
          obtain ⟨u30, u31, u32, f30, f31, f32⟩ := blk3 K3
          have HK := hid (And.intro K1 (And.intro K2 (K3)))
          clear K1 K2 K3
          clear hb1
          go_wp2_with fail
          refine (PC.out _).mono ?_
          rintro e wb ⟨rfl, hb1⟩
          have hbwb : Below w.heap.size w wb := hbwa.trans (hb1.mono hbwa.size)
          have K1 := (hb1.block _ z1).trans HK.out.1
          have K2 := (hb1.block _ z2).trans HK.out.2.1
          have K3 := (hb1.block _ z3).trans HK.out.2.2
          clear z1 u10 u11 u12 f10 f11 f12 z2 u20 u21 u22 u23 u24 u25 u26 z3 u30 u31 u32 f30 f31 f32 HK
          have z1 := blk_lt K1
          obtain ⟨u10, u11, u12, f10, f11, f12⟩ := blk3 K1
          have z2 := blk_lt K2
          obtain ⟨u20, u21, u22, u23, u24, u25, u26⟩ := blk7 K2
          have z3 := blk_lt K3
          obtain ⟨u30, u31, u32, f30, f31, f32⟩ := blk3 K3
          have HK := hid (And.intro K1 (And.intro K2 (K3)))
          clear K1 K2 K3
          clear hb1
          go_wp2_with fail
          refine bodyPost_ret (v := .tuple #[.agg #[.int .i64 q0, .int .i64 t0, .slice A n cp], .int .i64 5]) (by simp [results, Tryz.results51, go_sem, u30, u31, u32]) rfl ⟨⟨_, _, _, _, _, rfl, fun h => absurd h (by decide)⟩, ?_⟩
          exact Below.setCell (Below.setCell (Below.setCell hbwb (by simp; omega) _) (by simp; omega) _) (by simp; omega) _
        · by_cases h3 : plc s ss = 0
          · obtain ⟨fl, fl2⟩ := fl_new (q0 := q0) (t0 := t0) hc h1 h2 h3
            unfold RFolls
            rw [en, fl, fl2]
            clear fl fl2 hq en
            rw [h3] at PP
            clear h3 hc
            by_cases h4 : puE ss s = 0
            · rw [h4] at PU
              rw [h4]
              clear h4
              go_enter Tryz.func51, Tryz.ntmps51
              go_wp2_with fail
              refine (PRR.out _ hbA).mono ?_
              rintro e wa ⟨rfl, hb1⟩
              have hbwa : Below w.heap.size w wa := hbA.trans (hb1.mono hbA.size)
              obtain ⟨K1, K2, K3⟩ := kept3 hb1
              have z1 := blk_lt K1
              obtain ⟨u10, u11, u12, f10, f11, f12⟩ := blk3 K1
              have z2 := blk_lt K2
              obtain ⟨u20, u21, u22, u23, u24, u25, u26⟩ := blk7 K2
              have z3 := blk_lt K3
              obtain ⟨u30, u31, u32, f30, f31, f32⟩ := blk3 K3
              have HK := hid (And.intro K1 (And.intro K2 (K3)))
              clear K1 K2 K3
              clear hb1
              go_wp2_with fail
              refine (PC.out _).mono ?_
              rintro e wb ⟨rfl, hb1⟩
              have hbwb : Below w.heap.size w wb := hbwa.trans (hb1.mono hbwa.size)
              have K1 := (hb1.block _ z1).trans HK.out.1
              have K2 := (hb1.block _ z2).trans HK.out.2.1
              have K3 := (hb1.block _ z3).trans HK.out.2.2
              clear z1 u10 u11 u12 f10 f11 f12 z2 u20 u21 u22 u23 u24 u25 u26 z3 u30 u31 u32 f30 f31 f32 HK
              have z1 := blk_lt K1
              obtain ⟨u10, u11, u12, f10, f11, f12⟩ := blk3 K1
              have z2 := blk_lt K2
              obtain ⟨u20, u21, u22, u23, u24, u25, u26⟩ := blk7 K2
              have z3 := blk_lt K3
              obtain ⟨u30, u31, u32, f30, f31, f32⟩ := blk3 K3
              have HK := hid (And.intro K1 (And.intro K2 (K3)))
              clear K1 K2 K3
              clear hb1
              go_wp2_with fail
              refine (PP.out _ hbwb).mono ?_
              rintro e w9 ⟨rfl, rfl⟩
              go_wp2_with fail
              refine (PU.out _ hbwb).mono ?_
              rintro e wc ⟨⟨A3, m3, c3, rfl, hR3⟩, hb1⟩
              have hbwc : Below w.heap.size w wc := hbwb.trans (hb1.mono hbwb.size)
              have K1 := (hb1.block _ z1).trans HK.out.1
              have K2 := (hb1.block _ z2).trans HK.out.2.1
              have K3 := (hb1.block _ z3).trans HK.out.2.2
              clear z1 u10 u11 u12 f10 f11 f12 z2 u20 u21 u22 u23 u24 u25 u26 z3 u30 u31 u32 f30 f31 f32 HK
              have z1 := blk_lt K1
              obtain ⟨u10, u11, u12, f10, f11, f12⟩ := blk3 K1
              have z2 := blk_lt K2
              obtain ⟨u20, u21, u22, u23, u24, u25, u26⟩ := blk7 K2
              have z3 := blk_lt K3
              obtain ⟨u30, u31, u32, f30, f31, f32⟩ := blk3 K3
              have HK := hid (And.intro K1 (And.intro K2 (K3)))
              clear K1 K2 K3
              clear hb1
              have HR3 := hid (hR3.sto HK.out.2.2 (sto3 wc (w.heap.size + 1 + 1) (.int .i64 q) (.int .i64 t) (.slice A3 m3 c3)))
              clear hR3
              go_wp2_with fail
              refine bodyPost_ret (v := .tuple #[.agg #[.int .i64 q, .int .i64 t, .slice A3 m3 c3], .int .i64 0]) (by simp [results, Tryz.results51, go_sem, u30, u31, u32]) rfl ⟨⟨_, _, _, _, _, rfl, fun _ => ⟨rfl, rfl, HR3.out⟩⟩, ?_⟩
              exact Below.setCell (Below.setCell (Below.setCell hbwc (by simp; omega) _) (by simp; omega) _) (by simp; omega) _
            · generalize puE ss s = pe at *
              go_enter Tryz.func51, Tryz.ntmps51
              go_wp2_with fail
              refine (PRR.out _ hbA).mono ?_
              rintro e wa ⟨rfl, hb1⟩
              have hbwa : Below w.heap.size w wa := hbA.trans (hb1.mono hbA.size)
              obtain ⟨K1, K2, K3⟩ := kept3 hb1
              have z1 := blk_lt K1
              obtain ⟨u10, u11, u12, f10, f11, f12⟩ := blk3 K1
              have z2 := blk_lt K2
              obtain ⟨u20, u21, u22, u23, u24, u25, u26⟩ := blk7 K2
              have z3 := blk_lt K3
              obtain ⟨u30, u31, u32, f30, f31, f32⟩ := blk3 K3
              have HK := hid (And.intro K1 (And.intro K2 (K3)))
              clear K1 K2 K3
              clear hb1
              go_wp2_with fail
              refine (PC.out _).mono ?_
              rintro e wb ⟨rfl, hb1⟩
              have hbwb : Below w.heap.size w wb := hbwa.trans (hb1.mono hbwa.size)
              have K1 := (hb1.block _ z1).trans HK.out.1
              have K2 := (hb1.block _ z2).trans HK.out.2.1
              have K3 := (hb1.block _ z3).trans HK.out.2.2
              clear z1 u10 u11 u12 f10 f11 f12 z2 u20 u21 u22 u23 u24 u25 u26 z3 u30 u31 u32 f30 f31 f32 HK
              have z1 := blk_lt K1
              obtain ⟨u10, u11, u12, f10, f11, f12⟩ := blk3 K1
              have z2 := blk_lt K2
              obtain ⟨u20, u21, u22, u23, u24, u25, u26⟩ := blk7 K2
              have z3 := blk_lt K3
              obtain ⟨u30, u31, u32, f30, f31, f32⟩ := blk3 K3
              have HK := hid (And.intro K1 (And.intro K2 (K3)))
              clear K1 K2 K3
              clear hb1
              go_wp2_with fail
              refine (PP.out _ hbwb).mono ?_
              rintro e w9 ⟨rfl, rfl⟩
              go_wp2_with fail
              refine (PU.out _ hbwb).mono ?_
              rintro e wc ⟨⟨A3, m3, c3, rfl, hR3⟩, hb1⟩
              have hbwc : Below w.heap.size w wc := hbwb.trans (hb1.mono hbwb.size)
              have K1 := (hb1.block _ z1).trans HK.out.1
              have K2 := (hb1.block _ z2).trans HK.out.2.1
              have K3 := (hb1.block _ z3).trans HK.out.2.2
              clear z1 u10 u11 u12 f10 f11 f12 z2 u20 u21 u22 u23 u24 u25 u26 z3 u30 u31 u32 f30 f31 f32 HK
              have z1 := blk_lt K1
              obtain ⟨u10, u11, u12, f10, f11, f12⟩ := blk3 K1
              have z2 := blk_lt K2
              obtain ⟨u20, u21, u22, u23, u24, u25, u26⟩ := blk7 K2
              have z3 := blk_lt K3
              obtain ⟨u30, u31, u32, f30, f31, f32⟩ := blk3 K3
              have HK := hid (And.intro K1 (And.intro K2 (K3)))
              clear K1 K2 K3
              clear hb1
              clear hR3
              go_wp2_with fail
              refine bodyPost_ret (v := .tuple #[.agg #[.int .i64 q0, .int .i64 t0, .slice A n cp], .int .i64 pe]) (by simp [results, Tryz.results51, go_sem, u30, u31, u32]) rfl ⟨⟨_, _, _, _, _, rfl, fun h => absurd h h4⟩, ?_⟩
              exact Below.setCell (Below.setCell (Below.setCell hbwc (by simp; omega) _) (by simp; omega) _) (by simp; omega) _
          · obtain ⟨fl, fl2⟩ := fl_known (q0 := q0) (t0 := t0) hc h1 h2 h3
            unfold RFolls
            rw [en, fl, fl2]
            clear fl fl2 hc en
            generalize plc s ss = p at *
            have h3' : ¬ (p : Int) = 0 := by omega
            clear hq h3
            go_enter Tryz.func51, Tryz.ntmps51
            go_wp2_with fail
            refine (PRR.out _ hbA).mono ?_
            rintro e wa ⟨rfl, hb1⟩
            have hbwa : Below w.heap.size w wa := hbA.trans (hb1.mono hbA.size)
            obtain ⟨K1, K2, K3⟩ := kept3 hb1
            have z1 := blk_lt K1
            obtain ⟨u10, u11, u12, f10, f11, f12⟩ := blk3 K1
            have z2 := blk_lt K2
            obtain ⟨u20, u21, u22, u23, u24, u25, u26⟩ := blk7 K2
            have z3 := blk_lt K3
            obtain ⟨u30, u31, u32, f30, f31, f32⟩ := blk3 K3
            have HK := hid (And.intro K1 (And.intro K2 (K3)))
            clear K1 K2 K3
            clear hb1
            go_wp2_with fail
            refine (PC.out _).mono ?_
            rintro e wb ⟨rfl, hb1⟩
            have hbwb : Below w.heap.size w wb := hbwa.trans (hb1.mono hbwa.size)
            have K1 := (hb1.block _ z1).trans HK.out.1
            have K2 := (hb1.block _ z2).trans HK.out.2.1
            have K3 := (hb1.block _ z3).trans HK.out.2.2
            clear z1 u10 u11 u12 f10 f11 f12 z2 u20 u21 u22 u23 u24 u25 u26 z3 u30 u31 u32 f30 f31 f32 HK
            have z1 := blk_lt K1
            obtain ⟨u10, u11, u12, f10, f11, f12⟩ := blk3 K1
            have z2 := blk_lt K2
            obtain ⟨u20, u21, u22, u23, u24, u25, u26⟩ := blk7 K2
            have z3 := blk_lt K3
            obtain ⟨u30, u31, u32, f30, f31, f32⟩ := blk3 K3
            have HK := hid (And.intro K1 (And.intro K2 (K3)))
            clear K1 K2 K3
            clear hb1
            go_wp2_with fail
            refine (PP.out _ hbwb).mono ?_
            rintro e w9 ⟨rfl, rfl⟩
            go_wp2_with fail
            refine bodyPost_ret (v := .tuple #[.agg #[.int .i64 q, .int .i64 t, .slice A n cp], .int .i64 0]) (by simp [results, Tryz.results51, go_sem, u30, u31, u32]) rfl ⟨⟨_, _, _, _, _, rfl, fun _ => ⟨rfl, rfl, HR.out _ (Below.setCell (Below.setCell (Below.setCell hbwb (by simp; omega) _) (by simp; omega) _) (by simp; omega) _)⟩⟩, ?_⟩
            exact Below.setCell (Below.setCell (Below.setCell hbwb (by simp; omega) _) (by simp; omega) _) (by simp; omega) _
end Go.Proofs.YtondnbnaoacanaaGreatDoor
/- Layer 7: contract of the reference: Encode. -/
namespace Go.Proofs.YtondnbnaoacanaaGreatDoor
open Go.ChangeShapes Go.WideShapes Go.ChangeAt Go.RowKit Fb Go.Maps

set_option maxRecDepth 100000 in
set_option maxHeartbeats 16000000 in
theorem REncode_any (q0 t0 : Int) {A : Option Addr} {n cp : Nat} {ss : List ByteArray} (q t k a b d : Int) (s : ByteArray) {w : World} (hR : Rs w A n cp ss) (hn : n ≤ 1000000) :
    Calls Tryz.prog 32 #[.agg #[.int .i64 q0, .int .i64 t0, .slice A n cp], .agg #[.int .i64 q, .int .i64 t, .int .i64 k, .string s, .int .i64 a, .int .i64 b, .int .i64 d]] w (Encs w q0 t0 ss ⟨q, t, k, s, a, b, d⟩) := by
  have PB := hid (fun (w1 : World) (h : Below w.heap.size w w1) => Behind_any q0 t0 q t k a b d s (hR.below h) hn)
  unfold RFolls at PB
  have PP := hid (fun (w1 : World) (h : Below w.heap.size w w1) => RPlace_any (c := cp) (hR.below h).1 (by unfold maxLen; omega) s)
  have PN := hid (RNumbers_any q t k s a b d)
  have HR := hid (fun (w1 : World) (h : Below w.heap.size w w1) => hR.below h)
  have hbA : Below w.heap.size w (((w.alloc (.cells #[.int .i64 q0, .int .i64 t0, .slice A n cp] 24)).alloc (.cells #[.int .i64 q, .int .i64 t, .int .i64 k, .string s, .int .i64 a, .int .i64 b, .int .i64 d] 41)).alloc (.cells #[.int .i64 0, .int .i64 0, .slice none 0 0] 24)) := (((Below.refl _ _).alloc (Nat.le_refl _) _).alloc (by simp) _).alloc (by simp; omega) _
  clear hR
  by_cases h0 : enE q0 t0 ss ⟨q, t, k, s, a, b, d⟩ = 0
  case neg =>
    obtain ⟨n1, n2, n3, n4⟩ := en_not h0
    unfold Encs
    rw [n1, n2, n3, n4]
    clear n1 n2 n3 n4
    generalize enE q0 t0 ss ⟨q, t, k, s, a, b, d⟩ = E at *
    go_enter Tryz.func32, Tryz.ntmps32
    go_wp2_with fail
    refine (PB.out _ hbA).mono ?_
    rintro e wa ⟨⟨q1, t1, A2, m2, c2, rfl, -⟩, hb1⟩
    have hbwa : Below w.heap.size w wa := hbA.trans (hb1.mono hbA.size)
    obtain ⟨K1, K2, K3⟩ := kept3 hb1
    have z1 := blk_lt K1
    obtain ⟨u10, u11, u12, f10, f11, f12⟩ := blk3 K1
    have z2 := blk_lt K2
    obtain ⟨u20, u21, u22, u23, u24, u25, u26⟩ := blk7 K2
    have z3 := blk_lt K3
    obtain ⟨u30, u31, u32, f30, f31, f32⟩ := blk3 K3
    have HK := hid (And.intro K1 (And.intro K2 (K3)))
    clear K1 K2 K3
    clear hb1
    go_wp2_with fail
    go_region
    go_wp2
    refine bodyPost_ret (v := .tuple #[.slice none 0 0, .agg #[.int .i64 q0, .int .i64 t0, .slice A n cp], .int .i64 E]) (by simp [results, Tryz.results32, go_sem, z3, u30, u31, u32]) rfl ⟨⟨none, 0, 0, A, n, cp, rfl, Rw.nil _, HR.out _ ?_⟩, ?_⟩
    all_goals exact Below.drew (Below.alloc (Below.setCell (Below.setCell (Below.setCell hbwa (by simp; omega) _) (by simp; omega) _) (by simp; omega) _) (by simp; omega) _)
  case pos =>
    obtain ⟨hr, h1, n1, n2, n3, n4⟩ := en_zero h0
    have ok := fl_ok hr h1
    unfold Encs
    rw [h0, n1, n2, n3, n4]
    rw [h0] at PB
    clear n1 n2 n3 n4 h0 h1 hr
    have hs := nm_size ok.nm
    simp only at hs
    have HH4 : Hid ((((([] ++ leb k.toNat) ++ leb (q - q0).toNat) ++ leb (t - t0).toNat) ++ leb (plc s ss)) = h4 q0 t0 ss ⟨q, t, k, s, a, b, d⟩) := rfl
    have HSP : Hid (spB q0 t0 ss ⟨q, t, k, s, a, b, d⟩ = (h4 q0 t0 ss ⟨q, t, k, s, a, b, d⟩ ++ tx ss ⟨q, t, k, s, a, b, d⟩) ++ lebs ([a, b, d].take (mnI k).toNat)) := rfl
    have HTX : Hid ((plc s ss = 0 → tx ss ⟨q, t, k, s, a, b, d⟩ = leb s.size ++ sI s) ∧ (plc s ss ≠ 0 → tx ss ⟨q, t, k, s, a, b, d⟩ = [])) := hid ⟨fun h => if_pos h, fun h => if_neg h⟩
    have HL := hid (nm_in ok.vl)
    have HLL := hid (nm_len ⟨q, t, k, s, a, b, d⟩)
    unfold nmL at HL HLL
    simp only at HL HLL
    have H13 := hid (sp_len ok).1
    have HTL : Hid ((h4 q0 t0 ss ⟨q, t, k, s, a, b, d⟩ ++ tx ss ⟨q, t, k, s, a, b, d⟩).length ≤ 1000) := by
      have h1 := (sp_len ok).2.2.2.1
      unfold spB at h1
      rw [List.length_append] at h1
      show _ ≤ _
      omega
    have LN : Hid (([] ++ leb k.toNat).length ≤ 100000 ∧ (([] ++ leb k.toNat) ++ leb (q - q0).toNat).length ≤ 100000 ∧ ((([] ++ leb k.toNat) ++ leb (q - q0).toNat) ++ leb (t - t0).toNat).length ≤ 100000) := by
      have h1 := (sp_len ok).1
      unfold h4 at h1
      simp only [List.length_append] at h1
      refine ⟨?_, ?_, ?_⟩ <;> simp only [List.length_append] <;> omega
    have hm3 := mn_le k
    have k1 := ok.k1
    have k2 := ok.k2
    have q1 := ok.q
    have q2 := ok.q2
    have t1 := ok.t
    have t2 := ok.t2
    have q3 := ok.q0
    have t3 := ok.t0
    simp only at k1 k2 q1 q2 t1 t2
    have hpl : plc s ss ≤ 32 := Nat.le_trans (plc_le s ss) ((rgB_iff ss).1 ok.rg).1
    obtain ⟨K, hK⟩ : ∃ K : Nat, k.toNat = K := ⟨_, rfl⟩
    obtain ⟨DQ, hDQ⟩ : ∃ K : Nat, (q - q0).toNat = K := ⟨_, rfl⟩
    obtain ⟨DT, hDT⟩ : ∃ K : Nat, (t - t0).toNat = K := ⟨_, rfl⟩
    rw [hK, hDQ, hDT] at HH4 LN
    have w1 : IntKind.u64.wrap k = (K : Int) := by rw [u64_in _ (by omega) (by omega)]; omega
    have w2 : IntKind.u64.wrap (q - q0) = (DQ : Int) := by rw [u64_in _ (by omega) (by omega)]; omega
    have w3 : IntKind.u64.wrap (t - t0) = (DT : Int) := by rw [u64_in _ (by omega) (by omega)]; omega
    have w4 : IntKind.u64.wrap (plc s ss : Nat) = ((plc s ss : Nat) : Int) := u64_in _ (by omega) (by omega)
    have hKm : Hid (K < 18446744073709551616 ∧ DQ < 18446744073709551616 ∧ DT < 18446744073709551616 ∧ plc s ss < 18446744073709551616) := by refine ⟨?_, ?_, ?_, ?_⟩ <;> omega
    clear ok hK hDQ hDT
    obtain ⟨FL, hFL⟩ : ∃ FL, flL ss ⟨q, t, k, s, a, b, d⟩ = FL := ⟨_, rfl⟩
    rw [hFL] at PB
    rw [hFL]
    clear hFL
    generalize spB q0 t0 ss ⟨q, t, k, s, a, b, d⟩ = SP at *
    generalize h4 q0 t0 ss ⟨q, t, k, s, a, b, d⟩ = H4 at *
    generalize tx ss ⟨q, t, k, s, a, b, d⟩ = TX at *
    generalize [a, b, d].take (mnI k).toNat = L at *
    generalize plc s ss = p at *
    obtain ⟨m, hm⟩ : ∃ m : Nat, (mnI k).toNat = m := ⟨_, rfl⟩
    rw [hm] at PN HLL
    have hm3' : m ≤ 3 := by omega
    clear hm hm3
    go_enter Tryz.func32, Tryz.ntmps32
    go_wp2_with fail
    refine (PB.out _ hbA).mono ?_
    rintro e wa ⟨⟨qx, ty, A2, m2, cx, rfl, hF⟩, hb1⟩
    have hbwa : Below w.heap.size w wa := hbA.trans (hb1.mono hbA.size)
    obtain ⟨K1, K2, K3⟩ := kept3 hb1
    have z1 := blk_lt K1
    obtain ⟨u10, u11, u12, f10, f11, f12⟩ := blk3 K1
    have z2 := blk_lt K2
    obtain ⟨u20, u21, u22, u23, u24, u25, u26⟩ := blk7 K2
    have z3 := blk_lt K3
    obtain ⟨u30, u31, u32, f30, f31, f32⟩ := blk3 K3
    have HK := hid (And.intro K1 (And.intro K2 (K3)))
    clear K1 K2 K3
    obtain ⟨rfl, rfl, hR5⟩ : q = qx ∧ t = ty ∧ _ := ⟨(hF trivial).1.symm, (hF trivial).2.1.symm, (hF trivial).2.2⟩
    have HR5 := hid hR5
    clear hb1 hF hR5
    go_wp2_with fail
    refine (RPutU (m := K) (Rw.nil _) (by simp) hKm.out.1).mono ?_
    rintro e wb ⟨⟨A1, n1, c1, rfl, hR1⟩, hb2⟩
    have HR6 := hid ((HR5.out.below ((Below.refl _ _).alloc (Nat.le_refl _) _)).below hb2)
    have hbwb : Below w.heap.size w wb := (hbwa.alloc (by omega) _).trans (hb2.mono (by simp; omega))
    have K1 := (hb2.block _ (by simp; omega)).trans ((Below.heap_alloc _ _ _ z1).trans HK.out.1)
    have K2 := (hb2.block _ (by simp; omega)).trans ((Below.heap_alloc _ _ _ z2).trans HK.out.2.1)
    have K3 := (hb2.block _ (by simp; omega)).trans ((Below.heap_alloc _ _ _ z3).trans HK.out.2.2)
    have K4 := (hb2.block _ (by simp)).trans (heap_alloc_new wa _)
    obtain ⟨gx, hgx⟩ : ∃ g, wa.heap.size = g := ⟨_, rfl⟩
    have lgx : w.heap.size + 3 ≤ gx := by omega
    rw [hgx] at K4
    clear z1 u10 u11 u12 f10 f11 f12 z2 u20 u21 u22 u23 u24 u25 u26 z3 u30 u31 u32 f30 f31 f32 HK
    have z1 := blk_lt K1
    obtain ⟨u10, u11, u12, f10, f11, f12⟩ := blk3 K1
    have z2 := blk_lt K2
    obtain ⟨u20, u21, u22, u23, u24, u25, u26⟩ := blk7 K2
    have z3 := blk_lt K3
    obtain ⟨u30, u31, u32, f30, f31, f32⟩ := blk3 K3
    have z4 := blk_lt K4
    obtain ⟨u40, u41, u42, f40, f41, f42⟩ := blk3 K4
    have HK := hid (And.intro K1 (And.intro K2 (And.intro K3 (K4))))
    clear K1 K2 K3 K4
    rw [hgx]
    have HR1 := hid hR1
    clear hR1 HR5 hgx hbwa
    go_wp2_with fail
    refine (RPutU (m := DQ) HR1.out LN.out.1 hKm.out.2.1).mono ?_
    rintro e wc ⟨⟨A5, n2, c2, rfl, hR2⟩, hb2⟩
    have HRn := hid (HR6.out.below hb2)
    clear HR6
    have HR6 := HRn
    clear HRn
    have hbwc : Below w.heap.size w wc := hbwb.trans (hb2.mono hbwb.size)
    have K1 := (hb2.block _ z1).trans HK.out.1
    have K2 := (hb2.block _ z2).trans HK.out.2.1
    have K3 := (hb2.block _ z3).trans HK.out.2.2.1
    have K4 := (hb2.block _ z4).trans HK.out.2.2.2
    clear z1 u10 u11 u12 f10 f11 f12 z2 u20 u21 u22 u23 u24 u25 u26 z3 u30 u31 u32 f30 f31 f32 z4 u40 u41 u42 f40 f41 f42 HK
    have z1 := blk_lt K1
    obtain ⟨u10, u11, u12, f10, f11, f12⟩ := blk3 K1
    have z2 := blk_lt K2
    obtain ⟨u20, u21, u22, u23, u24, u25, u26⟩ := blk7 K2
    have z3 := blk_lt K3
    obtain ⟨u30, u31, u32, f30, f31, f32⟩ := blk3 K3
    have z4 := blk_lt K4
    obtain ⟨u40, u41, u42, f40, f41, f42⟩ := blk3 K4
    have HK := hid (And.intro K1 (And.intro K2 (And.intro K3 (K4))))
    clear K1 K2 K3 K4
    have HR2 := hid hR2
    clear hR2 hb2 hbwb
    go_wp2_with fail
    refine (RPutU (m := DT) HR2.out LN.out.2.1 hKm.out.2.2.1).mono ?_
    rintro e wd ⟨⟨A6, n3, c3, rfl, hR3⟩, hb2⟩
    have HRn := hid (HR6.out.below hb2)
    clear HR6
    have HR6 := HRn
    clear HRn
    have hbwd : Below w.heap.size w wd := hbwc.trans (hb2.mono hbwc.size)
    have K1 := (hb2.block _ z1).trans HK.out.1
    have K2 := (hb2.block _ z2).trans HK.out.2.1
    have K3 := (hb2.block _ z3).trans HK.out.2.2.1
    have K4 := (hb2.block _ z4).trans HK.out.2.2.2
    clear z1 u10 u11 u12 f10 f11 f12 z2 u20 u21 u22 u23 u24 u25 u26 z3 u30 u31 u32 f30 f31 f32 z4 u40 u41 u42 f40 f41 f42 HK
    have z1 := blk_lt K1
    obtain ⟨u10, u11, u12, f10, f11, f12⟩ := blk3 K1
    have z2 := blk_lt K2
    obtain ⟨u20, u21, u22, u23, u24, u25, u26⟩ := blk7 K2
    have z3 := blk_lt K3
    obtain ⟨u30, u31, u32, f30, f31, f32⟩ := blk3 K3
    have z4 := blk_lt K4
    obtain ⟨u40, u41, u42, f40, f41, f42⟩ := blk3 K4
    have HK := hid (And.intro K1 (And.intro K2 (And.intro K3 (K4))))
    clear K1 K2 K3 K4
    have HR3 := hid hR3
    clear hR3 hb2 hbwc
    go_wp2_with fail
    refine (PP.out _ hbwd).mono ?_
    rintro e w9 ⟨rfl, rfl⟩
    go_wp2_with fail
    refine (RPutU (m := p) HR3.out LN.out.2.2 hKm.out.2.2.2).mono ?_
    rintro e we ⟨⟨A7, n4, c4, rfl, hR4⟩, hb2⟩
    have HRn := hid (HR6.out.below hb2)
    clear HR6
    have HR6 := HRn
    clear HRn
    have hbwe : Below w.heap.size w we := hbwd.trans (hb2.mono hbwd.size)
    have K1 := (hb2.block _ z1).trans HK.out.1
    have K2 := (hb2.block _ z2).trans HK.out.2.1
    have K3 := (hb2.block _ z3).trans HK.out.2.2.1
    have K4 := (hb2.block _ z4).trans HK.out.2.2.2
    clear z1 u10 u11 u12 f10 f11 f12 z2 u20 u21 u22 u23 u24 u25 u26 z3 u30 u31 u32 f30 f31 f32 z4 u40 u41 u42 f40 f41 f42 HK
    have z1 := blk_lt K1
    obtain ⟨u10, u11, u12, f10, f11, f12⟩ := blk3 K1
    have z2 := blk_lt K2
    obtain ⟨u20, u21, u22, u23, u24, u25, u26⟩ := blk7 K2
    have z3 := blk_lt K3
    obtain ⟨u30, u31, u32, f30, f31, f32⟩ := blk3 K3
    have z4 := blk_lt K4
    obtain ⟨u40, u41, u42, f40, f41, f42⟩ := blk3 K4
    have HK := hid (And.intro K1 (And.intro K2 (And.intro K3 (K4))))
    clear K1 K2 K3 K4
    have HR4 := hid hR4
    clear hR4 hb2 hbwd
    clear HR1 HR2 HR3
    rw [HH4.out] at HR4
    by_cases h0 : p = 0
    · subst h0
      have HTX2 := hid (HTX.out.1 rfl)
      go_wp2_with fail
      refine (RPutT HR4.out (by have := H13.out; omega) s (by have := hs; omega)).mono ?_
      rintro e wf ⟨⟨AF, nF, cF, rfl, hRF⟩, hb2⟩
      rw [← HTX2.out] at hRF
      have HRn := hid (HR6.out.below hb2)
      clear HR6
      have HR6 := HRn
      clear HRn
      have hbwf : Below w.heap.size w wf := hbwe.trans (hb2.mono hbwe.size)
      have K1 := (hb2.block _ z1).trans HK.out.1
      have K2 := (hb2.block _ z2).trans HK.out.2.1
      have K3 := (hb2.block _ z3).trans HK.out.2.2.1
      have K4 := (hb2.block _ z4).trans HK.out.2.2.2
      clear z1 u10 u11 u12 f10 f11 f12 z2 u20 u21 u22 u23 u24 u25 u26 z3 u30 u31 u32 f30 f31 f32 z4 u40 u41 u42 f40 f41 f42 HK
      have z1 := blk_lt K1
      obtain ⟨u10, u11, u12, f10, f11, f12⟩ := blk3 K1
      have z2 := blk_lt K2
      obtain ⟨u20, u21, u22, u23, u24, u25, u26⟩ := blk7 K2
      have z3 := blk_lt K3
      obtain ⟨u30, u31, u32, f30, f31, f32⟩ := blk3 K3
      have z4 := blk_lt K4
      obtain ⟨u40, u41, u42, f40, f41, f42⟩ := blk3 K4
      have HK := hid (And.intro K1 (And.intro K2 (And.intro K3 (K4))))
      clear K1 K2 K3 K4
      clear hb2 HR4 hbwe
      have HRX := hid (hRF)
      go_wp2_with fail
      refine (PN.out _).mono ?_
      rintro e wn ⟨⟨AN, cN, rfl, hcl, hcm, hnl, hSN⟩, hb2⟩
      have HRY := hid (HRX.out.below hb2)
      have HRn := hid (HR6.out.below hb2)
      clear HR6
      have HR6 := HRn
      clear HRn HRX
      have hbwn : Below w.heap.size w wn := hbwf.trans (hb2.mono hbwf.size)
      have K1 := (hb2.block _ z1).trans HK.out.1
      have K2 := (hb2.block _ z2).trans HK.out.2.1
      have K3 := (hb2.block _ z3).trans HK.out.2.2.1
      have K4 := (hb2.block _ z4).trans HK.out.2.2.2
      clear z1 u10 u11 u12 f10 f11 f12 z2 u20 u21 u22 u23 u24 u25 u26 z3 u30 u31 u32 f30 f31 f32 z4 u40 u41 u42 f40 f41 f42 HK
      have z1 := blk_lt K1
      obtain ⟨u10, u11, u12, f10, f11, f12⟩ := blk3 K1
      have z2 := blk_lt K2
      obtain ⟨u20, u21, u22, u23, u24, u25, u26⟩ := blk7 K2
      have z3 := blk_lt K3
      obtain ⟨u30, u31, u32, f30, f31, f32⟩ := blk3 K3
      have z4 := blk_lt K4
      obtain ⟨u40, u41, u42, f40, f41, f42⟩ := blk3 K4
      have HK := hid (And.intro K1 (And.intro K2 (And.intro K3 (K4))))
      clear K1 K2 K3 K4
      have HSN := hid hSN
      clear hSN hb2 hbwf
      have HKn := hid (show Hid (wn.heap[w.heap.size + 1 + 1]? = some (.cells #[.int .i64 0, .int .i64 0, .slice none 0 0] 24 (0, 0))) ∧ Hid (wn.heap[gx]? = some (.cells #[.int .i64 q, .int .i64 t, .slice A2 m2 cx] 24 (0, 0))) from ⟨HK.out.2.2.1, HK.out.2.2.2⟩)
      clear HK z1 u10 u11 u12 f10 f11 f12 z2 u20 u21 u22 u23 u24 u25 u26 z3 u30 u31 u32 f30 f31 f32 z4 u40 u41 u42 f40 f41 f42
      go_wp2
      go_loopw [9, 12] (fun v i wr => ∃ (j : Nat) (A9 : Option Addr) (n9 c9 : Nat), j ≤ m ∧ i = .int .i64 j ∧ v = .slice A9 n9 c9 ∧ Hid (Rw wr A9 n9 c9 ((H4 ++ TX) ++ lebs (L.take j))) ∧ Below w.heap.size w wr ∧ Below wn.heap.size wn wr)
        (fun _ i _ => m - (intOf i).toNat)
      case atStart => exact ⟨0, _, _, _, by omega, rfl, rfl, hid (by rw [List.take_zero, lebs_nil, List.append_nil]; exact HRY.out), hbwn, Below.refl _ _⟩
      case round =>
        obtain ⟨j, A9, n9, c9, hj, rfl, rfl, hRj, hbr, hbn⟩ := hrel
        by_cases hlt : j < m
        · obtain ⟨bb, oo, uu, rfl, hB9, hu9, hc9⟩ := (HSN.out.below hbn).get (k := j) hlt
          have hjl : j < L.length := by have := HLL.out; omega
          obtain rfl : uu = .int .i64 (L[j]'hjl) := by
            simp only [ints, List.getElem?_map, List.getElem?_eq_getElem hjl, Option.map_some, Option.some.injEq] at hu9
            exact hu9.symm
          have hv := HL.out _ (List.getElem_mem hjl)
          have hnx := lebs_next (List.getElem?_eq_getElem hjl) (H4 ++ TX)
          generalize L[j]'hjl = v9 at *
          obtain ⟨V, hV⟩ : ∃ V : Nat, v9.toNat = V := ⟨_, rfl⟩
          rw [hV] at hnx
          have hvw : IntKind.u64.wrap v9 = (V : Int) := by rw [u64_in _ (by omega) (by omega)]; omega
          have HNX := hid hnx
          have HV2 := hid (show V < 18446744073709551616 by omega)
          have HLN := hid (show ((H4 ++ TX) ++ lebs (L.take j)).length ≤ 100000 by
            have h1 := lebs_take_len HL.out (by have := HLL.out; omega) j
            have h2 := HTL.out
            rw [List.length_append]; omega)
          clear hnx hu9 hV hjl hB9
          go_wp2_with fail
          refine (RPutU (m := V) hRj.out HLN.out HV2.out).mono ?_
          rintro e wz ⟨⟨AZ, nZ, cZ, rfl, hRZ⟩, hbZ⟩
          rw [HNX.out] at hRZ
          have HRZ := hid hRZ
          clear hRZ
          go_wp2_with fail
          go_roundw
          case rel => exact ⟨j + 1, _, _, _, by omega, by go_num, rfl, HRZ, hbr.trans (hbZ.mono hbr.size), hbn.trans (hbZ.mono hbn.size)⟩
          case measure => simp [intOf]; omega
        · obtain rfl : j = m := by omega
          have e9 : L.take j = L := List.take_of_length_le (by rw [HLL.out]; omega)
          have HR9 := hid hRj.out
          rw [e9, ← HSP.out] at HR9
          clear hRj
          have hlt3 := blk_lt HKn.out.1.out
          have hlt4 := blk_lt HKn.out.2.out
          have K3 := (hbn.block _ hlt3).trans HKn.out.1.out
          have K4 := (hbn.block _ hlt4).trans HKn.out.2.out
          have HRZ := hid (HR6.out.below hbn)
          clear hlt3 hlt4
          have z3 := blk_lt K3
          have z4 := blk_lt K4
          obtain ⟨u30, u31, u32, f30, f31, f32⟩ := blk3 K3
          obtain ⟨u40, u41, u42, f40, f41, f42⟩ := blk3 K4
          have HK3 := hid K3
          clear K3 K4
          go_wp2_with fail
          go_region
          go_wp2
          refine bodyPost_ret (v := .tuple #[.slice A9 n9 c9, .agg #[.int .i64 q, .int .i64 t, .slice A2 m2 cx], .int .i64 0]) (by simp [results, Tryz.results32, go_sem, u30, u31, u32]) rfl ⟨⟨A9, n9, c9, A2, m2, cx, rfl, (HR9.out.lts HK3.out (sto3 wr (w.heap.size + 1 + 1) (.int .i64 q) (.int .i64 t) (.slice A2 m2 cx)).lts).drew, (HRZ.out.lts HK3.out (sto3 wr (w.heap.size + 1 + 1) (.int .i64 q) (.int .i64 t) (.slice A2 m2 cx)).lts).drew⟩, ?_⟩
          exact Below.drew ((sto3 wr (w.heap.size + 1 + 1) (.int .i64 q) (.int .i64 t) (.slice A2 m2 cx)).below hbr (by omega))
    · have h0' : ¬ (p : Int) = 0 := by omega
      have e8 := HTX.out.2 h0
      have HR8 := HR4.out
      rw [← List.append_nil H4, ← e8] at HR8
      clear h0 HR4
      have HRX := hid (HR8)
      go_wp2_with fail
      refine (PN.out _).mono ?_
      rintro e wn ⟨⟨AN, cN, rfl, hcl, hcm, hnl, hSN⟩, hb2⟩
      have HRY := hid (HRX.out.below hb2)
      have HRn := hid (HR6.out.below hb2)
      clear HR6
      have HR6 := HRn
      clear HRn HRX
      have hbwn : Below w.heap.size w wn := hbwe.trans (hb2.mono hbwe.size)
      have K1 := (hb2.block _ z1).trans HK.out.1
      have K2 := (hb2.block _ z2).trans HK.out.2.1
      have K3 := (hb2.block _ z3).trans HK.out.2.2.1
      have K4 := (hb2.block _ z4).trans HK.out.2.2.2
      clear z1 u10 u11 u12 f10 f11 f12 z2 u20 u21 u22 u23 u24 u25 u26 z3 u30 u31 u32 f30 f31 f32 z4 u40 u41 u42 f40 f41 f42 HK
      have z1 := blk_lt K1
      obtain ⟨u10, u11, u12, f10, f11, f12⟩ := blk3 K1
      have z2 := blk_lt K2
      obtain ⟨u20, u21, u22, u23, u24, u25, u26⟩ := blk7 K2
      have z3 := blk_lt K3
      obtain ⟨u30, u31, u32, f30, f31, f32⟩ := blk3 K3
      have z4 := blk_lt K4
      obtain ⟨u40, u41, u42, f40, f41, f42⟩ := blk3 K4
      have HK := hid (And.intro K1 (And.intro K2 (And.intro K3 (K4))))
      clear K1 K2 K3 K4
      have HSN := hid hSN
      clear hSN hb2 hbwe
      have HKn := hid (show Hid (wn.heap[w.heap.size + 1 + 1]? = some (.cells #[.int .i64 0, .int .i64 0, .slice none 0 0] 24 (0, 0))) ∧ Hid (wn.heap[gx]? = some (.cells #[.int .i64 q, .int .i64 t, .slice A2 m2 cx] 24 (0, 0))) from ⟨HK.out.2.2.1, HK.out.2.2.2⟩)
      clear HK z1 u10 u11 u12 f10 f11 f12 z2 u20 u21 u22 u23 u24 u25 u26 z3 u30 u31 u32 f30 f31 f32 z4 u40 u41 u42 f40 f41 f42
      go_wp2
      go_loopw [9, 12] (fun v i wr => ∃ (j : Nat) (A9 : Option Addr) (n9 c9 : Nat), j ≤ m ∧ i = .int .i64 j ∧ v = .slice A9 n9 c9 ∧ Hid (Rw wr A9 n9 c9 ((H4 ++ TX) ++ lebs (L.take j))) ∧ Below w.heap.size w wr ∧ Below wn.heap.size wn wr)
        (fun _ i _ => m - (intOf i).toNat)
      case atStart => exact ⟨0, _, _, _, by omega, rfl, rfl, hid (by rw [List.take_zero, lebs_nil, List.append_nil]; exact HRY.out), hbwn, Below.refl _ _⟩
      case round =>
        obtain ⟨j, A9, n9, c9, hj, rfl, rfl, hRj, hbr, hbn⟩ := hrel
        by_cases hlt : j < m
        · obtain ⟨bb, oo, uu, rfl, hB9, hu9, hc9⟩ := (HSN.out.below hbn).get (k := j) hlt
          have hjl : j < L.length := by have := HLL.out; omega
          obtain rfl : uu = .int .i64 (L[j]'hjl) := by
            simp only [ints, List.getElem?_map, List.getElem?_eq_getElem hjl, Option.map_some, Option.some.injEq] at hu9
            exact hu9.symm
          have hv := HL.out _ (List.getElem_mem hjl)
          have hnx := lebs_next (List.getElem?_eq_getElem hjl) (H4 ++ TX)
          generalize L[j]'hjl = v9 at *
          obtain ⟨V, hV⟩ : ∃ V : Nat, v9.toNat = V := ⟨_, rfl⟩
          rw [hV] at hnx
          have hvw : IntKind.u64.wrap v9 = (V : Int) := by rw [u64_in _ (by omega) (by omega)]; omega
          have HNX := hid hnx
          have HV2 := hid (show V < 18446744073709551616 by omega)
          have HLN := hid (show ((H4 ++ TX) ++ lebs (L.take j)).length ≤ 100000 by
            have h1 := lebs_take_len HL.out (by have := HLL.out; omega) j
            have h2 := HTL.out
            rw [List.length_append]; omega)
          clear hnx hu9 hV hjl hB9
          go_wp2_with fail
          refine (RPutU (m := V) hRj.out HLN.out HV2.out).mono ?_
          rintro e wz ⟨⟨AZ, nZ, cZ, rfl, hRZ⟩, hbZ⟩
          rw [HNX.out] at hRZ
          have HRZ := hid hRZ
          clear hRZ
          go_wp2_with fail
          go_roundw
          case rel => exact ⟨j + 1, _, _, _, by omega, by go_num, rfl, HRZ, hbr.trans (hbZ.mono hbr.size), hbn.trans (hbZ.mono hbn.size)⟩
          case measure => simp [intOf]; omega
        · obtain rfl : j = m := by omega
          have e9 : L.take j = L := List.take_of_length_le (by rw [HLL.out]; omega)
          have HR9 := hid hRj.out
          rw [e9, ← HSP.out] at HR9
          clear hRj
          have hlt3 := blk_lt HKn.out.1.out
          have hlt4 := blk_lt HKn.out.2.out
          have K3 := (hbn.block _ hlt3).trans HKn.out.1.out
          have K4 := (hbn.block _ hlt4).trans HKn.out.2.out
          have HRZ := hid (HR6.out.below hbn)
          clear hlt3 hlt4
          have z3 := blk_lt K3
          have z4 := blk_lt K4
          obtain ⟨u30, u31, u32, f30, f31, f32⟩ := blk3 K3
          obtain ⟨u40, u41, u42, f40, f41, f42⟩ := blk3 K4
          have HK3 := hid K3
          clear K3 K4
          go_wp2_with fail
          go_region
          go_wp2
          refine bodyPost_ret (v := .tuple #[.slice A9 n9 c9, .agg #[.int .i64 q, .int .i64 t, .slice A2 m2 cx], .int .i64 0]) (by simp [results, Tryz.results32, go_sem, u30, u31, u32]) rfl ⟨⟨A9, n9, c9, A2, m2, cx, rfl, (HR9.out.lts HK3.out (sto3 wr (w.heap.size + 1 + 1) (.int .i64 q) (.int .i64 t) (.slice A2 m2 cx)).lts).drew, (HRZ.out.lts HK3.out (sto3 wr (w.heap.size + 1 + 1) (.int .i64 q) (.int .i64 t) (.slice A2 m2 cx)).lts).drew⟩, ?_⟩
          exact Below.drew ((sto3 wr (w.heap.size + 1 + 1) (.int .i64 q) (.int .i64 t) (.slice A2 m2 cx)).below hbr (by omega))
end Go.Proofs.YtondnbnaoacanaaGreatDoor
