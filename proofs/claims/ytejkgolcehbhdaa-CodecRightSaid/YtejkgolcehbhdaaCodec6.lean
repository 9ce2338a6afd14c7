/- Layer 7: contracts of the reference: Right, Behind, Same. -/
import Derived.Test.YtejkgolcehbhdaaCodec5
namespace Go.Proofs.Ytejkgolcehbhdaa
open Go.ChangeShapes Go.WideShapes Go.ChangeAt Go.RowKit Fb Go.Maps

set_option maxHeartbeats 2000000 in
theorem RRight7 (q0 t0 : Int) {A : Option Addr} {n cp : Nat} {ss : List ByteArray} {w : World} (hR : Rs w A n cp ss) (hn : n ≤ 1000000) :
    Calls Try.prog 11 #[.agg #[.int .i64 q0, .int .i64 t0, .slice A n cp]] w fun e w' => e = .returned (.bool (rcB q0 t0 ss)) ∧ Below w.heap.size w w' := by
  have hbA : Below w.heap.size w (w.alloc (.cells #[.int .i64 q0, .int .i64 t0, .slice A n cp] 24)) := (Below.refl _ _).alloc (Nat.le_refl _) _
  have PR := hid (RRight_any (c := cp) (hR.below hbA).1 (by unfold maxLen; omega))
  clear hR
  by_cases h1 : 0 ≤ q0
  · by_cases h2 : q0 ≤ 4294967296
    · by_cases h3 : 0 ≤ t0
      · by_cases h4 : t0 ≤ 1099511627776
        · have e : rcB q0 t0 ss = rgB ss := by unfold rcB; rw [decide_eq_true ⟨h1, h2⟩, decide_eq_true ⟨h3, h4⟩]; rfl
          rw [e]
          go_enter Try.func11, Try.ntmps11
          go_wp2_with fail
          refine PR.out.mono ?_
          rintro e w1 ⟨rfl, rfl⟩
          go_wp2_with fail
          go_ret
          exact ⟨rfl, hbA⟩
        · have e : rcB q0 t0 ss = false := by unfold rcB; rw [decide_eq_true ⟨h1, h2⟩, decide_eq_false (fun h => h4 h.2)]; rfl
          rw [e]
          go_enter Try.func11, Try.ntmps11
          go_wp2_with fail
          go_ret
          exact ⟨rfl, hbA⟩
      · have e : rcB q0 t0 ss = false := by unfold rcB; rw [decide_eq_true ⟨h1, h2⟩, decide_eq_false (fun h => h3 h.1)]; rfl
        rw [e]
        go_enter Try.func11, Try.ntmps11
        go_wp2_with fail
        go_ret
        exact ⟨rfl, hbA⟩
    · have e : rcB q0 t0 ss = false := by unfold rcB; rw [decide_eq_false (fun h => h2 h.2)]; rfl
      rw [e]
      go_enter Try.func11, Try.ntmps11
      go_wp2_with fail
      go_ret
      exact ⟨rfl, hbA⟩
  · have e : rcB q0 t0 ss = false := by unfold rcB; rw [decide_eq_false (fun h => h1 h.1)]; rfl
    rw [e]
    go_enter Try.func11, Try.ntmps11
    go_wp2_with fail
    go_ret
    exact ⟨rfl, hbA⟩

set_option maxHeartbeats 4000000 in
theorem RSame7 {q0 t0 q1 t1 : Int} {A A' : Option Addr} {n c n' c' : Nat} {xs ys : List ByteArray} {w : World} (hS : Rs w A n c xs) (hS' : Rs w A' n' c' ys) (hn : n ≤ 1000000) :
    Calls Try.prog 12 #[.agg #[.int .i64 q0, .int .i64 t0, .slice A n c], .agg #[.int .i64 q1, .int .i64 t1, .slice A' n' c']] w fun e w' => e = .returned (.bool (decide (q0 = q1 ∧ t0 = t1 ∧ xs = ys))) ∧ Below w.heap.size w w' := by
  have hbA : Below w.heap.size w ((w.alloc (.cells #[.int .i64 q0, .int .i64 t0, .slice A n c] 24)).alloc (.cells #[.int .i64 q1, .int .i64 t1, .slice A' n' c'] 24)) := ((Below.refl _ _).alloc (Nat.le_refl _) _).alloc (by simp) _
  have PS := hid (RSame_any (c := c) (c' := c') (hS.below hbA).1 (hS'.below hbA).1 (Nat.le_refl _) (Nat.le_refl _) hn)
  clear hS hS'
  by_cases h1 : q0 = q1
  · by_cases h2 : t0 = t1
    · have e : decide (q0 = q1 ∧ t0 = t1 ∧ xs = ys) = decide (xs = ys) := by simp [h1, h2]
      rw [e]
      subst h1 h2
      go_enter Try.func12, Try.ntmps12
      go_wp2_with fail
      refine PS.out.mono ?_
      rintro e w1 ⟨rfl, hb1⟩
      go_wp2_with fail
      go_ret
      exact ⟨rfl, hbA.trans (hb1.mono hbA.size)⟩
    · have e : decide (q0 = q1 ∧ t0 = t1 ∧ xs = ys) = false := decide_eq_false (fun h => h2 h.2.1)
      rw [e]
      subst h1
      clear e
      go_enter Try.func12, Try.ntmps12
      go_wp2_with fail
      go_ret
      exact ⟨rfl, hbA⟩
  · have e : decide (q0 = q1 ∧ t0 = t1 ∧ xs = ys) = false := decide_eq_false (fun h => h1 h.1)
    rw [e]
    clear e
    go_enter Try.func12, Try.ntmps12
    go_wp2_with fail
    go_ret
    exact ⟨rfl, hbA⟩

/-- what stands behind an event, and why not -/
def RFolls (w : World) (q0 t0 : Int) (ss : List ByteArray) (x : Ev) (e : Ending) (w' : World) : Prop :=
  (∃ (q1 t1 : Int) (A1 : Option Addr) (m1 c1 : Nat), e = .returned (.tuple #[.agg #[.int .i64 q1, .int .i64 t1, .slice A1 m1 c1], .int .i64 (enE q0 t0 ss x)]) ∧ (enE q0 t0 ss x = 0 → q1 = x.q ∧ t1 = x.t ∧ Rs w' A1 m1 c1 (flL ss x))) ∧ Below w.heap.size w w'

set_option maxRecDepth 100000 in
set_option maxHeartbeats 8000000 in
theorem Behind_any (q0 t0 : Int) {A : Option Addr} {n cp : Nat} {ss : List ByteArray} (q t k a b d : Int) (s : ByteArray) {w : World} (hR : Rs w A n cp ss) (hn : n ≤ 1000000) :
    Calls Try.prog 20 #[.agg #[.int .i64 q0, .int .i64 t0, .slice A n cp], .agg #[.int .i64 q, .int .i64 t, .int .i64 k, .string s, .int .i64 a, .int .i64 b, .int .i64 d]] w (RFolls w q0 t0 ss ⟨q, t, k, s, a, b, d⟩) := by
  have PRR := hid (fun (w1 : World) (h : Below w.heap.size w w1) => RRight7 q0 t0 (hR.below h) hn)
  have PC := hid (RCheck_any q t k s a b d)
  have PP := hid (fun (w1 : World) (h : Below w.heap.size w w1) => RPlace_any (c := cp) (hR.below h).1 (by unfold maxLen; omega) s)
  have PU := hid (fun (w1 : World) (h : Below w.heap.size w w1) => RPut_any (hR.below h) hn s)
  have HR := hid (fun (w1 : World) (h : Below w.heap.size w w1) => hR.below h)
  have hbA : Below w.heap.size w (((w.alloc (.cells #[.int .i64 q0, .int .i64 t0, .slice A n cp] 24)).alloc (.cells #[.int .i64 q, .int .i64 t, .int .i64 k, .string s, .int .i64 a, .int .i64 b, .int .i64 d] 26)).alloc (.cells #[.int .i64 0, .int .i64 0, .slice none 0 0] 24)) := (((Below.refl _ _).alloc (Nat.le_refl _) _).alloc (by simp) _).alloc (by simp; omega) _
  have hq := plc_le s ss
  clear hR
  cases hr : rcB q0 t0 ss with
  | false =>
    have en := en_bad (x := ⟨q, t, k, s, a, b, d⟩) hr
    rw [hr] at PRR
    unfold RFolls
    rw [en]
    clear en
    go_enter Try.func20, Try.ntmps20
    go_wp2_with fail
    refine (PRR.out _ hbA).mono ?_
    rintro e wa ⟨rfl, hb1⟩
    have hbwa : Below w.heap.size w wa := hbA.trans (hb1.mono hbA.size)
    obtain ⟨K1, K2, K3⟩ := kept3 hb1
    have z1 := blk_lt K1
    obtain ⟨u10, u11, u12, f10, f11, f12⟩ := blk3 K1
    have z2 := blk_lt K2
    obtain ⟨u20, u21, u22, u23, u24, u25, u26⟩ := blk7 K2
    have z3 := blk_lt K3
    obtain ⟨u30, u31, u32, f30, f31, f32⟩ := blk3 K3
    have HK := hid (And.intro K1 (And.intro K2 (K3)))
    clear K1 K2 K3
    clear hb1
    go_wp2_with fail
    refine bodyPost_ret (v := .tuple #[.agg #[.int .i64 q0, .int .i64 t0, .slice A n cp], .int .i64 1]) (by simp [results, Try.results20, go_sem, z3, u30, u31, u32]) rfl ⟨⟨_, _, _, _, _, rfl, fun h => absurd h (by decide)⟩, ?_⟩
    exact Below.setCell (Below.setCell (Below.setCell hbwa (by simp; omega) _) (by simp; omega) _) (by simp; omega) _
  | true =>
    have en := en_fl (x := ⟨q, t, k, s, a, b, d⟩) hr
    rw [hr] at PRR
    by_cases hc : chI q t k s a b d = 0
    case neg =>
      have fl := fl_ch (q0 := q0) (t0 := t0) (ss := ss) hc
      unfold RFolls
      rw [en, fl]
      clear fl en
      generalize chI q t k s a b d = ch at *
      go_enter Try.func20, Try.ntmps20
      go_wp2_with fail
      refine (PRR.out _ hbA).mono ?_
      rintro e wa ⟨rfl, hb1⟩
      have hbwa : Below w.heap.size w wa := hbA.trans (hb1.mono hbA.size)
      obtain ⟨K1, K2, K3⟩ := kept3 hb1
      have z1 := blk_lt K1
      obtain ⟨u10, u11, u12, f10, f11, f12⟩ := blk3 K1
      have z2 := blk_lt K2
      obtain ⟨u20, u21, u22, u23, u24, u25, u26⟩ := blk7 K2
      have z3 := blk_lt K3
      obtain ⟨u30, u31, u32, f30, f31, f32⟩ := blk3 K3
      have HK := hid (And.intro K1 (And.intro K2 (K3)))
      clear K1 K2 K3
      clear hb1
      go_wp2_with fail
      refine (PC.out _).mono ?_
      rintro e wb ⟨rfl, hb1⟩
      have hbwb : Below w.heap.size w wb := hbwa.trans (hb1.mono hbwa.size)
      have K1 := (hb1.block _ z1).trans HK.out.1
      have K2 := (hb1.block _ z2).trans HK.out.2.1
      have K3 := (hb1.block _ z3).trans HK.out.2.2
      clear z1 u10 u11 u12 f10 f11 f12 z2 u20 u21 u22 u23 u24 u25 u26 z3 u30 u31 u32 f30 f31 f32 HK
      have z1 := blk_lt K1
      obtain ⟨u10, u11, u12, f10, f11, f12⟩ := blk3 K1
      have z2 := blk_lt K2
      obtain ⟨u20, u21, u22, u23, u24, u25, u26⟩ := blk7 K2
      have z3 := blk_lt K3
      obtain ⟨u30, u31, u32, f30, f31, f32⟩ := blk3 K3
      have HK := hid (And.intro K1 (And.intro K2 (K3)))
      clear K1 K2 K3
      clear hb1
      go_wp2_with fail
      refine bodyPost_ret (v := .tuple #[.agg #[.int .i64 q0, .int .i64 t0, .slice A n cp], .int .i64 ch]) (by simp [results, Try.results20, go_sem, z3, u30, u31, u32]) rfl ⟨⟨_, _, _, _, _, rfl, fun h => absurd h hc⟩, ?_⟩
      exact Below.setCell (Below.setCell (Below.setCell hbwb (by simp; omega) _) (by simp; omega) _) (by simp; omega) _
    case pos =>
      rw [hc] at PC
      by_cases h1 : q ≤ q0
      · have fl := fl_seq (t0 := t0) (ss := ss) hc h1
        unfold RFolls
        rw [en, fl]
        clear fl en
        go_enter Try.func20, Try.ntmps20
        go_wp2_with fail
        refine (PRR.out _ hbA).mono ?_
        rintro e wa ⟨rfl, hb1⟩
        have hbwa : Below w.heap.size w wa := hbA.trans (hb1.mono hbA.size)
        obtain ⟨K1, K2, K3⟩ := kept3 hb1
        have z1 := blk_lt K1
        obtain ⟨u10, u11, u12, f10, f11, f12⟩ := blk3 K1
        have z2 := blk_lt K2
        obtain ⟨u20, u21, u22, u23, u24, u25, u26⟩ := blk7 K2
        have z3 := blk_lt K3
        obtain ⟨u30, u31, u32, f30, f31, f32⟩ := blk3 K3
        have HK := hid (And.intro K1 (And.intro K2 (K3)))
        clear K1 K2 K3
        clear hb1
        go_wp2_with fail
        refine (PC.out _).mono ?_
        rintro e wb ⟨rfl, hb1⟩
        have hbwb : Below w.heap.size w wb := hbwa.trans (hb1.mono hbwa.size)
        have K1 := (hb1.block _ z1).trans HK.out.1
        have K2 := (hb1.block _ z2).trans HK.out.2.1
        have K3 := (hb1.block _ z3).trans HK.out.2.2
        clear z1 u10 u11 u12 f10 f11 f12 z2 u20 u21 u22 u23 u24 u25 u26 z3 u30 u31 u32 f30 f31 f32 HK
        have z1 := blk_lt K1
        obtain ⟨u10, u11, u12, f10, f11, f12⟩ := blk3 K1
        have z2 := blk_lt K2
        obtain ⟨u20, u21, u22, u23, u24, u25, u26⟩ := blk7 K2
        have z3 := blk_lt K3
        obtain ⟨u30, u31, u32, f30, f31, f32⟩ := blk3 K3
        have HK := hid (And.intro K1 (And.intro K2 (K3)))
        clear K1 K2 K3
        clear hb1
        go_wp2_with fail
        refine bodyPost_ret (v := .tuple #[.agg #[.int .i64 q0, .int .i64 t0, .slice A n cp], .int .i64 1]) (by simp [results, Try.results20, go_sem, z3, u30, u31, u32]) rfl ⟨⟨_, _, _, _, _, rfl, fun h => absurd h (by decide)⟩, ?_⟩
        exact Below.setCell (Below.setCell (Below.setCell hbwb (by simp; omega) _) (by simp; omega) _) (by simp; omega) _
      · by_cases h2 : t < t0
        · have fl := fl_time (ss := ss) hc h1 h2
          unfold RFolls
          rw [en, fl]
          clear fl en
          go_enter Try.func20, Try.ntmps20
          go_wp2_with fail
          refine (PRR.out _ hbA).mono ?_
          rintro e wa ⟨rfl, hb1⟩
          have hbwa : Below w.heap.size w wa := hbA.trans (hb1.mono hbA.size)
          obtain ⟨K1, K2, K3⟩ := kept3 hb1
          have z1 := blk_lt K1
          obtain ⟨u10, u11, u12, f10, f11, f12⟩ := blk3 K1
          have z2 := blk_lt K2
          obtain ⟨u20, u21, u22, u23, u24, u25, u26⟩ := blk7 K2
          have z3 := blk_lt K3
          obtain ⟨u30, u31, u32, f30, f31, f32⟩ := blk3 K3
          have HK := hid (And.intro K1 (And.intro K2 (K3)))
          clear K1 K2 K3
          clear hb1
          go_wp2_with fail
          refine (PC.out _).mono ?_
          rintro e wb ⟨rfl, hb1⟩
          have hbwb : Below w.heap.size w wb := hbwa.trans (hb1.mono hbwa.size)
          have K1 := (hb1.block _ z1).trans HK.out.1
          have K2 := (hb1.block _ z2).trans HK.out.2.1
          have K3 := (hb1.block _ z3).trans HK.out.2.2
          clear z1 u10 u11 u12 f10 f11 f12 z2 u20 u21 u22 u23 u24 u25 u26 z3 u30 u31 u32 f30 f31 f32 HK
          have z1 := blk_lt K1
          obtain ⟨u10, u11, u12, f10, f11, f12⟩ := blk3 K1
          have z2 := blk_lt K2
          obtain ⟨u20, u21, u22, u23, u24, u25, u26⟩ := blk7 K2
          have z3 := blk_lt K3
          obtain ⟨u30, u31, u32, f30, f31, f32⟩ := blk3 K3
          have HK := hid (And.intro K1 (And.intro K2 (K3)))
          clear K1 K2 K3
          clear hb1
          go_wp2_with fail
          refine bodyPost_ret (v := .tuple #[.agg #[.int .i64 q0, .int .i64 t0, .slice A n cp], .int .i64 5]) (by simp [results, Try.results20, go_sem, z3, u30, u31, u32]) rfl ⟨⟨_, _, _, _, _, rfl, fun h => absurd h (by decide)⟩, ?_⟩
          exact Below.setCell (Below.setCell (Below.setCell hbwb (by simp; omega) _) (by simp; omega) _) (by simp; omega) _
        · by_cases h3 : plc s ss = 0
          · obtain ⟨fl, fl2⟩ := fl_new (q0 := q0) (t0 := t0) hc h1 h2 h3
            unfold RFolls
            rw [en, fl, fl2]
            clear fl fl2 hq en
            rw [h3] at PP
            clear h3 hc
            by_cases h4 : puE ss s = 0
            · rw [h4] at PU
              rw [h4]
              clear h4
              go_enter Try.func20, Try.ntmps20
              go_wp2_with fail
              refine (PRR.out _ hbA).mono ?_
              rintro e wa ⟨rfl, hb1⟩
              have hbwa : Below w.heap.size w wa := hbA.trans (hb1.mono hbA.size)
              obtain ⟨K1, K2, K3⟩ := kept3 hb1
              have z1 := blk_lt K1
              obtain ⟨u10, u11, u12, f10, f11, f12⟩ := blk3 K1
              have z2 := blk_lt K2
              obtain ⟨u20, u21, u22, u23, u24, u25, u26⟩ := blk7 K2
              have z3 := blk_lt K3
              obtain ⟨u30, u31, u32, f30, f31, f32⟩ := blk3 K3
              have HK := hid (And.intro K1 (And.intro K2 (K3)))
              clear K1 K2 K3
              clear hb1
              go_wp2_with fail
              refine (PC.out _).mono ?_
              rintro e wb ⟨rfl, hb1⟩
              have hbwb : Below w.heap.size w wb := hbwa.trans (hb1.mono hbwa.size)
              have K1 := (hb1.block _ z1).trans HK.out.1
              have K2 := (hb1.block _ z2).trans HK.out.2.1
              have K3 := (hb1.block _ z3).trans HK.out.2.2
              clear z1 u10 u11 u12 f10 f11 f12 z2 u20 u21 u22 u23 u24 u25 u26 z3 u30 u31 u32 f30 f31 f32 HK
              have z1 := blk_lt K1
              obtain ⟨u10, u11, u12, f10, f11, f12⟩ := blk3 K1
              have z2 := blk_lt K2
              obtain ⟨u20, u21, u22, u23, u24, u25, u26⟩ := blk7 K2
              have z3 := blk_lt K3
              obtain ⟨u30, u31, u32, f30, f31, f32⟩ := blk3 K3
              have HK := hid (And.intro K1 (And.intro K2 (K3)))
              clear K1 K2 K3
              clear hb1
              go_wp2_with fail
              refine (PP.out _ hbwb).mono ?_
              rintro e w9 ⟨rfl, rfl⟩
              go_wp2_with fail
              refine (PU.out _ hbwb).mono ?_
              rintro e wc ⟨⟨A3, m3, c3, rfl, hR3⟩, hb1⟩
              have hbwc : Below w.heap.size w wc := hbwb.trans (hb1.mono hbwb.size)
              have K1 := (hb1.block _ z1).trans HK.out.1
              have K2 := (hb1.block _ z2).trans HK.out.2.1
              have K3 := (hb1.block _ z3).trans HK.out.2.2
              clear z1 u10 u11 u12 f10 f11 f12 z2 u20 u21 u22 u23 u24 u25 u26 z3 u30 u31 u32 f30 f31 f32 HK
              have z1 := blk_lt K1
              obtain ⟨u10, u11, u12, f10, f11, f12⟩ := blk3 K1
              have z2 := blk_lt K2
              obtain ⟨u20, u21, u22, u23, u24, u25, u26⟩ := blk7 K2
              have z3 := blk_lt K3
              obtain ⟨u30, u31, u32, f30, f31, f32⟩ := blk3 K3
              have HK := hid (And.intro K1 (And.intro K2 (K3)))
              clear K1 K2 K3
              clear hb1
              have HR3 := hid (hR3.sto HK.out.2.2 (sto3 wc (w.heap.size + 1 + 1) (.int .i64 q) (.int .i64 t) (.slice A3 m3 c3)))
              clear hR3
              go_wp2_with fail
              refine bodyPost_ret (v := .tuple #[.agg #[.int .i64 q, .int .i64 t, .slice A3 m3 c3], .int .i64 0]) (by simp [results, Try.results20, go_sem, z3, u30, u31, u32]) rfl ⟨⟨_, _, _, _, _, rfl, fun _ => ⟨rfl, rfl, HR3.out⟩⟩, ?_⟩
              exact Below.setCell (Below.setCell (Below.setCell hbwc (by simp; omega) _) (by simp; omega) _) (by simp; omega) _
            · generalize puE ss s = pe at *
              go_enter Try.func20, Try.ntmps20
              go_wp2_with fail
              refine (PRR.out _ hbA).mono ?_
              rintro e wa ⟨rfl, hb1⟩
              have hbwa : Below w.heap.size w wa := hbA.trans (hb1.mono hbA.size)
              obtain ⟨K1, K2, K3⟩ := kept3 hb1
              have z1 := blk_lt K1
              obtain ⟨u10, u11, u12, f10, f11, f12⟩ := blk3 K1
              have z2 := blk_lt K2
              obtain ⟨u20, u21, u22, u23, u24, u25, u26⟩ := blk7 K2
              have z3 := blk_lt K3
              obtain ⟨u30, u31, u32, f30, f31, f32⟩ := blk3 K3
              have HK := hid (And.intro K1 (And.intro K2 (K3)))
              clear K1 K2 K3
              clear hb1
              go_wp2_with fail
              refine (PC.out _).mono ?_
              rintro e wb ⟨rfl, hb1⟩
              have hbwb : Below w.heap.size w wb := hbwa.trans (hb1.mono hbwa.size)
              have K1 := (hb1.block _ z1).trans HK.out.1
              have K2 := (hb1.block _ z2).trans HK.out.2.1
              have K3 := (hb1.block _ z3).trans HK.out.2.2
              clear z1 u10 u11 u12 f10 f11 f12 z2 u20 u21 u22 u23 u24 u25 u26 z3 u30 u31 u32 f30 f31 f32 HK
              have z1 := blk_lt K1
              obtain ⟨u10, u11, u12, f10, f11, f12⟩ := blk3 K1
              have z2 := blk_lt K2
              obtain ⟨u20, u21, u22, u23, u24, u25, u26⟩ := blk7 K2
              have z3 := blk_lt K3
              obtain ⟨u30, u31, u32, f30, f31, f32⟩ := blk3 K3
              have HK := hid (And.intro K1 (And.intro K2 (K3)))
              clear K1 K2 K3
              clear hb1
              go_wp2_with fail
              refine (PP.out _ hbwb).mono ?_
              rintro e w9 ⟨rfl, rfl⟩
              go_wp2_with fail
              refine (PU.out _ hbwb).mono ?_
              rintro e wc ⟨⟨A3, m3, c3, rfl, hR3⟩, hb1⟩
              have hbwc : Below w.heap.size w wc := hbwb.trans (hb1.mono hbwb.size)
              have K1 := (hb1.block _ z1).trans HK.out.1
              have K2 := (hb1.block _ z2).trans HK.out.2.1
              have K3 := (hb1.block _ z3).trans HK.out.2.2
              clear z1 u10 u11 u12 f10 f11 f12 z2 u20 u21 u22 u23 u24 u25 u26 z3 u30 u31 u32 f30 f31 f32 HK
              have z1 := blk_lt K1
              obtain ⟨u10, u11, u12, f10, f11, f12⟩ := blk3 K1
              have z2 := blk_lt K2
              obtain ⟨u20, u21, u22, u23, u24, u25, u26⟩ := blk7 K2
              have z3 := blk_lt K3
              obtain ⟨u30, u31, u32, f30, f31, f32⟩ := blk3 K3
              have HK := hid (And.intro K1 (And.intro K2 (K3)))
              clear K1 K2 K3
              clear hb1
              clear hR3
              go_wp2_with fail
              refine bodyPost_ret (v := .tuple #[.agg #[.int .i64 q0, .int .i64 t0, .slice A n cp], .int .i64 pe]) (by simp [results, Try.results20, go_sem, z3, u30, u31, u32]) rfl ⟨⟨_, _, _, _, _, rfl, fun h => absurd h h4⟩, ?_⟩
              exact Below.setCell (Below.setCell (Below.setCell hbwc (by simp; omega) _) (by simp; omega) _) (by simp; omega) _
          · obtain ⟨fl, fl2⟩ := fl_known (q0 := q0) (t0 := t0) hc h1 h2 h3
            unfold RFolls
            rw [en, fl, fl2]
            clear fl fl2 hc en
            generalize plc s ss = p at *
            have h3' : ¬ (p : Int) = 0 := by omega
            clear hq h3
            go_enter Try.func20, Try.ntmps20
            go_wp2_with fail
            refine (PRR.out _ hbA).mono ?_
            rintro e wa ⟨rfl, hb1⟩
            have hbwa : Below w.heap.size w wa := hbA.trans (hb1.mono hbA.size)
            obtain ⟨K1, K2, K3⟩ := kept3 hb1
            have z1 := blk_lt K1
            obtain ⟨u10, u11, u12, f10, f11, f12⟩ := blk3 K1
            have z2 := blk_lt K2
            obtain ⟨u20, u21, u22, u23, u24, u25, u26⟩ := blk7 K2
            have z3 := blk_lt K3
            obtain ⟨u30, u31, u32, f30, f31, f32⟩ := blk3 K3
            have HK := hid (And.intro K1 (And.intro K2 (K3)))
            clear K1 K2 K3
            clear hb1
            go_wp2_with fail
            refine (PC.out _).mono ?_
            rintro e wb ⟨rfl, hb1⟩
            have hbwb : Below w.heap.size w wb := hbwa.trans (hb1.mono hbwa.size)
            have K1 := (hb1.block _ z1).trans HK.out.1
            have K2 := (hb1.block _ z2).trans HK.out.2.1
            have K3 := (hb1.block _ z3).trans HK.out.2.2
            clear z1 u10 u11 u12 f10 f11 f12 z2 u20 u21 u22 u23 u24 u25 u26 z3 u30 u31 u32 f30 f31 f32 HK
            have z1 := blk_lt K1
            obtain ⟨u10, u11, u12, f10, f11, f12⟩ := blk3 K1
            have z2 := blk_lt K2
            obtain ⟨u20, u21, u22, u23, u24, u25, u26⟩ := blk7 K2
            have z3 := blk_lt K3
            obtain ⟨u30, u31, u32, f30, f31, f32⟩ := blk3 K3
            have HK := hid (And.intro K1 (And.intro K2 (K3)))
            clear K1 K2 K3
            clear hb1
            go_wp2_with fail
            refine (PP.out _ hbwb).mono ?_
            rintro e w9 ⟨rfl, rfl⟩
            go_wp2_with fail
            refine bodyPost_ret (v := .tuple #[.agg #[.int .i64 q, .int .i64 t, .slice A n cp], .int .i64 0]) (by simp [results, Try.results20, go_sem, z3, u30, u31, u32]) rfl ⟨⟨_, _, _, _, _, rfl, fun _ => ⟨rfl, rfl, HR.out _ (Below.setCell (Below.setCell (Below.setCell hbwb (by simp; omega) _) (by simp; omega) _) (by simp; omega) _)⟩⟩, ?_⟩
            exact Below.setCell (Below.setCell (Below.setCell hbwb (by simp; omega) _) (by simp; omega) _) (by simp; omega) _
end Go.Proofs.Ytejkgolcehbhdaa
