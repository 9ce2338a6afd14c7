/- Layer 9, the reference: contract of head. -/
import Derived.Test.YtondnbnaoacanaaGreatDoorSegF
import Derived.Test.YtondnbnaoacanaaGreatDoorSegI
import Derived.Test.YtondnbnaoacanaaGreatDoorBase
import Derived.Test.YtondnbnaoacanaaGreatDoorCodec8
import Derived.BigQuiet
namespace Go.Proofs.YtondnbnaoacanaaGreatDoor
open Go.ChangeShapes Go.WideShapes Go.ChangeAt Go.RowKit Fb Go.Maps

def HeadR (w : World) (z : List Int) (e : Ending) (w' : World) : Prop :=
  e = .returned (.tuple #[.int .i64 (hdN z), .agg #[.int .i64 (hdC z).q, .int .i64 (hdC z).t, .slice none 0 0]]) ∧ Below w.heap.size w w'
theorem HeadR.no {w w' : World} {z : List Int} (h : ¬ hdO z) (hb : Below w.heap.size w w') : HeadR w z (.returned (.tuple #[.int .i64 0, .agg #[.int .i64 0, .int .i64 0, .slice none 0 0]])) w' := by
  obtain ⟨a, b⟩ := hd_no h
  unfold HeadR
  rw [a, b]
  exact ⟨rfl, hb⟩
theorem HeadR.yes {w w' : World} {z : List Int} {n q t : Int} (hn : mayN n) (hr : (⟨q, t, []⟩ : Ahd).rc = true) (hz : z = hpB n ⟨q, t, []⟩) (hb : Below w.heap.size w w') : HeadR w z (.returned (.tuple #[.int .i64 n, .agg #[.int .i64 q, .int .i64 t, .slice none 0 0]])) w' := by
  obtain ⟨a, b⟩ := hd_yes hn hr rfl
  unfold HeadR
  rw [hz, a, b]
  exact ⟨rfl, hb⟩
theorem hd_four {z : List Int} (h : z.length < 4) : ¬ hdO z := by
  rintro ⟨n, c, -, rfl⟩
  simp only [hpB, List.length_append, List.length_cons, List.length_nil] at h
  omega
theorem hd_reads {z : List Int} {p1 e1 p2 e2 p3 e3 : Int} {v1 v2 v3 : Nat} (h : hdO z) (u1 : uintS z 4 0 = (p1, e1, v1)) (u2 : uintS z p1 e1 = (p2, e2, v2)) (u3 : uintS z p2 e2 = (p3, e3, v3)) :
    e3 = 0 ∧ mayN (v1 : Int) ∧ (⟨v2, v3, []⟩ : Ahd).rc = true ∧ z = hpB (v1 : Int) ⟨v2, v3, []⟩ := by
  obtain ⟨n, c, ⟨hn, hr, hl⟩, rfl⟩ := h
  obtain ⟨x1, x2, r1, r2, r3⟩ := hp_reads hn hr
  rw [r1] at u1
  simp only [Prod.mk.injEq] at u1
  obtain ⟨rfl, rfl, rfl⟩ := u1
  rw [r2] at u2
  simp only [Prod.mk.injEq] at u2
  obtain ⟨rfl, rfl, rfl⟩ := u2
  rw [r3] at u3
  simp only [Prod.mk.injEq] at u3
  obtain ⟨-, rfl, rfl⟩ := u3
  have q := rc_q hr
  have hn1 := hn.1
  have a1 : ((n.toNat : Nat) : Int) = n := by omega
  have a2 : ((c.q.toNat : Nat) : Int) = c.q := by omega
  have a3 : ((c.t.toNat : Nat) : Int) = c.t := by omega
  obtain ⟨cq, ct, cl⟩ := c
  simp only at hl a2 a3
  subst hl
  simp only
  rw [a1, a2, a3]
  exact ⟨trivial, hn, hr, rfl⟩
theorem rc_nil {q t : Nat} (hq : q ≤ 4294967296) (ht : t ≤ 1099511627776) : (⟨(q : Int), (t : Int), []⟩ : Ahd).rc = true := by
  refine (rc_iff _ _ _).2 ?_
  refine ⟨?_, ?_, (rgB_iff _).2 ?_⟩ <;> simp only
  · omega
  · omega
  · simp

theorem arr3_0 {w : World} {g : Nat} {t : TypeId} {a b c u : Value} (K : w.heap[g]? = some (.cells #[a, b, c] t (0, 0))) : (w.setCell ⟨g, 0, none⟩ u).heap[g]? = some (.cells #[u, b, c] t (0, 0)) := by
  simp [World.setCell, Array.getElem?_modify, K]
theorem arr3_1 {w : World} {g : Nat} {t : TypeId} {a b c u : Value} (K : w.heap[g]? = some (.cells #[a, b, c] t (0, 0))) : (w.setCell ⟨g, 1, none⟩ u).heap[g]? = some (.cells #[a, u, c] t (0, 0)) := by
  simp [World.setCell, Array.getElem?_modify, K]
theorem arr3_2 {w : World} {g : Nat} {t : TypeId} {a b c u : Value} (K : w.heap[g]? = some (.cells #[a, b, c] t (0, 0))) : (w.setCell ⟨g, 2, none⟩ u).heap[g]? = some (.cells #[a, b, u] t (0, 0)) := by
  simp [World.setCell, Array.getElem?_modify, K]

theorem head_iff {z : List Int} {v1 v2 v3 : Nat} {B : Bool} (h1 : (hpB (v1 : Int) ⟨v2, v3, []⟩).length ≤ 200) (h2 : z.length ≤ 200) (hB : decide (sgH (v1 : Int) ⟨v2, v3, []⟩ = frB 1 z) = B) (hr : hdO z → z = hpB (v1 : Int) ⟨v2, v3, []⟩) :
    (B = true → z = hpB (v1 : Int) ⟨v2, v3, []⟩) ∧ (B = false → ¬ hdO z) := by
  subst hB
  constructor
  · intro h
    have e : frB 1 (hpB (v1 : Int) ⟨v2, v3, []⟩) ++ [] = frB 1 z ++ [] := by rw [← of_decide_eq_true h]; rfl
    exact (fr_eq (by omega) (by omega) h1 h2 e).2.1.symm
  · intro h ho
    refine of_decide_eq_false h ?_
    show frB 1 (hpB (v1 : Int) ⟨v2, v3, []⟩) = _
    rw [← hr ho]

/-- the cursor and the three numbers behind i reads -/
def rd3 (z : List Int) : Nat → Int × Int
  | 0 => (4, 0)
  | j + 1 => ((uintS z (rd3 z j).1 (rd3 z j).2).1, (uintS z (rd3 z j).1 (rd3 z j).2).2.1)
def vr3 (z : List Int) (j i : Nat) : Int := if i < j then ((uintS z (rd3 z i).1 (rd3 z i).2).2.2 : Int) else 0

set_option maxRecDepth 100000 in
set_option maxHeartbeats 16000000 in
theorem head_any {A : Option Addr} {n c : Nat} {z : List Int} {w : World} (hS : Rw w A n c z) (hb : Bytes z) (hz : z.length ≤ 200) :
    Calls Tryz.prog 38 #[.slice A n c] w (HeadR w z) := by
  have hl : n = z.length := hS.len
  have PU := hid (fun (w1 : World) (h : Below w.heap.size w w1) (p er p' e' : Int) (v : Nat) (hu : uintS z p er = (p', e', v)) => RUint_any (c := c) hu (hS.below h).1 hb (by omega) hS.2.1 hS.2.2.1)
  have hb0 : Below w.heap.size w (w.alloc (.cells #[.int .i64 0, .int .i64 0, .slice none 0 0] 24)) := (Below.refl _ _).alloc (Nat.le_refl _) _
  by_cases h4 : n < 4
  · have d4 : decide ((n : Int) < 4) = true := decide_eq_true (by omega)
    have HX := hid (hd_four (z := z) (by omega))
    have K := heap_alloc_new w (.cells #[.int .i64 0, .int .i64 0, .slice none 0 0] 24)
    have z1 := blk_lt K
    obtain ⟨u10, u11, u12, f10, f11, f12⟩ := blk3 K
    clear K PU hl d4
    go_enter Tryz.func38, Tryz.ntmps38
    go_wp2_with fail
    exact bodyPost_ret (v := .tuple #[.int .i64 0, .agg #[.int .i64 0, .int .i64 0, .slice none 0 0]]) (by simp [results, Tryz.results38, go_sem, z1, u10, u11, u12]) rfl (HeadR.no HX.out hb0)
  · have d4 : decide ((n : Int) < 4) = false := decide_eq_false (by omega)
    have K3 := heap_alloc_new w (.cells #[.int .i64 0, .int .i64 0, .slice none 0 0] 24)
    have K4 := heap_alloc_new (w.alloc (.cells #[.int .i64 0, .int .i64 0, .slice none 0 0] 24)) (.cells #[.slice A n c, .int .i64 4, .int .i64 0] 94)
    have K5 := heap_alloc_new ((w.alloc (.cells #[.int .i64 0, .int .i64 0, .slice none 0 0] 24)).alloc (.cells #[.slice A n c, .int .i64 4, .int .i64 0] 94)) (.cells #[.int .u64 0, .int .u64 0, .int .u64 0] 95)
    have K4' := (Below.heap_alloc ((w.alloc (.cells #[.int .i64 0, .int .i64 0, .slice none 0 0] 24)).alloc (.cells #[.slice A n c, .int .i64 4, .int .i64 0] 94)) (.cells #[.int .u64 0, .int .u64 0, .int .u64 0] 95) _ (blk_lt K4)).trans K4
    have K3' := (Below.heap_alloc ((w.alloc (.cells #[.int .i64 0, .int .i64 0, .slice none 0 0] 24)).alloc (.cells #[.slice A n c, .int .i64 4, .int .i64 0] 94)) (.cells #[.int .u64 0, .int .u64 0, .int .u64 0] 95) _ (by simp; omega)).trans ((Below.heap_alloc _ _ _ (blk_lt K3)).trans K3)
    have hb3 := (hb0.alloc (by simp) (.cells #[.slice A n c, .int .i64 4, .int .i64 0] 94)).alloc (by simp; omega) (.cells #[.int .u64 0, .int .u64 0, .int .u64 0] 95)
    rw [World.size_alloc] at K4'
    rw [World.size_alloc, World.size_alloc] at K5
    have H345 := hid (And.intro K3' (And.intro K4' K5))
    have HSS := hid hS
    have HBB := hid hb
    have HZ := hid hz
    have HL := hid hl
    clear K3 K4 K5 K3' K4' hS hb hz hl
    go_enter Tryz.func38, Tryz.ntmps38
    go_wp2_with fail
    go_loopw [6] (fun i wr => ∃ j : Nat, j ≤ 3 ∧ i = .int .i64 j ∧ Hid (wr.heap[w.heap.size]? = some (.cells #[.int .i64 0, .int .i64 0, .slice none 0 0] 24 (0, 0))) ∧
        Hid (wr.heap[w.heap.size + 1]? = some (.cells #[.slice A n c, .int .i64 (rd3 z j).1, .int .i64 (rd3 z j).2] 94 (0, 0))) ∧
        Hid (wr.heap[w.heap.size + 2]? = some (.cells #[.int .u64 (vr3 z j 0), .int .u64 (vr3 z j 1), .int .u64 (vr3 z j 2)] 95 (0, 0))) ∧ Below w.heap.size w wr) (fun i _ => 3 - (intOf i).toNat)
    case atStart => exact ⟨0, by omega, rfl, hid H345.out.1, hid H345.out.2.1, hid H345.out.2.2, hb3⟩
    case round =>
      obtain ⟨j, hj, rfl, hk3, hk4, hk5, hbr⟩ := hrel
      have y3 := blk_lt hk3.out
      obtain ⟨q30, q31, q32, f30, f31, f32⟩ := blk3 hk3.out
      have y4 := blk_lt hk4.out
      obtain ⟨q40, q41, q42, f40, f41, f42⟩ := blk3 hk4.out
      have y5 := blk_lt hk5.out
      obtain ⟨q50, q51, q52, f50, f51, f52⟩ := blk3 hk5.out
      by_cases hlt : j < 3
      · have PU1 := PU.out wr hbr (rd3 z j).1 (rd3 z j).2 (uintS z (rd3 z j).1 (rd3 z j).2).1 (uintS z (rd3 z j).1 (rd3 z j).2).2.1 (uintS z (rd3 z j).1 (rd3 z j).2).2.2 rfl
        have HR1 : Hid ((rd3 z (j + 1)).1 = (uintS z (rd3 z j).1 (rd3 z j).2).1) := rfl
        have HR2 : Hid ((rd3 z (j + 1)).2 = (uintS z (rd3 z j).1 (rd3 z j).2).2.1) := rfl
        have HV : Hid (∀ i, vr3 z (j + 1) i = if i = j then ((uintS z (rd3 z j).1 (rd3 z j).2).2.2 : Int) else vr3 z j i) := by
          intro i
          unfold vr3
          by_cases h : i = j
          · subst h
            rw [if_pos rfl, if_pos (by omega)]
          · rw [if_neg h]
            by_cases h2 : i < j
            · rw [if_pos h2, if_pos (by omega)]
            · rw [if_neg h2, if_neg (by omega)]
        generalize (uintS z (rd3 z j).1 (rd3 z j).2).1 = p' at *
        generalize (uintS z (rd3 z j).1 (rd3 z j).2).2.1 = e' at *
        generalize (uintS z (rd3 z j).1 (rd3 z j).2).2.2 = v' at *
        generalize (rd3 z j).1 = p at *
        generalize (rd3 z j).2 = er at *
        have HKK := hid (And.intro hk3.out (And.intro hk4.out hk5.out))
        clear hk3 hk4 hk5 f30 f31 f32 q30 q31 q32 y3
        rcases (show j = 0 ∨ j = 1 ∨ j = 2 by omega) with rfl | rfl | rfl
        · go_wp2_with fail
          refine PU1.mono ?_
          rintro e w1 ⟨rfl, hb1⟩
          have K3 := (hb1.block _ (blk_lt HKK.out.1)).trans HKK.out.1
          have K4 := (hb1.block _ y4).trans HKK.out.2.1
          have K5 := (hb1.block _ y5).trans HKK.out.2.2
          have hbw1 := hbr.trans (hb1.mono hbr.size)
          clear y4 y5 q40 q41 q42 f40 f41 f42 q50 q51 q52 f50 f51 f52 hb1
          have y4 := blk_lt K4
          obtain ⟨q40, q41, q42, f40, f41, f42⟩ := blk3 K4
          have y5 := blk_lt K5
          obtain ⟨q50, q51, q52, f50, f51, f52⟩ := blk3 K5
          have S4 := sto3 w1 (w.heap.size + 1) (.slice A n c) (.int .i64 p') (.int .i64 e')
          have S5 := Sto.cell (((w1.setCell ⟨w.heap.size + 1, 0, none⟩ (.slice A n c)).setCell ⟨w.heap.size + 1, 1, none⟩ (.int .i64 p')).setCell ⟨w.heap.size + 1, 2, none⟩ (.int .i64 e')) (w.heap.size + 2) 0 (.int .u64 (v' : Int))
          have J3 := hid ((S5.block w.heap.size (by omega)).trans ((S4.block w.heap.size (by omega)).trans K3))
          have J4 := hid ((S5.block (w.heap.size + 1) (by omega)).trans (all3 (a' := .slice A n c) (b' := .int .i64 p') (c' := .int .i64 e') K4))
          have J5 := hid (arr3_0 (u := .int .u64 (v' : Int)) ((S4.block (w.heap.size + 2) (by omega)).trans K5))
          have hbz := S5.below (S4.below hbw1 (by omega)) (by omega)
          have HV0 := (HV.out 0).trans (if_pos rfl)
          have HV1 := (HV.out 1).trans (if_neg (by decide))
          have HV2 := (HV.out 2).trans (if_neg (by decide))
          have HW := hid (And.intro HV0 (And.intro HV1 HV2))
          clear HV0 HV1 HV2 S4 S5 K3 K4 K5
          go_wp2_with fail
          go_roundw
          case rel =>
            refine ⟨1, by omega, rfl, J3, ?_, ?_, hbz⟩
            · rw [HR1.out, HR2.out]; exact J4
            · rw [HW.out.1, HW.out.2.1, HW.out.2.2]; exact J5
          case measure => simp [intOf]
        · go_wp2_with fail
          refine PU1.mono ?_
          rintro e w1 ⟨rfl, hb1⟩
          have K3 := (hb1.block _ (blk_lt HKK.out.1)).trans HKK.out.1
          have K4 := (hb1.block _ y4).trans HKK.out.2.1
          have K5 := (hb1.block _ y5).trans HKK.out.2.2
          have hbw1 := hbr.trans (hb1.mono hbr.size)
          clear y4 y5 q40 q41 q42 f40 f41 f42 q50 q51 q52 f50 f51 f52 hb1
          have y4 := blk_lt K4
          obtain ⟨q40, q41, q42, f40, f41, f42⟩ := blk3 K4
          have y5 := blk_lt K5
          obtain ⟨q50, q51, q52, f50, f51, f52⟩ := blk3 K5
          have S4 := sto3 w1 (w.heap.size + 1) (.slice A n c) (.int .i64 p') (.int .i64 e')
          have S5 := Sto.cell (((w1.setCell ⟨w.heap.size + 1, 0, none⟩ (.slice A n c)).setCell ⟨w.heap.size + 1, 1, none⟩ (.int .i64 p')).setCell ⟨w.heap.size + 1, 2, none⟩ (.int .i64 e')) (w.heap.size + 2) 1 (.int .u64 (v' : Int))
          have J3 := hid ((S5.block w.heap.size (by omega)).trans ((S4.block w.heap.size (by omega)).trans K3))
          have J4 := hid ((S5.block (w.heap.size + 1) (by omega)).trans (all3 (a' := .slice A n c) (b' := .int .i64 p') (c' := .int .i64 e') K4))
          have J5 := hid (arr3_1 (u := .int .u64 (v' : Int)) ((S4.block (w.heap.size + 2) (by omega)).trans K5))
          have hbz := S5.below (S4.below hbw1 (by omega)) (by omega)
          have HV0 := (HV.out 0).trans (if_neg (by decide))
          have HV1 := (HV.out 1).trans (if_pos rfl)
          have HV2 := (HV.out 2).trans (if_neg (by decide))
          have HW := hid (And.intro HV0 (And.intro HV1 HV2))
          clear HV0 HV1 HV2 S4 S5 K3 K4 K5
          go_wp2_with fail
          go_roundw
          case rel =>
            refine ⟨2, by omega, rfl, J3, ?_, ?_, hbz⟩
            · rw [HR1.out, HR2.out]; exact J4
            · rw [HW.out.1, HW.out.2.1, HW.out.2.2]; exact J5
          case measure => simp [intOf]
        · go_wp2_with fail
          refine PU1.mono ?_
          rintro e w1 ⟨rfl, hb1⟩
          have K3 := (hb1.block _ (blk_lt HKK.out.1)).trans HKK.out.1
          have K4 := (hb1.block _ y4).trans HKK.out.2.1
          have K5 := (hb1.block _ y5).trans HKK.out.2.2
          have hbw1 := hbr.trans (hb1.mono hbr.size)
          clear y4 y5 q40 q41 q42 f40 f41 f42 q50 q51 q52 f50 f51 f52 hb1
          have y4 := blk_lt K4
          obtain ⟨q40, q41, q42, f40, f41, f42⟩ := blk3 K4
          have y5 := blk_lt K5
          obtain ⟨q50, q51, q52, f50, f51, f52⟩ := blk3 K5
          have S4 := sto3 w1 (w.heap.size + 1) (.slice A n c) (.int .i64 p') (.int .i64 e')
          have S5 := Sto.cell (((w1.setCell ⟨w.heap.size + 1, 0, none⟩ (.slice A n c)).setCell ⟨w.heap.size + 1, 1, none⟩ (.int .i64 p')).setCell ⟨w.heap.size + 1, 2, none⟩ (.int .i64 e')) (w.heap.size + 2) 2 (.int .u64 (v' : Int))
          have J3 := hid ((S5.block w.heap.size (by omega)).trans ((S4.block w.heap.size (by omega)).trans K3))
          have J4 := hid ((S5.block (w.heap.size + 1) (by omega)).trans (all3 (a' := .slice A n c) (b' := .int .i64 p') (c' := .int .i64 e') K4))
          have J5 := hid (arr3_2 (u := .int .u64 (v' : Int)) ((S4.block (w.heap.size + 2) (by omega)).trans K5))
          have hbz := S5.below (S4.below hbw1 (by omega)) (by omega)
          have HV0 := (HV.out 0).trans (if_neg (by decide))
          have HV1 := (HV.out 1).trans (if_neg (by decide))
          have HV2 := (HV.out 2).trans (if_pos rfl)
          have HW := hid (And.intro HV0 (And.intro HV1 HV2))
          clear HV0 HV1 HV2 S4 S5 K3 K4 K5
          go_wp2_with fail
          go_roundw
          case rel =>
            refine ⟨3, by omega, rfl, J3, ?_, ?_, hbz⟩
            · rw [HR1.out, HR2.out]; exact J4
            · rw [HW.out.1, HW.out.2.1, HW.out.2.2]; exact J5
          case measure => simp [intOf]
      · obtain rfl : j = 3 := by omega
        obtain ⟨p1, e1, v1, u1⟩ : ∃ (p e : Int) (v : Nat), uintS z 4 0 = (p, e, v) := ⟨_, _, _, rfl⟩
        obtain ⟨p2, e2, v2, u2⟩ : ∃ (p e : Int) (v : Nat), uintS z p1 e1 = (p, e, v) := ⟨_, _, _, rfl⟩
        obtain ⟨p3, e3, v3, u3⟩ : ∃ (p e : Int) (v : Nat), uintS z p2 e2 = (p, e, v) := ⟨_, _, _, rfl⟩
        have r1 : rd3 z 1 = (p1, e1) := by show ((uintS z 4 0).1, (uintS z 4 0).2.1) = _; rw [u1]
        have r2 : rd3 z 2 = (p2, e2) := by show ((uintS z (rd3 z 1).1 (rd3 z 1).2).1, (uintS z (rd3 z 1).1 (rd3 z 1).2).2.1) = _; rw [r1]; simp only; rw [u2]
        have r3 : rd3 z 3 = (p3, e3) := by show ((uintS z (rd3 z 2).1 (rd3 z 2).2).1, (uintS z (rd3 z 2).1 (rd3 z 2).2).2.1) = _; rw [r2]; simp only; rw [u3]
        have s1 : vr3 z 3 0 = v1 := by show ((uintS z 4 0).2.2 : Int) = _; rw [u1]
        have s2 : vr3 z 3 1 = v2 := by show ((uintS z (rd3 z 1).1 (rd3 z 1).2).2.2 : Int) = _; rw [r1]; simp only; rw [u2]
        have s3 : vr3 z 3 2 = v3 := by show ((uintS z (rd3 z 2).1 (rd3 z 2).2).2.2 : Int) = _; rw [r2]; simp only; rw [u3]
        rw [r3] at hk4 q41 q42
        rw [s1, s2, s3] at hk5
        rw [s1] at q50
        rw [s2] at q51
        rw [s3] at q52
        simp only at hk4 q41 q42
        have HRD := hid (fun (h : hdO z) => hd_reads h u1 u2 u3)
        have HBR := hid (fun (o : Obj) (k : Nat) => show Below w.heap.size w ((wr.alloc o).drewN k) from (hbr.alloc hbr.size o).trans ⟨rfl, rfl, rfl, Nat.le_refl _, fun _ _ => rfl⟩)
        clear u1 u2 u3 r1 r2 r3 s1 s2 s3 PU H345 hb3 hb0 d4
        by_cases c1 : e3 = 0
        case neg =>
          have HX := hid (fun h => c1 (HRD.out h).1)
          have b1 : (e3 != 0) = true := by simp; exact c1
          go_wp2_with fail
          go_quiet (fail)
          go_wp2_with fail
          exact bodyPost_ret (v := .tuple #[.int .i64 0, .agg #[.int .i64 0, .int .i64 0, .slice none 0 0]]) (by simp [results, Tryz.results38, go_sem, y3, q30, q31, q32]) rfl (HeadR.no HX.out ((sto3 _ w.heap.size _ _ _).below (HBR.out _ _) (Nat.le_refl _)))
        case pos =>
          subst c1
          by_cases c2 : v1 ≤ 99999999
          case neg =>
            have HX := hid (fun h => c2 (by have := (HRD.out h).2.1.2; omega))
            have b2 : decide ((99999999 : Int) < (v1 : Int)) = true := decide_eq_true (by omega)
            go_wp2_with fail
            go_quiet (fail)
            go_wp2_with fail
            exact bodyPost_ret (v := .tuple #[.int .i64 0, .agg #[.int .i64 0, .int .i64 0, .slice none 0 0]]) (by simp [results, Tryz.results38, go_sem, y3, q30, q31, q32]) rfl (HeadR.no HX.out ((sto3 _ w.heap.size _ _ _).below (HBR.out _ _) (Nat.le_refl _)))
          case pos =>
            have b2 : decide ((99999999 : Int) < (v1 : Int)) = false := decide_eq_false (by omega)
            have w1 : IntKind.i64.wrap (v1 : Int) = (v1 : Int) := by rw [i64_in (by omega) (by omega)]
            by_cases c3 : 1 ≤ v1
            case neg =>
              have HX := hid (fun h => c3 (by have := (HRD.out h).2.1.1; omega))
              have PM := hid (fun w9 => RMay_any (v1 : Int) w9)
              rw [show mayB (v1 : Int) = false by cases h : mayB (v1 : Int) with | false => rfl | true => exact absurd (mayB_iff.1 h).1 (by omega)] at PM
              go_wp2_with fail
              go_quiet ((go_at_call 7; exact Calls.quiet_of_same ((PM.out _).mono fun _ _ h => ⟨h.1, h.2.symm⟩)))
              go_wp2_with fail
              exact bodyPost_ret (v := .tuple #[.int .i64 0, .agg #[.int .i64 0, .int .i64 0, .slice none 0 0]]) (by simp [results, Tryz.results38, go_sem, y3, q30, q31, q32]) rfl (HeadR.no HX.out ((sto3 _ w.heap.size _ _ _).below (HBR.out _ _) (Nat.le_refl _)))
            case pos =>
              have hmy : mayN (v1 : Int) := ⟨by omega, by omega⟩
              have PM := hid (fun w9 => RMay_any (v1 : Int) w9)
              rw [mayB_iff.2 hmy] at PM
              by_cases c4 : v2 ≤ 4294967296
              case neg =>
                have HX := hid (fun h => c4 (by have := (rc_q (HRD.out h).2.2.1).2.1; simp only at this; omega))
                have b4 : decide ((4294967296 : Int) < (v2 : Int)) = true := decide_eq_true (by omega)
                go_wp2_with fail
                go_quiet ((go_at_call 7; exact Calls.quiet_of_same ((PM.out _).mono fun _ _ h => ⟨h.1, h.2.symm⟩)))
                go_wp2_with fail
                exact bodyPost_ret (v := .tuple #[.int .i64 0, .agg #[.int .i64 0, .int .i64 0, .slice none 0 0]]) (by simp [results, Tryz.results38, go_sem, y3, q30, q31, q32]) rfl (HeadR.no HX.out ((sto3 _ w.heap.size _ _ _).below (HBR.out _ _) (Nat.le_refl _)))
              case pos =>
                have b4 : decide ((4294967296 : Int) < (v2 : Int)) = false := decide_eq_false (by omega)
                by_cases c5 : v3 ≤ 1099511627776
                case neg =>
                  have HX := hid (fun h => c5 (by have := (rc_q (HRD.out h).2.2.1).2.2.2; simp only at this; omega))
                  have b5 : decide ((1099511627776 : Int) < (v3 : Int)) = true := decide_eq_true (by omega)
                  go_wp2_with fail
                  go_quiet ((go_at_call 7; exact Calls.quiet_of_same ((PM.out _).mono fun _ _ h => ⟨h.1, h.2.symm⟩)))
                  go_wp2_with fail
                  exact bodyPost_ret (v := .tuple #[.int .i64 0, .agg #[.int .i64 0, .int .i64 0, .slice none 0 0]]) (by simp [results, Tryz.results38, go_sem, y3, q30, q31, q32]) rfl (HeadR.no HX.out ((sto3 _ w.heap.size _ _ _).below (HBR.out _ _) (Nat.le_refl _)))
                case pos =>
                  have b5 : decide ((1099511627776 : Int) < (v3 : Int)) = false := decide_eq_false (by omega)
                  have w2 : IntKind.i64.wrap (v2 : Int) = (v2 : Int) := by rw [i64_in (by omega) (by omega)]
                  have w3 : IntKind.i64.wrap (v3 : Int) = (v3 : Int) := by rw [i64_in (by omega) (by omega)]
                  have hrc := rc_nil c4 c5
                  go_wp2_with fail
                  -- r10
                  obtain ⟨w4, hW4⟩ : ∃ x, x = wr.alloc (.cells #[.int .i64 (v2 : Int), .int .i64 (v3 : Int), .slice none 0 0] 24) := ⟨_, rfl⟩
                  rw [← hW4]
                  have E3 := (Below.heap_alloc wr (.cells #[.int .i64 (v2 : Int), .int .i64 (v3 : Int), .slice none 0 0] 24) _ y3).trans hk3.out
                  have E4 := (Below.heap_alloc wr (.cells #[.int .i64 (v2 : Int), .int .i64 (v3 : Int), .slice none 0 0] 24) _ y4).trans hk4.out
                  have E5 := (Below.heap_alloc wr (.cells #[.int .i64 (v2 : Int), .int .i64 (v3 : Int), .slice none 0 0] 24) _ y5).trans hk5.out
                  have E7 := heap_alloc_new wr (.cells #[.int .i64 (v2 : Int), .int .i64 (v3 : Int), .slice none 0 0] 24)
                  have hbw4 := hbr.alloc hbr.size (.cells #[.int .i64 (v2 : Int), .int .i64 (v3 : Int), .slice none 0 0] 24)
                  rw [← hW4] at E3 E4 E5 E7 hbw4
                  have HE := hid (And.intro E3 (And.intro E4 (And.intro E5 E7)))
                  have hg7 : w.heap.size + 2 < wr.heap.size := y5
                  have PH := hid (fun w9 => RHead9 (v1 : Int) (v2 : Int) (v3 : Int) (A := none) (n := 0) (cp := 0) hmy hrc w9)
                  have PP := hid (fun (w9 : World) (h : Below w4.heap.size w4 w9) => RFPutU_any (k := 1) ((HSS.out.below hbw4).below h) HBB.out (fpE_ok (by omega) HZ.out))
                  unfold PutsU at PH PP
                  obtain ⟨B, hB⟩ : ∃ B, decide (sgH (v1 : Int) ⟨v2, v3, []⟩ = frB 1 z) = B := ⟨_, rfl⟩
                  have HB : Hid (((strOfNums (sgH (v1 : Int) ⟨v2, v3, []⟩)).toList == (strOfNums (frB 1 z)).toList) = B) := hid ((str_eq (frB_bytes (by omega) (by have := hp_len (c := ⟨v2, v3, []⟩) hmy.2 (rc_q hrc).2.1 (rc_q hrc).2.2.2; omega) (hp_bytes _ _)) (frB_bytes (by omega) (by have := HZ.out; omega) HBB.out)).trans hB)
                  have HFB := hid (head_iff (hp_len (c := ⟨v2, v3, []⟩) hmy.2 (rc_q hrc).2.1 (rc_q hrc).2.2.2) HZ.out hB fun h => (HRD.out h).2.2.2)
                  clear E3 E4 E5 E7 hW4 hk3 hk4 hk5 y3 y4 y5 q30 q31 q32 f30 f31 f32 q40 q41 q42 f40 f41 f42 q50 q51 q52 f50 f51 f52 HBR HRD hB hbr
                  refine wp_region_env (A := fun vs => { tmps := #[Value.slice A n c, undef, Value.int IntKind.i64 0, Value.pointer (some { block := w.heap.size, off := 0 }), Value.pointer (some { block := w.heap.size + 1, off := 0 }), Value.pointer (some { block := w.heap.size + 1 + 1, off := 0 }), Value.int IntKind.i64 3, Value.pointer (some { block := wr.heap.size, off := 0 }), Value.slice A n c, Value.int IntKind.i64 ↑n, Value.bool false, undef, Value.slice A n c, Value.agg #[Value.slice A n c, Value.int IntKind.i64 4, Value.int IntKind.i64 0], Value.int IntKind.i64 3, Value.bool false, u16, u17, u18, u19, u20, u21, u22, u23, u24, Value.pointer (some { block := w.heap.size + 1 + 1, off := 1 }), Value.int IntKind.u64 ↑v2, Value.int IntKind.i64 ↑v2, Value.pointer (some { block := w.heap.size + 1 + 1, off := 2 }), Value.int IntKind.u64 ↑v3, Value.int IntKind.i64 ↑v3, Value.agg #[Value.int IntKind.i64 ↑v2, Value.int IntKind.i64 ↑v3, Value.slice none 0 0], vs 0, vs 1, vs 2, vs 3, vs 4, vs 5, vs 6, vs 7, vs 8, vs 9, vs 10, vs 11, vs 12, vs 13, vs 14, vs 15, vs 16, vs 17, vs 18, vs 19, vs 20, vs 21, vs 22, vs 23, vs 24, vs 25, vs 26, vs 27, vs 28, vs 29, vs 30, vs 31, vs 32, vs 33, vs 34, vs 35, vs 36, undef, undef, undef, undef, undef], defers := [] }) (E := fun i yv wq => match i with | 0 => yv = .pointer (some ⟨w.heap.size + 1, 2, none⟩) | 1 => yv = .int .i64 0 | 2 => yv = .bool false | 3 => yv = .bool false | 4 => yv = .pointer (some ⟨w.heap.size + 2, 0, none⟩) | 5 => yv = .int .u64 (v1 : Int) | 6 => yv = .bool false | 7 => yv = .bool false | 8 => yv = .bool false | 9 => yv = .pointer (some ⟨w.heap.size + 2, 0, none⟩) | 10 => yv = .int .u64 (v1 : Int) | 11 => yv = .int .i64 (v1 : Int) | 12 => yv = .bool true | 13 => yv = .bool false | 14 => yv = .bool false | 15 => yv = .bool false | 16 => yv = .pointer (some ⟨w.heap.size + 2, 1, none⟩) | 17 => yv = .int .u64 (v2 : Int) | 18 => yv = .bool false | 19 => yv = .bool false | 20 => yv = .bool false | 21 => yv = .pointer (some ⟨w.heap.size + 2, 2, none⟩) | 22 => yv = .int .u64 (v3 : Int) | 23 => yv = .bool false | 24 => yv = .bool false | 25 => yv = .bool false | 26 => yv = .pointer (some ⟨w.heap.size + 2, 0, none⟩) | 27 => yv = .int .u64 (v1 : Int) | 28 => yv = .int .i64 (v1 : Int) | 29 => yv = .agg #[.int .i64 (v2 : Int), .int .i64 (v3 : Int), .slice none 0 0] | 30 => ∃ A3 n3 c3, yv = .slice A3 n3 c3 ∧ Rw wq A3 n3 c3 (sgH (v1 : Int) ⟨v2, v3, []⟩) | 31 => yv = .string (strOfNums (sgH (v1 : Int) ⟨v2, v3, []⟩)) | 32 => yv = .slice A n c | 33 => ∃ A3 n3 c3, yv = .slice A3 n3 c3 ∧ Rw wq A3 n3 c3 (frB 1 z) | 34 => yv = .string (strOfNums (frB 1 z)) | 35 => yv = .bool (!B) | 36 => yv = .bool (!B) | _ => True) (C := fun wq => Below w4.heap.size w4 wq) (Ext := fun a b => Below a.heap.size a b) (fun _ => undef) (by kernel_rfl) (by rfl) ?hC ?hstep ?hstab (low_of (by kernel_rfl)) ?hend
                  case hC => exact Below.drew (Below.refl _ _)
                  case hstab =>
                    intro i yv wa wb hx h
                    match i, h with
                    | 0, h => exact h
                    | 1, h => exact h
                    | 2, h => exact h
                    | 3, h => exact h
                    | 4, h => exact h
                    | 5, h => exact h
                    | 6, h => exact h
                    | 7, h => exact h
                    | 8, h => exact h
                    | 9, h => exact h
                    | 10, h => exact h
                    | 11, h => exact h
                    | 12, h => exact h
                    | 13, h => exact h
                    | 14, h => exact h
                    | 15, h => exact h
                    | 16, h => exact h
                    | 17, h => exact h
                    | 18, h => exact h
                    | 19, h => exact h
                    | 20, h => exact h
                    | 21, h => exact h
                    | 22, h => exact h
                    | 23, h => exact h
                    | 24, h => exact h
                    | 25, h => exact h
                    | 26, h => exact h
                    | 27, h => exact h
                    | 28, h => exact h
                    | 29, h => exact h
                    | 30, h => exact (by obtain ⟨A3, n3, c3, h1, h2⟩ := h; exact ⟨A3, n3, c3, h1, h2.below hx⟩)
                    | 31, h => exact h
                    | 32, h => exact h
                    | 33, h => exact (by obtain ⟨A3, n3, c3, h1, h2⟩ := h; exact ⟨A3, n3, c3, h1, h2.below hx⟩)
                    | 34, h => exact h
                    | 35, h => exact h
                    | 36, h => exact h
                    | (_ + 37), _ => trivial
                  case hstep =>
                    intro i o ho
                    match i, ho with
                    | 0, ho =>
                      obtain rfl := Option.some.inj (show some _ = some o from ho)
                      intro vs wq hC hE K hK
                      go_simp
                      have hh := hK.out (.pointer (some ⟨w.heap.size + 1, 2, none⟩)) wq rfl (Below.refl _ _) hC
                      simp only [upd, Nat.reduceEqDiff, ↓reduceIte] at hh
                      exact hh
                    | 1, ho =>
                      obtain rfl := Option.some.inj (show some _ = some o from ho)
                      intro vs wq hC hE K hK
                      obtain d0 : vs 0 = .pointer (some ⟨w.heap.size + 1, 2, none⟩) := hE { on := 0, ground := Ground.data } (by simp) rfl
                      obtain ⟨e0, e1, e2, -, -, -⟩ := blk3 ((hC.block _ (blk_lt HE.out.2.1)).trans HE.out.2.1)
                      go_simp
                      have hh := hK.out (.int .i64 0) wq rfl (Below.refl _ _) hC
                      simp only [upd, Nat.reduceEqDiff, ↓reduceIte, d0] at hh
                      exact hh
                    | 2, ho =>
                      obtain rfl := Option.some.inj (show some _ = some o from ho)
                      intro vs wq hC hE K hK
                      obtain d1 : vs 1 = .int .i64 0 := hE { on := 1, ground := Ground.data } (by simp) rfl
                      go_simp
                      have hh := hK.out (.bool false) wq rfl (Below.refl _ _) hC
                      simp only [upd, Nat.reduceEqDiff, ↓reduceIte, d1] at hh
                      exact hh
                    | 3, ho =>
                      obtain rfl := Option.some.inj (show some _ = some o from ho)
                      intro vs wq hC hE K hK
                      obtain d2 : vs 2 = .bool false := hE { on := 2, ground := Ground.data } (by simp) rfl
                      go_simp
                      have hh := hK.out (.bool false) wq rfl (Below.refl _ _) hC
                      simp only [upd, Nat.reduceEqDiff, ↓reduceIte, d2] at hh
                      exact hh
                    | 4, ho =>
                      obtain rfl := Option.some.inj (show some _ = some o from ho)
                      intro vs wq hC hE K hK
                      obtain d3 : vs 3 = .bool false := hE { on := 3, ground := Ground.guard } (by simp) rfl
                      go_simp
                      have hh := hK.out (.pointer (some ⟨w.heap.size + 2, 0, none⟩)) wq rfl (Below.refl _ _) hC
                      simp only [upd, Nat.reduceEqDiff, ↓reduceIte, d3] at hh
                      exact hh
                    | 5, ho =>
                      obtain rfl := Option.some.inj (show some _ = some o from ho)
                      intro vs wq hC hE K hK
                      obtain d4 : vs 4 = .pointer (some ⟨w.heap.size + 2, 0, none⟩) := hE { on := 4, ground := Ground.data } (by simp) rfl
                      obtain d3 : vs 3 = .bool false := hE { on := 3, ground := Ground.guard } (by simp) rfl
                      obtain ⟨e0, e1, e2, -, -, -⟩ := blk3 ((hC.block _ (blk_lt HE.out.2.2.1)).trans HE.out.2.2.1)
                      go_simp
                      have hh := hK.out (.int .u64 (v1 : Int)) wq rfl (Below.refl _ _) hC
                      simp only [upd, Nat.reduceEqDiff, ↓reduceIte, d3, d4] at hh
                      exact hh
                    | 6, ho =>
                      obtain rfl := Option.some.inj (show some _ = some o from ho)
                      intro vs wq hC hE K hK
                      obtain d5 : vs 5 = .int .u64 (v1 : Int) := hE { on := 5, ground := Ground.data } (by simp) rfl
                      obtain d3 : vs 3 = .bool false := hE { on := 3, ground := Ground.guard } (by simp) rfl
                      go_simp
                      have hh := hK.out (.bool false) wq rfl (Below.refl _ _) hC
                      simp only [upd, Nat.reduceEqDiff, ↓reduceIte, d3, d5] at hh
                      exact hh
                    | 7, ho =>
                      obtain rfl := Option.some.inj (show some _ = some o from ho)
                      intro vs wq hC hE K hK
                      obtain d3 : vs 3 = .bool false := hE { on := 3, ground := Ground.data } (by simp) rfl
                      obtain d6 : vs 6 = .bool false := hE { on := 6, ground := Ground.data } (by simp) rfl
                      go_simp
                      have hh := hK.out (.bool false) wq rfl (Below.refl _ _) hC
                      simp only [upd, Nat.reduceEqDiff, ↓reduceIte, d3, d6] at hh
                      exact hh
                    | 8, ho =>
                      obtain rfl := Option.some.inj (show some _ = some o from ho)
                      intro vs wq hC hE K hK
                      obtain d7 : vs 7 = .bool false := hE { on := 7, ground := Ground.data } (by simp) rfl
                      go_simp
                      have hh := hK.out (.bool false) wq rfl (Below.refl _ _) hC
                      simp only [upd, Nat.reduceEqDiff, ↓reduceIte, d7] at hh
                      exact hh
                    | 9, ho =>
                      obtain rfl := Option.some.inj (show some _ = some o from ho)
                      intro vs wq hC hE K hK
                      obtain d8 : vs 8 = .bool false := hE { on := 8, ground := Ground.guard } (by simp) rfl
                      go_simp
                      have hh := hK.out (.pointer (some ⟨w.heap.size + 2, 0, none⟩)) wq rfl (Below.refl _ _) hC
                      simp only [upd, Nat.reduceEqDiff, ↓reduceIte, d8] at hh
                      exact hh
                    | 10, ho =>
                      obtain rfl := Option.some.inj (show some _ = some o from ho)
                      intro vs wq hC hE K hK
                      obtain d9 : vs 9 = .pointer (some ⟨w.heap.size + 2, 0, none⟩) := hE { on := 9, ground := Ground.data } (by simp) rfl
                      obtain d8 : vs 8 = .bool false := hE { on := 8, ground := Ground.guard } (by simp) rfl
                      obtain ⟨e0, e1, e2, -, -, -⟩ := blk3 ((hC.block _ (blk_lt HE.out.2.2.1)).trans HE.out.2.2.1)
                      go_simp
                      have hh := hK.out (.int .u64 (v1 : Int)) wq rfl (Below.refl _ _) hC
                      simp only [upd, Nat.reduceEqDiff, ↓reduceIte, d8, d9] at hh
                      exact hh
                    | 11, ho =>
                      obtain rfl := Option.some.inj (show some _ = some o from ho)
                      intro vs wq hC hE K hK
                      obtain d10 : vs 10 = .int .u64 (v1 : Int) := hE { on := 10, ground := Ground.data } (by simp) rfl
                      obtain d8 : vs 8 = .bool false := hE { on := 8, ground := Ground.guard } (by simp) rfl
                      go_simp
                      have hh := hK.out (.int .i64 (v1 : Int)) wq rfl (Below.refl _ _) hC
                      simp only [upd, Nat.reduceEqDiff, ↓reduceIte, d8, d10] at hh
                      exact hh
                    | 12, ho =>
                      obtain rfl := Option.some.inj (show some _ = some o from ho)
                      intro vs wq hC hE K hK
                      obtain d11 : vs 11 = .int .i64 (v1 : Int) := hE { on := 11, ground := Ground.data } (by simp) rfl
                      obtain d8 : vs 8 = .bool false := hE { on := 8, ground := Ground.guard } (by simp) rfl
                      go_simp
                      go_at_call 7
                      refine (PM.out _).mono ?_
                      rintro e w5 ⟨rfl, rfl⟩
                      have hh := hK.out (.bool true) wq rfl (Below.refl _ _) hC
                      simp only [upd, Nat.reduceEqDiff, ↓reduceIte, d8, d11] at hh
                      exact hh
                    | 13, ho =>
                      obtain rfl := Option.some.inj (show some _ = some o from ho)
                      intro vs wq hC hE K hK
                      obtain d12 : vs 12 = .bool true := hE { on := 12, ground := Ground.data } (by simp) rfl
                      obtain d8 : vs 8 = .bool false := hE { on := 8, ground := Ground.guard } (by simp) rfl
                      go_simp
                      have hh := hK.out (.bool false) wq rfl (Below.refl _ _) hC
                      simp only [upd, Nat.reduceEqDiff, ↓reduceIte, d8, d12] at hh
                      exact hh
                    | 14, ho =>
                      obtain rfl := Option.some.inj (show some _ = some o from ho)
                      intro vs wq hC hE K hK
                      obtain d8 : vs 8 = .bool false := hE { on := 8, ground := Ground.data } (by simp) rfl
                      obtain d13 : vs 13 = .bool false := hE { on := 13, ground := Ground.data } (by simp) rfl
                      go_simp
                      have hh := hK.out (.bool false) wq rfl (Below.refl _ _) hC
                      simp only [upd, Nat.reduceEqDiff, ↓reduceIte, d8, d13] at hh
                      exact hh
                    | 15, ho =>
                      obtain rfl := Option.some.inj (show some _ = some o from ho)
                      intro vs wq hC hE K hK
                      obtain d14 : vs 14 = .bool false := hE { on := 14, ground := Ground.data } (by simp) rfl
                      go_simp
                      have hh := hK.out (.bool false) wq rfl (Below.refl _ _) hC
                      simp only [upd, Nat.reduceEqDiff, ↓reduceIte, d14] at hh
                      exact hh
                    | 16, ho =>
                      obtain rfl := Option.some.inj (show some _ = some o from ho)
                      intro vs wq hC hE K hK
                      obtain d15 : vs 15 = .bool false := hE { on := 15, ground := Ground.guard } (by simp) rfl
                      go_simp
                      have hh := hK.out (.pointer (some ⟨w.heap.size + 2, 1, none⟩)) wq rfl (Below.refl _ _) hC
                      simp only [upd, Nat.reduceEqDiff, ↓reduceIte, d15] at hh
                      exact hh
                    | 17, ho =>
                      obtain rfl := Option.some.inj (show some _ = some o from ho)
                      intro vs wq hC hE K hK
                      obtain d16 : vs 16 = .pointer (some ⟨w.heap.size + 2, 1, none⟩) := hE { on := 16, ground := Ground.data } (by simp) rfl
                      obtain d15 : vs 15 = .bool false := hE { on := 15, ground := Ground.guard } (by simp) rfl
                      obtain ⟨e0, e1, e2, -, -, -⟩ := blk3 ((hC.block _ (blk_lt HE.out.2.2.1)).trans HE.out.2.2.1)
                      go_simp
                      have hh := hK.out (.int .u64 (v2 : Int)) wq rfl (Below.refl _ _) hC
                      simp only [upd, Nat.reduceEqDiff, ↓reduceIte, d15, d16] at hh
                      exact hh
                    | 18, ho =>
                      obtain rfl := Option.some.inj (show some _ = some o from ho)
                      intro vs wq hC hE K hK
                      obtain d17 : vs 17 = .int .u64 (v2 : Int) := hE { on := 17, ground := Ground.data } (by simp) rfl
                      obtain d15 : vs 15 = .bool false := hE { on := 15, ground := Ground.guard } (by simp) rfl
                      go_simp
                      have hh := hK.out (.bool false) wq rfl (Below.refl _ _) hC
                      simp only [upd, Nat.reduceEqDiff, ↓reduceIte, d15, d17] at hh
                      exact hh
                    | 19, ho =>
                      obtain rfl := Option.some.inj (show some _ = some o from ho)
                      intro vs wq hC hE K hK
                      obtain d15 : vs 15 = .bool false := hE { on := 15, ground := Ground.data } (by simp) rfl
                      obtain d18 : vs 18 = .bool false := hE { on := 18, ground := Ground.data } (by simp) rfl
                      go_simp
                      have hh := hK.out (.bool false) wq rfl (Below.refl _ _) hC
                      simp only [upd, Nat.reduceEqDiff, ↓reduceIte, d15, d18] at hh
                      exact hh
                    | 20, ho =>
                      obtain rfl := Option.some.inj (show some _ = some o from ho)
                      intro vs wq hC hE K hK
                      obtain d19 : vs 19 = .bool false := hE { on := 19, ground := Ground.data } (by simp) rfl
                      go_simp
                      have hh := hK.out (.bool false) wq rfl (Below.refl _ _) hC
                      simp only [upd, Nat.reduceEqDiff, ↓reduceIte, d19] at hh
                      exact hh
                    | 21, ho =>
                      obtain rfl := Option.some.inj (show some _ = some o from ho)
                      intro vs wq hC hE K hK
                      obtain d20 : vs 20 = .bool false := hE { on := 20, ground := Ground.guard } (by simp) rfl
                      go_simp
                      have hh := hK.out (.pointer (some ⟨w.heap.size + 2, 2, none⟩)) wq rfl (Below.refl _ _) hC
                      simp only [upd, Nat.reduceEqDiff, ↓reduceIte, d20] at hh
                      exact hh
                    | 22, ho =>
                      obtain rfl := Option.some.inj (show some _ = some o from ho)
                      intro vs wq hC hE K hK
                      obtain d21 : vs 21 = .pointer (some ⟨w.heap.size + 2, 2, none⟩) := hE { on := 21, ground := Ground.data } (by simp) rfl
                      obtain d20 : vs 20 = .bool false := hE { on := 20, ground := Ground.guard } (by simp) rfl
                      obtain ⟨e0, e1, e2, -, -, -⟩ := blk3 ((hC.block _ (blk_lt HE.out.2.2.1)).trans HE.out.2.2.1)
                      go_simp
                      have hh := hK.out (.int .u64 (v3 : Int)) wq rfl (Below.refl _ _) hC
                      simp only [upd, Nat.reduceEqDiff, ↓reduceIte, d20, d21] at hh
                      exact hh
                    | 23, ho =>
                      obtain rfl := Option.some.inj (show some _ = some o from ho)
                      intro vs wq hC hE K hK
                      obtain d22 : vs 22 = .int .u64 (v3 : Int) := hE { on := 22, ground := Ground.data } (by simp) rfl
                      obtain d20 : vs 20 = .bool false := hE { on := 20, ground := Ground.guard } (by simp) rfl
                      go_simp
                      have hh := hK.out (.bool false) wq rfl (Below.refl _ _) hC
                      simp only [upd, Nat.reduceEqDiff, ↓reduceIte, d20, d22] at hh
                      exact hh
                    | 24, ho =>
                      obtain rfl := Option.some.inj (show some _ = some o from ho)
                      intro vs wq hC hE K hK
                      obtain d20 : vs 20 = .bool false := hE { on := 20, ground := Ground.data } (by simp) rfl
                      obtain d23 : vs 23 = .bool false := hE { on := 23, ground := Ground.data } (by simp) rfl
                      go_simp
                      have hh := hK.out (.bool false) wq rfl (Below.refl _ _) hC
                      simp only [upd, Nat.reduceEqDiff, ↓reduceIte, d20, d23] at hh
                      exact hh
                    | 25, ho =>
                      obtain rfl := Option.some.inj (show some _ = some o from ho)
                      intro vs wq hC hE K hK
                      obtain d24 : vs 24 = .bool false := hE { on := 24, ground := Ground.data } (by simp) rfl
                      go_simp
                      have hh := hK.out (.bool false) wq rfl (Below.refl _ _) hC
                      simp only [upd, Nat.reduceEqDiff, ↓reduceIte, d24] at hh
                      exact hh
                    | 26, ho =>
                      obtain rfl := Option.some.inj (show some _ = some o from ho)
                      intro vs wq hC hE K hK
                      obtain d25 : vs 25 = .bool false := hE { on := 25, ground := Ground.guard } (by simp) rfl
                      go_simp
                      have hh := hK.out (.pointer (some ⟨w.heap.size + 2, 0, none⟩)) wq rfl (Below.refl _ _) hC
                      simp only [upd, Nat.reduceEqDiff, ↓reduceIte, d25] at hh
                      exact hh
                    | 27, ho =>
                      obtain rfl := Option.some.inj (show some _ = some o from ho)
                      intro vs wq hC hE K hK
                      obtain d26 : vs 26 = .pointer (some ⟨w.heap.size + 2, 0, none⟩) := hE { on := 26, ground := Ground.data } (by simp) rfl
                      obtain d25 : vs 25 = .bool false := hE { on := 25, ground := Ground.guard } (by simp) rfl
                      obtain ⟨e0, e1, e2, -, -, -⟩ := blk3 ((hC.block _ (blk_lt HE.out.2.2.1)).trans HE.out.2.2.1)
                      go_simp
                      have hh := hK.out (.int .u64 (v1 : Int)) wq rfl (Below.refl _ _) hC
                      simp only [upd, Nat.reduceEqDiff, ↓reduceIte, d25, d26] at hh
                      exact hh
                    | 28, ho =>
                      obtain rfl := Option.some.inj (show some _ = some o from ho)
                      intro vs wq hC hE K hK
                      obtain d27 : vs 27 = .int .u64 (v1 : Int) := hE { on := 27, ground := Ground.data } (by simp) rfl
                      obtain d25 : vs 25 = .bool false := hE { on := 25, ground := Ground.guard } (by simp) rfl
                      go_simp
                      have hh := hK.out (.int .i64 (v1 : Int)) wq rfl (Below.refl _ _) hC
                      simp only [upd, Nat.reduceEqDiff, ↓reduceIte, d25, d27] at hh
                      exact hh
                    | 29, ho =>
                      obtain rfl := Option.some.inj (show some _ = some o from ho)
                      intro vs wq hC hE K hK
                      obtain d25 : vs 25 = .bool false := hE { on := 25, ground := Ground.guard } (by simp) rfl
                      obtain ⟨e0, e1, e2, -, -, -⟩ := blk3 ((hC.block _ (blk_lt HE.out.2.2.2)).trans HE.out.2.2.2)
                      go_simp
                      have hh := hK.out (.agg #[.int .i64 (v2 : Int), .int .i64 (v3 : Int), .slice none 0 0]) wq rfl (Below.refl _ _) hC
                      simp only [upd, Nat.reduceEqDiff, ↓reduceIte, d25] at hh
                      exact hh
                    | 30, ho =>
                      obtain rfl := Option.some.inj (show some _ = some o from ho)
                      intro vs wq hC hE K hK
                      obtain d28 : vs 28 = .int .i64 (v1 : Int) := hE { on := 28, ground := Ground.data } (by simp) rfl
                      obtain d29 : vs 29 = .agg #[.int .i64 (v2 : Int), .int .i64 (v3 : Int), .slice none 0 0] := hE { on := 29, ground := Ground.data } (by simp) rfl
                      obtain d25 : vs 25 = .bool false := hE { on := 25, ground := Ground.guard } (by simp) rfl
                      go_simp
                      go_at_call 10
                      refine (PH.out wq).mono ?_
                      rintro e w5 ⟨⟨v5, rfl, hown, -⟩, hb5⟩
                      obtain ⟨A3, c3, rfl, hR3, -⟩ := own_rw hown
                      have hh := hK.out (.slice A3 _ c3) w5 ⟨A3, _, c3, rfl, hR3⟩ hb5 (hC.trans (hb5.mono hC.size))
                      simp only [upd, Nat.reduceEqDiff, ↓reduceIte, d25, d28, d29] at hh
                      exact hh
                    | 31, ho =>
                      obtain rfl := Option.some.inj (show some _ = some o from ho)
                      intro vs wq hC hE K hK
                      obtain ⟨A3, n3, c3, d30, hR30⟩ : ∃ A3 n3 c3, vs 30 = .slice A3 n3 c3 ∧ Rw wq A3 n3 c3 (sgH (v1 : Int) ⟨v2, v3, []⟩) := hE { on := 30, ground := Ground.data } (by simp) rfl
                      obtain d25 : vs 25 = .bool false := hE { on := 25, ground := Ground.guard } (by simp) rfl
                      have cv := conv8 c3 hR30.1
                      go_simp
                      have hh := hK.out (.string (strOfNums (sgH (v1 : Int) ⟨v2, v3, []⟩))) wq rfl (Below.refl _ _) hC
                      simp only [upd, Nat.reduceEqDiff, ↓reduceIte, d25, d30] at hh
                      exact hh
                    | 32, ho =>
                      obtain rfl := Option.some.inj (show some _ = some o from ho)
                      intro vs wq hC hE K hK
                      obtain d25 : vs 25 = .bool false := hE { on := 25, ground := Ground.guard } (by simp) rfl
                      go_simp
                      have hh := hK.out (.slice A n c) wq rfl (Below.refl _ _) hC
                      simp only [upd, Nat.reduceEqDiff, ↓reduceIte, d25] at hh
                      exact hh
                    | 33, ho =>
                      obtain rfl := Option.some.inj (show some _ = some o from ho)
                      intro vs wq hC hE K hK
                      obtain d32 : vs 32 = .slice A n c := hE { on := 32, ground := Ground.data } (by simp) rfl
                      obtain d25 : vs 25 = .bool false := hE { on := 25, ground := Ground.guard } (by simp) rfl
                      go_simp
                      go_at_call 30
                      refine (PP.out wq hC).mono ?_
                      rintro e w5 ⟨⟨v5, rfl, hown, -⟩, hb5⟩
                      obtain ⟨A3, c3, rfl, hR3, -⟩ := own_rw hown
                      have hh := hK.out (.slice A3 _ c3) w5 ⟨A3, _, c3, rfl, hR3⟩ hb5 (hC.trans (hb5.mono hC.size))
                      simp only [upd, Nat.reduceEqDiff, ↓reduceIte, d25, d32] at hh
                      exact hh
                    | 34, ho =>
                      obtain rfl := Option.some.inj (show some _ = some o from ho)
                      intro vs wq hC hE K hK
                      obtain ⟨A3, n3, c3, d33, hR33⟩ : ∃ A3 n3 c3, vs 33 = .slice A3 n3 c3 ∧ Rw wq A3 n3 c3 (frB 1 z) := hE { on := 33, ground := Ground.data } (by simp) rfl
                      obtain d25 : vs 25 = .bool false := hE { on := 25, ground := Ground.guard } (by simp) rfl
                      have cv := conv8 c3 hR33.1
                      go_simp
                      have hh := hK.out (.string (strOfNums (frB 1 z))) wq rfl (Below.refl _ _) hC
                      simp only [upd, Nat.reduceEqDiff, ↓reduceIte, d25, d33] at hh
                      exact hh
                    | 35, ho =>
                      obtain rfl := Option.some.inj (show some _ = some o from ho)
                      intro vs wq hC hE K hK
                      obtain d31 : vs 31 = .string (strOfNums (sgH (v1 : Int) ⟨v2, v3, []⟩)) := hE { on := 31, ground := Ground.data } (by simp) rfl
                      obtain d34 : vs 34 = .string (strOfNums (frB 1 z)) := hE { on := 34, ground := Ground.data } (by simp) rfl
                      obtain d25 : vs 25 = .bool false := hE { on := 25, ground := Ground.guard } (by simp) rfl
                      have he := HB.out
                      cases B with
                      | false =>
                        go_simp
                        have hh := hK.out (.bool true) wq rfl (Below.refl _ _) hC
                        simp only [upd, Nat.reduceEqDiff, ↓reduceIte, d25, d31, d34] at hh
                        exact hh
                      | true =>
                        go_simp
                        have hh := hK.out (.bool false) wq rfl (Below.refl _ _) hC
                        simp only [upd, Nat.reduceEqDiff, ↓reduceIte, d25, d31, d34] at hh
                        exact hh
                    | 36, ho =>
                      obtain rfl := Option.some.inj (show some _ = some o from ho)
                      intro vs wq hC hE K hK
                      obtain d25 : vs 25 = .bool false := hE { on := 25, ground := Ground.data } (by simp) rfl
                      obtain d35 : vs 35 = .bool (!B) := hE { on := 35, ground := Ground.data } (by simp) rfl
                      go_simp
                      have hh := hK.out (.bool (!B)) wq rfl (Below.refl _ _) hC
                      simp only [upd, Nat.reduceEqDiff, ↓reduceIte, d25, d35] at hh
                      exact hh
                    | (_ + 37), ho => exact absurd ho (by simp)
                  case hend =>
                    intro va w5 hC hE
                    have r36 : va 36 = _ := hE 36 (by decide)
                    simp only [r36]
                    have hbw5 : Below w.heap.size w w5 := hbw4.trans (hC.mono hbw4.size)
                    have K3 := (hC.block _ (blk_lt HE.out.1)).trans HE.out.1
                    have K5 := (hC.block _ (blk_lt HE.out.2.2.1)).trans HE.out.2.2.1
                    have K7 := (hC.block _ (blk_lt HE.out.2.2.2)).trans HE.out.2.2.2
                    clear r36 hE hC PM PH PP HE hbw4
                    have y3 := blk_lt K3
                    obtain ⟨q30, q31, q32, f30, f31, f32⟩ := blk3 K3
                    have y5 := blk_lt K5
                    obtain ⟨q50, q51, q52, -, -, -⟩ := blk3 K5
                    have y7 := blk_lt K7
                    obtain ⟨q70, q71, q72, -, -, -⟩ := blk3 K7
                    cases B with
                    | false =>
                      have HX := hid (HFB.out.2 rfl)
                      go_wp2_with fail
                      exact bodyPost_ret (v := .tuple #[.int .i64 0, .agg #[.int .i64 0, .int .i64 0, .slice none 0 0]]) (by simp [results, Tryz.results38, go_sem, y3, q30, q31, q32]) rfl (HeadR.no HX.out ((sto3 _ w.heap.size _ _ _).below hbw5 (Nat.le_refl _)))
                    | true =>
                      have HX := hid (HFB.out.1 rfl)
                      go_wp2_with fail
                      go_region
                      go_wp2
                      exact bodyPost_ret (v := .tuple #[.int .i64 (v1 : Int), .agg #[.int .i64 (v2 : Int), .int .i64 (v3 : Int), .slice none 0 0]]) (by simp [results, Tryz.results38, go_sem, y3, q30, q31, q32]) rfl (HeadR.yes hmy hrc HX.out ((sto3 _ w.heap.size _ _ _).below hbw5.drew (Nat.le_refl _)))
                  -- endr10
end Go.Proofs.YtondnbnaoacanaaGreatDoor
