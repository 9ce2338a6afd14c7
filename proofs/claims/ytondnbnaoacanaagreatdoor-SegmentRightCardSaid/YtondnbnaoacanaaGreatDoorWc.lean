/- Texts laid together: Wire6, Wire7, WireN. -/
import Derived.Test.YtondnbnaoacanaaGreatDoorWb
import Derived.Laws.BytesArg
import Derived.Laws.IdiomStrings
import Derived.RegionTactic
/- Contracts of layer 3 (wire) and of its reference: bytes that are taken. -/
namespace Go.Proofs.YtondnbnaoacanaaGreatDoor
open Go.ChangeShapes Go.WideShapes Go.ChangeAt Go.RowKit Fb

/-- the next m bytes: the place behind them, the error, they -/
def takeS (zs : List Int) (p er m : Int) : Int × Int × List Int :=
  if er = 0 ∧ 0 ≤ p ∧ p ≤ zs.length then
    (if m < 0 then (p, 1, []) else if (zs.length : Int) - p < m then (p, 10, []) else (p + m, 0, (zs.drop p.toNat).take m.toNat))
  else (p, if er = 0 then 1 else er, [])
theorem tS_no {zs : List Int} {p er m : Int} (h : ¬(er = 0 ∧ 0 ≤ p ∧ p ≤ zs.length)) : takeS zs p er m = (p, if er = 0 then 1 else er, []) := by unfold takeS; rw [if_neg h]
theorem tS_neg {zs : List Int} {p m : Int} (h : 0 ≤ p ∧ p ≤ zs.length) (hm : m < 0) : takeS zs p 0 m = (p, 1, []) := by unfold takeS; rw [if_pos ⟨rfl, h⟩, if_pos hm]
theorem tS_short {zs : List Int} {p m : Int} (h : 0 ≤ p ∧ p ≤ zs.length) (hm : 0 ≤ m) (hl : (zs.length : Int) - p < m) : takeS zs p 0 m = (p, 10, []) := by
  unfold takeS; rw [if_pos ⟨rfl, h⟩, if_neg (by omega), if_pos hl]
theorem tS_ok {zs : List Int} {p m : Int} (h : 0 ≤ p ∧ p ≤ zs.length) (hm : 0 ≤ m) (hl : m ≤ (zs.length : Int) - p) : takeS zs p 0 m = (p + m, 0, (zs.drop p.toNat).take m.toNat) := by
  unfold takeS; rw [if_pos ⟨rfl, h⟩, if_neg (by omega), if_neg (by omega)]
/-- a cursor and a slice that has these bytes are handed back, and nothing that lay is otherwise -/
def Takes (base : Nat) (w : World) (A : Option Addr) (n c : Nat) (p' e' : Int) (bs : List Int) (e : Ending) (w' : World) : Prop :=
  (∃ A2 c2, e = .returned (.tuple #[.agg #[.slice A n c, .int .i64 p', .int .i64 e'], .slice A2 bs.length c2]) ∧ Sl w' w'.heap.size A2 bs.length (by8 bs) ∧ (∀ a, A2 = some a → base ≤ a.block)) ∧ Below base w w'
/-- a slice of the call's own that has these bytes -/
def Owns8 (w : World) (bs : List Int) (e : Ending) (w' : World) : Prop := (∃ v, e = .returned v ∧ w'.ownsRow w.heap.size 5 1 v bs.length (by8 bs)) ∧ Below w.heap.size w w'

set_option maxHeartbeats 4000000 in
set_option maxRecDepth 100000 in
theorem Take_any {A : Option Addr} {n c : Nat} {p er m p' e' : Int} {bs : List Int} {zs : List Int} {w : World} (ht : takeS zs p er m = (p', e', bs)) (hS : Sl w w.heap.size A n (by8 zs)) (hnil : A = none → c = 0) (hn : n ≤ 100000) (hc : n ≤ c) (hcm : c ≤ maxLen) (hm : m ≤ 9223372036854775807) :
    Calls Tryz.prog 102 #[.agg #[.slice A n c, .int .i64 p, .int .i64 er], .int .i64 m] w (Takes w.heap.size w A n c p' e' bs) := by
  have hl : n = zs.length := by have := hS.len; rw [by8_len] at this; exact this.symm
  unfold maxLen at hcm
  by_cases hr : er = 0 ∧ 0 ≤ p ∧ p ≤ zs.length
  · obtain ⟨rfl, hp⟩ := hr
    have hrg : Rgt n p 0 := ⟨rfl, hp.1, by omega⟩
    by_cases hm0 : m < 0
    · rw [tS_neg hp hm0] at ht
      simp only [Prod.mk.injEq] at ht
      obtain ⟨rfl, rfl, rfl⟩ := ht
      clear hl hp hS hnil
      go_enter Tryz.func102, Tryz.ntmps102
      go_wp2_with fail
      with_reducible refine (right_yes hrg _).mono ?_
      rintro e w' ⟨rfl, rfl⟩
      go_wp2_with fail
      with_reducible refine (stay_any (if_pos rfl) _).mono ?_
      rintro e w1 ⟨rfl, hbel⟩
      obtain ⟨k1, k2, k3⟩ := kept3 hbel
      obtain ⟨d0, d1, d2, g0, g1, g2⟩ := blk3 k2
      clear k1 k2 k3
      go_wp2_with fail
      refine bodyPost_ret (v := .tuple #[.agg #[.slice A n c, .int .i64 p, .int .i64 1], .slice none 0 0]) (by simp [results, Tryz.results102, go_sem, d0, d1, d2]) rfl ⟨⟨none, 0, rfl, Sl.nil _ _ _, fun _ h => by cases h⟩, ?_⟩
      repeat (first | refine Below.setCell ?_ (by first | (simp; done) | (simp; omega)) _ | refine Below.alloc ?_ (by simp; omega) _)
      refine Below.trans ?_ (hbel.mono (by simp; omega))
      exact (((Below.refl _ _).alloc (Nat.le_refl _) _).alloc (by simp) _).alloc (by simp; omega) _
    · by_cases hsh : (zs.length : Int) - p < m
      · rw [tS_short hp (by omega) hsh] at ht
        simp only [Prod.mk.injEq] at ht
        obtain ⟨rfl, rfl, rfl⟩ := ht
        have hlm : (n : Int) - p < m := by omega
        have hm1 : 0 ≤ m := by omega
        have hp0 := hp.1
        clear hl hp hS hnil hsh hm0
        go_enter Tryz.func102, Tryz.ntmps102
        go_wp2_with fail
        with_reducible refine (right_yes hrg _).mono ?_
        rintro e w' ⟨rfl, rfl⟩
        go_wp2_with fail
        with_reducible refine (Left_yes hrg (by omega) _).mono ?_
        rintro e w1 ⟨rfl, hbel⟩
        have hz1 : w.heap.size + 2 < w1.heap.size := by have := hbel.size; simp at this; omega
        obtain ⟨k1, k2, k3⟩ := kept3 hbel
        obtain ⟨c0, c1, c2, f0, f1, f2⟩ := blk3 k1
        go_wp2_with fail
        with_reducible refine (stay_any (if_pos rfl) _).mono ?_
        rintro e w2 ⟨rfl, hbel2⟩
        obtain ⟨d0, d1, d2, g0, g1, g2⟩ := blk3 ((hbel2.block _ (by omega)).trans k2)
        clear k1 k2 k3
        go_wp2_with fail
        refine bodyPost_ret (v := .tuple #[.agg #[.slice A n c, .int .i64 p, .int .i64 10], .slice none 0 0]) (by simp [results, Tryz.results102, go_sem, d0, d1, d2]) rfl ⟨⟨none, 0, rfl, Sl.nil _ _ _, fun _ h => by cases h⟩, ?_⟩
        repeat (first | refine Below.setCell ?_ (by first | (simp; done) | (simp; omega)) _ | refine Below.alloc ?_ (by simp; omega) _)
        refine Below.trans (Below.trans ?_ (hbel.mono (by simp; omega))) (hbel2.mono (by omega))
        exact (((Below.refl _ _).alloc (Nat.le_refl _) _).alloc (by simp) _).alloc (by simp; omega) _
      · rw [tS_ok hp (by omega) (by omega)] at ht
        simp only [Prod.mk.injEq] at ht
        obtain ⟨rfl, rfl, hbs⟩ := ht
        obtain ⟨q, rfl⟩ : ∃ q : Nat, p = (q : Int) := ⟨p.toNat, by omega⟩
        obtain ⟨r, rfl⟩ : ∃ r : Nat, m = (r : Int) := ⟨m.toNat, by omega⟩
        simp only [Int.toNat_natCast] at hbs
        have hqr : q + r ≤ n := by omega
        obtain ⟨A2, n2, c2, hcs, hD, hn2, hc2, hcc⟩ := cut_from hS (show q ≤ n by omega) hc
        have hD2 := hD.take (k := r) (by omega)
        have e2 : (by8 (zs.drop q)).take r = by8 bs := by unfold by8; rw [← List.map_take, hbs]
        rw [e2] at hD2
        have hbl : bs.length = r := by rw [← hbs, List.length_take, List.length_drop]; omega
        have hnil2 : A2 = none → c2 = 0 := by
          rcases hcs with ⟨_, _, _, h⟩ | ⟨_, h, _, h2⟩
          · exact fun _ => h
          · intro h3; rw [h3] at h
            have : A = none := by cases A with | none => rfl | some a => simp at h
            have := hnil this; omega
        have hCL : ∀ w', Below w.heap.size w w' → Calls Tryz.prog 114 #[.slice A2 r c2] w' (Owns8 w' bs) := fun w' hbel => by
          have := BClone_any (c := c2) (hD2.below hbel) hbel.size hnil2 (by omega)
          refine this.mono ?_
          rintro e w'' ⟨⟨v, rfl, hown⟩, hb⟩
          exact ⟨⟨v, rfl, by rw [hbl]; exact hown⟩, hb⟩
        have CL := hid hCL
        have HB := hid hbl
        clear hCL hbl e2 hD2 hD hbs hl hp hS hnil hnil2 hsh hm0
        rcases hcs with ⟨rfl, rfl, rfl, rfl⟩ | ⟨hne, rfl, rfl, rfl⟩
        · go_enter Tryz.func102, Tryz.ntmps102
          go_wp2_with fail
          with_reducible refine (right_yes hrg _).mono ?_
          rintro e w' ⟨rfl, rfl⟩
          go_wp2_with fail
          with_reducible refine (Left_yes hrg (by omega) _).mono ?_
          rintro e w1 ⟨rfl, hbel⟩
          have hz1 : w.heap.size + 2 < w1.heap.size := by have := hbel.size; simp at this; omega
          obtain ⟨k1, k2, k3⟩ := kept3 hbel
          obtain ⟨c0, c1, c2, f0, f1, f2⟩ := blk3 k1
          obtain ⟨d0, d1, d2, g0, g1, g2⟩ := blk3 k2
          have hB1 : Below w.heap.size w w1 := Below.trans ((((Below.refl _ _).alloc (Nat.le_refl _) _).alloc (by simp) _).alloc (by simp; omega) _) (hbel.mono (by simp; omega))
          have i1 : (0 : Int) ≤ (q : Int) := by omega
          have i2 : (q : Int) ≤ (q : Int) + (r : Int) := by omega
          have i3 : (q : Int) + (r : Int) ≤ (q : Int) := by omega
          have i4 : ((q : Int) + (r : Int)).toNat = q + r := by omega
          have s0 : (w1.setCell ⟨w.heap.size, 1, none⟩ (.int .i64 (↑q + ↑r))).cell? ⟨w.heap.size, 0, none⟩ = some (.slice A2 n q) := (World.cell?_setCell_other _ _ _ _ (by simp)).trans c0
          have s1 : (w1.setCell ⟨w.heap.size, 1, none⟩ (.int .i64 (↑q + ↑r))).cell? ⟨w.heap.size, 1, none⟩ = some (.int .i64 (↑q + ↑r)) := World.cell?_setCell_same' _ _ _ (by rw [c1]; rfl)
          have s2 : (w1.setCell ⟨w.heap.size, 1, none⟩ (.int .i64 (↑q + ↑r))).cell? ⟨w.heap.size, 2, none⟩ = some (.int .i64 0) := (World.cell?_setCell_other _ _ _ _ (by simp)).trans c2
          have s3 := (World.cell?_setCell_other w1 ⟨w.heap.size, 1, none⟩ ⟨w.heap.size + 1, 0, none⟩ (.int .i64 (↑q + ↑r)) (by simp)).trans d0
          have s4 := (World.cell?_setCell_other w1 ⟨w.heap.size, 1, none⟩ ⟨w.heap.size + 1, 1, none⟩ (.int .i64 (↑q + ↑r)) (by simp)).trans d1
          have s5 := (World.cell?_setCell_other w1 ⟨w.heap.size, 1, none⟩ ⟨w.heap.size + 1, 2, none⟩ (.int .i64 (↑q + ↑r)) (by simp)).trans d2
          have r0 := (World.frozen?_setCell (w := w1) (a := ⟨w.heap.size, 1, none⟩) (v := .int .i64 (↑q + ↑r)) (b := ⟨w.heap.size + 1, 0, none⟩)).trans g0
          have r1 := (World.frozen?_setCell (w := w1) (a := ⟨w.heap.size, 1, none⟩) (v := .int .i64 (↑q + ↑r)) (b := ⟨w.heap.size + 1, 1, none⟩)).trans g1
          have r2 := (World.frozen?_setCell (w := w1) (a := ⟨w.heap.size, 1, none⟩) (v := .int .i64 (↑q + ↑r)) (b := ⟨w.heap.size + 1, 2, none⟩)).trans g2
          go_wp2_with fail
          go_region_held3 (fun w' => w'.cell? ⟨w.heap.size, 0, none⟩ = some (.slice A2 n q) ∧ w'.cell? ⟨w.heap.size, 1, none⟩ = some (.int .i64 (↑q + ↑r)) ∧ w'.cell? ⟨w.heap.size, 2, none⟩ = some (.int .i64 0))
            (first | exact ⟨s0, s1, s2⟩ | exact ⟨t0, t1, t2⟩ | (refine ⟨?_, ?_, ?_⟩ <;> (repeat rw [World.cell?_setCell_other _ _ _ _ (by simp)]) <;> assumption))
            (first
              | (go_at_call 114; refine (CL.out _ ?_).mono ?_; (exact Below.drew (Below.setCell hB1 (by simp) _)); rintro e w3 ⟨⟨v, rfl, hown⟩, hbel3⟩
                 have t0 := (hbel3.cell (p := ⟨w.heap.size, 0, none⟩) (by simp; omega)).trans s0
                 have t1 := (hbel3.cell (p := ⟨w.heap.size, 1, none⟩) (by simp; omega)).trans s1
                 have t2 := (hbel3.cell (p := ⟨w.heap.size, 2, none⟩) (by simp; omega)).trans s2
                 have t3 := (hbel3.cell (p := ⟨w.heap.size + 1, 0, none⟩) (by simp; omega)).trans s3
                 have t4 := (hbel3.cell (p := ⟨w.heap.size + 1, 1, none⟩) (by simp; omega)).trans s4
                 have t5 := (hbel3.cell (p := ⟨w.heap.size + 1, 2, none⟩) (by simp; omega)).trans s5
                 have v0 := (hbel3.frozen (p := ⟨w.heap.size + 1, 0, none⟩) (by simp; omega)).trans r0
                 have v1 := (hbel3.frozen (p := ⟨w.heap.size + 1, 1, none⟩) (by simp; omega)).trans r1
                 have v2 := (hbel3.frozen (p := ⟨w.heap.size + 1, 2, none⟩) (by simp; omega)).trans r2))
          have hown' := ownsRow_setCell_below (ownsRow_setCell_below (ownsRow_setCell_below hown (a := ⟨w.heap.size + 1, 0, none⟩) (by simp; omega) (.slice A2 n q)) (a := ⟨w.heap.size + 1, 1, none⟩) (by simp; omega) (.int .i64 (↑q + ↑r))) (a := ⟨w.heap.size + 1, 2, none⟩) (by simp; omega) (.int .i64 0)
          obtain ⟨A3, c3, rfl, -, -, -, hSl, hlo⟩ := own_reads hown' (Nat.le_refl _)
          go_wp2
          refine bodyPost_ret (v := .tuple #[.agg #[.slice A2 n q, .int .i64 (↑q + ↑r), .int .i64 0], .slice A3 bs.length c3]) (by simp [results, Tryz.results102, go_sem, t3, t4, t5]) rfl ⟨⟨A3, c3, rfl, hSl, fun a ha => by have := hlo a ha; (try simp at this); omega⟩, ?_⟩
          refine Below.setCell (Below.setCell (Below.setCell (Below.trans ?_ (hbel3.mono ?_)) (by simp) _) (by simp) _) (by simp) _
          · exact Below.drew (Below.setCell hB1 (by simp) _)
          · simp; omega
        · go_enter Tryz.func102, Tryz.ntmps102
          go_wp2_with fail
          with_reducible refine (right_yes hrg _).mono ?_
          rintro e w' ⟨rfl, rfl⟩
          go_wp2_with fail
          with_reducible refine (Left_yes hrg (by omega) _).mono ?_
          rintro e w1 ⟨rfl, hbel⟩
          have hz1 : w.heap.size + 2 < w1.heap.size := by have := hbel.size; simp at this; omega
          obtain ⟨k1, k2, k3⟩ := kept3 hbel
          obtain ⟨c0, c1, c2, f0, f1, f2⟩ := blk3 k1
          obtain ⟨d0, d1, d2, g0, g1, g2⟩ := blk3 k2
          have hB1 : Below w.heap.size w w1 := Below.trans ((((Below.refl _ _).alloc (Nat.le_refl _) _).alloc (by simp) _).alloc (by simp; omega) _) (hbel.mono (by simp; omega))
          have i1 : (0 : Int) ≤ (q : Int) := by omega
          have i2 : (q : Int) ≤ (q : Int) + (r : Int) := by omega
          have i3 : (q : Int) + (r : Int) ≤ (c : Int) := by omega
          have i4 : ((q : Int) + (r : Int)).toNat = q + r := by omega
          have s0 : (w1.setCell ⟨w.heap.size, 1, none⟩ (.int .i64 (↑q + ↑r))).cell? ⟨w.heap.size, 0, none⟩ = some (.slice A n c) := (World.cell?_setCell_other _ _ _ _ (by simp)).trans c0
          have s1 : (w1.setCell ⟨w.heap.size, 1, none⟩ (.int .i64 (↑q + ↑r))).cell? ⟨w.heap.size, 1, none⟩ = some (.int .i64 (↑q + ↑r)) := World.cell?_setCell_same' _ _ _ (by rw [c1]; rfl)
          have s2 : (w1.setCell ⟨w.heap.size, 1, none⟩ (.int .i64 (↑q + ↑r))).cell? ⟨w.heap.size, 2, none⟩ = some (.int .i64 0) := (World.cell?_setCell_other _ _ _ _ (by simp)).trans c2
          have s3 := (World.cell?_setCell_other w1 ⟨w.heap.size, 1, none⟩ ⟨w.heap.size + 1, 0, none⟩ (.int .i64 (↑q + ↑r)) (by simp)).trans d0
          have s4 := (World.cell?_setCell_other w1 ⟨w.heap.size, 1, none⟩ ⟨w.heap.size + 1, 1, none⟩ (.int .i64 (↑q + ↑r)) (by simp)).trans d1
          have s5 := (World.cell?_setCell_other w1 ⟨w.heap.size, 1, none⟩ ⟨w.heap.size + 1, 2, none⟩ (.int .i64 (↑q + ↑r)) (by simp)).trans d2
          have r0 := (World.frozen?_setCell (w := w1) (a := ⟨w.heap.size, 1, none⟩) (v := .int .i64 (↑q + ↑r)) (b := ⟨w.heap.size + 1, 0, none⟩)).trans g0
          have r1 := (World.frozen?_setCell (w := w1) (a := ⟨w.heap.size, 1, none⟩) (v := .int .i64 (↑q + ↑r)) (b := ⟨w.heap.size + 1, 1, none⟩)).trans g1
          have r2 := (World.frozen?_setCell (w := w1) (a := ⟨w.heap.size, 1, none⟩) (v := .int .i64 (↑q + ↑r)) (b := ⟨w.heap.size + 1, 2, none⟩)).trans g2
          go_wp2_with fail
          go_region_held3 (fun w' => w'.cell? ⟨w.heap.size, 0, none⟩ = some (.slice A n c) ∧ w'.cell? ⟨w.heap.size, 1, none⟩ = some (.int .i64 (↑q + ↑r)) ∧ w'.cell? ⟨w.heap.size, 2, none⟩ = some (.int .i64 0))
            (first | exact ⟨s0, s1, s2⟩ | exact ⟨t0, t1, t2⟩ | (refine ⟨?_, ?_, ?_⟩ <;> (repeat rw [World.cell?_setCell_other _ _ _ _ (by simp)]) <;> assumption))
            (first
              | (go_at_call 114; refine (CL.out _ ?_).mono ?_; (exact Below.drew (Below.setCell hB1 (by simp) _)); rintro e w3 ⟨⟨v, rfl, hown⟩, hbel3⟩
                 have t0 := (hbel3.cell (p := ⟨w.heap.size, 0, none⟩) (by simp; omega)).trans s0
                 have t1 := (hbel3.cell (p := ⟨w.heap.size, 1, none⟩) (by simp; omega)).trans s1
                 have t2 := (hbel3.cell (p := ⟨w.heap.size, 2, none⟩) (by simp; omega)).trans s2
                 have t3 := (hbel3.cell (p := ⟨w.heap.size + 1, 0, none⟩) (by simp; omega)).trans s3
                 have t4 := (hbel3.cell (p := ⟨w.heap.size + 1, 1, none⟩) (by simp; omega)).trans s4
                 have t5 := (hbel3.cell (p := ⟨w.heap.size + 1, 2, none⟩) (by simp; omega)).trans s5
                 have v0 := (hbel3.frozen (p := ⟨w.heap.size + 1, 0, none⟩) (by simp; omega)).trans r0
                 have v1 := (hbel3.frozen (p := ⟨w.heap.size + 1, 1, none⟩) (by simp; omega)).trans r1
                 have v2 := (hbel3.frozen (p := ⟨w.heap.size + 1, 2, none⟩) (by simp; omega)).trans r2))
          have hown' := ownsRow_setCell_below (ownsRow_setCell_below (ownsRow_setCell_below hown (a := ⟨w.heap.size + 1, 0, none⟩) (by simp; omega) (.slice A n c)) (a := ⟨w.heap.size + 1, 1, none⟩) (by simp; omega) (.int .i64 (↑q + ↑r))) (a := ⟨w.heap.size + 1, 2, none⟩) (by simp; omega) (.int .i64 0)
          obtain ⟨A3, c3, rfl, -, -, -, hSl, hlo⟩ := own_reads hown' (Nat.le_refl _)
          go_wp2
          refine bodyPost_ret (v := .tuple #[.agg #[.slice A n c, .int .i64 (↑q + ↑r), .int .i64 0], .slice A3 bs.length c3]) (by simp [results, Tryz.results102, go_sem, t3, t4, t5]) rfl ⟨⟨A3, c3, rfl, hSl, fun a ha => by have := hlo a ha; (try simp at this); omega⟩, ?_⟩
          refine Below.setCell (Below.setCell (Below.setCell (Below.trans ?_ (hbel3.mono ?_)) (by simp) _) (by simp) _) (by simp) _
          · exact Below.drew (Below.setCell hB1 (by simp) _)
          · simp; omega
  · have hrg : ¬ Rgt n p er := fun h => hr ⟨h.1, h.2.1, by have := h.2.2; omega⟩
    rw [tS_no hr] at ht
    simp only [Prod.mk.injEq] at ht
    obtain ⟨rfl, he, rfl⟩ := ht
    have HE := hid he
    clear he hr hl hS hnil
    go_enter Tryz.func102, Tryz.ntmps102
    go_wp2_with fail
    with_reducible refine (right_no hrg _).mono ?_
    rintro e w' ⟨rfl, rfl⟩
    go_wp2_with fail
    with_reducible refine (stay_any HE.out _).mono ?_
    rintro e w1 ⟨rfl, hbel⟩
    obtain ⟨k1, k2, k3⟩ := kept3 hbel
    obtain ⟨d0, d1, d2, g0, g1, g2⟩ := blk3 k2
    clear k1 k2 k3
    go_wp2_with fail
    refine bodyPost_ret (v := .tuple #[.agg #[.slice A n c, .int .i64 p, .int .i64 e'], .slice none 0 0]) (by simp [results, Tryz.results102, go_sem, d0, d1, d2]) rfl ⟨⟨none, 0, rfl, Sl.nil _ _ _, fun _ h => by cases h⟩, ?_⟩
    repeat (first | refine Below.setCell ?_ (by first | (simp; done) | (simp; omega)) _ | refine Below.alloc ?_ (by simp; omega) _)
    refine Below.trans ?_ (hbel.mono (by simp; omega))
    exact (((Below.refl _ _).alloc (Nat.le_refl _) _).alloc (by simp) _).alloc (by simp; omega) _
theorem kept4 {w w1 : World} {o1 o2 o3 o4 : Obj} (hb : Below (w.heap.size + 3) ((((w.alloc o1).alloc o2).alloc o3).alloc o4) w1) : w1.heap[w.heap.size]? = some o1 ∧ w1.heap[w.heap.size + 1]? = some o2 := by
  have hk := kept3 (w := w) (w1 := (((w.alloc o1).alloc o2).alloc o3).alloc o4) (o1 := o1) (o2 := o2) (o3 := o3) ((Below.refl _ _).alloc (Nat.le_refl _) o4)
  exact ⟨(hb.block _ (by omega)).trans hk.1, (hb.block _ (by omega)).trans hk.2.1⟩
set_option maxHeartbeats 4000000 in
set_option maxRecDepth 100000 in
theorem RTake_any {A : Option Addr} {n c : Nat} {p er m p' e' : Int} {bs : List Int} {zs : List Int} {w : World} (ht : takeS zs p er m = (p', e', bs)) (hS : Sl w w.heap.size A n (by8 zs)) (hnil : A = none → c = 0) (hn : n ≤ 100000) (hc : n ≤ c) (hcm : c ≤ maxLen) (hm : m ≤ 9223372036854775807) :
    Calls Tryz.prog 85 #[.agg #[.slice A n c, .int .i64 p, .int .i64 er], .int .i64 m] w (Takes w.heap.size w A n c p' e' bs) := by
  have hl : n = zs.length := by have := hS.len; rw [by8_len] at this; exact this.symm
  unfold maxLen at hcm
  obtain ⟨i0, hi0, hz0, hz1, hz2⟩ := info_parts u8_info
  by_cases hr : er = 0 ∧ 0 ≤ p ∧ p ≤ zs.length
  · obtain ⟨rfl, hp⟩ := hr
    have hrg : Rgt n p 0 := ⟨rfl, hp.1, by omega⟩
    by_cases hm0 : m < 0
    · rw [tS_neg hp hm0] at ht
      simp only [Prod.mk.injEq] at ht
      obtain ⟨rfl, rfl, rfl⟩ := ht
      clear hl hp hS hnil
      go_enter Tryz.func85, Tryz.ntmps85
      go_wp2_with fail
      with_reducible refine (Right_yes hrg _).mono ?_
      rintro e w' ⟨rfl, rfl⟩
      go_wp2_with fail
      with_reducible refine (stays_any (if_pos rfl) _).mono ?_
      rintro e w1 ⟨rfl, hbel⟩
      obtain ⟨k1, k2, k3⟩ := kept3 hbel
      obtain ⟨d0, d1, d2, g0, g1, g2⟩ := blk3 k2
      clear k1 k2 k3
      go_wp2_with fail
      refine bodyPost_ret (v := .tuple #[.agg #[.slice A n c, .int .i64 p, .int .i64 1], .slice none 0 0]) (by simp [results, Tryz.results85, go_sem, d0, d1, d2]) rfl ⟨⟨none, 0, rfl, Sl.nil _ _ _, fun _ h => by cases h⟩, ?_⟩
      repeat (first | refine Below.setCell ?_ (by first | (simp; done) | (simp; omega)) _ | refine Below.alloc ?_ (by simp; omega) _)
      refine Below.trans ?_ (hbel.mono (by simp; omega))
      exact (((Below.refl _ _).alloc (Nat.le_refl _) _).alloc (by simp) _).alloc (by simp; omega) _
    · by_cases hsh : (zs.length : Int) - p < m
      · rw [tS_short hp (by omega) hsh] at ht
        simp only [Prod.mk.injEq] at ht
        obtain ⟨rfl, rfl, rfl⟩ := ht
        have hlm : (n : Int) - p < m := by omega
        have hm1 : 0 ≤ m := by omega
        have hp0 := hp.1
        have hpn : p ≤ (n : Int) := by omega
        clear hl hp hS hnil hsh hm0
        go_enter Tryz.func85, Tryz.ntmps85
        go_wp2_with fail
        with_reducible refine (Right_yes hrg _).mono ?_
        rintro e w' ⟨rfl, rfl⟩
        go_wp2_with fail
        with_reducible refine (stays_any (if_pos rfl) _).mono ?_
        rintro e w1 ⟨rfl, hbel⟩
        obtain ⟨k1, k2, k3⟩ := kept3 hbel
        obtain ⟨d0, d1, d2, g0, g1, g2⟩ := blk3 k2
        clear k1 k2 k3
        go_wp2_with fail
        refine bodyPost_ret (v := .tuple #[.agg #[.slice A n c, .int .i64 p, .int .i64 10], .slice none 0 0]) (by simp [results, Tryz.results85, go_sem, d0, d1, d2]) rfl ⟨⟨none, 0, rfl, Sl.nil _ _ _, fun _ h => by cases h⟩, ?_⟩
        repeat (first | refine Below.setCell ?_ (by first | (simp; done) | (simp; omega)) _ | refine Below.alloc ?_ (by simp; omega) _)
        refine Below.trans ?_ (hbel.mono (by simp; omega))
        exact (((Below.refl _ _).alloc (Nat.le_refl _) _).alloc (by simp) _).alloc (by simp; omega) _
      · rw [tS_ok hp (by omega) (by omega)] at ht
        simp only [Prod.mk.injEq] at ht
        obtain ⟨rfl, rfl, hbs⟩ := ht
        obtain ⟨q, rfl⟩ : ∃ q : Nat, p = (q : Int) := ⟨p.toNat, by omega⟩
        obtain ⟨r, rfl⟩ : ∃ r : Nat, m = (r : Int) := ⟨m.toNat, by omega⟩
        simp only [Int.toNat_natCast] at hbs
        have hqr : q + r ≤ n := by omega
        obtain ⟨A2, n2, c2, hcs, hD, hn2, hc2, hcc⟩ := cut_from hS (show q ≤ n by omega) hc
        have hD2 := hD.take (k := r) (by omega)
        have e2 : (by8 (zs.drop q)).take r = by8 bs := by unfold by8; rw [← List.map_take, hbs]
        rw [e2] at hD2
        have hbl : bs.length = r := by rw [← hbs, List.length_take, List.length_drop]; omega
        have hnil2 : A2 = none → c2 = 0 := by
          rcases hcs with ⟨_, _, _, h⟩ | ⟨_, h, _, h2⟩
          · exact fun _ => h
          · intro h3; rw [h3] at h
            have : A = none := by cases A with | none => rfl | some a => simp at h
            have := hnil this; omega
        have HD2 := hid hD2
        have HB := hid hbl
        have HNIL := hid hnil2
        have i1 : (0 : Int) ≤ (q : Int) := by omega
        have i2 : (q : Int) ≤ (q : Int) + (r : Int) := by omega
        have i3 : (q : Int) + (r : Int) ≤ (c : Int) := by omega
        have i4 : ((q : Int) + (r : Int)).toNat = q + r := by omega
        have i5 : (r : Int) ≤ (n : Int) - (q : Int) := by omega
        clear hbl e2 hD2 hD hbs hl hp hS hnil hnil2 hsh hm0
        rcases hcs with ⟨rfl, rfl, rfl, rfl⟩ | ⟨hne, rfl, rfl, rfl⟩
        · go_enter Tryz.func85, Tryz.ntmps85
          go_wp2_with fail
          with_reducible refine (Right_yes hrg _).mono ?_
          rintro e w' ⟨rfl, rfl⟩
          have hfresh := fun (o1 o2 o3 : Obj) => own_fresh (((w.alloc o1).alloc o2).alloc o3) #[] 5 (base := w.heap.size + 3) (n := 0) (xs := []) (b := w.heap.size + 1 + 1 + 1) (by simp) (by omega) rfl rfl (Nat.zero_le _)
          have hsl := fun (o1 o2 o3 o4 : Obj) => HD2.out.below (Below.alloc (Below.alloc (Below.alloc (Below.alloc (Below.refl w.heap.size w) (Nat.le_refl _) o1) (by simp) o2) (by simp; omega) o3) (by simp; omega) o4)
          have hbs := fun (o1 o2 o3 o4 : Obj) => (show w.heap.size + 3 ≤ ((((w.alloc o1).alloc o2).alloc o3).alloc o4).heap.size by simp)
          have hmx : 0 + r ≤ maxLen := by simp only [maxLen]; omega
          have hby : (0 + r) * 1 ≤ 140737488355328 := by omega
          go_wp2_with (at_builtin; refine wpList_pushAll (B := w.heap.size) (base := w.heap.size + 3) rfl (.tmp 26) (.tmp 35) _ rfl Tryz.underlying26 hi0 hz0 hz1 hz2 rfl rfl (hfresh _ _ _) rfl (fun _ => rfl) (m := r) (news := by8 bs) (hsl _ _ _ _) ?_ (by8_one _) hmx hby (hbs _ _ _ _); intro v w1 hown hbel; obtain ⟨k1, k2⟩ := kept4 hbel; obtain ⟨c0, c1, c2, f0, f1, f2⟩ := blk3 k1; obtain ⟨d0, d1, d2, g0, g1, g2⟩ := blk3 k2)
          have hown' := ownsRow_setCell_below (ownsRow_setCell_below (ownsRow_setCell_below (ownsRow_setCell_below hown (a := ⟨w.heap.size, 1, none⟩) (by simp) (.int .i64 (↑q + ↑r))) (a := ⟨w.heap.size + 1, 0, none⟩) (by simp) (.slice A2 n q)) (a := ⟨w.heap.size + 1, 1, none⟩) (by simp) (.int .i64 (↑q + ↑r))) (a := ⟨w.heap.size + 1, 2, none⟩) (by simp) (.int .i64 0)
          have e5 : 0 + r = bs.length := by rw [HB.out]; omega
          rw [e5, List.nil_append] at hown'
          obtain ⟨A3, c3, rfl, -, -, -, hSl, hlo⟩ := own_reads hown' (Nat.le_refl _)
          refine bodyPost_ret (v := .tuple #[.agg #[.slice A2 n q, .int .i64 (↑q + ↑r), .int .i64 0], .slice A3 bs.length c3]) (by simp [results, Tryz.results85, go_sem, d0, d1, d2]) rfl ⟨⟨A3, c3, rfl, hSl, fun a ha => by have := hlo a ha; (try simp at this); omega⟩, ?_⟩
          refine Below.setCell (Below.setCell (Below.setCell (Below.setCell (Below.trans ?_ (hbel.mono (by omega))) (by simp) _) (by simp) _) (by simp) _) (by simp) _
          exact Below.alloc (Below.alloc (Below.alloc (Below.alloc (Below.refl w.heap.size w) (Nat.le_refl _) _) (by simp) _) (by simp; omega) _) (by simp; omega) _
        · go_enter Tryz.func85, Tryz.ntmps85
          go_wp2_with fail
          with_reducible refine (Right_yes hrg _).mono ?_
          rintro e w' ⟨rfl, rfl⟩
          have hfresh := fun (o1 o2 o3 : Obj) => own_fresh (((w.alloc o1).alloc o2).alloc o3) #[] 5 (base := w.heap.size + 3) (n := 0) (xs := []) (b := w.heap.size + 1 + 1 + 1) (by simp) (by omega) rfl rfl (Nat.zero_le _)
          have hsl := fun (o1 o2 o3 o4 : Obj) => HD2.out.below (Below.alloc (Below.alloc (Below.alloc (Below.alloc (Below.refl w.heap.size w) (Nat.le_refl _) o1) (by simp) o2) (by simp; omega) o3) (by simp; omega) o4)
          have hbs := fun (o1 o2 o3 o4 : Obj) => (show w.heap.size + 3 ≤ ((((w.alloc o1).alloc o2).alloc o3).alloc o4).heap.size by simp)
          have hmx : 0 + r ≤ maxLen := by simp only [maxLen]; omega
          have hby : (0 + r) * 1 ≤ 140737488355328 := by omega
          go_wp2_with (at_builtin; refine wpList_pushAll (B := w.heap.size) (base := w.heap.size + 3) rfl (.tmp 26) (.tmp 35) _ rfl Tryz.underlying26 hi0 hz0 hz1 hz2 rfl rfl (hfresh _ _ _) rfl HNIL.out (m := r) (news := by8 bs) (hsl _ _ _ _) ?_ (by8_one _) hmx hby (hbs _ _ _ _); intro v w1 hown hbel; obtain ⟨k1, k2⟩ := kept4 hbel; obtain ⟨c0, c1, c2, f0, f1, f2⟩ := blk3 k1; obtain ⟨d0, d1, d2, g0, g1, g2⟩ := blk3 k2)
          have hown' := ownsRow_setCell_below (ownsRow_setCell_below (ownsRow_setCell_below (ownsRow_setCell_below hown (a := ⟨w.heap.size, 1, none⟩) (by simp) (.int .i64 (↑q + ↑r))) (a := ⟨w.heap.size + 1, 0, none⟩) (by simp) (.slice A n c)) (a := ⟨w.heap.size + 1, 1, none⟩) (by simp) (.int .i64 (↑q + ↑r))) (a := ⟨w.heap.size + 1, 2, none⟩) (by simp) (.int .i64 0)
          have e5 : 0 + r = bs.length := by rw [HB.out]; omega
          rw [e5, List.nil_append] at hown'
          obtain ⟨A3, c3, rfl, -, -, -, hSl, hlo⟩ := own_reads hown' (Nat.le_refl _)
          refine bodyPost_ret (v := .tuple #[.agg #[.slice A n c, .int .i64 (↑q + ↑r), .int .i64 0], .slice A3 bs.length c3]) (by simp [results, Tryz.results85, go_sem, d0, d1, d2]) rfl ⟨⟨A3, c3, rfl, hSl, fun a ha => by have := hlo a ha; (try simp at this); omega⟩, ?_⟩
          refine Below.setCell (Below.setCell (Below.setCell (Below.setCell (Below.trans ?_ (hbel.mono (by omega))) (by simp) _) (by simp) _) (by simp) _) (by simp) _
          exact Below.alloc (Below.alloc (Below.alloc (Below.alloc (Below.refl w.heap.size w) (Nat.le_refl _) _) (by simp) _) (by simp; omega) _) (by simp; omega) _
  · have hrg : ¬ Rgt n p er := fun h => hr ⟨h.1, h.2.1, by have := h.2.2; omega⟩
    rw [tS_no hr] at ht
    simp only [Prod.mk.injEq] at ht
    obtain ⟨rfl, he, rfl⟩ := ht
    have HE := hid he
    clear he hr hl hS hnil
    go_enter Tryz.func85, Tryz.ntmps85
    go_wp2_with fail
    with_reducible refine (Right_no hrg _).mono ?_
    rintro e w' ⟨rfl, rfl⟩
    go_wp2_with fail
    with_reducible refine (stays_any HE.out _).mono ?_
    rintro e w1 ⟨rfl, hbel⟩
    obtain ⟨k1, k2, k3⟩ := kept3 hbel
    obtain ⟨d0, d1, d2, g0, g1, g2⟩ := blk3 k2
    clear k1 k2 k3
    go_wp2_with fail
    refine bodyPost_ret (v := .tuple #[.agg #[.slice A n c, .int .i64 p, .int .i64 e'], .slice none 0 0]) (by simp [results, Tryz.results85, go_sem, d0, d1, d2]) rfl ⟨⟨none, 0, rfl, Sl.nil _ _ _, fun _ h => by cases h⟩, ?_⟩
    repeat (first | refine Below.setCell ?_ (by first | (simp; done) | (simp; omega)) _ | refine Below.alloc ?_ (by simp; omega) _)
    refine Below.trans ?_ (hbel.mono (by simp; omega))
    exact (((Below.refl _ _).alloc (Nat.le_refl _) _).alloc (by simp) _).alloc (by simp; omega) _
end Go.Proofs.YtondnbnaoacanaaGreatDoor
/- Contracts of layer 3 (wire) and of its reference: texts that are read; bytes as a text. -/
namespace Go.Proofs.YtondnbnaoacanaaGreatDoor
open Go.ChangeShapes Go.WideShapes Go.ChangeAt Go.RowKit Fb

/-- a text of at most so many bytes: the place behind it, the error, its bytes -/
def textS (zs : List Int) (p er most : Int) : Int × Int × List Int :=
  if (uintS zs p er).2.1 = 0 then
    (if most < 0 ∨ most < (uintS zs p er).2.2 then (p, 9, [])
     else if (zs.length : Int) - (uintS zs p er).1 < (uintS zs p er).2.2 then (p, 10, [])
     else ((uintS zs p er).1 + (uintS zs p er).2.2, 0, (zs.drop (uintS zs p er).1.toNat).take (uintS zs p er).2.2))
  else ((uintS zs p er).1, (uintS zs p er).2.1, [])
theorem tx_err {zs : List Int} {p er most p1 e1 : Int} {v : Nat} (hu : uintS zs p er = (p1, e1, v)) (h : e1 ≠ 0) : textS zs p er most = (p1, e1, []) := by
  unfold textS; rw [hu]; simp only; rw [if_neg h]
theorem tx_many {zs : List Int} {p er most p1 : Int} {v : Nat} (hu : uintS zs p er = (p1, 0, v)) (h : most < 0 ∨ most < v) : textS zs p er most = (p, 9, []) := by
  unfold textS; rw [hu]; simp only; rw [if_pos trivial, if_pos h]
theorem tx_short {zs : List Int} {p er most p1 : Int} {v : Nat} (hu : uintS zs p er = (p1, 0, v)) (h : ¬(most < 0 ∨ most < v)) (hs : (zs.length : Int) - p1 < v) : textS zs p er most = (p, 10, []) := by
  unfold textS; rw [hu]; simp only; rw [if_pos trivial, if_neg h, if_pos hs]
theorem tx_ok {zs : List Int} {p er most p1 : Int} {v : Nat} (hu : uintS zs p er = (p1, 0, v)) (h : ¬(most < 0 ∨ most < v)) (hs : ¬ (zs.length : Int) - p1 < v) : textS zs p er most = (p1 + v, 0, (zs.drop p1.toNat).take v) := by
  unfold textS; rw [hu]; simp only; rw [if_pos trivial, if_neg h, if_neg hs]
theorem uS_zero {zs : List Int} {p er p1 : Int} {v : Nat} (hu : uintS zs p er = (p1, 0, v)) : er = 0 ∧ 0 ≤ p ∧ p < p1 ∧ p1 ≤ zs.length := by
  unfold uintS at hu
  split at hu
  · rename_i h
    split at hu
    · rename_i hE
      simp only [Prod.mk.injEq] at hu
      have := uE_lt hE
      have h2 : (win zs p).length ≤ zs.length - p.toNat := by simp [win]; omega
      omega
    · rename_i hE
      simp only [Prod.mk.injEq] at hu
      exact absurd hu.2.1 hE
  · rename_i h
    simp only [Prod.mk.injEq] at hu
    split at hu
    · omega
    · omega

set_option maxHeartbeats 4000000 in
set_option maxRecDepth 100000 in
theorem Text_any {A : Option Addr} {n c : Nat} {p er most p' e' : Int} {bs : List Int} {zs : List Int} {w : World} (ht : textS zs p er most = (p', e', bs)) (hS : Sl w w.heap.size A n (by8 zs)) (hb : Bytes zs) (hnil : A = none → c = 0) (hn : n ≤ 100000) (hc : n ≤ c) (hcm : c ≤ maxLen) (hm : most ≤ 9223372036854775807) :
    Calls Tryz.prog 124 #[.agg #[.slice A n c, .int .i64 p, .int .i64 er], .int .i64 most] w fun e w' => e = .returned (.tuple #[.agg #[.slice A n c, .int .i64 p', .int .i64 e'], .string (strOfNums bs)]) ∧ Below w.heap.size w w' := by
  have hl : n = zs.length := by have := hS.len; rw [by8_len] at this; exact this.symm
  obtain ⟨p1, e1, v, hu⟩ : ∃ p1 e1 v, uintS zs p er = (p1, e1, v) := ⟨_, _, _, rfl⟩
  have hUI : ∀ w', Below w.heap.size w w' → Calls Tryz.prog 104 #[.agg #[.slice A n c, .int .i64 p, .int .i64 er]] w' fun e w'' => e = .returned (.tuple #[.agg #[.slice A n c, .int .i64 p1, .int .i64 e1], .int .u64 v]) ∧ Below w'.heap.size w' w'' := fun w' hbel => Uint_any hu ((hS.below hbel).up hbel.size) hb hn hc hcm
  have UI := hid hUI
  clear hUI
  have hcm' := hcm
  unfold maxLen at hcm
  by_cases he : e1 = 0
  · subst he
    have hz := uS_zero hu
    by_cases hmany : most < 0 ∨ most < v
    · rw [tx_many hu hmany] at ht
      simp only [Prod.mk.injEq] at ht
      obtain ⟨rfl, rfl, rfl⟩ := ht
      obtain ⟨rfl, hz⟩ := hz
      have hv := uS_lt hb hu
      have HV := hid hv
      clear hl hu hb hS hnil hcm' hz hv
      have hcs : most < 0 ∨ (0 ≤ most ∧ most < (v : Int)) := by omega
      clear hmany
      rcases hcs with h1 | ⟨h1, h2⟩
      all_goals
        go_enter Tryz.func124, Tryz.ntmps124
        go_wp2_with fail
        with_reducible refine (UI.out _ (((Below.refl _ _).alloc (Nat.le_refl _) _).alloc (by simp) _)).mono ?_
        rintro e w1 ⟨rfl, hbel⟩
        obtain ⟨k1, k2⟩ := kept2 hbel
        obtain ⟨c0, c1, c2, f0, f1, f2⟩ := blk3 k1
        have hz1 : w.heap.size + 1 < w1.heap.size := by have := hbel.size; simp at this; omega
        have hz0 : w.heap.size < w1.heap.size := by omega
        go_wp2_with fail
        with_reducible refine (stay_any (if_pos rfl) _).mono ?_
        rintro e w2 ⟨rfl, hbel2⟩
        obtain ⟨d0, d1, d2, g0, g1, g2⟩ := blk3 ((hbel2.block _ (by simp; omega)).trans ((Below.heap_alloc _ _ _ (by omega)).trans k2))
        clear k1 k2
        go_wp2_with fail
        refine bodyPost_ret (v := .tuple #[.agg #[.slice A n c, .int .i64 p, .int .i64 9], .string (strOfNums [])]) (by simp [results, Tryz.results124, go_sem, d0, d1, d2]; rfl) rfl ⟨rfl, ?_⟩
        refine Below.setCell (Below.setCell (Below.setCell (Below.trans (Below.alloc (Below.trans ?_ (hbel.mono (by simp; omega))) (by omega) _) (hbel2.mono (by simp; omega))) (by simp) _) (by simp) _) (by simp) _
        exact ((Below.refl _ _).alloc (Nat.le_refl _) _).alloc (by simp) _
    · have hm0 : 0 ≤ most := by omega
      have hvm : (v : Int) ≤ most := by omega
      by_cases hsh : (zs.length : Int) - p1 < v
      · rw [tx_short hu hmany hsh] at ht
        simp only [Prod.mk.injEq] at ht
        obtain ⟨rfl, rfl, rfl⟩ := ht
        clear hmany
        have hTK : ∀ w', Below w.heap.size w w' → Calls Tryz.prog 102 #[.agg #[.slice A n c, .int .i64 p1, .int .i64 0], .int .i64 v] w' (Takes w'.heap.size w' A n c p1 10 []) := fun w' hbel => Take_any (tS_short ⟨by omega, hz.2.2.2⟩ (by omega) hsh) ((hS.below hbel).up hbel.size) hnil hn hc hcm' (by omega)
        have TK := hid hTK
        clear hTK hl hu hb hS hnil hcm' hsh
        obtain ⟨rfl, hz⟩ := hz
        go_enter Tryz.func124, Tryz.ntmps124
        go_wp2_with fail
        with_reducible refine (UI.out _ (((Below.refl _ _).alloc (Nat.le_refl _) _).alloc (by simp) _)).mono ?_
        rintro e w1 ⟨rfl, hbel⟩
        obtain ⟨k1, k2⟩ := kept2 hbel
        have hz1 : w.heap.size + 1 < w1.heap.size := by have := hbel.size; simp at this; omega
        have hz0 : w.heap.size < w1.heap.size := by omega
        have hB1 : Below w.heap.size w w1 := Below.trans (((Below.refl _ _).alloc (Nat.le_refl _) _).alloc (by simp) _) (hbel.mono (by simp; omega))
        go_wp2_with fail
        with_reducible refine (TK.out _ (hB1.alloc (by omega) _)).mono ?_
        rintro e w2 ⟨⟨A3, c3, rfl, hSl, hlo⟩, hbel2⟩
        have hs2 : w1.heap.size + 1 ≤ w2.heap.size := by have := hbel2.size; simp at this; omega
        have hz3 : w.heap.size + 1 < w2.heap.size := by omega
        have hz2 : w.heap.size < w2.heap.size := by omega
        have m1 := (hbel2.block w.heap.size (by simp; omega)).trans ((Below.heap_alloc _ _ _ (by omega)).trans k1)
        have m2 := (hbel2.block (w.heap.size + 1) (by simp; omega)).trans ((Below.heap_alloc _ _ _ (by omega)).trans k2)
        have hB2 : Below w.heap.size w w2 := Below.trans (hB1.alloc (by omega) _) (hbel2.mono (by simp; omega))
        clear k1 k2
        obtain ⟨c0, c1, c2, f0, f1, f2⟩ := blk3 m1
        go_wp2_with fail
        with_reducible refine (stay_any (if_pos rfl) _).mono ?_
        rintro e w3 ⟨rfl, hbel3⟩
        obtain ⟨d0, d1, d2, g0, g1, g2⟩ := blk3 ((hbel3.block _ (by simp; omega)).trans ((Below.heap_alloc _ _ _ (by omega)).trans m2))
        clear m1 m2
        go_wp2_with fail
        refine bodyPost_ret (v := .tuple #[.agg #[.slice A n c, .int .i64 p, .int .i64 10], .string (strOfNums [])]) (by simp [results, Tryz.results124, go_sem, d0, d1, d2]; rfl) rfl ⟨rfl, ?_⟩
        exact Below.setCell (Below.setCell (Below.setCell (Below.trans (Below.alloc hB2 (by omega) _) (hbel3.mono (by simp; omega))) (by simp) _) (by simp) _) (by simp) _
      · rw [tx_ok hu hmany hsh] at ht
        simp only [Prod.mk.injEq] at ht
        obtain ⟨rfl, rfl, rfl⟩ := ht
        clear hmany
        have hTK : ∀ w', Below w.heap.size w w' → Calls Tryz.prog 102 #[.agg #[.slice A n c, .int .i64 p1, .int .i64 0], .int .i64 v] w' (Takes w'.heap.size w' A n c (p1 + v) 0 ((zs.drop p1.toNat).take v)) := fun w' hbel => Take_any (tS_ok (m := (v : Int)) ⟨by omega, hz.2.2.2⟩ (by omega) (by omega)) ((hS.below hbel).up hbel.size) hnil hn hc hcm' (by omega)
        have TK := hid hTK
        clear hTK hl hu hb hS hnil hcm' hsh
        obtain ⟨rfl, hz⟩ := hz
        generalize (zs.drop p1.toNat).take v = bs at *
        go_enter Tryz.func124, Tryz.ntmps124
        go_wp2_with fail
        with_reducible refine (UI.out _ (((Below.refl _ _).alloc (Nat.le_refl _) _).alloc (by simp) _)).mono ?_
        rintro e w1 ⟨rfl, hbel⟩
        obtain ⟨k1, k2⟩ := kept2 hbel
        have hz1 : w.heap.size + 1 < w1.heap.size := by have := hbel.size; simp at this; omega
        have hz0 : w.heap.size < w1.heap.size := by omega
        have hB1 : Below w.heap.size w w1 := Below.trans (((Below.refl _ _).alloc (Nat.le_refl _) _).alloc (by simp) _) (hbel.mono (by simp; omega))
        go_wp2_with fail
        with_reducible refine (TK.out _ (hB1.alloc (by omega) _)).mono ?_
        rintro e w2 ⟨⟨A3, c3, rfl, hSl, hlo⟩, hbel2⟩
        have hs2 : w1.heap.size + 1 ≤ w2.heap.size := by have := hbel2.size; simp at this; omega
        have hz3 : w.heap.size + 1 < w2.heap.size := by omega
        have hz2 : w.heap.size < w2.heap.size := by omega
        have m1 := (hbel2.block w.heap.size (by simp; omega)).trans ((Below.heap_alloc _ _ _ (by omega)).trans k1)
        have m2 := (hbel2.block (w.heap.size + 1) (by simp; omega)).trans ((Below.heap_alloc _ _ _ (by omega)).trans k2)
        have hB2 : Below w.heap.size w w2 := Below.trans (hB1.alloc (by omega) _) (hbel2.mono (by simp; omega))
        clear k1 k2
        obtain ⟨d0, d1, d2, g0, g1, g2⟩ := blk3 m2
        have hS3 := hSl.below ((Below.refl w2.heap.size w2).alloc (Nat.le_refl _) (.cells #[.slice A n c, .int .i64 (p1 + v), .int .i64 0] 94))
        have hfar : ∀ a, A3 = some a → a.block ≠ w.heap.size + 1 := fun a ha => by have := hlo a ha; simp at this; omega
        have hS4 := (Sl.far (Sl.far (Sl.far hSl (p := ⟨w.heap.size + 1, 0, none⟩) hfar (.slice A n c)) (p := ⟨w.heap.size + 1, 1, none⟩) hfar (.int .i64 (p1 + v))) (p := ⟨w.heap.size + 1, 2, none⟩) hfar (.int .i64 0)).below ((Below.refl w2.heap.size _).alloc (by simp) (.cells #[.slice A n c, .int .i64 (p1 + v), .int .i64 0] 94))
        have cv1 := conv8d c3 hS3
        have cv2 := conv8d c3 hS4
        clear hS3 hS4 hSl hlo hfar
        clear m1 m2
        go_wp2_with fail
        go_region
        go_wp2
        refine bodyPost_ret (v := .tuple #[.agg #[.slice A n c, .int .i64 (p1 + ↑v), .int .i64 0], .string (strOfNums bs)]) (by simp [results, Tryz.results124, go_sem, d0, d1, d2, hz3]) rfl ⟨rfl, ?_⟩
        exact Below.drew (Below.alloc (Below.setCell (Below.setCell (Below.setCell hB2 (by simp) _) (by simp) _) (by simp) _) (by simp; omega) _)
  · rw [tx_err hu he] at ht
    simp only [Prod.mk.injEq] at ht
    obtain ⟨rfl, rfl, rfl⟩ := ht
    clear hl hu hb hS hnil hcm'
    go_enter Tryz.func124, Tryz.ntmps124
    go_wp2_with fail
    with_reducible refine (UI.out _ (((Below.refl _ _).alloc (Nat.le_refl _) _).alloc (by simp) _)).mono ?_
    rintro e w1 ⟨rfl, hbel⟩
    obtain ⟨k1, k2⟩ := kept2 hbel
    obtain ⟨c0, c1, c2, f0, f1, f2⟩ := blk3 k1
    obtain ⟨d0, d1, d2, g0, g1, g2⟩ := blk3 k2
    have hz1 : w.heap.size + 1 < w1.heap.size := by have := hbel.size; simp at this; omega
    have hz0 : w.heap.size < w1.heap.size := by omega
    clear k1 k2
    go_wp2_with fail
    refine bodyPost_ret (v := .tuple #[.agg #[.slice A n c, .int .i64 p1, .int .i64 e1], .string (strOfNums [])]) (by simp [results, Tryz.results124, go_sem, d0, d1, d2, hz1]; rfl) rfl ⟨rfl, ?_⟩
    refine Below.alloc (Below.setCell (Below.setCell (Below.setCell (Below.trans ?_ (hbel.mono (by simp; omega))) (by simp) _) (by simp) _) (by simp) _) (by simp; omega) _
    exact ((Below.refl _ _).alloc (Nat.le_refl _) _).alloc (by simp) _
set_option maxHeartbeats 4000000 in
set_option maxRecDepth 100000 in
theorem RText_any {A : Option Addr} {n c : Nat} {p er most p' e' : Int} {bs : List Int} {zs : List Int} {w : World} (ht : textS zs p er most = (p', e', bs)) (hS : Sl w w.heap.size A n (by8 zs)) (hb : Bytes zs) (hnil : A = none → c = 0) (hn : n ≤ 100000) (hc : n ≤ c) (hcm : c ≤ maxLen) (hm : most ≤ 9223372036854775807) :
    Calls Tryz.prog 58 #[.agg #[.slice A n c, .int .i64 p, .int .i64 er], .int .i64 most] w fun e w' => e = .returned (.tuple #[.agg #[.slice A n c, .int .i64 p', .int .i64 e'], .string (strOfNums bs)]) ∧ Below w.heap.size w w' := by
  have hl : n = zs.length := by have := hS.len; rw [by8_len] at this; exact this.symm
  obtain ⟨p1, e1, v, hu⟩ : ∃ p1 e1 v, uintS zs p er = (p1, e1, v) := ⟨_, _, _, rfl⟩
  have hUI : ∀ w', Below w.heap.size w w' → Calls Tryz.prog 57 #[.agg #[.slice A n c, .int .i64 p, .int .i64 er]] w' fun e w'' => e = .returned (.tuple #[.agg #[.slice A n c, .int .i64 p1, .int .i64 e1], .int .u64 v]) ∧ Below w'.heap.size w' w'' := fun w' hbel => RUint_any hu ((hS.below hbel).up hbel.size) hb hn hc hcm
  have UI := hid hUI
  clear hUI
  have hcm' := hcm
  unfold maxLen at hcm
  by_cases he : e1 = 0
  · subst he
    have hz := uS_zero hu
    by_cases hmany : most < 0 ∨ most < v
    · rw [tx_many hu hmany] at ht
      simp only [Prod.mk.injEq] at ht
      obtain ⟨rfl, rfl, rfl⟩ := ht
      obtain ⟨rfl, hz⟩ := hz
      have hv := uS_lt hb hu
      have HV := hid hv
      clear hl hu hb hS hnil hcm' hz hv
      have hcs : most < 0 ∨ (0 ≤ most ∧ most < (v : Int)) := by omega
      clear hmany
      rcases hcs with h1 | ⟨h1, h2⟩
      all_goals
        go_enter Tryz.func58, Tryz.ntmps58
        go_wp2_with fail
        with_reducible refine (UI.out _ (((Below.refl _ _).alloc (Nat.le_refl _) _).alloc (by simp) _)).mono ?_
        rintro e w1 ⟨rfl, hbel⟩
        obtain ⟨k1, k2⟩ := kept2 hbel
        obtain ⟨c0, c1, c2, f0, f1, f2⟩ := blk3 k1
        have hz1 : w.heap.size + 1 < w1.heap.size := by have := hbel.size; simp at this; omega
        have hz0 : w.heap.size < w1.heap.size := by omega
        go_wp2_with fail
        with_reducible refine (stays_any (if_pos rfl) _).mono ?_
        rintro e w2 ⟨rfl, hbel2⟩
        obtain ⟨d0, d1, d2, g0, g1, g2⟩ := blk3 ((hbel2.block _ (by simp; omega)).trans ((Below.heap_alloc _ _ _ (by omega)).trans k2))
        clear k1 k2
        go_wp2_with fail
        refine bodyPost_ret (v := .tuple #[.agg #[.slice A n c, .int .i64 p, .int .i64 9], .string (strOfNums [])]) (by simp [results, Tryz.results58, go_sem, d0, d1, d2]; rfl) rfl ⟨rfl, ?_⟩
        refine Below.setCell (Below.setCell (Below.setCell (Below.trans (Below.alloc (Below.trans ?_ (hbel.mono (by simp; omega))) (by omega) _) (hbel2.mono (by simp; omega))) (by simp) _) (by simp) _) (by simp) _
        exact ((Below.refl _ _).alloc (Nat.le_refl _) _).alloc (by simp) _
    · have hm0 : 0 ≤ most := by omega
      have hvm : (v : Int) ≤ most := by omega
      by_cases hsh : (zs.length : Int) - p1 < v
      · rw [tx_short hu hmany hsh] at ht
        simp only [Prod.mk.injEq] at ht
        obtain ⟨rfl, rfl, rfl⟩ := ht
        clear hmany
        have hsn : (n : Int) - p1 < (v : Int) := by omega
        have hpn : p1 ≤ (n : Int) := by omega
        have hv := uS_lt hb hu
        have HV := hid hv
        clear hl hu hb hS hnil hcm' hsh hv
        obtain ⟨rfl, hz⟩ := hz
        have hp1 : 0 ≤ p1 := by omega
        go_enter Tryz.func58, Tryz.ntmps58
        go_wp2_with fail
        with_reducible refine (UI.out _ (((Below.refl _ _).alloc (Nat.le_refl _) _).alloc (by simp) _)).mono ?_
        rintro e w1 ⟨rfl, hbel⟩
        obtain ⟨k1, k2⟩ := kept2 hbel
        obtain ⟨c0, c1, c2, f0, f1, f2⟩ := blk3 k1
        have hz1 : w.heap.size + 1 < w1.heap.size := by have := hbel.size; simp at this; omega
        have hz0 : w.heap.size < w1.heap.size := by omega
        have hB1 : Below w.heap.size w w1 := Below.trans (((Below.refl _ _).alloc (Nat.le_refl _) _).alloc (by simp) _) (hbel.mono (by simp; omega))
        go_wp2_with fail
        with_reducible refine (stays_any (if_pos rfl) _).mono ?_
        rintro e w3 ⟨rfl, hbel3⟩
        obtain ⟨d0, d1, d2, g0, g1, g2⟩ := blk3 ((hbel3.block _ (by simp; omega)).trans ((Below.heap_alloc _ _ _ (by omega)).trans k2))
        clear k1 k2
        go_wp2_with fail
        refine bodyPost_ret (v := .tuple #[.agg #[.slice A n c, .int .i64 p, .int .i64 10], .string (strOfNums [])]) (by simp [results, Tryz.results58, go_sem, d0, d1, d2]; rfl) rfl ⟨rfl, ?_⟩
        exact Below.setCell (Below.setCell (Below.setCell (Below.trans (Below.alloc hB1 (by omega) _) (hbel3.mono (by simp; omega))) (by simp) _) (by simp) _) (by simp) _
      · rw [tx_ok hu hmany hsh] at ht
        simp only [Prod.mk.injEq] at ht
        obtain ⟨rfl, rfl, rfl⟩ := ht
        clear hmany
        have hsn : (v : Int) ≤ (n : Int) - p1 := by omega
        have hpn : p1 ≤ (n : Int) := by omega
        have hp1 : 0 ≤ p1 := by omega
        have hTK : ∀ w', Below w.heap.size w w' → Calls Tryz.prog 85 #[.agg #[.slice A n c, .int .i64 p1, .int .i64 0], .int .i64 v] w' (Takes w'.heap.size w' A n c (p1 + v) 0 ((zs.drop p1.toNat).take v)) := fun w' hbel => RTake_any (tS_ok (m := (v : Int)) ⟨by omega, hz.2.2.2⟩ (by omega) (by omega)) ((hS.below hbel).up hbel.size) hnil hn hc hcm' (by omega)
        have TK := hid hTK
        clear hTK hl hu hb hS hnil hcm' hsh
        obtain ⟨rfl, hz⟩ := hz
        generalize (zs.drop p1.toNat).take v = bs at *
        go_enter Tryz.func58, Tryz.ntmps58
        go_wp2_with fail
        with_reducible refine (UI.out _ (((Below.refl _ _).alloc (Nat.le_refl _) _).alloc (by simp) _)).mono ?_
        rintro e w1 ⟨rfl, hbel⟩
        obtain ⟨k1, k2⟩ := kept2 hbel
        have hz1 : w.heap.size + 1 < w1.heap.size := by have := hbel.size; simp at this; omega
        have hz0 : w.heap.size < w1.heap.size := by omega
        have hB1 : Below w.heap.size w w1 := Below.trans (((Below.refl _ _).alloc (Nat.le_refl _) _).alloc (by simp) _) (hbel.mono (by simp; omega))
        go_wp2_with fail
        with_reducible refine (TK.out _ (hB1.alloc (by omega) _)).mono ?_
        rintro e w2 ⟨⟨A3, c3, rfl, hSl, hlo⟩, hbel2⟩
        have hs2 : w1.heap.size + 1 ≤ w2.heap.size := by have := hbel2.size; simp at this; omega
        have hz3 : w.heap.size + 1 < w2.heap.size := by omega
        have hz2 : w.heap.size < w2.heap.size := by omega
        have m1 := (hbel2.block w.heap.size (by simp; omega)).trans ((Below.heap_alloc _ _ _ (by omega)).trans k1)
        have m2 := (hbel2.block (w.heap.size + 1) (by simp; omega)).trans ((Below.heap_alloc _ _ _ (by omega)).trans k2)
        have hB2 : Below w.heap.size w w2 := Below.trans (hB1.alloc (by omega) _) (hbel2.mono (by simp; omega))
        clear k1 k2
        obtain ⟨d0, d1, d2, g0, g1, g2⟩ := blk3 m2
        have hS3 := hSl.below ((Below.refl w2.heap.size w2).alloc (Nat.le_refl _) (.cells #[.slice A n c, .int .i64 (p1 + v), .int .i64 0] 94))
        have hfar : ∀ a, A3 = some a → a.block ≠ w.heap.size + 1 := fun a ha => by have := hlo a ha; simp at this; omega
        have hS4 := (Sl.far (Sl.far (Sl.far hSl (p := ⟨w.heap.size + 1, 0, none⟩) hfar (.slice A n c)) (p := ⟨w.heap.size + 1, 1, none⟩) hfar (.int .i64 (p1 + v))) (p := ⟨w.heap.size + 1, 2, none⟩) hfar (.int .i64 0)).below ((Below.refl w2.heap.size _).alloc (by simp) (.cells #[.slice A n c, .int .i64 (p1 + v), .int .i64 0] 94))
        have cv1 := conv8d c3 hS3
        have cv2 := conv8d c3 hS4
        clear hS3 hS4 hSl hlo hfar
        clear m1 m2
        go_wp2_with fail
        go_region
        go_wp2
        refine bodyPost_ret (v := .tuple #[.agg #[.slice A n c, .int .i64 (p1 + ↑v), .int .i64 0], .string (strOfNums bs)]) (by simp [results, Tryz.results58, go_sem, d0, d1, d2, hz3]) rfl ⟨rfl, ?_⟩
        exact Below.drew (Below.alloc (Below.setCell (Below.setCell (Below.setCell hB2 (by simp) _) (by simp) _) (by simp) _) (by simp; omega) _)
  · rw [tx_err hu he] at ht
    simp only [Prod.mk.injEq] at ht
    obtain ⟨rfl, rfl, rfl⟩ := ht
    clear hl hu hb hS hnil hcm'
    go_enter Tryz.func58, Tryz.ntmps58
    go_wp2_with fail
    with_reducible refine (UI.out _ (((Below.refl _ _).alloc (Nat.le_refl _) _).alloc (by simp) _)).mono ?_
    rintro e w1 ⟨rfl, hbel⟩
    obtain ⟨k1, k2⟩ := kept2 hbel
    obtain ⟨c0, c1, c2, f0, f1, f2⟩ := blk3 k1
    obtain ⟨d0, d1, d2, g0, g1, g2⟩ := blk3 k2
    have hz1 : w.heap.size + 1 < w1.heap.size := by have := hbel.size; simp at this; omega
    have hz0 : w.heap.size < w1.heap.size := by omega
    clear k1 k2
    go_wp2_with fail
    refine bodyPost_ret (v := .tuple #[.agg #[.slice A n c, .int .i64 p1, .int .i64 e1], .string (strOfNums [])]) (by simp [results, Tryz.results58, go_sem, d0, d1, d2, hz1]; rfl) rfl ⟨rfl, ?_⟩
    refine Below.alloc (Below.setCell (Below.setCell (Below.setCell (Below.trans ?_ (hbel.mono (by simp; omega))) (by simp) _) (by simp) _) (by simp) _) (by simp; omega) _
    exact ((Below.refl _ _).alloc (Nat.le_refl _) _).alloc (by simp) _
end Go.Proofs.YtondnbnaoacanaaGreatDoor
/- Layer 3: what is read is what was put, as lists. -/
namespace Go.Proofs.YtondnbnaoacanaaGreatDoor
open Fb

theorem zig_zag {v : Nat} : zig (zag v) = v := by
  unfold zag zig
  split <;> split <;> omega
theorem zag_zig (k : Int) : zag (zig k) = k := by
  unfold zag zig
  split <;> split <;> omega
theorem zag_in {v : Nat} (h : v < 18446744073709551616) : -9223372036854775808 ≤ zag v ∧ zag v ≤ 9223372036854775807 := by
  unfold zag; split <;> omega
theorem sI_str {bs : List Int} (hb : Bytes bs) : sI (strOfNums bs) = bs := by
  unfold sI
  rw [strOfNums_data, List.map_map]
  conv => rhs; rw [← List.map_id bs]
  refine List.map_congr_left fun x hx => ?_
  have := hb x hx
  simp [UInt8.toNat_ofNat']
  omega
theorem str_sI (s : ByteArray) : strOfNums (sI s) = s := by
  unfold strOfNums sI
  rw [List.map_map]
  have e : (fun n : Int => UInt8.ofNat n.toNat) ∘ (fun b : UInt8 => (b.toNat : Int)) = id := by
    funext b; simp
  rw [e, List.map_id, Array.toArray_toList]
/-- what is read as a number is just its bytes -/
theorem uS_one {zs : List Int} {k : Nat} {p1 : Int} {v : Nat} (hb : Bytes zs) (hk : k ≤ zs.length) (hu : uintS zs k 0 = (p1, 0, v)) :
    ∃ q : Nat, p1 = q ∧ k ≤ q ∧ q ≤ zs.length ∧ zs.take k ++ leb v = zs.take q ∧ v < 18446744073709551616 := by
  have hlt := uS_lt hb hu
  have hz := uS_zero hu
  have hE : uE (win zs k) = 0 := by
    rcases Int.decEq (uE (win zs k)) 0 with h | h
    · rw [uintS_bad (by omega) h] at hu
      simp only [Prod.mk.injEq] at hu; omega
    · exact h
  rw [uintS_ok (by omega) hE] at hu
  simp only [Prod.mk.injEq] at hu
  obtain ⟨h1, -, h2⟩ := hu
  have hbw : Bytes (win zs k) := fun x hx => hb x (List.mem_of_mem_drop (List.mem_of_mem_take hx))
  have h3 := uE_leb hbw (by simp [win]; omega) hE
  have h4 := uE_lt hE
  have h5 : (win zs k).length ≤ 10 := by simp [win]; omega
  refine ⟨k + (fi (win zs k) + 1), by omega, by omega, by omega, ?_, hlt⟩
  rw [← h2, h3]
  have h6 : fi (win zs k) + 1 ≤ 10 := by omega
  generalize fi (win zs k) + 1 = j at *
  have h7 : (win zs k).take j = (zs.drop k).take j := by
    unfold win; rw [List.take_take, Nat.min_eq_left h6, Int.toNat_natCast]
  rw [h7, List.take_add]
theorem uS_stay {zs : List Int} {k : Nat} {p1 e1 : Int} {v : Nat} (hk : k ≤ zs.length) (he : e1 ≠ 0) (hu : uintS zs k 0 = (p1, e1, v)) : p1 = k ∧ v = 0 := by
  rcases Int.decEq (uE (win zs k)) 0 with h | h
  · rw [uintS_bad (by omega) h] at hu
    simp only [Prod.mk.injEq] at hu; omega
  · rw [uintS_ok (by omega) h] at hu
    simp only [Prod.mk.injEq] at hu; omega
theorem tx_one {zs : List Int} {k : Nat} {p2 most : Int} {bs : List Int} (hb : Bytes zs) (hk : k ≤ zs.length) (ht : textS zs k 0 most = (p2, 0, bs)) :
    ∃ q : Nat, p2 = q ∧ k ≤ q ∧ q ≤ zs.length ∧ zs.take k ++ (leb bs.length ++ bs) = zs.take q ∧ (bs.length : Int) ≤ most ∧ Bytes bs := by
  obtain ⟨p1, e1, v, hu⟩ : ∃ p1 e1 v, uintS zs k 0 = (p1, e1, v) := ⟨_, _, _, rfl⟩
  by_cases he : e1 = 0
  · subst he
    obtain ⟨q, rfl, h1, h2, h3, h4⟩ := uS_one hb hk hu
    by_cases hm : most < 0 ∨ most < v
    · rw [tx_many hu hm] at ht; simp only [Prod.mk.injEq] at ht; omega
    · by_cases hs : (zs.length : Int) - q < v
      · rw [tx_short hu hm hs] at ht; simp only [Prod.mk.injEq] at ht; omega
      · rw [tx_ok hu hm hs] at ht
        simp only [Prod.mk.injEq, Int.toNat_natCast] at ht
        obtain ⟨h5, -, rfl⟩ := ht
        have hl : ((zs.drop q).take v).length = v := by rw [List.length_take, List.length_drop]; omega
        refine ⟨q + v, by omega, by omega, by omega, ?_, by omega, fun x hx => hb x (List.mem_of_mem_drop (List.mem_of_mem_take hx))⟩
        rw [hl, ← List.append_assoc, h3, List.take_add]
  · rw [tx_err hu he] at ht
    simp only [Prod.mk.injEq] at ht; omega
theorem tx_stay {zs : List Int} {k : Nat} {p2 e2 most : Int} {bs : List Int} (hk : k ≤ zs.length) (he2 : e2 ≠ 0) (ht : textS zs k 0 most = (p2, e2, bs)) : p2 = k ∧ bs = [] := by
  obtain ⟨p1, e1, v, hu⟩ : ∃ p1 e1 v, uintS zs k 0 = (p1, e1, v) := ⟨_, _, _, rfl⟩
  by_cases he : e1 = 0
  · subst he
    by_cases hm : most < 0 ∨ most < v
    · rw [tx_many hu hm] at ht; simp only [Prod.mk.injEq] at ht; exact ⟨ht.1.symm, ht.2.2.symm⟩
    · by_cases hs : (zs.length : Int) - p1 < v
      · rw [tx_short hu hm hs] at ht; simp only [Prod.mk.injEq] at ht; exact ⟨ht.1.symm, ht.2.2.symm⟩
      · rw [tx_ok hu hm hs] at ht
        simp only [Prod.mk.injEq] at ht; omega
  · have := uS_stay hk he hu
    rw [tx_err hu he] at ht
    simp only [Prod.mk.injEq] at ht
    exact ⟨by omega, ht.2.2.symm⟩
theorem tx_no {zs : List Int} {k : Nat} {p1 e1 p2 e2 most : Int} {v : Nat} {bs : List Int} (he : e1 ≠ 0) (hu : uintS zs k 0 = (p1, e1, v)) (ht : textS zs k 0 most = (p2, e2, bs)) : e2 ≠ 0 := by
  rw [tx_err hu he] at ht
  simp only [Prod.mk.injEq] at ht; omega

/-- a number that was put is read as it was -/
theorem uS_at {pre rest : List Int} {m : Nat} (hm : m < 18446744073709551616) :
    uintS (pre ++ (leb m ++ rest)) pre.length 0 = (((pre.length + (leb m).length : Nat) : Int), 0, m) := by
  have hw : win (pre ++ (leb m ++ rest)) pre.length = (leb m ++ rest).take 10 := by
    unfold win; rw [Int.toNat_natCast, List.drop_left]
  have h := uE_of_leb hm rest
  rw [uintS_ok (by simp; omega) (by rw [hw]; exact h.1), hw, h.2.2, h.2.1, vl_leb]
  simp
theorem tx_at {pre rest s : List Int} {most : Int} (hs : (s.length : Int) ≤ most) (h0 : s.length ≤ 100000) :
    textS (pre ++ ((leb s.length ++ s) ++ rest)) pre.length 0 most = (((pre.length + (leb s.length ++ s).length : Nat) : Int), 0, s) := by
  have hu := uS_at (pre := pre) (rest := s ++ rest) (m := s.length) (by omega)
  rw [← List.append_assoc (leb s.length) s rest] at hu
  rw [tx_ok hu (by omega) (by simp; omega)]
  simp only [Prod.mk.injEq, true_and]
  refine ⟨by simp; omega, ?_⟩
  have e : (pre ++ ((leb s.length ++ s) ++ rest)).drop (pre.length + (leb s.length).length) = s ++ rest := by
    rw [← List.drop_drop, List.drop_left, List.append_assoc, List.drop_left]
  rw [Int.toNat_natCast, e, List.take_left]
end Go.Proofs.YtondnbnaoacanaaGreatDoor
