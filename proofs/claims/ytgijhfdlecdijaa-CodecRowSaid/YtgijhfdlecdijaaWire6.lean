/- Contracts of layer 3 (wire) and of its reference: bytes that are taken. -/
import Derived.Test.YtgijhfdlecdijaaWire5
import Derived.Laws.BytesArg
import Derived.Laws.IdiomStrings
namespace Go.Proofs.Ytgijhfdlecdijaa
open Go.ChangeShapes Go.WideShapes Go.ChangeAt Go.RowKit Fb

/-- the next m bytes: the place behind them, the error, they -/
def takeS (zs : List Int) (p er m : Int) : Int × Int × List Int :=
  if er = 0 ∧ 0 ≤ p ∧ p ≤ zs.length then
    (if m < 0 then (p, 1, []) else if (zs.length : Int) - p < m then (p, 10, []) else (p + m, 0, (zs.drop p.toNat).take m.toNat))
  else (p, if er = 0 then 1 else er, [])
theorem tS_no {zs : List Int} {p er m : Int} (h : ¬(er = 0 ∧ 0 ≤ p ∧ p ≤ zs.length)) : takeS zs p er m = (p, if er = 0 then 1 else er, []) := by unfold takeS; rw [if_neg h]
theorem tS_neg {zs : List Int} {p m : Int} (h : 0 ≤ p ∧ p ≤ zs.length) (hm : m < 0) : takeS zs p 0 m = (p, 1, []) := by unfold takeS; rw [if_pos ⟨rfl, h⟩, if_pos hm]
theorem tS_short {zs : List Int} {p m : Int} (h : 0 ≤ p ∧ p ≤ zs.length) (hm : 0 ≤ m) (hl : (zs.length : Int) - p < m) : takeS zs p 0 m = (p, 10, []) := by
  unfold takeS; rw [if_pos ⟨rfl, h⟩, if_neg (by omega), if_pos hl]
theorem tS_ok {zs : List Int} {p m : Int} (h : 0 ≤ p ∧ p ≤ zs.length) (hm : 0 ≤ m) (hl : m ≤ (zs.length : Int) - p) : takeS zs p 0 m = (p + m, 0, (zs.drop p.toNat).take m.toNat) := by
  unfold takeS; rw [if_pos ⟨rfl, h⟩, if_neg (by omega), if_neg (by omega)]
/-- a cursor and a slice that has these bytes are handed back, and nothing that lay is otherwise -/
def Takes (base : Nat) (w : World) (A : Option Addr) (n c : Nat) (p' e' : Int) (bs : List Int) (e : Ending) (w' : World) : Prop :=
  (∃ A2 c2, e = .returned (.tuple #[.agg #[.slice A n c, .int .i64 p', .int .i64 e'], .slice A2 bs.length c2]) ∧ Sl w' w'.heap.size A2 bs.length (by8 bs) ∧ (∀ a, A2 = some a → base ≤ a.block)) ∧ Below base w w'
/-- a slice of the call's own that has these bytes -/
def Owns8 (w : World) (bs : List Int) (e : Ending) (w' : World) : Prop := (∃ v, e = .returned v ∧ w'.ownsRow w.heap.size 5 1 v bs.length (by8 bs)) ∧ Below w.heap.size w w'

set_option maxHeartbeats 4000000 in
set_option maxRecDepth 100000 in
theorem Take_any {A : Option Addr} {n c : Nat} {p er m p' e' : Int} {bs : List Int} {zs : List Int} {w : World} (ht : takeS zs p er m = (p', e', bs)) (hS : Sl w w.heap.size A n (by8 zs)) (hnil : A = none → c = 0) (hn : n ≤ 100000) (hc : n ≤ c) (hcm : c ≤ maxLen) (hm : m ≤ 9223372036854775807) :
    Calls Try.prog 52 #[.agg #[.slice A n c, .int .i64 p, .int .i64 er], .int .i64 m] w (Takes w.heap.size w A n c p' e' bs) := by
  have hl : n = zs.length := by have := hS.len; rw [by8_len] at this; exact this.symm
  unfold maxLen at hcm
  by_cases hr : er = 0 ∧ 0 ≤ p ∧ p ≤ zs.length
  · obtain ⟨rfl, hp⟩ := hr
    have hrg : Rgt n p 0 := ⟨rfl, hp.1, by omega⟩
    by_cases hm0 : m < 0
    · rw [tS_neg hp hm0] at ht
      simp only [Prod.mk.injEq] at ht
      obtain ⟨rfl, rfl, rfl⟩ := ht
      clear hl hp hS hnil
      go_enter Try.func52, Try.ntmps52
      go_wp2_with fail
      with_reducible refine (right_yes hrg _).mono ?_
      rintro e w' ⟨rfl, rfl⟩
      go_wp2_with fail
      with_reducible refine (stay_any (if_pos rfl) _).mono ?_
      rintro e w1 ⟨rfl, hbel⟩
      obtain ⟨k1, k2, k3⟩ := kept3 hbel
      obtain ⟨d0, d1, d2, g0, g1, g2⟩ := blk3 k2
      clear k1 k2 k3
      go_wp2_with fail
      refine bodyPost_ret (v := .tuple #[.agg #[.slice A n c, .int .i64 p, .int .i64 1], .slice none 0 0]) (by simp [results, Try.results52, go_sem, d0, d1, d2]) rfl ⟨⟨none, 0, rfl, Sl.nil _ _ _, fun _ h => by cases h⟩, ?_⟩
      repeat (first | refine Below.setCell ?_ (by first | (simp; done) | (simp; omega)) _ | refine Below.alloc ?_ (by simp; omega) _)
      refine Below.trans ?_ (hbel.mono (by simp; omega))
      exact (((Below.refl _ _).alloc (Nat.le_refl _) _).alloc (by simp) _).alloc (by simp; omega) _
    · by_cases hsh : (zs.length : Int) - p < m
      · rw [tS_short hp (by omega) hsh] at ht
        simp only [Prod.mk.injEq] at ht
        obtain ⟨rfl, rfl, rfl⟩ := ht
        have hlm : (n : Int) - p < m := by omega
        have hm1 : 0 ≤ m := by omega
        have hp0 := hp.1
        clear hl hp hS hnil hsh hm0
        go_enter Try.func52, Try.ntmps52
        go_wp2_with fail
        with_reducible refine (right_yes hrg _).mono ?_
        rintro e w' ⟨rfl, rfl⟩
        go_wp2_with fail
        with_reducible refine (Left_yes hrg (by omega) _).mono ?_
        rintro e w1 ⟨rfl, hbel⟩
        have hz1 : w.heap.size + 2 < w1.heap.size := by have := hbel.size; simp at this; omega
        obtain ⟨k1, k2, k3⟩ := kept3 hbel
        obtain ⟨c0, c1, c2, f0, f1, f2⟩ := blk3 k1
        go_wp2_with fail
        with_reducible refine (stay_any (if_pos rfl) _).mono ?_
        rintro e w2 ⟨rfl, hbel2⟩
        obtain ⟨d0, d1, d2, g0, g1, g2⟩ := blk3 ((hbel2.block _ (by omega)).trans k2)
        clear k1 k2 k3
        go_wp2_with fail
        refine bodyPost_ret (v := .tuple #[.agg #[.slice A n c, .int .i64 p, .int .i64 10], .slice none 0 0]) (by simp [results, Try.results52, go_sem, d0, d1, d2]) rfl ⟨⟨none, 0, rfl, Sl.nil _ _ _, fun _ h => by cases h⟩, ?_⟩
        repeat (first | refine Below.setCell ?_ (by first | (simp; done) | (simp; omega)) _ | refine Below.alloc ?_ (by simp; omega) _)
        refine Below.trans (Below.trans ?_ (hbel.mono (by simp; omega))) (hbel2.mono (by omega))
        exact (((Below.refl _ _).alloc (Nat.le_refl _) _).alloc (by simp) _).alloc (by simp; omega) _
      · rw [tS_ok hp (by omega) (by omega)] at ht
        simp only [Prod.mk.injEq] at ht
        obtain ⟨rfl, rfl, hbs⟩ := ht
        obtain ⟨q, rfl⟩ : ∃ q : Nat, p = (q : Int) := ⟨p.toNat, by omega⟩
        obtain ⟨r, rfl⟩ : ∃ r : Nat, m = (r : Int) := ⟨m.toNat, by omega⟩
        simp only [Int.toNat_natCast] at hbs
        have hqr : q + r ≤ n := by omega
        obtain ⟨A2, n2, c2, hcs, hD, hn2, hc2, hcc⟩ := cut_from hS (show q ≤ n by omega) hc
        have hD2 := hD.take (k := r) (by omega)
        have e2 : (by8 (zs.drop q)).take r = by8 bs := by unfold by8; rw [← List.map_take, hbs]
        rw [e2] at hD2
        have hbl : bs.length = r := by rw [← hbs, List.length_take, List.length_drop]; omega
        have hnil2 : A2 = none → c2 = 0 := by
          rcases hcs with ⟨_, _, _, h⟩ | ⟨_, h, _, h2⟩
          · exact fun _ => h
          · intro h3; rw [h3] at h
            have : A = none := by cases A with | none => rfl | some a => simp at h
            have := hnil this; omega
        have hCL : ∀ w', Below w.heap.size w w' → Calls Try.prog 56 #[.slice A2 r c2] w' (Owns8 w' bs) := fun w' hbel => by
          have := BClone_any (c := c2) (hD2.below hbel) hbel.size hnil2 (by omega)
          refine this.mono ?_
          rintro e w'' ⟨⟨v, rfl, hown⟩, hb⟩
          exact ⟨⟨v, rfl, by rw [hbl]; exact hown⟩, hb⟩
        have CL := hid hCL
        have HB := hid hbl
        clear hCL hbl e2 hD2 hD hbs hl hp hS hnil hnil2 hsh hm0
        rcases hcs with ⟨rfl, rfl, rfl, rfl⟩ | ⟨hne, rfl, rfl, rfl⟩
        · go_enter Try.func52, Try.ntmps52
          go_wp2_with fail
          with_reducible refine (right_yes hrg _).mono ?_
          rintro e w' ⟨rfl, rfl⟩
          go_wp2_with fail
          with_reducible refine (Left_yes hrg (by omega) _).mono ?_
          rintro e w1 ⟨rfl, hbel⟩
          have hz1 : w.heap.size + 2 < w1.heap.size := by have := hbel.size; simp at this; omega
          obtain ⟨k1, k2, k3⟩ := kept3 hbel
          obtain ⟨c0, c1, c2, f0, f1, f2⟩ := blk3 k1
          obtain ⟨d0, d1, d2, g0, g1, g2⟩ := blk3 k2
          have hB1 : Below w.heap.size w w1 := Below.trans ((((Below.refl _ _).alloc (Nat.le_refl _) _).alloc (by simp) _).alloc (by simp; omega) _) (hbel.mono (by simp; omega))
          have i1 : (0 : Int) ≤ (q : Int) := by omega
          have i2 : (q : Int) ≤ (q : Int) + (r : Int) := by omega
          have i3 : (q : Int) + (r : Int) ≤ (q : Int) := by omega
          have i4 : ((q : Int) + (r : Int)).toNat = q + r := by omega
          have s0 : (w1.setCell ⟨w.heap.size, 1, none⟩ (.int .i64 (↑q + ↑r))).cell? ⟨w.heap.size, 0, none⟩ = some (.slice A2 n q) := (World.cell?_setCell_other _ _ _ _ (by simp)).trans c0
          have s1 : (w1.setCell ⟨w.heap.size, 1, none⟩ (.int .i64 (↑q + ↑r))).cell? ⟨w.heap.size, 1, none⟩ = some (.int .i64 (↑q + ↑r)) := World.cell?_setCell_same' _ _ _ (by rw [c1]; rfl)
          have s2 : (w1.setCell ⟨w.heap.size, 1, none⟩ (.int .i64 (↑q + ↑r))).cell? ⟨w.heap.size, 2, none⟩ = some (.int .i64 0) := (World.cell?_setCell_other _ _ _ _ (by simp)).trans c2
          have s3 := (World.cell?_setCell_other w1 ⟨w.heap.size, 1, none⟩ ⟨w.heap.size + 1, 0, none⟩ (.int .i64 (↑q + ↑r)) (by simp)).trans d0
          have s4 := (World.cell?_setCell_other w1 ⟨w.heap.size, 1, none⟩ ⟨w.heap.size + 1, 1, none⟩ (.int .i64 (↑q + ↑r)) (by simp)).trans d1
          have s5 := (World.cell?_setCell_other w1 ⟨w.heap.size, 1, none⟩ ⟨w.heap.size + 1, 2, none⟩ (.int .i64 (↑q + ↑r)) (by simp)).trans d2
          have r0 := (World.frozen?_setCell (w := w1) (a := ⟨w.heap.size, 1, none⟩) (v := .int .i64 (↑q + ↑r)) (b := ⟨w.heap.size + 1, 0, none⟩)).trans g0
          have r1 := (World.frozen?_setCell (w := w1) (a := ⟨w.heap.size, 1, none⟩) (v := .int .i64 (↑q + ↑r)) (b := ⟨w.heap.size + 1, 1, none⟩)).trans g1
          have r2 := (World.frozen?_setCell (w := w1) (a := ⟨w.heap.size, 1, none⟩) (v := .int .i64 (↑q + ↑r)) (b := ⟨w.heap.size + 1, 2, none⟩)).trans g2
          go_wp2_with fail
          go_region_held3 (fun w' => w'.cell? ⟨w.heap.size, 0, none⟩ = some (.slice A2 n q) ∧ w'.cell? ⟨w.heap.size, 1, none⟩ = some (.int .i64 (↑q + ↑r)) ∧ w'.cell? ⟨w.heap.size, 2, none⟩ = some (.int .i64 0))
            (first | exact ⟨s0, s1, s2⟩ | exact ⟨t0, t1, t2⟩ | (refine ⟨?_, ?_, ?_⟩ <;> (repeat rw [World.cell?_setCell_other _ _ _ _ (by simp)]) <;> assumption))
            (first
              | (go_at_call 56; refine (CL.out _ ?_).mono ?_; (exact Below.drew (Below.setCell hB1 (by simp) _)); rintro e w3 ⟨⟨v, rfl, hown⟩, hbel3⟩
                 have t0 := (hbel3.cell (p := ⟨w.heap.size, 0, none⟩) (by simp; omega)).trans s0
                 have t1 := (hbel3.cell (p := ⟨w.heap.size, 1, none⟩) (by simp; omega)).trans s1
                 have t2 := (hbel3.cell (p := ⟨w.heap.size, 2, none⟩) (by simp; omega)).trans s2
                 have t3 := (hbel3.cell (p := ⟨w.heap.size + 1, 0, none⟩) (by simp; omega)).trans s3
                 have t4 := (hbel3.cell (p := ⟨w.heap.size + 1, 1, none⟩) (by simp; omega)).trans s4
                 have t5 := (hbel3.cell (p := ⟨w.heap.size + 1, 2, none⟩) (by simp; omega)).trans s5
                 have v0 := (hbel3.frozen (p := ⟨w.heap.size + 1, 0, none⟩) (by simp; omega)).trans r0
                 have v1 := (hbel3.frozen (p := ⟨w.heap.size + 1, 1, none⟩) (by simp; omega)).trans r1
                 have v2 := (hbel3.frozen (p := ⟨w.heap.size + 1, 2, none⟩) (by simp; omega)).trans r2))
          have hown' := ownsRow_setCell_below (ownsRow_setCell_below (ownsRow_setCell_below hown (a := ⟨w.heap.size + 1, 0, none⟩) (by simp; omega) (.slice A2 n q)) (a := ⟨w.heap.size + 1, 1, none⟩) (by simp; omega) (.int .i64 (↑q + ↑r))) (a := ⟨w.heap.size + 1, 2, none⟩) (by simp; omega) (.int .i64 0)
          obtain ⟨A3, c3, rfl, -, -, -, hSl, hlo⟩ := own_reads hown' (Nat.le_refl _)
          go_wp2
          refine bodyPost_ret (v := .tuple #[.agg #[.slice A2 n q, .int .i64 (↑q + ↑r), .int .i64 0], .slice A3 bs.length c3]) (by simp [results, Try.results52, go_sem, t3, t4, t5]) rfl ⟨⟨A3, c3, rfl, hSl, fun a ha => by have := hlo a ha; (try simp at this); omega⟩, ?_⟩
          refine Below.setCell (Below.setCell (Below.setCell (Below.trans ?_ (hbel3.mono ?_)) (by simp) _) (by simp) _) (by simp) _
          · exact Below.drew (Below.setCell hB1 (by simp) _)
          · simp; omega
        · go_enter Try.func52, Try.ntmps52
          go_wp2_with fail
          with_reducible refine (right_yes hrg _).mono ?_
          rintro e w' ⟨rfl, rfl⟩
          go_wp2_with fail
          with_reducible refine (Left_yes hrg (by omega) _).mono ?_
          rintro e w1 ⟨rfl, hbel⟩
          have hz1 : w.heap.size + 2 < w1.heap.size := by have := hbel.size; simp at this; omega
          obtain ⟨k1, k2, k3⟩ := kept3 hbel
          obtain ⟨c0, c1, c2, f0, f1, f2⟩ := blk3 k1
          obtain ⟨d0, d1, d2, g0, g1, g2⟩ := blk3 k2
          have hB1 : Below w.heap.size w w1 := Below.trans ((((Below.refl _ _).alloc (Nat.le_refl _) _).alloc (by simp) _).alloc (by simp; omega) _) (hbel.mono (by simp; omega))
          have i1 : (0 : Int) ≤ (q : Int) := by omega
          have i2 : (q : Int) ≤ (q : Int) + (r : Int) := by omega
          have i3 : (q : Int) + (r : Int) ≤ (c : Int) := by omega
          have i4 : ((q : Int) + (r : Int)).toNat = q + r := by omega
          have s0 : (w1.setCell ⟨w.heap.size, 1, none⟩ (.int .i64 (↑q + ↑r))).cell? ⟨w.heap.size, 0, none⟩ = some (.slice A n c) := (World.cell?_setCell_other _ _ _ _ (by simp)).trans c0
          have s1 : (w1.setCell ⟨w.heap.size, 1, none⟩ (.int .i64 (↑q + ↑r))).cell? ⟨w.heap.size, 1, none⟩ = some (.int .i64 (↑q + ↑r)) := World.cell?_setCell_same' _ _ _ (by rw [c1]; rfl)
          have s2 : (w1.setCell ⟨w.heap.size, 1, none⟩ (.int .i64 (↑q + ↑r))).cell? ⟨w.heap.size, 2, none⟩ = some (.int .i64 0) := (World.cell?_setCell_other _ _ _ _ (by simp)).trans c2
          have s3 := (World.cell?_setCell_other w1 ⟨w.heap.size, 1, none⟩ ⟨w.heap.size + 1, 0, none⟩ (.int .i64 (↑q + ↑r)) (by simp)).trans d0
          have s4 := (World.cell?_setCell_other w1 ⟨w.heap.size, 1, none⟩ ⟨w.heap.size + 1, 1, none⟩ (.int .i64 (↑q + ↑r)) (by simp)).trans d1
          have s5 := (World.cell?_setCell_other w1 ⟨w.heap.size, 1, none⟩ ⟨w.heap.size + 1, 2, none⟩ (.int .i64 (↑q + ↑r)) (by simp)).trans d2
          have r0 := (World.frozen?_setCell (w := w1) (a := ⟨w.heap.size, 1, none⟩) (v := .int .i64 (↑q + ↑r)) (b := ⟨w.heap.size + 1, 0, none⟩)).trans g0
          have r1 := (World.frozen?_setCell (w := w1) (a := ⟨w.heap.size, 1, none⟩) (v := .int .i64 (↑q + ↑r)) (b := ⟨w.heap.size + 1, 1, none⟩)).trans g1
          have r2 := (World.frozen?_setCell (w := w1) (a := ⟨w.heap.size, 1, none⟩) (v := .int .i64 (↑q + ↑r)) (b := ⟨w.heap.size + 1, 2, none⟩)).trans g2
          go_wp2_with fail
          go_region_held3 (fun w' => w'.cell? ⟨w.heap.size, 0, none⟩ = some (.slice A n c) ∧ w'.cell? ⟨w.heap.size, 1, none⟩ = some (.int .i64 (↑q + ↑r)) ∧ w'.cell? ⟨w.heap.size, 2, none⟩ = some (.int .i64 0))
            (first | exact ⟨s0, s1, s2⟩ | exact ⟨t0, t1, t2⟩ | (refine ⟨?_, ?_, ?_⟩ <;> (repeat rw [World.cell?_setCell_other _ _ _ _ (by simp)]) <;> assumption))
            (first
              | (go_at_call 56; refine (CL.out _ ?_).mono ?_; (exact Below.drew (Below.setCell hB1 (by simp) _)); rintro e w3 ⟨⟨v, rfl, hown⟩, hbel3⟩
                 have t0 := (hbel3.cell (p := ⟨w.heap.size, 0, none⟩) (by simp; omega)).trans s0
                 have t1 := (hbel3.cell (p := ⟨w.heap.size, 1, none⟩) (by simp; omega)).trans s1
                 have t2 := (hbel3.cell (p := ⟨w.heap.size, 2, none⟩) (by simp; omega)).trans s2
                 have t3 := (hbel3.cell (p := ⟨w.heap.size + 1, 0, none⟩) (by simp; omega)).trans s3
                 have t4 := (hbel3.cell (p := ⟨w.heap.size + 1, 1, none⟩) (by simp; omega)).trans s4
                 have t5 := (hbel3.cell (p := ⟨w.heap.size + 1, 2, none⟩) (by simp; omega)).trans s5
                 have v0 := (hbel3.frozen (p := ⟨w.heap.size + 1, 0, none⟩) (by simp; omega)).trans r0
                 have v1 := (hbel3.frozen (p := ⟨w.heap.size + 1, 1, none⟩) (by simp; omega)).trans r1
                 have v2 := (hbel3.frozen (p := ⟨w.heap.size + 1, 2, none⟩) (by simp; omega)).trans r2))
          have hown' := ownsRow_setCell_below (ownsRow_setCell_below (ownsRow_setCell_below hown (a := ⟨w.heap.size + 1, 0, none⟩) (by simp; omega) (.slice A n c)) (a := ⟨w.heap.size + 1, 1, none⟩) (by simp; omega) (.int .i64 (↑q + ↑r))) (a := ⟨w.heap.size + 1, 2, none⟩) (by simp; omega) (.int .i64 0)
          obtain ⟨A3, c3, rfl, -, -, -, hSl, hlo⟩ := own_reads hown' (Nat.le_refl _)
          go_wp2
          refine bodyPost_ret (v := .tuple #[.agg #[.slice A n c, .int .i64 (↑q + ↑r), .int .i64 0], .slice A3 bs.length c3]) (by simp [results, Try.results52, go_sem, t3, t4, t5]) rfl ⟨⟨A3, c3, rfl, hSl, fun a ha => by have := hlo a ha; (try simp at this); omega⟩, ?_⟩
          refine Below.setCell (Below.setCell (Below.setCell (Below.trans ?_ (hbel3.mono ?_)) (by simp) _) (by simp) _) (by simp) _
          · exact Below.drew (Below.setCell hB1 (by simp) _)
          · simp; omega
  · have hrg : ¬ Rgt n p er := fun h => hr ⟨h.1, h.2.1, by have := h.2.2; omega⟩
    rw [tS_no hr] at ht
    simp only [Prod.mk.injEq] at ht
    obtain ⟨rfl, he, rfl⟩ := ht
    have HE := hid he
    clear he hr hl hS hnil
    go_enter Try.func52, Try.ntmps52
    go_wp2_with fail
    with_reducible refine (right_no hrg _).mono ?_
    rintro e w' ⟨rfl, rfl⟩
    go_wp2_with fail
    with_reducible refine (stay_any HE.out _).mono ?_
    rintro e w1 ⟨rfl, hbel⟩
    obtain ⟨k1, k2, k3⟩ := kept3 hbel
    obtain ⟨d0, d1, d2, g0, g1, g2⟩ := blk3 k2
    clear k1 k2 k3
    go_wp2_with fail
    refine bodyPost_ret (v := .tuple #[.agg #[.slice A n c, .int .i64 p, .int .i64 e'], .slice none 0 0]) (by simp [results, Try.results52, go_sem, d0, d1, d2]) rfl ⟨⟨none, 0, rfl, Sl.nil _ _ _, fun _ h => by cases h⟩, ?_⟩
    repeat (first | refine Below.setCell ?_ (by first | (simp; done) | (simp; omega)) _ | refine Below.alloc ?_ (by simp; omega) _)
    refine Below.trans ?_ (hbel.mono (by simp; omega))
    exact (((Below.refl _ _).alloc (Nat.le_refl _) _).alloc (by simp) _).alloc (by simp; omega) _
theorem kept4 {w w1 : World} {o1 o2 o3 o4 : Obj} (hb : Below (w.heap.size + 3) ((((w.alloc o1).alloc o2).alloc o3).alloc o4) w1) : w1.heap[w.heap.size]? = some o1 ∧ w1.heap[w.heap.size + 1]? = some o2 := by
  have hk := kept3 (w := w) (w1 := (((w.alloc o1).alloc o2).alloc o3).alloc o4) (o1 := o1) (o2 := o2) (o3 := o3) ((Below.refl _ _).alloc (Nat.le_refl _) o4)
  exact ⟨(hb.block _ (by omega)).trans hk.1, (hb.block _ (by omega)).trans hk.2.1⟩
end Go.Proofs.Ytgijhfdlecdijaa
