/- The walk of EventRight. -/
import Derived.Test.YtcgbdmidlkflhaaEventA
import Derived.Test.YtcgbdmidlkflhaaEnv
namespace Go.Proofs.Ytcgbdmidlkflhaa
open Go.ChangeShapes Go.WideShapes Go.ChangeAt Go.RowKit Fb

/-- a slice that reads as these numbers, with room as slices have it -/
def Ns (w : World) (v : Value) (m : Nat) (L : List Int) : Prop := ∃ A c, v = .slice A m c ∧ m ≤ c ∧ c ≤ maxLen ∧ Sl w w.heap.size A m (ints L)
theorem Ns.below {w w' : World} {v : Value} {m : Nat} {L : List Int} (h : Ns w v m L) (hb : Below w.heap.size w w') : Ns w' v m L := by
  obtain ⟨A, c, h1, h2, h3, h4⟩ := h
  exact ⟨A, c, h1, h2, h3, (h4.below hb).up hb.size⟩
theorem Ns.at {w : World} {A : Option Addr} {m : Nat} {L : List Int} (h : Sl w w.heap.size A m (ints L)) {j : Nat} (hj : j < m) : ∃ b o x, A = some ⟨b, o, none⟩ ∧ b < w.heap.size ∧ L[j]? = some x ∧ w.cell? ⟨b, o + j, none⟩ = some (.int .i64 x) := by
  obtain ⟨b, o, u, hA, hb, hu, hc⟩ := h.get hj
  rw [ints, List.getElem?_map] at hu
  obtain ⟨x, hx, rfl⟩ := Option.map_eq_some_iff.1 hu
  exact ⟨b, o, x, hA, hb, hx, hc⟩

set_option maxRecDepth 100000 in
set_option maxHeartbeats 8000000 in
theorem right_walk (q t k a b c : Int) (s : ByteArray) (kd : Int) (s2 : ByteArray) (A : Option Addr) (n cp : Nat) (zs : List Int) (w : World) (hS : Sl w w.heap.size A n (ints zs)) (hcp : n ≤ cp) (hcm : cp ≤ maxLen) :
    Calls Try.prog 3 #[.agg #[.int .i64 q, .int .i64 t, .int .i64 k, .string s, .int .i64 a, .int .i64 b, .int .i64 c], .int .i64 kd, .string s2, .slice A n cp] w fun e w' => e = .returned (.bool true) ∧ Below w.heap.size w w' := by
  have HK := hid (heap_alloc_new w (.cells #[.int .i64 q, .int .i64 t, .int .i64 k, .string s, .int .i64 a, .int .i64 b, .int .i64 c] 23))
  have hbY : Below w.heap.size w (w.alloc (.cells #[.int .i64 q, .int .i64 t, .int .i64 k, .string s, .int .i64 a, .int .i64 b, .int .i64 c] 23)) := (Below.refl _ _).alloc (Nat.le_refl _) _
  have hl : n = zs.length := by have := hS.len; simpa [ints] using this.symm
  have HL := hid hl
  have HCM := hid hcm
  clear hl hcm
  have hlong : decide ((100 : Int) < s.size) = true ∨ (decide ((100 : Int) < s.size) = false ∧ decide ((100 : Int) < s2.size) = true) ∨ (decide ((100 : Int) < s.size) = false ∧ decide ((100 : Int) < s2.size) = false ∧ decide ((10 : Int) < n) = true) ∨ (decide ((100 : Int) < s.size) = false ∧ decide ((100 : Int) < s2.size) = false ∧ decide ((10 : Int) < n) = false) := by
    cases decide ((100 : Int) < s.size) <;> cases decide ((100 : Int) < s2.size) <;> cases decide ((10 : Int) < n) <;> simp
  rcases hlong with g1 | ⟨g1, g2⟩ | ⟨g1, g2, g3⟩ | ⟨g1, g2, g3⟩
  · go_enter Try.func3, Try.ntmps3
    go_wp2_with fail
    refine (awake_any _).mono ?_
    rintro e w1 ⟨rfl, hb1⟩
    have K1 := (hb1.block w.heap.size (by simp)).trans HK.out
    have z1 := blk_lt K1
    obtain ⟨d0, d1, d2, d3, d4, d5, d6⟩ := blk7 K1
    clear K1
    go_wp2_with fail
    go_ret
    exact ⟨rfl, hbY.trans (hb1.mono hbY.size)⟩
  · go_enter Try.func3, Try.ntmps3
    go_wp2_with fail
    refine (awake_any _).mono ?_
    rintro e w1 ⟨rfl, hb1⟩
    have K1 := (hb1.block w.heap.size (by simp)).trans HK.out
    have z1 := blk_lt K1
    obtain ⟨d0, d1, d2, d3, d4, d5, d6⟩ := blk7 K1
    clear K1
    go_wp2_with fail
    go_ret
    exact ⟨rfl, hbY.trans (hb1.mono hbY.size)⟩
  · go_enter Try.func3, Try.ntmps3
    go_wp2_with fail
    refine (awake_any _).mono ?_
    rintro e w1 ⟨rfl, hb1⟩
    have K1 := (hb1.block w.heap.size (by simp)).trans HK.out
    have z1 := blk_lt K1
    obtain ⟨d0, d1, d2, d3, d4, d5, d6⟩ := blk7 K1
    clear K1
    go_wp2_with fail
    go_ret
    exact ⟨rfl, hbY.trans (hb1.mono hbY.size)⟩
  · have HN : Hid (n ≤ 10) := by
      have := of_decide_eq_false g3
      show n ≤ 10
      omega
    have PC := hid (Check_any q t k s a b c)
    have PD := hid (RCheck_any q t k s a b c)
    have PR := hid (Role_any kd)
    have PS := hid (RRole_any kd)
    have PM := hid (Many_any kd)
    have PN := hid (RMany_any kd)
    have PA := hid (Named_any s2)
    have QN := hid (Numbers_any q t k s a b c)
    have QR := hid (RNumbers_any q t k s a b c)
    generalize chI q t k s a b c = ch at PC PD
    generalize roI kd = ro at PR PS
    generalize mnI kd = mn at PM PN
    go_enter Try.func3, Try.ntmps3
    go_wp2_with fail
    refine (awake_any _).mono ?_
    rintro e w1 ⟨rfl, hb1⟩
    have hbA : Below w.heap.size w w1 := hbY.trans (hb1.mono hbY.size)
    have K1 := (hb1.block w.heap.size (by simp)).trans HK.out
    have z1 := blk_lt K1
    obtain ⟨d0, d1, d2, d3, d4, d5, d6⟩ := blk7 K1
    have HK1 := hid K1
    clear K1 hb1
    obtain ⟨r1, hr1⟩ : ∃ r, decide (1 ≤ (s2.size : Int)) = r := ⟨_, rfl⟩
    obtain ⟨r2, hr2⟩ : ∃ r, decide ((s2.size : Int) ≤ 24) = r := ⟨_, rfl⟩
    have hnm : nmB s2 = (r1 && r2) := by
      subst hr1 hr2
      unfold nmB
      by_cases h1 : 1 ≤ s2.size <;> by_cases h2 : s2.size ≤ 24
      · rw [decide_eq_true (⟨h1, h2⟩ : _ ∧ _), decide_eq_true (by omega), decide_eq_true (by omega)]; rfl
      · rw [decide_eq_false (by omega), decide_eq_false (show ¬ ((s2.size : Int) ≤ 24) by omega), Bool.and_false]
      · rw [decide_eq_false (by omega), decide_eq_false (show ¬ (1 ≤ (s2.size : Int)) by omega), Bool.false_and]
      · rw [decide_eq_false (by omega), decide_eq_false (show ¬ (1 ≤ (s2.size : Int)) by omega), Bool.false_and]
    obtain ⟨rr, hrr⟩ : ∃ rr, (r1 && r2) = rr := ⟨_, rfl⟩
    rw [hnm, hrr] at PA
    have HR := hid hrr
    clear hnm hrr
    have k1 : mnI k = 0 ∨ mnI k = 1 ∨ mnI k = 2 ∨ mnI k = 3 := by unfold mnI; omega
    have HM : Hid ((mnI k).toNat ≤ 3) := by show _ ≤ _; omega
    have HLL : Hid (([a, b, c].take (mnI k).toNat).length = (mnI k).toNat) := by show _ = _; rw [List.length_take]; simp; omega
    clear k1
    generalize [a, b, c].take (mnI k).toNat = L at *
    generalize (mnI k).toNat = m at *
    go_wp2_with fail
    refine wp_region_env (A := fun vs => { tmps := #[Value.agg #[Value.int IntKind.i64 q, Value.int IntKind.i64 t, Value.int IntKind.i64 k, Value.string s, Value.int IntKind.i64 a, Value.int IntKind.i64 b, Value.int IntKind.i64 c], Value.int IntKind.i64 kd, Value.string s2, Value.slice A n cp, Value.pointer (some { block := w.heap.size, off := 0 }), undef, undef, undef, Value.bool false, undef, undef, undef, undef, undef, Value.bool true, Value.bool false, Value.pointer (some { block := w.heap.size, off := 3 }), Value.string s, Value.int IntKind.i64 ↑s.size, Value.bool false, Value.bool false, Value.string s2, Value.int IntKind.i64 ↑s2.size, Value.bool false, Value.bool false, Value.bool false, Value.slice A n cp, Value.int IntKind.i64 ↑n, Value.bool false, Value.bool false, vs 0, vs 1, vs 2, vs 3, vs 4, vs 5, vs 6, vs 7, vs 8, vs 9, vs 10, vs 11, vs 12, vs 13, vs 14, vs 15, vs 16, vs 17, vs 18, vs 19, vs 20, vs 21, vs 22, vs 23, vs 24, vs 25, vs 26, vs 27, vs 28, vs 29, vs 30, vs 31, undef, undef, undef, undef, undef, undef, undef, undef, undef, undef, undef, undef, undef, undef, undef, undef, undef, undef, undef, undef, undef, undef, undef, undef, undef, undef, undef, undef, undef, undef, undef, undef, undef, undef, undef, undef, undef, undef, undef, undef, undef, undef, undef, undef, undef, undef, undef, undef, undef, undef, undef, undef, undef, undef, undef], defers := [] }) (E := fun i yv wq => match i with | 0 => yv = .agg #[.int .i64 q, .int .i64 t, .int .i64 k, .string s, .int .i64 a, .int .i64 b, .int .i64 c] | 1 => yv = .int .i64 ch | 2 => yv = .agg #[.int .i64 q, .int .i64 t, .int .i64 k, .string s, .int .i64 a, .int .i64 b, .int .i64 c] | 3 => yv = .int .i64 ch | 4 => yv = .bool false | 5 => yv = .bool false | 6 => yv = .int .i64 kd | 7 => yv = .int .i64 ro | 8 => yv = .int .i64 kd | 9 => yv = .int .i64 ro | 10 => yv = .bool false | 11 => yv = .bool false | 12 => yv = .bool false | 13 => yv = .int .i64 kd | 14 => yv = .int .i64 mn | 15 => yv = .int .i64 kd | 16 => yv = .int .i64 mn | 17 => yv = .bool false | 18 => yv = .bool false | 19 => yv = .bool false | 20 => yv = .string s2 | 21 => yv = .bool rr | 22 => yv = .string s2 | 23 => yv = .int .i64 ↑s2.size | 24 => yv = .bool r1 | 25 => yv = .bool r1 | 26 => yv = bif r1 then .string s2 else undef | 27 => yv = bif r1 then .int .i64 ↑s2.size else undef | 28 => yv = bif r1 then .bool r2 else undef | 29 => yv = .bool rr | 30 => yv = .bool false | 31 => yv = .bool false | _ => True) (C := fun wq => Below w1.heap.size w1 wq) (Ext := fun a b => Below a.heap.size a b) (fun _ => undef) (by kernel_rfl) (by rfl) ?hC ?hstep ?hstab (low_of (by kernel_rfl)) ?hend
    case hC => exact Below.drew (Below.refl _ _)
    case hstab =>
      intro i yv wa wb hx h
      match i, h with
      | 0, h => exact h
      | 1, h => exact h
      | 2, h => exact h
      | 3, h => exact h
      | 4, h => exact h
      | 5, h => exact h
      | 6, h => exact h
      | 7, h => exact h
      | 8, h => exact h
      | 9, h => exact h
      | 10, h => exact h
      | 11, h => exact h
      | 12, h => exact h
      | 13, h => exact h
      | 14, h => exact h
      | 15, h => exact h
      | 16, h => exact h
      | 17, h => exact h
      | 18, h => exact h
      | 19, h => exact h
      | 20, h => exact h
      | 21, h => exact h
      | 22, h => exact h
      | 23, h => exact h
      | 24, h => exact h
      | 25, h => exact h
      | 26, h => exact h
      | 27, h => exact h
      | 28, h => exact h
      | 29, h => exact h
      | 30, h => exact h
      | 31, h => exact h
      | (_ + 32), _ => trivial
    case hstep =>
      intro i o ho
      match i, ho with
      | 0, ho =>
        obtain rfl := Option.some.inj (show some _ = some o from ho)
        intro vs wq hC hE K hK
        obtain ⟨e0, e1, e2, e3, e4, e5, e6⟩ := blk7 ((hC.block w.heap.size z1).trans HK1.out)
        go_simp
        have hh := hK.out (.agg #[.int .i64 q, .int .i64 t, .int .i64 k, .string s, .int .i64 a, .int .i64 b, .int .i64 c]) wq rfl (Below.refl _ _) hC
        simp only [upd, Nat.reduceEqDiff, ↓reduceIte] at hh
        exact hh
      | 1, ho =>
        obtain rfl := Option.some.inj (show some _ = some o from ho)
        intro vs wq hC hE K hK
        obtain d0 : vs 0 = .agg #[.int .i64 q, .int .i64 t, .int .i64 k, .string s, .int .i64 a, .int .i64 b, .int .i64 c] := hE { on := 0, ground := Ground.data } (by simp) rfl
        go_simp
        go_at_call 6
        refine (PC.out _).mono ?_
        rintro e w3 ⟨rfl, hb3⟩
        have hh := hK.out (.int .i64 ch) w3 rfl hb3 (hC.trans (hb3.mono hC.size))
        simp only [upd, Nat.reduceEqDiff, ↓reduceIte, d0] at hh
        exact hh
      | 2, ho =>
        obtain rfl := Option.some.inj (show some _ = some o from ho)
        intro vs wq hC hE K hK
        obtain ⟨e0, e1, e2, e3, e4, e5, e6⟩ := blk7 ((hC.block w.heap.size z1).trans HK1.out)
        go_simp
        have hh := hK.out (.agg #[.int .i64 q, .int .i64 t, .int .i64 k, .string s, .int .i64 a, .int .i64 b, .int .i64 c]) wq rfl (Below.refl _ _) hC
        simp only [upd, Nat.reduceEqDiff, ↓reduceIte] at hh
        exact hh
      | 3, ho =>
        obtain rfl := Option.some.inj (show some _ = some o from ho)
        intro vs wq hC hE K hK
        obtain d2 : vs 2 = .agg #[.int .i64 q, .int .i64 t, .int .i64 k, .string s, .int .i64 a, .int .i64 b, .int .i64 c] := hE { on := 2, ground := Ground.data } (by simp) rfl
        go_simp
        go_at_call 7
        refine (PD.out _).mono ?_
        rintro e w3 ⟨rfl, hb3⟩
        have hh := hK.out (.int .i64 ch) w3 rfl hb3 (hC.trans (hb3.mono hC.size))
        simp only [upd, Nat.reduceEqDiff, ↓reduceIte, d2] at hh
        exact hh
      | 4, ho =>
        obtain rfl := Option.some.inj (show some _ = some o from ho)
        intro vs wq hC hE K hK
        obtain d1 : vs 1 = .int .i64 ch := hE { on := 1, ground := Ground.data } (by simp) rfl
        obtain d3 : vs 3 = .int .i64 ch := hE { on := 3, ground := Ground.data } (by simp) rfl
        go_simp
        have hh := hK.out (.bool false) wq rfl (Below.refl _ _) hC
        simp only [upd, Nat.reduceEqDiff, ↓reduceIte, d1, d3] at hh
        exact hh
      | 5, ho =>
        obtain rfl := Option.some.inj (show some _ = some o from ho)
        intro vs wq hC hE K hK
        obtain d4 : vs 4 = .bool false := hE { on := 4, ground := Ground.data } (by simp) rfl
        go_simp
        have hh := hK.out (.bool false) wq rfl (Below.refl _ _) hC
        simp only [upd, Nat.reduceEqDiff, ↓reduceIte, d4] at hh
        exact hh
      | 6, ho =>
        obtain rfl := Option.some.inj (show some _ = some o from ho)
        intro vs wq hC hE K hK
        obtain d5 : vs 5 = .bool false := hE { on := 5, ground := Ground.guard } (by simp) rfl
        go_simp
        have hh := hK.out (.int .i64 kd) wq rfl (Below.refl _ _) hC
        simp only [upd, Nat.reduceEqDiff, ↓reduceIte, d5] at hh
        exact hh
      | 7, ho =>
        obtain rfl := Option.some.inj (show some _ = some o from ho)
        intro vs wq hC hE K hK
        obtain d6 : vs 6 = .int .i64 kd := hE { on := 6, ground := Ground.data } (by simp) rfl
        obtain d5 : vs 5 = .bool false := hE { on := 5, ground := Ground.guard } (by simp) rfl
        go_simp
        go_at_call 8
        refine (PR.out _).mono ?_
        rintro e w3 ⟨rfl, hb3⟩
        have hh := hK.out (.int .i64 ro) w3 rfl hb3 (hC.trans (hb3.mono hC.size))
        simp only [upd, Nat.reduceEqDiff, ↓reduceIte, d5, d6] at hh
        exact hh
      | 8, ho =>
        obtain rfl := Option.some.inj (show some _ = some o from ho)
        intro vs wq hC hE K hK
        obtain d5 : vs 5 = .bool false := hE { on := 5, ground := Ground.guard } (by simp) rfl
        go_simp
        have hh := hK.out (.int .i64 kd) wq rfl (Below.refl _ _) hC
        simp only [upd, Nat.reduceEqDiff, ↓reduceIte, d5] at hh
        exact hh
      | 9, ho =>
        obtain rfl := Option.some.inj (show some _ = some o from ho)
        intro vs wq hC hE K hK
        obtain d8 : vs 8 = .int .i64 kd := hE { on := 8, ground := Ground.data } (by simp) rfl
        obtain d5 : vs 5 = .bool false := hE { on := 5, ground := Ground.guard } (by simp) rfl
        go_simp
        go_at_call 9
        refine (PS.out _).mono ?_
        rintro e w3 ⟨rfl, rfl⟩
        have hh := hK.out (.int .i64 ro) wq rfl (Below.refl _ _) hC
        simp only [upd, Nat.reduceEqDiff, ↓reduceIte, d5, d8] at hh
        exact hh
      | 10, ho =>
        obtain rfl := Option.some.inj (show some _ = some o from ho)
        intro vs wq hC hE K hK
        obtain d7 : vs 7 = .int .i64 ro := hE { on := 7, ground := Ground.data } (by simp) rfl
        obtain d9 : vs 9 = .int .i64 ro := hE { on := 9, ground := Ground.data } (by simp) rfl
        obtain d5 : vs 5 = .bool false := hE { on := 5, ground := Ground.guard } (by simp) rfl
        go_simp
        have hh := hK.out (.bool false) wq rfl (Below.refl _ _) hC
        simp only [upd, Nat.reduceEqDiff, ↓reduceIte, d5, d7, d9] at hh
        exact hh
      | 11, ho =>
        obtain rfl := Option.some.inj (show some _ = some o from ho)
        intro vs wq hC hE K hK
        obtain d5 : vs 5 = .bool false := hE { on := 5, ground := Ground.data } (by simp) rfl
        obtain d10 : vs 10 = .bool false := hE { on := 10, ground := Ground.data } (by simp) rfl
        go_simp
        have hh := hK.out (.bool false) wq rfl (Below.refl _ _) hC
        simp only [upd, Nat.reduceEqDiff, ↓reduceIte, d5, d10] at hh
        exact hh
      | 12, ho =>
        obtain rfl := Option.some.inj (show some _ = some o from ho)
        intro vs wq hC hE K hK
        obtain d11 : vs 11 = .bool false := hE { on := 11, ground := Ground.data } (by simp) rfl
        go_simp
        have hh := hK.out (.bool false) wq rfl (Below.refl _ _) hC
        simp only [upd, Nat.reduceEqDiff, ↓reduceIte, d11] at hh
        exact hh
      | 13, ho =>
        obtain rfl := Option.some.inj (show some _ = some o from ho)
        intro vs wq hC hE K hK
        obtain d12 : vs 12 = .bool false := hE { on := 12, ground := Ground.guard } (by simp) rfl
        go_simp
        have hh := hK.out (.int .i64 kd) wq rfl (Below.refl _ _) hC
        simp only [upd, Nat.reduceEqDiff, ↓reduceIte, d12] at hh
        exact hh
      | 14, ho =>
        obtain rfl := Option.some.inj (show some _ = some o from ho)
        intro vs wq hC hE K hK
        obtain d13 : vs 13 = .int .i64 kd := hE { on := 13, ground := Ground.data } (by simp) rfl
        obtain d12 : vs 12 = .bool false := hE { on := 12, ground := Ground.guard } (by simp) rfl
        go_simp
        go_at_call 10
        refine (PM.out _).mono ?_
        rintro e w3 ⟨rfl, hb3⟩
        have hh := hK.out (.int .i64 mn) w3 rfl hb3 (hC.trans (hb3.mono hC.size))
        simp only [upd, Nat.reduceEqDiff, ↓reduceIte, d12, d13] at hh
        exact hh
      | 15, ho =>
        obtain rfl := Option.some.inj (show some _ = some o from ho)
        intro vs wq hC hE K hK
        obtain d12 : vs 12 = .bool false := hE { on := 12, ground := Ground.guard } (by simp) rfl
        go_simp
        have hh := hK.out (.int .i64 kd) wq rfl (Below.refl _ _) hC
        simp only [upd, Nat.reduceEqDiff, ↓reduceIte, d12] at hh
        exact hh
      | 16, ho =>
        obtain rfl := Option.some.inj (show some _ = some o from ho)
        intro vs wq hC hE K hK
        obtain d15 : vs 15 = .int .i64 kd := hE { on := 15, ground := Ground.data } (by simp) rfl
        obtain d12 : vs 12 = .bool false := hE { on := 12, ground := Ground.guard } (by simp) rfl
        go_simp
        go_at_call 11
        refine (PN.out _).mono ?_
        rintro e w3 ⟨rfl, rfl⟩
        have hh := hK.out (.int .i64 mn) wq rfl (Below.refl _ _) hC
        simp only [upd, Nat.reduceEqDiff, ↓reduceIte, d12, d15] at hh
        exact hh
      | 17, ho =>
        obtain rfl := Option.some.inj (show some _ = some o from ho)
        intro vs wq hC hE K hK
        obtain d14 : vs 14 = .int .i64 mn := hE { on := 14, ground := Ground.data } (by simp) rfl
        obtain d16 : vs 16 = .int .i64 mn := hE { on := 16, ground := Ground.data } (by simp) rfl
        obtain d12 : vs 12 = .bool false := hE { on := 12, ground := Ground.guard } (by simp) rfl
        go_simp
        have hh := hK.out (.bool false) wq rfl (Below.refl _ _) hC
        simp only [upd, Nat.reduceEqDiff, ↓reduceIte, d12, d14, d16] at hh
        exact hh
      | 18, ho =>
        obtain rfl := Option.some.inj (show some _ = some o from ho)
        intro vs wq hC hE K hK
        obtain d12 : vs 12 = .bool false := hE { on := 12, ground := Ground.data } (by simp) rfl
        obtain d17 : vs 17 = .bool false := hE { on := 17, ground := Ground.data } (by simp) rfl
        go_simp
        have hh := hK.out (.bool false) wq rfl (Below.refl _ _) hC
        simp only [upd, Nat.reduceEqDiff, ↓reduceIte, d12, d17] at hh
        exact hh
      | 19, ho =>
        obtain rfl := Option.some.inj (show some _ = some o from ho)
        intro vs wq hC hE K hK
        obtain d18 : vs 18 = .bool false := hE { on := 18, ground := Ground.data } (by simp) rfl
        go_simp
        have hh := hK.out (.bool false) wq rfl (Below.refl _ _) hC
        simp only [upd, Nat.reduceEqDiff, ↓reduceIte, d18] at hh
        exact hh
      | 20, ho =>
        obtain rfl := Option.some.inj (show some _ = some o from ho)
        intro vs wq hC hE K hK
        obtain d19 : vs 19 = .bool false := hE { on := 19, ground := Ground.guard } (by simp) rfl
        go_simp
        have hh := hK.out (.string s2) wq rfl (Below.refl _ _) hC
        simp only [upd, Nat.reduceEqDiff, ↓reduceIte, d19] at hh
        exact hh
      | 21, ho =>
        obtain rfl := Option.some.inj (show some _ = some o from ho)
        intro vs wq hC hE K hK
        obtain d20 : vs 20 = .string s2 := hE { on := 20, ground := Ground.data } (by simp) rfl
        obtain d19 : vs 19 = .bool false := hE { on := 19, ground := Ground.guard } (by simp) rfl
        go_simp
        go_at_call 12
        refine (PA.out _).mono ?_
        rintro e w3 ⟨rfl, rfl⟩
        have hh := hK.out (.bool rr) wq rfl (Below.refl _ _) hC
        simp only [upd, Nat.reduceEqDiff, ↓reduceIte, d19, d20] at hh
        exact hh
      | 22, ho =>
        obtain rfl := Option.some.inj (show some _ = some o from ho)
        intro vs wq hC hE K hK
        obtain d19 : vs 19 = .bool false := hE { on := 19, ground := Ground.guard } (by simp) rfl
        go_simp
        have hh := hK.out (.string s2) wq rfl (Below.refl _ _) hC
        simp only [upd, Nat.reduceEqDiff, ↓reduceIte, d19] at hh
        exact hh
      | 23, ho =>
        obtain rfl := Option.some.inj (show some _ = some o from ho)
        intro vs wq hC hE K hK
        obtain d22 : vs 22 = .string s2 := hE { on := 22, ground := Ground.data } (by simp) rfl
        obtain d19 : vs 19 = .bool false := hE { on := 19, ground := Ground.guard } (by simp) rfl
        go_simp
        have hh := hK.out (.int .i64 ↑s2.size) wq rfl (Below.refl _ _) hC
        simp only [upd, Nat.reduceEqDiff, ↓reduceIte, d19, d22] at hh
        exact hh
      | 24, ho =>
        obtain rfl := Option.some.inj (show some _ = some o from ho)
        intro vs wq hC hE K hK
        obtain d23 : vs 23 = .int .i64 ↑s2.size := hE { on := 23, ground := Ground.data } (by simp) rfl
        obtain d19 : vs 19 = .bool false := hE { on := 19, ground := Ground.guard } (by simp) rfl
        go_simp
        have hh := hK.out (.bool r1) wq rfl (Below.refl _ _) hC
        simp only [upd, Nat.reduceEqDiff, ↓reduceIte, d19, d23] at hh
        exact hh
      | 25, ho =>
        obtain rfl := Option.some.inj (show some _ = some o from ho)
        intro vs wq hC hE K hK
        obtain d24 : vs 24 = .bool r1 := hE { on := 24, ground := Ground.data } (by simp) rfl
        obtain d19 : vs 19 = .bool false := hE { on := 19, ground := Ground.guard } (by simp) rfl
        go_simp
        have hh := hK.out (.bool r1) wq rfl (Below.refl _ _) hC
        simp only [upd, Nat.reduceEqDiff, ↓reduceIte, d19, d24] at hh
        exact hh
      | 26, ho =>
        obtain rfl := Option.some.inj (show some _ = some o from ho)
        intro vs wq hC hE K hK
        obtain d25 : vs 25 = .bool r1 := hE { on := 25, ground := Ground.guard } (by simp) rfl
        cases r1
        · go_simp
          have hh := hK.out (undef) wq rfl (Below.refl _ _) hC
          simp only [upd, Nat.reduceEqDiff, ↓reduceIte, d25] at hh
          exact hh
        · go_simp
          have hh := hK.out (.string s2) wq rfl (Below.refl _ _) hC
          simp only [upd, Nat.reduceEqDiff, ↓reduceIte, d25] at hh
          exact hh
      | 27, ho =>
        obtain rfl := Option.some.inj (show some _ = some o from ho)
        intro vs wq hC hE K hK
        obtain d26 : vs 26 = bif r1 then .string s2 else undef := hE { on := 26, ground := Ground.data } (by simp) rfl
        obtain d25 : vs 25 = .bool r1 := hE { on := 25, ground := Ground.guard } (by simp) rfl
        cases r1
        · go_simp
          have hh := hK.out (undef) wq rfl (Below.refl _ _) hC
          simp only [upd, Nat.reduceEqDiff, ↓reduceIte, d25, d26] at hh
          exact hh
        · simp only [cond_true] at d26
          go_simp
          have hh := hK.out (.int .i64 ↑s2.size) wq rfl (Below.refl _ _) hC
          simp only [upd, Nat.reduceEqDiff, ↓reduceIte, d25, d26] at hh
          exact hh
      | 28, ho =>
        obtain rfl := Option.some.inj (show some _ = some o from ho)
        intro vs wq hC hE K hK
        obtain d27 : vs 27 = bif r1 then .int .i64 ↑s2.size else undef := hE { on := 27, ground := Ground.data } (by simp) rfl
        obtain d25 : vs 25 = .bool r1 := hE { on := 25, ground := Ground.guard } (by simp) rfl
        cases r1
        · go_simp
          have hh := hK.out (undef) wq rfl (Below.refl _ _) hC
          simp only [upd, Nat.reduceEqDiff, ↓reduceIte, d25, d27] at hh
          exact hh
        · simp only [cond_true] at d27
          go_simp
          have hh := hK.out (.bool r2) wq rfl (Below.refl _ _) hC
          simp only [upd, Nat.reduceEqDiff, ↓reduceIte, d25, d27] at hh
          exact hh
      | 29, ho =>
        obtain rfl := Option.some.inj (show some _ = some o from ho)
        intro vs wq hC hE K hK
        obtain d25 : vs 25 = .bool r1 := hE { on := 25, ground := Ground.data } (by simp) rfl
        obtain d28 : vs 28 = bif r1 then .bool r2 else undef := hE { on := 28, ground := Ground.data } (by simp) rfl
        obtain d19 : vs 19 = .bool false := hE { on := 19, ground := Ground.guard } (by simp) rfl
        cases r1
        · go_simp
          have hh := hK.out (.bool false) wq (congrArg Value.bool HR.out) (Below.refl _ _) hC
          simp only [upd, Nat.reduceEqDiff, ↓reduceIte, d19, d25, d28] at hh
          exact hh
        · simp only [cond_true] at d28
          go_simp
          have hh := hK.out (.bool r2) wq (congrArg Value.bool HR.out) (Below.refl _ _) hC
          simp only [upd, Nat.reduceEqDiff, ↓reduceIte, d19, d25, d28] at hh
          exact hh
      | 30, ho =>
        obtain rfl := Option.some.inj (show some _ = some o from ho)
        intro vs wq hC hE K hK
        obtain d21 : vs 21 = .bool rr := hE { on := 21, ground := Ground.data } (by simp) rfl
        obtain d29 : vs 29 = .bool rr := hE { on := 29, ground := Ground.data } (by simp) rfl
        obtain d19 : vs 19 = .bool false := hE { on := 19, ground := Ground.guard } (by simp) rfl
        go_simp
        have hh := hK.out (.bool false) wq rfl (Below.refl _ _) hC
        simp only [upd, Nat.reduceEqDiff, ↓reduceIte, d19, d21, d29] at hh
        exact hh
      | 31, ho =>
        obtain rfl := Option.some.inj (show some _ = some o from ho)
        intro vs wq hC hE K hK
        obtain d19 : vs 19 = .bool false := hE { on := 19, ground := Ground.data } (by simp) rfl
        obtain d30 : vs 30 = .bool false := hE { on := 30, ground := Ground.data } (by simp) rfl
        go_simp
        have hh := hK.out (.bool false) wq rfl (Below.refl _ _) hC
        simp only [upd, Nat.reduceEqDiff, ↓reduceIte, d19, d30] at hh
        exact hh
      | (_ + 32), ho => exact absurd ho (by simp)
    case hend =>
      intro va wq0 hC hE
      have r31 : va 31 = _ := hE 31 (by decide)
      simp only [r31]
      have hbB : Below w.heap.size w wq0 := hbA.trans (hC.mono hbA.size)
      have K2 := (hC.block w.heap.size z1).trans HK1.out
      have z2 := blk_lt K2
      clear d0 d1 d2 d3 d4 d5 d6
      obtain ⟨d0, d1, d2, d3, d4, d5, d6⟩ := blk7 K2
      have HK2 := hid K2
      clear K2 PC PD PR PS PM PN PA hE hC r31 HR hr1 hr2
      go_wp2_with fail
      refine wp_region_env (A := fun vs => { tmps := #[Value.agg #[Value.int IntKind.i64 q, Value.int IntKind.i64 t, Value.int IntKind.i64 k, Value.string s, Value.int IntKind.i64 a, Value.int IntKind.i64 b, Value.int IntKind.i64 c], Value.int IntKind.i64 kd, Value.string s2, Value.slice A n cp, Value.pointer (some { block := w.heap.size, off := 0 }), undef, undef, undef, Value.bool false, vs 4, vs 5, undef, undef, undef, Value.bool true, Value.bool false, Value.pointer (some { block := w.heap.size, off := 3 }), Value.string s, Value.int IntKind.i64 ↑s.size, Value.bool false, Value.bool false, Value.string s2, Value.int IntKind.i64 ↑s2.size, Value.bool false, Value.bool false, Value.bool false, Value.slice A n cp, Value.int IntKind.i64 ↑n, Value.bool false, Value.bool false, va 0, va 1, va 2, va 3, va 4, va 5, va 6, va 7, va 8, va 9, va 10, va 11, va 12, va 13, va 14, va 15, va 16, va 17, va 18, va 19, va 20, va 21, va 22, va 23, va 24, va 25, va 26, va 27, va 28, va 29, va 30, Value.bool false, vs 0, vs 1, vs 2, vs 3, undef, undef, undef, undef, undef, undef, undef, undef, undef, undef, undef, undef, undef, undef, undef, undef, undef, undef, undef, undef, undef, undef, undef, undef, undef, undef, undef, undef, undef, undef, undef, undef, undef, undef, undef, undef, undef, undef, undef, undef, undef, undef, undef, undef, undef, undef, undef, undef, undef, undef, undef], defers := [] }) (E := fun i yv wq => match i with | 0 => yv = .agg #[.int .i64 q, .int .i64 t, .int .i64 k, .string s, .int .i64 a, .int .i64 b, .int .i64 c] | 1 => Ns wq (yv) m L | 2 => yv = .agg #[.int .i64 q, .int .i64 t, .int .i64 k, .string s, .int .i64 a, .int .i64 b, .int .i64 c] | 3 => Ns wq (yv) m L | 4 => Ns wq (yv) m L | 5 => Ns wq (yv) m L | _ => True) (C := fun wq => Below wq0.heap.size wq0 wq) (Ext := fun a b => Below a.heap.size a b) (fun _ => undef) (by kernel_rfl) (by rfl) ?hC ?hstep ?hstab (low_of (by kernel_rfl)) ?hend
      case hC => exact Below.drew (Below.refl _ _)
      case hstab =>
        intro i yv wa wb hx h
        match i, h with
        | 0, h => exact h
        | 1, h => exact h.below hx
        | 2, h => exact h
        | 3, h => exact h.below hx
        | 4, h => exact h.below hx
        | 5, h => exact h.below hx
        | (_ + 6), _ => trivial
      case hstep =>
        intro i o ho
        match i, ho with
        | 0, ho =>
          obtain rfl := Option.some.inj (show some _ = some o from ho)
          intro vs wq hC hE K hK
          obtain ⟨e0, e1, e2, e3, e4, e5, e6⟩ := blk7 ((hC.block w.heap.size z2).trans HK2.out)
          go_simp
          have hh := hK.out (.agg #[.int .i64 q, .int .i64 t, .int .i64 k, .string s, .int .i64 a, .int .i64 b, .int .i64 c]) wq rfl (Below.refl _ _) hC
          simp only [upd, Nat.reduceEqDiff, ↓reduceIte] at hh
          exact hh
        | 1, ho =>
          obtain rfl := Option.some.inj (show some _ = some o from ho)
          intro vs wq hC hE K hK
          obtain d0 : vs 0 = .agg #[.int .i64 q, .int .i64 t, .int .i64 k, .string s, .int .i64 a, .int .i64 b, .int .i64 c] := hE { on := 0, ground := Ground.data } (by simp) rfl
          go_simp
          go_at_call 13
          refine (QN.out _).mono ?_
          rintro e w3 ⟨⟨A3, c3, rfl, h1, h2, -, h4⟩, hb3⟩
          have hh := hK.out (.slice A3 m c3) w3 ⟨A3, c3, rfl, h1, (by unfold maxLen; omega), h4⟩ hb3 (hC.trans (hb3.mono hC.size))
          simp only [upd, Nat.reduceEqDiff, ↓reduceIte, d0] at hh
          exact hh
        | 2, ho =>
          obtain rfl := Option.some.inj (show some _ = some o from ho)
          intro vs wq hC hE K hK
          obtain ⟨e0, e1, e2, e3, e4, e5, e6⟩ := blk7 ((hC.block w.heap.size z2).trans HK2.out)
          go_simp
          have hh := hK.out (.agg #[.int .i64 q, .int .i64 t, .int .i64 k, .string s, .int .i64 a, .int .i64 b, .int .i64 c]) wq rfl (Below.refl _ _) hC
          simp only [upd, Nat.reduceEqDiff, ↓reduceIte] at hh
          exact hh
        | 3, ho =>
          obtain rfl := Option.some.inj (show some _ = some o from ho)
          intro vs wq hC hE K hK
          obtain d2 : vs 2 = .agg #[.int .i64 q, .int .i64 t, .int .i64 k, .string s, .int .i64 a, .int .i64 b, .int .i64 c] := hE { on := 2, ground := Ground.data } (by simp) rfl
          go_simp
          go_at_call 14
          refine (QR.out _).mono ?_
          rintro e w3 ⟨⟨A3, c3, rfl, h1, h2, -, h4⟩, hb3⟩
          have hh := hK.out (.slice A3 m c3) w3 ⟨A3, c3, rfl, h1, h2, h4⟩ hb3 (hC.trans (hb3.mono hC.size))
          simp only [upd, Nat.reduceEqDiff, ↓reduceIte, d2] at hh
          exact hh
        | 4, ho =>
          obtain rfl := Option.some.inj (show some _ = some o from ho)
          intro vs wq hC hE K hK
          obtain d1 : Ns wq (vs 1) m L := hE { on := 1, ground := Ground.data } (by simp) rfl
          go_simp
          have hh := hK.out (vs 1) wq d1 (Below.refl _ _) hC
          simp only [upd, Nat.reduceEqDiff, ↓reduceIte] at hh
          exact hh
        | 5, ho =>
          obtain rfl := Option.some.inj (show some _ = some o from ho)
          intro vs wq hC hE K hK
          obtain d3 : Ns wq (vs 3) m L := hE { on := 3, ground := Ground.data } (by simp) rfl
          go_simp
          have hh := hK.out (vs 3) wq d3 (Below.refl _ _) hC
          simp only [upd, Nat.reduceEqDiff, ↓reduceIte] at hh
          exact hh
        | (_ + 6), ho => exact absurd ho (by simp)
      case hend =>
        intro vb wq1 hC hE
        obtain ⟨A1, c1, p4, hm1, hc1, hS1⟩ : Ns wq1 (vb 4) m L := hE 4 (by decide)
        obtain ⟨A2, c2, p5, hm2, hc2, hS2⟩ : Ns wq1 (vb 5) m L := hE 5 (by decide)
        simp only [p4, p5]
        have hbC : Below w.heap.size w wq1 := hbB.trans (hC.mono hbB.size)
        have K3 := (hC.block w.heap.size z2).trans HK2.out
        have HK3 := hid K3
        have z3 := blk_lt K3
        clear d0 d1 d2 d3 d4 d5 d6 K3 QN QR hE hC p4 p5
        go_wp2_with fail
        go_loopw [11] (fun i wr => ∃ j : Nat, j ≤ m ∧ i = .int .i64 j ∧ Below wq1.heap.size wq1 wr) (fun i _ => m - (intOf i).toNat)
        case atStart => exact ⟨0, by omega, rfl, Below.refl _ _⟩
        case round =>
          obtain ⟨j, hj, rfl, hbr⟩ := hrel
          by_cases hlt : j < m
          · obtain ⟨b1, o1, x, rfl, hb1, hx1, hc1'⟩ := Ns.at hS1 hlt
            obtain ⟨b2, o2, y, rfl, hb2, hx2, hc2'⟩ := Ns.at hS2 hlt
            obtain rfl : x = y := by rw [hx1] at hx2; exact Option.some.inj hx2
            have l1 := (hbr.cell (p := ⟨b1, o1 + j, none⟩) hb1).trans hc1'
            have l2 := (hbr.cell (p := ⟨b2, o2 + j, none⟩) hb2).trans hc2'
            have i1 : (0 : Int) ≤ (j : Int) := by omega
            have i2 : (j : Int) < (m : Int) := by omega
            have d12 : decide ((j : Int) < (m : Int)) = true := decide_eq_true i2
            have HJ := hid (show j + 1 ≤ m by omega)
            have hwr : IntKind.i64.wrap ((j : Int) + 1) = (j : Int) + 1 := Go.IntWalk.i64_in _ (by have := HM.out; omega)
            clear hx1 hx2 hc1' hc2' HK2 HK3
            go_wp2_with fail
            go_region
            go_wp2_with fail
            go_roundw
            case rel => exact ⟨j + 1, HJ.out, by have := HJ.out; have := HM.out; go_num, hbr.drew⟩
            case measure => have := HJ.out; have := HM.out; simp [intOf]; omega
          · obtain rfl : j = m := by omega
            have d12 : decide ((j : Int) < (j : Int)) = false := decide_eq_false (by omega)
            have hbD : Below w.heap.size w wr := hbC.trans (hbr.mono hbC.size)
            have K4 := (hbr.block w.heap.size z3).trans HK3.out
            have z4 := blk_lt K4
            have HK4 := hid K4
            obtain ⟨d0, d1, d2, d3, d4, d5, d6⟩ := blk7 K4
            clear K4 hS1 hS2 hm1 hm2 hc1 hc2 hbr
            have hS4 := hS.below hbD
            have HF := hid (Fill_any q t k s a b c (cp := cp) hS4 hbD.size (by have := HN.out; omega))
            have hE := fun x y z => eq_event q t k x y z s
            rcases zs with _ | ⟨x0, _ | ⟨x1, _ | ⟨x2, r⟩⟩⟩
            · rw [show at3 [] 0 = 0 from rfl, show at3 [] 1 = 0 from rfl, show at3 [] 2 = 0 from rfl] at HF
              have hn : n = 0 := by have := HL.out; simp at this; omega
              have e0 : decide ((0 : Int) < (n : Int)) = false := decide_eq_false (by omega)
              have e1 : decide ((1 : Int) < (n : Int)) = false := decide_eq_false (by omega)
              have e2 : decide ((2 : Int) < (n : Int)) = false := decide_eq_false (by omega)
              have e0n : decide (0 < n) = false := decide_eq_false (by omega)
              clear hn
              go_wp2_with fail
              refine HF.out.mono ?_
              rintro e w7 ⟨rfl, hb7⟩
              have hbE : Below w.heap.size w w7 := hbD.trans (hb7.mono hbD.size)
              have K7 := (hb7.block w.heap.size z4).trans HK4.out
              have z7 := blk_lt K7
              clear d0 d1 d2 d3 d4 d5 d6
              obtain ⟨d0, d1, d2, d3, d4, d5, d6⟩ := blk7 K7
              clear K7 HF
              go_wp2_with fail
              go_ret
              exact ⟨rfl, (hbE.alloc hbE.size _).alloc (by have := hbE.size; simp; omega) _⟩
            · rw [show at3 [x0] 0 = x0 from rfl, show at3 [x0] 1 = 0 from rfl, show at3 [x0] 2 = 0 from rfl] at HF
              have hn : n = 1 := by have := HL.out; simp at this; omega
              have e0 : decide ((0 : Int) < (n : Int)) = true := decide_eq_true (by omega)
              have e1 : decide ((1 : Int) < (n : Int)) = false := decide_eq_false (by omega)
              have e2 : decide ((2 : Int) < (n : Int)) = false := decide_eq_false (by omega)
              have e0n : decide (0 < n) = true := decide_eq_true (by omega)
              have p0 : (0 : Int) < (n : Int) := by omega
              obtain ⟨b0, o0, rfl, hb0, hcc⟩ := hS4.2 (by omega)
              have q0 := hid (hcc 0 (.int .i64 x0) rfl)
              clear hn hcc
              go_wp2_with fail
              refine HF.out.mono ?_
              rintro e w7 ⟨rfl, hb7⟩
              have hbE : Below w.heap.size w w7 := hbD.trans (hb7.mono hbD.size)
              have K7 := (hb7.block w.heap.size z4).trans HK4.out
              have z7 := blk_lt K7
              clear d0 d1 d2 d3 d4 d5 d6
              obtain ⟨d0, d1, d2, d3, d4, d5, d6⟩ := blk7 K7
              have hbz : b0 < w7.heap.size := by have := hbE.size; omega
              have l0 := (hb7.cell (p := ⟨b0, o0 + 0, none⟩) (by have := hbD.size; show b0 < _; omega)).trans q0.out
              rw [Nat.add_zero] at l0
              clear K7 HF
              go_wp2_with fail
              go_ret
              exact ⟨rfl, (hbE.alloc hbE.size _).alloc (by have := hbE.size; simp; omega) _⟩
            · rw [show at3 [x0, x1] 0 = x0 from rfl, show at3 [x0, x1] 1 = x1 from rfl, show at3 [x0, x1] 2 = 0 from rfl] at HF
              have hn : n = 2 := by have := HL.out; simp at this; omega
              have e0 : decide ((0 : Int) < (n : Int)) = true := decide_eq_true (by omega)
              have e1 : decide ((1 : Int) < (n : Int)) = true := decide_eq_true (by omega)
              have e2 : decide ((2 : Int) < (n : Int)) = false := decide_eq_false (by omega)
              have e0n : decide (0 < n) = true := decide_eq_true (by omega)
              have p0 : (0 : Int) < (n : Int) := by omega
              have p1 : (1 : Int) < (n : Int) := by omega
              obtain ⟨b0, o0, rfl, hb0, hcc⟩ := hS4.2 (by omega)
              have q0 := hid (hcc 0 (.int .i64 x0) rfl)
              have q1 := hid (hcc 1 (.int .i64 x1) rfl)
              clear hn hcc
              go_wp2_with fail
              refine HF.out.mono ?_
              rintro e w7 ⟨rfl, hb7⟩
              have hbE : Below w.heap.size w w7 := hbD.trans (hb7.mono hbD.size)
              have K7 := (hb7.block w.heap.size z4).trans HK4.out
              have z7 := blk_lt K7
              clear d0 d1 d2 d3 d4 d5 d6
              obtain ⟨d0, d1, d2, d3, d4, d5, d6⟩ := blk7 K7
              have hbz : b0 < w7.heap.size := by have := hbE.size; omega
              have l0 := (hb7.cell (p := ⟨b0, o0 + 0, none⟩) (by have := hbD.size; show b0 < _; omega)).trans q0.out
              have l1 := (hb7.cell (p := ⟨b0, o0 + 1, none⟩) (by have := hbD.size; show b0 < _; omega)).trans q1.out
              rw [Nat.add_zero] at l0
              clear K7 HF
              go_wp2_with fail
              go_ret
              exact ⟨rfl, (hbE.alloc hbE.size _).alloc (by have := hbE.size; simp; omega) _⟩
            · rw [show at3 (x0 :: x1 :: x2 :: r) 0 = x0 from rfl, show at3 (x0 :: x1 :: x2 :: r) 1 = x1 from rfl, show at3 (x0 :: x1 :: x2 :: r) 2 = x2 from rfl] at HF
              have hn : n ≥ 3 := by have := HL.out; simp at this; omega
              have e0 : decide ((0 : Int) < (n : Int)) = true := decide_eq_true (by omega)
              have e1 : decide ((1 : Int) < (n : Int)) = true := decide_eq_true (by omega)
              have e2 : decide ((2 : Int) < (n : Int)) = true := decide_eq_true (by omega)
              have e0n : decide (0 < n) = true := decide_eq_true (by omega)
              have p0 : (0 : Int) < (n : Int) := by omega
              have p1 : (1 : Int) < (n : Int) := by omega
              have p2 : (2 : Int) < (n : Int) := by omega
              obtain ⟨b0, o0, rfl, hb0, hcc⟩ := hS4.2 (by omega)
              have q0 := hid (hcc 0 (.int .i64 x0) rfl)
              have q1 := hid (hcc 1 (.int .i64 x1) rfl)
              have q2 := hid (hcc 2 (.int .i64 x2) rfl)
              clear hn hcc
              go_wp2_with fail
              refine HF.out.mono ?_
              rintro e w7 ⟨rfl, hb7⟩
              have hbE : Below w.heap.size w w7 := hbD.trans (hb7.mono hbD.size)
              have K7 := (hb7.block w.heap.size z4).trans HK4.out
              have z7 := blk_lt K7
              clear d0 d1 d2 d3 d4 d5 d6
              obtain ⟨d0, d1, d2, d3, d4, d5, d6⟩ := blk7 K7
              have hbz : b0 < w7.heap.size := by have := hbE.size; omega
              have l0 := (hb7.cell (p := ⟨b0, o0 + 0, none⟩) (by have := hbD.size; show b0 < _; omega)).trans q0.out
              have l1 := (hb7.cell (p := ⟨b0, o0 + 1, none⟩) (by have := hbD.size; show b0 < _; omega)).trans q1.out
              have l2 := (hb7.cell (p := ⟨b0, o0 + 2, none⟩) (by have := hbD.size; show b0 < _; omega)).trans q2.out
              rw [Nat.add_zero] at l0
              clear K7 HF
              go_wp2_with fail
              go_ret
              exact ⟨rfl, (hbE.alloc hbE.size _).alloc (by have := hbE.size; simp; omega) _⟩
end Go.Proofs.Ytcgbdmidlkflhaa
