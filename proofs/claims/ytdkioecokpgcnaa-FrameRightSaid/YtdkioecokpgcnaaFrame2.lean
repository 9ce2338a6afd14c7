/- Layer 8: contracts of HasPrefix and of first. -/
import Derived.Test.YtdkioecokpgcnaaFrame1
import Derived.Test.YtdkioecokpgcnaaCrc4
namespace Go.Proofs.Ytdkioecokpgcnaa
open Go.ChangeShapes Go.WideShapes Go.ChangeAt Go.RowKit Fb

set_option maxHeartbeats 2000000 in
theorem HasPrefix_any {A A' : Option Addr} {n n' c c' B' : Nat} {zs zs' : List Int} {w : World} (hS : Rw w A n c zs) (hS' : Sl w B' A' n' (by8 zs')) (hb : Bytes zs) (hb' : Bytes zs') :
    Calls Try.prog 19 #[.slice A n c, .slice A' n' c'] w fun e w' => e = .returned (.bool (decide (zs.take n' = zs'))) ∧ w = w' := by
  have hl : n = zs.length := by have := hS.1.len; rw [by8_len] at this; exact this.symm
  have hl' : n' = zs'.length := by have := hS'.len; rw [by8_len] at this; exact this.symm
  by_cases h : n' ≤ n
  · have hT := hS.1.take h
    have e8 : (by8 zs).take n' = by8 (zs.take n') := by unfold by8; rw [List.map_take]
    rw [e8] at hT
    have PE := hid (Equal_any (c := c) (c' := c') hT hS' (fun x hx => hb x (List.mem_of_mem_take hx)) hb')
    have hc1 := hS.2.1
    have hc2 := hS.2.2.1
    unfold maxLen at hc2
    have h2 : n' ≤ c := by omega
    have h3 : (decide ((n' : Int) ≤ (n : Int))) = true := decide_eq_true (by omega)
    clear hS hS' hl hl' hT e8 hb hb'
    go_enter Try.func19, Try.ntmps19
    go_wp2_with fail
    refine PE.out.mono ?_
    rintro e w1 ⟨rfl, rfl⟩
    go_wp2_with fail
    go_ret
    exact ⟨rfl, rfl⟩
  · have e : decide (zs.take n' = zs') = false := decide_eq_false fun e => by
      have := congrArg List.length e
      rw [List.length_take] at this
      omega
    rw [e]
    have h3 : (decide ((n' : Int) ≤ (n : Int))) = false := decide_eq_false (by omega)
    clear hS hS' hl hl' e hb hb'
    go_enter Try.func19, Try.ntmps19
    go_wp2_with fail
    go_ret
    exact ⟨rfl, rfl⟩
/-- the whole frame that some bytes begin with, or none -/
def fiB (ys : List Int) : List Int := if fiS ys = 0 then ys.take (7 + fsN ys) else []
def FFirst (w : World) (ys : List Int) (e : Ending) (w' : World) : Prop :=
  (∃ v, e = .returned (.tuple #[v, .int .i64 (fiS ys)]) ∧ w'.ownsRow w.heap.size 5 1 v (fiB ys).length (by8 (fiB ys))) ∧ Below w.heap.size w w'
theorem FFirst.none {w w' : World} {ys : List Int} {E : Int} (h : fiS ys = E) (h0 : E ≠ 0) (hb : Below w.heap.size w w') : FFirst w ys (.returned (.tuple #[.slice none 0 0, .int .i64 E])) w' := by
  refine ⟨⟨_, by rw [h], ?_⟩, hb⟩
  unfold fiB
  rw [if_neg (by rw [h]; exact h0)]
  exact ⟨rfl, .inl ⟨rfl, rfl⟩⟩
/-- a byte of a slice, as a walk reads it -/
theorem cell_at0 {w : World} {B n : Nat} {A : Option Addr} {ys : List Int} (hS : Sl w B A n (by8 ys)) (hn : 0 < n) :
    ∃ b o, A = some ⟨b, o, none⟩ ∧ b < B ∧ ∀ j, j < n → w.cell? ⟨b, o + j, none⟩ = some (.int .u8 (at0 ys j)) := by
  have hl : n = ys.length := by have := hS.len; rw [by8_len] at this; exact this.symm
  obtain ⟨b, o, hA, hb, hc⟩ := hS.2 hn
  refine ⟨b, o, hA, hb, fun j hj => hc j _ ?_⟩
  have hj2 : j < ys.length := by omega
  simp [by8, at0, List.getElem?_eq_getElem hj2]

set_option maxRecDepth 100000 in
set_option maxHeartbeats 4000000 in
theorem first_any {A : Option Addr} {n c : Nat} {ys : List Int} {w : World} (hS : Rw w A n c ys) (hb : Bytes ys) :
    Calls Try.prog 13 #[.slice A n c] w (FFirst w ys) := by
  have hl : n = ys.length := by have := hS.1.len; rw [by8_len] at this; exact this.symm
  by_cases h0 : n = 0
  · have E := hid (fi_end (ys := ys) (by omega))
    subst h0
    clear hS hl
    go_enter Try.func13, Try.ntmps13
    go_wp2
    go_ret2
    exact FFirst.none E.out (by decide) (Below.refl _ _)
  · by_cases h7 : n < 7
    · have E := hid (fi_few (ys := ys) (by omega) (by omega))
      clear hS hl
      go_enter Try.func13, Try.ntmps13
      go_wp2
      go_ret2
      exact FFirst.none E.out (by decide) (Below.refl _ _)
    · obtain ⟨b, o, rfl, hbB, hcell⟩ := cell_at0 hS.1 (by omega)
      have c0 := hcell 0 (by omega)
      have c1 := hcell 1 (by omega)
      have c2 := hcell 2 (by omega)
      rw [Nat.add_zero] at c0
      have b0 := at0_byte hb 0
      have b1 := at0_byte hb 1
      have b2 := at0_byte hb 2
      have hN := fsN_val hb
      have hc1 := hS.2.1
      have hc2 := hS.2.2.1
      unfold maxLen at hc2
      have HS := hid hS
      have HL := hid hl
      have HB := hid hb
      obtain ⟨x0, hx0⟩ : ∃ x, at0 ys 0 = x := ⟨_, rfl⟩
      obtain ⟨x1, hx1⟩ : ∃ x, at0 ys 1 = x := ⟨_, rfl⟩
      obtain ⟨x2, hx2⟩ : ∃ x, at0 ys 2 = x := ⟨_, rfl⟩
      obtain ⟨m, hm⟩ : ∃ m, fsN ys = m := ⟨_, rfl⟩
      rw [hx0, hx1, hm] at hN
      rw [hx0] at c0 b0
      rw [hx1] at c1 b1
      rw [hx2] at c2 b2
      have e5 : x0 * 256 + x1 = (m : Int) := by omega
      have HX := hid hx2
      have HM := hid hm
      have z0 : ((n : Int) == 0) = false := by simp; omega
      have b2a := b2.1
      have b2b := b2.2
      clear hcell hS hl hb hx0 hx1 hx2 hm hN h0 b2
      by_cases hm2 : 200 < m
      · have E := hid (fi_long (ys := ys) (by rw [← HL.out]; exact h7) (by rw [HM.out]; exact hm2))
        go_enter Try.func13, Try.ntmps13
        go_wp2_with fail
        go_region
        go_wp2
        go_ret2
        exact FFirst.none E.out (by decide) (Below.drew (Below.refl _ _))
      · by_cases hm3 : n < 7 + m
        · have E := hid (fi_torn (ys := ys) (by rw [← HL.out]; exact h7) (by rw [HM.out]; exact hm2) (by rw [← HL.out, HM.out]; exact hm3))
          go_enter Try.func13, Try.ntmps13
          go_wp2_with fail
          go_region
          go_wp2
          go_ret2
          exact FFirst.none E.out (by decide) (Below.drew (Below.refl _ _))
        · have hT : Rw w (some ⟨b, o + 3, none⟩) m (c - 3) (fsP ys) := by
            have hD := HS.out.1.drop (k := 3) (c := c) (by omega) hc1
            rw [if_neg (by omega)] at hD
            have hD2 := hD.take (k := m) (by omega)
            have e8 : ((by8 ys).drop 3).take m = by8 (fsP ys) := by unfold by8 fsP; rw [HM.out, List.map_take, List.map_drop]
            rw [e8] at hD2
            exact ⟨hD2, by omega, by unfold maxLen; omega, fun h => by cases h⟩
          have HPL := hid (show (fsP ys).length = m by rw [fsP_len (by rw [← HL.out, HM.out]; omega), HM.out])
          have HPB := hid (show Bytes (fsP ys) from fun x hx => HB.out x (List.mem_of_mem_drop (List.mem_of_mem_take hx)))
          have PP := hid (fun (w1 : World) (h : Below w.heap.size w w1) => FPut_any x2 (hT.below h) HPB.out)
          obtain ⟨PE, hPE⟩ : ∃ PE, fpE x2 m = PE := ⟨_, rfl⟩
          unfold FPuts at PP
          rw [HPL.out, hPE] at PP
          have HPE := hid hPE
          clear hT hPE
          go_enter Try.func13, Try.ntmps13
          go_wp2_with fail
          go_region
          go_wp2_with fail
          -- r10
          refine wp_region_env (A := fun vs => { tmps := #[Value.slice (some { block := b, off := o }) n c, undef, Value.slice none 0 0, Value.int IntKind.i64 0, Value.int IntKind.i64 ↑m, vs 12, vs 13, Value.bool false, Value.slice (some { block := b, off := o }) n c, Value.int IntKind.i64 ↑n, Value.bool false, Value.bool (decide ((↑n : Int) < 7)), Value.slice (some { block := b, off := o }) n c, Value.int IntKind.i64 ↑n, Value.bool (decide ((↑n : Int) < 7)), Value.slice (some { block := b, off := o }) n c, Value.pointer (some { block := b, off := o }), Value.int IntKind.u8 x0, Value.int IntKind.i64 x0, Value.int IntKind.i64 (x0 * 256), Value.slice (some { block := b, off := o }) n c, Value.pointer (some { block := b, off := o + 1 }), Value.int IntKind.u8 x1, Value.int IntKind.i64 x1, Value.int IntKind.i64 ↑m, Value.bool (decide ((200 : Int) < ↑m)), Value.int IntKind.i64 ↑m, Value.bool (decide ((200 : Int) < ↑m)), Value.bool (decide ((↑n : Int) < 3 + ↑m + 4)), Value.slice (some { block := b, off := o }) n c, Value.int IntKind.i64 ↑n, Value.int IntKind.i64 ↑m, Value.int IntKind.i64 (3 + ↑m), Value.int IntKind.i64 (3 + ↑m + 4), Value.bool (decide ((↑n : Int) < 3 + ↑m + 4)), vs 9, vs 0, vs 1, vs 2, vs 3, vs 4, vs 5, vs 6, vs 7, vs 8, vs 10, vs 11, undef, undef, undef, undef, undef, undef, undef, undef, undef], defers := [] }) (E := fun i yv wq => match i with | 0 => yv = .slice (some ⟨b, o, none⟩) n c | 1 => yv = .pointer (some ⟨b, o + 2, none⟩) | 2 => yv = .int .u8 x2 | 3 => yv = .int .i64 x2 | 4 => yv = .slice (some ⟨b, o, none⟩) n c | 5 => yv = .int .i64 ↑m | 6 => yv = .int .i64 (3 + ↑m) | 7 => yv = .slice (some ⟨b, o + 3, none⟩) m (c - 3) | 8 => ∃ v, yv = .tuple #[v, .int .i64 PE] ∧ wq.ownsRow w.heap.size 5 1 v (fpB x2 (fsP ys)).length (by8 (fpB x2 (fsP ys))) | 9 => ∃ v, yv = .tuple #[v, .int .i64 PE] ∧ wq.ownsRow w.heap.size 5 1 v (fpB x2 (fsP ys)).length (by8 (fpB x2 (fsP ys))) | 10 => wq.ownsRow w.heap.size 5 1 (yv) (fpB x2 (fsP ys)).length (by8 (fpB x2 (fsP ys))) | 11 => yv = .int .i64 PE | 12 => wq.ownsRow w.heap.size 5 1 (yv) (fpB x2 (fsP ys)).length (by8 (fpB x2 (fsP ys))) | 13 => yv = .int .i64 PE | _ => True) (C := fun wq => Below w.heap.size w wq) (Ext := fun a b => Below a.heap.size a b) (fun _ => undef) (by kernel_rfl) (by rfl) ?hC ?hstep ?hstab (low_of (by kernel_rfl)) ?hend
          case hC => exact Below.drew (Below.drew (Below.refl _ _))
          case hstab =>
            intro i yv wa wb hx h
            match i, h with
            | 0, h => exact h
            | 1, h => exact h
            | 2, h => exact h
            | 3, h => exact h
            | 4, h => exact h
            | 5, h => exact h
            | 6, h => exact h
            | 7, h => exact h
            | 8, h => exact (by obtain ⟨v, h1, h2⟩ := h; exact ⟨v, h1, own_below h2 hx⟩)
            | 9, h => exact (by obtain ⟨v, h1, h2⟩ := h; exact ⟨v, h1, own_below h2 hx⟩)
            | 10, h => exact (own_below h hx)
            | 11, h => exact h
            | 12, h => exact (own_below h hx)
            | 13, h => exact h
            | (_ + 14), _ => trivial
          case hstep =>
            intro i o ho
            match i, ho with
            | 0, ho =>
              obtain rfl := Option.some.inj (show some _ = some o from ho)
              intro vs wq hC hE K hK
              go_simp
              have hh := hK.out (.slice (some ⟨b, o, none⟩) n c) wq rfl (Below.refl _ _) hC
              simp only [upd, Nat.reduceEqDiff, ↓reduceIte] at hh
              exact hh
            | 1, ho =>
              obtain rfl := Option.some.inj (show some _ = some o from ho)
              intro vs wq hC hE K hK
              obtain d0 : vs 0 = .slice (some ⟨b, o, none⟩) n c := hE { on := 0, ground := Ground.data } (by simp) rfl
              have i2 : (2 : Int) < n := by omega
              have i3 : 2 < n := by omega
              go_simp
              have hh := hK.out (.pointer (some ⟨b, o + 2, none⟩)) wq rfl (Below.refl _ _) hC
              simp only [upd, Nat.reduceEqDiff, ↓reduceIte, d0] at hh
              exact hh
            | 2, ho =>
              obtain rfl := Option.some.inj (show some _ = some o from ho)
              intro vs wq hC hE K hK
              obtain d1 : vs 1 = .pointer (some ⟨b, o + 2, none⟩) := hE { on := 1, ground := Ground.data } (by simp) rfl
              have g2 : wq.cell? ⟨b, o + 2, none⟩ = some (.int .u8 x2) := (hC.cell (p := ⟨b, o + 2, none⟩) hbB).trans c2
              go_simp
              have hh := hK.out (.int .u8 x2) wq rfl (Below.refl _ _) hC
              simp only [upd, Nat.reduceEqDiff, ↓reduceIte, d1] at hh
              exact hh
            | 3, ho =>
              obtain rfl := Option.some.inj (show some _ = some o from ho)
              intro vs wq hC hE K hK
              obtain d2 : vs 2 = .int .u8 x2 := hE { on := 2, ground := Ground.data } (by simp) rfl
              have i2 : IntKind.i64.wrap x2 = x2 := wrap_i64 (by omega) (by omega)
              go_simp
              have hh := hK.out (.int .i64 x2) wq rfl (Below.refl _ _) hC
              simp only [upd, Nat.reduceEqDiff, ↓reduceIte, d2] at hh
              exact hh
            | 4, ho =>
              obtain rfl := Option.some.inj (show some _ = some o from ho)
              intro vs wq hC hE K hK
              go_simp
              have hh := hK.out (.slice (some ⟨b, o, none⟩) n c) wq rfl (Below.refl _ _) hC
              simp only [upd, Nat.reduceEqDiff, ↓reduceIte] at hh
              exact hh
            | 5, ho =>
              obtain rfl := Option.some.inj (show some _ = some o from ho)
              intro vs wq hC hE K hK
              go_simp
              have hh := hK.out (.int .i64 ↑m) wq rfl (Below.refl _ _) hC
              simp only [upd, Nat.reduceEqDiff, ↓reduceIte] at hh
              exact hh
            | 6, ho =>
              obtain rfl := Option.some.inj (show some _ = some o from ho)
              intro vs wq hC hE K hK
              obtain d5 : vs 5 = .int .i64 ↑m := hE { on := 5, ground := Ground.data } (by simp) rfl
              have i2 : IntKind.i64.wrap (3 + ↑m) = 3 + ↑m := wrap_i64 (by omega) (by omega)
              go_simp
              have hh := hK.out (.int .i64 (3 + ↑m)) wq rfl (Below.refl _ _) hC
              simp only [upd, Nat.reduceEqDiff, ↓reduceIte, d5] at hh
              exact hh
            | 7, ho =>
              obtain rfl := Option.some.inj (show some _ = some o from ho)
              intro vs wq hC hE K hK
              obtain d4 : vs 4 = .slice (some ⟨b, o, none⟩) n c := hE { on := 4, ground := Ground.data } (by simp) rfl
              obtain d6 : vs 6 = .int .i64 (3 + ↑m) := hE { on := 6, ground := Ground.data } (by simp) rfl
              have i2 : (3 : Int) ≤ 3 + ↑m := by omega
              have i3 : 3 + (↑m : Int) ≤ ↑c := by omega
              have i4 : (3 + (↑m : Int)).toNat = 3 + m := by omega
              have i5 : ¬ c = 3 := by omega
              have i6 : 0 ≤ 3 + (↑m : Int) := by omega
              go_simp
              have hh := hK.out (.slice (some ⟨b, o + 3, none⟩) m (c - 3)) wq rfl (Below.refl _ _) hC
              simp only [upd, Nat.reduceEqDiff, ↓reduceIte, d4, d6] at hh
              exact hh
            | 8, ho =>
              obtain rfl := Option.some.inj (show some _ = some o from ho)
              intro vs wq hC hE K hK
              obtain d3 : vs 3 = .int .i64 x2 := hE { on := 3, ground := Ground.data } (by simp) rfl
              obtain d7 : vs 7 = .slice (some ⟨b, o + 3, none⟩) m (c - 3) := hE { on := 7, ground := Ground.data } (by simp) rfl
              go_simp
              go_at_call 6
              refine (PP.out wq hC).mono ?_
              rintro e w3 ⟨⟨v, rfl, hown⟩, hb3⟩
              have hh := hK.out (.tuple #[v, .int .i64 PE]) w3 ⟨v, rfl, own_down hown hC.size⟩ hb3 (hC.trans (hb3.mono hC.size))
              simp only [upd, Nat.reduceEqDiff, ↓reduceIte, d3, d7] at hh
              exact hh
            | 9, ho =>
              obtain rfl := Option.some.inj (show some _ = some o from ho)
              intro vs wq hC hE K hK
              obtain ⟨v, d8, hown⟩ : ∃ v, vs 8 = .tuple #[v, .int .i64 PE] ∧ wq.ownsRow w.heap.size 5 1 v (fpB x2 (fsP ys)).length (by8 (fpB x2 (fsP ys))) := hE { on := 8, ground := Ground.data } (by simp) rfl
              go_simp
              have hh := hK.out (.tuple #[v, .int .i64 PE]) wq ⟨v, rfl, hown⟩ (Below.refl _ _) hC
              simp only [upd, Nat.reduceEqDiff, ↓reduceIte, d8] at hh
              exact hh
            | 10, ho =>
              obtain rfl := Option.some.inj (show some _ = some o from ho)
              intro vs wq hC hE K hK
              obtain ⟨v, d9, hown⟩ : ∃ v, vs 9 = .tuple #[v, .int .i64 PE] ∧ wq.ownsRow w.heap.size 5 1 v (fpB x2 (fsP ys)).length (by8 (fpB x2 (fsP ys))) := hE { on := 9, ground := Ground.data } (by simp) rfl
              go_simp
              have hh := hK.out (v) wq hown (Below.refl _ _) hC
              simp only [upd, Nat.reduceEqDiff, ↓reduceIte, d9] at hh
              exact hh
            | 11, ho =>
              obtain rfl := Option.some.inj (show some _ = some o from ho)
              intro vs wq hC hE K hK
              obtain ⟨v, d9, hown⟩ : ∃ v, vs 9 = .tuple #[v, .int .i64 PE] ∧ wq.ownsRow w.heap.size 5 1 v (fpB x2 (fsP ys)).length (by8 (fpB x2 (fsP ys))) := hE { on := 9, ground := Ground.data } (by simp) rfl
              go_simp
              have hh := hK.out (.int .i64 PE) wq rfl (Below.refl _ _) hC
              simp only [upd, Nat.reduceEqDiff, ↓reduceIte, d9] at hh
              exact hh
            | 12, ho =>
              obtain rfl := Option.some.inj (show some _ = some o from ho)
              intro vs wq hC hE K hK
              obtain hown : wq.ownsRow w.heap.size 5 1 (vs 10) (fpB x2 (fsP ys)).length (by8 (fpB x2 (fsP ys))) := hE { on := 10, ground := Ground.data } (by simp) rfl
              go_simp
              have hh := hK.out (vs 10) wq hown (Below.refl _ _) hC
              simp only [upd, Nat.reduceEqDiff, ↓reduceIte] at hh
              exact hh
            | 13, ho =>
              obtain rfl := Option.some.inj (show some _ = some o from ho)
              intro vs wq hC hE K hK
              obtain d11 : vs 11 = .int .i64 PE := hE { on := 11, ground := Ground.data } (by simp) rfl
              go_simp
              have hh := hK.out (.int .i64 PE) wq rfl (Below.refl _ _) hC
              simp only [upd, Nat.reduceEqDiff, ↓reduceIte, d11] at hh
              exact hh
            | (_ + 14), ho => exact absurd ho (by simp)
          case hend =>
            intro vs wq hC hE
            have hW := hE 12 (by decide)
            have r13 : vs 13 = .int .i64 PE := hE 13 (by decide)
            simp only at hW
            by_cases hk : 1 ≤ x2 ∧ x2 ≤ 3
            · obtain rfl : PE = 0 := HPE.out.symm.trans (fpE_ok (by omega) (by omega))
              have EB := fpB_ok (k := x2) (zs := fsP ys) (by rw [HPL.out]; exact HPE.out)
              have HL8 : (frB x2 (fsP ys)).length = m + 7 := by rw [frB_len, HPL.out]
              rw [EB, HL8] at hW
              obtain ⟨A3, c3, r12, hR, -⟩ := own_rw hW
              rw [r12] at hW
              have PH := hid (HasPrefix_any (c' := c3) (HS.out.below hC) hR.1 HB.out (frB_bytes (by omega) (by rw [HPL.out]; omega) HPB.out))
              have HW := hid hW
              have H8 := hid HL8
              clear hW hR EB HL8
              by_cases he : ys.take (m + 7) = frB x2 (fsP ys)
              · have E := hid (fi_yes (ys := ys) (by rw [← HL.out]; exact h7) (by rw [HM.out]; exact hm2) (by rw [← HL.out, HM.out]; exact hm3) (by rw [HX.out]; exact hk) (by rw [HX.out, HM.out, ← he]; congr 1; omega))
                have EF := hid (show fiB ys = frB x2 (fsP ys) by unfold fiB; rw [if_pos E.out, HM.out, ← he]; congr 1; omega)
                rw [decide_eq_true he] at PH
                clear he
                go_wp2_with fail
                refine PH.out.mono ?_
                rintro e w5 ⟨rfl, rfl⟩
                go_wp2_with fail
                go_ret2
                exact ⟨⟨_, by rw [E.out]; rfl, by rw [EF.out, H8.out]; exact HW.out⟩, hC⟩
              · have E := hid (fi_no (ys := ys) (by rw [← HL.out]; exact h7) (by rw [HM.out]; exact hm2) (by rw [← HL.out, HM.out]; exact hm3) (fun h => he (by rw [← HX.out, h.2, HM.out]; congr 1; omega)))
                rw [decide_eq_false he] at PH
                clear he
                go_wp2_with fail
                refine PH.out.mono ?_
                rintro e w5 ⟨rfl, rfl⟩
                go_wp2_with fail
                go_ret2
                exact FFirst.none E.out (by decide) hC
            · obtain rfl : PE = 2 := HPE.out.symm.trans (fpE_kind (by omega))
              have E := hid (fi_no (ys := ys) (by rw [← HL.out]; exact h7) (by rw [HM.out]; exact hm2) (by rw [← HL.out, HM.out]; exact hm3) (fun h => hk (by rw [← HX.out]; exact h.1)))
              clear hW
              go_wp2_with fail
              go_ret2
              exact FFirst.none E.out (by decide) hC
          -- endr10
end Go.Proofs.Ytdkioecokpgcnaa
