/- Contracts of layer 4's reference (crc): are bytes sealed. -/
import Derived.Test.YtdoehcecpfadbaaCrc4
namespace Go.Proofs.Ytdoehcecpfadbaa
open Go.ChangeShapes Go.WideShapes Go.ChangeAt Go.RowKit Fb

set_option maxHeartbeats 2000000 in
set_option maxRecDepth 100000 in
theorem Opens_any {A : Option Addr} {n c : Nat} {zs : List Int} {w : World} (hS : Sl w w.heap.size A n (by8 zs)) (hb : Bytes zs) (hnil : A = none → c = 0) (hn : n ≤ 1000000) (hc : n ≤ c) (hcm : c ≤ maxLen) (h4 : 4 ≤ n) :
    Calls Try.prog 15 #[.slice A n c] w fun e w' => e = .returned (.bool (decide (sealed tabN (zs.take (n - 4)) = zs))) ∧ Below w.heap.size w w' := by
  have hl : n = zs.length := by have := hS.len; rw [by8_len] at this; exact this.symm
  obtain ⟨m, rfl⟩ : ∃ m, n = m + 4 := ⟨n - 4, by omega⟩
  have hm : m + 4 - 4 = m := by omega
  rw [hm]
  have hmc : m ≤ c := by omega
  unfold maxLen at hcm
  have PS := hid (fun (w' : World) (h : Below w.heap.size w w') => RSeal_any (c := c) (n := m) (zs := zs.take m) (by have h1 := hS.below h; have h2 := h1.take (k := m) (by omega); rw [by8, ← List.map_take] at h2; exact h2) h.size (fun x hx => hb x (List.mem_of_mem_take hx)) hnil (by omega))
  have HQ := hid (show (sealed tabN (zs.take m)).length = m + 4 by rw [sealed_len, List.length_take]; omega)
  have HE := hid (str_eq (sealed_bytes tabN (zs := zs.take m) (fun x hx => hb x (List.mem_of_mem_take hx))) hb)
  generalize sealed tabN (zs.take m) = Z at *
  have HL := hid hl
  have g4 : (4 : Int) ≤ ↑m + 4 := by omega
  have hwm := hid (show IntKind.i64.wrap (m : Int) = m by simp [IntKind.wrap, IntKind.signed, IntKind.bits]; omega)
  clear hm hl hnil
  go_enter Try.func15, Try.ntmps15
  go_wp2_with fail
  refine wp_region_env (A := fun vs => { tmps := #[Value.slice A (m + 4) c, undef, vs 15, vs 0, vs 1, vs 2, vs 3, vs 4, vs 5, vs 6, vs 7, vs 8, vs 9, vs 10, vs 11, vs 12, vs 13, vs 14], defers := [] }) (E := fun i yv wq => match i with | 0 => yv = .slice A (m + 4) c | 1 => yv = .int .i64 (↑m + 4) | 2 => yv = .bool true | 3 => yv = .bool true | 4 => yv = .slice A (m + 4) c | 5 => yv = .slice A (m + 4) c | 6 => yv = .int .i64 (↑m + 4) | 7 => yv = .int .i64 ↑m | 8 => yv = .slice A m c | 9 => ∃ A3 c3, yv = .slice A3 (m + 4) c3 ∧ Rw wq A3 (m + 4) c3 Z | 10 => yv = .string (strOfNums Z) | 11 => yv = .slice A (m + 4) c | 12 => yv = .string (strOfNums zs) | 13 => yv = .bool (decide (Z = zs)) | 14 => yv = .bool (decide (Z = zs)) | 15 => yv = .bool (decide (Z = zs)) | _ => True) (C := fun wq => Below w.heap.size w wq) (Ext := fun a b => Below a.heap.size a b) (fun i => match i with | 0 => undef | 1 => undef | 2 => undef | 3 => undef | 4 => undef | 5 => undef | 6 => undef | 7 => undef | 8 => undef | 9 => undef | 10 => undef | 11 => undef | 12 => undef | 13 => undef | 14 => undef | 15 => Value.bool false | _ => undef) (by kernel_rfl) (by rfl) ?hC ?hstep ?hstab (low_of (by kernel_rfl)) ?hend
  case hC => exact Below.drew (Below.refl _ _)
  case hstab =>
    intro i yv wa wb hx h
    match i, h with
    | 0, h => exact h
    | 1, h => exact h
    | 2, h => exact h
    | 3, h => exact h
    | 4, h => exact h
    | 5, h => exact h
    | 6, h => exact h
    | 7, h => exact h
    | 8, h => exact h
    | 9, h => exact (by obtain ⟨A3, c3, h1, h2⟩ := h; exact ⟨A3, c3, h1, h2.below hx⟩)
    | 10, h => exact h
    | 11, h => exact h
    | 12, h => exact h
    | 13, h => exact h
    | 14, h => exact h
    | 15, h => exact h
    | (_ + 16), _ => trivial
  case hstep =>
    intro i o ho
    match i, ho with
    | 0, ho =>
      obtain rfl := Option.some.inj (show some _ = some o from ho)
      intro vs wq hC hE K hK
      go_simp
      have hh := hK.out (.slice A (m + 4) c) wq rfl (Below.refl _ _) hC
      simp only [upd, Nat.reduceEqDiff, ↓reduceIte] at hh
      exact hh
    | 1, ho =>
      obtain rfl := Option.some.inj (show some _ = some o from ho)
      intro vs wq hC hE K hK
      obtain d0 : vs 0 = .slice A (m + 4) c := hE { on := 0, ground := Ground.data } (by simp) rfl
      go_simp
      have hh := hK.out (.int .i64 (↑m + 4)) wq rfl (Below.refl _ _) hC
      simp only [upd, Nat.reduceEqDiff, ↓reduceIte, d0] at hh
      exact hh
    | 2, ho =>
      obtain rfl := Option.some.inj (show some _ = some o from ho)
      intro vs wq hC hE K hK
      obtain d1 : vs 1 = .int .i64 (↑m + 4) := hE { on := 1, ground := Ground.data } (by simp) rfl
      go_simp
      have hh := hK.out (.bool true) wq rfl (Below.refl _ _) hC
      simp only [upd, Nat.reduceEqDiff, ↓reduceIte, d1] at hh
      exact hh
    | 3, ho =>
      obtain rfl := Option.some.inj (show some _ = some o from ho)
      intro vs wq hC hE K hK
      obtain d2 : vs 2 = .bool true := hE { on := 2, ground := Ground.data } (by simp) rfl
      go_simp
      have hh := hK.out (.bool true) wq rfl (Below.refl _ _) hC
      simp only [upd, Nat.reduceEqDiff, ↓reduceIte, d2] at hh
      exact hh
    | 4, ho =>
      obtain rfl := Option.some.inj (show some _ = some o from ho)
      intro vs wq hC hE K hK
      obtain d3 : vs 3 = .bool true := hE { on := 3, ground := Ground.guard } (by simp) rfl
      go_simp
      have hh := hK.out (.slice A (m + 4) c) wq rfl (Below.refl _ _) hC
      simp only [upd, Nat.reduceEqDiff, ↓reduceIte, d3] at hh
      exact hh
    | 5, ho =>
      obtain rfl := Option.some.inj (show some _ = some o from ho)
      intro vs wq hC hE K hK
      obtain d3 : vs 3 = .bool true := hE { on := 3, ground := Ground.guard } (by simp) rfl
      go_simp
      have hh := hK.out (.slice A (m + 4) c) wq rfl (Below.refl _ _) hC
      simp only [upd, Nat.reduceEqDiff, ↓reduceIte, d3] at hh
      exact hh
    | 6, ho =>
      obtain rfl := Option.some.inj (show some _ = some o from ho)
      intro vs wq hC hE K hK
      obtain d5 : vs 5 = .slice A (m + 4) c := hE { on := 5, ground := Ground.data } (by simp) rfl
      obtain d3 : vs 3 = .bool true := hE { on := 3, ground := Ground.guard } (by simp) rfl
      go_simp
      have hh := hK.out (.int .i64 (↑m + 4)) wq rfl (Below.refl _ _) hC
      simp only [upd, Nat.reduceEqDiff, ↓reduceIte, d3, d5] at hh
      exact hh
    | 7, ho =>
      obtain rfl := Option.some.inj (show some _ = some o from ho)
      intro vs wq hC hE K hK
      obtain d6 : vs 6 = .int .i64 (↑m + 4) := hE { on := 6, ground := Ground.data } (by simp) rfl
      obtain d3 : vs 3 = .bool true := hE { on := 3, ground := Ground.guard } (by simp) rfl
      have h7 := hwm.out
      go_simp
      have hh := hK.out (.int .i64 ↑m) wq rfl (Below.refl _ _) hC
      simp only [upd, Nat.reduceEqDiff, ↓reduceIte, d3, d6] at hh
      exact hh
    | 8, ho =>
      obtain rfl := Option.some.inj (show some _ = some o from ho)
      intro vs wq hC hE K hK
      obtain d4 : vs 4 = .slice A (m + 4) c := hE { on := 4, ground := Ground.data } (by simp) rfl
      obtain d7 : vs 7 = .int .i64 ↑m := hE { on := 7, ground := Ground.data } (by simp) rfl
      obtain d3 : vs 3 = .bool true := hE { on := 3, ground := Ground.guard } (by simp) rfl
      go_simp
      have hh := hK.out (.slice A m c) wq rfl (Below.refl _ _) hC
      simp only [upd, Nat.reduceEqDiff, ↓reduceIte, d3, d4, d7] at hh
      exact hh
    | 9, ho =>
      obtain rfl := Option.some.inj (show some _ = some o from ho)
      intro vs wq hC hE K hK
      obtain d8 : vs 8 = .slice A m c := hE { on := 8, ground := Ground.data } (by simp) rfl
      obtain d3 : vs 3 = .bool true := hE { on := 3, ground := Ground.guard } (by simp) rfl
      go_simp
      go_at_call 20
      refine (PS.out _ hC).mono ?_
      rintro e w3 ⟨⟨v', rfl, hown⟩, hb3⟩
      rw [HQ.out] at hown
      obtain ⟨A3, c3, rfl, hR, -⟩ := own_rw hown
      have hh := hK.out (.slice A3 (m + 4) c3) w3 ⟨A3, c3, rfl, hR⟩ hb3 (hC.trans (hb3.mono hC.size))
      simp only [upd, Nat.reduceEqDiff, ↓reduceIte, d3, d8] at hh
      exact hh
    | 10, ho =>
      obtain rfl := Option.some.inj (show some _ = some o from ho)
      intro vs wq hC hE K hK
      obtain ⟨A3, c3, d9, hR⟩ : ∃ A3 c3, vs 9 = .slice A3 (m + 4) c3 ∧ Rw wq A3 (m + 4) c3 Z := hE { on := 9, ground := Ground.data } (by simp) rfl
      obtain d3 : vs 3 = .bool true := hE { on := 3, ground := Ground.guard } (by simp) rfl
      have cv := conv8 c3 hR.1
      go_simp
      have hh := hK.out (.string (strOfNums Z)) wq rfl (Below.refl _ _) hC
      simp only [upd, Nat.reduceEqDiff, ↓reduceIte, d3, d9] at hh
      exact hh
    | 11, ho =>
      obtain rfl := Option.some.inj (show some _ = some o from ho)
      intro vs wq hC hE K hK
      obtain d3 : vs 3 = .bool true := hE { on := 3, ground := Ground.guard } (by simp) rfl
      go_simp
      have hh := hK.out (.slice A (m + 4) c) wq rfl (Below.refl _ _) hC
      simp only [upd, Nat.reduceEqDiff, ↓reduceIte, d3] at hh
      exact hh
    | 12, ho =>
      obtain rfl := Option.some.inj (show some _ = some o from ho)
      intro vs wq hC hE K hK
      obtain d11 : vs 11 = .slice A (m + 4) c := hE { on := 11, ground := Ground.data } (by simp) rfl
      obtain d3 : vs 3 = .bool true := hE { on := 3, ground := Ground.guard } (by simp) rfl
      have cv := conv8 c (hS.below hC)
      go_simp
      have hh := hK.out (.string (strOfNums zs)) wq rfl (Below.refl _ _) hC
      simp only [upd, Nat.reduceEqDiff, ↓reduceIte, d3, d11] at hh
      exact hh
    | 13, ho =>
      obtain rfl := Option.some.inj (show some _ = some o from ho)
      intro vs wq hC hE K hK
      obtain d10 : vs 10 = .string (strOfNums Z) := hE { on := 10, ground := Ground.data } (by simp) rfl
      obtain d12 : vs 12 = .string (strOfNums zs) := hE { on := 12, ground := Ground.data } (by simp) rfl
      obtain d3 : vs 3 = .bool true := hE { on := 3, ground := Ground.guard } (by simp) rfl
      have he := HE.out
      go_simp
      have hh := hK.out (.bool (decide (Z = zs))) wq rfl (Below.refl _ _) hC
      simp only [upd, Nat.reduceEqDiff, ↓reduceIte, d3, d10, d12] at hh
      exact hh
    | 14, ho =>
      obtain rfl := Option.some.inj (show some _ = some o from ho)
      intro vs wq hC hE K hK
      obtain d3 : vs 3 = .bool true := hE { on := 3, ground := Ground.data } (by simp) rfl
      obtain d13 : vs 13 = .bool (decide (Z = zs)) := hE { on := 13, ground := Ground.data } (by simp) rfl
      go_simp
      have hh := hK.out (.bool (decide (Z = zs))) wq rfl (Below.refl _ _) hC
      simp only [upd, Nat.reduceEqDiff, ↓reduceIte, d3, d13] at hh
      exact hh
    | 15, ho =>
      obtain rfl := Option.some.inj (show some _ = some o from ho)
      intro vs wq hC hE K hK
      obtain d14 : vs 14 = .bool (decide (Z = zs)) := hE { on := 14, ground := Ground.data } (by simp) rfl
      go_simp
      have hh := hK.out (.bool (decide (Z = zs))) wq rfl (Below.refl _ _) hC
      simp only [upd, Nat.reduceEqDiff, ↓reduceIte, d14] at hh
      exact hh
    | (_ + 16), ho => exact absurd ho (by simp)
  case hend =>
    intro vs wq hC hE
    have r : vs 15 = _ := hE 15 (by decide)
    go_wp2_with fail
    go_ret
    exact ⟨congrArg Ending.returned r, hC⟩
end Go.Proofs.Ytdoehcecpfadbaa
