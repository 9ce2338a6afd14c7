/- Contracts of layer 4 (crc) and of its reference: bytes that are opened. -/
import Derived.Test.YtdoehcecpfadbaaCrc3
import Derived.Test.YtdoehcecpfadbaaEnv
namespace Go.Proofs.Ytdoehcecpfadbaa
open Go.ChangeShapes Go.WideShapes Go.ChangeAt Go.RowKit Fb

theorem Equal_any {A A' : Option Addr} {n n' c c' B B' : Nat} {zs zs' : List Int} {w : World} (hS : Sl w B A n (by8 zs)) (hS' : Sl w B' A' n' (by8 zs')) (hb : Bytes zs) (hb' : Bytes zs') :
    Calls Try.prog 19 #[.slice A n c, .slice A' n' c'] w fun e w' => e = .returned (.bool (decide (zs = zs'))) ∧ w = w' := by
  have k1 := conv8 c hS
  have k2 := conv8 c' hS'
  have he := str_eq hb hb'
  clear hS hS'
  go_enter Try.func19, Try.ntmps19
  go_wp2
  go_ret
  exact ⟨rfl, rfl⟩
/-- bytes of which all but the last four are m: if they are sealed they are opened -/
def OpensP (T : List Nat) (zs : List Int) (m : Nat) (e : Ending) (w' : World) : Prop :=
  if sealed T (zs.take m) = zs then ∃ A' c', e = .returned (.tuple #[.slice A' m c', .int .i64 0]) ∧ Sl w' w'.heap.size A' m (by8 (zs.take m)) else e = .returned (.tuple #[.slice none 0 0, .int .i64 12])
set_option maxHeartbeats 2000000 in
set_option maxRecDepth 100000 in
theorem Open_short {T : List Nat} {A : Option Addr} {n c : Nat} (hn : n < 4) (w : World) :
    Calls Try.prog 14 #[.agg (c32 T), .slice A n c] w fun e w' => e = .returned (.tuple #[.slice none 0 0, .int .i64 10]) ∧ Below w.heap.size w w' := by
  go_enter Try.func14, Try.ntmps14
  go_wp2
  go_ret2
  exact ⟨rfl, (Below.refl _ _).alloc (Nat.le_refl _) _⟩
set_option maxHeartbeats 2000000 in
set_option maxRecDepth 100000 in
theorem Open_any {T : List Nat} (hT : Tb T) {A : Option Addr} {n c : Nat} {zs : List Int} {w : World} (hS : Sl w w.heap.size A n (by8 zs)) (hb : Bytes zs) (hnil : A = none → c = 0) (hn : n ≤ 1000000) (hc : n ≤ c) (hcm : c ≤ maxLen) (h4 : 4 ≤ n) :
    Calls Try.prog 14 #[.agg (c32 T), .slice A n c] w fun e w' =>
      OpensP T zs (n - 4) e w' ∧ Below w.heap.size w w' := by
  have hl : n = zs.length := by have := hS.len; rw [by8_len] at this; exact this.symm
  obtain ⟨m, rfl⟩ : ∃ m, n = m + 4 := ⟨n - 4, by omega⟩
  have hm : m + 4 - 4 = m := by omega
  rw [hm]
  have hmc : m ≤ c := by omega
  unfold maxLen at hcm
  have hbA : Below w.heap.size w (w.alloc (.cells (c32 T) 23)) := (Below.refl _ _).alloc (Nat.le_refl _) _
  have PS := hid (fun (w' : World) (h : Below w.heap.size w w') => Seal_any hT (c := c) (n := m) (zs := zs.take m) (by have h1 := hS.below h; have h2 := h1.take (k := m) (by omega); rw [by8, ← List.map_take] at h2; exact h2) h.size (fun x hx => hb x (List.mem_of_mem_take hx)) hnil (by omega))
  have HQ := hid (show (sealed T (zs.take m)).length = m + 4 by rw [sealed_len, List.length_take]; omega)
  have Hs := hid (show (Try.prog.info? 23).map (·.size) = some (c32 T).size by rw [c32_size, hT.1]; exact t256_size)
  have HL := hid hl
  clear hm hl hnil
  go_enter Try.func14, Try.ntmps14
  go_wp2_with fail
  refine wp_region_env (A := fun vs => { tmps := #[Value.agg (c32 T), Value.slice A (m + 4) c, Value.pointer (some { block := w.heap.size, off := 0 }), undef, Value.slice none 0 0, Value.int IntKind.i64 0, Value.int IntKind.i64 ↑m, vs 5, Value.slice A (m + 4) c, Value.int IntKind.i64 (↑m + 4), Value.bool (decide ((↑m + 4 : Int) < 4)), Value.slice A (m + 4) c, Value.int IntKind.i64 (↑m + 4), Value.int IntKind.i64 ↑m, vs 0, vs 1, vs 2, vs 3, vs 4, undef, undef, undef, undef, undef, undef, undef], defers := [] }) (E := fun i yv wq => match i with | 0 => yv = .agg (c32 T) | 1 => yv = .slice A (m + 4) c | 2 => yv = .int .i64 ↑m | 3 => yv = .slice A m c | 4 => ∃ A3 c3, yv = .slice A3 (m + 4) c3 ∧ Rw wq A3 (m + 4) c3 (sealed T (zs.take m)) | 5 => ∃ A3 c3, yv = .slice A3 (m + 4) c3 ∧ Rw wq A3 (m + 4) c3 (sealed T (zs.take m)) | _ => True) (C := fun wq => Below (w.alloc (.cells (c32 T) 23)).heap.size (w.alloc (.cells (c32 T) 23)) wq) (Ext := fun a b => Below a.heap.size a b) (fun _ => undef) (by kernel_rfl) (by rfl) ?hC ?hstep ?hstab (low_of (by kernel_rfl)) ?hend
  case hC => exact Below.drew (Below.refl _ _)
  case hstab =>
    intro i yv wa wb hx h
    match i, h with
    | 0, h => exact h
    | 1, h => exact h
    | 2, h => exact h
    | 3, h => exact h
    | 4, h => exact (by obtain ⟨A3, c3, h1, h2⟩ := h; exact ⟨A3, c3, h1, h2.below hx⟩)
    | 5, h => exact (by obtain ⟨A3, c3, h1, h2⟩ := h; exact ⟨A3, c3, h1, h2.below hx⟩)
    | (_ + 6), _ => trivial
  case hstep =>
    intro i o ho
    match i, ho with
    | 0, ho =>
      obtain rfl := Option.some.inj (show some _ = some o from ho)
      intro vs wq hC hE K hK
      rw [if_pos (by rfl)]
      refine wp_load_row 23 (.tmp 2) rfl w.heap.size rfl 23 _ (0, 0) _ ((hC.block w.heap.size (by simp)).trans (heap_alloc_new w _)) Try.underlying23 rfl Hs.out ?_
      have hh := hK.out (.agg (c32 T)) wq rfl (Below.refl _ _) hC
      simp only [upd, Nat.reduceEqDiff, ↓reduceIte] at hh
      exact hh
    | 1, ho =>
      obtain rfl := Option.some.inj (show some _ = some o from ho)
      intro vs wq hC hE K hK
      go_simp
      have hh := hK.out (.slice A (m + 4) c) wq rfl (Below.refl _ _) hC
      simp only [upd, Nat.reduceEqDiff, ↓reduceIte] at hh
      exact hh
    | 2, ho =>
      obtain rfl := Option.some.inj (show some _ = some o from ho)
      intro vs wq hC hE K hK
      go_simp
      have hh := hK.out (.int .i64 ↑m) wq rfl (Below.refl _ _) hC
      simp only [upd, Nat.reduceEqDiff, ↓reduceIte] at hh
      exact hh
    | 3, ho =>
      obtain rfl := Option.some.inj (show some _ = some o from ho)
      intro vs wq hC hE K hK
      obtain d1 : vs 1 = .slice A (m + 4) c := hE { on := 1, ground := Ground.data } (by simp) rfl
      obtain d2 : vs 2 = .int .i64 ↑m := hE { on := 2, ground := Ground.data } (by simp) rfl
      go_simp
      have hh := hK.out (.slice A m c) wq rfl (Below.refl _ _) hC
      simp only [upd, Nat.reduceEqDiff, ↓reduceIte, d1, d2] at hh
      exact hh
    | 4, ho =>
      obtain rfl := Option.some.inj (show some _ = some o from ho)
      intro vs wq hC hE K hK
      obtain d0 : vs 0 = .agg (c32 T) := hE { on := 0, ground := Ground.data } (by simp) rfl
      obtain d3 : vs 3 = .slice A m c := hE { on := 3, ground := Ground.data } (by simp) rfl
      go_simp
      go_at_call 10
      refine (PS.out _ (hbA.trans (hC.mono hbA.size))).mono ?_
      rintro e w3 ⟨⟨v', rfl, hown⟩, hb3⟩
      rw [HQ.out] at hown
      obtain ⟨A3, c3, rfl, hR, -⟩ := own_rw hown
      have hh := hK.out (.slice A3 (m + 4) c3) w3 ⟨A3, c3, rfl, hR⟩ hb3 (hC.trans (hb3.mono hC.size))
      simp only [upd, Nat.reduceEqDiff, ↓reduceIte, d0, d3] at hh
      exact hh
    | 5, ho =>
      obtain rfl := Option.some.inj (show some _ = some o from ho)
      intro vs wq hC hE K hK
      obtain ⟨A3, c3, d4, hR⟩ : ∃ A3 c3, vs 4 = .slice A3 (m + 4) c3 ∧ Rw wq A3 (m + 4) c3 (sealed T (zs.take m)) := hE { on := 4, ground := Ground.data } (by simp) rfl
      go_simp
      have hh := hK.out (.slice A3 (m + 4) c3) wq ⟨A3, c3, rfl, hR⟩ (Below.refl _ _) hC
      simp only [upd, Nat.reduceEqDiff, ↓reduceIte, d4] at hh
      exact hh
    | (_ + 6), ho => exact absurd ho (by simp)
  case hend =>
    intro vs wq hC hE
    obtain ⟨A3, c3, r, hR⟩ := hE 5 (by decide)
    have hbq : Below w.heap.size w wq := hbA.trans (hC.mono hbA.size)
    have PE := hid (Equal_any (c := c3) (c' := c) hR.1 (hS.below hbq) (sealed_bytes T (fun x hx => hb x (List.mem_of_mem_take hx))) hb)
    have hmc3 : m ≤ c3 := by have := hR.2.1; omega
    have hcm3 : c3 ≤ 9223372036854775807 := by have := hR.2.2.1; unfold maxLen at this; omega
    have hST := hid (hR.1.take (k := m) (by omega))
    clear hR
    by_cases he : sealed T (zs.take m) = zs
    · rw [decide_eq_true he] at PE
      have HT := hid (show (by8 (sealed T (zs.take m))).take m = by8 (zs.take m) by rw [he, by8, by8, List.map_take])
      have HE := hid he
      clear he
      go_wp2_with fail
      refine PE.out.mono ?_
      rintro e w5 ⟨rfl, rfl⟩
      go_wp2_with fail
      go_ret2
      refine ⟨?_, hbq⟩
      unfold OpensP
      rw [if_pos HE.out]
      exact ⟨A3, c3, rfl, by rw [← HT.out]; exact hST.out⟩
    · rw [decide_eq_false he] at PE
      have HE := hid he
      clear he
      go_wp2_with fail
      refine PE.out.mono ?_
      rintro e w5 ⟨rfl, rfl⟩
      go_wp2_with fail
      go_ret2
      refine ⟨?_, hbq⟩
      unfold OpensP
      rw [if_neg HE.out]
      rfl
end Go.Proofs.Ytdoehcecpfadbaa
