/- Contracts of layer 3 (wire) and of its reference: signed numbers that are read. -/
import Derived.Test.YtacdkifoiaacdaaWire4
namespace Go.Proofs.Ytacdkifoiaacdaa
open Go.ChangeShapes Go.WideShapes Go.ChangeAt Go.RowKit Fb

set_option maxHeartbeats 4000000 in
set_option maxRecDepth 100000 in
theorem Int_any {A : Option Addr} {n c : Nat} {p er p' e' : Int} {v : Nat} {zs : List Int} {w : World} (hu : uintS zs p er = (p', e', v)) (hS : Sl w w.heap.size A n (by8 zs)) (hb : Bytes zs) (hn : n ≤ 100000) (hc : n ≤ c) (hcm : c ≤ maxLen) :
    Calls Try.prog 19 #[.agg #[.slice A n c, .int .i64 p, .int .i64 er]] w fun e w' => e = .returned (.tuple #[.agg #[.slice A n c, .int .i64 p', .int .i64 e'], .int .i64 (zag v)]) ∧ Below w.heap.size w w' := by
  have hv := uS_lt hb hu
  have hUI : ∀ w', Below w.heap.size w w' → Calls Try.prog 17 #[.agg #[.slice A n c, .int .i64 p, .int .i64 er]] w' fun e w'' => e = .returned (.tuple #[.agg #[.slice A n c, .int .i64 p', .int .i64 e'], .int .u64 v]) ∧ Below w'.heap.size w' w'' := fun w' hbel => Uint_any hu ((hS.below hbel).up hbel.size) hb hn hc hcm
  have UI := hid hUI
  clear hUI hu hS hb hcm
  by_cases hodd : v % 2 = 1
  · have hz : zag v = -((v / 2 : Nat) : Int) - 1 := by unfold zag; rw [if_pos hodd]
    have ho : (v : Int) % 2 = 1 := by omega
    obtain ⟨d, hd⟩ : ∃ d : Nat, v / 2 = d := ⟨_, rfl⟩
    have hd2 : (v : Int) / 2 = (d : Int) := by omega
    have hdl : d ≤ 9223372036854775807 := by omega
    have ht := i64_turn (d : Int) (by omega) (by omega)
    rw [hz, hd]
    clear hz hd hodd hv
    go_enter Try.func19, Try.ntmps19
    go_wp2_with fail
    with_reducible refine (UI.out _ (((Below.refl _ _).alloc (Nat.le_refl _) _).alloc (by simp) _)).mono ?_
    rintro e w1 ⟨rfl, hbel⟩
    obtain ⟨k1, k2⟩ := kept2 hbel
    obtain ⟨c0, c1, c2, f0, f1, f2⟩ := blk3 k1
    obtain ⟨d0, d1, d2, g0, g1, g2⟩ := blk3 k2
    clear k1 k2
    go_wp2_with fail
    refine bodyPost_ret (v := .tuple #[.agg #[.slice A n c, .int .i64 p', .int .i64 e'], .int .i64 (-↑d - 1)]) (by simp [results, Try.results19, go_sem, c0, c1, c2, d0, d1, d2]) rfl ⟨rfl, ?_⟩
    have hsz := hbel.size
    simp only [World.size_alloc] at hsz
    repeat (first | refine Below.setCell ?_ (by first | (simp; done) | (simp; omega)) _ | refine Below.alloc ?_ (by omega) _)
    refine Below.trans ?_ (hbel.mono (by simp; omega))
    exact ((Below.refl _ _).alloc (Nat.le_refl _) _).alloc (by simp) _
  · have hz : zag v = ((v / 2 : Nat) : Int) := by unfold zag; rw [if_neg hodd]
    have ho : (v : Int) % 2 = 0 := by omega
    obtain ⟨d, hd⟩ : ∃ d : Nat, v / 2 = d := ⟨_, rfl⟩
    have hd2 : (v : Int) / 2 = (d : Int) := by omega
    have hdl : d ≤ 9223372036854775807 := by omega
    rw [hz, hd]
    clear hz hd hodd hv
    go_enter Try.func19, Try.ntmps19
    go_wp2_with fail
    with_reducible refine (UI.out _ (((Below.refl _ _).alloc (Nat.le_refl _) _).alloc (by simp) _)).mono ?_
    rintro e w1 ⟨rfl, hbel⟩
    obtain ⟨k1, k2⟩ := kept2 hbel
    obtain ⟨c0, c1, c2, f0, f1, f2⟩ := blk3 k1
    obtain ⟨d0, d1, d2, g0, g1, g2⟩ := blk3 k2
    clear k1 k2
    go_wp2_with fail
    refine bodyPost_ret (v := .tuple #[.agg #[.slice A n c, .int .i64 p', .int .i64 e'], .int .i64 (↑d)]) (by simp [results, Try.results19, go_sem, c0, c1, c2, d0, d1, d2]) rfl ⟨rfl, ?_⟩
    have hsz := hbel.size
    simp only [World.size_alloc] at hsz
    repeat (first | refine Below.setCell ?_ (by first | (simp; done) | (simp; omega)) _ | refine Below.alloc ?_ (by omega) _)
    refine Below.trans ?_ (hbel.mono (by simp; omega))
    exact ((Below.refl _ _).alloc (Nat.le_refl _) _).alloc (by simp) _
set_option maxHeartbeats 4000000 in
set_option maxRecDepth 100000 in
theorem RInt_any {A : Option Addr} {n c : Nat} {p er p' e' : Int} {v : Nat} {zs : List Int} {w : World} (hu : uintS zs p er = (p', e', v)) (hS : Sl w w.heap.size A n (by8 zs)) (hb : Bytes zs) (hn : n ≤ 100000) (hc : n ≤ c) (hcm : c ≤ maxLen) :
    Calls Try.prog 20 #[.agg #[.slice A n c, .int .i64 p, .int .i64 er]] w fun e w' => e = .returned (.tuple #[.agg #[.slice A n c, .int .i64 p', .int .i64 e'], .int .i64 (zag v)]) ∧ Below w.heap.size w w' := by
  have hv := uS_lt hb hu
  have hUI : ∀ w', Below w.heap.size w w' → Calls Try.prog 18 #[.agg #[.slice A n c, .int .i64 p, .int .i64 er]] w' fun e w'' => e = .returned (.tuple #[.agg #[.slice A n c, .int .i64 p', .int .i64 e'], .int .u64 v]) ∧ Below w'.heap.size w' w'' := fun w' hbel => RUint_any hu ((hS.below hbel).up hbel.size) hb hn hc hcm
  have UI := hid hUI
  clear hUI hu hS hb hcm
  by_cases hodd : v % 2 = 1
  · have hz : zag v = -((v / 2 : Nat) : Int) - 1 := by unfold zag; rw [if_pos hodd]
    have ho : (v : Int) % 2 = 1 := by omega
    obtain ⟨d, hd⟩ : ∃ d : Nat, v / 2 = d := ⟨_, rfl⟩
    have hd2 : (v : Int) / 2 = (d : Int) := by omega
    have hdl : d ≤ 9223372036854775807 := by omega
    have ht := i64_turn (d : Int) (by omega) (by omega)
    rw [hz, hd]
    clear hz hd hodd hv
    go_enter Try.func20, Try.ntmps20
    go_wp2_with fail
    with_reducible refine (UI.out _ (((Below.refl _ _).alloc (Nat.le_refl _) _).alloc (by simp) _)).mono ?_
    rintro e w1 ⟨rfl, hbel⟩
    obtain ⟨k1, k2⟩ := kept2 hbel
    obtain ⟨c0, c1, c2, f0, f1, f2⟩ := blk3 k1
    obtain ⟨d0, d1, d2, g0, g1, g2⟩ := blk3 k2
    clear k1 k2
    have hz1 : w.heap.size + 1 < w1.heap.size := by have := hbel.size; simp at this; omega
    have hz0 : w.heap.size < w1.heap.size := by omega
    go_wp2_with fail
    refine bodyPost_ret (v := .tuple #[.agg #[.slice A n c, .int .i64 p', .int .i64 e'], .int .i64 (-↑d - 1)]) (by simp [results, Try.results20, go_sem, c0, c1, c2, d0, d1, d2, hz0, hz1]) rfl ⟨rfl, ?_⟩
    have hsz := hbel.size
    simp only [World.size_alloc] at hsz
    repeat (first | refine Below.setCell ?_ (by first | (simp; done) | (simp; omega)) _ | refine Below.alloc ?_ (by simp; omega) _)
    refine Below.trans ?_ (hbel.mono (by simp; omega))
    exact ((Below.refl _ _).alloc (Nat.le_refl _) _).alloc (by simp) _
  · have hz : zag v = ((v / 2 : Nat) : Int) := by unfold zag; rw [if_neg hodd]
    have ho : (v : Int) % 2 = 0 := by omega
    obtain ⟨d, hd⟩ : ∃ d : Nat, v / 2 = d := ⟨_, rfl⟩
    have hd2 : (v : Int) / 2 = (d : Int) := by omega
    have hdl : d ≤ 9223372036854775807 := by omega
    rw [hz, hd]
    clear hz hd hodd hv
    go_enter Try.func20, Try.ntmps20
    go_wp2_with fail
    with_reducible refine (UI.out _ (((Below.refl _ _).alloc (Nat.le_refl _) _).alloc (by simp) _)).mono ?_
    rintro e w1 ⟨rfl, hbel⟩
    obtain ⟨k1, k2⟩ := kept2 hbel
    obtain ⟨c0, c1, c2, f0, f1, f2⟩ := blk3 k1
    obtain ⟨d0, d1, d2, g0, g1, g2⟩ := blk3 k2
    clear k1 k2
    have hz1 : w.heap.size + 1 < w1.heap.size := by have := hbel.size; simp at this; omega
    have hz0 : w.heap.size < w1.heap.size := by omega
    go_wp2_with fail
    refine bodyPost_ret (v := .tuple #[.agg #[.slice A n c, .int .i64 p', .int .i64 e'], .int .i64 (↑d)]) (by simp [results, Try.results20, go_sem, c0, c1, c2, d0, d1, d2, hz0, hz1]) rfl ⟨rfl, ?_⟩
    have hsz := hbel.size
    simp only [World.size_alloc] at hsz
    repeat (first | refine Below.setCell ?_ (by first | (simp; done) | (simp; omega)) _ | refine Below.alloc ?_ (by simp; omega) _)
    refine Below.trans ?_ (hbel.mono (by simp; omega))
    exact ((Below.refl _ _).alloc (Nat.le_refl _) _).alloc (by simp) _
end Go.Proofs.Ytacdkifoiaacdaa
