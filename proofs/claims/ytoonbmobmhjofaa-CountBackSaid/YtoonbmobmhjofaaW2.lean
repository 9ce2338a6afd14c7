/- Contracts of layer 1, second part: Total; awake. -/
import Derived.Test.YtoonbmobmhjofaaW1
import Derived.Test.YtoonbmobmhjofaaLib
namespace Go.Proofs.Ytoonbmobmhjofaa
open Go.ChangeShapes Go.WideShapes Go.ChangeAt Go.RowKit Fb

def ints (l : List Int) : List Value := l.map (Value.int .i64)
def totI (l : List Int) : Int := l.foldl upI 0
theorem totI_snoc (l : List Int) (k : Nat) (h : k < l.length) : totI (l.take (k + 1)) = upI (totI (l.take k)) l[k] := by
  unfold totI
  rw [List.take_succ_eq_append_getElem h, List.foldl_append]; rfl

set_option maxHeartbeats 400000 in
theorem Total_any (l : List Int) (A : Option Addr) (B c : Nat) (w : World) (h : Sl w B A l.length (ints l)) (hm : l.length ≤ 9223372036854775807) :
    Calls Try.prog 13 #[.slice A l.length c] w fun e w' => e = .returned (.int .i64 (totI l)) ∧ w = w' := by
  go_enter Try.func13, Try.ntmps13
  go_wp2
  go_loop [3, 8] (fun s i => ∃ k : Nat, k ≤ l.length ∧ i = .int .i64 k ∧ s = .int .i64 (totI (l.take k))) (fun _ i => l.length - (intOf i).toNat)
  case atStart => exact ⟨0, Nat.zero_le _, rfl, rfl⟩
  case round =>
    obtain ⟨k, hk, rfl, rfl⟩ := hrel
    by_cases hlt : k < l.length
    · obtain ⟨b, o, u, hA, -, hu, hc⟩ := h.get hlt
      have hu' : u = .int .i64 l[k] := by
        unfold ints at hu; simp [List.getElem?_map, List.getElem?_eq_getElem hlt] at hu; exact hu.symm
      subst hu' hA
      have hs := hid (totI_snoc l k hlt)
      go_wp2_with (go_at_call 10; refine (Up_any _ _ _).mono ?_; rintro e w' ⟨rfl, rfl⟩)
      go_round
      case rel => exact ⟨k + 1, by omega, by go_num, by rw [hs.out]⟩
      case measure => simp [intOf]; omega
    · go_wp2
      go_ret
      exact ⟨ret_int (by rw [List.take_of_length_le (by omega)]), rfl⟩

set_option maxHeartbeats 400000 in
theorem awake_any (w : World) :
    Calls Try.prog 6 #[] w fun e w' => e = .returned (.bool true) ∧ Below w.heap.size w w' := by
  have e1 : holdI 7 = 7 := by decide +kernel
  have e2 : upI 1099511627776 5 = 1099511627776 := by decide +kernel
  have e3 : downI 9 5 = 4 := by decide +kernel
  have e4 : totI [1, 2, 3] = 6 := by decide +kernel
  go_enter Try.func6, Try.ntmps6
  go_wp2_with (first
    | (go_at_call 8; refine (Hold_any _ _).mono ?_; rintro e w' ⟨rfl, rfl⟩)
    | (go_at_call 10; refine (Up_any _ _ _).mono ?_; rintro e w' ⟨rfl, rfl⟩)
    | (go_at_call 11; refine (Down_any _ _ _).mono ?_; rintro e w' ⟨rfl, rfl⟩)
    | (go_at_call 13; refine (Total_any [1, 2, 3] _ _ _ _ (Sl.fresh (B := w.heap.size + 1) w #[.int .i64 1, .int .i64 2, .int .i64 3] 2 (by omega)) (by simp)).mono ?_; rintro e w' ⟨rfl, rfl⟩))
  go_ret
  exact ⟨rfl, (Below.refl _ _).alloc (Nat.le_refl _) _⟩
end Go.Proofs.Ytoonbmobmhjofaa
