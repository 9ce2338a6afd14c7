/- The walk of CountTotal. -/
import Derived.Test.YtoonbmobmhjofaaCB
import Derived.BigQuiet
import Derived.OwnWalk
namespace Go.Proofs.Ytoonbmobmhjofaa
open Go.ChangeShapes Go.WideShapes Go.ChangeAt Go.RowKit Fb

theorem tot_nn (l : List Int) : 0 ≤ totI l := by
  unfold totI
  have : ∀ (l : List Int) (s : Int), 0 ≤ s → 0 ≤ l.foldl upI s := by
    intro l; induction l with
    | nil => intro s h; exact h
    | cons a l ih => intro s h; exact ih _ (up_lo _ _)
  exact this l 0 (by omega)
theorem tot_le (l : List Int) : totI l ≤ 1099511627776 := by
  unfold totI
  have : ∀ (l : List Int) (s : Int), s ≤ 1099511627776 → l.foldl upI s ≤ 1099511627776 := by
    intro l; induction l with
    | nil => intro s h; exact h
    | cons a l ih => intro s h; exact ih _ (up_hi _ _)
  exact this l 0 (by omega)
/-- the sum without an end -/
def sumI (l : List Int) : Int := (l.map holdI).sum
theorem sum_nn (l : List Int) : 0 ≤ sumI l := by
  induction l with
  | nil => simp [sumI]
  | cons a l ih => have := hold_lo a; simp only [sumI, List.map_cons, List.sum_cons] at *; omega
theorem fold_up (l : List Int) (s : Int) (h : 0 ≤ s) (h' : s ≤ 1099511627776) : l.foldl upI s = holdI (s + sumI l) := by
  induction l generalizing s with
  | nil => simp [sumI, hold_in _ h h']
  | cons a l ih =>
    rw [List.foldl_cons, ih _ (up_lo _ _) (up_hi _ _), up_min, hold_in _ h h']
    have := hold_lo a; have := sum_nn l
    have e : sumI (a :: l) = holdI a + sumI l := by simp [sumI]
    rw [e]
    generalize holdI a = x at *; generalize sumI l = y at *
    unfold holdI; split <;> omega
theorem tot_sum (l : List Int) : totI l = holdI (sumI l) := by unfold totI; rw [fold_up _ _ (by omega) (by omega)]; simp
theorem tot_rev (l : List Int) : totI l.reverse = totI l := by
  rw [tot_sum, tot_sum]; unfold sumI; congr 1
  rw [List.map_reverse, List.sum_reverse]
theorem tot_parts (l : List Int) (k : Nat) : upI (totI (l.take k)) (totI (l.drop k)) = totI l := by
  rw [tot_sum, tot_sum, tot_sum, up_min, hold_hold, hold_hold]
  have e : sumI l = sumI (l.take k) + sumI (l.drop k) := by
    unfold sumI; rw [← List.sum_append, ← List.map_append, List.take_append_drop]
  have := sum_nn (l.take k); have := sum_nn (l.drop k)
  rw [e]; unfold holdI; omega
theorem ints_take (l : List Int) (k : Nat) : (ints l).take k = ints (l.take k) := by simp [ints]
theorem ints_drop (l : List Int) (k : Nat) : (ints l).drop k = ints (l.drop k) := by simp [ints]

theorem Total_n (l : List Int) (n : Nat) (hn : l.length = n) (A : Option Addr) (B c : Nat) (w : World) (h : Sl w B A n (ints l)) (hm : n ≤ 300) :
    Calls Try.prog 13 #[.slice A n c] w fun e w' => e = .returned (.int .i64 (totI l)) ∧ w = w' := by
  subst hn; exact Total_any l A B c w h (by omega)

theorem Total_quiet {l : List Int} {n : Nat} {A : Option Addr} {B c k : Nat} {w : World} (h : Sl (w.drewN k) B A n (ints l)) (hm : n ≤ 300) :
    Calls Try.prog 13 #[.slice A n c] (w.drewN k) fun e w' => e = .returned (.int .i64 (totI l)) ∧ ∃ m, w' = w.drewN m :=
  quietL (Total_n l n (by have := h.len; simpa [ints] using this) A B c _ h hm)

theorem i64_info : (Try.prog.info? 2).map (fun i => (i.zero, i.size, i.bytes)) = some (some (.int .i64 0), 1, 8) := by kernel_rfl

set_option maxHeartbeats 1000000 in
theorem total_walk (l : List Int) (A : Option Addr) (c : Nat) (cut : Int) (w : World) (h : Sl w w.heap.size A l.length (ints l)) (hc : l.length ≤ c) (hcm : c ≤ maxLen) (hcut : 0 ≤ cut) (hcut' : cut < 65536) :
    Calls Try.prog 5 #[.slice A l.length c, .int .u16 cut] w fun e w' => e = .returned (.bool true) ∧ Below w.heap.size w w' := by
  unfold maxLen at hcm
  by_cases hl : 300 < l.length
  · go_enter Try.func5, Try.ntmps5
    go_wp2_with (first
      | (go_at_call 6; refine (awake_any _).mono ?_; rintro e w' ⟨rfl, hb⟩))
    go_ret
    exact ⟨rfl, hb⟩
  · obtain ⟨i0, hi0, hz0, hz1, hz2⟩ := info_parts i64_info
    obtain ⟨m, hm, hml⟩ : ∃ m : Nat, cut % ((l.length : Int) + 1) = (m : Int) ∧ m ≤ l.length :=
      ⟨(cut % ((l.length : Int) + 1)).toNat, by have := Int.emod_nonneg cut (b := (l.length : Int) + 1) (by omega); omega,
        by have := Int.emod_nonneg cut (b := (l.length : Int) + 1) (by omega); have := Int.emod_lt_of_pos cut (b := (l.length : Int) + 1) (by omega); omega⟩
    go_enter Try.func5, Try.ntmps5
    go_wp2_with (first
      | (go_at_call 6; refine (awake_any _).mono ?_; rintro e w' ⟨rfl, hb⟩))
    have h' := h.below hb
    have hsz : w.heap.size ≤ w'.heap.size := hb.size
    go_loopw [6, 7] (fun v i wr => ∃ k : Nat, k ≤ l.length ∧ i = .int .i64 ((l.length : Int) - 1 - k) ∧ wr.ownsRow w'.heap.size 2 1 v k ((ints l).reverse.take k) ∧ Below w'.heap.size w' wr)
      (fun _ i _ => (intOf i + 1).toNat)
    case atStart => exact ⟨0, Nat.zero_le _, by simp, ⟨by simp, .inr ⟨w'.heap.size, 0, #[], rfl, Nat.le_refl _, heap_alloc_new _ _, Nat.le_refl _, by simp [maxLen], rfl, rfl⟩⟩, (Below.refl _ _).alloc (Nat.le_refl _) _⟩
    case round =>
      obtain ⟨k, hk, rfl, hown, hbr⟩ := hrel
      by_cases hlt : k < l.length
      · obtain ⟨bb, o, u, hA, hbb, hu, hcell⟩ := (h'.below (hbr.mono hsz)).get (k := l.length - 1 - k) (by omega)
        have hu' : u = .int .i64 l[l.length - 1 - k] := by
          unfold ints at hu; simp [List.getElem?_map, List.getElem?_eq_getElem (show l.length - 1 - k < l.length by omega)] at hu; exact hu.symm
        subst hu' hA
        have hix : ((l.length : Int) - 1 - k).toNat = l.length - 1 - k := by omega
        have hge : (0 : Int) ≤ (l.length : Int) - 1 - k := by omega
        have hrv : (ints l).reverse.take (k + 1) = (ints l).reverse.take k ++ [.int .i64 l[l.length - 1 - k]] := by
          rw [List.take_succ_eq_append_getElem (by simp [ints]; omega)]
          simp [ints, List.getElem_reverse]
        have Hrv := hid hrv
        clear hrv hm
        go_wp2_with (at_builtin; refine wpList_push rfl (.tmp 28) (.tmp 33) 22 rfl Try.underlying22 hi0 hz0 hz1 hz2 rfl (by decide) rfl hown rfl rfl ?_ ?c1 ?c2 ?c3 ?c4; intro v' w'' hown' hb'')
        case c1 => simp [Value.oneCell']
        case c2 => simp [maxLen]; omega
        case c3 => omega
        case c4 => exact hbr.size
        go_roundw
        case rel => exact ⟨k + 1, by omega, by go_num, by rw [Hrv.out]; exact hown', hbr.trans hb''⟩
        case measure => simp [intOf]; omega
      · obtain rfl : k = l.length := by omega
        have hneg : (l.length : Int) - 1 - l.length < 0 := by omega
        have hbl : Below w.heap.size w wr := hb.trans (hbr.mono hsz)
        have hA := h.below hbl
        obtain ⟨A', c', rfl, hown2⟩ := Sl.own (B := wr.heap.size) hown (Nat.le_refl _)
        rw [List.take_of_length_le (by simp [ints]), show (ints l).reverse = ints l.reverse from by simp [ints, List.map_reverse]] at hown2
        have e1 := hid (tot_parts l m)
        have e2 := hid (tot_rev l)
        have e3 := tot_nn l
        have e4 := tot_le l
        go_wp2_with (go_at_call 13; refine (Total_any l A _ c _ hA (by omega)).mono ?_; rintro e w' ⟨rfl, rfl⟩)
        have ht : ∀ n, Sl (wr.drewN n) w.heap.size A m (ints (l.take m)) := fun n => by rw [← ints_take]; exact (hA.take hml).keep fun _ _ => rfl
        have hd : ∀ n, Sl (wr.drewN n) w.heap.size (if c = m then A else A.map (·.add m)) (l.length - m) (ints (l.drop m)) := fun n => by rw [← ints_drop]; exact (hA.drop hml hc).keep fun _ _ => rfl
        have ho : ∀ n, Sl (wr.drewN n) wr.heap.size A' l.length (ints l.reverse) := fun n => hown2.keep fun _ _ => rfl
        have Ht := hid ht
        have Hd := hid hd
        have Ho := hid ho
        clear ht hd ho
        have e1' := e1.out
        have e2' := e2.out
        have hmc : m ≤ c := by omega
        have hle : l.length ≤ 300 := by omega
        by_cases hq : c = m
        · rw [if_pos hq] at Hd
          have hm1 : m ≤ 300 := by omega
          have hm2 : l.length - m ≤ 300 := by omega
          go_quiet ((first
            | (go_at_call 13; first
              | (with_reducible exact Total_quiet (Ht.out _) hm1)
              | (with_reducible exact Total_quiet (Hd.out _) hm2)
              | (with_reducible exact Total_quiet (Ho.out _) hle))
            | (go_at_call 10; exact quietL (Up_any _ _ _))))
          go_wp2
          go_ret
          exact ⟨rfl, ⟨hbl.os, hbl.tape, hbl.output, hbl.size, hbl.block⟩⟩
        · rw [if_neg hq] at Hd
          have hm1 : m ≤ 300 := by omega
          have hm2 : l.length - m ≤ 300 := by omega
          go_quiet ((first
            | (go_at_call 13; first
              | (with_reducible exact Total_quiet (Ht.out _) hm1)
              | (with_reducible exact Total_quiet (Hd.out _) hm2)
              | (with_reducible exact Total_quiet (Ho.out _) hle))
            | (go_at_call 10; exact quietL (Up_any _ _ _))))
          go_wp2
          go_ret
          exact ⟨rfl, ⟨hbl.os, hbl.tape, hbl.output, hbl.size, hbl.block⟩⟩
end Go.Proofs.Ytoonbmobmhjofaa
