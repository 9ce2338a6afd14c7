/- The walk of TallyRight. -/
import Derived.Test.YtgeapfnodngjlaaTallyA
import Derived.OwnWalk
import Derived.Deep.RegionHeld3
import Derived.Deep.AppendLies
namespace Go.Proofs.Ytgeapfnodngjlaa
open Go.ChangeShapes Go.WideShapes Go.ChangeAt Go.RowKit Fb

/-- the numbers of a list, two by two -/
def pairs : List Int → List (Int × Int)
  | a :: b :: r => (a, b) :: pairs r
  | _ => []
theorem pairs_len : ∀ l : List Int, (pairs l).length = l.length / 2
  | [] => rfl
  | [_] => by simp [pairs]
  | a :: b :: r => by
    have := pairs_len r
    simp only [pairs, List.length_cons, this]; omega
theorem pairs_get : ∀ (l : List Int) (k : Nat) (h : k < (pairs l).length) (h1 : 2 * k < l.length) (h2 : 2 * k + 1 < l.length), (pairs l)[k] = (l[2 * k], l[2 * k + 1])
  | [], k, h, _, _ => by simp [pairs] at h
  | [_], k, h, _, _ => by simp [pairs] at h
  | a :: b :: r, 0, _, _, _ => rfl
  | a :: b :: r, k + 1, h, h1, h2 => by
    have := pairs_get r k (by simp only [pairs, List.length_cons] at h; omega) (by simp at h1; omega) (by simp at h2; omega)
    simp only [pairs, List.getElem_cons_succ, this]
    rfl
def pairW (l : List Int) : List (Nat × Nat) := (pairs l).map fun x => ofW x.1 x.2
def pairV (l : List Int) : List (Int × Int) := (pairs l).map fun x => (holdI x.1, holdI x.2)
theorem pair_are (l : List Int) : Are (pairW l) (pairV l) := by
  refine ⟨by simp [pairW, pairV], fun k h1 h2 => ?_⟩
  simp only [pairW, pairV, List.getElem_map]
  exact ofW_is _ _
theorem pairV_small (l : List Int) (k : Nat) (hl : l.length ≤ 300) : (sum1 ((pairV l).take k)).natAbs ≤ 150 * 1099511627776 ∧ (sum2 ((pairV l).take k)).natAbs ≤ 150 * 1099511627776 := by
  have h1 := sums_small ((pairV l).take k) 1099511627776 (fun v hv => by
    obtain ⟨x, -, rfl⟩ := List.mem_map.1 (List.mem_of_mem_take hv)
    have := hold_both x.1; have := hold_both x.2
    simp only; omega)
  have h2 : ((pairV l).take k).length ≤ 150 := by
    rw [List.length_take]; simp only [pairV, List.length_map, pairs_len]; omega
  have h3 : ((pairV l).take k).length * 1099511627776 ≤ 150 * 1099511627776 := Nat.mul_le_mul_right _ h2
  exact ⟨Nat.le_trans h1.1 h3, Nat.le_trans h1.2 h3⟩
theorem c128_info : (Try.prog.info? 27).map (fun i => (i.zero, i.size, i.bytes)) = some (some (.complex .f64 0 0), 1, 16) := by kernel_rfl

set_option maxRecDepth 100000 in
set_option maxHeartbeats 4000000 in
theorem right_walk (a b q : Int) (l : List Int) (A : Option Addr) (c : Nat) (w : World) (h : Sl w w.heap.size A l.length (ints l)) (hc : l.length ≤ c) (hcm : c ≤ maxLen) :
    Calls Try.prog 3 #[.int .i64 a, .int .i64 b, .int .i64 q, .slice A l.length c] w fun e w' => e = .returned (.bool true) ∧ Below w.heap.size w w' := by
  unfold maxLen at hcm
  by_cases hl : 300 < l.length
  · go_enter Try.func3, Try.ntmps3
    go_wp2_with fail
    refine (awake_any _).mono ?_
    rintro e w1 ⟨rfl, hbel⟩
    go_wp2_with fail
    go_ret
    exact ⟨rfl, hbel⟩
  · obtain ⟨i0, hi0, hz0, hz1, hz2⟩ := info_parts c128_info
    have ha1 := hold_lo a; have ha2 := hold_hi a; have hb1 := hold_lo b; have hb2 := hold_hi b
    go_enter Try.func3, Try.ntmps3
    go_wp2_with fail
    refine (awake_any _).mono ?_
    rintro e w1 ⟨rfl, hbel⟩
    go_wp2_with fail
    refine (RHold_any _ _).mono ?_
    rintro e w' ⟨rfl, rfl⟩
    go_wp2_with fail
    refine (RHold_any _ _).mono ?_
    rintro e w' ⟨rfl, rfl⟩
    go_wp2_with fail
    refine (Of_any _ _ _).mono ?_
    rintro e w' ⟨rfl, rfl⟩
    go_wp2_with fail
    refine (Parts_W _ _ (holdI a) (holdI b) _ (ofW_is a b) (by rw [two_Bi]; omega) (by rw [two_Bi]; omega)).mono ?_
    rintro e w' ⟨rfl, rfl⟩
    go_wp2_with fail
    refine (Of_any _ _ _).mono ?_
    rintro e w' ⟨rfl, rfl⟩
    go_wp2_with fail
    refine (Turn_any _ _ q _).mono ?_
    rintro e w' ⟨rfl, rfl⟩
    have ht := (ofW_is a b).turn (q % 4).toNat
    have hts := turnI_small (q % 4).toNat (holdI a, holdI b) 1099511627776 (by simp; omega) (by simp; omega)
    go_wp2_with fail
    refine (Parts_W _ _ _ _ _ ht (by rw [two_Bi]; omega) (by rw [two_Bi]; omega)).mono ?_
    rintro e w' ⟨rfl, rfl⟩
    go_wp2_with fail
    refine (RTurn_any _ _ q _ (by omega) (by omega)).mono ?_
    rintro e w' ⟨rfl, rfl⟩
    generalize turnI (q % 4).toNat (holdI a, holdI b) = T at *
    have hsz : w.heap.size ≤ w1.heap.size := hbel.size
    go_wp2_with fail
    go_loopw [15, 16, 17, 18] (fun v p q i wr => ∃ k m : Nat, Hid (m = 2 * k) ∧ m ≤ l.length ∧ i = .int .i64 m ∧ wr.ownsRow w1.heap.size 27 1 v k (cxs ((pairW l).take k)) ∧ p = .int .i64 (sum1 ((pairV l).take k)) ∧ q = .int .i64 (sum2 ((pairV l).take k)) ∧ Below w1.heap.size w1 wr)
      (fun _ _ _ i _ => l.length - (intOf i).toNat)
    case atStart => exact ⟨0, 0, rfl, Nat.zero_le _, rfl, ⟨by simp [cxs], .inl ⟨rfl, rfl⟩⟩, by simp [sum1], by simp [sum2], Below.refl _ _⟩
    case round =>
      obtain ⟨k, m, hm, hml, rfl, hown, rfl, rfl, hbr⟩ := hrel
      by_cases hlt : m + 1 < l.length
      · have hm' := hm.out
        have hbelr : Below w.heap.size w wr := hbel.trans (hbr.mono hsz)
        have hr := h.below hbelr
        obtain ⟨bb, o, u, hA, hbb, hu, hc0⟩ := hr.get (k := m) (by omega)
        obtain ⟨bb', o', u', hA', hbb', hu', hc1⟩ := hr.get (k := m + 1) (by omega)
        obtain ⟨rfl, rfl⟩ : bb = bb' ∧ o = o' := by rw [hA] at hA'; simpa using hA'
        have q0 : m < l.length := by clear hm'; omega
        have e0 : u = .int .i64 (l[m]'q0) := by
          unfold ints at hu; simp [List.getElem?_map, List.getElem?_eq_getElem q0] at hu; exact hu.symm
        have e1 : u' = .int .i64 (l[m + 1]'hlt) := by
          unfold ints at hu'; simp [List.getElem?_map, List.getElem?_eq_getElem hlt] at hu'; exact hu'.symm
        have hkp : k < (pairs l).length := by rw [pairs_len]; omega
        have hpk : (pairs l)[k] = (l[m]'q0, l[m + 1]'hlt) := by subst hm'; exact pairs_get l k hkp (by omega) (by omega)
        generalize l[m]'q0 = x at *
        generalize l[m + 1]'hlt = y at *
        subst e0 e1 hA
        clear hA' hu hu'
        have hs1 := sum1_snoc (pairV l) k (by simpa [pairV] using hkp)
        have hs2 := sum2_snoc (pairV l) k (by simpa [pairV] using hkp)
        have hvk : (pairV l)[k]'(by simpa [pairV] using hkp) = (holdI x, holdI y) := by simp only [pairV, List.getElem_map, hpk]
        have hwk : cxs ((pairW l).take (k + 1)) = cxs ((pairW l).take k) ++ [.complex .f64 (ofW x y).1 (ofW x y).2] := by
          unfold cxs pairW
          rw [List.take_succ_eq_append_getElem (by simpa using hkp)]
          simp [hpk]
        rw [hvk] at hs1 hs2
        have hsm := pairV_small l k (by omega)
        have g1 := hold_lo x
        have g1' := hold_hi x
        have g2 := hold_lo y
        have g2' := hold_hi y
        have p1 : -164926744166400 ≤ sum1 ((pairV l).take k) := by omega
        have p2 : sum1 ((pairV l).take k) ≤ 164926744166400 := by omega
        have p3 : -164926744166400 ≤ sum2 ((pairV l).take k) := by omega
        have p4 : sum2 ((pairV l).take k) ≤ 164926744166400 := by omega
        have Hs1 := hid hs1
        have Hs2 := hid hs2
        have Hwk := hid hwk
        have Hm := hid hm'
        have hk150 : k + 1 ≤ 150 := by omega
        clear hs1 hs2 hwk hsm hvk hpk hm hm'
        have i1 : (0 : Int) ≤ (m : Int) := by omega
        have i2 : (m : Int) < (l.length : Int) := by omega
        have i3 : (0 : Int) ≤ (m : Int) + 1 := by omega
        have i4 : (m : Int) + 1 < (l.length : Int) := by omega
        generalize sum1 ((pairV l).take k) = P at *
        generalize sum2 ((pairV l).take k) = Q at *
        have hlow : ∀ g, u15.ownBlock = some g → w1.heap.size ≤ g := by
          intro g hg
          obtain ⟨_, hh | ⟨g', cap, cur, hv, hg', _⟩⟩ := hown
          · rw [hh.1] at hg; simp [Value.ownBlock] at hg
          · rw [hv] at hg; simp [Value.ownBlock] at hg; omega
        have hne : u15.ownBlock ≠ some bb := fun e => by have := hlow bb e; omega
        have hbw : bb < wr.heap.size := by have := hbelr.size; omega
        have hwr : IntKind.i64.wrap ((m : Int) + 1) = (m : Int) + 1 := Go.IntWalk.i64_in _ (by omega)
        have hto : ((m : Int) + 1).toNat = m + 1 := by omega
        go_wp2_with fail
        go_region_held3 (fun w' => w'.cell? ⟨bb, o + m, none⟩ = some (.int .i64 x) ∧ w'.cell? ⟨bb, o + (m + 1), none⟩ = some (.int .i64 y))
          (first
            | go_keep
            | (go_split_ands
               refine ⟨?_, ?_⟩
               · (rw [hgrow.cell_far _ (by simp; omega) (Ne.symm hne)]; assumption)
               · (rw [hgrow.cell_far _ (by simp; omega) (Ne.symm hne)]; assumption)))
          (first
            | (refine step_append_lies _ (by rfl) _ _ _ (by rfl) w1.heap.size 27 i0 _ 1 16 Try.underlying31 hi0 hz0 hz1 hz2 rfl (by omega) u15 k (cxs ((pairW l).take k)) (by rfl) ((hown.alloc _).drew)
                ⟨wr.heap.size, 0, none⟩ 1 1 [.complex .f64 (ofW x y).1 (ofW x y).2] (by rfl) (by rfl) (World.news_of_block (cs := #[.complex .f64 (ofW x y).1 (ofW x y).2]) (t := 27) (fr := (0, 0)) (heap_alloc_new wr _)) (by simp [Value.oneCell'])
                (by omega) (by simp only [maxLen]; omega) (by omega) (by have := hbr.size; simp; omega) (wr.heap.size + 1) (by simp) ?_; intro gg cap w3 hown3 hgrow hat hlt3)
            | (go_at_call 10; refine (Of_any _ _ _).mono ?_; rintro e w' ⟨rfl, rfl⟩))
        have hb3 : Below w1.heap.size wr w3 := by
          have h0 := (Below.refl w1.heap.size wr).alloc hbr.size (.cells #[.complex .f64 (ofW x y).1 (ofW x y).2] 27)
          have h1 : Below w1.heap.size wr (wr.alloc (.cells #[.complex .f64 (ofW x y).1 (ofW x y).2] 27)).drew := ⟨h0.os, h0.tape, h0.output, h0.size, h0.block⟩
          exact h1.grown hgrow (by have := hbr.size; simp; omega) hlow
        have hc0' := (hb3.cell (p := ⟨bb, o + m, none⟩) (by simp only; omega)).trans hc0
        have hc1' := (hb3.cell (p := ⟨bb, o + (m + 1), none⟩) (by simp only; omega)).trans hc1
        have Hown := hid hown3
        clear hown3 hgrow hc0 hc1 hat hlt3 hown hne hlow hwr hto
        go_wp2_with fail
        refine (RHold_any _ _).mono ?_
        rintro e w' ⟨rfl, rfl⟩
        go_wp2_with fail
        refine (RHold_any _ _).mono ?_
        rintro e w' ⟨rfl, rfl⟩
        go_wp2_with fail
        go_roundw
        case rel => exact ⟨k + 1, m + 2, by have := Hm.out; show m + 2 = 2 * (k + 1); omega, by omega, by go_num, by rw [Hwk.out]; exact Hown.out, by rw [Hs1.out], by rw [Hs2.out], hbr.trans hb3⟩
        case measure => simp [intOf]; omega
      · have hbelr : Below w.heap.size w wr := hbel.trans (hbr.mono hsz)
        obtain ⟨A', c', rfl, hown2⟩ := Sl.own (B := wr.heap.size) hown (Nat.le_refl _)
        have hkl : k = (pairs l).length := by rw [pairs_len]; have := hm.out; omega
        have hk' : (pairW l).take k = pairW l := List.take_of_length_le (by simp only [pairW, List.length_map]; omega)
        have hv' : (pairV l).take k = pairV l := List.take_of_length_le (by simp only [pairV, List.length_map]; omega)
        have hsum := Sum_any (pairW l) (pairV l) k A' wr.heap.size c' wr (by rw [← hk']; exact hown2) (by simp only [pairV, List.length_map]; omega) (by rw [hkl, pairs_len]; omega) (pair_are l)
          (fun j => by have := pairV_small l j (by omega); rw [two_Bi]; omega)
        have Hsum := hid hsum
        have hsm := pairV_small l k (by omega)
        rw [hv'] at hsm ⊢
        clear hsum hown hown2 hk' hv' hkl hm
        go_wp2_with fail
        refine Hsum.out.mono ?_
        rintro e w' ⟨z, rfl, hz, rfl⟩
        generalize sum1 (pairV l) = P at *
        generalize sum2 (pairV l) = Q at *
        go_wp2_with fail
        refine (Parts_W z.1 z.2 P Q _ hz (by rw [two_Bi]; omega) (by rw [two_Bi]; omega)).mono ?_
        rintro e w' ⟨rfl, rfl⟩
        go_wp2_with fail
        go_ret
        exact ⟨rfl, hbelr⟩
end Go.Proofs.Ytgeapfnodngjlaa
