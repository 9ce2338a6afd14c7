/- Texts laid together: Wire3, Wire4, Wire5. -/
import Derived.Test.YtondnbnaoacanaaGreatDoorWa
import Derived.Deep.RegionHeld3
import Derived.Deep.RegionWith
import Derived.RegionTactic
/- Contracts of layer 3 (wire) and of its reference: numbers that are read. -/
namespace Go.Proofs.YtondnbnaoacanaaGreatDoor
open Go.ChangeShapes Go.WideShapes Go.ChangeAt Go.RowKit Fb

/-- 's[q:]' -/
theorem cut_from {w : World} {A : Option Addr} {n c q : Nat} {zs : List Int} (hS : Sl w w.heap.size A n (by8 zs)) (hq : q ≤ n) (hc : n ≤ c) :
    ∃ A2 n2 c2, (q = c ∧ A2 = A ∧ n2 = 0 ∧ c2 = 0 ∨ c ≠ q ∧ A2 = A.map (·.add q) ∧ n2 = n - q ∧ c2 = c - q) ∧ Sl w w.heap.size A2 n2 (by8 (zs.drop q)) ∧ n2 + q = n ∧ n2 ≤ c2 ∧ c2 ≤ c := by
  have hD := hS.drop hq hc
  have e1 : (by8 zs).drop q = by8 (zs.drop q) := by simp [by8]
  rw [e1] at hD
  by_cases h : c = q
  · rw [if_pos h] at hD
    have e2 : n - q = 0 := by omega
    rw [e2] at hD
    exact ⟨A, 0, 0, .inl ⟨h.symm, rfl, rfl, rfl⟩, hD, by omega, by omega, by omega⟩
  · rw [if_neg h] at hD
    exact ⟨_, n - q, c - q, .inr ⟨h, rfl, rfl, rfl⟩, hD, by omega, by omega, by omega⟩

set_option maxHeartbeats 4000000 in
set_option maxRecDepth 100000 in
theorem Uint_any {A : Option Addr} {n c : Nat} {p er p' e' : Int} {v : Nat} {zs : List Int} {w : World} (hu : uintS zs p er = (p', e', v)) (hS : Sl w w.heap.size A n (by8 zs)) (hb : Bytes zs) (hn : n ≤ 100000) (hc : n ≤ c) (hcm : c ≤ maxLen) :
    Calls Tryz.prog 104 #[.agg #[.slice A n c, .int .i64 p, .int .i64 er]] w fun e w' => e = .returned (.tuple #[.agg #[.slice A n c, .int .i64 p', .int .i64 e'], .int .u64 v]) ∧ Below w.heap.size w w' := by
  have hl : n = zs.length := by have := hS.len; rw [by8_len] at this; exact this.symm
  unfold maxLen at hcm
  by_cases hr : er = 0 ∧ 0 ≤ p ∧ p ≤ zs.length
  · obtain ⟨rfl, hp⟩ := hr
    have hrg : Rgt n p 0 := ⟨rfl, hp.1, by omega⟩
    obtain ⟨q, rfl⟩ : ∃ q : Nat, p = (q : Int) := ⟨p.toNat, by omega⟩
    have hqn : q ≤ n := by omega
    obtain ⟨A2, n2, c2, hcs, hD, hn2, hc2, hcc⟩ := cut_from hS hqn hc
    have e3 : (zs.drop q).take 10 = win zs (q : Int) := by simp [win]
    by_cases hE : uE (win zs q) = 0
    · rw [uintS_ok hp hE] at hu
      simp only [Prod.mk.injEq] at hu
      obtain ⟨rfl, rfl, rfl⟩ := hu
      have hbw : Bytes (win zs q) := fun x hx => hb x (List.mem_of_mem_drop (List.mem_of_mem_take hx))
      have h10 : (win zs q).length ≤ 10 := by simp [win]; omega
      have hlt := uE_lt hE
      have hval := uE_val hbw h10 hE
      have hwl : (win zs q).length ≤ n2 := by rw [← e3]; simp only [List.length_take, List.length_drop]; omega
      have hNUM : ∀ w', Below w.heap.size w w' → Calls Tryz.prog 115 #[.slice A2 n2 c2] w' fun e w'' => e = .returned (.tuple #[.slice A2 (fi (win zs q) + 1) c2, .int .i64 0]) ∧ w' = w'' := fun w' hbel => by
        have := number_ok (c := c2) (hD.below hbel) (by omega) hc2 (by unfold maxLen; omega) (by rw [e3]; exact hE)
        rw [e3] at this; exact this
      have hD2 := hD.take (k := fi (win zs q) + 1) (by omega)
      have e2 : (by8 (zs.drop q)).take (fi (win zs q) + 1) = by8 ((win zs q).take (fi (win zs q) + 1)) := by
        unfold by8
        rw [← e3, ← List.map_take, List.take_take, Nat.min_eq_left (by rw [e3]; omega)]
      rw [e2] at hD2
      have hlen2 : ((win zs q).take (fi (win zs q) + 1)).length = fi (win zs q) + 1 := by rw [List.length_take]; omega
      have hb2 : Bytes ((win zs q).take (fi (win zs q) + 1)) := fun x hx => hbw x (List.mem_of_mem_take hx)
      have hk : fi (win zs q) + 1 + q ≤ n := by omega
      have hk1 : 1 ≤ fi (win zs q) + 1 := by omega
      have hk10 : fi (win zs q) + 1 ≤ 10 := by omega
      generalize (win zs q).take (fi (win zs q) + 1) = bs at *
      generalize fi (win zs q) + 1 = k at *
      rcases hcs with ⟨rfl, -, -, -⟩ | ⟨hne, rfl, rfl, rfl⟩
      · omega
      obtain ⟨g, o, rfl, hg, hcl0⟩ := hS.2 (by omega)
      simp only [Option.map_some] at hD2 hNUM
      have hadd : (⟨g, o, none⟩ : Addr).add q = ⟨g, o + q, none⟩ := by unfold Addr.add; split <;> simp_all
      rw [hadd] at hD2 hNUM
      have hVAL : ∀ w', Below w.heap.size w w' → Calls Tryz.prog 116 #[.slice (some ⟨g, o + q, none⟩) k (c - q)] w' fun e w'' => e = .returned (.int .u64 (vl bs : Nat)) ∧ Below w'.heap.size w' w'' := fun w' hbel => by
        subst hlen2
        exact value_any hb2 hk10 hval w' ((hD2.below hbel).up hbel.size) (by omega)
      have NUM := hid hNUM
      have VAL := hid hVAL
      generalize vl bs = V at *
      clear hNUM hVAL hD2 hD hS hcl0 hl hval e2 e3 hlen2 hb2 hb hbw hlt hwl h10 hE hp hadd hc2 hcc hn2
      go_enter Tryz.func104, Tryz.ntmps104
      go_wp2_with fail
      with_reducible refine (right_yes hrg _).mono ?_
      rintro e w' ⟨rfl, rfl⟩
      go_wp2_with fail
      with_reducible refine (NUM.out _ ((((Below.refl _ _).alloc (Nat.le_refl _) _).alloc (by simp) _).alloc (by simp; omega) _)).mono ?_
      rintro e w' ⟨rfl, rfl⟩
      go_wp2_with fail
      go_region_with ((go_at_call 116; refine (VAL.out _ ?_).mono ?_; (exact Below.drew ((((Below.refl _ _).alloc (Nat.le_refl _) _).alloc (by simp) _).alloc (by simp; omega) _)); rintro e w1 ⟨rfl, hbel⟩; obtain ⟨hcl, hfz⟩ := below_cells hbel))
      all_goals
        go_wp2
        refine bodyPost_ret (v := .tuple #[.agg #[.slice (some ⟨g, o, none⟩) n c, .int .i64 (↑q + ↑k), .int .i64 0], .int .u64 (V : Nat)]) (by simp [results, Tryz.results104, go_sem, hcl]) rfl ⟨rfl, ?_⟩
        refine Below.setCell (Below.setCell (Below.setCell (Below.trans ?_ (hbel.mono ?_)) (by simp) _) (by simp) _) (by simp) _
        · exact Below.drew ((((Below.refl _ _).alloc (Nat.le_refl _) _).alloc (by simp) _).alloc (by simp; omega) _)
        · simp; omega
    · rw [uintS_bad hp hE] at hu
      simp only [Prod.mk.injEq] at hu
      obtain ⟨rfl, rfl, rfl⟩ := hu
      have hNUM : ∀ w', Below w.heap.size w w' → Calls Tryz.prog 115 #[.slice A2 n2 c2] w' fun e w'' => e = .returned (.tuple #[.slice none 0 0, .int .i64 (uE (win zs q))]) ∧ w' = w'' := fun w' hbel => by
        have := number_no (c := c2) (hD.below hbel) (by omega) hc2 (by unfold maxLen; omega) (by rw [e3]; exact hE)
        rw [e3] at this; exact this
      generalize uE (win zs q) = E at *
      have NUM := hid hNUM
      clear hNUM hD hS hl e3 hb hp hc2 hcc hn2
      rcases hcs with ⟨rfl, rfl, rfl, rfl⟩ | ⟨hne, rfl, rfl, rfl⟩
      all_goals
        go_enter Tryz.func104, Tryz.ntmps104
        go_wp2_with fail
        with_reducible refine (right_yes hrg _).mono ?_
        rintro e w' ⟨rfl, rfl⟩
        go_wp2_with fail
        with_reducible refine (NUM.out _ ((((Below.refl _ _).alloc (Nat.le_refl _) _).alloc (by simp) _).alloc (by simp; omega) _)).mono ?_
        rintro e w' ⟨rfl, rfl⟩
        go_wp2_with fail
        with_reducible refine (stay_any (if_pos rfl) _).mono ?_
        rintro e w1 ⟨rfl, hbel⟩
        obtain ⟨hcl, hfz⟩ := below_cells hbel
        go_wp2_with fail
        refine bodyPost_ret (v := .tuple #[.agg #[.slice _ n _, .int .i64 q, .int .i64 E], .int .u64 (0 : Nat)]) (by simp [results, Tryz.results104, go_sem, hcl]) rfl ⟨rfl, ?_⟩
        refine Below.setCell (Below.setCell (Below.setCell (Below.trans ?_ (hbel.mono ?_)) (by simp) _) (by simp) _) (by simp) _
        · exact (((Below.refl _ _).alloc (Nat.le_refl _) _).alloc (by simp) _).alloc (by simp; omega) _
        · simp; omega
  · have hrg : ¬ Rgt n p er := fun h => hr ⟨h.1, h.2.1, by have := h.2.2; omega⟩
    rw [uintS_no hr] at hu
    simp only [Prod.mk.injEq] at hu
    obtain ⟨rfl, he, rfl⟩ := hu
    have HE := hid he
    clear he hr hl
    go_enter Tryz.func104, Tryz.ntmps104
    go_wp2_with fail
    with_reducible refine (right_no hrg _).mono ?_
    rintro e w' ⟨rfl, rfl⟩
    go_wp2_with fail
    with_reducible refine (stay_any HE.out _).mono ?_
    rintro e w1 ⟨rfl, hbel⟩
    obtain ⟨hcl, hfz⟩ := below_cells hbel
    go_wp2_with fail
    refine bodyPost_ret (v := .tuple #[.agg #[.slice A n c, .int .i64 p, .int .i64 e'], .int .u64 (0 : Nat)]) (by simp [results, Tryz.results104, go_sem, hcl]) rfl ⟨rfl, ?_⟩
    refine Below.setCell (Below.setCell (Below.setCell (Below.trans ?_ (hbel.mono ?_)) (by simp) _) (by simp) _) (by simp) _
    · exact (((Below.refl _ _).alloc (Nat.le_refl _) _).alloc (by simp) _).alloc (by simp; omega) _
    · simp; omega
end Go.Proofs.YtondnbnaoacanaaGreatDoor
/- Contracts of layer 3's reference: numbers that are read. -/
namespace Go.Proofs.YtondnbnaoacanaaGreatDoor
open Go.ChangeShapes Go.WideShapes Go.ChangeAt Go.RowKit Fb

/-- what the rounds know: of the bytes that are over, the number and the unit -/
def RU (b : List Int) (k : Nat) (x y : Int) : Prop := k < 10 → x = (vl (b.take k) : Nat) ∧ y = ((128 ^ k : Nat) : Int)
theorem RU.step {b : List Int} {k : Nat} {x y z : Int} (h : RU b k x y) (hk : k < b.length) (hz : b[k] = z) (h1 : 128 ≤ z) (h2 : z ≤ 255) :
    RU b (k + 1) (IntKind.u64.wrap (x + IntKind.u64.wrap (y * (z - 128)))) (IntKind.u64.wrap (y * 128)) := by
  intro hk9
  obtain ⟨rfl, rfl⟩ := h (by omega)
  have hp : 128 ^ k ≤ 128 ^ 8 := Nat.pow_le_pow_right (by decide) (by omega)
  have hv := vl_lt (b.take k)
  rw [List.length_take, Nat.min_eq_left (by omega)] at hv
  rw [vl_next hk, hz, Nat.pow_succ]
  have e8 : (128 : Nat) ^ 8 = 72057594037927936 := by decide
  rw [e8] at hp
  generalize 128 ^ k = u at *
  generalize vl (b.take k) = q at *
  obtain ⟨d, rfl⟩ : ∃ d : Nat, z = (d : Int) + 128 := ⟨(z - 128).toNat, by omega⟩
  have hd : d ≤ 127 := by omega
  have e1 : (u : Int) * ((d : Int) + 128 - 128) = ((u * d : Nat) : Int) := by simp
  have e2 : (((d : Int) + 128) % 128).toNat = d := by omega
  have e3 : u * d ≤ u * 127 := Nat.mul_le_mul_left u hd
  rw [e1, e2, u64_in ((u * d : Nat) : Int) (by omega) (by omega), u64_in _ (by omega) (by omega), u64_in _ (by omega) (by omega)]
  exact ⟨by omega, by omega⟩
theorem RU.last {b : List Int} {k : Nat} {x y z : Int} (h : RU b k x y) (hk : k < b.length) (h10 : k < 10) (hz : b[k] = z) (h1 : 0 ≤ z) (h2 : z < 128) (hv : vl (b.take (k + 1)) < 18446744073709551616) :
    IntKind.u64.wrap (x + IntKind.u64.wrap (y * z)) = (vl (b.take (k + 1)) : Nat) := by
  obtain ⟨rfl, rfl⟩ := h h10
  rw [vl_next hk, hz] at hv ⊢
  obtain ⟨d, rfl⟩ : ∃ d : Nat, z = (d : Int) := ⟨z.toNat, by omega⟩
  have e2 : ((d : Int) % 128).toNat = d := by omega
  rw [e2] at hv ⊢
  have e1 : ((128 ^ k : Nat) : Int) * (d : Int) = ((128 ^ k * d : Nat) : Int) := by simp
  rw [e1]
  generalize 128 ^ k * d = u at *
  generalize vl (b.take k) = q at *
  rw [u64_in (u : Int) (by omega) (by omega), u64_in _ (by omega) (by omega)]
  omega

set_option maxHeartbeats 4000000 in
set_option maxRecDepth 100000 in
theorem RUint_any {A : Option Addr} {n c : Nat} {p er p' e' : Int} {v : Nat} {zs : List Int} {w : World} (hu : uintS zs p er = (p', e', v)) (hS : Sl w w.heap.size A n (by8 zs)) (hb : Bytes zs) (hn : n ≤ 100000) (hc : n ≤ c) (hcm : c ≤ maxLen) :
    Calls Tryz.prog 57 #[.agg #[.slice A n c, .int .i64 p, .int .i64 er]] w fun e w' => e = .returned (.tuple #[.agg #[.slice A n c, .int .i64 p', .int .i64 e'], .int .u64 v]) ∧ Below w.heap.size w w' := by
  have hl : n = zs.length := by have := hS.len; rw [by8_len] at this; exact this.symm
  unfold maxLen at hcm
  by_cases hr : er = 0 ∧ 0 ≤ p ∧ p ≤ zs.length
  · obtain ⟨rfl, hp⟩ := hr
    have hrg : Rgt n p 0 := ⟨rfl, hp.1, by omega⟩
    obtain ⟨q, rfl⟩ : ∃ q : Nat, p = (q : Int) := ⟨p.toNat, by omega⟩
    have hqn : q ≤ n := by omega
    have hbw : Bytes (win zs q) := fun x hx => hb x (List.mem_of_mem_drop (List.mem_of_mem_take hx))
    have hwl : (win zs q).length = min 10 (n - q) := by simp [win]; omega
    have hwk : ∀ k, k < (win zs q).length → ∀ (h : q + k < zs.length), (win zs q)[k]? = some (zs[q + k]'h) := fun k hk h => by
      unfold win
      rw [List.getElem?_take_of_lt (by omega), List.getElem?_drop]
      simp [h]
    have HU := hid hu
    have HL := hid hl
    have HB := hid hbw
    have HW := hid hwl
    have HWK := hid hwk
    have HP := hid hp
    have HS := hid hS
    clear hu hl hb hbw hwl hwk hp hS
    go_enter Tryz.func57, Tryz.ntmps57
    go_wp2_with fail
    with_reducible refine (Right_yes hrg _).mono ?_
    rintro e w' ⟨rfl, rfl⟩
    go_wp2_with fail
    go_loop [4, 5, 6] (fun x y i => ∃ (k : Nat) (a b : Int), k ≤ 10 ∧ Hid (k ≤ fi (win zs q)) ∧ i = .int .i64 k ∧ x = .int .u64 a ∧ y = .int .u64 b ∧ Hid (RU (win zs q) k a b)) (fun _ _ i => 10 - (intOf i).toNat)
    case atStart => exact ⟨0, _, _, by omega, hid (Nat.zero_le _), rfl, rfl, rfl, hid fun _ => ⟨by simp [vl], by simp⟩⟩
    case round =>
      obtain ⟨k, a, b, hk, hfi, rfl, rfl, rfl, hRU⟩ := hrel
      have hfl := fi_le (win zs q)
      have hfi0 := hfi.out
      have hw0 := HW.out
      have hl0 := HL.out
      by_cases h10 : k = 10
      · subst h10
        have hE : uE (win zs q) = 11 := by rw [uE_end (by omega), if_neg (by omega)]
        have HE := hid hE
        clear hE hfl hfi0 hw0 hl0
        obtain ⟨rfl, rfl, rfl⟩ := uS_err HP.out (HE.out) (by decide) HU.out
        go_wp2_with fail
        with_reducible refine (stays_any (if_pos rfl) _).mono ?_
        rintro e w1 ⟨rfl, hbel⟩
        obtain ⟨hcl, hfz⟩ := below_cells hbel
        go_wp2_with fail
        refine bodyPost_ret (v := .tuple #[.agg #[.slice A n c, .int .i64 q, .int .i64 11], .int .u64 (0 : Nat)]) (by simp [results, Tryz.results57, go_sem, hcl]) rfl ⟨rfl, ?_⟩
        refine Below.setCell (Below.setCell (Below.setCell (Below.trans ?_ (hbel.mono ?_)) (by simp) _) (by simp) _) (by simp) _
        · exact (((Below.refl _ _).alloc (Nat.le_refl _) _).alloc (by simp) _).alloc (by simp; omega) _
        · simp; omega
      · by_cases hend : n ≤ q + k
        · have hE : uE (win zs q) = 10 := by rw [uE_end (by omega), if_pos (by omega)]
          have HE := hid hE
          clear hE hfl hfi0 hw0 hl0
          obtain ⟨rfl, rfl, rfl⟩ := uS_err HP.out (HE.out) (by decide) HU.out
          go_wp2_with fail
          with_reducible refine (stays_any (if_pos rfl) _).mono ?_
          rintro e w1 ⟨rfl, hbel⟩
          obtain ⟨hcl, hfz⟩ := below_cells hbel
          go_wp2_with fail
          refine bodyPost_ret (v := .tuple #[.agg #[.slice A n c, .int .i64 q, .int .i64 10], .int .u64 (0 : Nat)]) (by simp [results, Tryz.results57, go_sem, hcl]) rfl ⟨rfl, ?_⟩
          refine Below.setCell (Below.setCell (Below.setCell (Below.trans ?_ (hbel.mono ?_)) (by simp) _) (by simp) _) (by simp) _
          · exact (((Below.refl _ _).alloc (Nat.le_refl _) _).alloc (by simp) _).alloc (by simp; omega) _
          · simp; omega
        · have hkn : q + k < zs.length := by omega
          have hkw : k < (win zs q).length := by omega
          obtain ⟨g, o, u, rfl, hg, hu', hcell⟩ := HS.out.get (k := q + k) (by omega)
          have hcw := fun (o1 o2 o3 : Obj) => (World.cell?_alloc_lt ((w.alloc o1).alloc o2) o3 ⟨g, o + (q + k), none⟩ (by simp; omega)).trans ((World.cell?_alloc_lt (w.alloc o1) o2 ⟨g, o + (q + k), none⟩ (by simp; omega)).trans ((World.cell?_alloc_lt w o1 ⟨g, o + (q + k), none⟩ hg).trans hcell))
          have hx? := HWK.out k hkw hkn
          obtain rfl : u = .int .u8 (zs[q + k]'hkn) := by
            simp only [by8, List.getElem?_map, List.getElem?_eq_getElem hkn, Option.map_some, Option.some.injEq] at hu'
            exact hu'.symm
          have hxk : (win zs q)[k] = zs[q + k]'hkn := by rw [List.getElem?_eq_getElem hkw] at hx?; simpa using hx?
          have hbx := HB.out _ (List.getElem_mem hkw)
          rw [hxk] at hbx
          have hnext := fun (h : 128 ≤ (win zs q)[k]) => fi_next hkw hfi0 h
          have hhere := fun (h : (win zs q)[k] < 128) => fi_here hkw hfi0 h
          rw [hxk] at hnext hhere
          generalize zs[q + k]'hkn = x at *
          have HX := hid hxk
          have HX2 := hid hx?
          have HN := hid hnext
          have HH := hid hhere
          have hkn' : k < 10 := by omega
          clear hxk hx? hnext hhere hu' hcell hfl hfi0 hw0 hl0 hkn
          by_cases hx : x < 128
          · have hfk := HH.out hx
            have hEk := uE_here hfk hkw HX2.out
            by_cases hbad : (k = 9 ∧ 1 < x) ∨ (0 < k ∧ x = 0)
            · rw [if_pos hbad] at hEk
              have HE := hid hEk
              clear hEk hfk
              have hcs : (k = 9 ∧ 1 < x) ∨ (0 < k ∧ k < 9 ∧ x = 0) ∨ (k = 9 ∧ x = 0) := by omega
              clear hbad
              obtain ⟨rfl, rfl, rfl⟩ := uS_err HP.out HE.out (by decide) HU.out
              rcases hcs with ⟨rfl, h3⟩ | ⟨h1, h2, rfl⟩ | ⟨rfl, rfl⟩
              all_goals
                go_wp2_with fail
                with_reducible refine (stays_any (if_pos rfl) _).mono ?_
                rintro e w1 ⟨rfl, hbel⟩
                obtain ⟨hcl, hfz⟩ := below_cells hbel
                go_wp2_with fail
                refine bodyPost_ret (v := .tuple #[.agg #[.slice (some ⟨g, o, none⟩) n c, .int .i64 q, .int .i64 11], .int .u64 (0 : Nat)]) (by simp [results, Tryz.results57, go_sem, hcl]) rfl ⟨rfl, ?_⟩
                refine Below.setCell (Below.setCell (Below.setCell (Below.trans ?_ (hbel.mono ?_)) (by simp) _) (by simp) _) (by simp) _
                · exact (((Below.refl _ _).alloc (Nat.le_refl _) _).alloc (by simp) _).alloc (by simp; omega) _
                · simp; omega
            · rw [if_neg hbad] at hEk
              have hcs : (k = 0) ∨ (0 < k ∧ k < 9 ∧ x ≠ 0) ∨ (k = 9 ∧ x ≤ 1 ∧ x ≠ 0) := by omega
              have hval := uE_val HB.out (by have := HW.out; omega) hEk
              rw [hfk] at hval
              have hlast := hRU.out.last hkw hkn' HX.out hbx.1 hx hval
              obtain ⟨rfl, rfl, hv⟩ := uS_good HP.out hEk hfk HU.out
              rw [hv] at hlast
              have HV := hid hlast
              clear hlast hv hval hEk hfk hbad
              rcases hcs with rfl | ⟨h1, h2, h3⟩ | ⟨rfl, h2, h3⟩
              · simp only [Nat.add_zero] at hcw hend
                go_wp2_with fail
                refine bodyPost_ret (v := .tuple #[.agg #[.slice (some ⟨g, o, none⟩) n c, .int .i64 (↑q + 1), .int .i64 0], .int .u64 (v : Nat)]) (by simp [results, Tryz.results57, go_sem, HV.out]) rfl ⟨by first | rfl | simp, ?_⟩
                exact (((Below.refl _ _).alloc (Nat.le_refl _) _).alloc (by simp) _).alloc (by simp; omega) _
              · go_wp2_with fail
                refine bodyPost_ret (v := .tuple #[.agg #[.slice (some ⟨g, o, none⟩) n c, .int .i64 (↑q + ↑k + 1), .int .i64 0], .int .u64 (v : Nat)]) (by simp [results, Tryz.results57, go_sem, HV.out]) rfl ⟨by first | rfl | simp, ?_⟩
                exact (((Below.refl _ _).alloc (Nat.le_refl _) _).alloc (by simp) _).alloc (by simp; omega) _
              · have hd1 : decide (1 < x) = false := by simp; omega
                have hd2 : (x == 0) = false := by simp; omega
                have hd3 : decide (x = 0) = false := by simp; omega
                clear h2 h3
                go_wp2_with fail
                refine bodyPost_ret (v := .tuple #[.agg #[.slice (some ⟨g, o, none⟩) n c, .int .i64 (↑q + 9 + 1), .int .i64 0], .int .u64 (v : Nat)]) (by simp [results, Tryz.results57, go_sem, HV.out]) rfl ⟨by first | rfl | simp, ?_⟩
                exact (((Below.refl _ _).alloc (Nat.le_refl _) _).alloc (by simp) _).alloc (by simp; omega) _
          · have hx128 : 128 ≤ x := by omega
            have hst := hRU.out.step hkw HX.out hx128 hbx.2
            have HST := hid hst
            have HN2 := hid (HN.out hx128)
            clear hst hx
            go_wp2
            go_round
            case rel => exact ⟨k + 1, _, _, by omega, HN2, by go_num, rfl, rfl, HST⟩
            case measure => simp [intOf]; omega
  · have hrg : ¬ Rgt n p er := fun h => hr ⟨h.1, h.2.1, by have := h.2.2; omega⟩
    rw [uintS_no hr] at hu
    simp only [Prod.mk.injEq] at hu
    obtain ⟨rfl, he, rfl⟩ := hu
    have HE := hid he
    clear he hr hl
    go_enter Tryz.func57, Tryz.ntmps57
    go_wp2_with fail
    with_reducible refine (Right_no hrg _).mono ?_
    rintro e w' ⟨rfl, rfl⟩
    go_wp2_with fail
    with_reducible refine (stays_any HE.out _).mono ?_
    rintro e w1 ⟨rfl, hbel⟩
    obtain ⟨hcl, hfz⟩ := below_cells hbel
    go_wp2_with fail
    refine bodyPost_ret (v := .tuple #[.agg #[.slice A n c, .int .i64 p, .int .i64 e'], .int .u64 (0 : Nat)]) (by simp [results, Tryz.results57, go_sem, hcl]) rfl ⟨rfl, ?_⟩
    refine Below.setCell (Below.setCell (Below.setCell (Below.trans ?_ (hbel.mono ?_)) (by simp) _) (by simp) _) (by simp) _
    · exact (((Below.refl _ _).alloc (Nat.le_refl _) _).alloc (by simp) _).alloc (by simp; omega) _
    · simp; omega
end Go.Proofs.YtondnbnaoacanaaGreatDoor
/- Contracts of layer 3 (wire) and of its reference: signed numbers that are read. -/
namespace Go.Proofs.YtondnbnaoacanaaGreatDoor
open Go.ChangeShapes Go.WideShapes Go.ChangeAt Go.RowKit Fb

end Go.Proofs.YtondnbnaoacanaaGreatDoor
