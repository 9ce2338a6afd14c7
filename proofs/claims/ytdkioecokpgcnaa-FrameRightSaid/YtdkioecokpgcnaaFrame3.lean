/- Layer 8: contract of Next. -/
import Derived.Test.YtdkioecokpgcnaaFrame2
namespace Go.Proofs.Ytdkioecokpgcnaa
open Go.ChangeShapes Go.WideShapes Go.ChangeAt Go.RowKit Fb

theorem below_drewN {B : Nat} {w w' : World} (h : Below B w w') (k : Nat) : Below B w (w'.drewN k) := ⟨h.os, h.tape, h.output, h.size, h.block⟩
/-- 's[q:]' -/
theorem cut_at {w : World} {A : Option Addr} {n c q : Nat} {zs : List Int} (hS : Rw w A n c zs) (hq : q ≤ n) :
    ∃ A2 n2 c2, (q = c ∧ A2 = A ∧ n2 = 0 ∧ c2 = 0 ∨ c ≠ q ∧ A2 = A.map (·.add q) ∧ n2 = n - q ∧ c2 = c - q) ∧ Rw w A2 n2 c2 (zs.drop q) ∧ n2 + q = n := by
  have hD := hS.1.drop hq hS.2.1
  have e1 : (by8 zs).drop q = by8 (zs.drop q) := by simp [by8]
  rw [e1] at hD
  have h1 := hS.2.1
  have h2 := hS.2.2.1
  by_cases h : c = q
  · rw [if_pos h] at hD
    have e2 : n - q = 0 := by omega
    rw [e2] at hD
    exact ⟨A, 0, 0, .inl ⟨h.symm, rfl, rfl, rfl⟩, ⟨hD, Nat.le_refl _, Nat.zero_le _, fun _ => rfl⟩, by omega⟩
  · rw [if_neg h] at hD
    refine ⟨_, n - q, c - q, .inr ⟨h, rfl, rfl, rfl⟩, ⟨hD, by omega, by omega, fun h3 => ?_⟩, by omega⟩
    have : A = none := by cases A with | none => rfl | some a => simp at h3
    have := hS.2.2.2 this
    omega
/-- what stands there -/
def FNext (w : World) (zs : List Int) (p : Int) (e : Ending) (w' : World) : Prop :=
  (∃ A2 c2, e = .returned (.tuple #[.int .i64 (nxS zs p), .int .i64 (nxK zs p), .slice A2 (nxP zs p).length c2, .int .i64 (nxN zs p)]) ∧ Rw w' A2 (nxP zs p).length c2 (nxP zs p)) ∧ Below w.heap.size w w'
theorem Rw.nil (w : World) : Rw w none 0 0 [] := ⟨Sl.nil _ _ _, Nat.le_refl _, Nat.zero_le _, fun _ => rfl⟩
theorem FNext.none {w w' : World} {zs : List Int} {p E : Int} (h : nxS zs p = E) (h0 : E ≠ 0) (hb : Below w.heap.size w w') : FNext w zs p (.returned (.tuple #[.int .i64 E, .int .i64 0, .slice none 0 0, .int .i64 0])) w' := by
  obtain ⟨e1, e2, e3⟩ := nx_no (zs := zs) (p := p) (by rw [h]; exact h0)
  unfold FNext
  rw [h, e1, e2, e3]
  exact ⟨⟨_, _, rfl, Rw.nil w'⟩, hb⟩

set_option maxRecDepth 100000 in
set_option maxHeartbeats 4000000 in
theorem FNext_any {A : Option Addr} {n c : Nat} {zs : List Int} (p : Int) {w : World} (hS : Rw w A n c zs) (hb : Bytes zs) :
    Calls Try.prog 8 #[.slice A n c, .int .i64 p] w (FNext w zs p) := by
  have hl : n = zs.length := by have := hS.1.len; rw [by8_len] at this; exact this.symm
  by_cases h0 : p < 0
  · have E := hid (nx_out (zs := zs) (p := p) (Or.inl h0)).1
    clear hS hl
    go_enter Try.func8, Try.ntmps8
    go_wp2
    refine bodyPost_ret (v := .tuple #[.int .i64 3, .int .i64 0, .slice none 0 0, .int .i64 0]) (by simp [results, Try.results8, go_sem]) rfl ?_
    exact FNext.none E.out (by decide) (Below.refl _ _)
  · by_cases h1 : (n : Int) < p
    · have E := hid (nx_out (zs := zs) (p := p) (Or.inr (by omega))).1
      have hp : decide (p < 0) = false := decide_eq_false h0
      clear hS hl
      go_enter Try.func8, Try.ntmps8
      go_wp2
      refine bodyPost_ret (v := .tuple #[.int .i64 3, .int .i64 0, .slice none 0 0, .int .i64 0]) (by simp [results, Try.results8, go_sem]) rfl ?_
      exact FNext.none E.out (by decide) (Below.refl _ _)
    · obtain ⟨q, rfl⟩ : ∃ q : Nat, p = (q : Int) := ⟨p.toNat, by omega⟩
      have EI := hid (nx_in (zs := zs) (p := (q : Int)) (by omega))
      rw [Int.toNat_natCast] at EI
      obtain ⟨A2, n2, c2, hcs, hR, hn2⟩ := cut_at hS (show q ≤ n by omega)
      have hc1 := hS.2.1
      have hc2 := hS.2.2.1
      unfold maxLen at hc2
      have PF := hid (first_any hR (fun x hx => hb x (List.mem_of_mem_drop hx)))
      unfold FFirst at PF
      have HYB := hid (show Bytes (zs.drop q) from fun x hx => hb x (List.mem_of_mem_drop hx))
      have i1 : (0 : Int) ≤ (q : Int) := by omega
      have i2 : (q : Int) ≤ (n : Int) := by omega
      have hp : decide ((q : Int) < 0) = false := decide_eq_false h0
      have hp1 : decide ((n : Int) < (q : Int)) = false := decide_eq_false h1
      have HYL := hid (show (zs.drop q).length = n - q by rw [List.length_drop]; omega)
      clear hS hl hR h0 h1
      obtain ⟨E, hE⟩ : ∃ E, fiS (zs.drop q) = E := ⟨_, rfl⟩
      rw [hE] at PF
      have HE := hid hE
      have HES := hid (EI.out.trans hE)
      clear hE EI
      by_cases hz : E = 0
      · subst hz
        obtain ⟨y1, y2, y3, y4, y5⟩ := fi_zero HE.out
        have n7 : q + 7 ≤ n := by rw [HYL.out] at y1; omega
        have EB := hid (show fiB (zs.drop q) = (zs.drop q).take (7 + fsN (zs.drop q)) by unfold fiB; rw [if_pos HE.out])
        have EL := hid (show (fiB (zs.drop q)).length = 7 + fsN (zs.drop q) by rw [EB.out, List.length_take]; omega)
        rw [EB.out] at PF EL
        rw [EL.out] at PF
        obtain ⟨YK, YP, YN⟩ := nx_yes HES.out
        rw [Int.toNat_natCast] at YK YP YN
        have a2 : at0 ((zs.drop q).take (7 + fsN (zs.drop q))) 2 = at0 (zs.drop q) 2 := by unfold at0; rw [List.getElem?_take_of_lt (by omega)]
        have b2 := at0_byte HYB.out 2
        have HPL := hid (fsP_len y1)
        have HPP := hid (show (((zs.drop q).take (7 + fsN (zs.drop q))).drop 3).take (fsN (zs.drop q)) = fsP (zs.drop q) by
          unfold fsP
          rw [List.drop_take, List.take_take]
          congr 1
          omega)
        generalize zs.drop q = ys at *
        generalize fsN ys = m at *
        generalize hL : 7 + m = L at *
        have HY := hid (And.intro YK (And.intro YP YN))
        obtain ⟨x2, hx2⟩ : ∃ x, at0 ys 2 = x := ⟨_, rfl⟩
        rw [hx2] at a2 b2 HY
        have A2' := hid a2
        clear HYL y1 y2 y3 y4 y5 YK YP YN hx2 EB EL HYB a2
        have b2a := b2.1
        have b2b := b2.2
        clear b2
        rcases hcs with ⟨rfl, rfl, rfl, rfl⟩ | ⟨hne, rfl, rfl, rfl⟩
        · omega
        · clear n7
          go_enter Try.func8, Try.ntmps8
          go_wp2_with fail
          refine PF.out.mono ?_
          rintro e w1 ⟨⟨v, rfl, hown⟩, hb1⟩
          obtain ⟨A3, c3, rfl, hR, -⟩ := own_rw hown
          obtain ⟨b, o, rfl, hbB, hcell⟩ := cell_at0 hR.1 (by omega)
          have g2 := hcell 2 (by omega)
          rw [A2'.out] at g2
          have j1 : L ≤ c3 := hR.2.1
          have j2 : c3 ≤ 9223372036854775807 := by have := hR.2.2.1; unfold maxLen at this; omega
          have hT : Rw w1 (some ⟨b, o + 3, none⟩) m (c3 - 3) (fsP ys) := by
            have hD := hR.1.drop (k := 3) (c := c3) (by omega) j1
            rw [if_neg (by omega)] at hD
            have hD2 := hD.take (k := m) (by omega)
            have e8 : ((by8 (ys.take L)).drop 3).take m = by8 (fsP ys) := by rw [← HPP.out]; simp only [by8, List.map_take, List.map_drop]
            rw [e8] at hD2
            exact ⟨hD2, by omega, by unfold maxLen; omega, fun h => by cases h⟩
          have HT := hid hT
          have k1 : (2 : Int) < (L : Int) := by omega
          have k2 : (L : Int) - 4 = (m : Int) + 3 := by omega
          have k3 : (3 : Int) ≤ (m : Int) + 3 := by omega
          have k4 : (m : Int) + 3 ≤ (c3 : Int) := by omega
          have k5 : ((m : Int) + 3).toNat = m + 3 := by omega
          have k6 : ¬ c3 = 3 := by omega
          have HLL := hid hL
          clear hown hR hcell hT hL
          go_wp2_with fail
          go_region
          go_wp2
          refine bodyPost_ret (v := .tuple #[.int .i64 0, .int .i64 x2, .slice (some ⟨b, o + 3, none⟩) m (c3 - 3), .int .i64 L]) (by simp [results, Try.results8, go_sem]) rfl ?_
          have e9 : (7 + (m : Int)) = (L : Int) := by have := HLL.out; omega
          unfold FNext
          rw [HES.out, HY.out.1, HY.out.2.1, HY.out.2.2, HPL.out, e9]
          exact ⟨⟨_, _, rfl, HT.out⟩, Below.drew hb1⟩
      · have HN := hid (nx_no (zs := zs) (p := (q : Int)) (by rw [HES.out]; exact hz))
        clear HE HYB HYL
        rcases hcs with ⟨rfl, rfl, rfl, rfl⟩ | ⟨hne, rfl, rfl, rfl⟩
        · go_enter Try.func8, Try.ntmps8
          go_wp2_with fail
          refine PF.out.mono ?_
          rintro e w1 ⟨⟨v, rfl, -⟩, hb1⟩
          go_wp2_with fail
          refine bodyPost_ret (v := .tuple #[.int .i64 E, .int .i64 0, .slice none 0 0, .int .i64 0]) (by simp [results, Try.results8, go_sem]) rfl ?_
          exact FNext.none HES.out hz hb1
        · go_enter Try.func8, Try.ntmps8
          go_wp2_with fail
          refine PF.out.mono ?_
          rintro e w1 ⟨⟨v, rfl, -⟩, hb1⟩
          go_wp2_with fail
          refine bodyPost_ret (v := .tuple #[.int .i64 E, .int .i64 0, .slice none 0 0, .int .i64 0]) (by simp [results, Try.results8, go_sem]) rfl ?_
          exact FNext.none HES.out hz hb1
end Go.Proofs.Ytdkioecokpgcnaa
