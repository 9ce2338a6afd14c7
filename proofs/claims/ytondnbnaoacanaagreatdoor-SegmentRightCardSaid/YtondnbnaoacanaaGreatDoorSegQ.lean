/- Layer 9: contracts of Head and Seal. -/
import Derived.Test.YtondnbnaoacanaaGreatDoorSegU
namespace Go.Proofs.YtondnbnaoacanaaGreatDoor
open Go.ChangeShapes Go.WideShapes Go.ChangeAt Go.RowKit Fb Go.Maps

/-- bytes of the call's own, or why there are none -/
def SgR (w : World) (E : Int) (zs : List Int) (e : Ending) (w' : World) : Prop :=
  (∃ v, e = .returned (.tuple #[v, .int .i64 E]) ∧ w'.ownsRow w.heap.size 5 1 v zs.length (by8 zs) ∧ SprY Z8 w' v zs.length) ∧ Below w.heap.size w w'
theorem SgR.none {w w' : World} {E : Int} {zs : List Int} (hE : E = 1) (hz : zs = []) (hb : Below w.heap.size w w') : SgR w E zs (.returned (.tuple #[.slice none 0 0, .int .i64 1])) w' := by
  subst hE hz
  exact ⟨⟨_, rfl, ⟨rfl, .inl ⟨rfl, rfl⟩⟩, SprY.nil _ _⟩, hb⟩
theorem sI_fbx : sI ⟨#[102, 98, 120, 49]⟩ = [102, 98, 120, 49] := by decide
theorem sI_no : sI ⟨#[]⟩ = [] := by decide

set_option maxRecDepth 100000 in
set_option maxHeartbeats 4000000 in
theorem SHead_any (m q t : Int) {A : Option Addr} {n cp : Nat} {ss : List ByteArray} (hz : Ok9 ss) {w : World} (hR : Rs w A n cp ss) :
    Calls Tryz.prog 9 #[.int .i64 m, .agg #[.int .i64 q, .int .i64 t, .slice A n cp]] w (SgR w (hqE m ⟨q, t, ss⟩) (hqB m ⟨q, t, ss⟩)) := by
  have PN := hid (numbered_any m)
  have PR := hid (fun (w1 : World) (h : Below w.heap.size w w1) => CRight_any q t (cp := cp) hz (hR.below h).1 (Nat.le_refl _))
  have HLN := hid hR.len
  have hbA : Below w.heap.size w (w.alloc (.cells #[.int .i64 q, .int .i64 t, .slice A n cp] 24)) := (Below.refl _ _).alloc (Nat.le_refl _) _
  clear hR hz
  cases h1 : mayB m with
  | false =>
    have H1 := hid (hq_no (n := m) (c := ⟨q, t, ss⟩) (by unfold hqOk; rw [h1]; rfl))
    rw [h1] at PN
    clear h1 PR
    go_enter Tryz.func9, Tryz.ntmps9
    go_wp2_with fail
    refine (PN.out _).mono ?_
    rintro e w1 ⟨rfl, rfl⟩
    go_wp2_with fail
    go_ret2
    exact SgR.none H1.out.1 H1.out.2 hbA
  | true =>
    rw [h1] at PN
    cases h2 : rcB q t ss with
    | false =>
      have H1 := hid (hq_no (n := m) (c := ⟨q, t, ss⟩) (by unfold hqOk Ahd.rc; simp only; rw [h1, h2]; rfl))
      rw [h2] at PR
      clear h1 h2
      go_enter Tryz.func9, Tryz.ntmps9
      go_wp2_with fail
      refine (PN.out _).mono ?_
      rintro e w1 ⟨rfl, rfl⟩
      go_wp2_with fail
      refine (PR.out _ hbA).mono ?_
      rintro e w2 ⟨rfl, hb1⟩
      go_wp2_with fail
      go_ret2
      exact SgR.none H1.out.1 H1.out.2 (hbA.trans (hb1.mono hbA.size))
    | true =>
      rw [h2] at PR
      by_cases h3 : n = 0
      · subst h3
        obtain rfl : ss = [] := List.eq_nil_of_length_eq_zero HLN.out.symm
        have hok : hqOk m ⟨q, t, []⟩ = true := by unfold hqOk Ahd.rc; simp only; rw [h1, h2]; rfl
        obtain ⟨hn, hr, -⟩ := hq_iff.1 hok
        have hq := rc_q hr
        simp only at hq
        obtain ⟨e1, e2⟩ := hq_yes hok
        rw [e1, e2]
        have hm1 := hn.1
        have hm2 := hn.2
        have HPL := hid (hp_len (c := ⟨q, t, []⟩) hn.2 hq.2.1 hq.2.2.2)
        have HL := hid (show ∀ x ∈ [m, q, t], 0 ≤ x ∧ x < 9223372036854775808 by
          intro x hx
          simp only [List.mem_cons, List.not_mem_nil, or_false] at hx
          omega)
        clear hok hr e1 e2 h1 h2 HLN hn hq
        go_enter Tryz.func9, Tryz.ntmps9
        go_wp2_with fail
        refine (PN.out _).mono ?_
        rintro e w1 ⟨rfl, rfl⟩
        go_wp2_with fail
        refine (PR.out _ hbA).mono ?_
        rintro e w2 ⟨rfl, hb1⟩
        have hbw2 : Below w.heap.size w w2 := hbA.trans (hb1.mono hbA.size)
        have K1 := (hb1.block w.heap.size (by simp)).trans (heap_alloc_new w _)
        have z1 := blk_lt K1
        obtain ⟨u10, u11, u12, f10, f11, f12⟩ := blk3 K1
        clear hb1 PN PR
        go_wp2_with fail
        refine (gspell_any ⟨#[102, 98, 120, 49]⟩ (by decide) (n := 3) (L := [m, q, t]) (Sl.freshAt w2 _ _ rfl (by simp) rfl rfl) (by omega) HL.out).mono ?_
        rintro e w3 ⟨⟨A3, n3, c3, rfl, hR3⟩, hb3⟩
        rw [sI_fbx, hp_lebs m ⟨q, t, []⟩] at hR3
        have HR3 := hid hR3
        have hbw3 : Below w.heap.size w w3 := (hbw2.alloc (hbw2.size) _).trans (hb3.mono (by simp; have := hbw2.size; omega))
        clear hR3 hb3 hbw2
        go_wp2_with fail
        refine (FPutU_any 1 HR3.out (hp_bytes _ _)).mono ?_
        rintro e w4 ⟨⟨v, rfl, hown, hsp⟩, hb4⟩
        have e1 := fpE_ok (k := 1) (by omega) HPL.out
        have e2 := fpB_ok e1
        rw [e2] at hown hsp
        rw [e1]
        have HO := hid (own_down hown hbw3.size)
        have HSP := hid hsp
        have hbw4 : Below w.heap.size w w4 := hbw3.trans (hb4.mono hbw3.size)
        clear hown hsp hb4 e1 e2
        go_wp2_with fail
        go_ret2
        exact ⟨⟨_, rfl, HO.out, HSP.out⟩, hbw4⟩
      · have hp0 : decide ((0 : Int) < (n : Int)) = true := decide_eq_true (by omega)
        have hp1 : 0 < n := by omega
        have H1 := hid (hq_no (n := m) (c := ⟨q, t, ss⟩) (by
          unfold hqOk Ahd.rc; simp only; rw [h1, h2]
          cases ss with
          | nil => exact absurd HLN.out h3
          | cons a l => rfl))
        clear h1 h2 HLN
        go_enter Tryz.func9, Tryz.ntmps9
        go_wp2_with fail
        refine (PN.out _).mono ?_
        rintro e w1 ⟨rfl, rfl⟩
        go_wp2_with fail
        refine (PR.out _ hbA).mono ?_
        rintro e w2 ⟨rfl, hb1⟩
        have hbw2 : Below w.heap.size w w2 := hbA.trans (hb1.mono hbA.size)
        have K1 := (hb1.block w.heap.size (by simp)).trans (heap_alloc_new w _)
        have z1 := blk_lt K1
        obtain ⟨u10, u11, u12, f10, f11, f12⟩ := blk3 K1
        clear hb1 PN PR
        go_wp2_with fail
        go_ret2
        exact SgR.none H1.out.1 H1.out.2 hbw2

set_option maxRecDepth 100000 in
set_option maxHeartbeats 4000000 in
theorem SSeal_any (m q t : Int) (hm : m ≤ 9223372036854775807) {A : Option Addr} {n cp : Nat} {ss : List ByteArray} (hz : Ok9 ss) {w : World} (hR : Rs w A n cp ss) :
    Calls Tryz.prog 11 #[.int .i64 m, .agg #[.int .i64 q, .int .i64 t, .slice A n cp]] w (SgR w (zqE m ⟨q, t, ss⟩) (zqB m ⟨q, t, ss⟩)) := by
  have PR := hid (fun (w1 : World) (h : Below w.heap.size w w1) => CRight_any q t (cp := cp) hz (hR.below h).1 (Nat.le_refl _))
  have hbA : Below w.heap.size w (w.alloc (.cells #[.int .i64 q, .int .i64 t, .slice A n cp] 24)) := (Below.refl _ _).alloc (Nat.le_refl _) _
  clear hR hz
  by_cases h1 : m < 0
  · have H1 := hid (zq_no (n := m) (c := ⟨q, t, ss⟩) (by unfold zqOk; rw [decide_eq_false (by omega)]; rfl))
    clear PR
    go_enter Tryz.func11, Tryz.ntmps11
    go_wp2_with fail
    go_ret2
    exact SgR.none H1.out.1 H1.out.2 hbA
  · cases h2 : rcB q t ss with
    | false =>
      have H1 := hid (zq_no (n := m) (c := ⟨q, t, ss⟩) (by unfold zqOk Ahd.rc; simp only; rw [h2, Bool.and_false]))
      rw [h2] at PR
      clear h2
      go_enter Tryz.func11, Tryz.ntmps11
      go_wp2_with fail
      refine (PR.out _ hbA).mono ?_
      rintro e w2 ⟨rfl, hb1⟩
      go_wp2_with fail
      go_ret2
      exact SgR.none H1.out.1 H1.out.2 (hbA.trans (hb1.mono hbA.size))
    | true =>
      rw [h2] at PR
      obtain ⟨k, rfl⟩ : ∃ k : Nat, m = (k : Int) := ⟨m.toNat, by omega⟩
      obtain ⟨e1, e2⟩ := zq_yes (n := (k : Int)) (c := ⟨q, t, ss⟩) (by unfold zqOk Ahd.rc; simp only; rw [h2, decide_eq_true (by omega)]; rfl)
      rw [e1, e2, Int.toNat_natCast]
      have hq := rc_q (c := ⟨q, t, ss⟩) h2
      simp only at hq
      have HPL := hid (zp_len (m := k) (c := ⟨q, t, ss⟩) (by omega) hq.2.1 hq.2.2.2)
      have HL := hid (show ∀ x ∈ [(k : Int), q, t], 0 ≤ x ∧ x < 9223372036854775808 by
        intro x hx
        simp only [List.mem_cons, List.not_mem_nil, or_false] at hx
        omega)
      clear e1 e2 h2 hq h1 hm
      have h0k : decide ((k : Int) < 0) = false := decide_eq_false (by omega)
      go_enter Tryz.func11, Tryz.ntmps11
      go_wp2_with fail
      refine (PR.out _ hbA).mono ?_
      rintro e w2 ⟨rfl, hb1⟩
      have hbw2 : Below w.heap.size w w2 := hbA.trans (hb1.mono hbA.size)
      have K1 := (hb1.block w.heap.size (by simp)).trans (heap_alloc_new w _)
      have z1 := blk_lt K1
      obtain ⟨u10, u11, u12, f10, f11, f12⟩ := blk3 K1
      clear hb1 PR
      go_wp2_with fail
      refine (gspell_any ⟨#[]⟩ (by decide) (n := 3) (L := [(k : Int), q, t]) (Sl.freshAt w2 _ _ rfl (by simp) rfl rfl) (by omega) HL.out).mono ?_
      rintro e w3 ⟨⟨A3, n3, c3, rfl, hR3⟩, hb3⟩
      rw [sI_no, zp_lebs k ⟨q, t, ss⟩] at hR3
      have HR3 := hid hR3
      have hbw3 : Below w.heap.size w w3 := (hbw2.alloc (hbw2.size) _).trans (hb3.mono (by simp; have := hbw2.size; omega))
      clear hR3 hb3 hbw2
      go_wp2_with fail
      refine (FPutU_any 3 HR3.out (zp_bytes _ _)).mono ?_
      rintro e w4 ⟨⟨v, rfl, hown, hsp⟩, hb4⟩
      have e1 := fpE_ok (k := 3) (by omega) HPL.out
      have e2 := fpB_ok e1
      rw [e2] at hown hsp
      rw [e1]
      have HO := hid (own_down hown hbw3.size)
      have HSP := hid hsp
      have hbw4 : Below w.heap.size w w4 := hbw3.trans (hb4.mono hbw3.size)
      clear hown hsp hb4 e1 e2
      go_wp2_with fail
      go_ret2
      exact ⟨⟨_, rfl, HO.out, HSP.out⟩, hbw4⟩
end Go.Proofs.YtondnbnaoacanaaGreatDoor
