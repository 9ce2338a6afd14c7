/- The walk of FrameBack. -/
import Derived.Test.YtdkioecokpgcnaaFrameA
import Derived.BigQuiet
namespace Go.Proofs.Ytdkioecokpgcnaa
open Go.ChangeShapes Go.WideShapes Go.ChangeAt Go.RowKit Fb

/-- an argument of bytes -/
structure Arg8 (w : World) (A : Option Addr) (n c : Nat) (zs : List Int) : Prop where
  rw : Rw w A n c zs
  bytes : Bytes zs
theorem Arg8.len {w : World} {A : Option Addr} {n c : Nat} {zs : List Int} (h : Arg8 w A n c zs) : n = zs.length := by
  have := h.rw.1.len
  rw [by8_len] at this
  exact this.symm
theorem nx_tests {zs : List Int} {p : Int} {n : Nat} (hn : n = zs.length) : (nxS zs p == 1) = (p == (n : Int)) := by
  have := nx_end (zs := zs) (p := p)
  rw [Bool.eq_iff_iff, beq_iff_eq, beq_iff_eq, this, hn]

set_option maxRecDepth 100000 in
set_option maxHeartbeats 16000000 in
theorem back_walk (k p : Int) {A1 A2 A3 A4 : Option Addr} {n1 n2 n3 n4 c1 c2 c3 c4 : Nat} {z1 z2 z3 z4 : List Int} (w : World) (h1 : Arg8 w A1 n1 c1 z1) (h2 : Arg8 w A2 n2 c2 z2) (h3 : Arg8 w A3 n3 c3 z3) (h4 : Arg8 w A4 n4 c4 z4) :
    Calls Try.prog 4 #[.int .i64 k, .slice A1 n1 c1, .slice A2 n2 c2, .slice A3 n3 c3, .slice A4 n4 c4, .int .i64 p] w fun e w' => e = .returned (.bool true) ∧ Below w.heap.size w w' := by
  by_cases g1 : 3000 < n1
  · have d1 : decide ((3000 : Int) < (n1 : Int)) = true := decide_eq_true (by omega)
    clear h1 h2 h3 h4
    go_enter Try.func4, Try.ntmps4
    go_wp2_with fail
    refine (awake8 _).mono ?_
    rintro e w1 ⟨rfl, hb1⟩
    go_wp2_with fail
    go_ret
    exact ⟨rfl, hb1⟩
  · have d1 : decide ((3000 : Int) < (n1 : Int)) = false := decide_eq_false (by omega)
    by_cases g2 : 3000 < n2
    · have d2 : decide ((3000 : Int) < (n2 : Int)) = true := decide_eq_true (by omega)
      clear h1 h2 h3 h4
      go_enter Try.func4, Try.ntmps4
      go_wp2_with fail
      refine (awake8 _).mono ?_
      rintro e w1 ⟨rfl, hb1⟩
      go_wp2_with fail
      go_ret
      exact ⟨rfl, hb1⟩
    · have d2 : decide ((3000 : Int) < (n2 : Int)) = false := decide_eq_false (by omega)
      by_cases g3 : 3000 < n3
      · have d3 : decide ((3000 : Int) < (n3 : Int)) = true := decide_eq_true (by omega)
        clear h1 h2 h3 h4
        go_enter Try.func4, Try.ntmps4
        go_wp2_with fail
        refine (awake8 _).mono ?_
        rintro e w1 ⟨rfl, hb1⟩
        go_wp2_with fail
        go_ret
        exact ⟨rfl, hb1⟩
      · have d3 : decide ((3000 : Int) < (n3 : Int)) = false := decide_eq_false (by omega)
        by_cases g4 : 3000 < n4
        · have d4 : decide ((3000 : Int) < (n4 : Int)) = true := decide_eq_true (by omega)
          clear h1 h2 h3 h4
          go_enter Try.func4, Try.ntmps4
          go_wp2_with fail
          refine (awake8 _).mono ?_
          rintro e w1 ⟨rfl, hb1⟩
          go_wp2_with fail
          go_ret
          exact ⟨rfl, hb1⟩
        · have d4 : decide ((3000 : Int) < (n4 : Int)) = false := decide_eq_false (by omega)
          have PP := hid (fun (w1 : World) (h : Below w.heap.size w w1) => FPut_any k (h1.rw.below h) h1.bytes)
          have PN := hid (fun (w1 : World) (h : Below w.heap.size w w1) => FNext_any p (h4.rw.below h) h4.bytes)
          have L1 := hid h1.len
          have L2 := hid h2.len
          have L3 := hid h3.len
          have L4 := hid h4.len
          have H1 := hid h1
          have H2 := hid h2
          have H3 := hid h3
          have H4 := hid h4
          have HT := hid (nx_tests (zs := z4) (p := p) L4.out)
          unfold FPuts at PP
          unfold FNext at PN
          obtain ⟨E, hE⟩ : ∃ E, fpE k z1.length = E := ⟨_, rfl⟩
          rw [hE] at PP
          have HE := hid hE
          clear h1 h2 h3 h4 hE
          by_cases h0 : E = 0
          · subst h0
            obtain ⟨k1, k3, hn⟩ := fpE_zero HE.out
            rw [fpB_ok HE.out] at PP
            have HF := hid (frB_len k z1)
            have HFB := hid (frB_bytes (k := k) (zs := z1) (by omega) (by omega) H1.out.bytes)
            obtain ⟨x1, x2, x3, x4⟩ := nx_frame (zs := z1) (ahead := z2) (rest := z3) ⟨k1, k3⟩ hn
            rw [← L2.out] at x1 x2 x3 x4
            obtain ⟨F, hF⟩ : ∃ F, frB k z1 = F := ⟨_, rfl⟩
            rw [hF] at PP HF HFB x1 x2 x3 x4
            have hl7 : F.length = n1 + 7 := by rw [HF.out, L1.out]
            rw [hl7] at PP x4
            have HX := hid (And.intro x1 (And.intro x2 (And.intro x3 x4)))
            have HL7 := hid hl7
            have hn1 : n1 ≤ 200 := by rw [L1.out]; exact hn
            obtain ⟨i0, hi0, hz0, hz1, hz2⟩ := info_parts u8_info
            clear hn k1 k3 x1 x2 x3 x4 hF HF hl7
            go_enter Try.func4, Try.ntmps4
            go_wp2_with fail
            refine (awake8 _).mono ?_
            rintro e w1 ⟨rfl, hb1⟩
            go_wp2_with fail
            refine (PP.out _ hb1).mono ?_
            rintro e w2 ⟨⟨v, rfl, hown⟩, hb2⟩
            obtain ⟨A5, c5, rfl, hR5, -⟩ := own_rw hown
            have hbB : Below w.heap.size w w2 := hb1.trans (hb2.mono hb1.size)
            have HR5 := hid hR5
            have hbC : Below w.heap.size w (w2.alloc (.cells #[] 5)) := hbB.alloc hbB.size _
            have hbD : Below w2.heap.size w2 (w2.alloc (.cells #[] 5)) := (Below.refl _ _).alloc (Nat.le_refl _) _
            have S1 := hid ((H2.out.rw.below hbC).1)
            have nil2 := hid H2.out.rw.2.2.2
            have nil3 := hid H3.out.rw.2.2.2
            have nil5 := hid hR5.2.2.2
            clear hown hR5
            go_wp2_with ((first
              | (at_builtin; refine wpList_pushAll rfl (.tmp 54) (.tmp 55) _ rfl Try.underlying22 hi0 hz0 hz1 hz2 rfl rfl (own_fresh w2 #[] 5 (base := w2.heap.size) (n := 0) (xs := []) rfl (Nat.le_refl _) rfl rfl (Nat.zero_le _)) rfl nil2.out (m := n2) (news := by8 z2) S1.out (fun v3 w3 hown3 hb3 => ?_) (by8_one _) (by simp only [maxLen]; omega) (by omega) (by simp); have S2 := hid ((HR5.out.below (hbD.trans hb3)).1))
              | (at_builtin; refine wpList_pushAll rfl (.tmp 56) (.tmp 57) _ rfl Try.underlying22 hi0 hz0 hz1 hz2 rfl rfl hown3 rfl nil5.out (m := n1 + 7) (news := by8 F) S2.out (fun v4 w4 hown4 hb4 => ?_) (by8_one _) (by simp only [maxLen]; omega) (by omega) (hbD.trans hb3).size; have S3 := hid ((H3.out.rw.below (hbC.trans ((hb3.trans hb4).mono hbB.size))).1))
              | (at_builtin; refine wpList_pushAll rfl (.tmp 58) (.tmp 59) _ rfl Try.underlying22 hi0 hz0 hz1 hz2 rfl rfl hown4 rfl nil3.out (m := n3) (news := by8 z3) S3.out (fun v5 w5 hown5 hb5 => ?_) (by8_one _) (by simp only [maxLen]; omega) (by omega) ((hbD.trans hb3).trans hb4).size; have hbE : Below w.heap.size w w5 := (hbC.trans ((hb3.trans hb4).mono hbB.size)).trans (hb5.mono hbB.size))))
            obtain ⟨M, hM⟩ : ∃ M, 0 + n2 + (n1 + 7) + n3 = M := ⟨_, rfl⟩
            have e8 : [] ++ by8 z2 ++ by8 F ++ by8 z3 = by8 (z2 ++ F ++ z3) := by simp [by8]
            rw [hM, e8] at hown5
            obtain ⟨A6, c6, rfl, hR6, -⟩ := own_rw hown5
            have PN1 := hid (FNext_any (n2 : Int) hR6 (bytes_append (bytes_append H2.out.bytes HFB.out) H3.out.bytes))
            unfold FNext at PN1
            rw [HX.out.1, HX.out.2.1, HX.out.2.2.1, HX.out.2.2.2, ← L1.out] at PN1
            clear hown3 hown4 hown5 hR6 e8 hM S1 S2 S3 nil2 nil3 nil5 HX hi0 hz0 hz1 hz2
            refine PN1.out.mono ?_
            rintro e w6 ⟨⟨A9, c9, rfl, hR9⟩, hb6⟩
            have hbF : Below w.heap.size w w6 := hbE.trans (hb6.mono hbE.size)
            have cv1 := conv8 c9 hR9.1
            have cv2 := conv8 c1 (H1.out.rw.below hbF).1
            clear hR9
            go_wp2_with fail
            clear cv1 cv2
            refine (PN.out _ hbF).mono ?_
            rintro e w7 ⟨⟨A7, c7, rfl, hR7⟩, hb7⟩
            have hbG : Below w.heap.size w w7 := (hbF).trans (hb7.mono (hbF).size)
            have HR7 := hid hR7
            clear hR7
            by_cases hz : nxS z4 p = 0
            · obtain ⟨y1, y2, y3, y4, y5, y6⟩ := nx_whole hz
              have PQ := hid (FPut_any (nxK z4 p) HR7.out (fun x hx => H4.out.bytes x (by
                have e := (nx_yes hz).2.1
                rw [e] at hx
                exact List.mem_of_mem_drop (List.mem_of_mem_drop (List.mem_of_mem_take hx)))))
              have PB := hid (fpB_bytes (k := nxK z4 p) (zs := nxP z4 p) (fun x hx => H4.out.bytes x (by
                have e := (nx_yes hz).2.1
                rw [e] at hx
                exact List.mem_of_mem_drop (List.mem_of_mem_drop (List.mem_of_mem_take hx)))))
              unfold FPuts at PQ
              rw [fpB_ok y2] at PQ PB
              rw [y2] at PQ
              obtain ⟨q, rfl⟩ : ∃ q : Nat, p = (q : Int) := ⟨p.toNat, by omega⟩
              rw [Int.toNat_natCast] at y6
              obtain ⟨N, hN⟩ : ∃ N, (frB (nxK z4 (q : Int)) (nxP z4 (q : Int))).length = N := ⟨_, rfl⟩
              have hN7 : 7 ≤ N := by rw [← hN, frB_len]; omega
              rw [hN] at PQ y3
              rw [y3] at y4 y5 y6
              rw [Int.toNat_natCast] at y6
              rw [hz, y3]
              generalize frB (nxK z4 (q : Int)) (nxP z4 (q : Int)) = F7 at *
              generalize nxK z4 (q : Int) = K7 at *
              generalize nxP z4 (q : Int) = P7 at *
              have HY := hid y6
              have u1 : (q : Int) ≤ (n4 : Int) - (N : Int) := by have := L4.out; omega
              have u2 : (N : Int) ≤ (n4 : Int) := by have := L4.out; omega
              have u3 : (0 : Int) ≤ (q : Int) := by omega
              have u4 : (q : Int) ≤ (q : Int) + (N : Int) := by omega
              have u9 := H4.out.rw.2.1
              have u8 : c4 ≤ 9223372036854775807 := by have := H4.out.rw.2.2.1; unfold maxLen at this; omega
              have u5 : (q : Int) + (N : Int) ≤ (c4 : Int) := by omega
              have u6 : ((q : Int) + (N : Int)).toNat = q + N := by omega
              have u7 : (0 : Int) ≤ (q : Int) + (N : Int) := by omega
              clear y1 y2 y3 y4 y5 y6 hN HT PN PP
              have hn0 : 0 < n4 := by omega
              obtain ⟨b, o, rfl, hbB2, -⟩ := cell_at0 H4.out.rw.1 hn0
              have HU : ∀ w', Below w.heap.size w w' → Sl w' w.heap.size (some ⟨b, o + q, none⟩) N (by8 F7) := fun w' hb' => by
                have hD := (H4.out.rw.1.below hb').drop (k := q) (c := c4) (by omega) u9
                rw [if_neg (by omega)] at hD
                have hD2 := hD.take (k := N) (by omega)
                have e8 : ((by8 z4).drop q).take N = by8 F7 := by rw [← HY.out]; simp only [by8, List.map_take, List.map_drop]
                have ea : (⟨b, o, none⟩ : Addr).add q = ⟨b, o + q, none⟩ := by unfold Addr.add; split <;> simp_all
                rw [e8, Option.map_some, ea] at hD2
                exact hD2
              have HU9 := hid HU
              have u10 : ¬ c4 = q := by omega
              clear HU hn0
              go_wp2_with fail
              refine PQ.out.mono ?_
              rintro e w8 ⟨⟨v8, rfl, hown8⟩, hb8⟩
              obtain ⟨A8, c8, rfl, hR8, -⟩ := own_rw hown8
              have hbH : Below w.heap.size w w8 := hbG.trans (hb8.mono hbG.size)
              have cv3 := fun k => conv8 (w := w8.drewN k) c8 ⟨hR8.1.1, hR8.1.2⟩
              have cv4 := fun k => conv8 (w := w8.drewN k) (c4 - q) ⟨(HU9.out w8 hbH).1, (HU9.out w8 hbH).2⟩
              clear hown8 hR8
              go_wp2_with fail
              go_quiet (fail)
              go_wp2_with fail
              go_ret
              exact ⟨rfl, below_drewN hbH _⟩
            · obtain ⟨e1, e2, e3⟩ := nx_no hz
              have HT9 := HT.out
              rw [e1, e2, e3]
              obtain ⟨S, hS⟩ : ∃ S, nxS z4 p = S := ⟨_, rfl⟩
              rw [hS] at hz HT9 ⊢
              have dz : (S == 0) = false := by simpa using hz
              clear hS PN PP HT e1 e2 e3
              go_wp2_with fail
              go_ret
              exact ⟨rfl, hbG⟩
          · rw [fpB_no (by rw [HE.out]; exact h0)] at PP
            have dz : (E == 0) = false := by simpa using h0
            go_enter Try.func4, Try.ntmps4
            go_wp2_with fail
            refine (awake8 _).mono ?_
            rintro e w1 ⟨rfl, hb1⟩
            go_wp2_with fail
            refine (PP.out _ hb1).mono ?_
            rintro e w2 ⟨⟨v, rfl, hown⟩, hb2⟩
            have hbB : Below w.heap.size w w2 := hb1.trans (hb2.mono hb1.size)
            clear hown
            go_wp2_with fail
            refine (PN.out _ hbB).mono ?_
            rintro e w7 ⟨⟨A7, c7, rfl, hR7⟩, hb7⟩
            have hbG : Below w.heap.size w w7 := (hbB).trans (hb7.mono (hbB).size)
            have HR7 := hid hR7
            clear hR7
            by_cases hz : nxS z4 p = 0
            · obtain ⟨y1, y2, y3, y4, y5, y6⟩ := nx_whole hz
              have PQ := hid (FPut_any (nxK z4 p) HR7.out (fun x hx => H4.out.bytes x (by
                have e := (nx_yes hz).2.1
                rw [e] at hx
                exact List.mem_of_mem_drop (List.mem_of_mem_drop (List.mem_of_mem_take hx)))))
              have PB := hid (fpB_bytes (k := nxK z4 p) (zs := nxP z4 p) (fun x hx => H4.out.bytes x (by
                have e := (nx_yes hz).2.1
                rw [e] at hx
                exact List.mem_of_mem_drop (List.mem_of_mem_drop (List.mem_of_mem_take hx)))))
              unfold FPuts at PQ
              rw [fpB_ok y2] at PQ PB
              rw [y2] at PQ
              obtain ⟨q, rfl⟩ : ∃ q : Nat, p = (q : Int) := ⟨p.toNat, by omega⟩
              rw [Int.toNat_natCast] at y6
              obtain ⟨N, hN⟩ : ∃ N, (frB (nxK z4 (q : Int)) (nxP z4 (q : Int))).length = N := ⟨_, rfl⟩
              have hN7 : 7 ≤ N := by rw [← hN, frB_len]; omega
              rw [hN] at PQ y3
              rw [y3] at y4 y5 y6
              rw [Int.toNat_natCast] at y6
              rw [hz, y3]
              generalize frB (nxK z4 (q : Int)) (nxP z4 (q : Int)) = F7 at *
              generalize nxK z4 (q : Int) = K7 at *
              generalize nxP z4 (q : Int) = P7 at *
              have HY := hid y6
              have u1 : (q : Int) ≤ (n4 : Int) - (N : Int) := by have := L4.out; omega
              have u2 : (N : Int) ≤ (n4 : Int) := by have := L4.out; omega
              have u3 : (0 : Int) ≤ (q : Int) := by omega
              have u4 : (q : Int) ≤ (q : Int) + (N : Int) := by omega
              have u9 := H4.out.rw.2.1
              have u8 : c4 ≤ 9223372036854775807 := by have := H4.out.rw.2.2.1; unfold maxLen at this; omega
              have u5 : (q : Int) + (N : Int) ≤ (c4 : Int) := by omega
              have u6 : ((q : Int) + (N : Int)).toNat = q + N := by omega
              have u7 : (0 : Int) ≤ (q : Int) + (N : Int) := by omega
              clear y1 y2 y3 y4 y5 y6 hN HT PN PP
              have hn0 : 0 < n4 := by omega
              obtain ⟨b, o, rfl, hbB2, -⟩ := cell_at0 H4.out.rw.1 hn0
              have HU : ∀ w', Below w.heap.size w w' → Sl w' w.heap.size (some ⟨b, o + q, none⟩) N (by8 F7) := fun w' hb' => by
                have hD := (H4.out.rw.1.below hb').drop (k := q) (c := c4) (by omega) u9
                rw [if_neg (by omega)] at hD
                have hD2 := hD.take (k := N) (by omega)
                have e8 : ((by8 z4).drop q).take N = by8 F7 := by rw [← HY.out]; simp only [by8, List.map_take, List.map_drop]
                have ea : (⟨b, o, none⟩ : Addr).add q = ⟨b, o + q, none⟩ := by unfold Addr.add; split <;> simp_all
                rw [e8, Option.map_some, ea] at hD2
                exact hD2
              have HU9 := hid HU
              have u10 : ¬ c4 = q := by omega
              clear HU hn0
              go_wp2_with fail
              refine PQ.out.mono ?_
              rintro e w8 ⟨⟨v8, rfl, hown8⟩, hb8⟩
              obtain ⟨A8, c8, rfl, hR8, -⟩ := own_rw hown8
              have hbH : Below w.heap.size w w8 := hbG.trans (hb8.mono hbG.size)
              have cv3 := fun k => conv8 (w := w8.drewN k) c8 ⟨hR8.1.1, hR8.1.2⟩
              have cv4 := fun k => conv8 (w := w8.drewN k) (c4 - q) ⟨(HU9.out w8 hbH).1, (HU9.out w8 hbH).2⟩
              clear hown8 hR8
              go_wp2_with fail
              go_quiet (fail)
              go_wp2_with fail
              go_ret
              exact ⟨rfl, below_drewN hbH _⟩
            · obtain ⟨e1, e2, e3⟩ := nx_no hz
              have HT9 := HT.out
              rw [e1, e2, e3]
              obtain ⟨S, hS⟩ : ∃ S, nxS z4 p = S := ⟨_, rfl⟩
              rw [hS] at hz HT9 ⊢
              have dz : (S == 0) = false := by simpa using hz
              clear hS PN PP HT e1 e2 e3
              go_wp2_with fail
              go_ret
              exact ⟨rfl, hbG⟩
end Go.Proofs.Ytdkioecokpgcnaa
