/- The walk of FrameRight. -/
import Derived.Test.YtdkioecokpgcnaaFrame4
import Derived.Test.YtdkioecokpgcnaaFrameA
import Derived.Test.YtdkioecokpgcnaaArg8
namespace Go.Proofs.Ytdkioecokpgcnaa
open Go.ChangeShapes Go.WideShapes Go.ChangeAt Go.RowKit Fb

set_option maxRecDepth 100000 in
set_option maxHeartbeats 16000000 in
theorem right_walk (k p : Int) {A1 A2 : Option Addr} {n1 n2 c1 c2 : Nat} {z1 z2 : List Int} (w : World) (h1 : Arg8 w A1 n1 c1 z1) (h2 : Arg8 w A2 n2 c2 z2) :
    Calls Try.prog 3 #[.int .i64 k, .slice A1 n1 c1, .slice A2 n2 c2, .int .i64 p] w fun e w' => e = .returned (.bool true) ∧ Below w.heap.size w w' := by
  by_cases g1 : 3000 < n1
  · have d1 : decide ((3000 : Int) < (n1 : Int)) = true := decide_eq_true (by omega)
    clear h1 h2
    go_enter Try.func3, Try.ntmps3
    go_wp2_with fail
    refine (awake8 _).mono ?_
    rintro e w1 ⟨rfl, hb1⟩
    go_wp2_with fail
    go_ret
    exact ⟨rfl, hb1⟩
  · have d1 : decide ((3000 : Int) < (n1 : Int)) = false := decide_eq_false (by omega)
    by_cases g2 : 3000 < n2
    · have d2 : decide ((3000 : Int) < (n2 : Int)) = true := decide_eq_true (by omega)
      clear h1 h2
      go_enter Try.func3, Try.ntmps3
      go_wp2_with fail
      refine (awake8 _).mono ?_
      rintro e w1 ⟨rfl, hb1⟩
      go_wp2_with fail
      go_ret
      exact ⟨rfl, hb1⟩
    · have d2 : decide ((3000 : Int) < (n2 : Int)) = false := decide_eq_false (by omega)
      have PP := hid (fun (w1 : World) (h : Below w.heap.size w w1) => FPut_any k (h1.rw.below h) h1.bytes)
      have PN := hid (fun (w1 : World) (h : Below w.heap.size w w1) => FNext_any p (h2.rw.below h) h2.bytes)
      have PR := hid (fun (w1 : World) (h : Below w.heap.size w w1) => RFNext_any p (h2.rw.below h) h2.bytes)
      have L1 := hid h1.len
      have H1 := hid h1
      unfold FPuts at PP
      unfold FNext at PN
      unfold RFNext at PR
      obtain ⟨S, hS⟩ : ∃ S, nxS z2 p = S := ⟨_, rfl⟩
      obtain ⟨K7, hK⟩ : ∃ S, nxK z2 p = S := ⟨_, rfl⟩
      obtain ⟨P7, hP⟩ : ∃ S, nxP z2 p = S := ⟨_, rfl⟩
      obtain ⟨N7, hN⟩ : ∃ S, nxN z2 p = S := ⟨_, rfl⟩
      rw [hS, hK, hP, hN] at PN PR
      clear h1 h2 hS hK hP hN
      by_cases k1 : k < 1
      · have q1 : decide (k < 1) = true := decide_eq_true k1
        rw [fpB_no (zs := z1) (by rw [fpE_kind (Or.inl k1)]; decide), fpE_kind (Or.inl k1)] at PP
        clear k1
        go_enter Try.func3, Try.ntmps3
        go_wp2_with fail
        refine (awake8 _).mono ?_
        rintro e w1 ⟨rfl, hb1⟩
        go_wp2_with fail
        refine (PP.out _ hb1).mono ?_
        rintro e w2 ⟨⟨v, rfl, hown⟩, hb2⟩
        obtain ⟨A3, c3, rfl, -, -⟩ := own_rw hown
        have hbB : Below w.heap.size w w2 := hb1.trans (hb2.mono hb1.size)
        clear hown
        go_wp2_with fail
        refine (PN.out _ hbB).mono ?_
        rintro e w5 ⟨⟨A5, c5, rfl, hR5⟩, hb5⟩
        have hbF : Below w.heap.size w w5 := (hbB).trans (hb5.mono (hbB).size)
        go_wp2_with fail
        refine (PR.out _ hbF).mono ?_
        rintro e w6 ⟨⟨A6, c6, rfl, hR6⟩, hb6⟩
        have hbG : Below w.heap.size w w6 := hbF.trans (hb6.mono hbF.size)
        have hal : Below w6.heap.size w6 (w6.alloc (.cells #[.int .i64 S, .int .i64 K7, .slice A6 P7.length c6, .int .i64 N7] 31)) := (Below.refl _ _).alloc (Nat.le_refl _) _
        have cv1 := conv8 c5 ((hR5.below hb6).below hal).1
        have cv2 := conv8 c6 (hR6.below hal).1
        clear PN PR PP hR5 hR6
        go_wp2_with fail
        go_ret
        exact ⟨rfl, hbG.trans (hal.mono hbG.size)⟩
      · have q1 : decide (k < 1) = false := decide_eq_false k1
        by_cases k3 : 3 < k
        · have q3 : decide (3 < k) = true := decide_eq_true k3
          rw [fpB_no (zs := z1) (by rw [fpE_kind (Or.inr k3)]; decide), fpE_kind (Or.inr k3)] at PP
          clear k1 k3
          go_enter Try.func3, Try.ntmps3
          go_wp2_with fail
          refine (awake8 _).mono ?_
          rintro e w1 ⟨rfl, hb1⟩
          go_wp2_with fail
          refine (PP.out _ hb1).mono ?_
          rintro e w2 ⟨⟨v, rfl, hown⟩, hb2⟩
          obtain ⟨A3, c3, rfl, -, -⟩ := own_rw hown
          have hbB : Below w.heap.size w w2 := hb1.trans (hb2.mono hb1.size)
          clear hown
          go_wp2_with fail
          refine (PN.out _ hbB).mono ?_
          rintro e w5 ⟨⟨A5, c5, rfl, hR5⟩, hb5⟩
          have hbF : Below w.heap.size w w5 := (hbB).trans (hb5.mono (hbB).size)
          go_wp2_with fail
          refine (PR.out _ hbF).mono ?_
          rintro e w6 ⟨⟨A6, c6, rfl, hR6⟩, hb6⟩
          have hbG : Below w.heap.size w w6 := hbF.trans (hb6.mono hbF.size)
          have hal : Below w6.heap.size w6 (w6.alloc (.cells #[.int .i64 S, .int .i64 K7, .slice A6 P7.length c6, .int .i64 N7] 31)) := (Below.refl _ _).alloc (Nat.le_refl _) _
          have cv1 := conv8 c5 ((hR5.below hb6).below hal).1
          have cv2 := conv8 c6 (hR6.below hal).1
          clear PN PR PP hR5 hR6
          go_wp2_with fail
          go_ret
          exact ⟨rfl, hbG.trans (hal.mono hbG.size)⟩
        · have q3 : decide (3 < k) = false := decide_eq_false k3
          have kk : ¬ (k < 1 ∨ 3 < k) := by omega
          by_cases k2 : 200 < n1
          · have q2 : decide ((200 : Int) < (n1 : Int)) = true := decide_eq_true (by omega)
            have k2l : 200 < z1.length := by rw [← L1.out]; exact k2
            rw [fpB_no (zs := z1) (by rw [fpE_many kk k2l]; decide), fpE_many kk k2l] at PP
            clear k1 k3 k2 kk k2l
            go_enter Try.func3, Try.ntmps3
            go_wp2_with fail
            refine (awake8 _).mono ?_
            rintro e w1 ⟨rfl, hb1⟩
            go_wp2_with fail
            refine (PP.out _ hb1).mono ?_
            rintro e w2 ⟨⟨v, rfl, hown⟩, hb2⟩
            obtain ⟨A3, c3, rfl, -, -⟩ := own_rw hown
            have hbB : Below w.heap.size w w2 := hb1.trans (hb2.mono hb1.size)
            clear hown
            go_wp2_with fail
            refine (PN.out _ hbB).mono ?_
            rintro e w5 ⟨⟨A5, c5, rfl, hR5⟩, hb5⟩
            have hbF : Below w.heap.size w w5 := (hbB).trans (hb5.mono (hbB).size)
            go_wp2_with fail
            refine (PR.out _ hbF).mono ?_
            rintro e w6 ⟨⟨A6, c6, rfl, hR6⟩, hb6⟩
            have hbG : Below w.heap.size w w6 := hbF.trans (hb6.mono hbF.size)
            have hal : Below w6.heap.size w6 (w6.alloc (.cells #[.int .i64 S, .int .i64 K7, .slice A6 P7.length c6, .int .i64 N7] 31)) := (Below.refl _ _).alloc (Nat.le_refl _) _
            have cv1 := conv8 c5 ((hR5.below hb6).below hal).1
            have cv2 := conv8 c6 (hR6.below hal).1
            clear PN PR PP hR5 hR6
            go_wp2_with fail
            go_ret
            exact ⟨rfl, hbG.trans (hal.mono hbG.size)⟩
          · have q2 : decide ((200 : Int) < (n1 : Int)) = false := decide_eq_false (by omega)
            have hE := fpE_ok (n := z1.length) kk (by rw [← L1.out]; omega)
            have hl7 : (frB k z1).length = n1 + 7 := by rw [frB_len, L1.out]
            rw [fpB_ok hE, hE, hl7] at PP
            have PQ := hid (fun (w1 : World) (h : Below w.heap.size w w1) => RFPut_any (H1.out.rw.below h) H1.out.bytes hE)
            unfold PutsB at PQ
            rw [hl7] at PQ
            generalize frB k z1 = F at *
            clear k1 k3 k2 kk hE hl7
            go_enter Try.func3, Try.ntmps3
            go_wp2_with fail
            refine (awake8 _).mono ?_
            rintro e w1 ⟨rfl, hb1⟩
            go_wp2_with fail
            refine (PP.out _ hb1).mono ?_
            rintro e w2 ⟨⟨v, rfl, hown⟩, hb2⟩
            obtain ⟨A3, c3, rfl, hR3, -⟩ := own_rw hown
            have hbB : Below w.heap.size w w2 := hb1.trans (hb2.mono hb1.size)
            have HR3 := hid hR3
            clear hown hR3
            go_wp2_with fail
            -- r6
            refine wp_region_env (A := fun vs => { tmps := #[Value.int IntKind.i64 k, Value.slice A1 n1 c1, Value.slice A2 n2 c2, Value.int IntKind.i64 p, undef, undef, undef, undef, Value.bool false, Value.slice A3 (n1 + 7) c3, Value.int IntKind.i64 0, undef, undef, undef, undef, undef, Value.bool true, Value.bool false, Value.slice A1 n1 c1, Value.int IntKind.i64 ↑n1, Value.bool false, Value.bool false, Value.slice A2 n2 c2, Value.int IntKind.i64 ↑n2, Value.bool false, Value.bool false, Value.tuple #[Value.slice A3 (n1 + 7) c3, Value.int IntKind.i64 0], Value.int IntKind.i64 k, Value.slice A1 n1 c1, Value.tuple #[Value.slice A3 (n1 + 7) c3, Value.int IntKind.i64 0], Value.slice A3 (n1 + 7) c3, Value.int IntKind.i64 0, vs 0, vs 1, vs 2, vs 3, vs 4, vs 5, vs 6, vs 7, vs 8, vs 9, vs 10, Value.bool false, Value.int IntKind.i64 k, Value.bool false, Value.bool false, Value.int IntKind.i64 k, Value.bool false, Value.bool false, undef, undef, undef, undef, undef, undef, undef, Value.bool false, Value.slice A1 n1 c1, Value.int IntKind.i64 ↑n1, Value.bool false, undef, undef, undef, undef, undef, undef, undef, undef, undef, undef, undef, undef, undef, undef, undef, undef, undef, undef, undef, undef, undef, undef, undef, undef, undef, undef, undef, undef, undef, undef, undef, undef, undef, undef, undef, undef, undef, undef, undef, undef, undef, undef], defers := [] }) (E := fun i yv wq => match i with | 0 => yv = .int .i64 0 | 1 => yv = .bool false | 2 => yv = .bool false | 3 => yv = .slice A3 (n1 + 7) c3 | 4 => yv = .string (strOfNums F) | 5 => yv = .int .i64 k | 6 => yv = .slice A1 n1 c1 | 7 => ∃ A4 c4, yv = .slice A4 (n1 + 7) c4 ∧ Rw wq A4 (n1 + 7) c4 F | 8 => yv = .string (strOfNums F) | 9 => yv = .bool false | 10 => yv = .bool false | _ => True) (C := fun wq => Below w2.heap.size w2 wq) (Ext := fun a b => Below a.heap.size a b) (fun _ => undef) (by kernel_rfl) (by rfl) ?hC ?hstep ?hstab (low_of (by kernel_rfl)) ?hend
            case hC => exact Below.drew (Below.refl _ _)
            case hstab =>
              intro i yv wa wb hx h
              match i, h with
              | 0, h => exact h
              | 1, h => exact h
              | 2, h => exact h
              | 3, h => exact h
              | 4, h => exact h
              | 5, h => exact h
              | 6, h => exact h
              | 7, h => exact (by obtain ⟨A4, c4, h1, h2⟩ := h; exact ⟨A4, c4, h1, h2.below hx⟩)
              | 8, h => exact h
              | 9, h => exact h
              | 10, h => exact h
              | (_ + 11), _ => trivial
            case hstep =>
              intro i o ho
              match i, ho with
              | 0, ho =>
                obtain rfl := Option.some.inj (show some _ = some o from ho)
                intro vs wq hC hE K hK
                go_simp
                have hh := hK.out (.int .i64 0) wq rfl (Below.refl _ _) hC
                simp only [upd, Nat.reduceEqDiff, ↓reduceIte] at hh
                exact hh
              | 1, ho =>
                obtain rfl := Option.some.inj (show some _ = some o from ho)
                intro vs wq hC hE K hK
                obtain d0 : vs 0 = .int .i64 0 := hE { on := 0, ground := Ground.data } (by simp) rfl
                go_simp
                have hh := hK.out (.bool false) wq rfl (Below.refl _ _) hC
                simp only [upd, Nat.reduceEqDiff, ↓reduceIte, d0] at hh
                exact hh
              | 2, ho =>
                obtain rfl := Option.some.inj (show some _ = some o from ho)
                intro vs wq hC hE K hK
                obtain d1 : vs 1 = .bool false := hE { on := 1, ground := Ground.data } (by simp) rfl
                go_simp
                have hh := hK.out (.bool false) wq rfl (Below.refl _ _) hC
                simp only [upd, Nat.reduceEqDiff, ↓reduceIte, d1] at hh
                exact hh
              | 3, ho =>
                obtain rfl := Option.some.inj (show some _ = some o from ho)
                intro vs wq hC hE K hK
                obtain d2 : vs 2 = .bool false := hE { on := 2, ground := Ground.guard } (by simp) rfl
                go_simp
                have hh := hK.out (.slice A3 (n1 + 7) c3) wq rfl (Below.refl _ _) hC
                simp only [upd, Nat.reduceEqDiff, ↓reduceIte, d2] at hh
                exact hh
              | 4, ho =>
                obtain rfl := Option.some.inj (show some _ = some o from ho)
                intro vs wq hC hE K hK
                obtain d3 : vs 3 = .slice A3 (n1 + 7) c3 := hE { on := 3, ground := Ground.data } (by simp) rfl
                obtain d2 : vs 2 = .bool false := hE { on := 2, ground := Ground.guard } (by simp) rfl
                have cv := conv8 c3 (HR3.out.below hC).1
                go_simp
                have hh := hK.out (.string (strOfNums F)) wq rfl (Below.refl _ _) hC
                simp only [upd, Nat.reduceEqDiff, ↓reduceIte, d2, d3] at hh
                exact hh
              | 5, ho =>
                obtain rfl := Option.some.inj (show some _ = some o from ho)
                intro vs wq hC hE K hK
                obtain d2 : vs 2 = .bool false := hE { on := 2, ground := Ground.guard } (by simp) rfl
                go_simp
                have hh := hK.out (.int .i64 k) wq rfl (Below.refl _ _) hC
                simp only [upd, Nat.reduceEqDiff, ↓reduceIte, d2] at hh
                exact hh
              | 6, ho =>
                obtain rfl := Option.some.inj (show some _ = some o from ho)
                intro vs wq hC hE K hK
                obtain d2 : vs 2 = .bool false := hE { on := 2, ground := Ground.guard } (by simp) rfl
                go_simp
                have hh := hK.out (.slice A1 n1 c1) wq rfl (Below.refl _ _) hC
                simp only [upd, Nat.reduceEqDiff, ↓reduceIte, d2] at hh
                exact hh
              | 7, ho =>
                obtain rfl := Option.some.inj (show some _ = some o from ho)
                intro vs wq hC hE K hK
                obtain d5 : vs 5 = .int .i64 k := hE { on := 5, ground := Ground.data } (by simp) rfl
                obtain d6 : vs 6 = .slice A1 n1 c1 := hE { on := 6, ground := Ground.data } (by simp) rfl
                obtain d2 : vs 2 = .bool false := hE { on := 2, ground := Ground.guard } (by simp) rfl
                go_simp
                go_at_call 7
                refine (PQ.out wq (hbB.trans (hC.mono hbB.size))).mono ?_
                rintro e w3 ⟨⟨v', rfl, hown⟩, hb3⟩
                obtain ⟨A4, c4, rfl, hR4, -⟩ := own_rw hown
                have hh := hK.out (.slice A4 (n1 + 7) c4) w3 ⟨A4, c4, rfl, hR4⟩ hb3 (hC.trans (hb3.mono hC.size))
                simp only [upd, Nat.reduceEqDiff, ↓reduceIte, d2, d5, d6] at hh
                exact hh
              | 8, ho =>
                obtain rfl := Option.some.inj (show some _ = some o from ho)
                intro vs wq hC hE K hK
                obtain ⟨A4, c4, d7, hR4⟩ : ∃ A4 c4, vs 7 = .slice A4 (n1 + 7) c4 ∧ Rw wq A4 (n1 + 7) c4 F := hE { on := 7, ground := Ground.data } (by simp) rfl
                obtain d2 : vs 2 = .bool false := hE { on := 2, ground := Ground.guard } (by simp) rfl
                have cv := conv8 c4 hR4.1
                go_simp
                have hh := hK.out (.string (strOfNums F)) wq rfl (Below.refl _ _) hC
                simp only [upd, Nat.reduceEqDiff, ↓reduceIte, d2, d7] at hh
                exact hh
              | 9, ho =>
                obtain rfl := Option.some.inj (show some _ = some o from ho)
                intro vs wq hC hE K hK
                obtain d4 : vs 4 = .string (strOfNums F) := hE { on := 4, ground := Ground.data } (by simp) rfl
                obtain d8 : vs 8 = .string (strOfNums F) := hE { on := 8, ground := Ground.data } (by simp) rfl
                obtain d2 : vs 2 = .bool false := hE { on := 2, ground := Ground.guard } (by simp) rfl
                go_simp
                have hh := hK.out (.bool false) wq rfl (Below.refl _ _) hC
                simp only [upd, Nat.reduceEqDiff, ↓reduceIte, d2, d4, d8] at hh
                exact hh
              | 10, ho =>
                obtain rfl := Option.some.inj (show some _ = some o from ho)
                intro vs wq hC hE K hK
                obtain d2 : vs 2 = .bool false := hE { on := 2, ground := Ground.data } (by simp) rfl
                obtain d9 : vs 9 = .bool false := hE { on := 9, ground := Ground.data } (by simp) rfl
                go_simp
                have hh := hK.out (.bool false) wq rfl (Below.refl _ _) hC
                simp only [upd, Nat.reduceEqDiff, ↓reduceIte, d2, d9] at hh
                exact hh
              | (_ + 11), ho => exact absurd ho (by simp)
            case hend =>
              intro va wq0 hC hE
              have r10 : va 10 = .bool false := hE 10 (by decide)
              have hbC : Below w.heap.size w wq0 := hbB.trans (hC.mono hbB.size)
              clear hE PQ HR3
              simp only [r10]
              go_wp2_with fail
              refine (PN.out _ hbC).mono ?_
              rintro e w5 ⟨⟨A5, c5, rfl, hR5⟩, hb5⟩
              have hbF : Below w.heap.size w w5 := (hbC).trans (hb5.mono (hbC).size)
              go_wp2_with fail
              refine (PR.out _ hbF).mono ?_
              rintro e w6 ⟨⟨A6, c6, rfl, hR6⟩, hb6⟩
              have hbG : Below w.heap.size w w6 := hbF.trans (hb6.mono hbF.size)
              have hal : Below w6.heap.size w6 (w6.alloc (.cells #[.int .i64 S, .int .i64 K7, .slice A6 P7.length c6, .int .i64 N7] 31)) := (Below.refl _ _).alloc (Nat.le_refl _) _
              have cv1 := conv8 c5 ((hR5.below hb6).below hal).1
              have cv2 := conv8 c6 (hR6.below hal).1
              clear PN PR PP hR5 hR6
              go_wp2_with fail
              go_ret
              exact ⟨rfl, hbG.trans (hal.mono hbG.size)⟩
            -- endr6
end Go.Proofs.Ytdkioecokpgcnaa
