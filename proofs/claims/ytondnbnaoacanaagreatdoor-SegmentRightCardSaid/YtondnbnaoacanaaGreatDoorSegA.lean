/- Layer 9: contracts of few and awake. -/
import Derived.Test.YtondnbnaoacanaaGreatDoorSegL
import Derived.Test.YtondnbnaoacanaaGreatDoorSegE
namespace Go.Proofs.YtondnbnaoacanaaGreatDoor
open Go.ChangeShapes Go.WideShapes Go.ChangeAt Go.RowKit Fb Go.Maps

def fwB (ss : List ByteArray) (l : List Ev) : Bool := l.all (fun x => decide (x.s.size ≤ 100)) && (shB ss && decide (l.length ≤ 60))
theorem fw_ok {ss : List ByteArray} {l : List Ev} (h : fwB ss l = true) : (∀ x ∈ l, x.s.size ≤ 100) ∧ shB ss = true ∧ l.length ≤ 60 := by
  unfold fwB at h
  rw [Bool.and_eq_true, Bool.and_eq_true, List.all_eq_true, decide_eq_true_eq] at h
  exact ⟨fun x hx => by simpa using h.1 x hx, h.2.1, h.2.2⟩
theorem fw_no {ss : List ByteArray} {l : List Ev} {j : Nat} {x : Ev} (h : l[j]? = some x) (hx : 100 < x.s.size) : fwB ss l = false := by
  unfold fwB
  have : l.all (fun x => decide (x.s.size ≤ 100)) = false := by
    rw [List.all_eq_false]
    exact ⟨x, List.mem_of_getElem? h, by simp; omega⟩
  rw [this]; rfl
set_option maxRecDepth 100000 in
set_option maxHeartbeats 4000000 in
theorem few_any (q t : Int) {A : Option Addr} {n cp : Nat} {ss : List ByteArray} {AL : Option Addr} {cl : Nat} {l : List Ev} (hl : l.length ≤ maxLen) {w : World} (hR : Rs w A n cp ss) (hS : Se w w.heap.size AL l) :
    Calls Tryz.prog 5 #[.agg #[.int .i64 q, .int .i64 t, .slice A n cp], .slice AL l.length cl] w fun e w' => e = .returned (.bool (fwB ss l)) ∧ Below w.heap.size w w' := by
  have PS := hid (fun (w1 : World) (h : Below w.heap.size w w1) => RShort_any (c := cp) (hR.below h).1 (Nat.le_trans hR.2.1 hR.2.2.1))
  have hbA : Below w.heap.size w (w.alloc (.cells #[.int .i64 q, .int .i64 t, .slice A n cp] 24)) := (Below.refl _ _).alloc (Nat.le_refl _) _
  have HK0 := hid (heap_alloc_new w (.cells #[.int .i64 q, .int .i64 t, .slice A n cp] 24))
  have HS := hid hS
  obtain ⟨L, hL⟩ : ∃ L, l.length = L := ⟨_, rfl⟩
  have HF : Hid (fwB ss l = (l.all (fun x => decide (x.s.size ≤ 100)) && (shB ss && decide (L ≤ 60)))) := by show _ = _; rw [← hL]; rfl
  rw [hL] at hl ⊢
  have HL := hid hL
  unfold maxLen at hl
  clear hR hS hL
  go_enter Tryz.func5, Tryz.ntmps5
  go_wp2
  go_loopw [5] (fun i wr => ∃ j : Nat, j ≤ L ∧ i = .int .i64 j ∧ Hid (∀ x ∈ l.take j, x.s.size ≤ 100) ∧ wr = w.alloc (.cells #[.int .i64 q, .int .i64 t, .slice A n cp] 24))
    (fun i _ => L - (intOf i).toNat)
  case atStart => exact ⟨0, Nat.zero_le _, rfl, hid (fun x hx => by simp at hx), rfl⟩
  case round =>
    obtain ⟨j, hj, rfl, hall, rfl⟩ := hrel
    by_cases hlt : j < L
    · have hjl : j < l.length := by have := HL.out; omega
      obtain ⟨b, o, rfl, hb, g0, g1, g2, g3, g4, g5, g6⟩ := (HS.out.below hbA).get hjl
      have HAT := hid (List.getElem?_eq_getElem hjl)
      clear g0 g1 g2 g4 g5 g6
      generalize l[j] = X at *
      by_cases h100 : 100 < X.s.size
      · have d : decide ((100 : Int) < (X.s.size : Int)) = true := decide_eq_true (by omega)
        have HN := hid (fw_no (ss := ss) HAT.out h100)
        go_wp2
        go_ret
        exact ⟨by rw [HN.out]; rfl, hbA⟩
      · have d : decide ((100 : Int) < (X.s.size : Int)) = false := decide_eq_false (by omega)
        go_wp2
        go_roundw
        case rel =>
          refine ⟨j + 1, by omega, by go_num, hid ?_, by first | rfl | trivial⟩
          intro x hx
          rw [List.take_add_one, HAT.out] at hx
          rcases List.mem_append.1 hx with h | h
          · exact hall.out x h
          · simp at h; subst h; omega
        case measure => simp [intOf]; omega
    · obtain rfl : j = L := by omega
      have HT : Hid (fwB ss l = (shB ss && decide (j ≤ 60))) := by
        show _ = _
        rw [HF.out]
        have : l.all (fun x => decide (x.s.size ≤ 100)) = true := by
          rw [List.all_eq_true]
          intro x hx
          have h := hall.out x (by rw [List.take_of_length_le (by have := HL.out; omega)]; exact hx)
          simpa using h
        rw [this]; rfl
      cases hsh : shB ss with
      | false =>
        rw [hsh] at PS HT
        go_wp2_with fail
        refine (PS.out _ hbA).mono ?_
        rintro e w1 ⟨rfl, rfl⟩
        go_wp2_with fail
        go_ret
        exact ⟨by rw [HT.out]; rfl, hbA⟩
      | true =>
        rw [hsh] at PS HT
        go_wp2_with fail
        refine (PS.out _ hbA).mono ?_
        rintro e w1 ⟨rfl, rfl⟩
        go_wp2_with fail
        go_ret
        exact ⟨by rw [HT.out]; simp; omega, hbA⟩

def x91 : Ev := ⟨4, 9, 4, ⟨#[100, 98]⟩, 1, 0, 0⟩
def x92 : Ev := ⟨5, 9, 7, ⟨#[113]⟩, 0, 0, 0⟩
def c90 : Ahd := ⟨3, 8, []⟩
theorem sg9 : Sg 7 c90 [x91, x92] := ⟨by unfold mayN; omega, by decide, rfl, by decide, by decide, trivial⟩
theorem mk9 : mkE 7 c90 [x91, x92] = 0 ∧ mkY 7 c90 [x91, x92] true = mkB 7 c90 [x91, x92] true := by
  have h : mkE 7 c90 [x91, x92] = 0 := by
    unfold mkE
    rw [if_pos (hq_iff.2 ⟨sg9.may, sg9.rc, sg9.nil⟩)]
    exact errL_ok.2 sg9.ok
  exact ⟨h, by unfold mkY; rw [if_pos h]⟩
theorem bh9 : (bhC c90 [x91, x92]).q = 5 := rfl
theorem mkB_bytes {n : Int} {c : Ahd} {l : List Ev} (h : Sg n c l) (hl : l.length < 18446744073709551616) (sd : Bool) : Bytes (mkB n c l sd) := by
  have ev : ∀ (l : List Ev) (c : Ahd), c.rc = true → okL c l → Bytes (evB c l) := by
    intro l
    induction l with
    | nil => intro c _ _ x hx; cases hx
    | cons x l ih =>
      intro c hr ok
      exact Bytes.app (frB_bytes (by omega) (by have := sp_200 hr ok.1; omega) (sp_bytes _ _ _ _)) (ih (c.nx x) (rc_next hr ok.1) ok.2)
  have q := rc_q h.rc
  have h1 : Bytes (sgH n c) := frB_bytes (by omega) (by have := hp_len h.may.2 q.2.1 q.2.2.2; omega) (hp_bytes _ _)
  unfold mkB
  refine Bytes.app (Bytes.app h1 (ev l c h.rc h.ok)) ?_
  split
  · exact zq_bytes hl (rc_bh h.rc h.ok)
  · intro x hx; cases hx
theorem mkB_room {n : Int} {c : Ahd} {l : List Ev} (h : Sg n c l) (hl : l.length ≤ 1000000) (sd : Bool) : (mkB n c l sd).length ≤ 207 + (207 * l.length + 207) := by
  have h1 := sgH_room h.may.2 h.rc
  have h2 := evB_room h.rc h.ok
  have h3 := sgZ_room (m := l.length) (by omega) (rc_bh h.rc h.ok)
  unfold mkB
  split
  · simp only [List.length_append]; omega
  · simp only [List.length_append, List.length_nil]; omega
theorem fin_tail {n : Int} {c : Ahd} {l : List Ev} (h : Sg n c l) (hl : l.length < 18446744073709551616) (r : List Int) : Fin (mkB n c l true ++ r) (whole n c l true) := ⟨reach_all h hl true r, no_sd rfl⟩
theorem st_tail (n : Int) (c : Ahd) (l : List Ev) (x : Int) : stS (mkB n c l true ++ [x]) (whole n c l true) = 3 := by
  have e : nxS (mkB n c l true ++ [x]) ((whole n c l true).size : Int) ≠ 1 := by
    intro h
    have := nx_end.1 h
    rw [List.length_append] at this
    have e2 : (whole n c l true).size = (mkB n c l true).length := rfl
    rw [e2] at this
    simp at this
    omega
  unfold stS
  rw [if_neg e, if_neg (fun h => by cases h.2)]
theorem nm7 : nmS 7 = ⟨#[115, 101, 103, 46, 48, 48, 48, 48, 48, 48, 48, 55]⟩ := by
  have h9 : Lib.nDigits (100000000 + 7) = 9 := by rw [← Lib.decDigits_length]; exact dec9 (by omega)
  have hd : dig8 7 = [48, 48, 48, 48, 48, 48, 48, 55] := by
    unfold dig8
    rw [Lib.decDigits_eq, h9]
    decide
  unfold nmS
  rw [if_pos (by decide)]
  show (⟨([115, 101, 103, 46] ++ dig8 7).toArray⟩ : ByteArray) = _
  rw [hd]
  rfl

set_option maxRecDepth 100000 in
set_option maxHeartbeats 16000000 in
theorem awake9 {w : World} (hT : Pw w) : Calls Tryz.prog 4 #[] w fun e w' => e = .returned (.bool true) ∧ Below w.heap.size w w' := by
  obtain ⟨XB, hXB⟩ : ∃ XB, mkB 7 c90 [x91, x92] true = XB := ⟨_, rfl⟩
  have hxb : Bytes XB := hXB ▸ mkB_bytes sg9 (by decide) true
  have hxl : XB.length ≤ 1000 := by have := mkB_room sg9 (by decide) true; rw [hXB] at this; simp at this; omega
  have HA := hid (show ∀ s, Fin XB s → s = whole 7 c90 [x91, x92] true ∧ stS XB s = 4 ∧ s.size = XB.length from fun s f => by
    have h1 := fin_all sg9 (by decide) true
    have h2 := st_all 7 c90 [x91, x92] true
    rw [hXB] at h1 h2
    obtain rfl := f.one h1
    exact ⟨rfl, h2, congrArg List.length hXB⟩)
  have HB := hid (show ∀ s, Fin (XB ++ [1]) s → stS (XB ++ [1]) s = 3 from fun s f => by
    have h1 := fin_tail sg9 (by decide) [1]
    have h2 := st_tail 7 c90 [x91, x92] 1
    rw [hXB] at h1 h2
    obtain rfl := f.one h1
    exact h2)
  have hal : Below w.heap.size w (w.alloc (.cells #[.int .i64 4, .int .i64 9, .int .i64 4, .string ⟨#[100, 98]⟩, .int .i64 1, .int .i64 0, .int .i64 0, .int .i64 5, .int .i64 9, .int .i64 7, .string ⟨#[113]⟩, .int .i64 0, .int .i64 0, .int .i64 0] 41)) := (Below.refl _ _).alloc (Nat.le_refl _) _
  have hSe : ∀ w1, Below (w.heap.size + 1) (w.alloc (.cells #[.int .i64 4, .int .i64 9, .int .i64 4, .string ⟨#[100, 98]⟩, .int .i64 1, .int .i64 0, .int .i64 0, .int .i64 5, .int .i64 9, .int .i64 7, .string ⟨#[113]⟩, .int .i64 0, .int .i64 0, .int .i64 0] 41)) w1 → Se w1 (w.heap.size + 1) (some ⟨w.heap.size, 0, none⟩) [x91, x92] := fun w1 h => Se.below (Sl.freshAt w _ _ rfl (by omega) rfl rfl) h
  have HSE := hid hSe
  have PM := hid (Make_any 7 3 8 (A := none) (n := 0) (cp := 0) (ss := []) ⟨by decide, fun s hs => by cases hs⟩ (AL := some ⟨w.heap.size, 0, none⟩) (cl := 2) (l := [x91, x92]) (by intro x hx; simp at hx; rcases hx with rfl | rfl <;> (unfold maxLen; decide)) (by decide) true (w := w.alloc (.cells #[.int .i64 4, .int .i64 9, .int .i64 4, .string ⟨#[100, 98]⟩, .int .i64 1, .int .i64 0, .int .i64 0, .int .i64 5, .int .i64 9, .int .i64 7, .string ⟨#[113]⟩, .int .i64 0, .int .i64 0, .int .i64 0] 41)) ⟨Sl.nil _ _ _, Nat.le_refl _, Nat.zero_le _, fun _ => rfl⟩ (by have := hSe _ (Below.refl _ _); rw [World.size_alloc]; exact this))
  unfold SgR at PM
  have e9 : (⟨3, 8, []⟩ : Ahd) = c90 := rfl
  rw [e9, mk9.1, mk9.2, hXB] at PM
  obtain ⟨i0, hi0, hz0, hz1, hz2⟩ := info_parts u8_info
  have HT := hid hT
  have HBY := hid hxb
  have HLN := hid hxl
  clear hXB hxb hxl hSe e9 hT
  go_enter Tryz.func4, Tryz.ntmps4
  go_wp2_with fail
  refine PM.out.mono ?_
  rintro e w1 ⟨⟨v, rfl, hown, -⟩, hb1⟩
  obtain ⟨A1, c1, rfl, hR1, -⟩ := own_rw hown
  have hbw1 : Below w.heap.size w w1 := hal.trans (hb1.mono hal.size)
  have hs1 : Below (w.heap.size + 1) (w.alloc (.cells #[.int .i64 4, .int .i64 9, .int .i64 4, .string ⟨#[100, 98]⟩, .int .i64 1, .int .i64 0, .int .i64 0, .int .i64 5, .int .i64 9, .int .i64 7, .string ⟨#[113]⟩, .int .i64 0, .int .i64 0, .int .i64 0] 41)) w1 := hb1.mono (by rw [World.size_alloc]; exact Nat.le_refl _)
  have HR1 := hid hR1
  have HS1 := hid hs1
  clear hown hR1 hb1 hs1 PM hal
  have PR := hid (Read_any HR1.out HBY.out (by have := HLN.out; omega))
  unfold ReadR at PR
  go_wp2_with fail
  refine PR.out.mono ?_
  rintro e w2 ⟨⟨s, AE, cE, A2, n2, c2, hf, rfl, hse, -, -, -, -⟩, hb2⟩
  obtain ⟨rfl, hst, hsz⟩ := HA.out s hf
  have hbw2 : Below w.heap.size w w2 := hbw1.trans (hb2.mono hbw1.size)
  have ev : scV (whole 7 c90 [x91, x92] true) 4 (.slice AE (whole 7 c90 [x91, x92] true).evs.length cE) (.slice A2 n2 c2) = #[.int .i64 7, .int .i64 3, .int .i64 8, .slice none 0 0, .slice AE 2 cE, .int .i64 5, .int .i64 9, .slice A2 n2 c2, .int .i64 4, .int .i64 (XB.length : Int)] := by
    unfold scV
    rw [hsz]
    rfl
  rw [hst, ev]
  have HE2 := hid (show Se w2 w2.heap.size AE [x91, x92] from hse)
  have HR2 := hid (HR1.out.below hb2)
  have HS2 := hid (HS1.out.trans (hb2.mono (by have := HS1.out.size; rw [World.size_alloc] at this; exact this)))
  clear ev hst hsz hse hf hb2 PR HA
  have hal2 : Below w2.heap.size w2 (w2.alloc (.cells #[.int .i64 7, .int .i64 3, .int .i64 8, .slice none 0 0, .slice AE 2 cE, .int .i64 5, .int .i64 9, .slice A2 n2 c2, .int .i64 4, .int .i64 (XB.length : Int)] 50)) := (Below.refl _ _).alloc (Nat.le_refl _) _
  have HK2 := hid (heap_alloc_new w2 (.cells #[.int .i64 7, .int .i64 3, .int .i64 8, .slice none 0 0, .slice AE 2 cE, .int .i64 5, .int .i64 9, .slice A2 n2 c2, .int .i64 4, .int .i64 (XB.length : Int)] 50))
  have hl1 := HLN.out
  go_wp2_with (first
    | (at_builtin; refine wpList_pushAll (B := w2.heap.size) rfl (.tmp 17) (.tmp 18) _ rfl Tryz.underlying26 hi0 hz0 hz1 hz2 rfl rfl (own_fresh (w2.alloc (.cells #[.int .i64 7, .int .i64 3, .int .i64 8, .slice none 0 0, .slice AE 2 cE, .int .i64 5, .int .i64 9, .slice A2 n2 c2, .int .i64 4, .int .i64 (XB.length : Int)] 50)) #[] 5 (base := w2.heap.size + 1) (n := 0) (xs := []) (by rw [World.size_alloc]) (Nat.le_refl _) rfl rfl (Nat.zero_le _)) rfl HR2.out.2.2.2 (m := XB.length) (news := by8 XB) (HR2.out.1.below (((Below.refl _ _).alloc (Nat.le_refl _) _).alloc (by simp) _)) (fun v3 w3 hown3 hbel3 => ?_) (by8_one XB) (by simp only [maxLen]; omega) (by omega) (by simp))
    | (at_builtin; refine wpList_push rfl (.tmp 19) (.tmp 20) 26 rfl Tryz.underlying26 hi0 hz0 hz1 hz2 rfl (by decide) rfl hown3 rfl rfl (fun v4 w4 hown4 hbel4 => ?_) (by simp [Value.oneCell']) (by simp [maxLen]; omega) (by omega) (by have := hbel3.size; simp at this; omega)))
  have hown4' : w4.ownsRow (w2.heap.size + 1) 5 1 v4 (XB ++ [1]).length (by8 (XB ++ [1])) := by
    rw [List.length_append]
    simpa [by8] using hown4
  obtain ⟨A5, c5, rfl, hR5, -⟩ := own_rw hown4'
  have hb24 : Below w2.heap.size w2 w4 := (((Below.refl _ _).alloc (Nat.le_refl _) _).alloc (by simp) _).trans ((hbel3.mono (by omega)).trans (hbel4.mono (by omega)))
  have K4 : w4.heap[w2.heap.size]? = some (.cells #[.int .i64 7, .int .i64 3, .int .i64 8, .slice none 0 0, .slice AE 2 cE, .int .i64 5, .int .i64 9, .slice A2 n2 c2, .int .i64 4, .int .i64 (XB.length : Int)] 50 (0, 0)) := (hbel4.block _ (by omega)).trans ((hbel3.block _ (by omega)).trans ((Below.heap_alloc _ _ _ (by simp)).trans HK2.out))
  have PR := hid (Read_any hR5 (Bytes.app HBY.out (fun x hx => by simp at hx; omega)) (by rw [List.length_append]; simp; omega))
  unfold ReadR at PR
  have hbw4 : Below w.heap.size w w4 := hbw2.trans (hb24.mono hbw2.size)
  have HE4 := hid ((HE2.out.below hb24).up hb24.size)
  have HS4 := hid (HS2.out.trans (hb24.mono (by have := HS2.out.size; rw [World.size_alloc] at this; exact this)))
  have HK4 := hid K4
  clear hown3 hbel3 hown4 hbel4 hown4' hR5 hb24 K4 HE2 HR2 HS2 HK2 hal2
  refine PR.out.mono ?_
  rintro e w5 ⟨⟨s5, AE5, cE5, A6, n6, c6, hf5, rfl, -, -, -, -, -⟩, hb5⟩
  have h3 := HB.out s5 hf5
  rw [h3]
  unfold scV
  have hbw5 : Below w.heap.size w w5 := hbw4.trans (hb5.mono hbw4.size)
  have hal5 : Below w5.heap.size w5 (w5.alloc (.cells #[.int .i64 s5.num, .int .i64 s5.before.q, .int .i64 s5.before.t, .slice none 0 0, .slice AE5 s5.evs.length cE5, .int .i64 s5.after.q, .int .i64 s5.after.t, .slice A6 n6 c6, .int .i64 3, .int .i64 (s5.size : Int)] 50)) := (Below.refl _ _).alloc (Nat.le_refl _) _
  have K5 := (hb5.block _ (blk_lt HK4.out)).trans HK4.out
  have y5 := blk_lt K5
  obtain ⟨u0, u1, u2, u3, u4, u5, u6, u7, u8, u9⟩ := blk10 K5
  have HK5 := hid K5
  have h45 : Below w4.heap.size w4 (w5.alloc (.cells #[.int .i64 s5.num, .int .i64 s5.before.q, .int .i64 s5.before.t, .slice none 0 0, .slice AE5 s5.evs.length cE5, .int .i64 s5.after.q, .int .i64 s5.after.t, .slice A6 n6 c6, .int .i64 3, .int .i64 (s5.size : Int)] 50)) := hb5.trans (hal5.mono hb5.size)
  have PS := hid (show Calls Tryz.prog 22 #[.slice AE 2 cE, .slice (some ⟨w.heap.size, 0, none⟩) 2 2] (w5.alloc (.cells #[.int .i64 s5.num, .int .i64 s5.before.q, .int .i64 s5.before.t, .slice none 0 0, .slice AE5 s5.evs.length cE5, .int .i64 s5.after.q, .int .i64 s5.after.t, .slice A6 n6 c6, .int .i64 3, .int .i64 (s5.size : Int)] 50)) _ from RSame5 (l := [x91, x92]) (c := cE) (c' := 2) (HE4.out.below h45) (HSE.out _ (HS4.out.trans (h45.mono (by have := HS4.out.size; rw [World.size_alloc] at this; exact this)))) h45.size (by have := HS4.out.size; rw [World.size_alloc] at this; have := h45.size; omega) (by decide))
  clear K5 hf5 h3 hb5 PR HB HK4
  go_wp2_with fail
  refine PS.out.mono ?_
  rintro e w6 ⟨rfl, hb6⟩
  have hbw5a := hbw5.trans (hal5.mono hbw5.size)
  have hbw6 : Below w.heap.size w w6 := hbw5a.trans (hb6.mono hbw5a.size)
  have K6 := (hb6.block w2.heap.size (by simp; omega)).trans ((Below.heap_alloc _ _ _ y5).trans HK5.out)
  have K7 := (hb6.block w5.heap.size (by simp)).trans (heap_alloc_new w5 _)
  have y6 := blk_lt K6
  have y7 := blk_lt K7
  clear u0 u1 u2 u3 u4 u5 u6 u7 u8 u9 y5
  obtain ⟨-, -, -, -, -, u5, -, -, -, -⟩ := blk10 K6
  obtain ⟨-, -, -, -, -, -, -, -, t8, -⟩ := blk10 K7
  have PN := hid (Name_any 7 (HT.out.below hbw6))
  rw [nm7] at PN
  clear K6 K7 HK5 PS hb6 HE4 HS4
  go_wp2_with fail
  refine PN.out.mono ?_
  rintro e w7 ⟨rfl, hb7⟩
  go_wp2_with fail
  go_ret
  exact ⟨rfl, hbw6.trans (hb7.mono hbw6.size)⟩
end Go.Proofs.YtondnbnaoacanaaGreatDoor
