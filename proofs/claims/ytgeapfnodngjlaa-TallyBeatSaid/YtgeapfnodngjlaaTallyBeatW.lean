/- The walk of TallyBeat. -/
import Derived.Test.YtgeapfnodngjlaaTallyA
import Derived.OwnWalk
namespace Go.Proofs.Ytgeapfnodngjlaa
open Go.ChangeShapes Go.WideShapes Go.ChangeAt Go.RowKit Fb

theorem i64_info : (Try.prog.info? 2).map (fun i => (i.zero, i.size, i.bytes)) = some (some (.int .i64 0), 1, 8) := by kernel_rfl
theorem beat_lo (l : List Int) : (beatI holdI l).1.natAbs ≤ 4503599627370496 ∧ (beatI holdI l).2.natAbs ≤ 4503599627370496 := by
  unfold beatI
  split
  · simp
  · have h := beat_small holdI hold_both l l.length
    rw [List.take_of_length_le (by rw [beatL_len]; exact Nat.le_refl _)] at h
    have hle : l.length * 1099511627776 ≤ 4096 * 1099511627776 := Nat.mul_le_mul_right _ (by omega)
    simp only
    omega
theorem beat_next (l : List Int) (h : l.length < 4096) : beatI holdI (0 :: l) = (-(beatI holdI l).2, (beatI holdI l).1) := by
  have h0 := beat_behind holdI l (by decide +kernel)
  unfold beatI
  rw [if_neg (by simp; omega), if_neg (by omega), h0.1, h0.2]
theorem beat_const (n : Int) (t : Nat) : beatI holdI (List.replicate (4 * t) n) = (0, 0) := by
  have h0 := beat_same holdI n t
  unfold beatI
  split
  · rfl
  · rw [h0.1, h0.2]

set_option maxHeartbeats 4000000 in
set_option maxRecDepth 100000 in
theorem beat_walk (l : List Int) (A : Option Addr) (c : Nat) (n times : Int) (w : World) (h : Sl w w.heap.size A l.length (ints l)) (hc : l.length ≤ c) (hcm : c ≤ maxLen) (hnil : A = none → c = 0) (ht1 : 0 ≤ times) (ht2 : times ≤ 255) :
    Calls Try.prog 6 #[.slice A l.length c, .int .i64 n, .int .u8 times] w fun e w' => e = .returned (.bool true) ∧ Below w.heap.size w w' := by
  unfold maxLen at hcm
  by_cases hl : 5000 < l.length
  · go_enter Try.func6, Try.ntmps6
    go_wp2_with fail
    refine (awake_any _).mono ?_
    rintro e w1 ⟨rfl, hbel⟩
    go_wp2_with fail
    go_ret
    exact ⟨rfl, hbel⟩
  · obtain ⟨i0, hi0, hz0, hz1, hz2⟩ := info_parts i64_info
    obtain ⟨t, rfl⟩ := Int.eq_ofNat_of_zero_le ht1
    go_enter Try.func6, Try.ntmps6
    go_wp2_with fail
    refine (awake_any _).mono ?_
    rintro e w1 ⟨rfl, hbel⟩
    have h1 := h.below hbel
    go_wp2_with fail
    refine (Beat_any l l.length rfl A _ c _ h1 hbel.size (by omega)).mono ?_
    rintro e w2 ⟨rfl, hb2⟩
    have hbel2 : Below w.heap.size w w2 := hbel.trans (hb2.mono hbel.size)
    have h2 := h.below hbel2
    go_wp2_with fail
    refine (RBeat_any l l.length rfl A _ c _ h2 (by omega)).mono ?_
    rintro e w' ⟨rfl, rfl⟩
    have hlo := beat_lo l
    have Hnext := hid (beat_next l)
    generalize beatI holdI l = b at *
    obtain ⟨b1, b2⟩ := b
    have g1 : -4503599627370496 ≤ b1 := by simp only at hlo; omega
    have g2 : b1 ≤ 4503599627370496 := by simp only at hlo; omega
    have g3 : -4503599627370496 ≤ b2 := by simp only at hlo; omega
    have g4 : b2 ≤ 4503599627370496 := by simp only at hlo; omega
    clear hlo
    have hsz2 : w.heap.size ≤ w2.heap.size := hbel2.size
    go_wp2_with fail
    go_loopw [11, 12] (fun v i wr => ∃ k : Nat, k ≤ 4 * t ∧ i = .int .i64 k ∧ wr.ownsRow w2.heap.size 2 1 v k (List.replicate k (.int .i64 n)) ∧ Below w2.heap.size w2 wr)
      (fun _ i _ => 4 * t - (intOf i).toNat)
    case atStart => exact ⟨0, Nat.zero_le _, rfl, ⟨by simp, .inl ⟨rfl, rfl⟩⟩, Below.refl _ _⟩
    case round =>
      obtain ⟨k, hk, rfl, hown, hbr⟩ := hrel
      by_cases hlt : k < 4 * t
      · have hrv : List.replicate (k + 1) (Value.int .i64 n) = List.replicate k (Value.int .i64 n) ++ [.int .i64 n] := by
          rw [List.replicate_succ']
        have Hrv := hid hrv
        clear hrv
        go_wp2_with (at_builtin; refine wpList_push rfl (.tmp 47) (.tmp 49) 22 rfl Try.underlying22 hi0 hz0 hz1 hz2 rfl (by decide) rfl hown rfl rfl ?_ ?c1 ?c2 ?c3 ?c4; intro v' w'' hown' hb'')
        case c1 => simp [Value.oneCell']
        case c2 => simp [maxLen]; omega
        case c3 => omega
        case c4 => exact hbr.size
        go_roundw
        case rel => exact ⟨k + 1, by omega, by go_num, by rw [Hrv.out]; exact hown', hbr.trans hb''⟩
        case measure => simp [intOf]; omega
      · obtain rfl : k = 4 * t := by omega
        have hbelr : Below w.heap.size w wr := hbel2.trans (hbr.mono hsz2)
        have hr := h.below hbelr
        obtain ⟨A', c', rfl, hown2⟩ := Sl.own (B := wr.heap.size) hown (Nat.le_refl _)
        have hrep : List.replicate (4 * t) (Value.int .i64 n) = ints (List.replicate (4 * t) n) := by simp [ints]
        rw [hrep] at hown2
        have hconst := beat_const n t
        have hbeat := Beat_any (List.replicate (4 * t) n) (4 * t) (by simp) A' wr.heap.size c' wr hown2 (Nat.le_refl _) (by omega)
        rw [hconst] at hbeat
        have Hbeat := hid hbeat
        clear hbeat hconst hrep hown hown2 hr
        go_wp2_with fail
        refine Hbeat.out.mono ?_
        rintro e w3 ⟨rfl, hb3⟩
        have hbel3 : Below w.heap.size w w3 := hbelr.trans (hb3.mono hbelr.size)
        have h3 := h.below hbel3
        by_cases h4 : l.length < 4096
        · have hnext := Hnext.out h4
          have H3 := hid h3
          clear Hbeat h h1 h2 h3
          go_wp2_with (at_builtin; refine wpList_pushAll rfl (.tmp 66) (.tmp 67) 22 rfl Try.underlying22 hi0 hz0 hz1 hz2 rfl rfl (own_fresh w3 #[.int .i64 0] 2 rfl hbel3.size rfl rfl (by simp [maxLen])) rfl hnil (H3.out.below ((Below.refl _ _).alloc hbel3.size _)) ?_ ?d1 ?d2 ?d3 ?d4; intro v' w4 hown4 hb4)
          case d1 => intro u hu; obtain ⟨q, -, rfl⟩ := List.mem_map.1 hu; rfl
          case d2 => simp [maxLen]; omega
          case d3 => omega
          case d4 => have := hbel3.size; simp; omega
          obtain ⟨A4, c4, rfl, hown5⟩ := Sl.own (B := w4.heap.size) hown4 (Nat.le_refl _)
          have hl5 : [Value.int .i64 0] ++ ints l = ints (0 :: l) := rfl
          have hbeat := Beat_any (0 :: l) (1 + l.length) (by simp; omega) A4 w4.heap.size c4 w4 hown5 (Nat.le_refl _) (by omega)
          rw [hnext] at hbeat
          have Hbeat := hid hbeat
          have hbel4 : Below w.heap.size w w4 := (hbel3.alloc hbel3.size _).trans hb4
          clear hbeat hnext hown4 hown5 hl5
          go_wp2_with fail
          refine Hbeat.out.mono ?_
          rintro e w5 ⟨rfl, hb5⟩
          go_wp2_with fail
          go_ret
          exact ⟨rfl, hbel4.trans (hb5.mono hbel4.size)⟩
        · go_wp2_with fail
          go_ret
          exact ⟨rfl, hbel3⟩
end Go.Proofs.Ytgeapfnodngjlaa
