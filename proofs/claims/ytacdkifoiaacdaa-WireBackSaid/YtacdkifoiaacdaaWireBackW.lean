/- The walk of WireBack. -/
import Derived.Test.YtacdkifoiaacdaaWireB
namespace Go.Proofs.Ytacdkifoiaacdaa
open Go.ChangeShapes Go.WideShapes Go.ChangeAt Go.RowKit Fb

theorem flat_next {α : Type} (e : α → List Int) (l : List α) (k : Nat) (h : k < l.length) : (l.take (k + 1)).flatMap e = (l.take k).flatMap e ++ e l[k] := by
  rw [List.take_succ_eq_append_getElem h, List.flatMap_append]; simp

set_option maxRecDepth 100000 in
set_option maxHeartbeats 4000000 in
theorem back_long {Al Am At : Option Addr} {cl cm ct : Nat} {l m : List Int} {ts : List ByteArray} {cut : Int} {w : World} (h : 20 < l.length ∨ 20 < m.length ∨ 20 < ts.length) :
    Calls Try.prog 4 #[.slice Al l.length cl, .slice Am m.length cm, .slice At ts.length ct, .int .u16 cut] w fun e w' => e = .returned (.bool true) ∧ Below w.heap.size w w' := by
  by_cases h1 : 20 < l.length
  · clear h
    go_enter Try.func4, Try.ntmps4
    go_wp2_with fail
    refine (awake_any _).mono ?_
    rintro e w1 ⟨rfl, hbel⟩
    go_wp2_with fail
    go_ret
    exact ⟨rfl, hbel⟩
  · by_cases h2 : 20 < m.length
    · clear h
      go_enter Try.func4, Try.ntmps4
      go_wp2_with fail
      refine (awake_any _).mono ?_
      rintro e w1 ⟨rfl, hbel⟩
      go_wp2_with fail
      go_ret
      exact ⟨rfl, hbel⟩
    · have h3 : 20 < ts.length := by omega
      clear h
      go_enter Try.func4, Try.ntmps4
      go_wp2_with fail
      refine (awake_any _).mono ?_
      rintro e w1 ⟨rfl, hbel⟩
      go_wp2_with fail
      go_ret
      exact ⟨rfl, hbel⟩

set_option maxRecDepth 100000 in
set_option maxHeartbeats 4000000 in
theorem back_walk (Al Am At : Option Addr) (cl cm ct : Nat) (l m : List Int) (ts : List ByteArray) (cut : Int) (w : World) (hl : ∀ x ∈ l, 0 ≤ x ∧ x < 18446744073709551616) (hm : ∀ x ∈ m, -9223372036854775808 ≤ x ∧ x ≤ 9223372036854775807) (hcut : 0 ≤ cut ∧ cut ≤ 65535)
    (hSl : Sl w w.heap.size Al l.length (l.map (Value.int .u64))) (hSm : Sl w w.heap.size Am m.length (m.map (Value.int .i64))) (hSt : Sl w w.heap.size At ts.length (ts.map Value.string)) :
    Calls Try.prog 4 #[.slice Al l.length cl, .slice Am m.length cm, .slice At ts.length ct, .int .u16 cut] w fun e w' => e = .returned (.bool true) ∧ Below w.heap.size w w' := by
  by_cases hlong : 20 < l.length ∨ 20 < m.length ∨ 20 < ts.length
  · exact back_long hlong
  · have hl20 : l.length ≤ 20 := by omega
    have hm20 : m.length ≤ 20 := by omega
    have ht20 : ts.length ≤ 20 := by omega
    have HLW := hid hl
    have HMW := hid hm
    clear hlong hl hm
    go_enter Try.func4, Try.ntmps4
    go_wp2_with fail
    refine (awake_any _).mono ?_
    rintro e w1 ⟨rfl, hbel⟩
    go_wp2_with fail
    go_loopw [9, 10] (fun b i wr => ∃ (k : Nat) (A : Option Addr) (n c : Nat), k ≤ l.length ∧ i = .int .i64 k ∧ b = .slice A n c ∧ Sl wr wr.heap.size A n (by8 (([] : List Int) ++ (l.take k).flatMap eU)) ∧ Hid (A = none → c = 0) ∧ n ≤ c ∧ c ≤ maxLen ∧ n ≤ 0 + 10 * k ∧ Below w.heap.size w wr)
      (fun _ i _ => l.length - (intOf i).toNat)
    case atStart =>
      exact ⟨0, none, 0, 0, Nat.zero_le _, rfl, rfl, Sl.nil _ _ _, hid (fun _ => rfl), Nat.le_refl _, Nat.zero_le _, by omega, hbel⟩
    case round =>
      obtain ⟨k, A, n, c, hk, rfl, rfl, hb, hnil, hnc, hcm, hn, hB⟩ := hrel
      by_cases hlt : k < l.length
      · obtain ⟨g, o, u, rfl, hg, hu, hcell⟩ := (hSl.below hB).get (k := k) hlt
        obtain rfl := get_map hlt hu
        have hfn := flat_next eU l k hlt
        have hlen := hb.len
        rw [by8_len] at hlen
        have hx := HLW.out _ (List.getElem_mem hlt)
        obtain ⟨v, hv⟩ : ∃ v : Nat, l[k] = (v : Int) := ⟨l[k].toNat, by omega⟩
        rw [hv] at hx hcell hfn
        have hv2 : v < 18446744073709551616 := by omega
        have hten := leb_ten hv2
        have HV := hid hv2
        have hf2 : eU (v : Int) = leb v := by unfold eU; rw [Int.toNat_natCast]
        rw [hf2] at hfn
        clear hv hv2 hx hf2
        have HF := hid hfn
        clear hfn hu
        have P := hid (PutUint_any hb hnil.out (by omega) HV.out)
        have HLEN := hid hlen
        clear hb hlen
        go_wp2_with fail
        with_reducible refine P.out.mono ?_
        rintro e w2 ⟨⟨v', rfl, hown⟩, hb2⟩
        obtain ⟨n2, hn2⟩ : ∃ n2, n2 = (([] : List Int) ++ (l.take k).flatMap eU ++ leb v).length := ⟨_, rfl⟩
        rw [← hn2] at hown
        have hn3 : n2 ≤ n + 10 := by rw [hn2, List.length_append, HLEN.out]; omega
        clear hn2 HLEN
        obtain ⟨A2, c2, rfl, hnc2, hcm2, hnil2, hS2, -⟩ := own_reads hown (Nat.le_refl _)
        go_wp2_with fail
        go_roundw
        case rel => exact ⟨k + 1, A2, n2, c2, by omega, by go_num, rfl, by rw [HF.out, ← List.append_assoc]; exact hS2, hnil2, hnc2, hcm2, by omega, hB.trans (hb2.mono hB.size)⟩
        case measure => simp [intOf]; omega
      · obtain rfl : k = l.length := by omega
        rw [List.take_of_length_le (Nat.le_refl _)] at hb
        rw [List.nil_append] at hb
        go_wp2_with fail
        go_loopw [9, 11] (fun b i wr => ∃ (k : Nat) (A : Option Addr) (n c : Nat), k ≤ m.length ∧ i = .int .i64 k ∧ b = .slice A n c ∧ Sl wr wr.heap.size A n (by8 ((l.flatMap eU) ++ (m.take k).flatMap eI)) ∧ Hid (A = none → c = 0) ∧ n ≤ c ∧ c ≤ maxLen ∧ n ≤ 200 + 10 * k ∧ Below w.heap.size w wr)
          (fun _ i _ => m.length - (intOf i).toNat)
        case atStart =>
          exact ⟨0, A, n, c, Nat.zero_le _, rfl, rfl, by simpa using hb, hnil, hnc, hcm, by omega, hB⟩
        case round =>
          obtain ⟨k, A, n, c, hk, rfl, rfl, hb, hnil, hnc, hcm, hn, hB⟩ := hrel
          by_cases hlt : k < m.length
          · obtain ⟨g, o, u, rfl, hg, hu, hcell⟩ := (hSm.below hB).get (k := k) hlt
            obtain rfl := get_map hlt hu
            have hfn := flat_next eI m k hlt
            have hlen := hb.len
            rw [by8_len] at hlen
            have hx := HMW.out _ (List.getElem_mem hlt)
            generalize m[k] = x at *
            have hz := zig_lt hx.1 hx.2
            have hten := leb_ten hz
            have HX := hid hx
            clear hz hx
            have HF := hid hfn
            clear hfn hu
            have P := hid (PutInt_any hb hnil.out (by omega) HX.out.1 HX.out.2)
            have HLEN := hid hlen
            clear hb hlen
            go_wp2_with fail
            with_reducible refine P.out.mono ?_
            rintro e w2 ⟨⟨v', rfl, hown⟩, hb2⟩
            obtain ⟨n2, hn2⟩ : ∃ n2, n2 = ((l.flatMap eU) ++ (m.take k).flatMap eI ++ leb (zig x)).length := ⟨_, rfl⟩
            rw [← hn2] at hown
            have hn3 : n2 ≤ n + 10 := by rw [hn2, List.length_append, HLEN.out]; omega
            clear hn2 HLEN
            obtain ⟨A2, c2, rfl, hnc2, hcm2, hnil2, hS2, -⟩ := own_reads hown (Nat.le_refl _)
            go_wp2_with fail
            go_roundw
            case rel => exact ⟨k + 1, A2, n2, c2, by omega, by go_num, rfl, by rw [HF.out, ← List.append_assoc]; exact hS2, hnil2, hnc2, hcm2, by omega, hB.trans (hb2.mono hB.size)⟩
            case measure => simp [intOf]; omega
          · obtain rfl : k = m.length := by omega
            rw [List.take_of_length_le (Nat.le_refl _)] at hb
            go_wp2_with fail
            go_loopw [9, 12] (fun b i wr => ∃ (k : Nat) (A : Option Addr) (n c : Nat), k ≤ ts.length ∧ i = .int .i64 k ∧ b = .slice A n c ∧ Sl wr wr.heap.size A n (by8 ((l.flatMap eU ++ m.flatMap eI) ++ (ts.take k).flatMap eT)) ∧ Hid (A = none → c = 0) ∧ n ≤ c ∧ c ≤ maxLen ∧ n ≤ 400 + 210 * k ∧ Below w.heap.size w wr ∧ Hid (∀ y ∈ ts.take k, y.size ≤ 200))
              (fun _ i _ => ts.length - (intOf i).toNat)
            case atStart =>
              exact ⟨0, A, n, c, Nat.zero_le _, rfl, rfl, by simpa using hb, hnil, hnc, hcm, by omega, hB, hid (by simp)⟩
            case round =>
              obtain ⟨k, A, n, c, hk, rfl, rfl, hb, hnil, hnc, hcm, hn, hB, hall⟩ := hrel
              by_cases hlt : k < ts.length
              · obtain ⟨g, o, u, rfl, hg, hu, hcell⟩ := (hSt.below hB).get (k := k) hlt
                obtain rfl := get_map hlt hu
                have hfn := flat_next eT ts k hlt
                have hlen := hb.len
                rw [by8_len] at hlen
                have htk := List.take_succ_eq_append_getElem hlt
                generalize ts[k] = x at *
                have HT := hid htk
                clear htk
                have HF := hid hfn
                clear hfn hu
                by_cases h200 : 200 < x.size
                · clear hb
                  go_wp2_with fail
                  go_ret
                  exact ⟨rfl, hB⟩
                · have h200' : x.size ≤ 200 := by omega
                  have hten := leb_ten (n := x.size) (by omega)
                  have P := hid (PutText_any hb hnil.out (by omega) x (by omega))
                  have HLEN := hid hlen
                  clear hb hlen
                  go_wp2_with fail
                  with_reducible refine P.out.mono ?_
                  rintro e w2 ⟨⟨v', rfl, hown⟩, hb2⟩
                  obtain ⟨n2, hn2⟩ : ∃ n2, n2 = ((l.flatMap eU ++ m.flatMap eI) ++ (ts.take k).flatMap eT ++ (leb x.size ++ sI x)).length := ⟨_, rfl⟩
                  rw [← hn2] at hown
                  have hn3 : n2 ≤ n + 210 := by rw [hn2, List.length_append, HLEN.out, List.length_append, sI_len]; omega
                  clear hn2 HLEN
                  obtain ⟨A2, c2, rfl, hnc2, hcm2, hnil2, hS2, -⟩ := own_reads hown (Nat.le_refl _)
                  go_wp2_with fail
                  go_roundw
                  case rel => exact ⟨k + 1, A2, n2, c2, by omega, by go_num, rfl, by rw [HF.out, ← List.append_assoc]; exact hS2, hnil2, hnc2, hcm2, by omega, hB.trans (hb2.mono hB.size), hid (fun y hy => by
                    rw [HT.out] at hy
                    rcases List.mem_append.1 hy with h | h
                    · exact hall.out y h
                    · simp only [List.mem_singleton] at h; subst h; exact h200')⟩
                  case measure => simp [intOf]; omega
              · obtain rfl : k = ts.length := by omega
                rw [List.take_of_length_le (Nat.le_refl _)] at hb
                rw [List.take_of_length_le (Nat.le_refl _)] at hall
                have hE : (l.flatMap eU ++ m.flatMap eI) ++ ts.flatMap eT = enc l m ts := by unfold enc; rw [List.append_assoc]
                rw [hE] at hb
                have hlen := hb.len
                rw [by8_len] at hlen
                have hrd := read_enc HLW.out HMW.out hall.out
                have hbytes : Bytes (enc l m ts) := by
                  intro x hx
                  unfold enc at hx
                  simp only [List.mem_append, List.mem_flatMap] at hx
                  rcases hx with ⟨a, -, h⟩ | ⟨a, -, h⟩ | ⟨a, -, h⟩
                  · exact leb_bytes _ x h
                  · exact leb_bytes _ x h
                  · rcases List.mem_append.1 h with h | h
                    · exact leb_bytes _ x h
                    · exact sI_bytes _ x h
                have hr1 := (hrd (enc l m ts).length).2 (Nat.le_refl _)
                rw [List.take_of_length_le (Nat.le_refl _), hlen] at hr1
                have hEl := enc_len HLW.out HMW.out hall.out
                have hn4 : n ≤ 5000 := by
                  have : (enc l m ts).length = (l.flatMap eU).length + ((m.flatMap eI).length + (ts.flatMap eT).length) := by unfold enc; simp only [List.length_append]
                  omega
                clear hEl hE hn
                generalize enc l m ts = E at *
                have RE1 := hid (fun (w' : World) (h : Below wr.heap.size wr w') => read_any (cl := cl) (cm := cm) (ct := ct) (c := c) hr1 ((hb.below h).up h.size) hbytes hnil.out (by omega) hnc hcm ((hSl.below (hB.trans (h.mono hB.size))).up (Nat.le_trans hB.size h.size)) ((hSm.below (hB.trans (h.mono hB.size))).up (Nat.le_trans hB.size h.size)) ((hSt.below (hB.trans (h.mono hB.size))).up (Nat.le_trans hB.size h.size)) hl20 hm20 ht20)
                have HRD := hid hrd
                have HBY := hid hbytes
                have HBS := hid hb
                have HLE := hid hlen
                have HCM := hid hcm
                have HS1 := hid hSl
                have HS2 := hid hSm
                have HS3 := hid hSt
                have hK0 : 0 ≤ cut % ((n : Int) + 1) := Int.emod_nonneg _ (by omega)
                have hK1 : cut % ((n : Int) + 1) ≤ (n : Int) := by have := Int.emod_lt_of_pos cut (show 0 < (n : Int) + 1 by omega); omega
                clear hr1 hrd hbytes hb hlen hSl hSm hSt
                unfold maxLen at hcm
                go_wp2_with fail
                with_reducible refine (Start_any _ _ _ _).mono ?_
                rintro e w2 ⟨rfl, hb2⟩
                go_wp2_with fail
                with_reducible refine (RE1.out _ hb2).mono ?_
                rintro e w3 ⟨rfl, hb3⟩
                have hB3 : Below wr.heap.size wr w3 := hb2.trans (hb3.mono hb2.size)
                go_wp2_with fail
                with_reducible refine (Left_yes (show Rgt n n 0 by unfold Rgt; omega) (by omega) _).mono ?_
                rintro e w4 ⟨rfl, hb4⟩
                have hB4 : Below wr.heap.size wr w4 := (hB3.alloc hB3.size _).trans (hb4.mono (by have := hB3.size; simp; omega))
                go_wp2_with fail
                generalize cut % ((n : Int) + 1) = K at *
                obtain ⟨k, rfl⟩ : ∃ k : Nat, K = (k : Int) := ⟨K.toNat, by omega⟩
                have hkn : k ≤ n := by omega
                try simp only [Int.toNat_natCast]
                with_reducible refine (Start_any _ _ _ _).mono ?_
                rintro e w5 ⟨rfl, hb5⟩
                have hB5 : Below wr.heap.size wr w5 := hB4.trans (hb5.mono hB4.size)
                have hSk : Sl wr wr.heap.size A k (by8 (E.take k)) := by
                  have := HBS.out.take (k := k) hkn
                  unfold by8 at this ⊢; rwa [← List.map_take] at this
                have hbk : Bytes (E.take k) := fun x hx => HBY.out x (List.mem_of_mem_take hx)
                have RE2 := hid (fun (p3 e3 : Int) (b3 : Bool) (hr : readF (E.take k) l m ts = (p3, e3, b3)) => read_any (cl := cl) (cm := cm) (ct := ct) (c := c) hr ((hSk.below hB5).up hB5.size) hbk hnil.out (by omega) (by omega) HCM.out ((HS1.out.below (hB.trans (hB5.mono hB.size))).up (Nat.le_trans hB.size hB5.size)) ((HS2.out.below (hB.trans (hB5.mono hB.size))).up (Nat.le_trans hB.size hB5.size)) ((HS3.out.below (hB.trans (hB5.mono hB.size))).up (Nat.le_trans hB.size hB5.size)) hl20 hm20 ht20)
                clear hSk hbk
                rcases Nat.lt_or_ge k n with hkl | hkl
                · obtain ⟨p3, b3, hr2⟩ := (HRD.out k).1 (by rw [HLE.out]; exact hkl)
                  have R2 := hid (RE2.out _ _ _ hr2)
                  clear hr2
                  go_wp2_with fail
                  with_reducible refine R2.out.mono ?_
                  rintro e w6 ⟨rfl, hb6⟩
                  go_wp2_with fail
                  go_ret
                  refine ⟨by first | rfl | simp [hkl], ?_⟩
                  have hB6 : Below wr.heap.size wr w6 := hB5.trans (hb6.mono hB5.size)
                  exact (hB.trans (hB6.mono hB.size)).alloc (Nat.le_trans hB.size hB6.size) _
                · obtain rfl : k = n := by omega
                  have hr2 := (HRD.out k).2 (by rw [HLE.out]; omega)
                  have R2 := hid (RE2.out _ _ _ hr2)
                  clear hr2
                  go_wp2_with fail
                  with_reducible refine R2.out.mono ?_
                  rintro e w6 ⟨rfl, hb6⟩
                  go_wp2_with fail
                  go_ret
                  refine ⟨by first | rfl | simp, ?_⟩
                  have hB6 : Below wr.heap.size wr w6 := hB5.trans (hb6.mono hB5.size)
                  exact (hB.trans (hB6.mono hB.size)).alloc (Nat.le_trans hB.size hB6.size) _

end Go.Proofs.Ytacdkifoiaacdaa
