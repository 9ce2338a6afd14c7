/- Layer 6: contracts of names: At, refuse, Put. -/
import Derived.Test.YtgijhfdlecdijaaNames3
import Derived.Test.YtgijhfdlecdijaaReads
import Derived.Lib.SliceRun
import Derived.OwnWalk
namespace Go.Proofs.Ytgijhfdlecdijaa
open Go.ChangeShapes Go.WideShapes Go.ChangeAt Go.RowKit Fb Go.Maps

theorem s9_info : (Try.prog.info? 9).map (fun i => (i.zero, i.size, i.bytes)) = some (some (.string ByteArray.empty), 1, 16) := by kernel_rfl
/-- a slice that reads as these names, with room as slices have it -/
def Rs (w : World) (A : Option Addr) (n c : Nat) (ss : List ByteArray) : Prop := Sl w w.heap.size A n (st9 ss) ∧ n ≤ c ∧ c ≤ maxLen ∧ (A = none → c = 0)
theorem Rs.below {w w' : World} {A : Option Addr} {n c : Nat} {ss : List ByteArray} (h : Rs w A n c ss) (hb : Below w.heap.size w w') : Rs w' A n c ss := ⟨(h.1.below hb).up hb.size, h.2⟩
theorem Rs.len {w : World} {A : Option Addr} {n c : Nat} {ss : List ByteArray} (h : Rs w A n c ss) : n = ss.length := by have := h.1.len; rw [st9_len] at this; exact this.symm
theorem own_rs {w : World} {base n : Nat} {v : Value} {ss : List ByteArray} (h : w.ownsRow base 9 1 v n (st9 ss)) : ∃ A c, v = .slice A n c ∧ Rs w A n c ss ∧ (∀ a, A = some a → base ≤ a.block) := by
  obtain ⟨A, c, hv, h1, h2, h3, h4, h5⟩ := own_reads h (Nat.le_refl _)
  exact ⟨A, c, hv, ⟨h4, h1, h2, h3⟩, h5⟩

set_option maxHeartbeats 1000000 in
theorem At_yes {A : Option Addr} {cap n B : Nat} {ss : List ByteArray} {k : Nat} {s : ByteArray} {w : World} (hS : Sl w B A n (st9 ss)) (hk : ss[k]? = some s) (hn : n ≤ 1000000) :
    Calls Try.prog 46 #[.slice A n cap, .int .i64 ((k : Int) + 1)] w fun e w' => e = .returned (.tuple #[.string s, .int .i64 0]) ∧ w = w' := by
  have hl : n = ss.length := by have := hS.len; rw [st9_len] at this; exact this.symm
  have hkl : k < n := by
    rcases Nat.lt_or_ge k n with h | h
    · exact h
    · rw [List.getElem?_eq_none (by omega)] at hk; cases hk
  obtain ⟨b, o, u, rfl, hb, hu, hc⟩ := hS.get (k := k) hkl
  obtain rfl : u = .string s := by rw [st9_at hu, hk]; rfl
  have HL := hid hl
  clear hl hu hk
  go_enter Try.func46, Try.ntmps46
  go_wp2
  go_ret2
  exact ⟨rfl, rfl⟩
set_option maxHeartbeats 1000000 in
theorem At_no {A : Option Addr} {cap n : Nat} {p : Int} (w : World) (h : p < 1 ∨ (n : Int) < p) (hn : n ≤ 1000000) (hp : -9223372036854775808 ≤ p ∧ p ≤ 9223372036854775807) :
    Calls Try.prog 46 #[.slice A n cap, .int .i64 p] w fun e w' => e = .returned (.tuple #[.string ⟨#[]⟩, .int .i64 14]) ∧ w = w' := by
  by_cases h1 : p < 1
  · clear h
    go_enter Try.func46, Try.ntmps46
    go_wp2
    go_ret2
    exact ⟨rfl, rfl⟩
  · have h2 : (n : Int) < p := by omega
    clear h
    go_enter Try.func46, Try.ntmps46
    go_wp2
    go_ret2
    exact ⟨rfl, rfl⟩

set_option maxHeartbeats 1000000 in
theorem CloneS_any {A : Option Addr} {n c B : Nat} {ss : List ByteArray} {w : World} (hS : Sl w B A n (st9 ss)) (hB : B ≤ w.heap.size) (hnil : A = none → c = 0) (hn : n ≤ 1000000) :
    Calls Try.prog 13 #[.slice A n c] w fun e w' => (∃ v, e = .returned v ∧ w'.ownsRow w.heap.size 9 1 v n (st9 ss)) ∧ Below w.heap.size w w' := by
  have kn := fun (w : World) (a : Option Addr) (n c : Nat) => Go.Lib.run_eql_slice_nil (P := Try.prog) w 22 9 a n c 0 0 Try.underlying22
  have hl : n = ss.length := by have := hS.len; rw [st9_len] at this; exact this.symm
  rcases A with _ | ad
  · obtain rfl := hnil rfl
    obtain rfl : n = 0 := by
      rcases Nat.eq_zero_or_pos n with h0 | h0
      · exact h0
      · obtain ⟨_, _, hA, _⟩ := hS.2 h0; cases hA
    obtain rfl : ss = [] := List.eq_nil_of_length_eq_zero hl.symm
    clear hnil hS hl
    go_enter Try.func13, Try.ntmps13
    go_wp2
    go_ret
    exact ⟨⟨_, rfl, by simp [st9], .inl ⟨rfl, rfl⟩⟩, Below.refl _ _⟩
  · obtain ⟨i0, hi0, hz0, hz1, hz2⟩ := info_parts s9_info
    have hnil' := hid hnil
    have hl' := hid hl
    clear hnil hl
    go_enter Try.func13, Try.ntmps13
    go_wp2_with (at_builtin; refine wpList_pushAll (B := B) rfl (.tmp 5) (.tmp 6) _ rfl Try.underlying22 hi0 hz0 hz1 hz2 rfl rfl (own_fresh w #[] 9 (base := w.heap.size) (n := 0) (xs := []) rfl (Nat.le_refl _) rfl rfl (Nat.zero_le _)) rfl (by simp) (m := n) (news := st9 ss) ?SL (fun v' w' hown hbel => ?_) (st9_one ss) (by simp only [maxLen]; omega) (by omega) (by simp))
    case SL => exact hS.below ((Below.refl _ _).alloc hB _)
    go_wp2
    go_ret
    exact ⟨⟨_, rfl, by simpa using hown⟩, ((Below.refl _ _).alloc (Nat.le_refl _) _).trans hbel⟩

set_option maxHeartbeats 2000000 in
theorem refuse_any {A : Option Addr} {cap n B : Nat} {ss : List ByteArray} (hz : Ok9 ss) {s : ByteArray} (hs : s.size ≤ maxLen) {w : World} (hS : Sl w B A n (st9 ss)) (hB : B ≤ w.heap.size) :
    Calls Try.prog 39 #[.slice A n cap, .string s] w fun e w' => e = .returned (.int .i64 (puE ss s)) ∧ Below w.heap.size w w' := by
  have hl : n = ss.length := by have := hS.len; rw [st9_len] at this; exact this.symm
  subst hl
  have PR := hid (fun cap => Right_any (cap := cap) hz hS hB)
  have PP := hid (fun cap (w1 : World) (h : Below w.heap.size w w1) => Place_any (cap := cap) hz hs (hS.below (h.mono hB)) (Nat.le_trans hB h.size))
  have hz1 := hz.1
  clear hz hS hB
  cases h1 : rgB ss with
  | false =>
    rw [h1] at PR
    have e : puE ss s = 1 := by unfold puE; rw [if_pos h1]
    rw [e]
    clear e
    go_enter Try.func39, Try.ntmps39
    go_wp2_with fail
    refine (PR.out _).mono ?_
    rintro e w1 ⟨rfl, hb1⟩
    go_wp2_with fail
    go_ret
    exact ⟨rfl, hb1⟩
  | true =>
    rw [h1] at PR
    have hlen := ((rgB_iff ss).1 h1).1
    have PW := hid (wrong_any s)
    cases h2 : nmB s with
    | false =>
      rw [h2] at PW
      have e : puE ss s = 3 := by unfold puE; rw [if_neg (by simp [h1]), if_pos h2]
      rw [e]
      clear e
      go_enter Try.func39, Try.ntmps39
      go_wp2_with fail
      refine (PR.out _).mono ?_
      rintro e w1 ⟨rfl, hb1⟩
      go_wp2_with fail
      refine (PW.out _).mono ?_
      rintro e w2 ⟨rfl, rfl⟩
      go_wp2_with fail
      go_ret
      exact ⟨rfl, hb1⟩
    | true =>
      rw [h2] at PW
      have h12 : puE ss s = if 0 < plc s ss then 7 else if 32 ≤ ss.length then 9 else 0 := by unfold puE; rw [if_neg (by simp [h1]), if_neg (by simp [h2])]
      rw [h12]
      clear h12
      have h4 := plc_le s ss
      generalize plc s ss = q at *
      by_cases h3 : 0 < q
      · rw [if_pos h3]
        go_enter Try.func39, Try.ntmps39
        go_wp2_with fail
        refine (PR.out _).mono ?_
        rintro e w1 ⟨rfl, hb1⟩
        go_wp2_with fail
        refine (PW.out _).mono ?_
        rintro e w2 ⟨rfl, rfl⟩
        go_wp2_with fail
        refine (PP.out _ _ hb1).mono ?_
        rintro e w3 ⟨rfl, hb3⟩
        go_wp2_with fail
        go_ret
        exact ⟨rfl, hb1.trans (hb3.mono hb1.size)⟩
      · rw [if_neg h3]
        obtain rfl : q = 0 := by omega
        clear h3 h4
        by_cases h5 : 32 ≤ ss.length
        · rw [if_pos h5]
          have h6 : (ss.length : Int) = 32 := by omega
          clear h5 hlen hz1
          go_enter Try.func39, Try.ntmps39
          go_wp2_with fail
          refine (PR.out _).mono ?_
          rintro e w1 ⟨rfl, hb1⟩
          go_wp2_with fail
          refine (PW.out _).mono ?_
          rintro e w2 ⟨rfl, rfl⟩
          go_wp2_with fail
          refine (PP.out _ _ hb1).mono ?_
          rintro e w3 ⟨rfl, hb3⟩
          go_wp2_with fail
          go_ret
          exact ⟨rfl, hb1.trans (hb3.mono hb1.size)⟩
        · rw [if_neg h5]
          have h6 : ¬ (ss.length : Int) = 32 := by omega
          clear h5
          go_enter Try.func39, Try.ntmps39
          go_wp2_with fail
          refine (PR.out _).mono ?_
          rintro e w1 ⟨rfl, hb1⟩
          go_wp2_with fail
          refine (PW.out _).mono ?_
          rintro e w2 ⟨rfl, rfl⟩
          go_wp2_with fail
          refine (PP.out _ _ hb1).mono ?_
          rintro e w3 ⟨rfl, hb3⟩
          go_wp2_with fail
          go_ret
          exact ⟨rfl, hb1.trans (hb3.mono hb1.size)⟩
end Go.Proofs.Ytgijhfdlecdijaa
