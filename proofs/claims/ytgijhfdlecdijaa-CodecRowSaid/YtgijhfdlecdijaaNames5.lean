/- Layer 6: the contract of Put. -/
import Derived.Test.YtgijhfdlecdijaaNames4
namespace Go.Proofs.Ytgijhfdlecdijaa
open Go.ChangeShapes Go.WideShapes Go.ChangeAt Go.RowKit Fb Go.Maps

set_option maxRecDepth 100000 in
set_option maxHeartbeats 2000000 in
theorem Put_any {A : Option Addr} {cap n B : Nat} {ss : List ByteArray} (hz : Ok9 ss) {s : ByteArray} (hs : s.size ≤ maxLen) {w : World} (hS : Sl w B A n (st9 ss)) (hB : B ≤ w.heap.size) (hnil : A = none → cap = 0) :
    Calls Try.prog 23 #[.slice A n cap, .string s] w fun e w' => (∃ A' m c', e = .returned (.tuple #[.slice A' m c', .int .i64 (puE ss s)]) ∧ Rs w' A' m c' (puL ss s)) ∧ Below w.heap.size w w' := by
  have hl : n = ss.length := by have := hS.len; rw [st9_len] at this; exact this.symm
  have hz1 : n ≤ 1000000 := by rw [hl]; exact hz.1
  have PC := hid (CloneS_any (c := cap) hS hB hnil hz1)
  have PR := hid (fun A cap B (w : World) hS hB => refuse_any (A := A) (cap := cap) (n := n) (B := B) (w := w) hz hs hS hB)
  have PL := hid (show puL ss s = if puE ss s = 0 then ss ++ [s] else ss from rfl)
  have HL := hid hl
  obtain ⟨i0, hi0, hz0, hz1', hz2⟩ := info_parts s9_info
  clear hS hl hz
  generalize puE ss s = q at *
  by_cases h0 : q = 0
  · subst h0
    have PL' := PL.out
    rw [if_pos rfl] at PL'
    rw [PL']
    clear PL PL'
    go_enter Try.func23, Try.ntmps23
    go_wp2_with fail
    refine PC.out.mono ?_
    rintro e w1 ⟨⟨v, rfl, hown⟩, hb1⟩
    obtain ⟨A1, c1, rfl, hRs, hlo⟩ := own_rs hown
    have P2 := hid (PR.out A1 c1 _ w1 hRs.1 (Nat.le_refl _))
    clear PR PC
    go_wp2_with fail
    refine P2.out.mono ?_
    rintro e w2 ⟨rfl, hb2⟩
    have hown2 := own_below hown hb2
    have hs2 : w.heap.size ≤ w2.heap.size := Nat.le_trans hb1.size hb2.size
    clear hown hRs hlo P2
    go_wp2_with (at_builtin; refine wpList_push rfl (.tmp 16) (.tmp 18) 22 rfl Try.underlying22 hi0 hz0 hz1' hz2 rfl (by decide) rfl hown2 rfl rfl ?_ ?c1 ?c2 ?c3 ?c4; intro v1 w3 own3 hb3)
    case c1 => simp [Value.oneCell']
    case c2 => simp only [maxLen]; omega
    case c3 => omega
    case c4 => exact hs2
    have e : st9 ss ++ [Value.string s] = st9 (ss ++ [s]) := by simp [st9]
    rw [e] at own3
    obtain ⟨A3, c3, rfl, hRs, hlo⟩ := own_rs own3
    go_ret2
    exact ⟨⟨A3, n + 1, c3, rfl, hRs⟩, (hb1.trans (hb2.mono hb1.size)).trans hb3⟩
  · have PL' := PL.out
    rw [if_neg h0] at PL'
    rw [PL']
    clear PL PL'
    go_enter Try.func23, Try.ntmps23
    go_wp2_with fail
    refine PC.out.mono ?_
    rintro e w1 ⟨⟨v, rfl, hown⟩, hb1⟩
    obtain ⟨A1, c1, rfl, hRs, hlo⟩ := own_rs hown
    have P2 := hid (PR.out A1 c1 _ w1 hRs.1 (Nat.le_refl _))
    clear PR PC
    go_wp2_with fail
    refine P2.out.mono ?_
    rintro e w2 ⟨rfl, hb2⟩
    go_wp2_with fail
    go_ret2
    exact ⟨⟨A1, n, c1, rfl, hRs.below hb2⟩, hb1.trans (hb2.mono hb1.size)⟩
end Go.Proofs.Ytgijhfdlecdijaa
