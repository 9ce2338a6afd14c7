/- Contracts of layer 5: the numbers of an event in its reference; events compared; awake. -/
import Derived.Test.YtejkgolcehbhdaaEvent4
import Derived.Test.YtejkgolcehbhdaaReads
import Derived.Laws.StructEq
namespace Go.Proofs.Ytejkgolcehbhdaa
open Go.ChangeShapes Go.WideShapes Go.ChangeAt Go.RowKit Fb

theorem i64_info : (Try.prog.info? 2).map (fun i => (i.zero, i.size, i.bytes)) = some (some (.int .i64 0), 1, 8) := by kernel_rfl
/-- an event is the same as itself -/
theorem eq_event (q t k a b c : Int) (s : ByteArray) (w : World) : (Op.equalIn 10000 26 (.agg #[.int .i64 q, .int .i64 t, .int .i64 k, .string s, .int .i64 a, .int .i64 b, .int .i64 c]) (.agg #[.int .i64 q, .int .i64 t, .int .i64 k, .string s, .int .i64 a, .int .i64 b, .int .i64 c])).run Try.prog w = .ok true w := by
  go_simp

set_option maxHeartbeats 4000000 in
theorem RNumbers_any (q t k : Int) (s : ByteArray) (a b c : Int) (w : World) :
    Calls Try.prog 23 #[.agg #[.int .i64 q, .int .i64 t, .int .i64 k, .string s, .int .i64 a, .int .i64 b, .int .i64 c]] w fun e w' => (∃ A cp, e = .returned (.slice A (mnI k).toNat cp) ∧ (mnI k).toNat ≤ cp ∧ cp ≤ maxLen ∧ (A = none → cp = 0) ∧ Sl w' w'.heap.size A (mnI k).toNat (ints ([a, b, c].take (mnI k).toNat))) ∧ Below w.heap.size w w' := by
  have hm : mnI k = 0 ∨ mnI k = 1 ∨ mnI k = 2 ∨ mnI k = 3 := by unfold mnI; omega
  obtain ⟨i0, hi0, hz0, hz1, hz2⟩ := info_parts i64_info
  have HP := hid (RMany_any k)
  have hbA : Below w.heap.size w (w.alloc (.cells #[.int .i64 q, .int .i64 t, .int .i64 k, .string s, .int .i64 a, .int .i64 b, .int .i64 c] 26)) := (Below.refl _ _).alloc (Nat.le_refl _) _
  have HK := hid (heap_alloc_new w (.cells #[.int .i64 q, .int .i64 t, .int .i64 k, .string s, .int .i64 a, .int .i64 b, .int .i64 c] 26))
  rcases hm with hm | hm | hm | hm
  all_goals
    rw [hm] at HP
    rw [hm]
    clear hm
    go_enter Try.func23, Try.ntmps23
    go_wp2_with fail
    refine (HP.out _).mono ?_
    rintro e w1 ⟨rfl, hw⟩
    have K1 : w1.heap[w.heap.size]? = some (.cells #[.int .i64 q, .int .i64 t, .int .i64 k, .string s, .int .i64 a, .int .i64 b, .int .i64 c] 26 (0, 0)) := hw ▸ HK.out
    have hbA' : Below w.heap.size w w1 := hw ▸ hbA
    clear hw hbA HK
    have z1 := blk_lt K1
    have z1' : w.heap.size + 1 ≤ w1.heap.size := z1
    obtain ⟨d0, d1, d2, d3, d4, d5, d6⟩ := blk7 K1
    have HK := hid K1
    have own0 : w1.ownsRow (w.heap.size + 1) 2 1 (.slice none 0 0) 0 [] := ⟨rfl, .inl ⟨rfl, rfl⟩⟩
    clear K1
  · go_wp2_with fail
    go_ret
    exact ⟨⟨_, _, rfl, by decide, by decide, by simp, Sl.nil _ _ _⟩, hbA'⟩
  · go_wp2_with (at_builtin; refine wpList_push rfl (.tmp 10) (.tmp 13) 56 rfl Try.underlying56 hi0 hz0 hz1 hz2 rfl (by decide) rfl own0 rfl rfl ?_ ?c1 ?c2 ?c3 ?c4; intro v1 w2 own1 hb2)
    case c1 => simp [Value.oneCell']
    case c2 => simp [maxLen]
    case c3 => omega
    case c4 => exact z1'
    clear own0
    go_ret
    obtain ⟨A, cp, rfl, h1, h2, h3, h4, -⟩ := own_reads own1 (Nat.le_refl _)
    exact ⟨⟨A, cp, rfl, h1, h2, h3, h4⟩, hbA'.trans (hb2.mono (by omega))⟩
  · go_wp2_with (at_builtin; first
      | (refine wpList_push rfl (.tmp 10) (.tmp 13) 56 rfl Try.underlying56 hi0 hz0 hz1 hz2 rfl (by decide) rfl own0 rfl rfl ?_ ?c1 ?c2 ?c3 ?c4; intro v1 w2 own1 hb2; have K2 := (hb2.block w.heap.size (by omega)).trans HK.out; have z2 := blk_lt K2; obtain ⟨e0, e1, e2, e3, e4, e5, e6⟩ := blk7 K2; clear K2 own0)
      | (refine wpList_push rfl (.tmp 17) (.tmp 20) 56 rfl Try.underlying56 hi0 hz0 hz1 hz2 rfl (by decide) rfl own1 rfl rfl ?_ ?e1 ?e2 ?e3 ?e4; intro v2 w3 own2 hb3))
    case c1 => simp [Value.oneCell']
    case c2 => simp [maxLen]
    case c3 => omega
    case c4 => exact z1'
    case e1 => simp [Value.oneCell']
    case e2 => simp [maxLen]
    case e4 => omega
    go_ret
    obtain ⟨A, cp, rfl, h1, h2, h3, h4, -⟩ := own_reads own2 (Nat.le_refl _)
    exact ⟨⟨A, cp, rfl, h1, h2, h3, h4⟩, (hbA'.trans (hb2.mono (by omega))).trans (hb3.mono (by omega))⟩
  · go_wp2_with (at_builtin; (first
      | (refine wpList_push rfl (.tmp 10) (.tmp 13) 56 rfl Try.underlying56 hi0 hz0 hz1 hz2 rfl (by decide) rfl own0 rfl rfl ?_ ?c1 ?c2 ?c3 ?c4; intro v1 w2 own1 hb2; have K2 := (hb2.block w.heap.size (by omega)).trans HK.out; have z2 := blk_lt K2; obtain ⟨e0, e1, e2, e3, e4, e5, e6⟩ := blk7 K2; have HK2 := hid K2; clear K2 own0)
      | (refine wpList_push rfl (.tmp 17) (.tmp 20) 56 rfl Try.underlying56 hi0 hz0 hz1 hz2 rfl (by decide) rfl own1 rfl rfl ?_ ?e1 ?e2 ?e3 ?e4; intro v2 w3 own2 hb3; have K3 := (hb3.block w.heap.size (by omega)).trans HK2.out; have z3 := blk_lt K3; obtain ⟨e0, e1, e2, e3, e4, e5, e6⟩ := blk7 K3; clear K3)
      | (refine wpList_push rfl (.tmp 24) (.tmp 27) 56 rfl Try.underlying56 hi0 hz0 hz1 hz2 rfl (by decide) rfl own2 rfl rfl ?_ ?f1 ?f2 ?f3 ?f4; intro v3 w4 own3 hb4)))
    case c1 => simp [Value.oneCell']
    case c2 => simp [maxLen]
    case c3 => omega
    case c4 => exact z1'
    case e1 => simp [Value.oneCell']
    case e2 => simp [maxLen]
    case e4 => omega
    case f1 => simp [Value.oneCell']
    case f2 => simp [maxLen]
    case f4 => omega
    go_ret
    obtain ⟨A, cp, rfl, h1, h2, h3, h4, -⟩ := own_reads own3 (Nat.le_refl _)
    exact ⟨⟨A, cp, rfl, h1, h2, h3, h4⟩, ((hbA'.trans (hb2.mono (by omega))).trans (hb3.mono (by omega))).trans (hb4.mono (by omega))⟩
end Go.Proofs.Ytejkgolcehbhdaa
