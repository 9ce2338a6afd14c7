/- The walk of CrcTable. -/
import Derived.Test.YtdoehcecpfadbaaCrcA
namespace Go.Proofs.Ytdoehcecpfadbaa
open Go.ChangeShapes Go.WideShapes Go.ChangeAt Go.RowKit Fb

theorem index_tab (w : World) {k : Nat} (hk : k < 256) :
    (Instr.index 23 (.agg (c32 tabN)) (.int .u8 (k : Int))).run Try.prog w = .ok (.int .u32 ((csteps 8 k : Nat) : Int)) w := by
  have hg : (c32 tabN)[k]? = some (.int .u32 ((ctab k : Nat) : Int)) := by
    have h := tabN_get hk
    rw [c32_get tabN (by rw [tabN_len]; exact hk)]
    have h2 : tabN[k]'(by rw [tabN_len]; exact hk) = ctab k := by
      rw [List.getElem?_eq_getElem (by rw [tabN_len]; exact hk)] at h
      exact Option.some.inj h
    rw [h2]
  have h1 : (0 : Int) ≤ k ∧ (k : Int) < 256 := by omega
  simp [Instr.index, asIntOf, run_underlying Try.underlying23, Sem.run_bind, h1, go_sem]
  rw [if_pos hk, hg]
  rfl
set_option maxRecDepth 100000 in
set_option maxHeartbeats 2000000 in
theorem table_walk (k : Nat) (hk : k < 256) (w : World) :
    Calls Try.prog 4 #[.int .u8 (k : Int)] w fun e w' => e = .returned (.bool true) ∧ Below w.heap.size w w' := by
  have hi := index_tab (k := k) w hk
  go_enter Try.func4, Try.ntmps4
  go_wp2_with fail
  refine (awake_any _).mono ?_
  rintro e w1 ⟨rfl, hb1⟩
  go_wp2_with fail
  go_loop [3, 4] (fun z i => ∃ m : Nat, m ≤ 8 ∧ i = .int .i64 m ∧ z = .int .u32 (csteps m k : Nat)) (fun _ i => 8 - (intOf i).toNat)
  case atStart => exact ⟨0, by omega, rfl, rfl⟩
  case round =>
    obtain ⟨m, hm, rfl, rfl⟩ := hrel
    by_cases hlt8 : m < 8
    · have hz : csteps m k < 4294967296 := csteps_lt m (by omega)
      have hs : csteps (m + 1) k = cstep (csteps m k) := csteps_add 1 m k
      have Hs := hid hs
      clear hs
      generalize csteps m k = z at *
      have P := hid (fun w => Step_any hz w)
      go_wp2_with fail
      refine (P.out _).mono ?_
      rintro e w' ⟨rfl, rfl⟩
      go_wp2_with fail
      go_round
      case rel => exact ⟨m + 1, by omega, by go_num, by rw [Hs.out]⟩
      case measure => simp [intOf]; omega
    · obtain rfl : m = 8 := by omega
      go_wp2_with fail
      refine (Table_any _).mono ?_
      rintro e w2 ⟨rfl, hb2⟩
      have hi := index_tab (k := k) w2 hk
      go_wp2_with fail
      go_ret
      exact ⟨rfl, hb1.trans (hb2.mono hb1.size)⟩
end Go.Proofs.Ytdoehcecpfadbaa
