/- Layer 9: the reference's Same of events only reads. -/
import Derived.Test.YtondnbnaoacanaaGreatDoorEvs
import Derived.Test.YtondnbnaoacanaaGreatDoorFa
import Derived.BigQuiet
namespace Go.Proofs.YtondnbnaoacanaaGreatDoor
open Go.ChangeShapes Go.WideShapes Go.ChangeAt Go.RowKit Fb Go.Maps

set_option maxRecDepth 100000 in
set_option maxHeartbeats 4000000 in
theorem RSame5q {A A' : Option Addr} {c c' B B' : Nat} {l : List Ev} {w : World} (hS : Se w B A l) (hS' : Se w B' A' l) (hn : l.length ≤ 1000000) :
    Calls Tryz.prog 22 #[.slice A l.length c, .slice A' l.length c'] w fun e w' => e = .returned (.bool true) ∧ ∃ m, w' = w.drewN m := by
  have HS := hid hS
  have HS' := hid hS'
  obtain ⟨n, hnl⟩ : ∃ n, l.length = n := ⟨_, rfl⟩
  rw [hnl]
  rw [hnl] at hn
  have HNL := hid hnl
  clear hS hS' hnl
  go_enter Tryz.func22, Tryz.ntmps22
  go_wp2
  go_loopw [5] (fun i wr => ∃ k d : Nat, k ≤ n ∧ i = .int .i64 k ∧ wr = w.drewN d) (fun i _ => n - (intOf i).toNat)
  case atStart => exact ⟨0, 0, Nat.zero_le _, rfl, rfl⟩
  case round =>
    obtain ⟨k, d, hk, rfl, rfl⟩ := hrel
    by_cases hlt : k < n
    · have hkl : k < l.length := by have := HNL.out; omega
      obtain ⟨b, o, rfl, hb, g0, g1, g2, g3, g4, g5, g6⟩ := HS.out.get hkl
      obtain ⟨b', o', rfl, hb', d0, d1, d2, d3, d4, d5, d6⟩ := HS'.out.get hkl
      have hEq := eq_event l[k].q l[k].t l[k].k l[k].a l[k].b l[k].c l[k].s
      generalize l[k] = x at *
      go_wp2_with fail
      go_quiet (fail)
      go_wp2
      go_roundw
      case rel => exact ⟨k + 1, d + nq, by omega, by go_num, by first | rfl | rw [World.drewN_drewN]⟩
      case measure => simp [intOf]; omega
    · go_wp2
      go_ret
      exact ⟨rfl, d, rfl⟩
end Go.Proofs.YtondnbnaoacanaaGreatDoor
