/- Layer 9: contract of end. -/
import Derived.Test.YtondnbnaoacanaaGreatDoorSegV
namespace Go.Proofs.YtondnbnaoacanaaGreatDoor
open Go.ChangeShapes Go.WideShapes Go.ChangeAt Go.RowKit Fb Go.Maps

set_option maxRecDepth 100000 in
set_option maxHeartbeats 4000000 in
theorem end_any {w0 : World} {g : Nat} {AB : Option Addr} {nB cB : Nat} {zs : List Int} {s : Sc} {vE : Value} {A2 : Option Addr} {n2 c2 : Nat} {w : World} (hS : Rw w0 AB nB cB zs) (hb : Bytes zs) (h : SI w0 g AB nB cB w s vE A2 n2 c2) :
    Calls Tryz.prog 36 #[.pointer (some ⟨g, 0, none⟩)] w fun e w' => e = .returned (.int .i64 (stS zs s)) ∧ Below w.heap.size w w' := by
  have PN := hid (fun (w1 : World) (h1 : Below w.heap.size w w1) => FNext_any (s.size : Int) ((hS.below h.bel).below h1) hb)
  have HI := hid h
  unfold FNext at PN
  have y := blk_lt h.blk
  obtain ⟨u0, u1, u2, u3, u4, u5, u6, u7, u8, u9, u10, u11⟩ := blk12 h.blk
  clear u0 u1 u2 u3 u4 u5 u6 u7 u8
  have HR := hid (nx_range zs (s.size : Int))
  have HST : Hid (stS zs s = if nxS zs (s.size : Int) = 1 then (if s.sd then 4 else 1) else if nxS zs (s.size : Int) = 2 ∧ s.sd = false then 2 else 3) := rfl
  rw [HST.out]
  clear HST h
  generalize nxS zs (s.size : Int) = E at *
  generalize nxK zs (s.size : Int) = K at *
  generalize nxP zs (s.size : Int) = P at *
  generalize nxN zs (s.size : Int) = N at *
  generalize s.size = p at *
  generalize s.sd = sd at *
  go_enter Tryz.func36, Tryz.ntmps36
  go_wp2_with fail
  go_region_held3 (fun w' => w'.cell? ⟨g, 10, none⟩ = some (.slice AB nB cB) ∧ w'.cell? ⟨g, 9, none⟩ = some (.int .i64 (p : Int)))
    (first
      | go_keep
      | (go_split_ands
         refine ⟨?_, ?_⟩
         · (exact keep_cell hbx.out (by assumption))
         · (exact keep_cell hbx.out (by assumption))))
    (first | (go_at_call 55; refine (PN.out _ (Below.drew (Below.refl _ _))).mono ?_; rintro e w1 ⟨⟨AP, cP, rfl, hR1⟩, hb1⟩; have hbx := hid hb1))
  have hbw : Below w.heap.size w w1 := (Below.drew (Below.refl _ _)).trans (hbx.out)
  have v11 := keep_cell hbw u11
  clear u9 u10 u11 hbx hb1 hR1 PN
  have HR := unhid HR
  cases sd <;> rcases HR with rfl | rfl | rfl | rfl
  all_goals
    go_wp2
    go_ret
    exact ⟨ret_int (by simp), hbw⟩
end Go.Proofs.YtondnbnaoacanaaGreatDoor
