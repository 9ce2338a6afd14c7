/- Layer 7: awake, the fixed answer that each statement begins with. -/
import Derived.Test.YtgijhfdlecdijaaCodec5
namespace Go.Proofs.Ytgijhfdlecdijaa
open Go.ChangeShapes Go.WideShapes Go.ChangeAt Go.RowKit Fb Go.Maps

def x7 : Ev := ⟨1, 5, 4, ⟨#[100, 98]⟩, 1, 0, 0⟩
def b7 : List Int := [4, 1, 5, 0, 2, 100, 98, 1]
theorem rc7 : rcB 0 0 [] = true := by decide
theorem fl7 : flE 0 0 [] x7 = 0 := by decide
theorem fL7 : flL [] x7 = [⟨#[100, 98]⟩] := by decide
theorem sp7 : spB 0 0 [] x7 = b7 := by
  have e1 : nmL x7 = [1] := by decide
  have e2 : plc x7.s [] = 0 := rfl
  have e3 : sI x7.s = [100, 98] := by decide
  have e4 : x7.s.size = 2 := by decide
  unfold spB h4 tx
  rw [e1, e2, if_pos rfl, e3, e4, lebs_one]
  simp only [x7]
  rw [leb_small (by decide), leb_small (by decide), leb_small (by decide), leb_small (by decide), leb_small (by decide), leb_small (by decide)]
  decide
theorem en7 : enE 0 0 [] x7 = 0 := by unfold enE; rw [if_pos rc7]; exact fl7
theorem ok7 : Ok9 [] := ⟨by decide, fun s hs => by cases hs⟩

-- the walk: tools/codec/awake.py
set_option maxRecDepth 100000 in
set_option maxHeartbeats 4000000 in
theorem awake7 (w : World) : Calls Try.prog 5 #[] w fun e w' => e = .returned (.bool true) ∧ Below w.heap.size w w' := by
  have P1 := hid (fun (w1 : World) => Encode_any 0 0 (A := none) (n := 0) (cp := 0) ok7 1 5 4 1 0 0 (s := ⟨#[100, 98]⟩) (by unfold maxLen; decide) (w := w1) ⟨Sl.nil _ _ _, Nat.le_refl _, Nat.zero_le _, fun _ => rfl⟩ (by omega))
  obtain ⟨-, -, z3, z4, z5, z6⟩ := en_zero en7
  unfold Encs at P1
  have P2 := P1.out
  change ∀ (w1 : World), Calls _ _ _ w1 (fun e w' => (∃ (A1 : Option Addr) (n1 c1 : Nat) (A2 : Option Addr) (n2 c2 : Nat), e = .returned (.tuple #[.slice A1 n1 c1, .agg #[.int .i64 (enQ 0 0 [] x7), .int .i64 (enT 0 0 [] x7), .slice A2 n2 c2], .int .i64 (enE 0 0 [] x7)]) ∧ Rw w' A1 n1 c1 (enB 0 0 [] x7) ∧ Rs w' A2 n2 c2 (enL 0 0 [] x7)) ∧ Below w1.heap.size w1 w') at P2
  rw [z3, z4, z5, z6, en7, sp7, fL7, show x7.q = 1 from rfl, show x7.t = 5 from rfl] at P2
  have P3 := hid P2
  clear P1 P2 z3 z4 z5 z6
  have hbA : Below w.heap.size w (w.alloc (.cells #[.int .i64 1, .int .i64 5, .int .i64 4, .string ⟨#[100, 98]⟩, .int .i64 1, .int .i64 0, .int .i64 0] 26)) := (Below.refl _ _).alloc (Nat.le_refl _) _
  have hEq := eq_event 1 5 4 1 0 0 ⟨#[100, 98]⟩
  go_enter Try.func5, Try.ntmps5
  go_wp2_with fail
  refine (P3.out _).mono ?_
  rintro e w1 ⟨⟨A1, n1, c1, A2, n2, c2, rfl, hR1, hR2⟩, hb1⟩
  have hbw1 : Below w.heap.size w w1 := hbA.trans (hb1.mono hbA.size)
  have K1 := (hb1.block w.heap.size (by simp)).trans (heap_alloc_new w _)
  have z1 := blk_lt K1
  obtain ⟨u10, u11, u12, u13, u14, u15, u16⟩ := blk7 K1
  have HK := hid (K1)
  clear K1
  have HR1 := hid hR1
  have HR2 := hid hR2
  clear hR1 hR2 hb1
  have PD := hid (fun (o : Obj) => Decode_any 0 0 (A := none) (n := 0) (cp := 0) (ss := []) (w := w1.alloc o) ok7 ⟨Sl.nil _ _ _, Nat.le_refl _, Nat.zero_le _, fun _ => rfl⟩ (by omega) (HR1.out.below ((Below.refl _ _).alloc (Nat.le_refl _) o)) (c := c1) (zs := b7) (by intro x hx; simp [b7] at hx; omega) (by have := HR1.out.len; simp [b7] at this; omega))
  obtain ⟨y1, y2, y3, y4, y5⟩ := de_yes rc7 (⟨fl7, sp7⟩ : Fo 0 0 [] x7 b7)
  unfold Decs at PD
  rw [y1, y2, y3, y4, y5, fL7, show evV x7 = .agg #[.int .i64 1, .int .i64 5, .int .i64 4, .string ⟨#[100, 98]⟩, .int .i64 1, .int .i64 0, .int .i64 0] from rfl, show x7.q = 1 from rfl, show x7.t = 5 from rfl] at PD
  clear y1 y2 y3 y4 y5
  go_wp2_with fail
  refine (PD.out _).mono ?_
  rintro e w2 ⟨⟨A3, n3, c3, rfl, hR3⟩, hb2⟩
  have HR4 := hid ((HR1.out.below ((Below.refl _ _).alloc (Nat.le_refl _) _)).below hb2)
  have HR5 := hid ((HR2.out.below ((Below.refl _ _).alloc (Nat.le_refl _) _)).below hb2)
  have hbw2 : Below w.heap.size w w2 := (hbw1.alloc (by omega) _).trans (hb2.mono (by simp; omega))
  have K1 := (hb2.block _ (by simp; omega)).trans ((Below.heap_alloc _ _ _ z1).trans HK.out)
  have K2 := (hb2.block _ (by simp)).trans (heap_alloc_new w1 _)
  obtain ⟨g2, hg2⟩ : ∃ g, w1.heap.size = g := ⟨_, rfl⟩
  have lg2 : w.heap.size + 1 ≤ g2 := by omega
  rw [hg2] at K2
  clear z1 u10 u11 u12 u13 u14 u15 u16 HK
  have z1 := blk_lt K1
  obtain ⟨u10, u11, u12, u13, u14, u15, u16⟩ := blk7 K1
  have z2 := blk_lt K2
  obtain ⟨u20, u21, u22, f20, f21, f22⟩ := blk3 K2
  have HK := hid (And.intro K1 (K2))
  clear K1 K2
  rw [hg2]
  obtain rfl : n3 = 1 := hR3.len
  have k1 := fun (o1 o2 : Obj) => conv8 c1 ((HR4.out.below ((Below.refl _ _).alloc (Nat.le_refl _) o1)).below ((Below.refl _ _).alloc (Nat.le_refl _) o2)).1
  have he : ((strOfNums b7).toList == [4, 1, 5, 0, 2, 100, 98, 1]) = true := by rw [Go.Lib.strOfNums_toList]; decide
  have PR := hid (fun (o1 o2 : Obj) => CRight_any 1 5 (cp := c2) (A := A2) (n := n2) (ss := [⟨#[100, 98]⟩]) ⟨by decide, fun s hs => by simp at hs; subst hs; unfold maxLen; decide⟩ ((HR5.out.below ((Below.refl _ _).alloc (Nat.le_refl _) o1)).below ((Below.refl _ _).alloc (Nat.le_refl _) o2)).1 (Nat.le_refl _))
  have e8 : rcB 1 5 [⟨#[100, 98]⟩] = true := by decide
  rw [e8] at PR
  clear e8 hR3 hb2
  go_wp2_with fail
  with_reducible refine (PR.out _ _).mono ?_
  rintro e w3 ⟨rfl, hb3⟩
  go_wp2_with fail
  go_ret
  have hbX := (hbw2.alloc (by omega) (.cells #[.int .i64 1, .int .i64 5, .int .i64 4, .string ⟨#[100, 98]⟩, .int .i64 1, .int .i64 0, .int .i64 0] 26)).alloc (by simp; omega) (.cells #[.int .i64 1, .int .i64 5, .slice A3 1 c3] 24)
  exact ⟨rfl, hbX.trans (hb3.mono hbX.size)⟩
end Go.Proofs.Ytgijhfdlecdijaa
