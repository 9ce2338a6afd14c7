/- An event that may follow is read as it was, and the same stands behind it; bytes that are read as an event are just its; cut, or with more behind, they are none's: for every input of the statement. -/
import Derived.Test.YtgijhfdlecdijaaRows
import Derived.Test.YtgijhfdlecdijaaCodecBackW
import Derived.Test.YtgijhfdlecdijaaCtx
import Derived.Test.YtgijhfdlecdijaaFlat
import Derived.WalkKit
import Derived.ProofKit
import Derived.OpenShut
import Derived.ShutString
import Derived.ChangeOld
import Derived.Below
namespace Go.Proofs.Ytgijhfdlecdijaa.codecBack
open Go.ChangeShapes Go.WideShapes Go.ChangeAt Go.RowKit Fb
open Go.ChangeMaps (open_string shut_string)
set_option linter.unusedVariables false

theorem own : ownKnob Try.prog.godebug = none := by kernel_rfl
theorem laidOut : laidOutB Try.prog = true := by kernel_rfl

theorem walk (qq0 tt0 : Int) (A0 : Option Addr) (c0 : Nat) (a0 : List ByteArray) (sq1 at1 kd1 na1 nb1 nc1 : Int) (cm1 : ByteArray) (A2 : Option Addr) (c2 : Nat) (a2 : List Int) (a3 : Int) (A4 : Option Addr) (c4 : Nat) (a4 : List Int) (w : World) (w0 : a0.length ≤ c0) (m0 : c0 ≤ maxLen) (s0 : Sl w w.heap.size A0 a0.length (a0.map Value.string)) (z0 : ∀ s ∈ a0, s.size ≤ maxLen) (n0 : A0 = none → c0 = 0) (y1 : cm1.size ≤ maxLen) (w2 : a2.length ≤ c2) (m2 : c2 ≤ maxLen) (s2 : Sl w w.heap.size A2 a2.length (a2.map (Value.int .u8))) (z2 : ∀ n ∈ a2, (Lit.int .u8 n).wf = true) (n2 : A2 = none → c2 = 0) (w3 : (Lit.int .u8 a3).wf = true) (w4 : a4.length ≤ c4) (m4 : c4 ≤ maxLen) (s4 : Sl w w.heap.size A4 a4.length (a4.map (Value.int .u8))) (z4 : ∀ n ∈ a4, (Lit.int .u8 n).wf = true) (n4 : A4 = none → c4 = 0) :
    Calls Try.prog 3 #[.agg #[.int .i64 qq0, .int .i64 tt0, .slice A0 a0.length c0], .agg #[.int .i64 sq1, .int .i64 at1, .int .i64 kd1, .string cm1, .int .i64 na1, .int .i64 nb1, .int .i64 nc1], .slice A2 a2.length c2, .int .u8 a3, .slice A4 a4.length c4] w fun e w' => e = .returned (.bool true) ∧ Below w.heap.size w w' := by
  have hb2 : Bytes a2 := fun x hx => by have := z2 x hx; simp [Lit.wf, IntKind.min, IntKind.max, IntKind.signed, IntKind.bits] at this; omega
  have hb4 : Bytes a4 := fun x hx => by have := z4 x hx; simp [Lit.wf, IntKind.min, IntKind.max, IntKind.signed, IntKind.bits] at this; omega
  have hc3 : 0 ≤ a3 ∧ a3 ≤ 255 := by simp [Lit.wf, IntKind.min, IntKind.max, IntKind.signed, IntKind.bits] at w3; omega
  exact back_walk qq0 tt0 sq1 at1 kd1 na1 nb1 nc1 cm1 A0 a0.length c0 a0 A2 a2.length c2 a2 a3 A4 a4.length c4 a4 w ⟨s0, w0, m0, n0⟩ y1 ⟨s2, w2, m2, n2⟩ hb2 hc3 ⟨s4, w4, m4, n4⟩ hb4

set_option maxRecDepth 100000 in
theorem lifted (os : Os) (started : os.Started) (H : Type) (enc : TypeId × Value → H) :
    ReturnsInHanded {} Try.checked os 3 .any (Rows.codecBackSpec.pre6 enc Try.prog Try.f3 Rows.codecBackRow.domain false) (Rows.codecBackSpec.post enc Try.prog Try.f3 false true false false) := by
  refine returnsInHanded_of_change (C := Try.checked) own started (by kernel_rfl) Try.func3
    (ChangeSpec.witness6 (enc := enc) (C := Try.checked) false ⟨#[], #[.agg #[.int .i64 0, .int .i64 0, .slice none 0 0], .agg #[.int .i64 0, .int .i64 0, .int .i64 0, .string ByteArray.empty, .int .i64 0, .int .i64 0, .int .i64 0], .slice none 0 0, .int .u8 0, .slice none 0 0], []⟩ 8 (by kernel_rfl) (by kernel_rfl) (by kernel_rfl) (by kernel_rfl)) ?_
  intro W base args ds gs before hval0 hW hcnd _
  have hval : ∀ (j : Nat) t v, Try.f3.params[j]? = some t → args[j]? = some v → Value.okWide Try.prog W .any base t v := hval0
  have hW' := hW
  obtain ⟨p, q, hA0, hV, rfl, hfz, hnd⟩ := hW
  have hA : DataW.TrodAll enc Try.prog W 0 (fun _ => true) true Try.f3.params.toList args.toList ds p := hA0
  rw [Try.params3] at hA hval
  obtain ⟨v0, vs0, d0, ds0, p0, q0, hargs, rfl, rfl, h0, r0⟩ := trodAll_cons hA
  obtain ⟨v1, vs1, d1, ds1, p1, q1, rfl, rfl, rfl, h1, r1⟩ := trodAll_cons r0
  obtain ⟨v2, vs2, d2, ds2, p2, q2, rfl, rfl, rfl, h2, r2⟩ := trodAll_cons r1
  obtain ⟨v3, vs3, d3, ds3, p3, q3, rfl, rfl, rfl, h3, r3⟩ := trodAll_cons r2
  obtain ⟨v4, vs4, d4, ds4, p4, q4, rfl, rfl, rfl, h4, r4⟩ := trodAll_cons r3
  obtain ⟨rfl, rfl, rfl⟩ := trodAll_nil r4
  obtain rfl : args = #[v0, v1, v2, v3, v4] := by cases args; simp_all
  obtain ⟨rfl, rfl⟩ := trodVars_none hV
  have k0 := h0
  have lt0 : ∀ x ∈ p0, x.block < W.heap.size := by obtain ⟨m, hm⟩ := k0; exact DataW.trod_lt m _ _ _ hm
  obtain ⟨A0, c0, a0, qq0, tt0, rfl, w0, m0, s0, z0, n0⟩ := open_ctx Try.underlying24 (by kernel_rfl) (by kernel_rfl) Try.underlying2 Try.underlying2 Try.underlying22 Try.underlying9 (by kernel_rfl) (hval 0 24 v0 rfl rfl) h0
  have k1 := h1
  have lt1 : ∀ x ∈ p1, x.block < W.heap.size := by obtain ⟨m, hm⟩ := k1; exact DataW.trod_lt m _ _ _ hm
  obtain ⟨sq1, at1, kd1, na1, nb1, nc1, cm1, rfl, y1⟩ := open_event Try.underlying26 (by kernel_rfl) (by kernel_rfl) Try.underlying2 Try.underlying2 Try.underlying3 Try.underlying9 Try.underlying2 Try.underlying2 Try.underlying2 (hval 1 26 v1 rfl rfl) h1
  have k2 := h2
  have lt2 : ∀ x ∈ p2, x.block < W.heap.size := by obtain ⟨m, hm⟩ := k2; exact DataW.trod_lt m _ _ _ hm
  obtain ⟨A2, c2, a2, rfl, w2, m2, s2, z2, n2⟩ := open_ints_sl Try.underlying27 Try.underlying5 (by kernel_rfl) (hval 2 27 v2 rfl rfl) h2
  obtain ⟨a3, rfl, rfl, rfl, w3⟩ := open_int Try.underlying5 (hval 3 5 v3 rfl rfl) h3
  have k4 := h4
  have lt4 : ∀ x ∈ p4, x.block < W.heap.size := by obtain ⟨m, hm⟩ := k4; exact DataW.trod_lt m _ _ _ hm
  obtain ⟨A4, c4, a4, rfl, w4, m4, s4, z4, n4⟩ := open_ints_sl Try.underlying27 Try.underlying5 (by kernel_rfl) (hval 4 27 v4 rfl rfl) h4
  clear hA0 hval0
  refine (walk qq0 tt0 A0 c0 a0 sq1 at1 kd1 na1 nb1 nc1 cm1 A2 c2 a2 a3 A4 c4 a4 W w0 m0 s0 z0 n0 y1 w2 m2 s2 z2 n2 w3 w4 m4 s4 z4 n4).mono fun e W' ⟨he, bel⟩ => ?_
  subst he
  exact ⟨_, rfl, _, _, _, [], _, [], hW', trodAll_mk1 (shut_bool Try.underlying4 _), (trodAll_cons_mk (Below.trod laidOut (by kernel_rfl) (of_decide_eq_true (by kernel_rfl)) k0 bel lt0) (trodAll_cons_mk (Below.trod laidOut (by kernel_rfl) (of_decide_eq_true (by kernel_rfl)) k1 bel lt1) (trodAll_cons_mk (Below.trod laidOut (by kernel_rfl) (of_decide_eq_true (by kernel_rfl)) k2 bel lt2) (trodAll_cons_mk (shut_int Try.underlying5 w3) (trodAll_cons_mk (Below.trod laidOut (by kernel_rfl) (of_decide_eq_true (by kernel_rfl)) k4 bel lt4) trodAll_mk0))))), rfl, bel.frame _, fun h => by cases h⟩

theorem over : Rows.codecBackRow.holds Try.pinned (OpenSpec.ofChange Rows.codecBackSpec) :=
  OpenClaim.holds_of_wide 3 Try.f3 rfl rfl rfl rfl rfl rfl rfl ⟨rfl, rfl, rfl, rfl, rfl⟩ rfl rfl rfl rfl rfl (by kernel_rfl) Try.func3 (by kernel_rfl)
    (of_decide_eq_true (by kernel_rfl)) (by unfold Func.isWrapper; first | (rw [if_pos (by decide +kernel)]; kernel_rfl) | (rw [if_neg (by decide +kernel)]; exact ⟨rfl, rfl⟩))
    (fun os started H enc _ => lifted os started H enc)

/-- the given statement -/
theorem proved : Rows.CodecBackSaid := over
#print axioms proved
end Go.Proofs.Ytgijhfdlecdijaa.codecBack
