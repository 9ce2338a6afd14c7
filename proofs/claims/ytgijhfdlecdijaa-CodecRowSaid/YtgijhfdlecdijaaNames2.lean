/- Layer 6: the map of places. -/
import Derived.Test.YtgijhfdlecdijaaNames1
namespace Go.Proofs.Ytgijhfdlecdijaa
open Go.RowKit Go.Shelf Fb Go.Maps
open Go.WideMaps (keyOf_string_mk)
attribute [local go_sem] Oper.semAt_some

theorem law9 : Keyed Try.prog 9 := string_keyed Try.underlying9
theorem zero3 (w : World) : (zeroValue 3).run Try.prog w = .ok (.int .i64 0) w := by kernel_rfl
theorem wf_place (k : Nat) (h : k ≤ 1000000) : (Lit.int .i64 ((k : Int) + 1)).wf = true := WalkArith.wf_i64 (by omega)

/-- the map that the rounds write, in a box of its own -/
def PM (w : World) (B : Nat) (pre : List N9) (W : World) : Prop :=
  (Boxed W (B + 1) 69 (.map (some B)) ∧ W.ownsMap Try.prog 9 (plainElem (H := Unit) Try.prog 3) B pre.length (mpD (pre.map (·.1)))) ∧ Below w.heap.size w W ∧ B + 3 ≤ W.heap.size
theorem PM.own {w : World} {B C : Nat} (hB : w.heap.size = B) (hC : B + 2 ≤ C) : OwnFrom C (PM w B) := by
  rintro s X Y row ⟨⟨h1, h2⟩, h3, h4⟩ hg hr
  have hn : ∀ j, row = some j → C ≤ j := fun j e => (hr j e).1
  refine ⟨⟨h1.kept hg (fun e => ?_), h2.kept hg (fun e => ?_)⟩, h3.grown hg (Nat.le_trans h3.size (Nat.le_refl _)) (fun j e => ?_), Nat.le_trans h4 hg.size⟩
  · have := hn _ e.symm; omega
  · have := hn _ e.symm; omega
  · have := hn _ e; omega

set_option maxRecDepth 100000 in
set_option maxHeartbeats 2000000 in
theorem places_in (F : Fence) (n : Nat) (h3 : F.fn 34) (h5 : F.fn 48) (h7 : F.fn 53) (hro : F.round = none) (hn : 3 ≤ n) (A : Option Addr) (cap : Nat) (ss : List ByteArray) (hz : Ok9 ss)
    (w : World) (hS : Sl w w.heap.size A ss.length (st9 ss)) :
    CallsIn F n Try.prog 34 #[.slice A ss.length cap] w fun e W' => (∃ b, e = .returned (.map (some b)) ∧ W'.ownsMap Try.prog 9 (plainElem (H := Unit) Try.prog 3) b ss.length (mpD (dnS ss ss.length))) ∧ Below w.heap.size w W' := by
  have h1 : 1 ≤ n := by omega
  have hmm := @run_makeMap Try.prog
  refine callsIn_of_wp_marks Try.func34 rfl h3 ?_ hro
  simp only [Try.ntmps34, List.size_toArray, List.length_cons, List.length_nil, Nat.reduceAdd, Nat.reduceSub, Array.replicate_succ, Array.replicate_zero, List.push_toArray, List.append_toArray, List.nil_append, List.cons_append]
  gi_wp2_with (gi_at_call 48; refine (backS_in F (n - 1) h5 hro _ _ _ _).mono ?_; rintro e w' ⟨rfl, rfl⟩)
  have bM := (World.ownsMap_made (H := Unit) w Try.prog 9 (plainElem Try.prog 3))
  have bS := Boxed.new (w.alloc (.map #[] 0)) 69 (.map (some w.heap.size))
  have bN := Boxed.new ((w.alloc (.map #[] 0)).alloc (.cells #[.map (some w.heap.size)] 69)) 22 (.slice A ss.length cap)
  rw [World.size_alloc] at bS
  rw [World.size_alloc, World.size_alloc] at bN
  have hB0 : Below w.heap.size w (((w.alloc (.map #[] 0)).alloc (.cells #[.map (some w.heap.size)] 69)).alloc (.cells #[.slice A ss.length cap] 22)) := (((Below.refl _ w).alloc (Nat.le_refl _) _).alloc (by simp) _).alloc (by simp; omega) _
  refine wpIn_rangeFunc_ownG hro h1 (gf := 53) (lb := #[.pointer (some ⟨w.heap.size + 1 + 1, 0, none⟩)]) rfl h7 (enters_of Try.func53 (by kernel_rfl) rfl)
    (backS_stops F (n - 1) h7 hro (by omega) (w.heap.size + 1 + 1) w.heap.size cap A ss hz _ (by simp) (by simp; omega) bN.cell (hS.below hB0)) KS.trans (KS.put (by simp; omega) (by simp)) (Below.refl _ _) (fun _ => rfl)
    (PM w w.heap.size)
    (fun _ _ _ => False)
    (PM.own rfl (by simp))
    (fun _ _ _ _ _ hs _ _ => hs)
    ⟨⟨bS.alloc _, (bM.alloc _).alloc _⟩, hB0, by simp⟩
    (fun x => { tmps := #[.slice A ss.length cap, undef, .map none, .pointer (some ⟨w.heap.size + 1, 0, none⟩), .int .i64 (x.1.1 : Int), .string x.1.2, .map (some w.heap.size), .slice A ss.length cap, .func (.func 53) #[] #[.pointer (some ⟨w.heap.size + 1 + 1, 0, none⟩)], .int .i64 (x.1.1 : Int), .string x.1.2, undef, undef, undef, undef, undef], defers := [] }) ?assign ?body ?done ?stop
  case assign =>
    intro l x W K hK
    gi_wp2
    exact hK
  case body =>
    rintro l pre ⟨⟨x1, x2⟩, hx1, hx2⟩ W ⟨⟨hc, hown⟩, hB, hz3⟩ hpre
    have c0 := hc.cell
    have hx1' : x1 ≤ 1000000 := hx1
    have hx2' : x2.size ≤ maxLen := hx2
    have hl := hz.1
    gi_wp2_with (gi_at_mapUpdate; (refine wpListIn_mapUpdate_own _ rfl _ _ _ 69 rfl 9 3 law9 Try.underlying69 _ w.heap.size pre.length _ rfl hown (by unfold maxLen; omega) _ _ (.string x2.data.toList) rfl rfl (keyOf_string_mk Try.underlying9 hx2') _ [] (plainElem_int Try.underlying3 (wf_place x1 hx1')) ?_); intro W1 hown1 hg1)
    have hB1 : Below w.heap.size W W1 := (Below.refl _ W).grown hg1 hB.size (fun j e => by cases e; exact Nat.le_refl _)
    refine ⟨KeepsFrom.of_grownBy hg1 (fun j e => by cases e; simp; omega), ⟨hB1, World.cell?_of_block (hg1.block (w.heap.size + 1 + 1) (by omega) (fun e => by have := Option.some.inj e; omega))⟩, ⟨hc.kept hg1 (fun e => by have := Option.some.inj e; omega), ?_⟩, hB.trans hB1, Nat.le_trans hz3 hg1.size⟩
    rw [List.map_append, List.map_singleton, mpD_snoc, List.length_append]
    exact hown1
  case done =>
    rintro D ys W hD rfl ⟨⟨hc, hown⟩, hB, hz3⟩ hK
    have c0 := hc.cell
    gi_wp2
    refine ⟨by simp, .inl ⟨_, _, rfl, run_takeDeferred hK, ?_⟩⟩
    exact ⟨_, results_tmp rfl _ _ _, ⟨_, rfl, by
      have := hown.kept (grownBy_putObj' W D (.deferred none)) (by simp at hD ⊢; omega)
      rwa [dn9_length, dn9_val] at this⟩, hB.trans (belowK_b (w := w) (Nat.le_refl _) W D _ _ (by simp at hD; omega) hK rfl rfl)⟩
  case stop =>
    rintro D c pre W _ _ h _
    exact h.elim

theorem places_any {A : Option Addr} {cap n B : Nat} {ss : List ByteArray} (hz : Ok9 ss) {w : World} (hS : Sl w B A n (st9 ss)) (hB : B ≤ w.heap.size) :
    Calls Try.prog 34 #[.slice A n cap] w fun e W' => (∃ b, e = .returned (.map (some b)) ∧ W'.ownsMap Try.prog 9 (plainElem (H := Unit) Try.prog 3) b ss.length (mpD (dnS ss ss.length))) ∧ Below w.heap.size w W' := by
  have hl : n = ss.length := by have := hS.len; rw [st9_len] at this; exact this.symm
  subst hl
  exact callsIn_wide.1 (places_in Fence.wide 3 trivial trivial trivial rfl (Nat.le_refl _) A cap ss hz w (hS.up hB))
end Go.Proofs.Ytgijhfdlecdijaa
