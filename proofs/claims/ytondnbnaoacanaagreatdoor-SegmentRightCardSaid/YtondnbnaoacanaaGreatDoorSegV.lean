/- Layer 9: the scanner in a block of its own; contracts of stands and end. -/
import Derived.Test.YtondnbnaoacanaaGreatDoorSegS
import Derived.Test.YtondnbnaoacanaaGreatDoorFa
import Derived.Test.YtondnbnaoacanaaGreatDoorFrame4
import Derived.Deep.RegionHeld3
namespace Go.Proofs.YtondnbnaoacanaaGreatDoor
open Go.ChangeShapes Go.WideShapes Go.ChangeAt Go.RowKit Fb Go.Maps

theorem blk12 {w : World} {g : Nat} {t : TypeId} {a b c d e f h i j k l m : Value} (H : w.heap[g]? = some (.cells #[a, b, c, d, e, f, h, i, j, k, l, m] t (0, 0))) :
    w.cell? ⟨g, 0, none⟩ = some a ∧ w.cell? ⟨g, 1, none⟩ = some b ∧ w.cell? ⟨g, 2, none⟩ = some c ∧ w.cell? ⟨g, 3, none⟩ = some d ∧ w.cell? ⟨g, 4, none⟩ = some e ∧ w.cell? ⟨g, 5, none⟩ = some f ∧ w.cell? ⟨g, 6, none⟩ = some h ∧ w.cell? ⟨g, 7, none⟩ = some i ∧ w.cell? ⟨g, 8, none⟩ = some j ∧ w.cell? ⟨g, 9, none⟩ = some k ∧ w.cell? ⟨g, 10, none⟩ = some l ∧ w.cell? ⟨g, 11, none⟩ = some m :=
  ⟨cell_of_row w g 0 _ t (0, 0) H, cell_of_row w g 1 _ t (0, 0) H, cell_of_row w g 2 _ t (0, 0) H, cell_of_row w g 3 _ t (0, 0) H, cell_of_row w g 4 _ t (0, 0) H, cell_of_row w g 5 _ t (0, 0) H, cell_of_row w g 6 _ t (0, 0) H, cell_of_row w g 7 _ t (0, 0) H, cell_of_row w g 8 _ t (0, 0) H, cell_of_row w g 9 _ t (0, 0) H, cell_of_row w g 10 _ t (0, 0) H, cell_of_row w g 11 _ t (0, 0) H⟩
theorem blk12f {w : World} {g : Nat} {t : TypeId} {cs : Array Value} (H : w.heap[g]? = some (.cells cs t (0, 0))) (k : Nat) : w.frozen? ⟨g, k, none⟩ = false := by simp [World.frozen?, H]
/-- a cell as it is in new room for events -/
def ZE (u : Value) : Prop := u = .int .i64 0 ∨ u = .string ByteArray.empty
/-- the scanner in block g -/
structure SI (w0 : World) (g : Nat) (AB : Option Addr) (nB cB : Nat) (w : World) (s : Sc) (vE : Value) (A2 : Option Addr) (n2 c2 : Nat) : Prop where
  lo : w0.heap.size ≤ g
  bel : Below w0.heap.size w0 w
  blk : w.heap[g]? = some (.cells #[.int .i64 s.num, .int .i64 s.before.q, .int .i64 s.before.t, .slice none 0 0, vE, .int .i64 s.after.q, .int .i64 s.after.t, .slice A2 n2 c2, .int .i64 0, .int .i64 (s.size : Int), .slice AB nB cB, .bool s.sd] 63 (0, 0))
  row : w.ownsRow (g + 1) 41 7 vE s.evs.length (evsC s.evs)
  spr : SprY ZE w vE (s.evs.length * 7)
  nms : Rs w A2 n2 c2 s.after.l
theorem SI.below {w0 w w' : World} {g : Nat} {AB : Option Addr} {nB cB : Nat} {s : Sc} {vE : Value} {A2 : Option Addr} {n2 c2 : Nat} (h : SI w0 g AB nB cB w s vE A2 n2 c2) (hb : Below w.heap.size w w') : SI w0 g AB nB cB w' s vE A2 n2 c2 :=
  ⟨h.lo, h.bel.trans (hb.mono h.bel.size), (hb.block _ (blk_lt h.blk)).trans h.blk, own_below h.row hb, SprY.below h.spr h.row hb, h.nms.below hb⟩
theorem nx_range (zs : List Int) (p : Int) : nxS zs p = 0 ∨ nxS zs p = 1 ∨ nxS zs p = 2 ∨ nxS zs p = 3 := by
  unfold nxS fiS
  repeat' split
  all_goals simp
/-- cells that were there are there behind a call -/
theorem keep_cell {w w' : World} (h : Below w.heap.size w w') {a : Addr} {u : Value} (hu : w.cell? a = some u) : w'.cell? a = some u := by
  rw [World.cell?_of_block (w := w) (h.block a.block (World.block_lt_of_cell? w a hu))]
  exact hu

set_option maxRecDepth 100000 in
set_option maxHeartbeats 4000000 in
theorem stands_any {g : Nat} {AB : Option Addr} {nB cB : Nat} {zs : List Int} {p : Nat} {A' : Option Addr} {n' c' B' : Nat} {ws : List Int} (E : Int) {w : World} (h9 : w.cell? ⟨g, 9, none⟩ = some (.int .i64 (p : Int))) (h10 : w.cell? ⟨g, 10, none⟩ = some (.slice AB nB cB))
    (hS : Rw w AB nB cB zs) (hp : p ≤ nB) (hS' : Sl w B' A' n' (by8 ws)) (hb : Bytes zs) (hb' : Bytes ws) :
    Calls Tryz.prog 82 #[.pointer (some ⟨g, 0, none⟩), .slice A' n' c', .int .i64 E] w fun e w' => e = .returned (.bool (decide (E = 0) && decide ((zs.drop p).take n' = ws))) ∧ Below w.heap.size w w' := by
  obtain ⟨A2, n2, c2, hcs, hR, hn2⟩ := cut_at hS hp
  have PH := hid (fun k => HasPrefix_any (c' := c') (w := w.drewN k) (hR.below (below_drewN (Below.refl _ _) k)) ⟨hS'.1, hS'.2⟩ (fun x hx => hb x (List.mem_of_mem_drop hx)) hb')
  have hc1 := hS.2.1
  have hc2 := hS.2.2.1
  unfold maxLen at hc2
  have i1 : (0 : Int) ≤ (p : Int) := by omega
  have i2 : (p : Int) ≤ (nB : Int) := by omega
  clear hS hR hS' hb hb'
  generalize decide ((zs.drop p).take n' = ws) = R at *
  by_cases hE : E = 0
  · subst hE
    rw [decide_eq_true rfl, Bool.true_and]
    rcases hcs with ⟨rfl, rfl, rfl, rfl⟩ | ⟨hne, rfl, rfl, rfl⟩
    all_goals
      go_enter Tryz.func82, Tryz.ntmps82
      go_wp2_with fail
      go_quiet ((go_at_call 101; exact Calls.quiet_of_same ((PH.out _).mono fun _ _ h => ⟨h.1, h.2.symm⟩)))
      go_wp2
      go_ret
      exact ⟨rfl, below_drewN (Below.refl _ _) _⟩
  · rw [decide_eq_false hE, Bool.false_and]
    go_enter Tryz.func82, Tryz.ntmps82
    go_wp2_with fail
    go_quiet (fail)
    go_wp2
    go_ret
    exact ⟨rfl, below_drewN (Below.refl _ _) _⟩
end Go.Proofs.YtondnbnaoacanaaGreatDoor
