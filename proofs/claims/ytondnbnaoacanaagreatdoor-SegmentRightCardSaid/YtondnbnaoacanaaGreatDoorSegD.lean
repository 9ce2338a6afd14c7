/- Layer 9, the reference: what its Read holds of the bytes, in a block of its own. -/
import Derived.Test.YtondnbnaoacanaaGreatDoorSegJ
import Derived.Test.YtondnbnaoacanaaGreatDoorSegH
namespace Go.Proofs.YtondnbnaoacanaaGreatDoor
open Go.ChangeShapes Go.WideShapes Go.ChangeAt Go.RowKit Fb Go.Maps

structure SJ (w0 : World) (g : Nat) (w : World) (s : Sc) (vE : Value) (A2 : Option Addr) (n2 c2 : Nat) : Prop where
  lo : w0.heap.size ≤ g
  bel : Below w0.heap.size w0 w
  blk : w.heap[g]? = some (.cells #[.int .i64 s.num, .int .i64 s.before.q, .int .i64 s.before.t, .slice none 0 0, vE, .int .i64 s.after.q, .int .i64 s.after.t, .slice A2 n2 c2, .int .i64 0, .int .i64 (s.size : Int)] 50 (0, 0))
  row : w.ownsRow (g + 1) 41 7 vE s.evs.length (evsC s.evs)
  spr : SprY ZE w vE (s.evs.length * 7)
  nms : Rs w A2 n2 c2 s.after.l
section
variable {w0 w w' w1 we ws w5 : World} {g : Nat} {s s' : Sc} {vE v' : Value} {A2 A3 : Option Addr} {n2 c2 n3 c3 : Nat}
theorem SJ.below (h : SJ w0 g w s vE A2 n2 c2) (hb : Below w.heap.size w w') : SJ w0 g w' s vE A2 n2 c2 :=
  ⟨h.lo, h.bel.trans (hb.mono h.bel.size), (hb.block _ (blk_lt h.blk)).trans h.blk, own_below h.row hb, SprY.below h.spr h.row hb, h.nms.below hb⟩
theorem sj_cells (n q t aq at9 st p : Int) (vE vN : Value) (h1 : ∀ s, vE ≠ .string s) (h2 : ∀ s, vN ≠ .string s) :
    ∀ (i : Nat) (s : ByteArray), (#[.int .i64 n, .int .i64 q, .int .i64 t, .slice none 0 0, vE, .int .i64 aq, .int .i64 at9, vN, .int .i64 st, .int .i64 p] : Array Value)[i]? ≠ some (.string s) := by
  intro i s h
  rcases (show i = 0 ∨ i = 1 ∨ i = 2 ∨ i = 3 ∨ i = 4 ∨ i = 5 ∨ i = 6 ∨ i = 7 ∨ i = 8 ∨ i = 9 ∨ 10 ≤ i by omega) with rfl | rfl | rfl | rfl | rfl | rfl | rfl | rfl | rfl | rfl | hi
  · cases h
  · cases h
  · cases h
  · cases h
  · exact h1 s (Option.some.inj h)
  · cases h
  · cases h
  · exact h2 s (Option.some.inj h)
  · cases h
  · cases h
  · rw [Array.getElem?_eq_none (by simpa using hi)] at h; cases h
theorem SJ.cells (h : SJ w0 g w s vE A2 n2 c2) : ∀ (i : Nat) (b : ByteArray), (#[.int .i64 s.num, .int .i64 s.before.q, .int .i64 s.before.t, .slice none 0 0, vE, .int .i64 s.after.q, .int .i64 s.after.t, .slice A2 n2 c2, .int .i64 0, .int .i64 (s.size : Int)] : Array Value)[i]? ≠ some (.string b) :=
  sj_cells _ _ _ _ _ _ _ vE (.slice A2 n2 c2) (row_slice h.row) (fun _ e => by cases e)
theorem SJ.put (h : SJ w0 g w s vE A2 n2 c2) (S : Sto g w w')
    (hk : w'.heap[g]? = some (.cells #[.int .i64 s'.num, .int .i64 s'.before.q, .int .i64 s'.before.t, .slice none 0 0, vE, .int .i64 s'.after.q, .int .i64 s'.after.t, .slice A3 n3 c3, .int .i64 0, .int .i64 (s'.size : Int)] 50 (0, 0)))
    (he : s'.evs = s.evs) (hr : Rs w' A3 n3 c3 s'.after.l) : SJ w0 g w' s' vE A3 n3 c3 :=
  ⟨h.lo, S.below h.bel h.lo, hk, by rw [he]; exact S.own h.row (by omega), by rw [he]; exact (own_elseY h.row h.blk (by decide) S.block).2 h.spr, hr⟩
theorem set10_9 {t : TypeId} {a b c d e f h i j k k' : Value} (K : w.heap[g]? = some (.cells #[a, b, c, d, e, f, h, i, j, k] t (0, 0))) :
    (w.setCell ⟨g, 9, none⟩ k').heap[g]? = some (.cells #[a, b, c, d, e, f, h, i, j, k'] t (0, 0)) := by
  simp [World.setCell, Array.getElem?_modify, K]
theorem set10_8 {t : TypeId} {a b c d e f h i j k j' : Value} (K : w.heap[g]? = some (.cells #[a, b, c, d, e, f, h, i, j, k] t (0, 0))) :
    (w.setCell ⟨g, 8, none⟩ j').heap[g]? = some (.cells #[a, b, c, d, e, f, h, i, j', k] t (0, 0)) := by
  simp [World.setCell, Array.getElem?_modify, K]
/-- the bytes' place goes on -/
theorem SJ.go (h : SJ w0 g w s vE A2 n2 c2) (p : Nat) (sd : Bool) : SJ w0 g (w.setCell ⟨g, 9, none⟩ (.int .i64 (p : Int))) ⟨s.num, s.before, s.evs, s.after, p, sd⟩ vE A2 n2 c2 :=
  h.put (Sto.cell _ _ _ _) (set10_9 h.blk) rfl (Rs.stoN h.nms h.blk h.cells (Sto.cell _ _ _ _))
/-- a Head was read -/
theorem SJ.head {n q t : Int} {p : Nat} (h : SJ w0 g w s vE A2 n2 c2) (S : Sto g w w')
    (hk : w'.heap[g]? = some (.cells #[.int .i64 n, .int .i64 q, .int .i64 t, .slice none 0 0, .slice none 0 0, .int .i64 q, .int .i64 t, .slice none 0 0, .int .i64 0, .int .i64 (p : Int)] 50 (0, 0))) :
    SJ w0 g w' ⟨n, ⟨q, t, []⟩, [], ⟨q, t, []⟩, p, false⟩ (.slice none 0 0) none 0 0 :=
  ⟨h.lo, S.below h.bel h.lo, hk, World.ownsRow_nil _ _ _ _, SprY.nil _ _, rs_nil _⟩
theorem all10e {t : TypeId} {a b c d e f h i j k e' f' h' i' k' : Value} (K : w.heap[g]? = some (.cells #[a, b, c, d, e, f, h, i, j, k] t (0, 0))) :
    (((((w.setCell ⟨g, 4, none⟩ e').setCell ⟨g, 5, none⟩ f').setCell ⟨g, 6, none⟩ h').setCell ⟨g, 7, none⟩ i').setCell ⟨g, 9, none⟩ k').heap[g]? = some (.cells #[a, b, c, d, e', f', h', i', j, k'] t (0, 0)) := by
  simp [World.setCell, Array.getElem?_modify, K]
theorem sto5e (w : World) (g : Nat) (e f h i k : Value) : Sto g w (((((w.setCell ⟨g, 4, none⟩ e).setCell ⟨g, 5, none⟩ f).setCell ⟨g, 6, none⟩ h).setCell ⟨g, 7, none⟩ i).setCell ⟨g, 9, none⟩ k) :=
  ((((Sto.cell w g 4 e).trans (Sto.cell _ g 5 f)).trans (Sto.cell _ g 6 h)).trans (Sto.cell _ g 7 i)).trans (Sto.cell _ g 9 k)
/-- one event more -/
theorem SJ.more {x : Ev} {p : Nat} (h : SJ w0 g w s vE A2 n2 c2)
    (hr : w1.ownsRow (g + 1) 41 7 v' (s.evs.length + 1) (evsC s.evs ++ evC x)) (hsp : SprY ZE w1 v' ((s.evs.length + 1) * 7)) (hg : w.grownBy w1 vE.ownBlock) (hz : NzY ZE w w1)
    (hR : Rs w A3 n3 c3 (flL s.after.l x)) (hn : ∀ y ∈ flL s.after.l x, 1 ≤ y.size) :
    SJ w0 g (((((w1.setCell ⟨g, 4, none⟩ v').setCell ⟨g, 5, none⟩ (.int .i64 x.q)).setCell ⟨g, 6, none⟩ (.int .i64 x.t)).setCell ⟨g, 7, none⟩ (.slice A3 n3 c3)).setCell ⟨g, 9, none⟩ (.int .i64 (p : Int))) ⟨s.num, s.before, s.evs ++ [x], s.after.nx x, p, s.sd⟩ v' A3 n3 c3 := by
  have hb1 : Below w0.heap.size w0 w1 := grown_low h.row hg h.bel (by have := h.lo; omega) h.bel.size
  have hk1 := grown_elseY hg h.row h.blk (by decide)
  have S := sto5e w1 g v' (.int .i64 x.q) (.int .i64 x.t) (.slice A3 n3 c3) (.int .i64 (p : Int))
  obtain ⟨ho, hz2⟩ := own_elseY hr hk1 (by decide) S.block
  refine ⟨h.lo, S.below hb1 h.lo, all10e (e' := v') (f' := .int .i64 x.q) (h' := .int .i64 x.t) (i' := .slice A3 n3 c3) (k' := .int .i64 (p : Int)) hk1, ?_, ?_, ?_⟩
  · rw [List.length_append, evsC_app, evsC_one]; exact ho
  · rw [List.length_append]; exact hz2 hsp
  · exact Rs.stoN (hR.nzE hn hz hg.size) hk1 h.cells S
/-- all was read -/
theorem SJ.done {zs : List Int} {st : Int} {r : Nat} {w : World} (h : SJ w0 g we s vE A2 n2 c2) (S : Sto g we ws)
    (hk : ws.heap[g]? = some (.cells #[.int .i64 s.num, .int .i64 s.before.q, .int .i64 s.before.t, .slice none 0 0, vE, .int .i64 s.after.q, .int .i64 s.after.t, .slice A2 n2 c2, .int .i64 st, .int .i64 (s.size : Int)] 50 (0, 0)))
    (hr : w.heap.size = r) (hK : w0 = w.alloc (.cells #[.int .i64 0, .int .i64 0, .int .i64 0, .slice none 0 0, .slice none 0 0, .int .i64 0, .int .i64 0, .slice none 0 0, .int .i64 0, .int .i64 0] 50)) (hf : Fin zs s) (hst : stS zs s = st)
    (h5 : w5 = ((((((((((ws.setCell ⟨r, 0, none⟩ (.int .i64 s.num)).setCell ⟨r, 1, none⟩ (.int .i64 s.before.q)).setCell ⟨r, 2, none⟩ (.int .i64 s.before.t)).setCell ⟨r, 3, none⟩ (.slice none 0 0)).setCell ⟨r, 4, none⟩ vE).setCell ⟨r, 5, none⟩ (.int .i64 s.after.q)).setCell ⟨r, 6, none⟩ (.int .i64 s.after.t)).setCell ⟨r, 7, none⟩ (.slice A2 n2 c2)).setCell ⟨r, 8, none⟩ (.int .i64 st)).setCell ⟨r, 9, none⟩ (.int .i64 (s.size : Int)))) :
    w5.heap[r]? = some (.cells (scV s st vE (.slice A2 n2 c2)) 50 (0, 0)) ∧ ReadR w zs (.returned (.agg (scV s st vE (.slice A2 n2 c2)))) w5 := by
  subst h5 hr hst
  have h0 : Below w.heap.size w w0 := by rw [hK]; exact (Below.refl _ _).alloc (Nat.le_refl _) _
  have hs0 : w0.heap.size = w.heap.size + 1 := by rw [hK]; simp
  have hlo := h.lo
  have hK0 : w0.heap[w.heap.size]? = some (.cells #[.int .i64 0, .int .i64 0, .int .i64 0, .slice none 0 0, .slice none 0 0, .int .i64 0, .int .i64 0, .slice none 0 0, .int .i64 0, .int .i64 0] 50 (0, 0)) := by rw [hK]; exact heap_alloc_new w _
  have hKe := (h.bel.block _ (by omega)).trans hK0
  have hKs := (S.block w.heap.size (by omega)).trans hKe
  have hk5 := all10 (a' := .int .i64 s.num) (b' := .int .i64 s.before.q) (c' := .int .i64 s.before.t) (d' := .slice none 0 0) (e' := vE) (f' := .int .i64 s.after.q) (h' := .int .i64 s.after.t) (i' := .slice A2 n2 c2) (j' := .int .i64 (stS zs s)) (k' := .int .i64 (s.size : Int)) hKs
  have hs5 := sto10 ws w.heap.size (.int .i64 s.num) (.int .i64 s.before.q) (.int .i64 s.before.t) (.slice none 0 0) vE (.int .i64 s.after.q) (.int .i64 s.after.t) (.slice A2 n2 c2) (.int .i64 (stS zs s)) (.int .i64 (s.size : Int))
  have hRs : Rs ws A2 n2 c2 s.after.l := Rs.stoN h.nms h.blk h.cells S
  obtain ⟨w9, hW⟩ : ∃ x, x = ((((((((((ws.setCell ⟨w.heap.size, 0, none⟩ (.int .i64 s.num)).setCell ⟨w.heap.size, 1, none⟩ (.int .i64 s.before.q)).setCell ⟨w.heap.size, 2, none⟩ (.int .i64 s.before.t)).setCell ⟨w.heap.size, 3, none⟩ (.slice none 0 0)).setCell ⟨w.heap.size, 4, none⟩ vE).setCell ⟨w.heap.size, 5, none⟩ (.int .i64 s.after.q)).setCell ⟨w.heap.size, 6, none⟩ (.int .i64 s.after.t)).setCell ⟨w.heap.size, 7, none⟩ (.slice A2 n2 c2)).setCell ⟨w.heap.size, 8, none⟩ (.int .i64 (stS zs s))).setCell ⟨w.heap.size, 9, none⟩ (.int .i64 (s.size : Int))) := ⟨_, rfl⟩
  rw [← hW] at hk5 hs5 ⊢
  clear hW
  have hR5 : Rs w9 A2 n2 c2 s.after.l := Rs.stoN hRs hKs (sj_cells _ _ _ _ _ _ _ _ _ (fun _ e => by cases e) (fun _ e => by cases e)) hs5
  have hO5 := (own_elseY (S.own h.row (by omega)) hKs (by decide) hs5.block).1
  have hB5 : Below w.heap.size w w9 := hs5.below (S.below (h0.trans (h.bel.mono h0.size)) (by omega)) (Nat.le_refl _)
  obtain ⟨A5, c5, rfl, hSe, h51, h52, h53⟩ := row_evs hO5 (Nat.le_refl _)
  exact ⟨hk5, ⟨s, A5, c5, A2, n2, c2, hf, rfl, hSe, h51, h52, h53, hR5⟩, hB5⟩
end
end Go.Proofs.YtondnbnaoacanaaGreatDoor
