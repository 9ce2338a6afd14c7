/- Layer 8: contract of the reference's Next. -/
import Derived.Test.YtondnbnaoacanaaDoorFa
import Derived.BigQuiet
namespace Go.Proofs.YtondnbnaoacanaaDoor
open Go.ChangeShapes Go.WideShapes Go.ChangeAt Go.RowKit Fb

/-- what stands there, as the reference tells it -/
def RFNext (w : World) (zs : List Int) (p : Int) (e : Ending) (w' : World) : Prop :=
  (∃ A2 c2, e = .returned (.agg #[.int .i64 (nxS zs p), .int .i64 (nxK zs p), .slice A2 (nxP zs p).length c2, .int .i64 (nxN zs p)]) ∧ Rw w' A2 (nxP zs p).length c2 (nxP zs p)) ∧ Below w.heap.size w w'
theorem RFNext.none {w w' : World} {zs : List Int} {p E : Int} (h : nxS zs p = E) (h0 : E ≠ 0) (hb : Below w.heap.size w w') : RFNext w zs p (.returned (.agg #[.int .i64 E, .int .i64 0, .slice none 0 0, .int .i64 0])) w' := by
  obtain ⟨e1, e2, e3⟩ := nx_no (zs := zs) (p := p) (by rw [h]; exact h0)
  unfold RFNext
  rw [h, e1, e2, e3]
  exact ⟨⟨_, _, rfl, Rw.nil w'⟩, hb⟩

theorem all4 {w : World} {g : Nat} {t : TypeId} {a b c d a' b' c' d' : Value} (K : w.heap[g]? = some (.cells #[a, b, c, d] t (0, 0))) :
    ((((w.setCell ⟨g, 0, none⟩ a').setCell ⟨g, 1, none⟩ b').setCell ⟨g, 2, none⟩ c').setCell ⟨g, 3, none⟩ d').heap[g]? = some (.cells #[a', b', c', d'] t (0, 0)) := by
  simp [World.setCell, Array.getElem?_modify, K]
theorem blk48 {w : World} {g : Nat} {t : TypeId} {a b c d : Value} (h : w.heap[g]? = some (.cells #[a, b, c, d] t (0, 0))) :
    w.cell? ⟨g, 0, none⟩ = some a ∧ w.cell? ⟨g, 1, none⟩ = some b ∧ w.cell? ⟨g, 2, none⟩ = some c ∧ w.cell? ⟨g, 3, none⟩ = some d ∧ w.frozen? ⟨g, 0, none⟩ = false ∧ w.frozen? ⟨g, 1, none⟩ = false ∧ w.frozen? ⟨g, 2, none⟩ = false ∧ w.frozen? ⟨g, 3, none⟩ = false :=
  ⟨cell_of_row w g 0 #[a, b, c, d] t (0, 0) h, cell_of_row w g 1 #[a, b, c, d] t (0, 0) h, cell_of_row w g 2 #[a, b, c, d] t (0, 0) h, cell_of_row w g 3 #[a, b, c, d] t (0, 0) h, by simp [World.frozen?, h], by simp [World.frozen?, h], by simp [World.frozen?, h], by simp [World.frozen?, h]⟩
theorem blk_lt4 {w : World} {g : Nat} {o : Obj} (h : w.heap[g]? = some o) : g < w.heap.size := by
  rcases Nat.lt_or_ge g w.heap.size with h1 | h1
  · exact h1
  · rw [Array.getElem?_eq_none h1] at h; cases h
theorem set4 {B g : Nat} {w w' : World} (h : Below B w w') (hg : B ≤ g) (a b c d : Value) : Below B w ((((w'.setCell ⟨g, 0, none⟩ a).setCell ⟨g, 1, none⟩ b).setCell ⟨g, 2, none⟩ c).setCell ⟨g, 3, none⟩ d) :=
  Below.setCell (Below.setCell (Below.setCell (Below.setCell h hg _) hg _) hg _) hg _
theorem rw_set4 {g : Nat} {w : World} {A : Option Addr} {n cp : Nat} {zs : List Int} (h : Rw w A n cp zs) (hA : ∀ a, A = some a → a.block ≠ g) (a b c d : Value) : Rw ((((w.setCell ⟨g, 0, none⟩ a).setCell ⟨g, 1, none⟩ b).setCell ⟨g, 2, none⟩ c).setCell ⟨g, 3, none⟩ d) A n cp zs := by
  have e : ((((w.setCell ⟨g, 0, none⟩ a).setCell ⟨g, 1, none⟩ b).setCell ⟨g, 2, none⟩ c).setCell ⟨g, 3, none⟩ d).heap.size = w.heap.size := by simp [World.setCell]
  refine ⟨?_, h.2⟩
  rw [e]
  exact Sl.far (Sl.far (Sl.far (Sl.far h.1 hA _) hA _) hA _) hA _
end Go.Proofs.YtondnbnaoacanaaDoor
