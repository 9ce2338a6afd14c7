/- An argument that is a struct whose fields are a cell each, however many: opened. An event. Nothing here speaks of a program. -/
import Derived.Test.YtgijhfdlecdijaaLib
import Derived.Deep.Fields
import Derived.OpenShut
import Derived.WideShapes
namespace Fb
open Go Go.RowKit Go.ChangeShapes Go.WideShapes Go.Deep

theorem open_flat {H : Type} {enc : TypeId × Value → H} {P : Program} {w : World} {base b0 : Nat} {spare : Nat → Bool} {held : Bool} {r : Reach} {t : TypeId} {fs : Array Field} {v : Value} {d : DataW H} {ps : List MemPlace}
    (hs : P.underlying t = some (.struct fs)) (hone : oneCellFields P fs = true) (hC : P.cellsOf t = fs.size) (hv : Value.okWide P w r b0 t v) (h : DataW.Trod enc P w base spare held t v d ps) :
    ∃ (cs : Array Value) (n : Nat), v = .agg cs ∧ cs.size = fs.size ∧ ∀ (i : Nat) (f : Field), fs[i]? = some f → ∃ u y, cs[i]? = some u ∧ DataW.trod enc P w base spare held n f.type [u] = some y := by
  obtain ⟨cs, rfl, hsz⟩ := okWide_struct hs hv
  obtain ⟨fuel, hf⟩ := h
  obtain ⟨xs, n, -, -, -, hlen, hg⟩ := DataW.trod_struct hs hf
  refine ⟨cs, n, rfl, hsz.trans hC, fun i f hi => ?_⟩
  have hlt : i < fs.size := (Array.getElem?_eq_some_iff.1 hi).1
  obtain ⟨ho, hk⟩ := hone_of hone i f hi
  have h1 := hg i f hi
  rw [ho, hk, List.getElem?_eq_getElem (by omega)] at h1
  have hci : i < cs.size := by omega
  have h2 : ((Value.agg cs).cells.toList.drop i).take 1 = [cs[i]] := by
    simp only [Value.cells]
    rw [List.drop_eq_getElem_cons (by simpa using hci)]
    simp
  rw [h2] at h1
  exact ⟨cs[i], _, Array.getElem?_eq_getElem hci, h1⟩

theorem open_event {H : Type} {enc : TypeId × Value → H} {P : Program} {w : World} {base b0 : Nat} {spare : Nat → Bool} {held : Bool} {r : Reach} {t : TypeId} {f0 f1 f2 f3 f4 f5 f6 : Field} {v : Value} {d : DataW H} {ps : List MemPlace}
    (hs : P.underlying t = some (.struct #[f0, f1, f2, f3, f4, f5, f6])) (hone : oneCellFields P #[f0, f1, f2, f3, f4, f5, f6] = true) (hC : P.cellsOf t = 7)
    (h0 : P.underlying f0.type = some (.int .i64)) (h1 : P.underlying f1.type = some (.int .i64)) (h2 : P.underlying f2.type = some (.int .i64)) (h3 : P.underlying f3.type = some .string) (h4 : P.underlying f4.type = some (.int .i64)) (h5 : P.underlying f5.type = some (.int .i64)) (h6 : P.underlying f6.type = some (.int .i64))
    (hv : Value.okWide P w r b0 t v) (h : DataW.Trod enc P w base spare held t v d ps) :
    ∃ (q s k a b c : Int) (x : ByteArray), v = .agg #[.int .i64 q, .int .i64 s, .int .i64 k, .string x, .int .i64 a, .int .i64 b, .int .i64 c] ∧ x.size ≤ maxLen := by
  obtain ⟨cs, n, rfl, hsz, hg⟩ := open_flat hs hone hC hv h
  obtain ⟨u0, y0, g0, t0⟩ := hg 0 f0 rfl
  obtain ⟨u1, y1, g1, t1⟩ := hg 1 f1 rfl
  obtain ⟨u2, y2, g2, t2⟩ := hg 2 f2 rfl
  obtain ⟨u3, y3, g3, t3⟩ := hg 3 f3 rfl
  obtain ⟨u4, y4, g4, t4⟩ := hg 4 f4 rfl
  obtain ⟨u5, y5, g5, t5⟩ := hg 5 f5 rfl
  obtain ⟨u6, y6, g6, t6⟩ := hg 6 f6 rfl
  obtain ⟨q, e0, -, -⟩ := DataW.trod_int h0 t0
  obtain ⟨s, e1, -, -⟩ := DataW.trod_int h1 t1
  obtain ⟨k, e2, -, -⟩ := DataW.trod_int h2 t2
  obtain ⟨x, e3, -, hx⟩ := DataW.trod_string h3 t3
  obtain ⟨a, e4, -, -⟩ := DataW.trod_int h4 t4
  obtain ⟨b, e5, -, -⟩ := DataW.trod_int h5 t5
  obtain ⟨c, e6, -, -⟩ := DataW.trod_int h6 t6
  simp only [List.cons.injEq, and_true] at e0 e1 e2 e3 e4 e5 e6
  subst e0 e1 e2 e3 e4 e5 e6
  refine ⟨q, s, k, a, b, c, x, ?_, hx⟩
  congr 1
  apply Array.ext
  · exact hsz
  · intro i i1 i2
    have i3 : i < 7 := i2
    rcases (show i = 0 ∨ i = 1 ∨ i = 2 ∨ i = 3 ∨ i = 4 ∨ i = 5 ∨ i = 6 by omega) with rfl | rfl | rfl | rfl | rfl | rfl | rfl
    · rw [Array.getElem?_eq_getElem i1] at g0; exact Option.some.inj g0
    · rw [Array.getElem?_eq_getElem i1] at g1; exact Option.some.inj g1
    · rw [Array.getElem?_eq_getElem i1] at g2; exact Option.some.inj g2
    · rw [Array.getElem?_eq_getElem i1] at g3; exact Option.some.inj g3
    · rw [Array.getElem?_eq_getElem i1] at g4; exact Option.some.inj g4
    · rw [Array.getElem?_eq_getElem i1] at g5; exact Option.some.inj g5
    · rw [Array.getElem?_eq_getElem i1] at g6; exact Option.some.inj g6
end Fb
