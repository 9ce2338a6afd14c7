/- An argument that is a struct of two numbers and a slice of strings. Nothing here speaks of a program. -/
import Derived.Test.YtgijhfdlecdijaaCur
import Derived.Test.YtgijhfdlecdijaaStrs
namespace Fb
open Go Go.RowKit Go.ChangeShapes Go.WideShapes Go.Deep Go.Joins

theorem strs_raw {H : Type} {enc : TypeId × Value → H} {P : Program} {w : World} {base : Nat} {spare : Nat → Bool} {held : Bool} {t e : TypeId} {v : Value} {fuel : Nat} {x : DataW H × List MemPlace}
    (ht : P.underlying t = some (.slice e)) (he : P.underlying e = some .string) (hc : P.cellsOf e = 1) (hf : DataW.trod enc P w base spare held fuel t [v] = some x) :
    ∃ (A : Option Addr) (cap : Nat) (ss : List ByteArray), v = .slice A ss.length cap ∧ ss.length ≤ cap ∧ cap ≤ maxLen ∧ Sl w w.heap.size A ss.length (ss.map Value.string) ∧ (∀ s ∈ ss, s.size ≤ maxLen) ∧ (A = none → cap = 0) := by
  rcases open_strs ht he hc hf with ⟨hcs, _⟩ | ⟨x, l, c', m, Sx, hcs, _, hl, hm, hmm, _, hcell⟩
  · obtain rfl : v = .slice none 0 0 := by simpa using hcs
    exact ⟨none, 0, [], rfl, Nat.le_refl _, Nat.zero_le _, Sl.nil _ _ _, by simp, fun _ => rfl⟩
  · obtain rfl : v = .slice (some x) l c' := by simpa using hcs
    have hnm : l ≤ m := by rw [hmm]; split <;> omega
    have hlen : ((List.range l).map Sx).length = l := by simp
    refine ⟨some x, c', (List.range l).map Sx, by rw [hlen], by rw [hlen]; exact hl, hm, ⟨by simp, fun h0 => ?_⟩, fun s hs => ?_, fun h => by cases h⟩
    · rw [hlen] at h0
      obtain ⟨b, o, spot⟩ := x
      have hc0 := (hcell 0 (by omega)).1
      obtain rfl : spot = none := by simpa [Addr.add] using World.cell?_spot hc0
      refine ⟨b, o, rfl, cell_lt (o := o) (by simpa [Addr.add] using hc0), fun j u hu => ?_⟩
      have hj : j < l := by
        rcases Nat.lt_or_ge j l with h | h
        · exact h
        · rw [List.getElem?_eq_none (by simp; omega)] at hu; cases hu
      have hc := (hcell j (by omega)).1
      simp only [List.map_map, List.getElem?_map, List.getElem?_range hj, Option.map_some, Option.some.injEq, Function.comp] at hu
      subst hu
      have ha : (⟨b, o, none⟩ : Addr).add j = ⟨b, o + j, none⟩ := by unfold Addr.add; split <;> simp_all
      rw [ha] at hc
      exact hc
    · obtain ⟨i, hi, rfl⟩ := List.mem_map.1 hs
      exact (hcell i (by have := List.mem_range.1 hi; omega)).2

theorem open_ctx {H : Type} {enc : TypeId × Value → H} {P : Program} {w : World} {base b0 : Nat} {spare : Nat → Bool} {held : Bool} {r : Reach} {t e : TypeId} {f0 f1 f2 : Field} {v : Value} {d : DataW H} {ps : List MemPlace}
    (hs : P.underlying t = some (.struct #[f0, f1, f2])) (hone : oneCellFields P #[f0, f1, f2] = true) (hC : P.cellsOf t = 3)
    (h0 : P.underlying f0.type = some (.int .i64)) (h1 : P.underlying f1.type = some (.int .i64)) (h2 : P.underlying f2.type = some (.slice e)) (he : P.underlying e = some .string) (hc : P.cellsOf e = 1)
    (hv : Value.okWide P w r b0 t v) (h : DataW.Trod enc P w base spare held t v d ps) :
    ∃ (A : Option Addr) (cap : Nat) (ss : List ByteArray) (p er : Int), v = .agg #[.int .i64 p, .int .i64 er, .slice A ss.length cap] ∧ ss.length ≤ cap ∧ cap ≤ maxLen ∧ Sl w w.heap.size A ss.length (ss.map Value.string) ∧ (∀ s ∈ ss, s.size ≤ maxLen) ∧ (A = none → cap = 0) := by
  obtain ⟨v0, v1, v2, y0, y1, y2, n, rfl, -, -, g0, g1, g2⟩ := open_agg3 hs hone hC hv h
  obtain ⟨A, cap, ss, rfl, a1, a2, a3, a4, a5⟩ := strs_raw h2 he hc g2
  obtain ⟨p, e1, -, -⟩ := DataW.trod_int h0 g0
  obtain ⟨q, e2, -, -⟩ := DataW.trod_int h1 g1
  obtain rfl : v0 = .int .i64 p := by simpa using e1
  obtain rfl : v1 = .int .i64 q := by simpa using e2
  exact ⟨A, cap, ss, p, q, rfl, a1, a2, a3, a4, a5⟩
end Fb
