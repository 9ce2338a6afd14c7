/- Blocks that are written while the world is a variable. Nothing here speaks of a program. -/
import Derived.Test.YtgijhfdlecdijaaLib
import Derived.Test.YtgijhfdlecdijaaRow
namespace Fb
open Go Go.RowKit

/-- only block g is otherwise -/
structure Sto (g : Nat) (w w' : World) : Prop where
  os : w'.os = w.os
  tape : w'.tape = w.tape
  output : w'.output = w.output
  size : w'.heap.size = w.heap.size
  block : ∀ k, k ≠ g → w'.heap[k]? = w.heap[k]?
variable {w0 w w' w'' : World} {g B B' n : Nat} {A : Option Addr} {xs : List Value}
theorem Sto.refl (g : Nat) (w : World) : Sto g w w := ⟨rfl, rfl, rfl, rfl, fun _ _ => rfl⟩
theorem Sto.trans (h : Sto g w w') (k : Sto g w' w'') : Sto g w w'' := ⟨k.os.trans h.os, k.tape.trans h.tape, k.output.trans h.output, k.size.trans h.size, fun i hi => (k.block i hi).trans (h.block i hi)⟩
theorem Sto.cell (w : World) (g j : Nat) (u : Value) : Sto g w (w.setCell ⟨g, j, none⟩ u) := ⟨rfl, rfl, rfl, by simp [World.setCell], fun k hk => Below.heap_setCell _ _ _ _ hk⟩
theorem Sto.drew (h : Sto g w w') : Sto g w w'.drew := ⟨h.os, h.tape, h.output, h.size, h.block⟩
theorem Sto.below (h : Sto g w w') (hb : Below B w0 w) (hB : B ≤ g) : Below B w0 w' := hb.trans ⟨h.os, h.tape, h.output, Nat.le_of_eq h.size.symm, fun k hk => h.block k (by omega)⟩
theorem Sto.sl (h : Sto g w w') (hS : Sl w B A n xs) (hA : 0 < n → ∀ a, A = some a → a.block ≠ g) : Sl w' B A n xs :=
  ⟨hS.1, fun hn => by
    obtain ⟨b, o, e, hb, hc⟩ := hS.2 hn
    refine ⟨b, o, e, hb, fun j u hu => ?_⟩
    rw [World.cell?_of_block (w := w) (h.block b (hA hn _ e))]
    exact hc j u hu⟩
theorem Sto.own {base size : Nat} {e : TypeId} {v : Value} (h : Sto g w w') (ho : w.ownsRow base e size v n xs) (hg : g < base) : w'.ownsRow base e size v n xs := by
  obtain ⟨hl, hh | ⟨b, cap, cur, hv, hb, hh, r⟩⟩ := ho
  · exact ⟨hl, .inl hh⟩
  · exact ⟨hl, .inr ⟨b, cap, cur, hv, hb, (h.block b (by omega)).trans hh, r⟩⟩
theorem fld3 {t : TypeId} {a b c u : Value} (K : w.heap[g]? = some (.cells #[a, b, c] t (0, 0))) :
    (w.setCell ⟨g, 0, none⟩ u).heap[g]? = some (.cells #[u, b, c] t (0, 0)) ∧ (w.setCell ⟨g, 1, none⟩ u).heap[g]? = some (.cells #[a, u, c] t (0, 0)) ∧ (w.setCell ⟨g, 2, none⟩ u).heap[g]? = some (.cells #[a, b, u] t (0, 0)) := by
  refine ⟨?_, ?_, ?_⟩ <;> simp [World.setCell, Array.getElem?_modify, K]
theorem all3 {t : TypeId} {a b c a' b' c' : Value} (K : w.heap[g]? = some (.cells #[a, b, c] t (0, 0))) :
    (((w.setCell ⟨g, 0, none⟩ a').setCell ⟨g, 1, none⟩ b').setCell ⟨g, 2, none⟩ c').heap[g]? = some (.cells #[a', b', c'] t (0, 0)) := by
  simp [World.setCell, Array.getElem?_modify, K]
theorem sto3 (w : World) (g : Nat) (a b c : Value) : Sto g w (((w.setCell ⟨g, 0, none⟩ a).setCell ⟨g, 1, none⟩ b).setCell ⟨g, 2, none⟩ c) := ((Sto.cell w g 0 a).trans (Sto.cell _ g 1 b)).trans (Sto.cell _ g 2 c)

/-- what lay is let be, but for block g -/
structure Lts (g : Nat) (w w' : World) : Prop where
  os : w'.os = w.os
  tape : w'.tape = w.tape
  output : w'.output = w.output
  size : w.heap.size ≤ w'.heap.size
  block : ∀ k, k < w.heap.size → k ≠ g → w'.heap[k]? = w.heap[k]?
theorem Lts.of (h : Below w.heap.size w w') (g : Nat) : Lts g w w' := ⟨h.os, h.tape, h.output, h.size, fun k hk _ => h.block k hk⟩
theorem Sto.lts (h : Sto g w w') : Lts g w w' := ⟨h.os, h.tape, h.output, Nat.le_of_eq h.size.symm, fun k _ hk => h.block k hk⟩
theorem Lts.trans (h : Lts g w w') (k : Lts g w' w'') : Lts g w w'' := ⟨k.os.trans h.os, k.tape.trans h.tape, k.output.trans h.output, Nat.le_trans h.size k.size, fun i hi hg => (k.block i (Nat.lt_of_lt_of_le hi h.size) hg).trans (h.block i hi hg)⟩
theorem Lts.refl (g : Nat) (w : World) : Lts g w w := ⟨rfl, rfl, rfl, Nat.le_refl _, fun _ _ _ => rfl⟩
theorem Lts.drew (h : Lts g w w') : Lts g w w'.drew := ⟨h.os, h.tape, h.output, h.size, h.block⟩
theorem Lts.below (h : Lts g w w') (hb : Below B w0 w) (hB : B ≤ g) (hs : B ≤ w.heap.size) : Below B w0 w' := hb.trans ⟨h.os, h.tape, h.output, h.size, fun k hk => h.block k (by omega) (by omega)⟩
theorem Lts.sl (h : Lts g w w') (hS : Sl w w.heap.size A n xs) (hA : 0 < n → ∀ a, A = some a → a.block ≠ g) : Sl w' w'.heap.size A n xs :=
  ⟨hS.1, fun hn => by
    obtain ⟨b, o, e, hb, hc⟩ := hS.2 hn
    refine ⟨b, o, e, Nat.lt_of_lt_of_le hb h.size, fun j u hu => ?_⟩
    rw [World.cell?_of_block (w := w) (h.block b hb (hA hn _ e))]
    exact hc j u hu⟩
/-- a whole block is written -/
theorem wpList_store_sto {P : Program} {ops : Array Oper} {rest : List Oper} {o : Oper} {a : Act} {w : World} {Q : Exit → Act → World → Prop} (hgd : o.guard = none) (ty : TypeId) (x y : Operand) (ho : o.op = .store ty x y)
    (g : Nat) (cells : Array Value) (hx : a.eval x = .pointer (some ⟨g, 0, none⟩)) (hy : a.eval y = .agg cells)
    (t : TypeId) (old : Array Value) (hg : w.heap[g]? = some (.cells old t (0, 0))) (hi : (P.info? ty).map (·.size) = some cells.size)
    (hold : old.size = cells.size) (h1 : cells.all (·.oneCell') = true)
    (h : ∀ w', Hid (w'.heap[g]? = some (.cells cells t (0, 0))) → Sto g w w' → wpList P ops Q rest (a.put o.dst undef) w') : wpList P ops Q (o :: rest) a w :=
  wpList_plain hgd fun _ hK => wp_store_row ty x y ho g cells hx hy t old hg hi hold h1 (hK _ _ (h _ (setRow_heap w g old cells t (0, 0) hg) ⟨rfl, rfl, rfl, by simp [World.setRow], fun k hk => setRow_other w g k cells hk⟩))
end Fb
