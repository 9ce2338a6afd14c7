/- Slices of the call's own, read; words for memory without a type of its own. -/
import Derived.Test.YtdkioecokpgcnaaRows
import Derived.Test.YtdkioecokpgcnaaLib
namespace Go.Proofs.Ytdkioecokpgcnaa
open Go.ChangeShapes Go.WideShapes Go.ChangeAt Go.RowKit Fb

/-- a slice of the call's own, as one that is read -/
theorem own_reads {w : World} {base n B : Nat} {e : TypeId} {v : Value} {xs : List Value} (h : w.ownsRow base e 1 v n xs) (hB : w.heap.size ≤ B) :
    ∃ A c, v = .slice A n c ∧ n ≤ c ∧ c ≤ maxLen ∧ (A = none → c = 0) ∧ Sl w B A n xs ∧ (∀ a, A = some a → base ≤ a.block) := by
  obtain ⟨A, c, hv, hS⟩ := Sl.own h hB
  refine ⟨A, c, hv, ?_, ?_, ?_, hS, ?_⟩
  all_goals
    rcases h.2 with ⟨h1, h2⟩ | ⟨g, cap, cur, h1, h8, _, h4, h5, _⟩
    · rw [hv] at h1
      simp only [Value.slice.injEq] at h1
      obtain ⟨rfl, _, rfl⟩ := h1
      have := h.1; rw [h2] at this
      first | omega | (intro; rfl) | (intro a ha; cases ha) | (simp at this; omega)
    · rw [hv] at h1
      simp only [Value.slice.injEq] at h1
      obtain ⟨rfl, _, rfl⟩ := h1
      first | omega | (intro h9; cases h9; done) | (intro a ha; cases ha; exact h8)
/-- a slice of the call's own is one from any place ahead on -/
theorem own_down {w : World} {base base' n size : Nat} {e : TypeId} {v : Value} {xs : List Value} (h : w.ownsRow base e size v n xs) (hb : base' ≤ base) : w.ownsRow base' e size v n xs := by
  obtain ⟨hl, h | ⟨g, cap, cur, hv, hg, r⟩⟩ := h
  · exact ⟨hl, .inl h⟩
  · exact ⟨hl, .inr ⟨g, cap, cur, hv, Nat.le_trans hb hg, r⟩⟩
/-- a slice of the call's own stays so where what lay is let be -/
theorem own_below {w w' : World} {base n size : Nat} {e : TypeId} {v : Value} {xs : List Value} (h : w.ownsRow base e size v n xs) (hb : Below w.heap.size w w') : w'.ownsRow base e size v n xs := by
  obtain ⟨hl, h | ⟨g, cap, cur, hv, hg, hh, r⟩⟩ := h
  · exact ⟨hl, .inl h⟩
  · have hlt : g < w.heap.size := by
      rcases Nat.lt_or_ge g w.heap.size with h1 | h1
      · exact h1
      · rw [Array.getElem?_eq_none h1] at hh; cases hh
    exact ⟨hl, .inr ⟨g, cap, cur, hv, hg, (hb.block _ hlt).trans hh, r⟩⟩
end Go.Proofs.Ytdkioecokpgcnaa
