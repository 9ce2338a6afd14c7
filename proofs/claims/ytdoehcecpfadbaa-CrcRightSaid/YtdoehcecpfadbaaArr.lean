/- An argument that is an array of integers, by value: opened. -/
import Derived.Test.YtdoehcecpfadbaaLib
import Derived.OpenShut
import Derived.WideShapes
namespace Fb
open Go Go.ChangeShapes Go.WideShapes

theorem open_ints_arr {H : Type} {enc : TypeId × Value → H} {P : Program} {w : World} {base b0 n : Nat} {spare : Nat → Bool} {held : Bool} {r : Reach} {t e : TypeId} {k : IntKind} {v : Value} {d : DataW H} {ps : List MemPlace}
    (ht : P.underlying t = some (.array n e)) (he : P.underlying e = some (.int k)) (hce : P.cellsOf e = 1) (hct : P.cellsOf t = n) (hv : Value.okWide P w r b0 t v) (h : DataW.Trod enc P w base spare held t v d ps) :
    ∃ zs : List Int, v = .agg (zs.map (Value.int k)).toArray ∧ zs.length = n ∧ ∀ z ∈ zs, (Lit.int k z).wf = true := by
  unfold Value.okWide at hv
  rw [ht] at hv
  obtain ⟨cs, rfl, hsz, -⟩ := hv
  obtain ⟨fuel, hf⟩ := h
  obtain ⟨xs, m, -, -, hlen, hxl, hx⟩ := DataW.trod_array ht hf
  have hcs : cs.size = n := by omega
  have each : ∀ i, i < n → ∃ z, cs[i]? = some (.int k z) ∧ (Lit.int k z).wf = true := by
    intro i hi
    have h1 := hx i hi
    rw [hce, Nat.mul_one, List.getElem?_eq_getElem (by omega)] at h1
    obtain ⟨z, hz, -, hw⟩ := DataW.trod_int he h1
    refine ⟨z, ?_, hw⟩
    have := congrArg (·[0]?) hz
    simpa [List.getElem?_take, List.getElem?_drop, Value.cells] using this
  refine ⟨(List.range n).map fun i => ((cs[i]?.map fun u => match u with | .int _ z => z | _ => 0).getD 0), ?_, by simp, ?_⟩
  · congr 1
    apply Array.ext
    · simp [hcs]
    · intro i h1 h2
      obtain ⟨z, hz, -⟩ := each i (by omega)
      have h3 : cs[i] = .int k z := by rw [Array.getElem?_eq_getElem h1] at hz; exact Option.some.inj hz
      simp [h3, hz]
  · intro z hz
    simp only [List.mem_map, List.mem_range] at hz
    obtain ⟨i, hi, rfl⟩ := hz
    obtain ⟨z, hz, hw⟩ := each i hi
    simpa [hz] using hw
end Fb
