/- Layer 4: a table that is an argument. -/
import Derived.Test.YtdoehcecpfadbaaCrc1
import Derived.Test.YtdoehcecpfadbaaArr
namespace Go.Proofs.Ytdoehcecpfadbaa
open Go.ChangeShapes Go.WideShapes Go.RowKit Fb

theorem arg_c32 {y : List Int} (h : ∀ z ∈ y, (Lit.int .u32 z).wf = true) : (y.map (Value.int .u32)).toArray = c32 (y.map Int.toNat) := by
  unfold c32
  rw [List.map_map]
  congr 1
  refine List.map_congr_left fun z hz => ?_
  have hb := bounds_u32 (h z hz)
  have e : ((z.toNat : Nat) : Int) = z := Int.toNat_of_nonneg hb.1
  simp only [Function.comp_apply, e]
theorem arg_tb {y : List Int} (hl : y.length = 256) (h : ∀ z ∈ y, (Lit.int .u32 z).wf = true) : Tb (y.map Int.toNat) := by
  refine ⟨by simpa using hl, fun x hx => ?_⟩
  obtain ⟨z, hz, rfl⟩ := List.mem_map.1 hx
  have hb := bounds_u32 (h z hz)
  omega
end Go.Proofs.Ytdoehcecpfadbaa
