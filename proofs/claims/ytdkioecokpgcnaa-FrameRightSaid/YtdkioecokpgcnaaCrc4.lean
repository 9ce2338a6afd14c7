/- Contracts of layer 4 (crc) and of its reference: bytes that are opened. -/
import Derived.Test.YtdkioecokpgcnaaCrc3
import Derived.Test.YtdkioecokpgcnaaEnv
namespace Go.Proofs.Ytdkioecokpgcnaa
open Go.ChangeShapes Go.WideShapes Go.ChangeAt Go.RowKit Fb

theorem Equal_any {A A' : Option Addr} {n n' c c' B B' : Nat} {zs zs' : List Int} {w : World} (hS : Sl w B A n (by8 zs)) (hS' : Sl w B' A' n' (by8 zs')) (hb : Bytes zs) (hb' : Bytes zs') :
    Calls Try.prog 21 #[.slice A n c, .slice A' n' c'] w fun e w' => e = .returned (.bool (decide (zs = zs'))) ∧ w = w' := by
  have k1 := conv8 c hS
  have k2 := conv8 c' hS'
  have he := str_eq hb hb'
  clear hS hS'
  go_enter Try.func21, Try.ntmps21
  go_wp2
  go_ret
  exact ⟨rfl, rfl⟩
/-- bytes of which all but the last four are m: if they are sealed they are opened -/
def OpensP (T : List Nat) (zs : List Int) (m : Nat) (e : Ending) (w' : World) : Prop :=
  if sealed T (zs.take m) = zs then ∃ A' c', e = .returned (.tuple #[.slice A' m c', .int .i64 0]) ∧ Sl w' w'.heap.size A' m (by8 (zs.take m)) else e = .returned (.tuple #[.slice none 0 0, .int .i64 12])
end Go.Proofs.Ytdkioecokpgcnaa
