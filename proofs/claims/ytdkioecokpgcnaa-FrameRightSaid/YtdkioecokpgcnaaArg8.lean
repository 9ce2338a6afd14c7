/- An argument of bytes. -/
import Derived.Test.YtdkioecokpgcnaaBytes
namespace Go.Proofs.Ytdkioecokpgcnaa
open Fb Go.RowKit

/-- an argument of bytes -/
structure Arg8 (w : World) (A : Option Addr) (n c : Nat) (zs : List Int) : Prop where
  rw : Rw w A n c zs
  bytes : Bytes zs
theorem Arg8.len {w : World} {A : Option Addr} {n c : Nat} {zs : List Int} (h : Arg8 w A n c zs) : n = zs.length := by
  have := h.rw.1.len
  rw [by8_len] at this
  exact this.symm
end Go.Proofs.Ytdkioecokpgcnaa
