/- Contracts of layer 5: the numbers of an event in its reference; events compared; awake. -/
import Derived.Test.YtgijhfdlecdijaaEvent4
import Derived.Test.YtgijhfdlecdijaaReads
import Derived.Laws.StructEq
namespace Go.Proofs.Ytgijhfdlecdijaa
open Go.ChangeShapes Go.WideShapes Go.ChangeAt Go.RowKit Fb

theorem i64_info : (Try.prog.info? 2).map (fun i => (i.zero, i.size, i.bytes)) = some (some (.int .i64 0), 1, 8) := by kernel_rfl
/-- an event is the same as itself -/
theorem eq_event (q t k a b c : Int) (s : ByteArray) (w : World) : (Op.equalIn 10000 26 (.agg #[.int .i64 q, .int .i64 t, .int .i64 k, .string s, .int .i64 a, .int .i64 b, .int .i64 c]) (.agg #[.int .i64 q, .int .i64 t, .int .i64 k, .string s, .int .i64 a, .int .i64 b, .int .i64 c])).run Try.prog w = .ok true w := by
  go_simp

end Go.Proofs.Ytgijhfdlecdijaa
