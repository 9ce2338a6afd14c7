/- Contracts of layer 3 (wire) and of its reference: signed numbers that are read. -/
import Derived.Test.YtgijhfdlecdijaaWire4
namespace Go.Proofs.Ytgijhfdlecdijaa
open Go.ChangeShapes Go.WideShapes Go.ChangeAt Go.RowKit Fb

end Go.Proofs.Ytgijhfdlecdijaa
