/- How arguments that came in are read. -/
import Derived.Test.YtdkiolghjdlkeaaVBase
import Derived.ProofKit
import Derived.OpenShut
import Derived.SizedLaws
import Derived.ChangeOld
namespace Go.Proofs.Ytdkiolghjdlkeaa
open Go.ChangeShapes Go.WideShapes Go.ChangeAt Go.RowKit
end Go.Proofs.Ytdkiolghjdlkeaa
