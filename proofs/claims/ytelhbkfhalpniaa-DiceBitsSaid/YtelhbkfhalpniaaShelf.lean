/- No library function of this seat has a contract that is laid. -/
import Derived.ProofKit
import Derived.WalkKit
import Derived.Lib.Repeat
import Derived.Test.YtelhbkfhalpniaaProg
namespace Go.Proofs.Ytelhbkfhalpniaa
end Go.Proofs.Ytelhbkfhalpniaa
