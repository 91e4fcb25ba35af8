/- What the program's calls of stage 7 answer: Open, Records, Add, Reset, and of no book. -/
import Derived.Test.YtaenlkopjmgniaaRBk
import Derived.Test.YtaenlkopjmgniaaPC
import Derived.Test.YtaenlkopjmgniaaPO
import Derived.Test.YtaenlkopjmgniaaPZ
namespace Go.Proofs.Ytaenlkopjmgniaa
#print axioms breset_any
end Go.Proofs.Ytaenlkopjmgniaa
