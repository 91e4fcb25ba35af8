/- What the program's calls answer: PutNum, Num, PutText, Text, Nums, Split. -/
import Derived.Test.YtnjkceekiipobaaRSplit
import Derived.Test.YtnjkceekiipobaaRPutText
import Derived.Test.YtnjkceekiipobaaWnum
import Derived.Test.YtnjkceekiipobaaRd3
import Derived.Test.YtnjkceekiipobaaRd4
namespace Go.Proofs.Ytnjkceekiipobaa
#print axioms split_any
end Go.Proofs.Ytnjkceekiipobaa
