/- The program's calls of stage 12: what they answer. -/
import Derived.Test.YteelnholmlabmaaShC
import Derived.Test.YteelnholmlabmaaShE
import Derived.Test.YteelnholmlabmaaRCv
import Derived.Test.YteelnholmlabmaaRSp
