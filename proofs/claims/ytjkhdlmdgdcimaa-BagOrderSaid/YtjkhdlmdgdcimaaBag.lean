/- What the program's calls of stage 8 answer. -/
import Derived.Test.YtjkhdlmdgdcimaaBgL
import Derived.Test.YtjkhdlmdgdcimaaGAF
import Derived.Test.YtjkhdlmdgdcimaaGAW
import Derived.Test.YtjkhdlmdgdcimaaGAT
import Derived.Test.YtjkhdlmdgdcimaaGAS
import Derived.Test.YtjkhdlmdgdcimaaGAN
