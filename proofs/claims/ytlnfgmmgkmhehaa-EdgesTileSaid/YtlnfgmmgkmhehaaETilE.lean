/- What the law of EdgesTile imports. -/
import Derived.Test.YtlnfgmmgkmhehaaETilL
import Derived.Test.YtlnfgmmgkmhehaaQRefTiles
import Derived.Test.YtlnfgmmgkmhehaaELaw
import Derived.Test.YtlnfgmmgkmhehaaEOpen2
