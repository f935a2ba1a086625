/- What the laws of stage 1 on shares of any number of weights import. -/
import Derived.Test.YthbmdnofabnhnaaStL
import Derived.Test.YthbmdnofabnhnaaShown
