/- What the law of FixedShares imports. -/
import Derived.Test.YthbmdnofabnhnaaStRef
import Derived.Test.YthbmdnofabnhnaaShown
