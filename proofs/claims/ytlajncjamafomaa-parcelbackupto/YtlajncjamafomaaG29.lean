/- What the bound on an input's bulk gives (Bulk), and a []byte that came in. -/
import Derived.Test.YtlajncjamafomaaG21
import Derived.Test.YtlajncjamafomaaG10
