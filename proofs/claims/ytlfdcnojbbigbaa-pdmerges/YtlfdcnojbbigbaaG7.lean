/- What bytes.Equal answers of two slices of bytes. -/
import Derived.Test.YtlfdcnojbbigbaaG6
import Derived.Test.YtlfdcnojbbigbaaG3
