/- The texts of goods together. -/
import Derived.Test.YtecalafjfbgbcaaDoorKI85
import Derived.Test.YtecalafjfbgbcaaDoorKI86
import Derived.Test.YtecalafjfbgbcaaDoorKI81
