/- The law for regions that draw their order lies in RegV. -/
import Derived.Test.YtdbiikllcplmgaaRegV
