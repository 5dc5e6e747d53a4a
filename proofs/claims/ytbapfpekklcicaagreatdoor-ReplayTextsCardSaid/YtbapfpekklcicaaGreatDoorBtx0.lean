/- All the texts put together. -/
import Derived.Test.YtbapfpekklcicaaGreatDoorBtx39
