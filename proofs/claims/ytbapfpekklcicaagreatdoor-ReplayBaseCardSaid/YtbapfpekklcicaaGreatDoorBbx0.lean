/- All the texts put together. -/
import Derived.Test.YtbapfpekklcicaaGreatDoorBbx36
