/- All the texts put together. -/
import Derived.Test.YtimfhnfcmhmjcaaGreatDoorBgr25
