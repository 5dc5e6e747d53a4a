/- All the texts put together. -/
import Derived.Test.YtpibhbjmcmfnmaaGreatDoorBag31
