/- All the texts put together. -/
import Derived.Test.YtpibhbjmcmfnmaaGreatDoorBfn28
