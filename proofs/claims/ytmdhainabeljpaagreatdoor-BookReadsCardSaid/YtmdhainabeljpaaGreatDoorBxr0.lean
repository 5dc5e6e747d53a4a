/- All the texts put together. -/
import Derived.Test.YtmdhainabeljpaaGreatDoorBxr30
