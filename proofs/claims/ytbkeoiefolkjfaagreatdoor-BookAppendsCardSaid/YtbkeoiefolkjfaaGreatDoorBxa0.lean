/- All. -/
import Derived.Test.YtbkeoiefolkjfaaGreatDoorBxa31
