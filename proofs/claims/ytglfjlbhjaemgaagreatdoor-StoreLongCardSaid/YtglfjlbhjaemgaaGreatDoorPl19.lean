/- nothing -/
import Derived.Test.YtglfjlbhjaemgaaGreatDoorPl09
import Derived.RegionTactic
import Derived.BigRegion

