/- nothing -/
import Derived.Test.YtglfjlbhjaemgaaGreatDoorPa09
import Derived.RegionTactic
import Derived.BigRegion

