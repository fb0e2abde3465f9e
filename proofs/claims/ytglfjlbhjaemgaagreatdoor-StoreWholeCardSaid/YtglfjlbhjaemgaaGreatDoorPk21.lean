/- nothing -/
import Derived.Test.YtglfjlbhjaemgaaGreatDoorPk10
import Derived.RegionTactic
import Derived.BigRegion

