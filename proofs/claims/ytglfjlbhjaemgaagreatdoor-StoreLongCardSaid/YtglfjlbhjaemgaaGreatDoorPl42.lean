/- nothing -/
import Derived.Test.YtglfjlbhjaemgaaGreatDoorPl14
import Derived.ProofKit
import Derived.SizedLaws
import Derived.ChangeSlices
import Derived.Carry

