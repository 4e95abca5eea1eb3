/- ShC .. ShC -/
import Derived.Test.YtgahgkddaljmkaaGreatDoorW40
set_option maxRecDepth 100000
set_option maxHeartbeats 4000000
namespace Go.Proofs.YtgahgkddaljmkaaGreatDoor
open Tryz
open Th
end Go.Proofs.YtgahgkddaljmkaaGreatDoor
