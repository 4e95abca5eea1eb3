/- ShD .. ShD -/
import Derived.Test.YtgahgkddaljmkaaGreatDoorX43
set_option maxRecDepth 100000
set_option maxHeartbeats 4000000
namespace Go.Proofs.YtgahgkddaljmkaaGreatDoor
open Tryz
end Go.Proofs.YtgahgkddaljmkaaGreatDoor
