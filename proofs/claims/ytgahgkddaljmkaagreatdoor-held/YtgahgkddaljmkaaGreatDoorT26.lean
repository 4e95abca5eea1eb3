/- SmP .. SmQ -/
import Derived.Test.YtgahgkddaljmkaaGreatDoorT25
set_option maxRecDepth 100000
set_option maxHeartbeats 4000000
namespace Go.Proofs.YtgahgkddaljmkaaGreatDoor
open Tryz
namespace Sg
open Th Ab.Sg
def sh (t:Tok):Nat × List UInt8:=(t.k,t.s)
end Sg
end Go.Proofs.YtgahgkddaljmkaaGreatDoor
