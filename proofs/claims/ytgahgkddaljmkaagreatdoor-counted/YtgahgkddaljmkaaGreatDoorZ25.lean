/- ShC .. ShB -/
import Derived.Test.YtgahgkddaljmkaaGreatDoorZ20
set_option maxRecDepth 100000
set_option maxHeartbeats 4000000
namespace Go.Proofs.YtgahgkddaljmkaaGreatDoor
open Tryz
open Th
end Go.Proofs.YtgahgkddaljmkaaGreatDoor
namespace Go.Proofs.YtgahgkddaljmkaaGreatDoor
open Tryz
end Go.Proofs.YtgahgkddaljmkaaGreatDoor
namespace Go.Proofs.YtgahgkddaljmkaaGreatDoor
open Tryz
open Th
theorem zi0{α:Type}{f g:Nat->α}{m:Nat}(h:(List.range m).map f=(List.range m).map g){n:Nat}(hn:n<m):f n=g n:=List.map_inj_left.1 h n (List.mem_range.2 hn)
end Go.Proofs.YtgahgkddaljmkaaGreatDoor
