/- ShD .. ShD -/
import Derived.Test.YtgahgkddaljmkaaGreatDoorW43
set_option maxRecDepth 100000
set_option maxHeartbeats 4000000
namespace Go.Proofs.YtgahgkddaljmkaaGreatDoor
open Tryz
theorem zug(x p:Nat):zaG x p 19:=by unfold zaG;kernel_rfl
theorem zuh(x p:Nat):zaG x p 20:=by unfold zaG;kernel_rfl
theorem zui(x p:Nat):zaG x p 21:=by unfold zaG;kernel_rfl
theorem zuj(x p:Nat):zaG x p 22:=by unfold zaG;kernel_rfl
theorem zuk(x p:Nat):zaG x p 23:=by unfold zaG;kernel_rfl
theorem zul(x p:Nat):zaG x p 24:=by unfold zaG;kernel_rfl
theorem zyA(x p:Nat):∀ {n:Nat},n<25->zaG x p n
 |0,_=>zv8 x p
 |1,_=>zv9 x p
 |2,_=>zwa x p
 |3,_=>zwb x p
 |4,_=>zwc x p
 |5,_=>zwd x p
 |6,_=>zwe x p
 |7,_=>zwf x p
 |8,_=>zwg x p
 |9,_=>zwh x p
 |10,_=>zt7 x p
 |11,_=>zt8 x p
 |12,_=>zt9 x p
 |13,_=>zua x p
 |14,_=>zub x p
 |15,_=>zuc x p
 |16,_=>zud x p
 |17,_=>zue x p
 |18,_=>zuf x p
 |19,_=>zug x p
 |20,_=>zuh x p
 |21,_=>zui x p
 |22,_=>zuj x p
 |23,_=>zuk x p
 |24,_=>zul x p
 |n+25,h=>by omega
end Go.Proofs.YtgahgkddaljmkaaGreatDoor
