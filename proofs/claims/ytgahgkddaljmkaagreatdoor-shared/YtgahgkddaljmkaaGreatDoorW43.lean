/- ShC .. ShC -/
import Derived.Test.YtgahgkddaljmkaaGreatDoorW40
set_option maxRecDepth 100000
set_option maxHeartbeats 4000000
namespace Go.Proofs.YtgahgkddaljmkaaGreatDoor
open Tryz
open Th
def zfK (i:Nat):List UInt8:=[UInt8.ofNat (97+i)]
def shEx (p:Nat):Nat->Nat->Ex
 |i,0=>zbW ⟨2,zfK i,p+17*i⟩
 |i,k+1=>mkLet false [⟨2,zfK (i+1),p+17*i+4⟩] [ziR ⟨4,[43],p+17*i+10⟩ (zbW ⟨2,zfK i,p+17*i+8⟩) (zbW ⟨2,zfK i,p+17*i+12⟩)] (shEx p (i+1) k)
def zlN (x p n:Nat):zbr:=⟨⟨2,zcO,0⟩,[],mkLet false [⟨2,zfK 0,11⟩] [mkNum x] (shEx p 0 n)⟩
def dbl (x:Int):Nat->Int
 |0=>x
 |n+1=>IntKind.i64.wrap (dbl x n+dbl x n)
def zaG (x p n:Nat):Prop:=runM (.int .i64 0) (Cp.program 1300 [zlN x p n]) 1 0 (60+15*n) (20+17*n) (20+17*n)=some (1,dbl x n,0,0)
theorem zv8(x p:Nat):zaG x p 0:=by unfold zaG;kernel_rfl
theorem zv9(x p:Nat):zaG x p 1:=by unfold zaG;kernel_rfl
theorem zwa(x p:Nat):zaG x p 2:=by unfold zaG;kernel_rfl
theorem zwb(x p:Nat):zaG x p 3:=by unfold zaG;kernel_rfl
theorem zwc(x p:Nat):zaG x p 4:=by unfold zaG;kernel_rfl
theorem zwd(x p:Nat):zaG x p 5:=by unfold zaG;kernel_rfl
theorem zwe(x p:Nat):zaG x p 6:=by unfold zaG;kernel_rfl
theorem zwf(x p:Nat):zaG x p 7:=by unfold zaG;kernel_rfl
theorem zwg(x p:Nat):zaG x p 8:=by unfold zaG;kernel_rfl
theorem zwh(x p:Nat):zaG x p 9:=by unfold zaG;kernel_rfl
theorem zt7(x p:Nat):zaG x p 10:=by unfold zaG;kernel_rfl
theorem zt8(x p:Nat):zaG x p 11:=by unfold zaG;kernel_rfl
theorem zt9(x p:Nat):zaG x p 12:=by unfold zaG;kernel_rfl
theorem zua(x p:Nat):zaG x p 13:=by unfold zaG;kernel_rfl
theorem zub(x p:Nat):zaG x p 14:=by unfold zaG;kernel_rfl
theorem zuc(x p:Nat):zaG x p 15:=by unfold zaG;kernel_rfl
theorem zud(x p:Nat):zaG x p 16:=by unfold zaG;kernel_rfl
theorem zue(x p:Nat):zaG x p 17:=by unfold zaG;kernel_rfl
theorem zuf(x p:Nat):zaG x p 18:=by unfold zaG;kernel_rfl
end Go.Proofs.YtgahgkddaljmkaaGreatDoor
