/- ShA .. Lp1 -/
import Derived.Test.YtgahgkddaljmkaaGreatDoorV24
set_option maxRecDepth 100000
set_option maxHeartbeats 4000000
namespace Go.Proofs.YtgahgkddaljmkaaGreatDoor
open Tryz Th Cp
open Go.RowKit
attribute [local go_sem ↓] Go.wp_at_zero Go.wp_at_succ
def Rm:Nat->Nat->List UInt8
 |0,_=>[]
 |k+1,n=>if n<10 then[UInt8.ofNat (48+n)]else Rm k (n/10)++[UInt8.ofNat (48+n%10)]
theorem Y5:∀(k n:Nat),(Rm k n).length<=k
 |0,_=>qP _
 |k+1,n=>by
  rw[Rm];split
  .simp
  .have:=Y5 k (n/10);simp;omega
def TQ:ByteArray:=⟨#[48,49,50,51,52,53,54,55,56,57]⟩
theorem zsT(d:Nat)(hd:d<10):TQ.extract d (d+1)=⟨[UInt8.ofNat (48+d)].toArray⟩:=by
 match d,hd with
 |0,_=>rfl
 |1,_=>rfl
 |2,_=>rfl
 |3,_=>rfl
 |4,_=>rfl
 |5,_=>rfl
 |6,_=>rfl
 |7,_=>rfl
 |8,_=>rfl
 |9,_=>rfl
theorem zsR(k n:Nat)(hk:k<=9):(⟨(Rm k n).toArray⟩:ByteArray).size<=9:=by have:=Y5 k n;show(Rm k n).toArray.size<=9;rw[O3];omega
theorem VK(a b:List UInt8):(⟨a.toArray⟩:ByteArray)++⟨b.toArray⟩=⟨(a++b).toArray⟩:=by apply ByteArray.ext;rw[ByteArray.data_append];simp
theorem zjb:∀(k n:Nat),k<=9->n<10 ^ k->0<k->∀w:World,Calls prog 24 #[.int .i64 n] w λe w'=>e=.returned (.string ⟨(Rm k n).toArray⟩)/\w'=w
 |0,n,_,hn,h0=>by omega
 |k+1,n,hk,hn,_=>by
  intro w;have hp:10 ^ (k+1)<=10 ^ 9:=Zr (by decide) hk;have uz:10 ^ 9=1000000000:=by decide
  rw[Rm];by_cases h:n<10
  .rw[nB h,<-zsT n h];go_enter func24,ntmps24;go_wp2;go_ret;refine⟨?_,rfl⟩;rw[Nat.mod_eq_of_lt h];rfl
  .have dF:0<k:=by
    rcases JI k with e|e
    .subst e;simp at hn;omega
    .exact e
   have yu:=zjb k (n/10) (by omega) (by rw[Nat.pow_succ]at hn;omega) dF;rw[show((n/10:Nat):Int)=(n:Int)/10 by omega]at yu;have ih:=eu yu;clear yu;have cT:=zsR k (n/10) (by omega);obtain⟨d,hd⟩:∃d,d=TQ.extract (n%10) (n%10+1):=⟨_,rfl⟩;have iH:=zsT (n%10) (by omega);rw[pL h,<-VK,<-iH,<-hd];have r6:d.size<=1:=by rw[hd,iH];exact qP _
   obtain⟨r,hr⟩:∃r,r=(⟨(Rm k (n/10)).toArray⟩:ByteArray)++d:=⟨_,rfl⟩;have lz:r.size<=1000000:=by rw[hr,iR];omega
   have jV:=NJ hr lz;rw[<-hr];unfold TQ at hd;generalize(⟨(Rm k (n/10)).toArray⟩:ByteArray)=y at *;have hb:n<1000000000:=by omega
   clear hr cT lz r6 iH hp uz hn;go_enter func24,ntmps24;go_wp2_with fail;refine(ih.o _).mono ?_;rintro e w1⟨rfl,rfl⟩;rw[<-hd];clear hd;go_wp2;go_ret;exact⟨rfl,rfl⟩
end Go.Proofs.YtgahgkddaljmkaaGreatDoor
