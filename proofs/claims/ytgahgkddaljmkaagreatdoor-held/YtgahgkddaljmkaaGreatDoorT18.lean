/- ShA .. ShA -/
import Derived.Test.YtgahgkddaljmkaaGreatDoorT17
set_option maxRecDepth 100000
set_option maxHeartbeats 4000000
namespace Go.Proofs.YtgahgkddaljmkaaGreatDoor
open Tryz
open Go.RowKit
attribute [local go_sem ↓] Go.wp_at_zero Go.wp_at_succ
theorem zl9{a b r:ByteArray}(hr:r=a++b)(h:r.size<=1000000):∀ W:World,(Op.stringOp .add a b).run prog W=.ok (.string r) W:=by
 intro W;have hs:r.size=a.size+b.size:=by rw[hr];exact ByteArray.size_append
 rw[hr];exact run_string_add_sum W a b (by omega)
def zrn:Nat->Nat->List UInt8
 |0,_=>[]
 |k+1,n=>if n<10 then [UInt8.ofNat (48+n)] else zrn k (n/10)++[UInt8.ofNat (48+n%10)]
theorem zme:∀ (k n:Nat),(zrn k n).length<=k
 |0,_=>zyN _
 |k+1,n=>by
  rw[zrn];split
  ·simp
  ·have:=zme k (n/10);simp;omega
def digs:ByteArray:=⟨#[48,49,50,51,52,53,54,55,56,57]⟩
theorem zsT(d:Nat)(hd:d<10):digs.extract d (d+1)=⟨[UInt8.ofNat (48+d)].toArray⟩:=by
 match d,hd with
 |0,_=>rfl
 |1,_=>rfl
 |2,_=>rfl
 |3,_=>rfl
 |4,_=>rfl
 |5,_=>rfl
 |6,_=>rfl
 |7,_=>rfl
 |8,_=>rfl
 |9,_=>rfl
theorem zsR(k n:Nat)(hk:k<=9):(⟨(zrn k n).toArray⟩:ByteArray).size<=9:=by
 have:=zme k n;show (zrn k n).toArray.size<=9;rw[zzr];omega
theorem zqj(a b:List UInt8):(⟨a.toArray⟩:ByteArray)++⟨b.toArray⟩=⟨(a++b).toArray⟩:=by
 apply ByteArray.ext;rw[ByteArray.data_append];simp
theorem zjb:∀ (k n:Nat),k<=9->n<10 ^ k->0<k->∀ w:World,Calls prog 24 #[.int .i64 n] w fun e w'=>e=.returned (.string ⟨(zrn k n).toArray⟩)/\w'=w
 |0,n,_,hn,h0=>by omega
 |k+1,n,hk,hn,_=>by
  intro w;have hp:10 ^ (k+1)<=10 ^ 9:=zz9 (by decide) hk;have uz:10 ^ 9=1000000000:=by decide
  rw[zrn];by_cases h:n<10
  ·rw[if_pos h,<-zsT n h];go_enter func24,ntmps24
   go_wp2_with fail
   go_ret
   refine ⟨?_,rfl⟩;rw[Nat.mod_eq_of_lt h];rfl
  ·have dF:0<k:=by
    rcases Nat.eq_zero_or_pos k with e|e
    ·subst e;simp at hn;omega
    ·exact e
   have yu:=zjb k (n/10) (by omega) (by rw[Nat.pow_succ]at hn;omega) dF;rw[show ((n/10:Nat):Int)=(n:Int)/10 by omega]at yu;have ih:=zab yu;clear yu;have cT:=zsR k (n/10) (by omega);obtain ⟨d,hd⟩:∃ d,d=digs.extract (n%10) (n%10+1):=⟨_,rfl⟩;have iH:=zsT (n%10) (by omega);rw[if_neg h,<-zqj,<-iH,<-hd];have r6:d.size<=1:=by rw[hd,iH];exact zyN _
   obtain ⟨r,hr⟩:∃ r,r=(⟨(zrn k (n/10)).toArray⟩:ByteArray)++d:=⟨_,rfl⟩;have lz:r.size<=1000000:=by rw[hr,ByteArray.size_append];omega
   have jV:=zl9 hr lz;rw[<-hr];unfold digs at hd;generalize (⟨(zrn k (n/10)).toArray⟩:ByteArray)=y at *;have hb:n<1000000000:=by omega
   clear hr cT lz r6 iH hp uz hn;go_enter func24,ntmps24
   go_wp2_with fail
   refine (ih.o _).mono ?_;rintro e w1 ⟨rfl,rfl⟩;rw[<-hd];clear hd;go_wp2_with fail
   go_ret
   exact ⟨rfl,rfl⟩
end Go.Proofs.YtgahgkddaljmkaaGreatDoor
