/- LiB .. LiC -/
import Derived.Test.YtgahgkddaljmkaaGreatDoorX45
set_option maxRecDepth 100000
set_option maxHeartbeats 4000000
namespace Go.Proofs.YtgahgkddaljmkaaGreatDoor
open Tryz
open Th
def liB:List (List UInt8)->List UInt8
 |[]=>[123,49,44,48,125]
 |d::l=>[40,123,50,44,50,125,32]++(d++(32::(liB l++[41])))
def liT:List (List UInt8)->Nat->List Tok
 |[],p=>[⟨4,[123],p⟩,⟨3,[49],p+1⟩,⟨4,[44],p+2⟩,⟨3,[48],p+3⟩,⟨4,[125],p+4⟩]
 |d::l,p=>⟨4,[40],p⟩::⟨4,[123],p+1⟩::⟨3,[50],p+2⟩::⟨4,[44],p+3⟩::⟨3,[50],p+4⟩::⟨4,[125],p+5⟩::⟨3,d,p+7⟩::(liT l (p+7+d.length+1)++[⟨4,[41],p+7+d.length+1+(liB l).length⟩])
def Digs (l:List (List UInt8)):Prop:=∀ d∈l,d≠[]/\(∀ c∈d,zba c=true)/\d.length<=9
theorem zAJ(k p:Nat){u:List UInt8}(h:u.takeWhile zda=[]):zdN (k+1) (32::u) p=zdN (k+1) u (p+1):=by
 rw[zdN,zdN];rw[List.takeWhile_cons_of_pos (by decide),h,show ([32]:List UInt8).length=1 from rfl,List.drop_succ_cons,zzY,zzm,zzY,zzO]
theorem zBr(l:List (List UInt8))(r:List UInt8):(liB l++r).takeWhile zda=[]:=by
 cases l with
 |nil=>rfl
 |cons d l=>rfl
theorem zBs:∀ (l:List (List UInt8)) (p k:Nat) (rest:List UInt8),Digs l->zdN (k+(liT l p).length) (liB l++rest) p=liT l p++zdN k rest (p+(liB l).length)
 |[],p,k,rest,_=>by kernel_rfl
 |d::l,p,k,rest,h=>by
  obtain ⟨d1,d2,d3⟩:=h d (by simp);have ih:=zBs l (p+7+d.length+1) (k+1) (41::rest) (fun x hx=>h x (by simp[hx]));have h6:∀ (m:Nat) (r:List UInt8),zdN (m+6) ([40,123,50,44,50,125,32]++r) p=⟨4,[40],p⟩::⟨4,[123],p+1⟩::⟨3,[50],p+2⟩::⟨4,[44],p+3⟩::⟨3,[50],p+4⟩::⟨4,[125],p+5⟩::zdN m (32::r) (p+6):=fun m r=>by kernel_rfl
  have h1:∀ (m q:Nat) (r:List UInt8),zdN (m+1) (41::r) q=⟨4,[41],q⟩::zdN m r (q+1):=fun m q r=>by kernel_rfl
  have hl:0<(liT l (p+7+d.length+1)).length:=by cases l <;> simp[liT]
  obtain ⟨m,hm⟩:∃ m,(liT l (p+7+d.length+1)).length=m+1:=⟨_,(Nat.succ_pred_eq_of_pos hl).symm⟩;have hlen:(liT (d::l) p).length=m+1+1+7:=by rw[liT];simp[hm]
  rw[hm,h1]at ih;rw[hlen,show k+(m+1+1+7)=(k+1+(m+1))+1+6 by omega,liB];rw[show [40,123,50,44,50,125,32]++(d++32::(liB l++[41]))++rest=[40,123,50,44,50,125,32]++(d++32::(liB l++41::rest)) by simp];rw[h6,zwt _ _ d1 d2 d3,show k+1+(m+1)=k+1+m+1 by omega,zAJ _ _ (zBr l _),show k+1+m+1=k+1+(m+1) by omega,show p+6+1+d.length+1=p+7+d.length+1 by omega,ih,liT];have hz:(([40,123,50,44,50,125,32]:List UInt8)++(d++32::(liB l++[41]))).length=7+d.length+1+(liB l).length+1:=by simp;omega
  rw[hz,show p+(7+d.length+1+(liB l).length+1)=p+7+d.length+1+(liB l).length+1 by omega,show p+6+1=p+7 from rfl];simp
def zAD:Nat->List UInt8
 |0=>[115,117,109,32,108,32,61,32,99,97,115,101,32,108,32,111,102,32,60,49,62,32,45,62,32,48,59,32,60,50,62,32,104,32,116,32,45,62,32,104,32,43,32,115,117,109,32,116,59,32,109,97,105,110,32,61,32,115,117,109,32]
 |1=>[115,105,122,101,32,108,32,61,32,99,97,115,101,32,108,32,111,102,32,60,49,62,32,45,62,32,48,59,32,60,50,62,32,104,32,116,32,45,62,32,49,32,43,32,115,105,122,101,32,116,59,32,109,97,105,110,32,61,32,115,105,122,101,32]
 |_=>[108,97,115,116,32,108,32,61,32,99,97,115,101,32,108,32,111,102,32,60,50,62,32,104,32,116,32,45,62,32,99,97,115,101,32,116,32,111,102,32,60,49,62,32,45,62,32,104,59,32,60,50,62,32,105,32,117,32,45,62,32,108,97,115,116,32,116,59,32,109,97,105,110,32,61,32,108,97,115,116,32]
def runT (T:List Tok) (z words fu g:Nat):Option Ab.zsp:=(zcn (zdJ 1000) 1000 [] ⟨T,none⟩).bind fun q=>if (answer z q 1300).1=0 then runM (.int .i64 0) (Cp.program 1300 q.1) q.1.length ((zaq q.1).idxOf zcO) words fu g else none
def zBt (k:Nat):List Tok:=(zdN 40 (zAD k) 0).dropLast
def sumW:List Int->Int
 |[]=>0
 |x::l=>IntKind.i64.wrap (x+sumW l)
def cntW:List Int->Int
 |[]=>0
 |_::l=>IntKind.i64.wrap (1+cntW l)
def liR:Nat->List Int->Ab.zsp
 |0,l=>(1,sumW l,0,0)
 |1,l=>(1,cntW l,0,0)
 |_,[]=>(3,0,0,0)
 |_,[x]=>(1,x,0,0)
 |k,_::y::l=>liR k (y::l)
def zAN (l:List (List UInt8)):List Int:=l.map fun d=>(val d:Int)
def zAE (k:Nat) (l:List (List UInt8)):Prop:=∀ p q z:Nat,runT (zBt k++(liT l p++[⟨4,[59],q⟩,⟨0,[],q+1⟩])) z 70 160 160=some (liR k (zAN l))
theorem zA1:zAE 0 []:=fun p q z=>by kernel_rfl
theorem zA7:zAE 1 []:=fun p q z=>by kernel_rfl
theorem zBd:zAE 2 []:=fun p q z=>by kernel_rfl
theorem zA2(a:List UInt8):zAE 0 [a]:=fun p q z=>by kernel_rfl
theorem zA8(a:List UInt8):zAE 1 [a]:=fun p q z=>by kernel_rfl
theorem zBe(a:List UInt8):zAE 2 [a]:=fun p q z=>by kernel_rfl
theorem zA3(a b:List UInt8):zAE 0 [a,b]:=fun p q z=>by kernel_rfl
theorem zA9(a b:List UInt8):zAE 1 [a,b]:=fun p q z=>by kernel_rfl
theorem zBf(a b:List UInt8):zAE 2 [a,b]:=fun p q z=>by kernel_rfl
theorem zA4(a b c:List UInt8):zAE 0 [a,b,c]:=fun p q z=>by kernel_rfl
theorem zBa(a b c:List UInt8):zAE 1 [a,b,c]:=fun p q z=>by kernel_rfl
theorem zBg(a b c:List UInt8):zAE 2 [a,b,c]:=fun p q z=>by kernel_rfl
theorem zA5(a b c d:List UInt8):zAE 0 [a,b,c,d]:=fun p q z=>by kernel_rfl
theorem zBb(a b c d:List UInt8):zAE 1 [a,b,c,d]:=fun p q z=>by kernel_rfl
theorem zBh(a b c d:List UInt8):zAE 2 [a,b,c,d]:=fun p q z=>by kernel_rfl
theorem zA6(a b c d f:List UInt8):zAE 0 [a,b,c,d,f]:=fun p q z=>by kernel_rfl
theorem zBc(a b c d f:List UInt8):zAE 1 [a,b,c,d,f]:=fun p q z=>by kernel_rfl
theorem zBi(a b c d f:List UInt8):zAE 2 [a,b,c,d,f]:=fun p q z=>by kernel_rfl
variable {k:Nat}
theorem zBx(hk:k<3):∀ (l:List (List UInt8)),l.length<=5->zAE k l:=by
 have h:k=0\/k=1\/k=2:=by omega
 intro l hl
 match l,hl with
 |[],_=>
  rcases h with rfl|rfl|rfl
  ·exact zA1
  ·exact zA7
  ·exact zBd
 |[a],_=>
  rcases h with rfl|rfl|rfl
  ·exact zA2 a
  ·exact zA8 a
  ·exact zBe a
 |[a,b],_=>
  rcases h with rfl|rfl|rfl
  ·exact zA3 a b
  ·exact zA9 a b
  ·exact zBf a b
 |[a,b,c],_=>
  rcases h with rfl|rfl|rfl
  ·exact zA4 a b c
  ·exact zBa a b c
  ·exact zBg a b c
 |[a,b,c,d],_=>
  rcases h with rfl|rfl|rfl
  ·exact zA5 a b c d
  ·exact zBb a b c d
  ·exact zBh a b c d
 |[a,b,c,d,f],_=>
  rcases h with rfl|rfl|rfl
  ·exact zA6 a b c d f
  ·exact zBc a b c d f
  ·exact zBi a b c d f
 |_::_::_::_::_::_::_,h=>simp at h
theorem zBp{s:ByteArray}{q:List zbr × St}{words fu g:Nat}{r:Ab.zsp}(hs:s.size<=600)(hq:zmt s=some q)(h0:(answer s.size q 1300).1=0)(hr:runM (.int .i64 0) (Cp.program 1300 q.1) q.1.length ((zaq q.1).idxOf zcO) words fu g=some r)(h4:r≠(4,0,0,0))(h5:r≠(5,0,0,0))(hw:words<=262144)(hf:fu<=4000000)(heap fuel:Int):
  ∃ r',zdw s heap fuel r' 0/\(r'=(4,0,0,0)\/r'=(5,0,0,0)\/r'=r):=by
 obtain ⟨q',N,e1,hp⟩:=zjz s hs;rw[hq]at e1;cases e1;rw[<-zsu hs hp]at h0;have ho:=zmA hs hp h0;obtain ⟨r1,c1,bH⟩:=Sf.zjK ho (words/2) fu;have nZ:r1=r:=by
  have h1:=Ab.zt2 (pv:=.int .i64 0) (words:=words) (by omega) (bH g);rw[zt1 (.int .i64 0) (Cp.program 1300 q.1) q.1.length ((zaq q.1).idxOf zcO) words fu g c1 r hr]at h1;cases h1;rfl
 subst nZ;obtain ⟨r',c',eV⟩:=Sf.zjK ho (zb9 heap 262144/2) (zb9 fuel 4000000);refine ⟨r',zjN hs hp h0 ⟨c',eV⟩,?_⟩;by_cases k4:r'=(4,0,0,0)
 ·exact .inl k4
 ·by_cases k5:r'=(5,0,0,0)
  ·exact .inr (.inl k5)
  ·have:=zqm heap 262144;have a1:=Ab.zpM (hf:=words/2) (hf':=262144/2) (by omega) hf (bH c') h4 h5;have a2:=Ab.zpM (hf:=zb9 heap 262144/2) (hf':=262144/2) (by omega) (zqm fuel 4000000) (eV c1) k4 k5;rw[Nat.add_comm,a1]at a2;cases a2;exact .inr (.inr rfl)
def zAC (k:Nat) (l:List (List UInt8)):List UInt8:=zAD k++(liB l++[59])
theorem zAY:∀ (l:List (List UInt8)) (p:Nat),(liT l p).length<=(liB l).length
 |[],_=>zyN _
 |d::l,p=>by
  have:=zAY l (p+7+d.length+1);rw[liT,liB];simp;omega
theorem zAK:∀ (l:List (List UInt8)),(∀ d∈l,d.length<=3)->(liB l).length<=5+12*l.length
 |[],_=>by simp[liB]
 |d::l,h=>by
  have h1:=zAK l (fun x hx=>h x (by simp[hx]));have h2:=h d (by simp);rw[liB];simp;omega
theorem zBq:∀ (m q:Nat),zdN (m+1) [59] q=[⟨4,[59],q⟩,⟨0,[],q+1⟩]
 |0,q=>by kernel_rfl
 |m+1,q=>by kernel_rfl
theorem zBw(hk:k<3):(zBt k).length+20<=(zAD k).length/\∀ (m:Nat) (u:List UInt8),zdN (m+(zBt k).length) (zAD k++u) 0=zBt k++zdN m (32::u) ((zAD k).length-1):=by
 have h:k=0\/k=1\/k=2:=by omega
 rcases h with rfl|rfl|rfl
 ·exact ⟨by decide,fun m u=>by kernel_rfl⟩
 ·exact ⟨by decide,fun m u=>by kernel_rfl⟩
 ·exact ⟨by decide,fun m u=>by kernel_rfl⟩
theorem zBv(hk:k<3)(l:List (List UInt8))(hd:Digs l):zay ⟨(zAC k l).toArray⟩=zBt k++(liT l (zAD k).length++[⟨4,[59],(zAD k).length+(liB l).length⟩,⟨0,[],(zAD k).length+(liB l).length+1⟩]):=by
 obtain ⟨h1,h2⟩:=zBw hk;have h3:=zAY l (zAD k).length;have cT:(⟨(zAC k l).toArray⟩:ByteArray).size=(zAD k).length+(liB l).length+1:=by
  show (zAC k l).toArray.size=_;rw[zzr,zAC];simp;omega
 unfold zay;rw[cT];show zdN ((zAD k).length+(liB l).length+1+1) (zAC k l) 0=_;obtain ⟨m,hm⟩:∃ m,(zAD k).length+(liB l).length+1+1=(m+1+(liT l (zAD k).length).length)+(zBt k).length:=⟨(zAD k).length+(liB l).length+1-(liT l (zAD k).length).length-(zBt k).length,by omega⟩;rw[hm,zAC,h2];obtain ⟨j,hj⟩:∃ j,m+1+(liT l (zAD k).length).length=j+1:=⟨m+(liT l (zAD k).length).length,by omega⟩;rw[hj,zAJ _ _ (zBr l _),<-hj,show (zAD k).length-1+1=(zAD k).length by omega,zBs l _ _ _ hd,zBq]
theorem zBu(hk:k<3)(l:List (List UInt8))(hl:l.length<=5)(hd:Digs l)(h3:∀ d∈l,d.length<=3)(h4:liR k (zAN l)≠(4,0,0,0))(h5:liR k (zAN l)≠(5,0,0,0)):
  zdw ⟨(zAC k l).toArray⟩ 262144 4000000 (liR k (zAN l)) 0/\∀ heap fuel,∃ r',zdw ⟨(zAC k l).toArray⟩ heap fuel r' 0/\(r'=(4,0,0,0)\/r'=(5,0,0,0)\/r'=liR k (zAN l)):=by
 have hz:(⟨(zAC k l).toArray⟩:ByteArray).size<=600:=by
  show (zAC k l).toArray.size<=_;have h1:=zAK l h3;have h2:(zAD k).length<=100:=by
   have h:k=0\/k=1\/k=2:=by omega
   rcases h with rfl|rfl|rfl <;> decide
  rw[zzr,zAC];simp;omega
 have hT:=zBx hk l hl (zAD k).length ((zAD k).length+(liB l).length) (⟨(zAC k l).toArray⟩:ByteArray).size;rw[<-zBv hk l hd]at hT;unfold runT at hT;rw[zyQ]at hT;obtain ⟨q,q1,q2⟩:=hT;split at q2
 ·next h0=>exact ⟨zod hz q1 h0 q2 h4 h5 (by unfold zb9;omega) (by unfold zb9;omega),zBp hz q1 h0 q2 h4 h5 (by omega) (by omega)⟩
 ·cases q2
end Go.Proofs.YtgahgkddaljmkaaGreatDoor
