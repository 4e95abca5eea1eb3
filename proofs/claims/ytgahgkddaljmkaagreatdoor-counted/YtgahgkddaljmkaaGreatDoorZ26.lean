/- Cn3 .. Cn3 -/
import Derived.Test.YtgahgkddaljmkaaGreatDoorZ24
import Derived.Test.YtgahgkddaljmkaaGreatDoorZ25
set_option maxRecDepth 100000
set_option maxHeartbeats 4000000
namespace Go.Proofs.YtgahgkddaljmkaaGreatDoor
open Tryz
namespace Cn
open Ab Th
def A0 (f:Nat):Ma:=⟨[.clo 0 [],.busy],[.ad 1,.mk 0 0],[0,1],f,1,0⟩
def mb (v:Nat):Nat:=if v=0 then 5 else 7
theorem lay1{A:Ma}{i k:Nat}(hi:i<=1000000000)(hs:shut A=true)(ht:tot A+1<=300):A.zbm 300 i (k+1)=Ma.zbm 300 (i+1) k { A with h:=A.h++[.clo i []],fns:=A.fns++[A.h.length] }:=by
 rw[Ma.zbm,if_pos hi];unfold Ab.ask;rw[if_pos (zAR hs ht)]
theorem zBM:∀ {v:Nat},v<3->∀ (N:Int) (f:Nat),Ma.zBg 300 ((cdV v N).map Prod.fst) ⟨[.clo 0 [],.clo 1 []],[.ad 1],[0,1],f,0,0⟩=some (.ok (A0 f))
 |0,_,N,f=>by kernel_rfl
 |1,_,N,f=>by kernel_rfl
 |2,_,N,f=>by kernel_rfl
 |v+3,h,_,_=>by omega
variable {v:Nat}
theorem zBX(f:Nat)(hv:v<3)(N:Int):(Ma.new f).start 300 ((cdV v N).map Prod.fst) 2 1=some (.ok (A0 f)):=by
 have hl:(Ma.new f).zbm 300 0 2=some (.ok ⟨[.clo 0 [],.clo 1 []],[],[0,1],f,0,0⟩):=(lay1 (k:=1) (by omega) rfl (by show 0+1<=300;omega)).trans ((lay1 (k:=0) (by omega) rfl (by show 1+1<=300;omega)).trans rfl);unfold Ma.start;rw[hl];simp only;unfold Ab.ask;rw[if_pos (zAR rfl (by show 2+1<=300;omega))];exact zAZ (fh:=300) (zyN _) _ (zBM hv N f)
theorem zBI:∀ {v:Nat},v<3->∀ (N:Int) (f:Nat),Ma.zAC 300 (cdV v N) (List.replicate 1 none) (A0 (f+mb v))=some (.ok (shp v 0 N 2 1 f))
 |0,_,N,f=>by kernel_rfl
 |1,_,N,f=>by kernel_rfl
 |2,_,N,f=>by kernel_rfl
 |v+3,h,_,_=>by omega
theorem zBx:∀ {v:Nat},v<3->∀ (N:Int),(List.range (mb v)).map (fun f=>Ma.zAC 300 (cdV v N) (List.replicate 1 none) (A0 f))=(List.range (mb v)).map fun _=>some (.error 5)
 |0,_,N=>by kernel_rfl
 |1,_,N=>by kernel_rfl
 |2,_,N=>by kernel_rfl
 |v+3,h,_=>by omega
theorem zBN(pv:Value)(cd:List (Nat × List Ins))(nf main words fuel:Nat)(hw:words<=1000000):MR (cd.map Prod.fst) (words/2) (MSt.new pv nf main words fuel) (Ma.new fuel) (fun _=>none):=
 ⟨⟨.inl rfl,by simp only[MSt.new,zzz];omega,by simp only[MSt.new,zzz];exact hw,zyN _,by simp[MSt.new],by simp[MSt.new,Ma.new],by simp[Ma.new],rfl,by simp[Ma.new],by simp,by simp,by simp[Ma.new],by simp[Ma.new]⟩,rfl,rfl,rfl,rfl,by simp[Ma.new]⟩
theorem zBD(hv:v<3){N:Nat}(hN:N<=10000)(F:Nat)(pv:Value):(F<mb v+cost v N 0->runM pv (cdV v N) 2 1 600 F (8*N+10)=some (5,0,0,0))/\(mb v+cost v N 0<=F->runM pv (cdV v N) 2 1 600 F (8*N+10)=some (1,7,0,0)):=by
 have M0:MR ((cdV v N).map Prod.fst) 300 (MSt.new pv 2 1 600 F) (Ma.new F) (fun _=>none):=zBN pv (cdV v N) 2 1 600 F (by omega);obtain ⟨m1,φ1,s1,M1⟩:=zux M0 (nf:=2) (main:=1) rfl rfl _ (zBX F hv N);unfold runM;rw[s1];simp only;have out:zBA (cdV v N) m1 (8*N+9)->(match m1.work (cdV v N) (8*N+10) with|none=>none|some (.error k)=>some ((k:Int),(0:Int),(0:Int),(0:Int))|some (.ok m2)=>m2.told)=some (5,0,0,0):=fun ⟨c,c1,hc⟩=>by
  have:=hc (8*N+10-c);rw[Nat.sub_add_cancel (by omega)]at this;rw[this];rfl
 have done:zBz (cdV v N) m1 (8*N+9)->(match m1.work (cdV v N) (8*N+10) with|none=>none|some (.error k)=>some ((k:Int),(0:Int),(0:Int),(0:Int))|some (.ok m2)=>m2.told)=some (1,7,0,0):=fun ⟨m',A',φ',c,c1,hc,M',hn,ht⟩=>by
  have h1:=hc (8*N+10-c);rw[Nat.sub_add_cancel (by omega)]at h1;obtain ⟨k,hk⟩:∃ k,8*N+10-c=k+1:=⟨8*N+9-c,by omega⟩;have h2:m'.work (cdV v N) (k+1)=some (.ok m'):=by rw[MSt.work,M'.next,if_pos hn]
  rw[hk,h2]at h1;rw[h1];exact zwu M' ht
 by_cases hm:F<mb v
 ·refine ⟨fun _=>out ?_,fun hh=>by omega⟩;obtain ⟨c,c1,hc⟩:=zAK (zyN _) 1 M1 (zBb (zBx hv N) hm);exact ⟨c,by omega,hc⟩
 ·obtain ⟨f,rfl⟩:∃ f,F=f+mb v:=⟨F-mb v,by omega⟩;obtain ⟨m2,φ2,w2,M2⟩:=zAK (zyN _) 1 M1 (zBI hv N f);obtain ⟨l1,l2⟩:=loop hv N N (j:=0) (by omega) hN rfl M2;exact ⟨fun hh=>out (((l1 (by omega)).lead w2).more (by omega)),fun hh=>done (((l2 (by omega)).lead w2).more (by omega))⟩
theorem zBq{v:Nat}:∀ (x j:Nat),x<=cost v x j/\cost v x j<=37*x+32
 |0,j=>by
  refine ⟨zy5 _,?_⟩;rw[cost,f1];split <;> split <;> omega
 |x+1,j=>by
  have:=zBq (v:=v) x (nx j);rw[cost,f1,fr];constructor
  ·split <;> split <;> omega
  ·split <;> split <;> omega
theorem zBv(k p:Nat){ds rest:List UInt8}{e:UInt8}(he:zba e=false)(h1:ds≠[])(h2:∀ c∈ds,zba c=true)(h3:ds.length<=9):zdN (k+1) (32::(ds++e::rest)) p=⟨3,ds,p+1⟩::zdN k (e::rest) (p+1+ds.length):=by
 cases ds with
 |nil=>exact absurd rfl h1
 |cons c ds=>
  have hc:=h2 c (by simp);have hb:zda c=false:=by
   unfold zba at hc;unfold zda;simp only[zzv,decide_eq_true_eq]at hc;simp only[Bool.or_eq_false_iff,beq_eq_false_iff_ne,ne_eq];constructor <;> intro e <;> subst e <;> simp at hc
  have hl:isLet c=false:=by
   unfold zba at hc;unfold isLet;simp only[zzv,decide_eq_true_eq]at hc;rw[Bool.and_eq_false_iff];exact .inl (by simp;omega)
  have ng:((c::ds)++e::rest).takeWhile zba=c::ds:=by
   rw[List.takeWhile_append_of_pos h2,List.takeWhile_cons_of_neg (by rw[he];simp),zzS]
  have cV:(32::((c::ds)++e::rest)).takeWhile zda=[32]:=by
   rw[List.takeWhile_cons_of_pos (by decide),zy7,List.takeWhile_cons_of_neg (by rw[hb];simp)]
  have hf:first ((c::ds)++e::rest)=(3,c::ds):=by
   have:first ((c::ds)++e::rest)=if isLet c then word (((c::ds)++e::rest).takeWhile zlx) else if zba c then zo7 (((c::ds)++e::rest).takeWhile zba) else if zbH ((c::ds)++e::rest)=0 then (1,[]) else (4,((c::ds)++e::rest).take (zbH ((c::ds)++e::rest))):=rfl
   rw[this,hl,hc,ng];simp only[zzw,if_false,if_true];unfold zo7;rw[if_neg (by omega)]
  rw[zdN];rw[cV,show ([32]:List UInt8).length=1 from rfl,List.drop_succ_cons,zzY,hf,if_neg (by omega),List.drop_left]
def zAE:Nat->List UInt8
 |0=>[100,111,119,110,32,110,32,61,32,99,97,115,101,32,110,32,61,61,32,48,32,111,102,32,60,50,62,32,45,62,32,55,59,32,60,49,62,32,45,62,32,100,111,119,110,32,40,110,32,45,32,49,41,59,32,109,97,105,110,32,61,32,100,111,119,110,32]
 |1=>[100,111,119,110,32,110,32,120,32,121,32,61,32,99,97,115,101,32,110,32,61,61,32,48,32,111,102,32,60,50,62,32,45,62,32,55,59,32,60,49,62,32,45,62,32,100,111,119,110,32,40,110,32,45,32,49,41,32,120,32,121,59,32,109,97,105,110,32,61,32,100,111,119,110,32]
 |_=>[100,111,119,110,32,110,32,120,32,121,32,61,32,99,97,115,101,32,110,32,61,61,32,48,32,111,102,32,60,50,62,32,45,62,32,55,59,32,60,49,62,32,45,62,32,100,111,119,110,32,40,110,32,45,32,49,41,32,121,32,120,59,32,109,97,105,110,32,61,32,100,111,119,110,32]
def zAU:Nat->List UInt8
 |0=>[59]
 |_=>[32,49,32,50,59]
def zAD (v:Nat) (ds:List UInt8):List UInt8:=zAE v++(ds++zAU v)
def zBF (v:Nat):List Tok:=(zdN 50 (zAE v) 0).dropLast
def cnTl (v q:Nat):List Tok:=match v with
 |0=>[⟨4,[59],q⟩,⟨0,[],q+1⟩]
 |_=>[⟨3,[49],q+1⟩,⟨3,[50],q+3⟩,⟨4,[59],q+4⟩,⟨0,[],q+5⟩]
theorem zBC(hv:v<3):(zBF v).length+20<=(zAE v).length/\(zAE v).length<=100/\(∀ (m:Nat) (u:List UInt8),zdN (m+(zBF v).length) (zAE v++u) 0=zBF v++zdN m (32::u) ((zAE v).length-1))/\(∀ m q,zdN (m+4) (zAU v) q=cnTl v q)/\(∃ e r,zAU v=e::r/\zba e=false)/\(zAU v).length<=5:=by
 have h:v=0\/v=1\/v=2:=by omega
 rcases h with rfl|rfl|rfl
 ·exact ⟨by decide,by decide,fun m u=>by kernel_rfl,fun m q=>by cases m <;> kernel_rfl,⟨_,_,rfl,rfl⟩,by decide⟩
 ·exact ⟨by decide,by decide,fun m u=>by kernel_rfl,fun m q=>by cases m <;> kernel_rfl,⟨_,_,rfl,rfl⟩,by decide⟩
 ·exact ⟨by decide,by decide,fun m u=>by kernel_rfl,fun m q=>by cases m <;> kernel_rfl,⟨_,_,rfl,rfl⟩,by decide⟩
theorem zBH(hv:v<3){ds:List UInt8}(h1:ds≠[])(h2:∀ c∈ds,zba c=true)(h3:ds.length<=9):zay ⟨(zAD v ds).toArray⟩=zBF v++(⟨3,ds,(zAE v).length⟩::cnTl v ((zAE v).length+ds.length)):=by
 obtain ⟨p1,p2,p3,p4,⟨e,r,p5,p6⟩,p7⟩:=zBC hv;have cT:(⟨(zAD v ds).toArray⟩:ByteArray).size=(zAE v).length+ds.length+(zAU v).length:=by
  show (zAD v ds).toArray.size=_;rw[zzr,zAD];simp;omega
 unfold zay;rw[cT];show zdN ((zAE v).length+ds.length+(zAU v).length+1) (zAD v ds) 0=_;obtain ⟨m,hm⟩:∃ m,(zAE v).length+ds.length+(zAU v).length+1=(m+4+1)+(zBF v).length:=⟨(zAE v).length+ds.length+(zAU v).length-4-(zBF v).length,by omega⟩;rw[hm,zAD,p3,p5,zBv _ _ p6 h1 h2 h3,<-p5,p4,show (zAE v).length-1+1=(zAE v).length by omega]
def zBK (T:List Tok) (z:Nat):Option (List (Nat × List Ins) × Nat × Nat):=(zcn (zdJ 1000) 1000 [] ⟨T,none⟩).bind fun q=>if (answer z q 1300).1=0 then some (Cp.program 1300 q.1,q.1.length,(zaq q.1).idxOf zcO) else none
theorem zBG:∀ {v:Nat},v<3->∀ (ds:List UInt8) (p q z:Nat),zBK (zBF v++(⟨3,ds,p⟩::cnTl v q)) z=some (cdV v (val ds),2,1)
 |0,_,ds,p,q,z=>by kernel_rfl
 |1,_,ds,p,q,z=>by kernel_rfl
 |2,_,ds,p,q,z=>by kernel_rfl
 |v+3,h,_,_,_,_=>by omega
theorem zBw{f:Nat}(hf:f<10000):∃ c more,zrn 4 f=c::more/\(∀ d∈c::more,zba d=true)/\(c::more).length<=4/\val (c::more)=f:=by
 have h:=zi0 (m:=10000) (f:=fun f=>match zrn 4 f with|[]=>false|c::more=>(c::more).all zba && decide ((c::more).length<=4) && (val (c::more) == f)) (g:=fun _=>true) (by kernel_rfl) hf;split at h
 ·cases h
 ·next c more e=>
  simp only[zzv,List.all_eq_true,decide_eq_true_eq,beq_iff_eq]at h;exact ⟨c,more,e,h.1.1,h.1.2,h.2⟩
theorem zBe{N:Nat}(hv:v<3)(hN:N<10000):zdw ⟨(zAD v (zrn 4 N)).toArray⟩ 600 4000000 (1,7,0,0) 0/\zdw ⟨(zAD v (zrn 4 N)).toArray⟩ 600 N (5,0,0,0) 0:=by
 obtain ⟨c,more,e1,e2,e3,e4⟩:=zBw hN;obtain ⟨_,p2,_,_,_,p7⟩:=zBC hv;rw[e1];have hz:(⟨(zAD v (c::more)).toArray⟩:ByteArray).size<=600:=by
  show (zAD v (c::more)).toArray.size<=_;rw[zzr,zAD];simp only[zyT]at e3 ⊢;omega
 have hT:=zBG hv (c::more) (zAE v).length ((zAE v).length+(c::more).length) (⟨(zAD v (c::more)).toArray⟩:ByteArray).size;rw[<-zBH hv (by simp) e2 (by omega)]at hT;unfold zBK at hT;rw[zyQ]at hT;obtain ⟨q,q1,q2⟩:=hT;split at q2
 ·next h0=>
  simp only[zyP,zzL]at q2;obtain ⟨k1,k2,k3⟩:=q2;obtain ⟨q',n',l1,hp⟩:=zjz _ hz;have l2:zmt ⟨(zAD v (c::more)).toArray⟩=some q:=q1;rw[l2]at l1;cases l1;rw[<-zsu hz hp]at h0;have hc:=zBq (v:=v) N 0;have GL:mb v<=7/\0<mb v:=by unfold mb;split <;> omega
  refine ⟨fun w=>zwv hz hp h0 600 4000000 (g:=8*N+10) (fun pv=>?_) w,fun w=>zwv hz hp h0 600 N (g:=8*N+10) (fun pv=>?_) w⟩
  ·rw[k1,k2,k3,e4];exact (zBD hv (by omega) 4000000 pv).2 (by omega)
  ·rw[k1,k2,k3,e4,show zb9 (N:Int) 4000000=N by unfold zb9;omega];exact (zBD hv (by omega) N pv).1 (by omega)
 ·cases q2
end Cn
end Go.Proofs.YtgahgkddaljmkaaGreatDoor
