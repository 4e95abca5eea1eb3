/- HdH .. HdH -/
import Derived.Test.YtgahgkddaljmkaaGreatDoorT28
set_option maxRecDepth 100000
set_option maxHeartbeats 4000000
namespace Go.Proofs.YtgahgkddaljmkaaGreatDoor
open Tryz
namespace Sg
open Th Ab.Sg
def zHB:List UInt8:=[117,112,32,110,32,61,32,99,97,115,101,32,110,32,61,61,32,48,32,111,102,32,60,50,62,32,45,62,32,123,49,44,48,125,59,32,60,49,62,32,45,62,32,123,50,44,50,125,32,110,32,40,117,112,32,40,110,32,45,32,49,41,41,59,32,115,105,122,101,32,108,32,61,32,99,97,115,101,32,108,32,111,102,32,60,49,62,32,45,62,32,48,59,32,60,50,62,32,104,32,116,32,45,62,32,49,32,43,32,115,105,122,101,32,116,59,32,109,97,105,110,32,61,32,108,101,116,32,108,32,61,32,117,112]
def zHu:List UInt8:=[32,105,110,32,115,105,122,101,32,108,32,43,32,115,105,122,101,32,108,59]
def zHl (ds:List UInt8):List UInt8:=zHB++32::(ds++zHu)
def hdK:List (Nat × List UInt8):=(zdN 90 zHB 0).dropLast.map sh
def hdL:List (Nat × List UInt8):=(zdN 10 zHu 0).map sh
theorem zHM:hdK.length+20<=zHB.length/\zHB.length=134:=by decide +kernel
theorem hd_lx(m:Nat)(u:List UInt8):lx (m+hdK.length) (zHB++32::u)=hdK++lx m (32::u):=zE8 (by kernel_rfl)
theorem zHY(m:Nat):lx (m+8) zHu=hdL:=by cases m <;> kernel_rfl
theorem zHQ{ds:List UInt8}(h1:ds≠[])(h2:∀ c∈ds,zba c=true)(h3:ds.length<=9):(zay ⟨(zHl ds).toArray⟩).map sh=hdK++(3,ds)::hdL:=by
 obtain ⟨p1,p2⟩:=zHM;have cT:(zHl ds).length=134+1+ds.length+20:=by
  have he:zHu.length=20:=by decide
  rw[zHl,zyT,zy8,zyT,p2,he];omega
 unfold zay;show (zdN ((zHl ds).toArray.size+1) (zHl ds) 0).map sh=_;rw[zzr,cT,zGR];obtain ⟨m,hm⟩:∃ m,134+1+ds.length+20+1=(m+8+1)+hdK.length:=⟨134+1+ds.length+20-8-hdK.length,by omega⟩;rw[hm,zHl,hd_lx,zCx];have:=zEX (m+8) (e:=32) (rest:=[105,110,32,115,105,122,101,32,108,32,43,32,115,105,122,101,32,108,59]) (ds:=ds) rfl h1 h2 h3;exact congrArg (fun z=>hdK++z) (this.trans (congrArg (fun z=>(3,ds)::z) (zHY m)))
def cdT (T:List Tok) (z:Nat):Option (List (Nat × List Ins) × Nat × Nat):=(zcn (zdJ 1000) 1000 [] ⟨T,none⟩).bind fun q=>if (answer z q 1300).1=0 then some (Cp.program 1300 q.1,q.1.length,(zaq q.1).idxOf zcO) else none
theorem zHO(ds:List UInt8)(P:Nat->Nat)(z:Nat):cdT (put (hdK++(3,ds)::hdL) 0 P) z=some (hdC (val ds),3,2):=by kernel_rfl
theorem zHP{K:Nat}(oN:1<=K)(hK:K<=200){heap:Int}(h1:heap<=K):zdw ⟨(zHl (zrn 3 K)).toArray⟩ 262144 4000000 (1,(K:Int)+K,0,0) 0/\zdw ⟨(zHl (zrn 3 K)).toArray⟩ heap 4000000 (4,0,0,0) 0:=by
 obtain ⟨c,more,e1,e2,e3,e4⟩:=zxh (f:=K) (by omega);obtain ⟨_,p2⟩:=zHM;rw[e1];have hz:(⟨(zHl (c::more)).toArray⟩:ByteArray).size<=600:=by
  have he:zHu.length=20:=by decide
  show (zHl (c::more)).toArray.size<=_;rw[zzr,zHl,zyT,zy8,zyT,p2,he];omega
 have hT:∃ P,zay ⟨(zHl (c::more)).toArray⟩=put (hdK++(3,c::more)::hdL) 0 P:=by
  have hs:=zHQ (ds:=c::more) (by simp) e2 (by omega);generalize zay ⟨(zHl (c::more)).toArray⟩=T at hs;exact ⟨fun i=>(T[i]?.map Tok.at_).getD 0,zFJ T _ 0 _ hs (fun j t ht=>by simp[ht])⟩
 obtain ⟨P,hT⟩:=hT;have hc:=zHO (c::more) P (⟨(zHl (c::more)).toArray⟩:ByteArray).size;rw[<-hT]at hc;unfold cdT at hc;rw[zyQ]at hc;obtain ⟨q,q1,q2⟩:=hc;split at q2
 ·next IB=>
  simp only[zyP,zzL]at q2;obtain ⟨k1,k2,k3⟩:=q2;obtain ⟨q',n',l1,hp⟩:=zjz _ hz;have l2:zmt ⟨(zHl (c::more)).toArray⟩=some q:=q1;rw[l2]at l1;cases l1;rw[<-zsu hz hp]at IB;have hb:zb9 262144 262144/2=131072:=by decide
  have hf:zb9 4000000 4000000=4000000:=by decide
  have hs:zb9 heap 262144=heap.toNat:=by unfold zb9;omega
  obtain ⟨g,r,r1,rfl⟩:=zHz (K:=K) (hf:=131072) (fuel:=4000000) (P:=fun r=>r=(1,(K:Int)+K,0,0)) (by omega) (.inr ⟨by omega,rfl⟩) (by omega);obtain ⟨g',r',Kv,rfl⟩:=zHz (K:=K) (hf:=heap.toNat/2) (fuel:=4000000) (P:=fun r=>r=(4,0,0,0)) (by omega) (.inl ⟨by omega,rfl⟩) (by omega);refine ⟨fun w=>zwv hz hp IB 262144 4000000 (g:=g) (fun pv=>Ab.zt2 (by decide) ?_) w,fun w=>zwv hz hp IB heap 4000000 (g:=g') (fun pv=>Ab.zt2 (by omega) ?_) w⟩
  ·rw[k1,k2,k3,e4,hb,hf];exact r1
  ·rw[k1,k2,k3,e4,hs,hf];exact Kv
 ·cases q2
end Sg
end Go.Proofs.YtgahgkddaljmkaaGreatDoor
