/- Lp1 .. Lp1 -/
import Derived.Test.YtgahgkddaljmkaaGreatDoorT17
set_option maxRecDepth 100000
set_option maxHeartbeats 4000000
namespace Go.Proofs.YtgahgkddaljmkaaGreatDoor
open Tryz
namespace Ab
def tot (A:Ma):Nat:=(A.h.map sz).sum+A.st.length
def inW (n:Nat):Wd->Bool
 |.ad a=>decide (a<n)
 |.mk _ _=>true
def inN (n:Nat):Nd->Bool
 |.fwd b=>decide (b<n)
 |nd=>(zdd nd).all fun f=>decide (f<n)
def shut (A:Ma):Bool:=A.st.all (inW A.h.length) && A.fns.all (fun a=>decide (a<A.h.length)) && A.h.all (inN A.h.length)
variable {A:Ma}
theorem zBp(hs:shut A=true){a:Nat}(ha:a<A.h.length):can A.h a<A.h.length:=by
 simp only[shut,zzv,List.all_eq_true]at hs;cases hn:A.h[a]? with
 |none=>simp[can,hn];exact ha
 |some nd=>
  cases nd with
  |fwd b=>
   rw[zgl hn];have:=hs.2 _ (zy1 hn);simpa [inN] using this
  |_=>rw[zdc hn rfl];exact ha
theorem zBy(hs:shut A=true){c:Nat}(h:Reach A.h A.st A.fns c):c<A.h.length:=by
 have Il:=hs;simp only[shut,zzv,List.all_eq_true]at Il
 induction h with
 |stk hi=>exact zBp hs (by have:=Il.1.1 _ (zy1 hi);simpa [inW] using this)
 |fn ha=>exact zBp hs (by simpa using Il.1.2 _ ha)
 |@fld c n f _ hn hf ih=>
  refine zBp hs ?_;have:=Il.2 _ (zy1 hn);cases n with
  |data t fs=>simp only[inN,List.all_eq_true]at this;simpa using this f hf
  |clo t fs=>simp only[inN,List.all_eq_true]at this;simpa using this f hf
  |_=>simp[zdd]at hf
theorem zBu(f:Nat->Nat):∀ (C L:List Nat),C.Nodup->(∀ c∈C,c∈L)->(C.map f).sum<=(L.map f).sum
 |[],_,_,_=>zy5 _
 |c::C,L,hn,hc=>by
  obtain ⟨n1,n2⟩:=zAA.1 hn;have hp:=(List.perm_cons_erase (hc c (by simp))).map f;have:=zBu f C (L.erase c) n2 (fun d hd=>(List.mem_erase_of_ne (fun e=>n1 (by rw[<-e];exact hd))).2 (hc d (by simp[hd])));rw[hp.sum_nat,zza,zzd,zza,zzd];omega
theorem zBY(h:List Nd):(List.range h.length).map (zkL h)=h.map sz:=by
 refine List.ext_getElem (by simp) (fun i h1 h2=>?_);simp at h1;simp[zkL,h1]
theorem zAR{hf k:Nat}(hs:shut A=true)(h:tot A+k<=hf):Fits hf A k:=fun C c1 c2=>by
 have:=zBu (zkL A.h) C (List.range A.h.length) c1 (fun c hc=>List.mem_range.2 (zBy hs (c2 c hc)));rw[zBY]at this;unfold tot at h;omega
variable {fh hf:Nat} {sl:List Nat} {A:Ma}
end Ab
end Go.Proofs.YtgahgkddaljmkaaGreatDoor
