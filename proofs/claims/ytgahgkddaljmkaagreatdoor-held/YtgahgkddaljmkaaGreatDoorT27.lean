/- SmZ .. ShD -/
import Derived.Test.YtgahgkddaljmkaaGreatDoorT26
set_option maxRecDepth 100000
set_option maxHeartbeats 4000000
namespace Go.Proofs.YtgahgkddaljmkaaGreatDoor
open Tryz
namespace Sg
open Th Ab.Sg
def put:List (Nat × List UInt8)->Nat->(Nat->Nat)->List Tok
 |[],_,_=>[]
 |a::l,i,P=>⟨a.1,a.2,P i⟩::put l (i+1) P
theorem zFJ:∀ (T:List Tok) (l:List (Nat × List UInt8)) (i:Nat) (P:Nat->Nat),T.map sh=l->(∀ j t,T[j]?=some t->P (i+j)=t.at_)->T=put l i P
 |[],_,_,_,rfl,_=>rfl
 |t::T,_,i,P,rfl,h=>by
  have h0:=h 0 t rfl;have ih:=zFJ T (T.map sh) (i+1) P rfl (fun j u hu=>by have:=h (j+1) u hu;rwa [show i+1+j=i+(j+1) by omega]);rw[zza,put,<-ih];congr 1;cases t;simp[sh]at h0 ⊢;exact h0.symm
end Sg
end Go.Proofs.YtgahgkddaljmkaaGreatDoor
namespace Go.Proofs.YtgahgkddaljmkaaGreatDoor
open Tryz
namespace Sg
open Th
theorem zCz:∀ (n:Nat) (t:List UInt8) (p q:Nat),(zdN n t p).map sh=(zdN n t q).map sh
 |0,_,_,_=>rfl
 |n+1,t,p,q=>by
  rw[zdN,zdN];simp only[zza,sh];split
  ·rfl
  ·rw[zCz n]
def lx (n:Nat) (t:List UInt8):List (Nat × List UInt8):=(zdN n t 0).map sh
theorem zGR(n:Nat)(t:List UInt8)(p:Nat):(zdN n t p).map sh=lx n t:=zCz n t p 0
theorem zEX(n:Nat){ds rest:List UInt8}{e:UInt8}(he:zba e=false)(h1:ds≠[])(h2:∀ c∈ds,zba c=true)(h3:ds.length<=9):lx (n+1) (ds++e::rest)=(3,ds)::lx n (e::rest):=by
 cases ds with
 |nil=>exact absurd rfl h1
 |cons c ds=>
  have hc:=h2 c (by simp);have hb:zda c=false:=by
   unfold zba at hc;unfold zda;simp only[zzv,decide_eq_true_eq]at hc;simp only[Bool.or_eq_false_iff,beq_eq_false_iff_ne,ne_eq];constructor <;> intro e <;> subst e <;> simp at hc
  have hl:isLet c=false:=by
   unfold zba at hc;unfold isLet;simp only[zzv,decide_eq_true_eq]at hc;rw[Bool.and_eq_false_iff];exact .inl (by simp;omega)
  have ng:((c::ds)++e::rest).takeWhile zba=c::ds:=by
   rw[List.takeWhile_append_of_pos h2,List.takeWhile_cons_of_neg (by rw[he];simp),zzS]
  have cV:((c::ds)++e::rest).takeWhile zda=[]:=by
   rw[zy7,List.takeWhile_cons_of_neg (by rw[hb];simp)]
  have hf:first ((c::ds)++e::rest)=(3,c::ds):=by
   have:first ((c::ds)++e::rest)=if isLet c then word (((c::ds)++e::rest).takeWhile zlx) else if zba c then zo7 (((c::ds)++e::rest).takeWhile zba) else if zbH ((c::ds)++e::rest)=0 then (1,[]) else (4,((c::ds)++e::rest).take (zbH ((c::ds)++e::rest))):=rfl
   rw[this,hl,hc,ng];simp only[zzw,if_false,if_true];unfold zo7;rw[if_neg (by omega)]
  unfold lx;rw[zdN];rw[cV,zzm,zzY,hf,if_neg (by omega),List.drop_left];simp only[zza,sh];rw[zCz _ _ _ 0]
theorem zE8{n q:Nat}{a u:List UInt8}{l:List (Nat × List UInt8)}(h:(zdN n (a++u) 0).map sh=l++(zdN q u a.length).map sh):lx n (a++u)=l++lx q u:=by
 unfold lx;rw[h,zCz q u _ 0]
theorem zCx(n:Nat)(u:List UInt8):lx (n+1) (32::u)=lx (n+1) u:=by
 unfold lx;rw[zdN,zdN];have hb:(32::u:List UInt8).takeWhile zda=32::u.takeWhile zda:=List.takeWhile_cons_of_pos (by decide);rw[hb];simp only[zy8,List.drop_succ_cons,zza,sh];split
 ·rfl
 ·rw[zCz _ _ _ (0+(u.takeWhile zda).length+(first (u.drop (u.takeWhile zda).length)).2.length)]
end Sg
end Go.Proofs.YtgahgkddaljmkaaGreatDoor
