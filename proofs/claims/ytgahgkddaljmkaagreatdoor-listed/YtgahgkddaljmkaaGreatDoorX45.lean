/- ShB .. ShB -/
import Derived.Test.YtgahgkddaljmkaaGreatDoorX44
set_option maxRecDepth 100000
set_option maxHeartbeats 4000000
namespace Go.Proofs.YtgahgkddaljmkaaGreatDoor
open Tryz
open Th
theorem zwt(k p:Nat){ds rest:List UInt8}(h1:ds≠[])(h2:∀ c∈ds,zba c=true)(h3:ds.length<=9):zdN (k+1) (32::(ds++32::rest)) p=⟨3,ds,p+1⟩::zdN k (32::rest) (p+1+ds.length):=by
 cases ds with
 |nil=>exact absurd rfl h1
 |cons c ds=>
  have hc:=h2 c (by simp);have hb:zda c=false:=by
   unfold zba at hc;unfold zda;simp only[zzv,decide_eq_true_eq]at hc;simp only[Bool.or_eq_false_iff,beq_eq_false_iff_ne,ne_eq];constructor <;> intro e <;> subst e <;> simp at hc
  have hl:isLet c=false:=by
   unfold zba at hc;unfold isLet;simp only[zzv,decide_eq_true_eq]at hc;rw[Bool.and_eq_false_iff];exact .inl (by simp;omega)
  have ng:((c::ds)++32::rest).takeWhile zba=c::ds:=by
   rw[List.takeWhile_append_of_pos h2,List.takeWhile_cons_of_neg (by decide),zzS]
  have cV:(32::((c::ds)++32::rest)).takeWhile zda=[32]:=by
   rw[List.takeWhile_cons_of_pos (by decide),zy7,List.takeWhile_cons_of_neg (by rw[hb];simp)]
  have hf:first ((c::ds)++32::rest)=(3,c::ds):=by
   have:first ((c::ds)++32::rest)=if isLet c then word (((c::ds)++32::rest).takeWhile zlx) else if zba c then zo7 (((c::ds)++32::rest).takeWhile zba) else if zbH ((c::ds)++32::rest)=0 then (1,[]) else (4,((c::ds)++32::rest).take (zbH ((c::ds)++32::rest))):=rfl
   rw[this,hl,hc,ng];simp only[zzw,if_false,if_true];unfold zo7;rw[if_neg (by omega)]
  rw[zdN];rw[cV,show ([32]:List UInt8).length=1 from rfl,List.drop_succ_cons,zzY,hf,if_neg (by omega),List.drop_left]
theorem zi0{α:Type}{f g:Nat->α}{m:Nat}(h:(List.range m).map f=(List.range m).map g){n:Nat}(hn:n<m):f n=g n:=List.map_inj_left.1 h n (List.mem_range.2 hn)
theorem zxh{f:Nat}(hf:f<1000):∃ c more,zrn 3 f=c::more/\(∀ d∈c::more,zba d=true)/\(c::more).length<=3/\val (c::more)=f:=by
 have h:=zi0 (m:=1000) (f:=fun f=>match zrn 3 f with|[]=>false|c::more=>(c::more).all zba && decide ((c::more).length<=3) && (val (c::more) == f)) (g:=fun _=>true) (by kernel_rfl) hf;split at h
 ·cases h
 ·next c more e=>
  simp only[zzv,List.all_eq_true,decide_eq_true_eq,beq_iff_eq]at h;exact ⟨c,more,e,h.1.1,h.1.2,h.2⟩
end Go.Proofs.YtgahgkddaljmkaaGreatDoor
