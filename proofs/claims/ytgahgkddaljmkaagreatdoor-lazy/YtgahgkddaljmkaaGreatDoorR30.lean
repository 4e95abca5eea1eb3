/- LawR4 .. LawR4 -/
import Derived.Test.YtgahgkddaljmkaaGreatDoorR29
import Derived.Test.YtgahgkddaljmkaaGreatDoorR18
set_option maxRecDepth 100000
set_option maxHeartbeats 4000000
namespace Go.Proofs.YtgahgkddaljmkaaGreatDoor
open Go.ChangeShapes Go.WideShapes Go.ChangeAt Go.RowKit Go.ChangeMaps
theorem zqB{n:Int}(h:(Lit.int .i64 n).wf=true):-9223372036854775808<=n/\n<=9223372036854775807:=by
 have hm:IntKind.i64.min=-9223372036854775808:=by decide
 have hM:IntKind.i64.max=9223372036854775807:=by decide
 simp[Lit.wf,hm,hM]at h;omega
theorem zFs(H:Type)(enc:TypeId × Value->H)(W:World)(base:Nat)(args:Array Value)(ds gs:List (DataW H))(before:List MemPlace)(ed:∀ (j:Nat) t v,Tryz.f7.params[j]?=some t->args[j]?=some v->Value.okWide Tryz.prog W .any base t v)(hW:DataW.Whole enc Tryz.prog Tryz.f7.params.toList Rows.lazySpec.vars false W args.toList ds gs before):
  Calls Tryz.prog 7 args W fun e W'=>∃ v,e=.returned v/\Rows.lazySpec.post enc Tryz.prog Tryz.f7 false true false false W args v W':=by
 have bQ:=hW;obtain ⟨p,q,zE,hV,rfl,Gy,eZ⟩:=hW;have hA:DataW.TrodAll enc Tryz.prog W 0 (fun _=>true) true Tryz.f7.params.toList args.toList ds p:=zE;rw[Tryz.params7]at hA ed;obtain ⟨v0,uV,d0,Ge,p0,q0,Ae,rfl,rfl,h0,r0⟩:=trodAll_cons hA;obtain ⟨v1,Hx,d1,Gf,p1,q1,rfl,rfl,rfl,h1,r1⟩:=trodAll_cons r0;obtain ⟨v2,JK,d2,JC,p2,q2,rfl,rfl,rfl,h2,r2⟩:=trodAll_cons r1;obtain ⟨v3,Km,d3,Kf,p3,q3,rfl,rfl,rfl,h3,r3⟩:=trodAll_cons r2;obtain ⟨v4,Ko,d4,Kg,p4,q4,rfl,rfl,rfl,h4,r4⟩:=trodAll_cons r3;obtain ⟨rfl,rfl,rfl⟩:=trodAll_nil r4;obtain rfl:args=#[v0,v1,v2,v3,v4]:=by cases args;simp_all
 obtain ⟨rfl,rfl⟩:=trodVars_none hV;clear zE;obtain ⟨n1,rfl,rfl,rfl,w1⟩:=open_int Tryz.underlying3 (ed 1 3 v1 rfl rfl) h1;obtain ⟨n2,rfl,rfl,rfl,w2⟩:=open_int Tryz.underlying3 (ed 2 3 v2 rfl rfl) h2;obtain ⟨n3,rfl,rfl,rfl,w3⟩:=open_int Tryz.underlying3 (ed 3 3 v3 rfl rfl) h3;obtain ⟨n4,rfl,rfl,rfl,w4⟩:=open_int Tryz.underlying3 (ed 4 3 v4 rfl rfl) h4;simp only[zzS]at bQ;have Jj:=h0;have aj:∀ x∈p0,x.block<W.heap.size:=fun x hx=>by simpa using bQ.lt x hx
 obtain ⟨a0,len,cap,rfl⟩:=okWide_slice Tryz.underlying26 (ed 0 26 v0 rfl rfl);obtain ⟨fuel,hf⟩:=h0;have walk:Calls Tryz.prog 7 #[.slice a0 len cap,.int .i64 n1,.int .i64 n2,.int .i64 n3,.int .i64 n4] W fun e w'=>e=.returned (.bool true)/\Fr (fun _=>False) W w':=by
  rcases open_ints Tryz.underlying26 Tryz.underlying3 (by kernel_rfl) hf with ⟨aE,_⟩|⟨a,Jt,dU,zs,aE,_,hl,hc,hz,_,kr,Js⟩
  ·simp[Value.cells]at aE;obtain ⟨rfl,rfl,rfl⟩:=aE;exact zFK (g:=fun _=>0) (by omega) (fun i hi=>by omega) (fun _=>⟨by omega,by omega⟩) (zqB w1).1 (zqB w1).2 (zqB w2).1 (zqB w2).2
  ·simp[Value.cells]at aE;obtain ⟨rfl,rfl,rfl⟩:=aE;have pr:len<=zs.length:=by rw[hz];split <;> omega
   refine zFK (g:=fun i=>zs.getD i 0) (by unfold maxLen at hc;omega) (fun i hi=>⟨a,rfl,?_,kr i (by omega)⟩) (fun i=>?_) (zqB w1).1 (zqB w1).2 (zqB w2).1 (zqB w2).2
   ·have:=World.block_lt_of_cell? W (a.add i) (kr i (by omega));unfold Addr.add at this;split at this <;> exact this
   ·by_cases hi:i<zs.length
    ·exact zqB (Js _ (by rw[zzW,zyM hi];simp))
    ·rw[zzW,zzK (by omega)];exact ⟨by simp,by simp⟩
 refine walk.mono fun e W' ⟨he,hg⟩=>?_
 subst he;refine ⟨_,rfl,_,[],p0,[],p0,[],bQ,?_,?_,?_,hg.zEr.frame _,fun h=>by cases h⟩
 ·exact trodAll_cons_mk (shut_bool Tryz.underlying4 _) trodAll_mk0
 ·have:=trodAll_cons_mk (Below.trod zrD (by kernel_rfl) (of_decide_eq_true (by kernel_rfl)) Jj hg.zEr aj) (trodAll_cons_mk (shut_int Tryz.underlying3 w1) (trodAll_cons_mk (shut_int Tryz.underlying3 w2) (trodAll_cons_mk (shut_int Tryz.underlying3 w3) (trodAll_cons_mk (shut_int Tryz.underlying3 w4) (trodAll_mk0 (enc:=enc) (P:=Tryz.prog))))));simp only[zzS]at this;exact this
 ·rfl
end Go.Proofs.YtgahgkddaljmkaaGreatDoor
