/- LawU4 .. LawU4 -/
import Derived.Test.YtgahgkddaljmkaaGreatDoorV27
import Derived.Test.YtgahgkddaljmkaaGreatDoorV18
set_option maxRecDepth 100000
set_option maxHeartbeats 4000000
namespace Go.Proofs.YtgahgkddaljmkaaGreatDoor
open Go.ChangeShapes Go.WideShapes Go.ChangeAt Go.RowKit Go.ChangeMaps
theorem Xx{n:Int}(h:(Lit.int .i64 n).wf=true):-9223372036854775808<=n/\n<=9223372036854775807:=by
 have hm:IntKind.i64.min=-9223372036854775808:=by decide
 have hM:IntKind.i64.max=9223372036854775807:=by decide
 simp[Lit.wf,hm,hM]at h;omega
theorem zJb(H:Type)(enc:TypeId × Value->H)(W:World)(base:Nat)(args:Array Value)(ds gs:List (DataW H))(before:List MemPlace)(ed:∀(j:Nat)t v,Tryz.f11.params[j]?=some t->args[j]?=some v->Value.okWide Tryz.prog W .any base t v)(hW:DataW.Whole enc Tryz.prog Tryz.f11.params.toList Rows.reshownSpec.vars false W args.toList ds gs before)(hT:Nq W):
  Calls Tryz.prog 11 args W λe W'=>∃v,e=.returned v/\Rows.reshownSpec.post enc Tryz.prog Tryz.f11 false true false false W args v W':=by
 have bQ:=hW;obtain⟨p,q,zE,hV,rfl,Gy,eZ⟩:=hW;have hA:DataW.TrodAll enc Tryz.prog W 0 (λ_=>true) true Tryz.f11.params.toList args.toList ds p:=zE;rw[Tryz.params11]at hA ed;obtain⟨v0,uV,d0,Ge,p0,q0,Ae,rfl,rfl,h0,r0⟩:=trodAll_cons hA;obtain⟨v1,Hx,d1,Gf,p1,q1,rfl,rfl,rfl,h1,r1⟩:=trodAll_cons r0;obtain⟨v2,JK,d2,JC,p2,q2,rfl,rfl,rfl,h2,r2⟩:=trodAll_cons r1;obtain⟨rfl,rfl,rfl⟩:=trodAll_nil r2;obtain rfl:args=#[v0,v1,v2]:=by cases args;simp_all
 obtain⟨rfl,rfl⟩:=trodVars_none hV;clear zE;obtain⟨s,rfl,rfl,rfl,ws⟩:=open_string Tryz.underlying9 (ed 0 9 v0 rfl rfl) h0;obtain⟨n2,rfl,rfl,rfl,w2⟩:=open_int Tryz.underlying3 (ed 2 3 v2 rfl rfl) h2;simp only[Rq,MQ]at bQ;have Jj:=h1;have aj:∀x∈p1,x.block<W.heap.size:=λx hx=>by simpa using bQ.lt x hx
 obtain⟨a0,len,cap,rfl⟩:=okWide_slice Tryz.underlying26 (ed 1 26 v1 rfl rfl);obtain⟨fuel,hf⟩:=h1;have walk:Calls Tryz.prog 11 #[.string s,.slice a0 len cap,.int .i64 n2] W λe w'=>e=.returned (.bool true)/\Fr (λ_=>False) W w':=by
  rcases open_ints Tryz.underlying26 Tryz.underlying3 (by kernel_rfl) hf with⟨aE,_⟩|⟨a,Jt,dU,zs,aE,_,hl,hc,hz,_,kr,Js⟩
  .simp[Value.cells]at aE;obtain⟨rfl,rfl,rfl⟩:=aE;exact zJi s (g:=λ_=>0) (by omega) (λi hi=>by omega) (λ_=>⟨by omega,by omega⟩) (Xx w2).1 (Xx w2).2 hT
  .simp[Value.cells]at aE;obtain⟨rfl,rfl,rfl⟩:=aE;have pr:len<=zs.length:=by rw[hz];split<;>omega
   refine zJi s (g:=λi=>zs.getD i 0) (by unfold maxLen at hc;omega) (λi hi=>⟨a,rfl,?_,kr i (by omega)⟩) (λi=>?_) (Xx w2).1 (Xx w2).2 hT
   .have:=World.block_lt_of_cell? W (a.add i) (kr i (by omega));unfold Addr.add at this;split at this<;>exact this
   .by_cases hi:i<zs.length
    .exact Xx (Js _ (by rw[U0,Iv hi];simp))
    .rw[U0,R5 (by omega)];exact⟨by simp,by simp⟩
 refine walk.mono λe W'⟨he,hg⟩=>?_
 subst he;refine⟨_,rfl,_,[],p1,[],p1,[],bQ,?_,?_,?_,hg.NB.frame _,λh=>by cases h⟩
 .exact Jq (shut_bool Tryz.underlying4 _) trodAll_mk0
 .have:=Jq (shut_string Tryz.underlying9 ws) (Jq (Below.trod zrD (by kernel_rfl) (of_decide_eq_true (by kernel_rfl)) Jj hg.NB aj) (Jq (shut_int Tryz.underlying3 w2) (trodAll_mk0 (enc:=enc) (P:=Tryz.prog))));simp only[Rq,MQ]at this;exact this
 .rfl
end Go.Proofs.YtgahgkddaljmkaaGreatDoor
