/- LawT4 .. LawT4 -/
import Derived.Test.YtgahgkddaljmkaaGreatDoorT30
import Derived.Test.YtgahgkddaljmkaaGreatDoorT19
set_option maxRecDepth 100000
set_option maxHeartbeats 4000000
namespace Go.Proofs.YtgahgkddaljmkaaGreatDoor
open Go.ChangeShapes Go.WideShapes Go.ChangeAt Go.RowKit Go.ChangeMaps
theorem zqB{n:Int}(h:(Lit.int .i64 n).wf=true):-9223372036854775808<=n/\n<=9223372036854775807:=by
 have hm:IntKind.i64.min=-9223372036854775808:=by decide
 have hM:IntKind.i64.max=9223372036854775807:=by decide
 simp[Lit.wf,hm,hM]at h;omega
theorem Fr.down{a b:World}(h:Fr (fun _=>False) a b):Below a.heap.size a b:=⟨h.os,h.tape,h.output,h.size,fun k hk=>h.block k hk (fun e=>e)⟩
theorem zHr(H:Type)(enc:TypeId × Value->H)(W:World)(base:Nat)(args:Array Value)(ds gs:List (DataW H))(before:List MemPlace)(ed:∀ (j:Nat) t v,Tryz.f13.params[j]?=some t->args[j]?=some v->Value.okWide Tryz.prog W .any base t v)(hW:DataW.Whole enc Tryz.prog Tryz.f13.params.toList Rows.heldSpec.vars false W args.toList ds gs before):
  Calls Tryz.prog 13 args W fun e W'=>∃ v,e=.returned v/\Rows.heldSpec.post enc Tryz.prog Tryz.f13 false true false false W args v W':=by
 have bQ:=hW;obtain ⟨p,q,zE,hV,rfl,Gy,eZ⟩:=hW;have hA:DataW.TrodAll enc Tryz.prog W 0 (fun _=>true) true Tryz.f13.params.toList args.toList ds p:=zE;rw[Tryz.params13]at hA ed;obtain ⟨v0,uV,d0,Ge,p0,q0,Ae,rfl,rfl,h0,r0⟩:=trodAll_cons hA;obtain ⟨v1,Hx,d1,Gf,p1,q1,rfl,rfl,rfl,h1,r1⟩:=trodAll_cons r0;obtain ⟨rfl,rfl,rfl⟩:=trodAll_nil r1;obtain rfl:args=#[v0,v1]:=by cases args;simp_all
 obtain ⟨rfl,rfl⟩:=trodVars_none hV;clear zE;obtain ⟨n1,rfl,rfl,rfl,w1⟩:=open_int Tryz.underlying3 (ed 0 3 v0 rfl rfl) h0;obtain ⟨n2,rfl,rfl,rfl,w2⟩:=open_int Tryz.underlying3 (ed 1 3 v1 rfl rfl) h1;simp only[zzS]at bQ;refine (zHJ (zqB w1).1 (zqB w1).2 (zqB w2).1 (zqB w2).2 W).mono fun e W' ⟨he,hg⟩=>?_
 subst he;refine ⟨_,rfl,_,[],[],[],[],[],bQ,?_,?_,?_,hg.down.frame _,fun h=>by cases h⟩
 ·exact trodAll_cons_mk (shut_bool Tryz.underlying4 _) trodAll_mk0
 ·change DataW.TrodAll enc _ _ _ _ _ _ _ _ ([]++([]++[]));exact trodAll_cons_mk (shut_int Tryz.underlying3 w1) (trodAll_cons_mk (shut_int Tryz.underlying3 w2) trodAll_mk0)
 ·rfl
end Go.Proofs.YtgahgkddaljmkaaGreatDoor
