/- LawK4 .. LawK4 -/
import Derived.Test.YtgahgkddaljmkaaGreatDoorU42
import Derived.Test.YtgahgkddaljmkaaGreatDoorU40
set_option maxRecDepth 100000
set_option maxHeartbeats 4000000
namespace Go.Proofs.YtgahgkddaljmkaaGreatDoor
open Go.ChangeShapes Go.WideShapes Go.ChangeAt Go.RowKit Go.ChangeMaps
theorem zqB{n:Int}(h:(Lit.int .i64 n).wf=true):-9223372036854775808<=n/\n<=9223372036854775807:=by
 have hm:IntKind.i64.min=-9223372036854775808:=by decide
 have hM:IntKind.i64.max=9223372036854775807:=by decide
 simp[Lit.wf,hm,hM]at h;omega
theorem Fr.down{a b:World}(h:Fr (fun _=>False) a b):Below a.heap.size a b:=⟨h.os,h.tape,h.output,h.size,fun k hk=>h.block k hk (fun e=>e)⟩
theorem zAD(H:Type)(enc:TypeId × Value->H)(W:World)(base:Nat)(args:Array Value)(ds gs:List (DataW H))(before:List MemPlace)(ed:∀ (j:Nat) t v,Tryz.f10.params[j]?=some t->args[j]?=some v->Value.okWide Tryz.prog W .any base t v)(hW:DataW.Whole enc Tryz.prog Tryz.f10.params.toList Rows.steadySpec.vars false W args.toList ds gs before):
  Calls Tryz.prog 10 args W fun e W'=>∃ v,e=.returned v/\Rows.steadySpec.post enc Tryz.prog Tryz.f10 false true false false W args v W':=by
 have bQ:=hW;obtain ⟨p,q,zE,hV,rfl,Gy,eZ⟩:=hW;have hA:DataW.TrodAll enc Tryz.prog W 0 (fun _=>true) true Tryz.f10.params.toList args.toList ds p:=zE;rw[Tryz.params10]at hA ed;obtain ⟨v0,uV,d0,Ge,p0,q0,Ae,rfl,rfl,h0,r0⟩:=trodAll_cons hA;obtain ⟨v1,Hx,d1,Gf,p1,q1,rfl,rfl,rfl,h1,r1⟩:=trodAll_cons r0;obtain ⟨v2,Io,d2,Ik,p2,q2,rfl,rfl,rfl,h2,r2⟩:=trodAll_cons r1;obtain ⟨v3,Ip,d3,Il,p3,q3,rfl,rfl,rfl,h3,r3⟩:=trodAll_cons r2;obtain ⟨v4,Iq,d4,Im,p4,q4,rfl,rfl,rfl,h4,r4⟩:=trodAll_cons r3;obtain ⟨rfl,rfl,rfl⟩:=trodAll_nil r4;obtain rfl:args=#[v0,v1,v2,v3,v4]:=by cases args;simp_all
 obtain ⟨rfl,rfl⟩:=trodVars_none hV;clear zE;obtain ⟨s,rfl,rfl,rfl,ws⟩:=open_string Tryz.underlying9 (ed 0 9 v0 rfl rfl) h0;obtain ⟨n1,rfl,rfl,rfl,w1⟩:=open_int Tryz.underlying3 (ed 1 3 v1 rfl rfl) h1;obtain ⟨n2,rfl,rfl,rfl,w2⟩:=open_int Tryz.underlying3 (ed 2 3 v2 rfl rfl) h2;obtain ⟨n3,rfl,rfl,rfl,w3⟩:=open_int Tryz.underlying3 (ed 3 3 v3 rfl rfl) h3;obtain ⟨n4,rfl,rfl,rfl,w4⟩:=open_int Tryz.underlying3 (ed 4 3 v4 rfl rfl) h4;simp only[zzS]at bQ;refine (zya s (zqB w1).1 (zqB w1).2 (zqB w2).1 (zqB w2).2 (zqB w3).1 (zqB w3).2 (zqB w4).1 (zqB w4).2 W).mono fun e W' ⟨he,hg⟩=>?_
 subst he;refine ⟨_,rfl,_,[],[],[],[],[],bQ,?_,?_,?_,hg.down.frame _,fun h=>by cases h⟩
 ·exact trodAll_cons_mk (shut_bool Tryz.underlying4 _) trodAll_mk0
 ·change DataW.TrodAll enc _ _ _ _ _ _ _ _ ([]++([]++([]++([]++([]++[])))));exact trodAll_cons_mk (shut_string Tryz.underlying9 ws) (trodAll_cons_mk (shut_int Tryz.underlying3 w1) (trodAll_cons_mk (shut_int Tryz.underlying3 w2) (trodAll_cons_mk (shut_int Tryz.underlying3 w3) (trodAll_cons_mk (shut_int Tryz.underlying3 w4) trodAll_mk0))))
 ·rfl
end Go.Proofs.YtgahgkddaljmkaaGreatDoor
