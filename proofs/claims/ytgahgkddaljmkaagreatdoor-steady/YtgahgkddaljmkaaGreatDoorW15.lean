/- Cmp2 .. Mach38 -/
import Derived.Test.YtgahgkddaljmkaaGreatDoorW14
set_option maxRecDepth 100000
set_option maxHeartbeats 4000000
namespace Go.Proofs.YtgahgkddaljmkaaGreatDoor
open Tryz
open Go.RowKit
attribute [local go_sem ↓] Go.wp_at_zero Go.wp_at_succ
theorem zxs:(prog.info? 154).map (fun i=>(i.zero,i.size,i.bytes))=some (some .nilIface,1,16):=by kernel_rfl
variable {w:World}
theorem Fr.zjj{K:Nat->Prop}{a b:World}{row:Option Nat}(h:Fr K w a)(hg:a.grownBy b row)(hr:∀ k,k<w.heap.size->row=some k->K k):Fr K w b:=
 ⟨hg.os.trans h.os,hg.tape.trans h.tape,hg.output.trans h.output,zyR h.size hg.size,fun i hi hK=>(hg.block i (zyS hi h.size) (fun e=>hK (hr i hi e.symm))).trans (h.block i hi hK)⟩
theorem zdV(w:World):Calls prog 155 #[] w fun e w'=>e=.returned (.slice (some ⟨w.heap.size,0,none⟩) 1 1)/\w'=w.alloc (.cells #[.string ⟨#[]⟩] 9):=by
 go_enter func155,ntmps155
 go_wp2_with fail
 go_ret
 exact ⟨rfl,rfl⟩
variable {Z:Nat->Prop}
variable {cb bb g cap:Nat}
variable {rv sv kv v:Value}
variable {fns:List Cp.Nm}
variable {q:Cp.Bs}
variable {i:Ins}
theorem BS.wrote{w3:World}{vs:List Value}{b:Obj}(h:BS Z w cb bb rv sv kv fns q)(hi:zo5 Z w v i)(gW:zdO Z w vs q.code)(ai:w3.ownsRow 0 154 1 (.slice (some ⟨g,0,none⟩) (q.code.length+1) cap) (q.code.length+1) (vs++[v]))(ah:(w.alloc b).grownBy w3 kv.ownBlock)(aV:kv.ownBlock=some g\/g=w.heap.size+1):
  Blk w3 bb [.pointer (some ⟨cb,0,none⟩),sv,kv] 159/\Did Z w cb bb rv sv kv fns (q.write i) (w3.setCell ⟨bb,2,none⟩ (.slice (some ⟨g,0,none⟩) (q.code.length+1) cap)):=by
 have cV:=h.zbY.lt;have aA:Blk (w.alloc b) bb [.pointer (some ⟨cb,0,none⟩),sv,kv] 159:=Fr.blk (K:=fun _=>False) h.zbY ((Fr.refl _ _).alloc b) (by simp);have bD:=aA.grown ah (fun e=>h.kc.2 e.symm);have so:g≠bb:=by
  rcases aV with e|e
  ·intro e2;subst e2;exact h.kc.2 e
  ·omega
 have f0:Fr (fun k=>k=bb\/kv.ownBlock=some k) w (w3.setCell ⟨bb,2,none⟩ (.slice (some ⟨g,0,none⟩) (q.code.length+1) cap)):=
  (((Fr.refl _ _).alloc b).zjj ah (fun k _ e=>.inr e)).set _ _ (.inl (.inl rfl))
 have f1:Fr (fun k=>k=bb\/sv.ownBlock=some k\/kv.ownBlock=some k) w (w3.setCell ⟨bb,2,none⟩ (.slice (some ⟨g,0,none⟩) (q.code.length+1) cap)):=f0.mono (fun k hk=>by rcases hk with e|e;exact .inl e;exact .inr (.inr e));have hz:∀ k,k<w.heap.size->Z k->¬ (k=bb\/kv.ownBlock=some k):=fun k _ hk he=>h.zk k hk (by
  rcases he with e|e
  ·exact .inr (.inl e)
  ·exact .inr (.inr (.inr (.inr e))))
 have nk:New w kv (.slice (some ⟨g,0,none⟩) (q.code.length+1) cap):=by
  intro k hk;simp only[Value.ownBlock,zyP]at hk;rcases aV with e|e
  ·exact .inl (by rw[e,hk])
  ·exact .inr (by omega)
 have aK:=h.slt;refine ⟨bD,Did.up (h.up f1 (bD.set 2 _) (f0.gb h.ziW (fun k hk he=>?_)) ⟨vs++[v],?_,(gW.frz f0 hz (fun _ _ x=>x)).snoc (hi.frz f0 hz (fun _ _ x=>x))⟩ (New.refl _ _) nk ?_) f1 (New.refl _ _) nk⟩
 ·rcases he with e|e
  ·exact h.sc.2 (by rw[hk,e])
  ·exact h.sk k hk e
 ·have f3:Fr (fun k=>k=bb) w3 (w3.setCell ⟨bb,2,none⟩ (.slice (some ⟨g,0,none⟩) (q.code.length+1) cap)):=(Fr.refl _ _).set _ _ (.inl rfl);rw[zyT,zy0];exact f3.gb ai (fun k hk=>by simp only[Value.ownBlock,zyP]at hk;omega)
 ·intro k hk e;simp only[Value.ownBlock,zyP]at e;have:=aK k hk;rcases aV with e2|e2
  ·exact h.sk k hk (by rw[e2,e])
  ·omega
theorem zbS(h:BS Z w cb bb rv sv kv fns q)(hi:zo5 Z w v i)(hl:q.code.length<=1000000000):
  Calls prog 157 #[.pointer (some ⟨bb,0,none⟩),v] w fun e w'=>e=.returned (.tuple #[])/\Did Z w cb bb rv sv kv fns (q.write i) w':=by
 obtain ⟨i0,dt,bq,aP,bF⟩:=info_parts zxs;have HI:=zab dt;clear dt;have HZ:=zab (And.intro bq (And.intro aP bF));clear bq aP bF;obtain ⟨t,x,rfl⟩:=zqA hi;obtain ⟨vs,gW,af⟩:=h.znV;obtain ⟨ka,kn,kc,rfl⟩:=zaF gW;have c2:=Blk.cell h.zbY 2;simp at c2;have cV:w.heap.size≠bb:=by have:=h.zbY.lt;omega
 have jO:=zab ((Fr.refl (fun _=>False) w).alloc (.cells #[.iface t x] 154)|>.gb gW (by simp));have HH:=zab h;have oz:=zab hi;have CO:=zab af;clear h hi af gW;go_enter func157,ntmps157
 go_wp2_with (at_builtin;refine wpList_append_lies _ rfl _ _ _ rfl 0 154 i0 _ 1 16 underlying94 HI.o HZ.o.1 HZ.o.2.1 HZ.o.2.2 rfl (by omega) _ q.code.length vs rfl jO.o ⟨w.heap.size,0,none⟩ 1 1 [.iface t x] rfl rfl (World.news_of_block (cs:=#[.iface t x]) (t:=154) (fr:=(0,0)) (heap_alloc_new w _)) (by simp[Value.oneCell']) (by omega) (by unfold maxLen;omega) (by omega) (zy5 _) (w.heap.size+1) (by simp) ?_;intro g cap w3 ai ah aV aj;have AD:=zab (HH.o.wrote oz.o CO.o ai ah aV);have d2:=Blk.cell AD.o.1 2;have df:=Blk.frozen AD.o.1 2;simp at d2;clear ai ah aV aj)
 first|go_end0|refine bodyPost_ret (results_none rfl _ _ _) rfl ?_
 exact ⟨rfl,AD.o.2⟩
theorem BS.zuu{a w3:World}{n':Nat}{sl:List Cp.Nm}(h:BS Z w cb bb rv sv kv fns q)(fa:Fr (fun _=>False) w a)(hn:n'=sl.length)(ai:w3.ownsRow 0 9 1 (.slice (some ⟨g,0,none⟩) n' cap) n' (strCells sl))(ah:a.grownBy w3 sv.ownBlock)(aV:sv.ownBlock=some g\/w.heap.size<=g):
  Blk w3 bb [.pointer (some ⟨cb,0,none⟩),sv,kv] 159/\Did Z w cb bb rv sv kv fns ⟨q.blocks,sl,q.code⟩ (w3.setCell ⟨bb,1,none⟩ (.slice (some ⟨g,0,none⟩) n' cap)):=by
 subst hn;have cV:=h.zbY.lt;have aA:Blk a bb [.pointer (some ⟨cb,0,none⟩),sv,kv] 159:=Fr.blk h.zbY fa (by simp);have bD:=aA.grown ah (fun e=>h.sc.2 e.symm);have so:g≠bb:=by
  rcases aV with e|e
  ·intro e2;subst e2;exact h.sc.2 e
  ·omega
 have f0:Fr (fun k=>k=bb\/sv.ownBlock=some k) w (w3.setCell ⟨bb,1,none⟩ (.slice (some ⟨g,0,none⟩) sl.length cap)):=
  ((fa.mono (fun _ h=>h.elim)).zjj ah (fun k _ e=>.inr e)).set _ _ (.inl (.inl rfl))
 have f1:Fr (fun k=>k=bb\/sv.ownBlock=some k\/kv.ownBlock=some k) w (w3.setCell ⟨bb,1,none⟩ (.slice (some ⟨g,0,none⟩) sl.length cap)):=f0.mono (fun k hk=>by rcases hk with e|e;exact .inl e;exact .inr (.inl e));have hz:∀ k,k<w.heap.size->Z k->¬ (k=bb\/sv.ownBlock=some k):=fun k _ hk he=>h.zk k hk (by
  rcases he with e|e
  ·exact .inr (.inl e)
  ·exact .inr (.inr (.inr (.inl e))))
 have ns:New w sv (.slice (some ⟨g,0,none⟩) sl.length cap):=by
  intro k hk;simp only[Value.ownBlock,zyP]at hk;rcases aV with e|e
  ·exact .inl (by rw[e,hk])
  ·exact .inr (by omega)
 have nS:=h.klt;obtain ⟨vs,cK,aG⟩:=h.znV;refine ⟨bD,Did.up (h.up f1 (bD.set 1 _) ?_ ⟨vs,f0.gb cK (fun k hk he=>?_),aG.frz f0 hz (fun _ _ x=>x)⟩ ns (New.refl _ _) ?_) f1 ns (New.refl _ _)⟩
 ·have f3:Fr (fun k=>k=bb) w3 (w3.setCell ⟨bb,1,none⟩ (.slice (some ⟨g,0,none⟩) sl.length cap)):=(Fr.refl _ _).set _ _ (.inl rfl);exact f3.gb ai (fun k hk=>by simp only[Value.ownBlock,zyP]at hk;omega)
 ·rcases he with e|e
  ·exact h.kc.2 (by rw[hk,e])
  ·exact h.sk k e hk
 ·intro k hk e;simp only[Value.ownBlock,zyP]at hk;have:=nS k e;rcases aV with e2|e2
  ·exact h.sk k (by rw[e2,hk]) e
  ·omega
theorem zbn(h:BS Z w cb bb rv sv kv fns q)(hi:zo5 Z w v i)(hl:q.code.length<=1000000000)(aC:q.zac.length<=1000000000):
  Calls prog 145 #[.pointer (some ⟨bb,0,none⟩),v] w fun e w'=>e=.returned (.tuple #[])/\Did Z w cb bb rv sv kv fns (q.push i) w':=by
 obtain ⟨i0,dt,bq,aP,bF⟩:=info_parts zeR;have HI:=zab dt;clear dt;have HZ:=zab (And.intro bq (And.intro aP bF));clear bq aP bF;have CW:=zab (zbS h hi hl);clear h hi;go_enter func145,ntmps145
 go_wp2_with fail
 refine CW.o.mono ?_;rintro e w1 ⟨rfl,Z1,bh,bf,cA,aP,aA,f1,n1,n2,n3⟩;have HD:=zab (And.intro aP (And.intro f1 (And.intro n1 (And.intro n2 n3))));obtain ⟨sa,sn,sc,rfl⟩:=zaF aA.ziW;have cB:=zab aA;have c1:=Blk.cell aA.zbY 1;simp at c1;have cV:w1.heap.size≠bb:=by have:=aA.zbY.lt;omega
 have a1:(w1.alloc (.cells #[.string ⟨#[]⟩] 9)).drew.cell? ⟨bb,1,none⟩=some (.slice sa sn sc):=by
  have:=Blk.cell (Fr.blk (K:=fun _=>False) aA.zbY ((Fr.refl _ _).alloc (.cells #[.string ⟨#[]⟩] 9)).drew (by simp)) 1;simpa using this
 clear aP aA f1 n1 n2 n3 CW;go_wp2_with fail
 go_region_law (first
  |(refine step_append_lies _ (by rfl) _ _ _ (by rfl) 0 9 i0 _ 1 16 underlying38 HI.o HZ.o.1 HZ.o.2.1 HZ.o.2.2 rfl (by omega) (.slice sa sn sc) q.zac.length (strCells q.zac) (by rfl) (Fr.gb (K:=fun _=>False) (w:=w1) (by first|exact ((Fr.refl _ _).alloc _).drew|exact (Fr.refl _ _).drew.alloc _) cB.o.ziW (by simp)) ⟨w1.heap.size,0,none⟩ 1 1 [.string ⟨#[]⟩] (by rfl) (by rfl) (World.news_of_block (cs:=#[.string ⟨#[]⟩]) (t:=9) (fr:=(0,0)) (heap_alloc_new w1 _)) (by simp[Value.oneCell']) (by omega) (by unfold maxLen;omega) (by omega) (zy5 _) (w1.heap.size+1) (by simp) ?_;intro g cap w3 ai ah aV aj;have AD:=zab (cB.o.zuu (g:=g) (n':=q.zac.length+1) (cap:=cap) (sl:=q.zac++[[]]) (by first|exact ((Fr.refl _ _).alloc _).drew|exact (Fr.refl _ _).drew.alloc _) (by simp[]) (by simpa [strCells] using ai) ah (by rcases aV with e|e;exact .inl e;exact .inr (by omega)));have d1:=Blk.cell AD.o.1 1;have df:=Blk.frozen AD.o.1 1;simp at d1;clear ai ah aV aj)
  |(go_simp;go_wp2_with (go_at_call 155;refine (zdV _).mono ?_;rintro e w2 ⟨rfl,aB⟩;subst w2)))
 all_goals
  first|go_end0|refine bodyPost_ret (results_none rfl _ _ _) rfl ?_
  exact ⟨rfl,Did.trans HD.o.1 HD.o.2.1 HD.o.2.2.1 HD.o.2.2.2.1 HD.o.2.2.2.2 AD.o.2⟩
variable {n:Nat}
theorem zql{d:Nat}(hd:d<=cap):∀ W:World,(Instr.slice 38 (.slice (some ⟨g,0,none⟩) n cap) none (some (.int .i64 (d:Int))) none).run prog W=.ok (.slice (some ⟨g,0,none⟩) d cap) W:=by
 intro W;rw[run_slice_h W 38 _ _ _ underlying38 .i64 _ (by omega) (by omega)];have e3:prog.elem 38=9:=by kernel_rfl
 rw[e3,sizeOf9];simp[Result.andThen,sliced,zbe]
theorem zvm:∀ W:World,(Instr.slice 38 (.slice none 0 0) none (some (.int .i64 0)) none).run prog W=.ok (.slice none 0 0) W:=by
 intro W;rw[run_slice_h W 38 _ _ _ underlying38 .i64 _ (by omega) (by omega)];have e3:prog.elem 38=9:=by kernel_rfl
 rw[e3,sizeOf9];simp[Result.andThen,sliced]
theorem BS.drew{Z:Nat->Prop}{w:World}{cb bb:Nat}{rv sv kv:Value}{fns:List Cp.Nm}{q:Cp.Bs}(h:BS Z w cb bb rv sv kv fns q):BS Z w.drew cb bb rv sv kv fns q:=by
 have f0:Fr (fun _=>False) w w.drew:=(Fr.refl _ _).drew;have hz:∀ k,k<w.heap.size->Z k->¬ False:=fun _ _ _ h=>h
 obtain ⟨fv,bH,bT⟩:=h.zkt;obtain ⟨cP,dd,cg,jc⟩:=h.zkI;obtain ⟨vs,cK,aG⟩:=h.znV;exact ⟨⟨fv,bH,bT.frz f0 hz (fun _ _ x=>x)⟩,h.zbY,⟨cP,dd,f0.gb cg (by simp),fun i b cv h1 h2=>(jc i b cv h1 h2).frz f0 hz (fun _ _ x=>x)⟩,f0.gb h.ziW (by simp),⟨vs,f0.gb cK (by simp),aG.frz f0 hz (fun _ _ x=>x)⟩,h.zlt,h.zk,h.ne,h.rc,h.sc,h.kc,h.rs,h.rk,h.sk⟩
theorem Did.drew{Z:Nat->Prop}{w w':World}{cb bb:Nat}{rv sv kv:Value}{fns:List Cp.Nm}{q:Cp.Bs}(h:Did Z w cb bb rv sv kv fns q w'):Did Z w cb bb rv sv kv fns q w'.drew:=by
 obtain ⟨Z',aO,sv',bG,h1,h2,h3,h4,h5,h6⟩:=h;exact ⟨Z',aO,sv',bG,h1,h2.drew,h3.drew,h4,h5,h6⟩
variable {c:Nat}
theorem BS.cut{sv':Value}(h:BS Z w cb bb rv sv kv fns q)(hs:w.ownsRow 0 9 1 sv' (q.drop c).zac.length (strCells (q.drop c).zac))(he:sv'.ownBlock=sv.ownBlock):Did Z w cb bb rv sv kv fns (q.drop c) (w.setCell ⟨bb,1,none⟩ sv'):=by
 have f0:Fr (fun k=>k=bb) w (w.setCell ⟨bb,1,none⟩ sv'):=(Fr.refl _ _).set _ _ (.inl rfl);have f1:Fr (fun k=>k=bb\/sv.ownBlock=some k\/kv.ownBlock=some k) w (w.setCell ⟨bb,1,none⟩ sv'):=f0.mono (fun k e=>.inl e);have hz:∀ k,k<w.heap.size->Z k->¬ (k=bb):=fun k _ hk he=>h.zk k hk (.inr (.inl he))
 have ns:New w sv sv':=fun k hk=>.inl (by rw[<-he];exact hk)
 obtain ⟨vs,cK,aG⟩:=h.znV;exact Did.up (h.up f1 (h.zbY.set 1 _) (f0.gb hs (fun k hk e=>h.sc.2 (by rw[<-he,hk,e]))) ⟨vs,f0.gb cK (fun k hk e=>h.kc.2 (by rw[hk,e])),aG.frz f0 hz (fun _ _ x=>x)⟩ ns (New.refl _ _) (fun k hk=>h.sk k (by rw[<-he];exact hk))) f1 ns (New.refl _ _)
theorem zeg(h:BS Z w cb bb rv sv kv fns q)(aC:q.zac.length<=1000000000)(hc:c<=q.zac.length):
  Calls prog 166 #[.pointer (some ⟨bb,0,none⟩),.int .i64 c] w fun e w'=>e=.returned (.tuple #[])/\Did Z w cb bb rv sv kv fns (q.drop c) w':=by
 have HH:=zab h;have c1:=Blk.cell h.zbY 1;simp at c1;have df:=Blk.frozen h.zbY 1;rcases zan (Row.zaE h.ziW) with hv|⟨g,cap,hv⟩
 ·subst hv;have hlen:q.zac.length=0:=by
   rcases h.ziW.2 with ⟨_,h0⟩|⟨_,_,_,h0,_⟩
   ·exact h0
   ·cases h0
  obtain rfl:c=0:=by omega
  have py:=zvm;have GO:IntKind.i64.wrap 0=0:=by decide
  have HF:=zab (HH.o.cut (c:=0) (sv':=.slice none 0 0) (by simpa [Cp.Bs.drop] using h.ziW) rfl);clear h hlen;go_enter func166,ntmps166
  go_wp2_with fail
  go_region_law (fail)
  all_goals
   first|go_end0|refine bodyPost_ret (results_none rfl _ _ _) rfl ?_
   exact ⟨rfl,HF.o.drew⟩
 ·subst hv;obtain ⟨d,hd⟩:∃ d,q.zac.length=d+c:=⟨q.zac.length-c,by omega⟩;have pg:IntKind.i64.wrap ((d:Int)+(c:Int)-(c:Int))=(d:Int):=by rw[zbc _ (by omega) (by omega)];omega
  have kS:d<=cap:=by
   rcases h.ziW.2 with ⟨h0,_⟩|⟨_,_,_,h0,_,_,hn,_⟩
   ·cases h0
   ·cases h0;omega
  rw[hd]at c1;have py:=zql (g:=g) (n:=d+c) kS;have oh:IntKind.i64.wrap (d:Int)=(d:Int):=zbc _ (by omega) (by omega);have e1:(q.drop c).zac.length=d:=by simp[Cp.Bs.drop];omega
  have HF:=zab (HH.o.cut (c:=c) (sv':=.slice (some ⟨g,0,none⟩) d cap) (by
   have:=zg6 h.ziW (i:=d) (by omega);rw[e1];have e2:strCells (q.drop c).zac=(strCells q.zac).take d:=by simp[Cp.Bs.drop,strCells,hd]
   rw[e2];exact this) rfl)
  clear h;go_enter func166,ntmps166
  go_wp2_with fail
  go_region_law (fail)
  all_goals
   first|go_end0|refine bodyPost_ret (results_none rfl _ _ _) rfl ?_
   exact ⟨rfl,HF.o.drew⟩
end Go.Proofs.YtgahgkddaljmkaaGreatDoor
namespace Go.Proofs.YtgahgkddaljmkaaGreatDoor
open Tryz
open Go.RowKit Go.Shelf
attribute [local go_sem] Oper.semAt_some
def zrT (P:Program) (l:Nat) (R:Ending->World->Prop):Exit->Act->World->Prop
 |.normal,_,w=>∃ v w',(Instr.endRound l none).run P w=.ok v w'/\R (.returned v) w'
 |.panic chain,a,w=>a.defers=[]/\R (.panicked chain) w
 |_,_,_=>False
variable {n:Nat}
variable {f:FuncId}
variable {assign body:Code}
variable {w:World}
variable {R:Ending->World->Prop}
theorem zkH{F:Fence}{P:Program}{l:Nat}{fn:Func}{tmps:Array Value}(hF:F.fn f)(fj:P.funcs[f]?=some fn)(h:assign.wpIn (F.inRound l) n P (Exit.then (fun a₁ w₁=>∃ w₂,(Instr.beginRound l).run P w₁=.ok () w₂/\body.wpIn (F.inRound l) n P (zrT P l R) a₁ w₂) (fun _ _ _=>False))
   { tmps:=tmps,defers:=[] } w):
  RoundIn F n P l f tmps assign body w R:=by
 refine ⟨hF,fun c cs hr=>?_⟩
 let b:Frame:={ (default:Frame) with fn:=f,kind:=.normal,roundOf:=some l }
 have kf:Frame.round l f tmps assign body .normal=b.atR { tmps:=tmps,defers:=[] } [.code assign,.beginRound,.code body]:=by
  simp[Frame.round,Frame.atR,b]
 have ju:(F.inRound l).room ((c::cs).length+1+n):=hr;have rC:(F.inRound l).fn b.fn:=hF;obtain ⟨e,a₁,w₁,hq,bj⟩:=h b [.beginRound,.code body] (c::cs) rfl rC ju;rw[<-kf]at bj;cases e with
 |normal=>
  obtain ⟨w₂,pT,iE⟩:=hq;have s1:StepsIn (Machine.fenced P (F.inRound l)) P (lone (b.atR a₁ [.beginRound,.code body]) (c::cs) w₁) (lone (b.atR a₁ [.code body]) (c::cs) w₂):=
   .one (fenced_calm (fr:=b.atR a₁ [.beginRound,.code body]) rC ju rfl) (stepR_beginRound rfl pT)
  obtain ⟨e₂,a₂,w₃,hq₂,harr₂⟩:=iE b [] (c::cs) rfl rC ju;cases e₂ with
  |normal=>
   obtain ⟨v,w₄,cJ,hR⟩:=hq₂;exact ⟨.returned v,w₄,hR,(StepsIn.trans bj s1).trans (StepsIn.trans harr₂ (.one (fenced_calm (fr:=b.atR a₂ []) rC ju rfl) (stepR_round_end rfl rfl cJ)))⟩
  |panic chain=>
   obtain ⟨hd,hR⟩:=hq₂;obtain ⟨todo,hs⟩:=harr₂;have fM:({ b.atR a₂ todo with mode:=.panicking chain }:Frame).leaving P w₃ (.panicked chain):=⟨rfl,hd,fn,fj⟩;exact ⟨.panicked chain,w₃,hR,(StepsIn.trans bj s1).trans (StepsIn.trans hs (.one (fenced_leaving (fr:={ b.atR a₂ todo with mode:=.panicking chain }) rC ju fM) (step_leave_panicked fM)))⟩
  |ret=>exact hq₂.elim
  |exit id=>exact hq₂.elim
  |goto t=>exact hq₂.elim
  |outgrown=>exact hq₂.elim
 |exit id=>exact hq.elim
 |goto t=>exact hq.elim
 |ret=>exact hq.elim
 |panic chain=>exact hq.elim
 |outgrown=>exact hq.elim
theorem zcY{l:Nat}{P:Program}{args:Array Value}(h:Calls P f args w R):CallsIn (Fence.wide.inRound l) n P f args w R:=
 ⟨trivial,fun cs _=>let ⟨e,w',fr,r,s,x⟩:=h cs;⟨e,w',fr,r,comesIn_wide.2 s,x⟩⟩
theorem zsj(l Bn cb cap:Nat)(vs:List Value)(dJ:vs.length<=1000000000)(J:Nat->World->Prop)(Jx:List PanicEntry->World->Prop)(hY:∀ i v W,J i W->vs[i]?=some v->YieldAt Fence.wide 0 prog l #[v] W fun e W'=>(e=.returned (.bool true)/\J (i+1) W')\/(∃ ch,e=.panicked ch/\Jx ch W'))(hJc:∀ i W,J i W->W.cell? ⟨Bn,0,none⟩=some (.slice (some ⟨cb,0,none⟩) vs.length cap)/\∀ j v,vs[j]?=some v->W.cell? ⟨cb,j,none⟩=some v)(W:World)(h0:J 0 W):
  CallsIn Fence.wide 1 prog 206 #[.func (.yield l) #[] #[],.pointer (some ⟨Bn,0,none⟩)] W fun e W'=>(∃ v,e=.returned v/\J vs.length W')\/(∃ ch,e=.panicked ch/\Jx ch W'):=by
 have HY:=zab hY;have lT:=zab hJc;clear hY hJc;have c0:=(lT.o 0 W h0).1;have qx:=zab h0;clear h0;refine callsIn_of_wp func206 rfl trivial ?_ rfl;simp only[ntmps206,zzr,zy8,zzm,Nat.reduceAdd,Nat.reduceSub,zzB,zzC,zzH,zzE,zzb,zy7]
 gi_wp2
 gi_loopw [7] (fun i wr=>∃ k:Nat,i=.int .i64 k/\k<=vs.length/\Hid (J k wr)) (fun i _=>vs.length+1-(intOf i).toNat)
 case atStart=>exact ⟨0,rfl,zy5 _,qx⟩
 case round=>
  obtain ⟨k,rfl,hk,hJ⟩:=hrel;by_cases aj:k<vs.length
  ·have gu:(k:Int)<(vs.length:Int):=by omega
   have dF:(0:Int)<=(k:Int):=by omega
   obtain ⟨v,hv⟩:∃ v,vs[k]?=some v:=⟨_,zyM aj⟩;have cv:=(lT.o k wr hJ.o).2 k v hv;obtain ⟨fn,tmps,assign,body,hy,hR⟩:=HY.o k v wr hJ.o hv;have HR:=zab hR;have HV:=zab hv;clear hR hv c0
   gi_wp2
   refine HR.o.mono ?_;rintro e w3 (⟨rfl,gP⟩|⟨ch,rfl,hx⟩)
   ·have iu:=zab gP;clear gP hy HR cv
    gi_wp2
    go_roundw
    case rel=>exact ⟨k+1,by go_num,by omega,iu⟩
    case measure=>
     simp[intOf];omega
   ·exact ⟨rfl,.inr ⟨ch,rfl,hx⟩⟩
  ·have gu:¬ (k:Int)<(vs.length:Int):=by omega
   have nQ:k=vs.length:=by omega
   have iu:Hid (J vs.length wr):=by rw[<-nQ];exact hJ
   clear nQ c0
   gi_wp2
   first|go_end0|refine bodyPost_ret (results_none rfl _ _ _) rfl ?_
   exact .inl ⟨⟨_,rfl⟩,iu.o⟩
end Go.Proofs.YtgahgkddaljmkaaGreatDoor
namespace Go.Proofs.YtgahgkddaljmkaaGreatDoor
open Tryz
open Go.RowKit Go.Shelf
def wpV (P:Program) (c:Code) (Q:Exit->Act->World->Prop) (a:Act) (w:World):Prop:=
 ∀ (b:Frame) (k:List Item) (cs:List Frame),(P.funcs[b.fn]?).isSome=true->∃ e a' w',Q e a' w'/\Arrives P (lone (b.at a (.code c::k)) cs w) b k cs e a' w'
section
variable {P:Program} {Q:Exit->Act->World->Prop} {a:Act} {w:World}
theorem zuS{c:Code}(h:c.wp P Q a w):wpV P c Q a w:=fun b k cs _=>h b k cs
theorem zx9{x y:Code}(h:wpV P x (Exit.then (wpV P y Q) Q) a w):wpV P (Code.seq x y) Q a w:=by
 intro b k cs hv;obtain ⟨e,a₁,w₁,hq,bj⟩:=h b (.code y::k) cs hv;cases e with
 |normal=>
  obtain ⟨e₂,a₂,w₂,hq₂,harr₂⟩:=hq b k cs hv;exact ⟨e₂,a₂,w₂,hq₂,.of_steps (.head step_seq bj) harr₂⟩
 |exit id=>exact ⟨_,a₁,w₁,hq,.of_steps (.one step_seq) (.pass (x:=.code y) rfl (fun _ _=>.inl (by simp)) bj)⟩
 |goto l=>exact ⟨_,a₁,w₁,hq,.of_steps (.one step_seq) (.pass (x:=.code y) rfl (fun _ _=>.inl (by simp)) bj)⟩
 |ret=>exact ⟨_,a₁,w₁,hq,.of_steps (.one step_seq) (.pass (x:=.code y) rfl (fun _ _=>.inl (by simp)) bj)⟩
 |panic ch=>exact ⟨_,a₁,w₁,hq,.of_steps (.one step_seq) (.pass (x:=.code y) rfl (fun _ _=>.inl (by simp)) bj)⟩
 |outgrown=>exact ⟨_,a₁,w₁,hq,.of_steps (.one step_seq) (.pass (x:=.code y) rfl (fun _ _=>.inl (by simp)) bj)⟩
theorem zfl{x y:Code}(h:∀ K:Act->World->Prop,(∀ a w,wpV P y Q a w->K a w)->x.wp P (Exit.then K Q) a w):wpV P (Code.seq x y) Q a w:=zx9 (zuS (h _ fun _ _ h=>h))
theorem zks{id:Nat}{c:Code}(h:wpV P c (Exit.inBlock id Q) a w):wpV P (Code.block id c) Q a w:=by
 intro b k cs hv;obtain ⟨e,a₁,w₁,hq,bj⟩:=h b (.inBlock id::k) cs hv;cases e with
 |normal=>exact ⟨.normal,a₁,w₁,hq,.head step_block (Steps.trans bj (.one step_inBlock))⟩
 |exit id'=>
  by_cases hid:id'=id
  ·simp only[Exit.inBlock,hid,if_true]at hq;exact ⟨.normal,a₁,w₁,hq,.head step_block (bj k (by simp[exitTo,hid]))⟩
  ·simp only[Exit.inBlock,hid,if_false]at hq;refine ⟨.exit id',a₁,w₁,hq,fun k' hk=>.head step_block (bj k' ?_)⟩;have:(id == id')=false:=by simp;exact fun h=>hid h.symm
   simp[exitTo,this,hk]
 |goto l=>exact ⟨_,a₁,w₁,hq,fun k' hk=>.head step_block (bj k' (by simp[gotoIn,hk]))⟩
 |ret=>exact ⟨_,a₁,w₁,hq,.of_steps (.one step_block) bj⟩
 |panic ch=>exact ⟨_,a₁,w₁,hq,.of_steps (.one step_block) bj⟩
 |outgrown=>exact ⟨_,a₁,w₁,hq,.of_steps (b:=b) (k:=k) (cs:=cs) (e:=.outgrown) (.one step_block) bj⟩
theorem zwI{c:Code}(I:Nat->Act->World->Prop)(n₀:Nat)(h₀:I n₀ a w)(round:∀ n a w,I n a w->wpV P c (Exit.then (fun a' w'=>∃ n',n' < n/\I n' a' w') Q) a w):wpV P (Code.loop c) Q a w:=by
 intro b k cs hv;have key:∀ n a w,I n a w->∃ e a' w',Q e a' w'/\Arrives P (lone (b.at a (.code c::.inLoop c::k)) cs w) b k cs e a' w':=by
  intro n
  induction n using Nat.strongRecOn with
  |_ n ih=>
   intro a w hI;obtain ⟨e,a₁,w₁,hq,bj⟩:=round n a w hI b (.inLoop c::k) cs hv;cases e with
   |normal=>
    obtain ⟨n',aj,hI₁⟩:=hq;obtain ⟨e₂,a₂,w₂,hq₂,harr₂⟩:=ih n' aj a₁ w₁ hI₁;exact ⟨e₂,a₂,w₂,hq₂,.of_steps (Steps.trans bj (.one step_inLoop)) harr₂⟩
   |exit id=>exact ⟨_,a₁,w₁,hq,.pass (x:=.inLoop c) rfl (fun _ _=>.inl (by simp)) bj⟩
   |goto l=>exact ⟨_,a₁,w₁,hq,.pass (x:=.inLoop c) rfl (fun _ _=>.inl (by simp)) bj⟩
   |ret=>exact ⟨_,a₁,w₁,hq,.pass (x:=.inLoop c) rfl (fun _ _=>.inl (by simp)) bj⟩
   |panic ch=>exact ⟨_,a₁,w₁,hq,.pass (x:=.inLoop c) rfl (fun _ _=>.inl (by simp)) bj⟩
   |outgrown=>exact ⟨_,a₁,w₁,hq,.pass (x:=.inLoop c) rfl (fun _ _=>.inl (by simp)) bj⟩
 obtain ⟨e,a',w',hq,bj⟩:=key n₀ a w h₀;exact ⟨e,a',w',hq,.of_steps (.one step_loop) bj⟩
theorem zsn{c:Code}(I:Nat->Act->World->Prop)(n₀:Nat)(h₀:I n₀ a w)(round:∀ n a w,I n a w->∀ K:Act->World->Prop,(∀ a' w',(∃ n',n' < n/\I n' a' w')->K a' w')->wpV P c (Exit.then K Q) a w):wpV P (Code.loop c) Q a w:=
 zwI I n₀ h₀ fun n a w h=>round n a w h _ fun _ _ q=>q
def zrR (P:Program) (l:Nat) (Q:Exit->Act->World->Prop) (a':Act):Ending->World->Prop
 |.returned _,w₃=>∃ w₄,(Instr.endLoop l).run P w₃=.ok none w₄/\Q .normal a' w₄
 |.panicked chain,w₃=>Q (.panic chain) a' w₃
 |.outgrown,_=>False
variable {assign body:Code}
theorem zng{g:Operand}{ps:Array Tmp}(h:∀ fn,(P.funcs[fn]?).isSome=true->∃ (l:Nat) (mark:List Deferred) (w₁:World) (d:Deferred) (w₁':World) (f:FuncId) (args:Array Value) (w₂:World),
   (Instr.enterLoop fn a.tmps ps assign body none).run P w=.ok (l,mark) w₁/\(resolve a.eval (rangeCall g l) 0).run P w₁=.ok d w₁'/\(invoke d.target d.args).run P w₁'=.ok (.enter f args) w₂ /\
   Calls P f args w₂ (zrR P l Q { a with defers:=mark++a.defers })):
  wpV P (Code.rangeFunc g ps assign body) Q a w:=by
 intro b k cs hv
 let b0:Frame:={ b with roundOf:=none }
 have aV:∀ a k,b.at a k=b0.atR a k:=fun a k=>rfl
 obtain ⟨l,mark,w₁,d,w₁',f,args,w₂,he,xZ,hinv,rU⟩:=h b.fn hv;have gR:=stepR_rangeFunc (P:=P) (b:=b0) (a:=a) (k:=k) (cs:=cs) (w:=w) he xZ hinv;obtain ⟨e,w₃,fr,hR,lD,fj,fM⟩:=rU (b0.atR { a with defers:=mark++a.defers } (.inRangeFunc l::k)::cs);cases e with
 |outgrown=>exact hR.elim
 |returned v=>
  obtain ⟨w₄,cJ,hj⟩:=hR;refine ⟨.normal,_,w₄,hj,?_⟩;rw[aV];show Steps P _ (lone (b0.atR _ k) cs w₄);refine .head gR (Steps.trans lD (.head ?_ (.one (stepR_endRangeFunc cJ))));rw[<-finish_atR_inRangeFunc l v];exact step_leave_returned fM
 |panicked chain=>
  refine ⟨.panic chain,_,w₃,hR,.inRangeFunc l::k,?_⟩;rw[aV];refine .head gR (Steps.trans lD (.one ?_));rw[aV,<-Frame.raise_atR];exact step_leave_panicked fM
variable {f:FuncId}
variable {R:Ending->World->Prop}
theorem zgQ{fn:Func}{c:Code}{args:Array Value}(hf:P.funcs[f]?=some fn)(hb:fn.body=some c)(h:wpV P c (bodyPostM Fence.wide 0 P fn R) { tmps:=args++Array.replicate (fn.ntmps-args.size) undef,defers:=[] } w):Calls P f args w R:=by
 intro cs
 let b:Frame:={ (default:Frame) with fn:=f,kind:=.normal,roundOf:=none }
 have gR:Frame.enter P f args .normal=b.at { tmps:=args++Array.replicate (fn.ntmps-args.size) undef,defers:=[] } [.code c]:=by
  simp[Frame.enter,Frame.at,hf,hb,b]
 obtain ⟨e,a',w',hq,bj⟩:=h b [] cs (by show (P.funcs[f]?).isSome=true;rw[hf];rfl);rw[<-gR]at bj;have hF:Fence.wide.fn b.fn:=trivial;have hr:Fence.wide.room (cs.length+1+0):=room_wide _;cases e with
 |normal=>
  obtain ⟨e',tR,rh,hR,hs,fj,hl⟩:=leaves_stepsInM a'.defers .returning w' { b.at a' [] with mode:=.returning } cs rfl rfl rfl hf rfl hF hr hq;exact ⟨e',tR,rh,hR,Comes.of_steps (Steps.trans bj (.one step_end)) (comesIn_wide.1 hs),fj,hl⟩
 |ret=>
  obtain ⟨todo,hs₀⟩:=bj;obtain ⟨e',tR,rh,hR,hs,fj,hl⟩:=leaves_stepsInM a'.defers .returning w' { b.at a' todo with mode:=.returning } cs rfl rfl rfl hf rfl hF hr hq;exact ⟨e',tR,rh,hR,Comes.of_steps hs₀ (comesIn_wide.1 hs),fj,hl⟩
 |panic chain=>
  obtain ⟨todo,hs₀⟩:=bj;obtain ⟨e',tR,rh,hR,hs,fj,hl⟩:=leaves_stepsInM a'.defers (.panicking chain) w' { b.at a' todo with mode:=.panicking chain } cs rfl rfl rfl hf rfl hF hr hq;exact ⟨e',tR,rh,hR,Comes.of_steps hs₀ (comesIn_wide.1 hs),fj,hl⟩
 |exit id=>exact hq.elim
 |goto l=>exact hq.elim
 |outgrown=>exact ⟨.outgrown,w',b,hq,bj.resolve_left (by simp[b]),rfl,trivial⟩
end
def bodyP (B:Nat) (J:Nat->World->Prop) (Jx:List PanicEntry->World->Prop) (i:Nat) (W2:World):Exit->Act->World->Prop
 |.normal,_,W3=>J (i+1) W3/\W3.heap[B]?=W2.heap[B]?/\W3.heap[B+1]?=W2.heap[B+1]?
 |.panic ch,a,W3=>a.defers=[]/\Jx ch W3/\W3.heap[B]?=W2.heap[B]?
 |_,_,_=>False
variable {assign body:Code}
variable {w:World}
variable {cb cap:Nat}
theorem zuT{p:Nat}{g:Operand}{Q:Exit->Act->World->Prop}{a:Act}{Bn:Nat}{vs:List Value}(hg:a.eval g=.func (.func 206) #[] #[.pointer (some ⟨Bn,0,none⟩)])(dJ:vs.length<=1000000000)(J:Nat->World->Prop)(Jx:List PanicEntry->World->Prop)(hall:∀ i W o,J i W->J i (W.alloc o))(hput:∀ i W l x o,J i W->w.heap.size<=l->W.heap[l]?=some x->(∀ cs t f,x≠.cells cs t f)->J i (W.putObj l o))(h0:J 0 w)(hJc:∀ i W,J i W->W.cell? ⟨Bn,0,none⟩=some (.slice (some ⟨cb,0,none⟩) vs.length cap)/\∀ j v,vs[j]?=some v->W.cell? ⟨cb,j,none⟩=some v)(hround:∀ l i v W,J i W->vs[i]?=some v->assign.wpIn (Fence.wide.inRound l) 0 prog (Exit.then (fun a₁ W₁=>W₁=W/\∀ W2,J i W2->W2.heap[w.heap.size]?=some (.deferred (some []))->(∃ r,W2.heap[w.heap.size+1]?=some (.loop r)) ->
   body.wpIn (Fence.wide.inRound l) 0 prog (bodyP w.heap.size J Jx i W2) a₁ W2) (fun _ _ _=>False)) { tmps:=a.tmps.setIfInBounds p v,defers:=[] } W)(hdone:∀ W,J vs.length W->W.heap[w.heap.size]?=some (.deferred (some []))->Q .normal { a with defers:={ target:=.collected w.heap.size,args:=#[] }::a.defers } W)(hpan:∀ ch W,Jx ch W->W.heap[w.heap.size]?=some (.deferred (some []))->Q (.panic ch) { a with defers:={ target:=.collected w.heap.size,args:=#[] }::a.defers } W):
  wpV prog (Code.rangeFunc g #[p] assign body) Q a w:=by
 refine zng ?_;intro fn fj;obtain ⟨fd,oW⟩:=Option.isSome_iff_exists.1 fj;obtain ⟨rec,de⟩:∃ rec:LoopState->Option Code->Loop,rec=fun st pe=>{ state:=st,pending:=pe,fn,tmps:=a.tmps,params:=#[p],assign,body,defers:=w.heap.size }:=⟨_,rfl⟩
 obtain ⟨W1,eG⟩:∃ W1,(w.alloc (.deferred (some []))).alloc (.loop (rec .ready none))=W1:=⟨_,rfl⟩;have wV:W1.heap[w.heap.size+1]?=some (.loop (rec .ready none)):=by
  rw[<-eG];have:=World.alloc_heap_new (w.alloc (.deferred (some []))) (.loop (rec .ready none));rwa [World.size_alloc]at this
 have oN:W1.heap[w.heap.size]?=some (.deferred (some [])):=by
  rw[<-eG];exact (Below.heap_alloc _ _ _ (by simp)).trans (World.alloc_heap_new w _)
 have wQ:J 0 W1:=by rw[<-eG];exact hall _ _ _ (hall _ _ _ h0)
 have eg:∀ args w,(callFunc 206 args).run prog w=.ok (.enter 206 args) w:=enters_of func206 (by kernel_rfl) rfl;refine ⟨w.heap.size+1,[{ target:=.collected w.heap.size,args:=#[] }],W1,{ target:=.fn (.func 206) #[.pointer (some ⟨Bn,0,none⟩)],args:=#[.func (.yield (w.heap.size+1)) #[] #[]] },W1,206,
  #[.func (.yield (w.heap.size+1)) #[] #[],.pointer (some ⟨Bn,0,none⟩)],W1,?_,?_,?_,?_⟩
 ·rw[<-eG,de];exact run_enterLoop_outer _ _ _ _ _
 ·simp only[resolve,hg];simp[go_sem]
 ·simp[invoke,go_sem,eg]
 ·refine (callsIn_wide.1 (zsj (w.heap.size+1) Bn cb cap vs dJ (fun i W=>J i W/\W.heap[w.heap.size+1]?=some (.loop (rec .ready none))/\W.heap[w.heap.size]?=some (.deferred (some [])))
   (fun ch W=>Jx ch W/\W.heap[w.heap.size]?=some (.deferred (some []))) ?_ (fun i W hW=>hJc i W hW.1) W1 ⟨wQ,wV,oN⟩)).mono ?_
  ·rintro i v W ⟨hi,hl,hk⟩ hv;have aj:w.heap.size+1<W.heap.size:=(zyY.1 hl).1;have hy:=run_yield (P:=prog) (args:=#[v]) hl (by rw[de];rfl);rw[de]at hy;have et:(((#[p]:Array Tmp).zip #[v]).foldl (fun tmps (t,a)=>tmps.setIfInBounds t a) a.tmps)=a.tmps.setIfInBounds p v:=by simp
   simp only at hy;rw[et]at hy;refine ⟨fn,_,assign,body,hy,zkH trivial oW ?_⟩;have hr:=hround (w.heap.size+1) i v W hi hv;refine wpIn_mono hr ?_;rintro e a1 oG hp;cases e with
   |normal=>
    obtain ⟨rfl,iE⟩:=hp;refine ⟨_,run_beginRound hl (by rw[de]),?_⟩;have aC:(oG.putObj (w.heap.size+1) (.loop { rec .ready none with state:=.busy })).heap[w.heap.size+1]?=some (.loop { rec .ready none with state:=.busy }):=World.putObj_heap_same aj;have aG:(oG.putObj (w.heap.size+1) (.loop { rec .ready none with state:=.busy })).heap[w.heap.size]?=some (.deferred (some [])):=(World.putObj_heap_other (by omega)).trans hk;refine wpIn_mono (iE _ (hput i oG _ _ _ hi (by omega) hl (by simp)) aG ⟨_,aC⟩) ?_;rintro e3 a3 W3 j4;cases e3 with
    |normal=>
     obtain ⟨gP,dG,cW⟩:=j4;rw[aG]at dG;rw[aC]at cW;have cJ:=run_endRound (P:=prog) none cW;refine ⟨_,_,cJ,.inl ⟨rfl,hput _ W3 _ _ _ gP (by omega) cW (by simp),?_,(World.putObj_heap_other (by omega)).trans dG⟩⟩;rw[World.putObj_heap_same (zyY.1 cW).1,de];rfl
    |panic ch=>
     obtain ⟨Em,gP,dG⟩:=j4;rw[aG]at dG;exact ⟨Em,.inr ⟨ch,rfl,gP,dG⟩⟩
    |ret=>exact j4.elim
    |exit id=>exact j4.elim
    |goto t=>exact j4.elim
    |outgrown=>exact j4.elim
   |panic ch=>exact hp.elim
   |ret=>exact hp.elim
   |exit id=>exact hp.elim
   |goto t=>exact hp.elim
   |outgrown=>exact hp.elim
  ·rintro e W2 (⟨v,rfl,hi,hl,hk⟩|⟨ch,rfl,hx,hk⟩)
   ·refine ⟨_,by have:=run_endLoop (P:=prog) hl (by rw[de];simp);rw[de]at this;exact this,hdone _ (hput _ _ _ _ _ hi (by omega) hl (by simp)) ((World.putObj_heap_other (by omega)).trans hk)⟩
   ·exact hpan ch W2 hx hk
end Go.Proofs.YtgahgkddaljmkaaGreatDoor
namespace Go.Proofs.YtgahgkddaljmkaaGreatDoor
open Tryz
open Go.RowKit
variable {m m':MSt}
variable {c:Nat}
theorem zb4{f:MSt->Option (Except Nat MSt)}(hf:∀ m1,f m1=some (.ok m')->m'.o.pb=m1.o.pb)(h:aft (m.zdI c) f=some (.ok m')):m'.o.pb=m.o.pb:=by
 unfold aft at h;split at h
 ·cases h
 ·cases h
 ·next m1 hn=>rw[hf m1 h,zqH hn]
theorem zha{s:Option Sto}(h:m.put s=some (.ok m')):m'.o.pb=m.o.pb:=by
 unfold MSt.put at h;cases s with
 |none=>cases h
 |some q=>cases h;rfl
theorem zco{v:Int}(h:m.zau v=some (.ok m')):m'.o.pb=m.o.pb:=zb4 (fun _ h1=>zha h1) h
theorem zl6{hd:Int}(h:m.build hd c=some (.ok m')):m'.o.pb=m.o.pb:=by
 unfold MSt.build at h;refine zb4 (fun m1 h1=>?_) h
 first
  |exact zha h1
  |(split at h1 <;> first|exact zha h1|cases h1)
theorem zik{b:Bool}(h:m.zcN b=some (.ok m')):m'.o.pb=m.o.pb:=zl6 h
theorem zrj{sg:ByteArray}(h:m.compute sg=some (.ok m')):m'.o.pb=m.o.pb:=by
 unfold MSt.compute at h;split at h
 ·cases h
 ·cases h
 ·split at h
  ·cases h
  ·cases h
  ·split at h
   ·cases h
   ·next s1 hs=>
    unfold MSt.calc at h;split at h
    ·(have:=zco h;exact this)
    ·split at h
     ·(have:=zco h;exact this)
     ·split at h
      ·(have:=zco h;exact this)
      ·split at h
       ·split at h
        ·cases h
        ·(have:=zco h;exact this)
       ·split at h
        ·(have:=zik h;exact this)
        ·split at h
         ·(have:=zik h;exact this)
         ·cases h
theorem zu9(h:m.zdy=some (.ok m')):m'.o.pb=m.o.pb:=by
 unfold MSt.zdy at h;split at h
 ·cases h
 ·refine zb4 (fun m1 h1=>?_) h;simp only[zyX,zAb,exists_eq_right]at h1;unfold MSt.begun at h1;split at h1
  ·cases h1
  ·split at h1
   ·cases h1
   ·split at h1
    ·cases h1
    ·split at h1
     ·cases h1
     ·split at h1
      ·cases h1
      ·split at h1
       ·cases h1
       ·cases h1;rfl
theorem zxe{a b:Nat}(h:m.call a b=some (.ok m')):m'.o.pb=m.o.pb:=by
 unfold MSt.call at h;split at h
 ·cases h
 ·refine zb4 (fun m1 h1=>?_) h;simp only[zyX,zAb,exists_eq_right]at h1;unfold MSt.called at h1;split at h1
  ·cases h1
  ·split at h1
   ·cases h1
   ·split at h1
    ·cases h1
    ·split at h1
     ·cases h1
     ·split at h1
      ·cases h1
      ·split at h1
       ·cases h1
       ·split at h1
        ·cases h1
        ·cases h1;rfl
variable {sl:List Nat}
theorem zi1{b:Bool}(h:m.za5 sl c=some (.ok (b,m'))):m'.o.pb=m.o.pb:=by
 unfold MSt.za5 at h;split at h
 ·cases h
 ·split at h
  ·cases h
  ·split at h
   ·cases h
   ·split at h
    ·split at h
     ·cases h
     ·cases h
     ·next hx=>cases h;rw[zqt hx]
    ·split at h
     ·cases h
     ·split at h
      ·cases h
      ·cases h
      ·next hx=>cases h;exact zxe hx
theorem zji{sl:List Nat}:∀ {g:Nat} {m m':MSt},MSt.za1 sl g m=some (.ok m')->m'.o.pb=m.o.pb
 |0,_,_,h=>by cases h
 |g+1,m,m',h=>by
  rw[MSt.za1]at h;split at h
  ·cases h;rfl
  ·split at h
   ·cases h
   ·split at h
    ·cases h
    ·split at h
     ·split at h
      ·cases h
      ·(have:=zji h;exact this)
     ·split at h
      ·split at h
       ·cases h
       ·simp only[zyX,zAb]at h;obtain ⟨s',_,rfl⟩:=h;rfl
      ·split at h
       ·split at h
        ·cases h
        ·cases h
        ·next q hq=>
         obtain ⟨b,m2⟩:=q;split at h
         ·cases h;exact zi1 hq
         ·rw[zji h];exact zi1 hq
       ·cases h
theorem zlm{a:Nat}(h:m.zcy sl a=some (.ok m')):m'.o.pb=m.o.pb:=by
 unfold MSt.zcy at h;split at h
 ·cases h
 ·split at h
  ·cases h
  ·split at h
   ·cases h
   ·split at h
    ·exact zu9 h
    ·exact zji h
theorem zqo(h:m.enter sl=some (.ok m')):m'.o.pb=m.o.pb:=by
 unfold MSt.enter at h;split at h
 ·cases h
 ·split at h
  ·split at h
   ·cases h
   ·(have:=zlm h;exact this)
  ·exact zlm h
theorem zwk{b:Nat}(h:m.split c b=some (.ok m')):m'.o.pb=m.o.pb:=by
 unfold MSt.split at h;split at h
 ·cases h
 ·split at h
  ·refine zb4 (fun m1 h1=>?_) h;simp only[zyX,zAb,exists_eq_right]at h1;unfold MSt.zqM at h1;split at h1
   ·cases h1
   ·split at h1
    ·cases h1
    ·split at h1
     ·cases h1
     ·split at h1
      ·cases h1
      ·cases h1;rfl
  ·cases h
theorem znw{m m':MSt}{y:Int}:∀ {zao:List (Nat × Nat × Nat)},m.zcc y zao=some (.ok m')->m'.o.pb=m.o.pb
 |[],h=>by cases h
 |(t,c,b)::l,h=>by
  rw[MSt.zcc]at h;split at h
  ·exact zwk h
  ·exact znw h
variable {i:Ins}
theorem zxT(h:m.step sl i=some (.ok m')):m'.o.pb=m.o.pb:=by
 cases i with
 |push k=>
  refine zb4 (fun m1 h1=>?_) h;split at h1
  ·cases h1
  ·split at h1
   ·cases h1
   ·exact zha h1
 |zcW f=>
  refine zb4 (fun m1 h1=>?_) h;split at h1
  ·cases h1
  ·exact zha h1
 |num x=>exact zco h
 |pack t c=>
  simp only[MSt.step,MSt.pack]at h;split at h
  ·exact zl6 h
  ·cases h
 |close b c=>
  simp only[MSt.step,MSt.pack]at h;split at h
  ·exact zl6 h
  ·cases h
 |hold b c=>
  simp only[MSt.step,MSt.hold]at h;split at h
  ·exact zb4 (fun m1 h1=>zha h1) h
  ·cases h
 |fill k c=>
  simp only[MSt.step,MSt.zln]at h;split at h
  ·cases h
  ·split at h
   ·cases h
   ·split at h
    ·cases h
    ·split at h
     ·cases h
     ·split at h
      ·exact zha h
      ·cases h
 |wait b=>
  simp only[MSt.step,MSt.zcH]at h;split at h
  ·exact zb4 (fun m1 h1=>zha h1) h
  ·cases h
 |zbF c=>
  simp only[MSt.step,MSt.zcH]at h;split at h
  ·exact zb4 (fun m1 h1=>zha h1) h
  ·cases h
 |zci c=>
  simp only[MSt.step,zyX,zAb,exists_eq_right]at h;unfold MSt.zci at h;split at h
  ·cases h;rfl
  ·cases h
 |zbX=>
  simp only[MSt.step,zyX]at h;obtain ⟨q,_,h2⟩:=h;cases q with
  |error k=>cases h2
  |ok v=>cases h2;rfl
 |comp sg=>exact zrj h
 |enter=>exact zqo h
 |jump b=>cases h;rfl
 |choose zao=>
  simp only[MSt.step,MSt.choose]at h;split at h
  ·cases h
  ·split at h
   ·exact znw h
   ·cases h
theorem zxb(h:m.zsJ=.ok m'):m'.o.pb=m.o.pb:=by
 unfold MSt.zsJ at h;split at h
 ·cases h
 ·cases h;rfl
end Go.Proofs.YtgahgkddaljmkaaGreatDoor
