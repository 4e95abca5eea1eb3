/- Cmp33 .. Cmp42 -/
import Derived.Test.YtgahgkddaljmkaaGreatDoorT10
set_option maxRecDepth 100000
set_option maxHeartbeats 4000000
namespace Go.Proofs.YtgahgkddaljmkaaGreatDoor
open Tryz
open Go.RowKit Go.Shelf
attribute [local go_sem ↓] Go.wp_at_zero Go.wp_at_succ
variable {Z:Nat->Prop}{w:World}{cb bb:Nat}{rv sv kv:Value}{fns:List Cp.Nm}{q:Cp.Bs}
theorem BS.zx8(h:BS Z w cb bb rv sv kv fns q)(o:Obj):BS (fun k=>Z k\/k=w.heap.size) (w.alloc o) cb bb rv sv kv fns q:=by
 refine (h.fr0 ((Fr.refl _ _).alloc _)).more (fun k hk=>⟨by rw[World.size_alloc];omega,?_⟩);rintro (e|e|e|e|e)
 ·have:=h.clt;omega
 ·have:=h.zbY.lt;omega
 ·have:=h.rlt k e;omega
 ·have:=h.slt k e;omega
 ·have:=h.klt k e;omega
theorem Did.out1{w':World}{q':Cp.Bs}{o:Obj}(d:Did (fun k=>Z k\/k=w.heap.size) (w.alloc o) cb bb rv sv kv fns q' w'):Did Z w cb bb rv sv kv fns q' w':=by
 have f:Fr (fun _=>False) w (w.alloc o):=(Fr.refl _ _).alloc _;obtain ⟨Z',aO,sv',bG,z,b,f1,n1,n2,n3⟩:=d;refine ⟨Z',aO,sv',bG,fun k hk=>?_,b,(f.mono (fun _ x=>x.elim)).trans f1,New.trans (New.refl w rv) n1 f.size,New.trans (New.refl w sv) n2 f.size,New.trans (New.refl w kv) n3 f.size⟩;rw[z k (zyS hk f.size)];constructor
 ·rintro (e|e)
  ·exact e
  ·omega
 ·exact .inl
variable {M N n pn pc:Nat}{pp:Option Addr}{bt:TypeId}{bx:Value}{q1:Cp.Bs}{e:Th.Ex}
theorem zvN(hW:zbi M N n)(h:BS Z w cb bb rv sv kv fns q)(hr:Rep Z w n (.iface bt bx) e)(dq:∀ Z1 W,(∀ k,Z k->Z1 k)->Fr (fun _=>False) w W->BS Z1 W cb bb rv sv kv fns q->Calls prog 162 #[.pointer (some ⟨bb,0,none⟩),.agg #[.bool true,.slice pp pn pc,.iface bt bx]] W fun r w'=>r=.returned (.tuple #[])/\Did Z1 W cb bb rv sv kv fns q1 w')(hf:Fit M N fns q1 e)(hb:(M+8)*Cp.wt N e<=1000000000):
  Calls prog 94 #[.pointer (some ⟨bb,0,none⟩),.agg #[.bool true,.slice pp pn pc,.iface bt bx],.int .i64 0] w fun r w'=>r=.returned (.tuple #[])/\Did Z w cb bb rv sv kv fns (Cp.work (Cp.free N) fns n e 0 q1) w':=by
 have f0:Fr (fun _=>False) w (w.alloc (.cells #[.bool true,.slice pp pn pc,.iface bt bx] 178)):=(Fr.refl _ _).alloc _;have aA:=h.zx8 (.cells #[.bool true,.slice pp pn pc,.iface bt bx] 178);have CB:=zab (dq _ _ (fun k hk=>.inl hk) f0 aA);have dS:=zab (Blk.new w [.bool true,.slice pp pn pc,.iface bt bx] 178);have cB:=zab aA;have HR:=zab ((hr.fr0 f0).mono (fun k _ hk=>(Or.inl hk:Z k\/k=w.heap.size)));have HW:=zab hW;have HF:=zab (And.intro hf hb);clear h hr dq hf hb hW f0 aA;go_enter func94,ntmps94
 go_wp2_with fail
 refine CB.o.mono ?_;rintro r w1 ⟨rfl,Z1,bh,bf,cA,z1,b1,f1,n1,n2,n3⟩;have cN:=cB.o.box f1 z1 dS.o (.inr rfl);have e2:=Blk.cell cN.1 2;simp at e2;have CK:=zab (HW.o (below:=0) b1 (cB.o.rep f1 z1 HR.o) HF.o.1 (by simpa using HF.o.2));have X:=zab (And.intro z1 (And.intro f1 (And.intro n1 (And.intro n2 n3))));clear z1 b1 f1 n1 n2 n3 cN CB;go_wp2_with fail
 refine CK.o.mono ?_;rintro r w2 ⟨rfl,hd⟩;have HD:=zab hd;clear hd CK e2;go_wp2_with fail
 first|go_end0|refine bodyPost_ret (results_none rfl _ _ _) rfl ?_
 refine ⟨rfl,Did.out1 (o:=.cells #[.bool true,.slice pp pn pc,.iface bt bx] 178) ?_⟩;obtain ⟨z,f,n1,n2,n3⟩:=X.o;exact Did.trans z f n1 n2 n3 HD.o
theorem zrA(hW:zbi M N n)(h:BS Z w cb bb rv sv kv fns q)(hr:Rep Z w n (.iface bt bx) e)(dq:∀ Z1 W,(∀ k,Z k->Z1 k)->Fr (fun _=>False) w W->BS Z1 W cb bb rv sv kv fns q->Calls prog 163 #[.pointer (some ⟨bb,0,none⟩),.agg #[.bool false,.slice pp pn pc,.iface bt bx]] W fun r w'=>r=.returned (.tuple #[])/\Did Z1 W cb bb rv sv kv fns q1 w')(hf:Fit M N fns q1 e)(hb:(M+8)*Cp.wt N e<=1000000000):
  Calls prog 94 #[.pointer (some ⟨bb,0,none⟩),.agg #[.bool false,.slice pp pn pc,.iface bt bx],.int .i64 0] w fun r w'=>r=.returned (.tuple #[])/\Did Z w cb bb rv sv kv fns (Cp.work (Cp.free N) fns n e 0 q1) w':=by
 have f0:Fr (fun _=>False) w (w.alloc (.cells #[.bool false,.slice pp pn pc,.iface bt bx] 178)):=(Fr.refl _ _).alloc _;have aA:=h.zx8 (.cells #[.bool false,.slice pp pn pc,.iface bt bx] 178);have CB:=zab (dq _ _ (fun k hk=>.inl hk) f0 aA);have dS:=zab (Blk.new w [.bool false,.slice pp pn pc,.iface bt bx] 178);have cB:=zab aA;have HR:=zab ((hr.fr0 f0).mono (fun k _ hk=>(Or.inl hk:Z k\/k=w.heap.size)));have HW:=zab hW;have HF:=zab (And.intro hf hb);clear h hr dq hf hb hW f0 aA;go_enter func94,ntmps94
 go_wp2_with fail
 refine CB.o.mono ?_;rintro r w1 ⟨rfl,Z1,bh,bf,cA,z1,b1,f1,n1,n2,n3⟩;have cN:=cB.o.box f1 z1 dS.o (.inr rfl);have e2:=Blk.cell cN.1 2;simp at e2;have CK:=zab (HW.o (below:=0) b1 (cB.o.rep f1 z1 HR.o) HF.o.1 (by simpa using HF.o.2));have X:=zab (And.intro z1 (And.intro f1 (And.intro n1 (And.intro n2 n3))));clear z1 b1 f1 n1 n2 n3 cN CB;go_wp2_with fail
 refine CK.o.mono ?_;rintro r w2 ⟨rfl,hd⟩;have HD:=zab hd;clear hd CK e2;go_wp2_with fail
 first|go_end0|refine bodyPost_ret (results_none rfl _ _ _) rfl ?_
 refine ⟨rfl,Did.out1 (o:=.cells #[.bool false,.slice pp pn pc,.iface bt bx] 178) ?_⟩;obtain ⟨z,f,n1,n2,n3⟩:=X.o;exact Did.trans z f n1 n2 n3 HD.o
variable {t1:TypeId}{x1:Value}
theorem zuO{below:Int}{t2:TypeId}{x2:Value}(hc:∀ W,Fr (fun _=>False) w W->Calls prog 87 #[.pointer (some ⟨bb,0,none⟩),.agg #[.iface t1 x1,.iface t2 x2],.int .i64 below] W fun r w'=>r=.returned (.tuple #[])/\Did Z W cb bb rv sv kv fns q1 w'):
  Calls prog 54 #[.pointer (some ⟨bb,0,none⟩),.iface 163 (.agg #[.iface t1 x1,.iface t2 x2]),.int .i64 below] w fun r w'=>r=.returned (.tuple #[])/\Did Z w cb bb rv sv kv fns q1 w':=by
 obtain ⟨i0,-⟩:=zG1;have F0:Hid (Fr (fun _=>False) w (w.alloc (.cells #[.iface t1 x1,.iface t2 x2] 163))):=zab ((Fr.refl _ _).alloc _);have CC:=zab (hc _ F0.o);clear hc;go_enter func54,ntmps54
 go_wp2_with fail
 refine CC.o.mono ?_;rintro r w1 ⟨rfl,hd⟩;have HD:=zab (Did.fr0 F0.o hd);clear hd CC i0;go_wp2_with fail
 first|go_end0|refine bodyPost_ret (results_none rfl _ _ _) rfl ?_
 exact ⟨rfl,HD.o⟩
variable {r:Bool}
theorem zq0{below:Int}(hc:∀ W,Fr (fun _=>False) w W->Calls prog 94 #[.pointer (some ⟨bb,0,none⟩),.agg #[.bool r,.slice pp pn pc,.iface bt bx],.int .i64 below] W fun r w'=>r=.returned (.tuple #[])/\Did Z W cb bb rv sv kv fns q1 w'):
  Calls prog 54 #[.pointer (some ⟨bb,0,none⟩),.iface 178 (.agg #[.bool r,.slice pp pn pc,.iface bt bx]),.int .i64 below] w fun r w'=>r=.returned (.tuple #[])/\Did Z w cb bb rv sv kv fns q1 w':=by
 obtain ⟨i3,-,-,-,i0,i1,i2,-⟩:=zG5;have F0:Hid (Fr (fun _=>False) w (w.alloc (.cells #[.bool r,.slice pp pn pc,.iface bt bx] 178))):=zab ((Fr.refl _ _).alloc _);have CC:=zab (hc _ F0.o);clear hc;go_enter func54,ntmps54
 go_wp2_with fail
 refine CC.o.mono ?_;rintro r w1 ⟨rfl,hd⟩;have HD:=zab (Did.fr0 F0.o hd);clear hd CC i0 i1 i2 i3;go_wp2_with fail
 first|go_end0|refine bodyPost_ret (results_none rfl _ _ _) rfl ?_
 exact ⟨rfl,HD.o⟩
variable {below:Nat}{x:Value}
theorem zp7(uF:below<=1000000000)(hl:q1.code.length+1<=1000000000)(hc:Calls prog 95 #[.pointer (some ⟨bb,0,none⟩),.iface 217 x] w fun r w'=>r=.returned (.tuple #[])/\Did Z w cb bb rv sv kv fns q1 w'):
  Calls prog 54 #[.pointer (some ⟨bb,0,none⟩),.iface 217 x,.int .i64 below] w fun r w'=>r=.returned (.tuple #[])/\Did Z w cb bb rv sv kv fns (q1.ends (below+1) .enter) w':=by
 obtain ⟨-,-,-,i0,i1,i3,i2,-⟩:=zGX;have CC:=zab hc;clear hc;go_enter func54,ntmps54
 go_wp2_with fail
 refine CC.o.mono ?_;rintro r w1 ⟨rfl,Z1,bh,bf,cA,z1,b1,f1,n1,n2,n3⟩;have CE:=zab (zgS (c:=below+1) (i:=.enter) b1 rfl hl);have X:=zab (And.intro z1 (And.intro f1 (And.intro n1 (And.intro n2 n3))));clear z1 b1 f1 n1 n2 n3 CC i0 i1 i2 i3;rw[show ((below+1:Nat):Int)=(below:Int)+1 by omega]at CE;go_wp2_with fail
 refine CE.o.mono ?_;rintro r w2 ⟨rfl,hd⟩;have HD:=zab hd;clear hd CE;go_wp2_with fail
 first|go_end0|refine bodyPost_ret (results_none rfl _ _ _) rfl ?_
 refine ⟨rfl,?_⟩;obtain ⟨z,f,n1,n2,n3⟩:=X.o;exact Did.trans z f n1 n2 n3 HD.o
theorem zwH(uF:below<=1000000000)(hl:q1.code.length+1<=1000000000)(hc:Calls prog 95 #[.pointer (some ⟨bb,0,none⟩),.iface 215 x] w fun r w'=>r=.returned (.tuple #[])/\Did Z w cb bb rv sv kv fns q1 w'):
  Calls prog 54 #[.pointer (some ⟨bb,0,none⟩),.iface 215 x,.int .i64 below] w fun r w'=>r=.returned (.tuple #[])/\Did Z w cb bb rv sv kv fns (q1.ends (below+1) .enter) w':=by
 obtain ⟨-,-,-,i0,i1,i3,i2,-⟩:=zG6;have CC:=zab hc;clear hc;go_enter func54,ntmps54
 go_wp2_with fail
 refine CC.o.mono ?_;rintro r w1 ⟨rfl,Z1,bh,bf,cA,z1,b1,f1,n1,n2,n3⟩;have CE:=zab (zgS (c:=below+1) (i:=.enter) b1 rfl hl);have X:=zab (And.intro z1 (And.intro f1 (And.intro n1 (And.intro n2 n3))));clear z1 b1 f1 n1 n2 n3 CC i0 i1 i2 i3;rw[show ((below+1:Nat):Int)=(below:Int)+1 by omega]at CE;go_wp2_with fail
 refine CE.o.mono ?_;rintro r w2 ⟨rfl,hd⟩;have HD:=zab hd;clear hd CE;go_wp2_with fail
 first|go_end0|refine bodyPost_ret (results_none rfl _ _ _) rfl ?_
 refine ⟨rfl,?_⟩;obtain ⟨z,f,n1,n2,n3⟩:=X.o;exact Did.trans z f n1 n2 n3 HD.o
theorem zsl(uF:below<=1000000000)(hl:q1.code.length+1<=1000000000)(hc:Calls prog 95 #[.pointer (some ⟨bb,0,none⟩),.iface 219 x] w fun r w'=>r=.returned (.tuple #[])/\Did Z w cb bb rv sv kv fns q1 w'):
  Calls prog 54 #[.pointer (some ⟨bb,0,none⟩),.iface 219 x,.int .i64 below] w fun r w'=>r=.returned (.tuple #[])/\Did Z w cb bb rv sv kv fns (q1.ends (below+1) .enter) w':=by
 obtain ⟨-,-,-,i0,i1,i3,i2,-⟩:=zGY;have CC:=zab hc;clear hc;go_enter func54,ntmps54
 go_wp2_with fail
 refine CC.o.mono ?_;rintro r w1 ⟨rfl,Z1,bh,bf,cA,z1,b1,f1,n1,n2,n3⟩;have CE:=zab (zgS (c:=below+1) (i:=.enter) b1 rfl hl);have X:=zab (And.intro z1 (And.intro f1 (And.intro n1 (And.intro n2 n3))));clear z1 b1 f1 n1 n2 n3 CC i0 i1 i2 i3;rw[show ((below+1:Nat):Int)=(below:Int)+1 by omega]at CE;go_wp2_with fail
 refine CE.o.mono ?_;rintro r w2 ⟨rfl,hd⟩;have HD:=zab hd;clear hd CE;go_wp2_with fail
 first|go_end0|refine bodyPost_ret (results_none rfl _ _ _) rfl ?_
 refine ⟨rfl,?_⟩;obtain ⟨z,f,n1,n2,n3⟩:=X.o;exact Did.trans z f n1 n2 n3 HD.o
theorem zp6(uF:below<=1000000000)(hl:q1.code.length+1<=1000000000)(hc:Calls prog 95 #[.pointer (some ⟨bb,0,none⟩),.iface 226 x] w fun r w'=>r=.returned (.tuple #[])/\Did Z w cb bb rv sv kv fns q1 w'):
  Calls prog 54 #[.pointer (some ⟨bb,0,none⟩),.iface 226 x,.int .i64 below] w fun r w'=>r=.returned (.tuple #[])/\Did Z w cb bb rv sv kv fns (q1.ends (below+1) .enter) w':=by
 obtain ⟨-,-,-,-,i0,i1,i3,i2,-⟩:=zGW;have CC:=zab hc;clear hc;go_enter func54,ntmps54
 go_wp2_with fail
 refine CC.o.mono ?_;rintro r w1 ⟨rfl,Z1,bh,bf,cA,z1,b1,f1,n1,n2,n3⟩;have CE:=zab (zgS (c:=below+1) (i:=.enter) b1 rfl hl);have X:=zab (And.intro z1 (And.intro f1 (And.intro n1 (And.intro n2 n3))));clear z1 b1 f1 n1 n2 n3 CC i0 i1 i2 i3;rw[show ((below+1:Nat):Int)=(below:Int)+1 by omega]at CE;go_wp2_with fail
 refine CE.o.mono ?_;rintro r w2 ⟨rfl,hd⟩;have HD:=zab hd;clear hd CE;go_wp2_with fail
 first|go_end0|refine bodyPost_ret (results_none rfl _ _ _) rfl ?_
 refine ⟨rfl,?_⟩;obtain ⟨z,f,n1,n2,n3⟩:=X.o;exact Did.trans z f n1 n2 n3 HD.o
variable {blk:Nat}{l names:List Cp.Nm}{bl:List (Nat × List Ins)}
theorem zk8{sg:ByteArray}{t2:TypeId}{x2:Value}{le:Th.Ex}(h:BS Z w cb bb rv sv kv fns q)(hr:Rep Z w n (.iface t1 x1) le)(ak:∀ W,Fr (fun _=>False) w W->Calls prog 89 #[.iface t2 x2] W fun r w'=>∃ v',r=.returned v'/\Names W.heap.size w' v' l/\Fr (fun _=>False) W w')(bu:names=Cp.zai q.zac l)(aL:l.length<=1000000)(aC:q.zac.length<=1000000000)(sY:∀ Z1 W nv,(∀ k,Z k->Z1 k)->Fr (fun _=>False) w W->CS Z1 W cb rv fns q.blocks->Row Z1 W 9 1 nv names.length (strCells names)->Calls prog 91 #[.pointer (some ⟨cb,0,none⟩),.agg #[.string sg,.iface t1 x1,.iface t2 x2],nv] W fun r w'=>r=.returned (.int .i64 blk)/\zfH Z1 W cb rv fns bl w')(dj:∀ Z1 W bh bf cA nv,BS Z1 W cb bb bh bf cA fns ⟨bl,q.zac,q.code⟩->Rep Z1 W n (.iface t1 x1) le->Row Z1 W 9 1 nv names.length (strCells names)->Calls prog 90 #[.pointer (some ⟨bb,0,none⟩),.iface t1 x1,nv,.int .i64 blk,.int .i64 below] W fun r w'=>r=.returned (.tuple #[])/\Did Z1 W cb bb bh bf cA fns q1 w'):
  Calls prog 54 #[.pointer (some ⟨bb,0,none⟩),.iface 166 (.agg #[.string sg,.iface t1 x1,.iface t2 x2]),.int .i64 below] w fun r w'=>r=.returned (.tuple #[])/\Did Z w cb bb rv sv kv fns q1 w':=by
 obtain ⟨i1,-,-,-,i0,-⟩:=zGV;have f0:Fr (fun _=>False) w (w.alloc (.cells #[.string sg,.iface t1 x1,.iface t2 x2] 166)):=(Fr.refl _ _).alloc _;have CF:=zab (ak _ f0);have dS:=zab (Blk.new w [.string sg,.iface t1 x1,.iface t2 x2] 166);have F0:=zab f0;have HH:=zab h;have HR:=zab hr;have HN:=zab bu;have vU:=zab sY;have vX:=zab dj;have cV:=h.zbY.lt;clear h hr ak bu sY dj f0;go_enter func54,ntmps54
 go_wp2_with fail
 refine CF.o.mono ?_;rintro r w1 ⟨fv,rfl,bI,f1⟩;obtain ⟨fa,fn,fc,rfl⟩:=zae bI;have dN:=zab (zcl (HH.o.fr0 (F0.o.trans f1)) bI aL aC);have F1:=zab (F0.o.trans f1);have B1:=zab (Fr.blk dS.o f1 (by simp));clear CF bI f1 i0 i1;go_wp2_with fail
 refine dN.o.mono ?_;rintro r w2 ⟨nv,rfl,ay,f2⟩;rw[<-HN.o]at ay;obtain ⟨na,nn,nc,rfl⟩:=zaF ay;have F2:=zab (F1.o.trans f2);have cN:=Fr.blk B1.o f2 (by simp);have B2:=zab cN;have cZ:Hid (Names w.heap.size w2 (.slice na nn nc) names):=zab (Names.dwn (Row.zaE ay) F1.o.size);have ek:=HH.o.zp5 F2.o cZ.o;have lQ:=zab ek;have af:Row (fun k=>Z k\/(Value.slice na nn nc).ownBlock=some k) w2 9 1 (.slice na nn nc) names.length (strCells names):=⟨cZ.o.1,fun k hk=>.inr hk⟩;have CR:=zab (vU.o _ w2.drew _ (fun k hk=>.inl hk) F2.o.drew (ek.drew).cs (Row.frc af ((Fr.refl (fun _=>False) _).drew) (by simp)));have kF:=zab af;have dT:=zab ((HR.o.fr0 F2.o).mono (fun k _ hk=>(Or.inl hk:Z k\/(Value.slice na nn nc).ownBlock=some k)));have b0:=Blk.cell ek.zbY 0;have p0:=Blk.cell cN 0;have p1:=Blk.cell cN 1;have p2:=Blk.cell cN 2;simp at b0 p0 p1 p2;clear dN ay f2 cN ek af;have ga:Hid (∀ k,w.heap.size<=k->¬ KL cb bb rv sv kv k):=zab (fun k hk he=>by
  have h:=HH.o;rcases he with e|e|e|e|e
  ·have:=h.clt;omega
  ·omega
  ·have:=h.rlt k e;omega
  ·have:=h.slt k e;omega
  ·have:=h.klt k e;omega)
 go_wp2_with fail
 go_region_held3 (fun W=>W.cell? ⟨w.heap.size,0,none⟩=some (.string sg)/\W.cell? ⟨w.heap.size,1,none⟩=some (.iface t1 x1)/\W.cell? ⟨w.heap.size,2,none⟩=some (.iface t2 x2)/\W.cell? ⟨bb,0,none⟩=some (.pointer (some ⟨cb,0,none⟩))) (first|(refine ⟨?_,?_,?_,?_⟩ <;> assumption)|go_keep) (first
  |(go_at_call 91;refine CR.o.mono ?_;rintro r w3 ⟨rfl,hd⟩;obtain ⟨Z3,j8,j9,j7,z3,b3,f3,m1,m2,m3⟩:=hd.did lQ.o.drew;have X3:=zab (And.intro z3 (And.intro b3 (And.intro f3 (And.intro m1 (And.intro m2 m3)))));have CW:=zab (vX.o Z3 w3 j8 j9 j7 (.slice na nn nc) b3 (lQ.o.drew.rep f3 z3 (dT.o.fr0 ((Fr.refl (fun _=>False) _).drew))) (lQ.o.drew.row f3 z3 (Row.frc kF.o ((Fr.refl (fun _=>False) _).drew) (by simp))));have gq:=Fr.blk (a:=w2.drew) B2.o f3 (ga.o _ (zyN _));have B3:=zab gq;have qX:=Blk.cell b3.zbY 0;have tI:=Blk.cell gq 0;have tK:=Blk.cell gq 1;have yy:=Blk.cell gq 2;simp at qX tI tK yy;clear hd z3 b3 f3 m1 m2 m3 gq)
  |(go_at_call 90;refine CW.o.mono ?_;rintro r w4 ⟨rfl,hd⟩;have D4:=zab hd;obtain ⟨Z4,yA,yC,yv,z4,b4,f4,m1,m2,m3⟩:=hd;have kj:¬ KL cb bb j8 j9 j7 w.heap.size:=(fun e=>ga.o _ (zyN _) (KL.new e X3.o.2.2.2.1 X3.o.2.2.2.2.1 X3.o.2.2.2.2.2 (Blk.lt B2.o)));have iF:=Fr.blk B3.o f4 kj;have qY:=Blk.cell b4.zbY 0;have tJ:=Blk.cell iF 0;have tL:=Blk.cell iF 1;have yz:=Blk.cell iF 2;simp at qY tJ tL yz;clear z4 b4 f4 m1 m2 m3 iF kj))
 all_goals
  go_wp2_with fail
  first|go_end0|refine bodyPost_ret (results_none rfl _ _ _) rfl ?_
  refine ⟨rfl,?_⟩;have hd:Did (fun k=>Z k\/(Value.slice na nn nc).ownBlock=some k) w2.drew cb bb rv sv kv fns q1 w4:=by
   obtain ⟨z,b,f,n1,n2,n3⟩:=X3.o;exact Did.trans z f n1 n2 n3 D4.o
  obtain ⟨Z',aO,sv',bG,z,b,f,n1,n2,n3⟩:=hd;have f2:Fr (fun _=>False) w w2.drew:=F2.o.drew;refine ⟨Z',aO,sv',bG,fun k hk=>?_,b,(f2.mono (fun _ x=>x.elim)).trans f,New.trans (New.refl w rv) n1 f2.size,New.trans (New.refl w sv) n2 f2.size,New.trans (New.refl w kv) n3 f2.size⟩;rw[z k (zyS hk f2.size)];constructor
  ·rintro (e|e)
   ·exact e
   ·have:=cZ.o.2 k e;omega
  ·exact .inl
theorem zuP{le:Th.Ex}(h:BS Z w cb bb rv sv kv fns q)(hr:Rep Z w n (.iface t1 x1) le)(ak:∀ W,Fr (fun _=>False) w W->Calls prog 92 #[.slice pp pn pc] W fun r w'=>∃ v',r=.returned v'/\Names W.heap.size w' v' l/\Fr (fun _=>False) W w')(bu:names=Cp.zai q.zac l)(aL:l.length<=1000000)(aC:q.zac.length<=1000000000)(sY:∀ Z1 W nv,(∀ k,Z k->Z1 k)->Fr (fun _=>False) w W->CS Z1 W cb rv fns q.blocks->Row Z1 W 9 1 nv names.length (strCells names)->Calls prog 93 #[.pointer (some ⟨cb,0,none⟩),.slice pp pn pc,nv] W fun r w'=>r=.returned (.int .i64 blk)/\zfH Z1 W cb rv fns bl w')(dj:∀ Z1 W bh bf cA nv,BS Z1 W cb bb bh bf cA fns ⟨bl,q.zac,q.code⟩->Rep Z1 W n (.iface t1 x1) le->Row Z1 W 9 1 nv names.length (strCells names)->Calls prog 90 #[.pointer (some ⟨bb,0,none⟩),.iface t1 x1,nv,.int .i64 blk,.int .i64 below] W fun r w'=>r=.returned (.tuple #[])/\Did Z1 W cb bb bh bf cA fns q1 w'):
  Calls prog 54 #[.pointer (some ⟨bb,0,none⟩),.iface 173 (.agg #[.iface t1 x1,.slice pp pn pc]),.int .i64 below] w fun r w'=>r=.returned (.tuple #[])/\Did Z w cb bb rv sv kv fns q1 w':=by
 obtain ⟨i2,-,-,-,i0,i1,-⟩:=zG2;have f0:Fr (fun _=>False) w (w.alloc (.cells #[.iface t1 x1,.slice pp pn pc] 173)):=(Fr.refl _ _).alloc _;have CF:=zab (ak _ f0);have dS:=zab (Blk.new w [.iface t1 x1,.slice pp pn pc] 173);have F0:=zab f0;have HH:=zab h;have HR:=zab hr;have HN:=zab bu;have vU:=zab sY;have vX:=zab dj;have cV:=h.zbY.lt;clear h hr ak bu sY dj f0;go_enter func54,ntmps54
 go_wp2_with fail
 refine CF.o.mono ?_;rintro r w1 ⟨fv,rfl,bI,f1⟩;obtain ⟨fa,fn,fc,rfl⟩:=zae bI;have dN:=zab (zcl (HH.o.fr0 (F0.o.trans f1)) bI aL aC);have F1:=zab (F0.o.trans f1);have B1:=zab (Fr.blk dS.o f1 (by simp));clear CF bI f1 i0 i1 i2;go_wp2_with fail
 refine dN.o.mono ?_;rintro r w2 ⟨nv,rfl,ay,f2⟩;rw[<-HN.o]at ay;obtain ⟨na,nn,nc,rfl⟩:=zaF ay;have F2:=zab (F1.o.trans f2);have cN:=Fr.blk B1.o f2 (by simp);have B2:=zab cN;have cZ:Hid (Names w.heap.size w2 (.slice na nn nc) names):=zab (Names.dwn (Row.zaE ay) F1.o.size);have ek:=HH.o.zp5 F2.o cZ.o;have lQ:=zab ek;have af:Row (fun k=>Z k\/(Value.slice na nn nc).ownBlock=some k) w2 9 1 (.slice na nn nc) names.length (strCells names):=⟨cZ.o.1,fun k hk=>.inr hk⟩;have CR:=zab (vU.o _ w2.drew _ (fun k hk=>.inl hk) F2.o.drew (ek.drew).cs (Row.frc af ((Fr.refl (fun _=>False) _).drew) (by simp)));have kF:=zab af;have dT:=zab ((HR.o.fr0 F2.o).mono (fun k _ hk=>(Or.inl hk:Z k\/(Value.slice na nn nc).ownBlock=some k)));have b0:=Blk.cell ek.zbY 0;have p0:=Blk.cell cN 0;have p1:=Blk.cell cN 1;simp at b0 p0 p1;clear dN ay f2 cN ek af;have ga:Hid (∀ k,w.heap.size<=k->¬ KL cb bb rv sv kv k):=zab (fun k hk he=>by
  have h:=HH.o;rcases he with e|e|e|e|e
  ·have:=h.clt;omega
  ·omega
  ·have:=h.rlt k e;omega
  ·have:=h.slt k e;omega
  ·have:=h.klt k e;omega)
 go_wp2_with fail
 go_region_held3 (fun W=>W.cell? ⟨w.heap.size,0,none⟩=some (.iface t1 x1)/\W.cell? ⟨w.heap.size,1,none⟩=some (.slice pp pn pc)/\W.cell? ⟨bb,0,none⟩=some (.pointer (some ⟨cb,0,none⟩))) (first|(refine ⟨?_,?_,?_⟩ <;> assumption)|go_keep) (first
  |(go_at_call 93;refine CR.o.mono ?_;rintro r w3 ⟨rfl,hd⟩;obtain ⟨Z3,j8,j9,j7,z3,b3,f3,m1,m2,m3⟩:=hd.did lQ.o.drew;have X3:=zab (And.intro z3 (And.intro b3 (And.intro f3 (And.intro m1 (And.intro m2 m3)))));have CW:=zab (vX.o Z3 w3 j8 j9 j7 (.slice na nn nc) b3 (lQ.o.drew.rep f3 z3 (dT.o.fr0 ((Fr.refl (fun _=>False) _).drew))) (lQ.o.drew.row f3 z3 (Row.frc kF.o ((Fr.refl (fun _=>False) _).drew) (by simp))));have gq:=Fr.blk (a:=w2.drew) B2.o f3 (ga.o _ (zyN _));have B3:=zab gq;have qX:=Blk.cell b3.zbY 0;have tI:=Blk.cell gq 0;have tK:=Blk.cell gq 1;simp at qX tI tK;clear hd z3 b3 f3 m1 m2 m3 gq)
  |(go_at_call 90;refine CW.o.mono ?_;rintro r w4 ⟨rfl,hd⟩;have D4:=zab hd;obtain ⟨Z4,yA,yC,yv,z4,b4,f4,m1,m2,m3⟩:=hd;have kj:¬ KL cb bb j8 j9 j7 w.heap.size:=(fun e=>ga.o _ (zyN _) (KL.new e X3.o.2.2.2.1 X3.o.2.2.2.2.1 X3.o.2.2.2.2.2 (Blk.lt B2.o)));have iF:=Fr.blk B3.o f4 kj;have qY:=Blk.cell b4.zbY 0;have tJ:=Blk.cell iF 0;have tL:=Blk.cell iF 1;simp at qY tJ tL;clear z4 b4 f4 m1 m2 m3 iF kj))
 all_goals
  go_wp2_with fail
  first|go_end0|refine bodyPost_ret (results_none rfl _ _ _) rfl ?_
  refine ⟨rfl,?_⟩;have hd:Did (fun k=>Z k\/(Value.slice na nn nc).ownBlock=some k) w2.drew cb bb rv sv kv fns q1 w4:=by
   obtain ⟨z,b,f,n1,n2,n3⟩:=X3.o;exact Did.trans z f n1 n2 n3 D4.o
  obtain ⟨Z',aO,sv',bG,z,b,f,n1,n2,n3⟩:=hd;have f2:Fr (fun _=>False) w w2.drew:=F2.o.drew;refine ⟨Z',aO,sv',bG,fun k hk=>?_,b,(f2.mono (fun _ x=>x.elim)).trans f,New.trans (New.refl w rv) n1 f2.size,New.trans (New.refl w sv) n2 f2.size,New.trans (New.refl w kv) n3 f2.size⟩;rw[z k (zyS hk f2.size)];constructor
  ·rintro (e|e)
   ·exact e
   ·have:=cZ.o.2 k e;omega
  ·exact .inl
theorem zkk(fns:List Cp.Nm):∀ (l:List Cp.Nm) (q:Cp.Bs),(l.foldl (Cp.Bs.use fns) q).blocks=q.blocks
 |[],_=>rfl
 |y::l,q=>(zkk fns l (q.use fns y)).trans (zoR fns q y).2.2
theorem zex(fns:List Cp.Nm)(q:Cp.Bs)(names:List Cp.Nm):(q.zak fns names).blocks=q.blocks:=zkk fns _ q
theorem zvO(h:BS Z w cb bb rv sv kv fns q)(hr:Rep Z w n (.iface 178 (.agg #[.bool r,.slice pp pn pc,.iface bt bx])) e)(ak:∀ W,Fr (fun _=>False) w W->Calls prog 89 #[.iface 178 (.agg #[.bool r,.slice pp pn pc,.iface bt bx])] W fun r w'=>∃ v',r=.returned v'/\Names W.heap.size w' v' l/\Fr (fun _=>False) W w')(bu:names=Cp.zai q.zac l)(aL:l.length<=1000000)(aC:q.zac.length+names.length<=1000000000)(xF:q.code.length+names.length+1<=1000000000)(cW:fns.length<=1000000000)(hin:∀ x∈names,x≠[]/\(Cp.za9 q.zac x=none->x∈fns))(kf:0<below)(aA:below+names.length<=1000000000)(mZ:∀ Z1 W bh nv,CS Z1 W cb bh fns q.blocks->Rep Z1 W n (.iface 178 (.agg #[.bool r,.slice pp pn pc,.iface bt bx])) e->Row Z1 W 9 1 nv names.length (strCells names)->Calls prog 161 #[.pointer (some ⟨cb,0,none⟩),.iface 178 (.agg #[.bool r,.slice pp pn pc,.iface bt bx]),nv] W fun r w'=>r=.returned (.int .i64 blk)/\zfH Z1 W cb bh fns bl w'):
  Calls prog 94 #[.pointer (some ⟨bb,0,none⟩),.agg #[.bool r,.slice pp pn pc,.iface bt bx],.int .i64 below] w fun r w'=>r=.returned (.tuple #[])/\Did Z w cb bb rv sv kv fns (Cp.Bs.ends ⟨bl,(q.zak fns names).zac,(q.zak fns names).code⟩ (below+names.length) (.jump blk)) w':=by
 have Gz:(0:Int)<(below:Int):=by omega
 have uS:IntKind.i64.wrap ((below:Int)+(names.length:Int))=(below:Int)+(names.length:Int):=zfm _ (by omega) (by omega);have f0:Fr (fun _=>False) w (w.alloc (.cells #[.bool r,.slice pp pn pc,.iface bt bx] 178)):=(Fr.refl _ _).alloc _;have CF:=zab (ak _ f0);have dS:=zab (Blk.new w [.bool r,.slice pp pn pc,.iface bt bx] 178);have F0:=zab f0;have HH:=zab h;have HR:=zab hr;have HN:=zab bu;have jP:=zab mZ;have oz:=zab hin;have cV:=h.zbY.lt;have ul:=zbv fns names.reverse q;have HC:Hid ((q.zak fns names).code.length+1<=1000000000):=zab (by unfold Cp.Bs.zak;rw[ul.2.1,zy4];omega);have C7:=zab (zex fns q names);clear h hr ak bu mZ f0 hin ul;go_enter func94,ntmps94
 go_wp2_with fail
 refine CF.o.mono ?_;rintro r1 w1 ⟨fv,rfl,bI,f1⟩;obtain ⟨fa,fn,fc,rfl⟩:=zae bI;have dN:=zab (zcl (HH.o.fr0 (F0.o.trans f1)) bI aL (by omega));have F1:=zab (F0.o.trans f1);have B1:=zab (Fr.blk dS.o f1 (by simp));clear CF bI f1;go_wp2_with fail
 refine dN.o.mono ?_;rintro r1 w2 ⟨nv,rfl,ay,f2⟩;rw[<-HN.o]at ay;obtain ⟨na,nc,_,lr,_⟩:=zaO (za0 ay (zy5 _));subst lr;have F2:=zab (F1.o.trans f2);have B2:=zab (Fr.blk B1.o f2 (by simp));have cZ:Hid (Names w.heap.size w2 (.slice na names.length nc) names):=zab (Names.dwn (Row.zaE ay) F1.o.size);have ek:=HH.o.zp5 F2.o cZ.o;have lQ:=zab ek;have af:Row (fun k=>Z k\/(Value.slice na names.length nc).ownBlock=some k) w2 9 1 (.slice na names.length nc) names.length (strCells names):=⟨cZ.o.1,fun k hk=>.inr hk⟩;have CU:=zab (zbU ek af oz.o (by omega) aC cW);have kF:=zab af;have dT:=zab ((HR.o.fr0 F2.o).mono (fun k _ hk=>(Or.inl hk:Z k\/(Value.slice na names.length nc).ownBlock=some k)));have ga:Hid (∀ k,w.heap.size<=k->¬ KL cb bb rv sv kv k):=zab (fun k hk he=>by
  have h:=HH.o;rcases he with e|e|e|e|e
  ·have:=h.clt;omega
  ·omega
  ·have:=h.rlt k e;omega
  ·have:=h.slt k e;omega
  ·have:=h.klt k e;omega)
 clear dN ay f2 ek af;go_wp2_with fail
 refine CU.o.mono ?_;rintro r1 w5 ⟨rfl,Z5,A7,FR,FH,z5,b5,f5,m1,m2,m3⟩;have cN:=Fr.blk B2.o f5 (ga.o _ (zyN _));have B5:=zab cN;have aE:=b5.cs;rw[C7.o]at aE;have hdr:Fr (fun _=>False) w5 w5.drew:=(Fr.refl _ _).drew;have CR:=zab (jP.o Z5 w5.drew A7 (.slice na names.length nc) (aE.fr0 hdr) ((lQ.o.rep f5 z5 dT.o).fr0 hdr) (Row.frc (lQ.o.row f5 z5 kF.o) hdr (by simp)));have b0:=Blk.cell b5.zbY 0;have p0:=Blk.cell cN 0;have p1:=Blk.cell cN 1;have p2:=Blk.cell cN 2;simp at b0 p0 p1 p2;have X5:=zab (And.intro z5 (And.intro b5 (And.intro f5 (And.intro m1 (And.intro m2 m3)))));have yY:Hid (¬ KL cb bb A7 FR FH w.heap.size):=zab (fun e=>ga.o _ (zyN _) (KL.new e m1 m2 m3 (Blk.lt B2.o)));clear CU z5 b5 f5 m1 m2 m3 cN aE hdr;go_wp2_with fail
 go_region_held3 (fun W=>W.cell? ⟨w.heap.size,0,none⟩=some (.bool r)/\W.cell? ⟨w.heap.size,1,none⟩=some (.slice pp pn pc)/\W.cell? ⟨w.heap.size,2,none⟩=some (.iface bt bx)/\W.cell? ⟨bb,0,none⟩=some (.pointer (some ⟨cb,0,none⟩))) (first|(refine ⟨?_,?_,?_,?_⟩ <;> assumption)|go_keep) (first
  |(go_at_call 161;refine CR.o.mono ?_;rintro r1 w6 ⟨rfl,hd⟩;obtain ⟨Z6,A8,Bb,A4,z6,b6,f6,m1,m2,m3⟩:=hd.did X5.o.2.1.drew;have X6:=zab (And.intro z6 (And.intro b6 (And.intro f6 (And.intro m1 (And.intro m2 m3)))));have CE:=zab (zgS (c:=below+names.length) (i:=.jump blk) b6 rfl HC.o);have kR:=Fr.blk (a:=w5.drew) B5.o f6 yY.o;have B6:=zab kR;have qX:=Blk.cell b6.zbY 0;have tI:=Blk.cell kR 0;have tK:=Blk.cell kR 1;have yy:=Blk.cell kR 2;simp at qX tI tK yy;clear hd z6 b6 f6 m1 m2 m3 kR)
  |(go_at_call 96;refine CE.o.mono ?_;rintro r1 w7 ⟨rfl,hd⟩;have D7:=zab hd;obtain ⟨Z7,A9,Bc,A5,z7,b7,f7,m1,m2,m3⟩:=hd;have Aq:¬ KL cb bb A8 Bb A4 w.heap.size:=(fun e=>yY.o (KL.new e X6.o.2.2.2.1 X6.o.2.2.2.2.1 X6.o.2.2.2.2.2 (Blk.lt B5.o)));have mK:=Fr.blk B6.o f7 Aq;have qY:=Blk.cell b7.zbY 0;have tJ:=Blk.cell mK 0;have tL:=Blk.cell mK 1;have yz:=Blk.cell mK 2;simp at qY tJ tL yz;clear z7 b7 f7 m1 m2 m3 mK Aq))
 all_goals
  go_wp2_with fail
  first|go_end0|refine bodyPost_ret (results_none rfl _ _ _) rfl ?_
  refine ⟨rfl,?_⟩;have hd:Did (fun k=>Z k\/(Value.slice na names.length nc).ownBlock=some k) w2 cb bb rv sv kv fns (Cp.Bs.ends ⟨bl,(q.zak fns names).zac,(q.zak fns names).code⟩ (below+names.length) (.jump blk)) w7:=by
   obtain ⟨z,b,f,n1,n2,n3⟩:=X5.o;refine Did.trans z f n1 n2 n3 (Did.fr0 ((Fr.refl _ _).drew) ?_);obtain ⟨z,b,f,n1,n2,n3⟩:=X6.o;exact Did.trans z f n1 n2 n3 D7.o
  obtain ⟨Z',aO,sv',bG,z,b,f,n1,n2,n3⟩:=hd;have f2:=F2.o;refine ⟨Z',aO,sv',bG,fun k hk=>?_,b,(f2.mono (fun _ x=>x.elim)).trans f,New.trans (New.refl w rv) n1 f2.size,New.trans (New.refl w sv) n2 f2.size,New.trans (New.refl w kv) n3 f2.size⟩;rw[z k (zyS hk f2.size)];constructor
  ·rintro (e|e)
   ·exact e
   ·have:=cZ.o.2 k e;omega
  ·exact .inl
theorem zrp:∀ args w,(callFunc 53 args).run prog w=.ok (.enter 53 args) w:=by
 intro args w
 kernel_rfl
theorem zn8(hW:zbi M N n){bx:Nat}{a0 a1 a2:Value}{t:TypeId}(hx:Blk w bx [a0,a1,a2,.iface t x] 93)(h:BS Z w cb bb rv sv kv fns q)(hr:Rep Z w n (.iface t x) e)(hf:Fit M N fns q e):
  Calls prog 53 #[.pointer (some ⟨bb,0,none⟩),.pointer (some ⟨bx,0,none⟩)] w fun r w'=>r=.returned (.tuple #[])/\Did Z w cb bb rv sv kv fns (Cp.work (Cp.free N) fns n e 0 q) w':=by
 have c0:=Blk.cell hx 3;simp at c0;have CW:=zab (hW (below:=0) h hr hf (by have:=hf.cl;omega));clear hW h hr hf hx;go_enter func53,ntmps53
 go_wp2_with fail
 refine CW.o.mono ?_;rintro r w' ⟨rfl,hd⟩;have HD:=zab hd;clear hd CW c0;go_wp2_with fail
 first|go_end0|refine bodyPost_ret (results_none rfl _ _ _) rfl ?_
 exact ⟨rfl,HD.o⟩
theorem zvJ:(prog.info? 38).map (fun i=>(i.size,i.bytes,i.zero))=some (1,24,some (.slice none 0 0)):=by kernel_rfl
theorem madeL(n:Nat):madeCells (Value.cells (.slice none 0 0)) n=(List.replicate n (Value.slice none 0 0)).toArray:=by
 apply Array.ext
 ·simp[madeCells]
 ·intro i h1 h2;simp[madeCells,Value.cells,Nat.mod_one]
theorem ztz(hn:n<=1000000)(W:World):(Instr.makeSlice 160 (.int .i64 (n:Int)) (.int .i64 (n:Int))).run prog W=.ok (.slice (some ⟨W.heap.size,0,none⟩) n n) (W.alloc (.cells (List.replicate n (Value.slice none 0 0)).toArray 38)):=by
 obtain ⟨i,hi,he⟩:=zyX.1 zvJ;simp only[zzL]at he;obtain ⟨h1,h2,h3⟩:=he;have:=run_make (P:=prog) W 160 38 i (.slice none 0 0) underlying160 hi h3 .i64 .i64 n n (by omega) (by omega) (by rw[h2];omega) (by omega);rw[this,h1,zy2,zAt,madeL]
structure TS (Z:Nat->Prop) (w wr:World) (cb bb H m:Nat) (rv sv kv:Value) (fns:List Cp.Nm) (qk:Cp.Bs) (nms:Nat->List Cp.Nm) (k:Nat) (nvs:List Value) (Zk:Nat->Prop) (dM ir il:Value):Prop where
 z:∀ j,j<w.heap.size->(Zk j↔Z j)
 b:BS Zk wr cb bb dM ir il fns qk
 f:Fr (fun j=>KL cb bb rv sv kv j\/j=H) w wr
 n1:New w rv dM
 n2:New w sv ir
 n3:New w kv il
 h:Blk wr H (nvs++List.replicate (m-k) (.slice none 0 0)) 38
 rows:∀ (j:Nat) (nv:Value),nvs[j]?=some nv->Row Zk wr 9 1 nv (nms j).length (strCells (nms j))
 len:nvs.length=k
theorem TS.next{wr w6 w7:World}{H m:Nat}{nv:Value}{qk qc qd:Cp.Bs}{nms:Nat->List Cp.Nm}{k:Nat}{nvs:List Value}{Zk:Nat->Prop}{dM ir il:Value}(h:TS Z w wr cb bb H m rv sv kv fns qk nms k nvs Zk dM ir il)(hH:H<w.heap.size)(hZ:¬ Z H)(hK:¬ KL cb bb rv sv kv H)(hk:k<m){o:Obj}{Z1:Nat->Prop}{bh bf cA:Value}(z1:∀ j,j<(wr.alloc o).heap.size->(Z1 j↔Zk j))(b1:BS Z1 w6 cb bb bh bf cA fns qc)(f1:Fr (KL cb bb dM ir il) (wr.alloc o) w6)(a1:New (wr.alloc o) dM bh)(a2:New (wr.alloc o) ir bf)(a3:New (wr.alloc o) il cA)(af:Row Z1 w6 9 1 nv (nms k).length (strCells (nms k)))(d2:Did Z1 w6 cb bb bh bf cA fns qd w7):
  Blk w7 H (nvs++List.replicate (m-k) (.slice none 0 0)) 38/\∃ Z' aO sv' bG,TS Z w (w7.setCell ⟨H,k,none⟩ nv) cb bb H m rv sv kv fns qd nms (k+1) (nvs++[nv]) Z' aO sv' bG:=by
 have f0:Fr (fun _=>False) wr (wr.alloc o):=(Fr.refl _ _).alloc _;obtain ⟨Z2,im,iq,ik,z2,b2,f2,c1,c2,c3⟩:=d2;have s0:=h.f.size;have s1:=f0.size;have s2:=f1.size;have s3:=f2.size;have k0:¬ KL cb bb dM ir il H:=fun e=>hK (KL.new e h.n1 h.n2 h.n3 hH)
 have Gr:H<wr.heap.size:=h.h.lt;have k1:¬ KL cb bb bh bf cA H:=fun e=>k0 (KL.new e a1 a2 a3 (by omega))
 have k2:¬ KL cb bb im iq ik H:=fun e=>k1 (KL.new e c1 c2 c3 (by omega))
 have zk:¬ Zk H:=fun e=>hZ ((h.z H hH).1 e)
 have FX:¬ Z1 H:=fun e=>zk ((z1 H (by omega)).1 e)
 have Be:¬ Z2 H:=fun e=>FX ((z2 H (by omega)).1 e)
 have pS:Blk w7 H (nvs++List.replicate (m-k) (.slice none 0 0)) 38:=Fr.blk (Fr.blk (Fr.blk h.h f0 (by simp)) f1 k0) f2 k1;have f3:Fr (fun j=>j=H) w7 (w7.setCell ⟨H,k,none⟩ nv):=(Fr.refl _ _).set _ _ (.inl rfl);refine ⟨pS,Z2,im,iq,ik,⟨fun j hj=>(z2 j (by omega)).trans ((z1 j (by omega)).trans (h.z j hj)),b2.frk f3 ?_,?_,?_,?_,?_,?_,?_,by simp[h.len]⟩⟩
 ·rintro j (e|e) rfl
  ·exact Be e
  ·exact k2 e
 ·refine Fr.set ?_ _ _ (.inl (.inr rfl));refine ⟨f2.os.trans (f1.os.trans (f0.os.trans h.f.os)),f2.tape.trans (f1.tape.trans (f0.tape.trans h.f.tape)),f2.output.trans (f1.output.trans (f0.output.trans h.f.output)),by omega,fun i hi hn=>?_⟩;have e0:¬ KL cb bb dM ir il i:=fun e=>hn (.inl (KL.new e h.n1 h.n2 h.n3 hi))
  have e1:¬ KL cb bb bh bf cA i:=fun e=>e0 (KL.new e a1 a2 a3 (by omega))
  rw[f2.block i (by omega) e1,f1.block i (by omega) e0,f0.block i (by omega) (by simp),h.f.block i hi hn]
 ·exact h.n1.trans (New.trans (New.trans (New.refl wr dM) a1 s1) (New.trans (New.refl (wr.alloc o) bh) c1 s2) s1) s0
 ·exact h.n2.trans (New.trans (New.trans (New.refl wr ir) a2 s1) (New.trans (New.refl (wr.alloc o) bf) c2 s2) s1) s0
 ·exact h.n3.trans (New.trans (New.trans (New.refl wr il) a3 s1) (New.trans (New.refl (wr.alloc o) cA) c3 s2) s1) s0
 ·have:=pS.set k nv;have hl:=h.len;have e:(nvs++List.replicate (m-k) (Value.slice none 0 0)).set k nv=(nvs++[nv])++List.replicate (m-(k+1)) (.slice none 0 0):=by
   rw[List.set_append_right _ _ (by omega),hl,zAx,show m-k=(m-(k+1))+1 by omega,zz4,zyZ];simp
  rw[e]at this;exact this
 ·intro j FK hj;rw[zzj]at hj;have ak:∀ j,j<w7.heap.size->Z2 j->¬ j=H:=fun j _ hz e=>Be (e ▸ hz)
  by_cases gT:j<nvs.length
  ·rw[if_pos gT]at hj;exact (b1.row f2 z2 ((h.b.fr0 f0).row f1 z1 (Row.frc (h.rows j FK hj) f0 (by simp)))).frz f3 ak (fun _ _ x=>x)
  ·rw[if_neg gT]at hj;have h1:j-nvs.length=0:=by
    have:=(zyL.1 hj).1;simp at this;omega
   rw[h1]at hj;simp only[zzl,zyP]at hj;subst hj;have ED:j=k:=by have:=h.len;omega
   rw[ED];exact (b1.row f2 z2 af).frz f3 ak (fun _ _ x=>x)
theorem zis{pv:Value}{l:List Th.Tok}{parts:List Th.Ex}{pvs:List Value}{st qc ft:Nat->Cp.Bs}{bk:Nat->Nat}{nms:Nat->List Cp.Nm}(h:BS Z w cb bb rv sv kv fns q)(h3:parts.length=l.length)(h4:pvs.length=l.length)(h6:Row Z w 312 3 pv l.length (zaM l pvs))(h8:∀ (i:Nat) (bv:Value) (p:Th.Ex),pvs[i]?=some bv->parts[i]?=some p->Rep Z w n bv p)(bK:st 0=⟨q.blocks,q.zac++Th.texts l,q.code⟩)(aN:∀ (i:Nat) (e:Th.Ex) (Z1:Nat->Prop) (W:World) (bh bf cA v:Value),parts[i]?=some e->BS Z1 W cb bb bh bf cA fns (st i)->Rep Z1 W n v e ->
   Calls prog 165 #[.pointer (some ⟨bb,0,none⟩),v] W fun r w'=>∃ nv,r=.returned (.tuple #[.int .i64 (bk i),nv])/\znm Z1 W cb bb bh bf cA fns (qc i) w' nv (nms i))(dY:∀ i,i<l.length->st (i+1)=(qc i).write (.hold (bk i) (nms i).length))(AF:∀ i,i<l.length->(qc i).code.length<=1000000000)(kg:ft 0=st l.length)(jX:∀ i,i<l.length->ft (i+1)=(((ft i).zak fns (nms i)).drop (nms i).length).write (.fill (q.zac.length+i) (nms i).length))(hin:∀ i,i<l.length->(∀ x∈nms i,x≠[]/\(Cp.za9 (ft i).zac x=none->x∈fns))/\(ft i).code.length+(nms i).length<=1000000000/\(ft i).zac.length+(nms i).length<=1000000000)(cW:fns.length<=1000000000)(bp:0<l.length)(aU:l.length<=1000000)(uQ:q.zac.length<=100000000):
  Calls prog 162 #[.pointer (some ⟨bb,0,none⟩),.agg #[.bool r,pv,.iface bt bx]] w fun e w'=>e=.returned (.tuple #[])/\Did Z w cb bb rv sv kv fns (ft l.length) w':=by
 obtain ⟨i0,dt,bq,aP,bF⟩:=info_parts zeR;have HI:=zab dt;clear dt;have HZ:=zab (And.intro bq (And.intro aP bF));clear bq aP bF;obtain ⟨g0,pc,eD⟩:∃ g0 pc,pv=.slice (some ⟨g0,0,none⟩) l.length pc:=by
  rcases h6.1.2 with ⟨_,h0⟩|⟨g,cap,cur,h0,_⟩
  ·omega
  ·exact ⟨_,_,h0⟩
 subst eD;obtain ⟨sp,sc,_,bA,_⟩:=zaO h.ziW;subst bA;have bR:∀ (i:Nat) (pv:Value),pvs[i]?=some pv->pv.oneCell'=true:=fun i pv hp=>by
  have:i<parts.length:=by rw[h3,<-h4];exact (zyL.1 hp).1
  obtain ⟨t,x,rfl⟩:=zah (h8 i pv parts[i] hp (zyM this));rfl
 have f0:Fr (fun _=>False) w (w.alloc (.cells #[.bool r,.slice (some ⟨g0,0,none⟩) l.length pc,.iface bt bx] 178)):=(Fr.refl _ _).alloc _;have aA:=h.zx8 (.cells #[.bool r,.slice (some ⟨g0,0,none⟩) l.length pc,.iface bt bx] 178);have nH:=Blk.new w [.bool r,.slice (some ⟨g0,0,none⟩) l.length pc,.iface bt bx] 178;have cB:=zab aA;have dS:=zab nH;have me:=(Row.frc h6 f0 (by simp)).mono (S':=fun k=>Z k\/k=w.heap.size) (fun k _ hk=>.inl hk);have H6:=zab me;have H8:=zab (fun i bv p a b=>((h8 i bv p a b).fr0 f0).mono (S':=fun k=>Z k\/k=w.heap.size) (fun k _ hk=>.inl hk));have H3:=zab h3;have H4:=zab h4;have qH:=zab bK;have vv:=zab aN;have pK:=zab (And.intro dY AF);have yU:=zab (And.intro kg (And.intro jX hin));have c1:=Blk.cell aA.zbY 1;simp at c1;have cV:=h.zbY.lt;have CN:=zab (zcX (w:=(w.alloc (.cells #[.bool r,.slice (some ⟨g0,0,none⟩) l.length pc,.iface bt bx] 178)).drew) (rb:=r) (bt:=bt) (bx:=bx) (Row.frc me ((Fr.refl (fun _=>False) _).drew) (by simp)) h4 bR aU);have kB:=ztz aU;obtain ⟨vs,gW⟩:∃ vs,List.replicate l.length (Value.slice none 0 0)=vs:=⟨_,rfl⟩;rw[gW]at kB;have C8:=zab gW;clear gW;clear h h3 h4 h6 h8 bK aN dY AF kg jX hin bR aA nH f0 me;have F0:Hid (Fr (fun _=>False) w (w.alloc (.cells #[.bool r,.slice (some ⟨g0,0,none⟩) l.length pc,.iface bt bx] 178))):=zab ((Fr.refl _ _).alloc _);have qC:Hid (∀ q' w',Did (fun k=>Z k\/k=w.heap.size) (w.alloc (.cells #[.bool r,.slice (some ⟨g0,0,none⟩) l.length pc,.iface bt bx] 178)) cb bb rv (.slice sp q.zac.length sc) kv fns q' w'->Did Z w cb bb rv (.slice sp q.zac.length sc) kv fns q' w'):=zab (fun q' w' d=>Did.out1 d);go_enter func162,ntmps162
 go_wp2_with fail
 generalize w.alloc (.cells #[.bool r,.slice (some ⟨g0,0,none⟩) l.length pc,.iface bt bx] 178)=w0 at dS cB F0 qC H6 H8 c1 CN ⊢;have e0:=Blk.cell dS.o 0;have e1:=Blk.cell dS.o 1;have e2:=Blk.cell dS.o 2;simp at e0 e1 e2
 go_region_law (first
  |(refine step_append_lies _ (by rfl) _ _ _ (by rfl) 0 9 i0 _ 1 16 underlying38 HI.o HZ.o.1 HZ.o.2.1 HZ.o.2.2 rfl (by omega) (.slice sp q.zac.length sc) q.zac.length (strCells q.zac) (by rfl) (F5.o.gb cB.o.ziW (by simp)) ⟨tg,0,none⟩ l.length tc (strCells (Th.texts l)) (by rfl) mC.o kG.o ze1 bp (by unfold maxLen;omega) (by omega) (zy5 _) w5.heap.size rfl ?_;intro g cap w3 ai ah aV aj;have AD:=zab (cB.o.zuu (g:=g) (n':=q.zac.length+l.length) (cap:=cap) (sl:=q.zac++Th.texts l) F5.o (by simp[Th.texts]) (by simpa [strCells] using ai) ah (by rcases aV with e|e;exact .inl e;exact .inr (by have:=F5.o.size;omega)));have d1:=Blk.cell AD.o.1 1;have df:=Blk.frozen AD.o.1 1;simp at d1;clear ai ah aV aj)
  |(go_simp;go_wp2_with (go_at_call 197;refine CN.o.mono ?_;rintro e w5 ⟨tv,rfl,eC,dw⟩;have f5:Fr (fun _=>False) w0 w5:=(Fr.refl _ _).drew.trans (Fr.below dw);have F5:=zab f5;obtain ⟨FT,tc,tg,lI,_,lH,_,lG⟩:=zaO (za0 eC (zy5 _));rw[lH bp]at lI;subst lI;have kG:=zab (fun (j:Nat) v (hv:(strCells (Th.texts l))[j]?=some v)=>(show w5.cell? (Addr.add ⟨tg,0,none⟩ j)=some v by rw[zbe,zzG];exact lG j v hv));have mC:Hid ((strCells (Th.texts l)).length=l.length*1):=zab (by simp[strCells,Th.texts]);have c5:w5.cell? ⟨bb,1,none⟩=some (.slice sp q.zac.length sc):=Blk.cell (cB.o.fr0 f5).zbY 1;clear eC dw f5 lH lG)))
 all_goals
  obtain ⟨Z2,im,iq,ik,z2,b2,f2,m1,m2,m3⟩:=AD.o.2;rw[<-qH.o]at b2;clear AD d1 df;generalize w3.setCell ⟨bb,1,none⟩ (.slice (some ⟨g,0,none⟩) (q.zac.length+l.length) cap)=w4 at b2 f2 ⊢;have cN:=cB.o.box f2 z2 dS.o (.inr rfl);have y1:=Blk.cell cN.1 1;simp at y1;have y2:(w4.alloc (.cells vs.toArray 38)).cell? ⟨w.heap.size,1,none⟩=some (.slice (some ⟨g0,0,none⟩) l.length pc):=Blk.cell (Blk.alloc cN.1 _) 1;have fb:Fr (fun _=>False) w4 (w4.alloc (.cells vs.toArray 38)):=(Fr.refl _ _).alloc _;have zJ:=Blk.new w4 vs 38;have AJ:=Row.frc (cB.o.row f2 z2 H6.o) fb (by simp);have AM:=fun i bv p a b=>(cB.o.rep f2 z2 (H8.o i bv p a b)).fr0 fb
  have zr:=b2.fr0 fb;have zK:w4.heap.size<(w4.alloc (.cells vs.toArray 38)).heap.size:=by rw[World.size_alloc];omega
  have zZ:¬ Z2 w4.heap.size:=fun e=>by have:=b2.zlt _ e;omega
  have zR:¬ KL cb bb im iq ik w4.heap.size:=by
   rintro (e|e|e|e|e)
   ·have:=b2.clt;omega
   ·have:=b2.zbY.lt;omega
   ·have:=b2.rlt _ e;omega
   ·have:=b2.slt _ e;omega
   ·have:=b2.klt _ e;omega
  have X2:=zab (And.intro z2 (And.intro f2 (And.intro m1 (And.intro m2 m3))));have FB:=zab fb;have yX:=zab zJ;have y8:=zab AJ;have zb:=zab AM;have uY:=zab zr;have oy:=zab (And.intro zK (And.intro zZ zR));clear z2 b2 f2 m1 m2 m3 cN fb zJ AJ AM zr zK zZ zR;go_wp2_with fail
  generalize w4.alloc (.cells vs.toArray 38)=wb at FB yX y8 zb uY oy y2 ⊢;clear y1 y2
  go_loopg [34] l.length (fun gk iv wr=>∃ (k:Nat) (nvs:List Value) (Zk:Nat->Prop) (dM ir il:Value),iv=.int .i64 k/\k+gk=l.length/\TS Z2 wb wr cb bb w4.heap.size l.length im iq ik fns (st k) nms k nvs Zk dM ir il)
  case atStart=>exact ⟨0,[],Z2,im,iq,ik,rfl,by omega,⟨fun _ _=>zAz,uY.o,Fr.refl _ _,New.refl _ _,New.refl _ _,New.refl _ _,by rw[zzb,zAl,C8.o];exact yX.o,by simp,rfl⟩⟩
  case round=>
   obtain ⟨k,nvs,Zk,dM,ir,il,rfl,hk,hT⟩:=hrel;have HT:=zab hT;by_cases aj:k<l.length
   ·obtain ⟨a,ha⟩:∃ a,l[k]?=some a:=⟨l[k],zyM aj⟩;obtain ⟨p,hp⟩:∃ p,parts[k]?=some p:=⟨_,zyM (by rw[H3.o];exact aj)⟩;obtain ⟨bv,cC⟩:∃ bv,pvs[k]?=some bv:=⟨_,zyM (by rw[H4.o];exact aj)⟩;have hz:∀ j,j<wb.heap.size->Z2 j->¬ (KL cb bb im iq ik j\/j=w4.heap.size):=fun j _ hj e=>by
     rcases e with e|e
     ·exact uY.o.zk j hj e
     ·exact oy.o.2.1 (e ▸ hj)
    have hR:=(zb.o k bv p cC hp).frz hT.f hz (fun j hj lh=>(hT.z j hj).2 lh);obtain ⟨pt,px,rfl⟩:=zah hR;have aE:=zbA l pvs k a _ ha cC;have af:=(y8.o.frz hT.f hz (fun j hj lh=>(hT.z j hj).2 lh)).1;have c0:=(af.cellAt (k*3) (by omega)).trans aE.1;have c1:=(af.cellAt (k*3+1) (by omega)).trans aE.2.1;have c2:=(af.cellAt (k*3+2) (by omega)).trans aE.2.2;have dF:(0:Int)<=(k:Int):=zzN _;have fw:Fr (fun _=>False) wr (wr.alloc (.cells #[.string ⟨a.s.toArray⟩,.int .i64 a.at_,.iface pt px] 312)):=(Fr.refl _ _).alloc _;have CC:=zab (vv.o k p Zk _ dM ir il (.iface pt px) hp (hT.b.fr0 fw) (hR.fr0 fw));have EL:=pK.o.2 k aj;have CV:=zab (pK.o.1 k aj);clear hT hz hR aE af fw ha hp cC;go_wp2_with fail
    refine CC.o.mono ?_;rintro e w6 ⟨nv,rfl,En⟩;obtain ⟨Z6,A8,Bb,A4,z6,b6,f6,o1,o2,o3,me⟩:=En;obtain ⟨na,nc,_,lr,_⟩:=zaO me.1;subst lr;have CW:=zab (zbS (i:=.hold (bk k) (nms k).length) b6 rfl EL);have X6:=zab (And.intro z6 (And.intro b6 (And.intro f6 (And.intro o1 (And.intro o2 (And.intro o3 me))))));clear z6 b6 f6 o1 o2 o3 me CC c0 c1 c2;go_wp2_with fail
    refine CW.o.mono ?_;rintro e w7 ⟨rfl,Ai⟩;obtain ⟨z6,b6,f6,o1,o2,o3,me⟩:=X6.o;obtain ⟨pS,Z7,A9,Bc,A5,zX⟩:=TS.next HT.o oy.o.1 oy.o.2.1 oy.o.2.2 aj z6 b6 f6 o1 o2 o3 me Ai;have C3:=zab zX;have s0:w7.cell? ⟨w4.heap.size,k,none⟩=some (.slice none 0 0):=by
     have hl:=HT.o.len;rw[Blk.cell pS k,zy3 (by omega),hl,zAx];rw[List.getElem?_replicate,if_pos (by omega)]
    have s1:=Blk.frozen pS k;clear z6 b6 f6 o1 o2 o3 me Ai CW pS zX;go_wp2_with fail
    go_roundg (l.length-(k+1))
    case measure=>omega
    case rel=>exact ⟨k+1,nvs++[.slice na (nms k).length nc],Z7,A9,Bc,A5,by go_num,by omega,by rw[CV.o];exact C3.o⟩
   ·have aG:k=l.length:=by omega
    subst aG;obtain ⟨wm,rfl⟩:∃ wm,wm=wr:=⟨wr,rfl⟩;obtain ⟨kg,jX,hin⟩:=yU.o;have bm:=hT.b;rw[<-kg]at bm;have BM:=zab bm;have k0:¬ KL cb bb dM ir il w4.heap.size:=fun e=>oy.o.2.2 (KL.new e hT.n1 hT.n2 hT.n3 oy.o.1)
    have K0:=zab k0;clear hT bm k0 kg jX hin;go_wp2_with fail
    go_loopg [60] l.length (fun gk iv wr=>∃ i:Nat,iv=.int .i64 i/\i+gk=l.length/\Did Zk wm cb bb dM ir il fns (ft i) wr)
    case atStart=>exact ⟨0,rfl,by omega,Did.refl BM.o⟩
    case round=>
     obtain ⟨i,rfl,hi,Z8,yB,yD,yw,z8,b8,f8,n1,n2,n3⟩:=hrel;by_cases mP:i<l.length
     ·have hT:=HT.o;obtain ⟨nv,ay⟩:∃ nv,nvs[i]?=some nv:=⟨_,zyM (by rw[hT.len];exact mP)⟩;have xY:=BM.o.row f8 z8 (hT.rows i nv ay);have zI:=Fr.blk hT.h f8 K0.o;obtain ⟨na,nc,_,lr,_⟩:=zaO xY.1;subst lr;have u0:wr.cell? ⟨w4.heap.size,i,none⟩=some (.slice na (nms i).length nc):=by
       rw[Blk.cell zI i,zzc (by rw[hT.len];exact mP)];exact ay
      obtain ⟨kg,jX,hin⟩:=yU.o;obtain ⟨j1,j2,j3⟩:=hin i mP;have CU:=zab (zbU b8 xY j1 j2 j3 cW);have dt:(0:Int)<=(i:Int):=zzN _;have ul:=zbv fns (nms i).reverse (ft i);have eI:((ft i).zak fns (nms i)).code.length<=1000000000:=by unfold Cp.Bs.zak;rw[ul.2.1,zy4];omega
      have eN:((ft i).zak fns (nms i)).zac.length<=1000000000:=by unfold Cp.Bs.zak;rw[ul.1,zy4];omega
      have gL:(nms i).length<=((ft i).zak fns (nms i)).zac.length:=by unfold Cp.Bs.zak;rw[ul.1,zy4];omega
      have HU:=zab (And.intro eI (And.intro eN gL));have Cb:=zab (jX i mP);have X8:=zab (And.intro z8 (And.intro f8 (And.intro n1 (And.intro n2 n3))));clear hT ay xY zI kg jX hin j1 j2 j3 ul eI eN gL z8 b8 f8 n1 n2 n3;go_wp2_with fail
      refine CU.o.mono ?_;rintro e w9 ⟨rfl,Z9,G9,Hf,GR,z9,b9,f9,n1,n2,n3⟩;have CD:=zab (zeg b9 HU.o.2.1 HU.o.2.2);have X9:=zab (And.intro z9 (And.intro f9 (And.intro n1 (And.intro n2 n3))));clear z9 b9 f9 n1 n2 n3 CU u0;go_wp2_with fail
      refine CD.o.mono ?_;rintro e pB ⟨rfl,Gb,FN,FQ,FG,Bd,zp,f10,n1,n2,n3⟩;have CW:=zab (zbS (i:=.fill (q.zac.length+i) (nms i).length) zp rfl HU.o.1);have Dt:=zab (And.intro Bd (And.intro f10 (And.intro n1 (And.intro n2 n3))));clear Bd zp f10 n1 n2 n3 CD;rw[zzq]at CW;go_wp2_with fail
      refine CW.o.mono ?_;rintro e yE ⟨rfl,hd⟩;have Bp:=zab hd;clear hd CW;go_wp2_with fail
      go_roundg (l.length-(i+1))
      case measure=>omega
      case rel=>
       refine ⟨i+1,by go_num,by omega,?_⟩;rw[Cb.o];obtain ⟨z,f,n1,n2,n3⟩:=X8.o;refine Did.trans z f n1 n2 n3 ?_;obtain ⟨z,f,n1,n2,n3⟩:=X9.o;refine Did.trans z f n1 n2 n3 ?_;obtain ⟨z,f,n1,n2,n3⟩:=Dt.o;exact Did.trans z f n1 n2 n3 Bp.o
     ·have lg:i=l.length:=by omega
      rw[lg]at b8;have hd:Did Zk wm cb bb dM ir il fns (ft l.length) wr:=⟨Z8,yB,yD,yw,z8,b8,f8,n1,n2,n3⟩;have HD:=zab hd;clear z8 b8 f8 n1 n2 n3 hd lg;go_wp2_with fail
      first|go_end0|refine bodyPost_ret (results_none rfl _ _ _) rfl ?_
      refine ⟨rfl,qC.o _ _ ?_⟩;have hT:=HT.o;obtain ⟨z,f,n1,n2,n3⟩:=X2.o;refine Did.trans z f n1 n2 n3 ?_;obtain ⟨Z8,yB,yD,yw,z8,b8,f8,p1,p2,p3⟩:=HD.o;have g1:=FB.o.size;have g2:=hT.f.size;have g3:=f8.size;refine ⟨Z8,yB,yD,yw,fun k hk=>(z8 k (by omega)).trans (hT.z k (by omega)),b8,⟨f8.os.trans (hT.f.os.trans FB.o.os),f8.tape.trans (hT.f.tape.trans FB.o.tape),f8.output.trans (hT.f.output.trans FB.o.output),by omega,fun i hi hn=>?_⟩,?_,?_,?_⟩
      ·rw[f8.block i (by omega) (fun e=>hn (KL.new e hT.n1 hT.n2 hT.n3 (by omega))),hT.f.block i (by omega) (by rintro (e|e);exact hn e;omega),FB.o.block i hi (by simp)]
      ·exact New.trans (New.trans (New.refl w4 im) hT.n1 g1) p1 (by omega)
      ·exact New.trans (New.trans (New.refl w4 iq) hT.n2 g1) p2 (by omega)
      ·exact New.trans (New.trans (New.refl w4 ik) hT.n3 g1) p3 (by omega)
end Go.Proofs.YtgahgkddaljmkaaGreatDoor
namespace Go.Proofs.YtgahgkddaljmkaaGreatDoor
open Tryz
namespace Cp
theorem zw2(fns:List Nm)(q:Bs)(x:Nm):∃ i,q.use fns x=⟨q.blocks,q.zac++[[]],q.code++[i]⟩:=by
 unfold Bs.use Bs.push;split
 ·exact ⟨_,rfl⟩
 ·exact ⟨_,rfl⟩
theorem zuJ(fns:List Nm):∀ (l:List Nm) (q:Bs),∃ c,l.foldl (Bs.use fns) q=⟨q.blocks,q.zac++List.replicate l.length [],q.code++c⟩/\c.length=l.length
 |[],q=>⟨[],by simp,rfl⟩
 |x::l,q=>by
  obtain ⟨i,h1⟩:=zw2 fns q x;obtain ⟨c,h2,h3⟩:=zuJ fns l (q.use fns x);refine ⟨i::c,?_,by simp[h3]⟩;rw[zz2,h2,h1];simp[zz4]
theorem zd6(fns:List Nm)(q:Bs)(l:List Nm):∃ c,q.zak fns l=⟨q.blocks,q.zac++List.replicate l.length [],q.code++c⟩/\c.length=l.length:=by
 obtain ⟨c,h1,h2⟩:=zuJ fns l.reverse q;refine ⟨c,?_,by simpa using h2⟩;unfold Bs.zak;rw[h1];simp
theorem zlX(fns:List Nm)(q:Bs)(l:List Nm):∃ c,(q.zak fns l).drop l.length=⟨q.blocks,q.zac,q.code++c⟩/\c.length=l.length:=by
 obtain ⟨c,h1,h2⟩:=zd6 fns q l;refine ⟨c,?_,h2⟩;rw[h1];unfold Bs.drop;simp
theorem zfr(wk:Th.Ex->Nat->Bs->Bs)(fr:Th.Ex->List Nm)(b:Bs)(e:Th.Ex):∃ bl,zal wk fr b e=(⟨bl,b.zac,b.code⟩,(zal wk fr b e).2.1,zai b.zac (fr e)):=by
 refine ⟨(zal wk fr b e).1.blocks,?_⟩;unfold zal Bs.zhD;split
 ·split <;> rfl
 ·split <;> rfl
theorem zpz(wk:Th.Ex->Nat->Bs->Bs)(fr:Th.Ex->List Nm)(fns:List Nm)(b:Bs)(e:Th.Ex):∃ bl c,zaI wk fr fns b e=⟨bl,b.zac++[[]],b.code++c⟩/\1<=c.length/\c.length<=(fr e).length+1/\(bl=b.blocks\/e.kind≠2/\e.kind≠1/\bl=(zal wk fr b e).1.blocks):=by
 unfold zaI;split
 ·obtain ⟨i,h⟩:=zw2 fns b e.tok.s;exact ⟨_,_,h,by simp,by simp,.inl rfl⟩
 ·next h2=>
  split
  ·exact ⟨_,_,rfl,by simp,by simp,.inl rfl⟩
  ·next h1=>
   split
   ·exact ⟨_,_,rfl,by simp,by simp,.inl rfl⟩
   ·obtain ⟨bl,h⟩:=zfr wk fr b e;obtain ⟨c,h3,h4⟩:=zlX fns ⟨bl,b.zac,b.code⟩ (zai b.zac (fr e));have h5:=zbg b.zac (fr e);refine ⟨bl,c++[.close (zal wk fr b e).2.1 (zai b.zac (fr e)).length],?_,by simp,by simp;omega,.inr ⟨h2,h1,by rw[h]⟩⟩;rw[h];simp only;rw[h3];simp[Bs.push]
theorem zbj{f:Th.Ex->Nat}{x:Th.Ex}:∀ {l:List Th.Ex},x∈l->f x<=(l.map f).sum
 |y::l,h=>by
  rw[zza,zzd];rcases zzo.1 h with rfl|h
  ·omega
  ·have:=zbj (f:=f) h;omega
variable {n:Nat}{e:Th.Ex}
theorem Dp.zgZ{k:Th.Ex}(h:Dp n e)(hk:k∈e.kids):Cp.wt n k+1<=Cp.wt n e:=by
 have:=zbj (f:=Cp.wt n) hk;rw[h.wt];omega
theorem zeY{N:Nat}:∀ (m:Nat) (e:Th.Ex),Dp N e->wt N (spread m e).1+((spread m e).2.map (wt N)).sum+(spread m e).2.length<=wt N e/\Dp N (spread m e).1/\∀ x∈(spread m e).2,Dp N x
 |0,e,h=>by simp[spread,h]
 |m+1,e,h=>by
  rw[spread];split
  ·next f a hk=>
   have h1:=h.kid (k:=f) (by simp[hk]);have h2:=h.kid (k:=a) (by simp[hk]);have hw:=h.wt;rw[hk]at hw;simp at hw;split
   ·obtain ⟨i1,i2,i3⟩:=zeY m f h1;refine ⟨by simp;omega,i2,fun x hx=>?_⟩;rcases zzi.1 hx with hx|hx
    ·exact i3 x hx
    ·rw[zze.1 hx];exact h2
   ·exact ⟨by simp;omega,h1,by simp[h2]⟩
  ·simp[h]
theorem zhU{m:Nat}{f a:Th.Ex}(hk:e.kids=[f,a]):1<=(spread (m+1) e).2.length:=by
 rw[spread,hk];simp only;split
 ·simp
 ·simp
def Cost (M N:Nat) (e:Th.Ex) (q q':Bs):Prop:=q'.code.length<=q.code.length+(M+8)*wt N e/\q'.zac.length<=q.zac.length+(M+8)*wt N e/\q'.blocks.length+1<=q.blocks.length+8*wt N e
def zb8 (M N:Nat) (wk:Th.Ex->Nat->Bs->Bs):Prop:=∀ e below q,Dp N e->wt N e<=M->Cost M N e q (wk e below q)
variable {M N:Nat}{wk:Th.Ex->Nat->Bs->Bs}
theorem zh7(hw:zb8 M N wk)(b:Bs)(hd:Dp N e)(hm:wt N e<=M):(zal wk (free N) b e).1.blocks.length<=b.blocks.length+8*wt N e:=by
 have hp:=hd.pos;unfold zal Bs.zhD;by_cases h4:e.kind=4
 ·obtain ⟨_,d,hk⟩:=hd.zea.k4 h4;have h1:=hd.kid (k:=d) (by simp[hk]);have h2:=hd.zgZ (k:=d) (by simp[hk]);simp only[h4,if_true,hk];have h3:=(hw d 0 ⟨b.blocks,(zai b.zac (free N e)++Th.texts e.names).reverse,[]⟩ h1 (by omega)).2.2;simp only[zyT,zy0];simp only at h3;omega
 ·by_cases h3:e.kind=3
  ·simp only[h3,if_true,Bs.write];simp;omega
  ·simp only[h4,h3,if_false];have h5:=(hw e 0 ⟨b.blocks,(zai b.zac (free N e)).reverse,[]⟩ hd hm).2.2;simp only[zyT,zy0];simp only at h5;omega
theorem znR(hw:zb8 M N wk)(fns:List Nm)(b:Bs)(hd:Dp N e)(hm:wt N e<=M):(zaI wk (free N) fns b e).blocks.length<=b.blocks.length+8*wt N e/\(zaI wk (free N) fns b e).zac=b.zac++[[]]/\(zaI wk (free N) fns b e).code.length<=b.code.length+(M+1):=by
 obtain ⟨bl,c,h1,_,h2,h3⟩:=zpz wk (free N) fns b e;have hl:=zaZ N e;rw[h1];refine ⟨?_,rfl,by simp;omega⟩;rcases h3 with h3|⟨_,_,h3⟩
 ·rw[h3];simp
 ·rw[h3];exact zh7 hw b hd hm
theorem zcf{M N:Nat}{wk:Th.Ex->Nat->Bs->Bs}(hw:zb8 M N wk)(fns:List Nm):∀ (l:List Th.Ex) (b:Bs),(∀ x∈l,Dp N x/\wt N x<=M) ->
  (l.foldl (zaI wk (free N) fns) b).blocks.length<=b.blocks.length+8*(l.map (wt N)).sum/\(l.foldl (zaI wk (free N) fns) b).zac=b.zac++List.replicate l.length []/\(l.foldl (zaI wk (free N) fns) b).code.length<=b.code.length+(M+1)*l.length
 |[],b,_=>by simp
 |x::l,b,h=>by
  obtain ⟨a1,a2,a3⟩:=znR hw fns b (h x (by simp)).1 (h x (by simp)).2;obtain ⟨b1,b2,b3⟩:=zcf hw fns l (zaI wk (free N) fns b x) (fun y hy=>h y (by simp[hy]));rw[zz2];refine ⟨?_,?_,?_⟩
  ·rw[zza,zzd];omega
  ·rw[b2,a2];simp[zz4]
  ·rw[zy8,zzI];omega
theorem zg2{M N:Nat}{wk:Th.Ex->Nat->Bs->Bs}(hw:zb8 M N wk):∀ (l:List Th.Ex) (b:Bs) (a:List (List Nm)),(∀ x∈l,Dp N x/\wt N x<=M)->(∀ x∈a,x.length<=M) ->
  (makeAll wk (free N) l b a).1.blocks.length<=b.blocks.length+8*(l.map (wt N)).sum/\(makeAll wk (free N) l b a).1.zac=b.zac/\(makeAll wk (free N) l b a).1.code.length=b.code.length+l.length/\(makeAll wk (free N) l b a).2=a++l.map (fun p=>zai b.zac (free N p))/\∀ x∈(makeAll wk (free N) l b a).2,x.length<=M
 |[],b,a,_,ha=>by simp[makeAll];exact ha
 |p::l,b,a,h,ha=>by
  obtain ⟨bl,hc⟩:=zfr wk (free N) b p;have h1:=zh7 hw b (h p (by simp)).1 (h p (by simp)).2;have h2:=(h p (by simp)).2;have hl:=zyR (zbg b.zac (free N p)) (zaZ N p);obtain ⟨b1,b2,b3,b4,b5⟩:=zg2 hw l ((zal wk (free N) b p).1.write (.hold (zal wk (free N) b p).2.1 (zal wk (free N) b p).2.2.length)) (a++[(zal wk (free N) b p).2.2]) (fun y hy=>h y (by simp[hy])) (by
   intro x hx;rcases zzi.1 hx with hx|hx
   ·exact ha x hx
   ·rw[zze.1 hx,hc];simp only;omega)
  have hs:(zal wk (free N) b p).1.zac=b.zac:=by rw[hc]
  have hk:(zal wk (free N) b p).1.code=b.code:=by rw[hc]
  have hn:(zal wk (free N) b p).2.2=zai b.zac (free N p):=by rw[hc]
  rw[makeAll];simp only[Bs.write]at b1 b2 b3 b4 b5 ⊢;refine ⟨?_,?_,?_,?_,b5⟩
  ·rw[zza,zzd];omega
  ·rw[b2,hs]
  ·rw[b3,hk];simp;omega
  ·rw[b4,hs,hn];simp
theorem zje{M:Nat}(fns:List Nm):∀ (l:List (List Nm)) (i:Nat) (b:Bs),(∀ x∈l,x.length<=M) ->
  (zbf fns i l b).blocks=b.blocks/\(zbf fns i l b).zac=b.zac/\(zbf fns i l b).code.length<=b.code.length+(M+1)*l.length
 |[],_,b,_=>by simp[zbf]
 |x::l,i,b,h=>by
  obtain ⟨c,h1,h2⟩:=zlX fns b x;have hx:=h x (by simp);obtain ⟨b1,b2,b3⟩:=zje fns l (i+1) (((b.zak fns x).drop x.length).write (.fill i x.length)) (fun y hy=>h y (by simp[hy]));rw[zbf];simp only[Bs.write,h1]at b1 b2 b3 ⊢;refine ⟨b1,b2,?_⟩;simp only[zyT,zy8,zzm]at b3 ⊢;rw[zzI];omega
theorem zeH{M N:Nat}{wk:Th.Ex->Nat->Bs->Bs}(hw:zb8 M N wk)(names:List Nm):∀ (az:List (Nat × List Th.Tok)) (ds:List Th.Ex) (b:Bs) (l:List (Nat × Nat × Nat)),(∀ x∈ds,Dp N x/\wt N x<=M) ->
  (armsOf wk names az ds b l).1.blocks.length<=b.blocks.length+8*(ds.map (wt N)).sum/\(armsOf wk names az ds b l).1.zac=b.zac/\(armsOf wk names az ds b l).1.code=b.code
 |[],ds,b,l,_=>by simp[armsOf]
 |_::_,[],b,l,_=>by simp[armsOf]
 |a::az,d::ds,b,l,h=>by
  have h1:=(hw d 0 ⟨b.blocks,(Th.texts a.2++names).reverse,[]⟩ (h d (by simp)).1 (h d (by simp)).2).2.2;obtain ⟨b1,b2,b3⟩:=zeH hw names az ds (b.zhD (Th.texts a.2++names).reverse (wk d 0)).1 (l++[(a.1,a.2.length,(b.zhD (Th.texts a.2++names).reverse (wk d 0)).2)]) (fun y hy=>h y (by simp[hy]));rw[armsOf];refine ⟨?_,b2,b3⟩;rw[zza,zzd];simp only[Bs.zhD,zyT,zy0]at b1 h1 ⊢;omega
theorem zrZ{α:Type}(l xs:List α)(y:α):Go.splice (l++List.replicate xs.length y) l.length xs=l++xs:=by
 unfold Go.splice;simp
theorem zcs(l:List Th.Tok):(Th.texts l).length=l.length:=by simp[Th.texts]
def zdq (wk:Th.Ex->Nat->Bs->Bs) (fr:Th.Ex->List Nm) (fns:List Nm) (e:Th.Ex) (ps:List Th.Ex) (b:Bs):Bs:=
 if e.kind=8 then
  let r:=makeAll wk fr ps { b with zac:=b.zac++Th.texts e.names } []
  zbf fns b.zac.length r.2 r.1
 else
  let b1:=ps.foldl (zaI wk fr fns) b
  { b1 with zac:=Go.splice b1.zac b.zac.length (Th.texts e.names) }
variable {d:Th.Ex}
theorem zei{fr:Th.Ex->List Nm}{fns:List Nm}{ps:List Th.Ex}(hk:e.kids=d::ps)(b:Bs):zkD wk fr fns e b=wk d 0 (zdq wk fr fns e ps b):=by
 unfold zkD zdq;rw[hk];simp only;split
 ·rfl
 ·rfl
theorem zdU(hw:zb8 M N wk)(fns:List Nm){ps:List Th.Ex}(hk:e.kids=d::ps)(hl:ps.length=e.names.length)(b:Bs)(hd:Dp N e)(hm:wt N e<=M):
  (zdq wk (free N) fns e ps b).blocks.length<=b.blocks.length+8*(ps.map (wt N)).sum/\(zdq wk (free N) fns e ps b).zac=b.zac++Th.texts e.names/\(zdq wk (free N) fns e ps b).code.length<=b.code.length+(M+8)*e.names.length:=by
 have sQ:∀ x∈ps,Dp N x/\wt N x<=M:=fun x hx=>⟨hd.kid (by simp[hk,hx]),by have:=hd.zgZ (k:=x) (by simp[hk,hx]);omega⟩
 unfold zdq;have hmul:(M+8)*e.names.length=(M+1)*e.names.length+7*e.names.length:=by rw[<-Nat.add_mul]
 split
 ·obtain ⟨a1,a2,a3,a4,a5⟩:=zg2 hw ps { b with zac:=b.zac++Th.texts e.names } [] sQ (by simp);obtain ⟨b1,b2,b3⟩:=zje (M:=M) fns (makeAll wk (free N) ps { b with zac:=b.zac++Th.texts e.names } []).2 b.zac.length (makeAll wk (free N) ps { b with zac:=b.zac++Th.texts e.names } []).1 a5;simp only;refine ⟨by rw[b1];exact a1,by rw[b2,a2],?_⟩;have hlen:(makeAll wk (free N) ps { b with zac:=b.zac++Th.texts e.names } []).2.length=e.names.length:=by rw[a4];simp[hl]
  rw[hlen]at b3;rw[hl]at a3;simp only at a3;omega
 ·obtain ⟨a1,a2,a3⟩:=zcf hw fns ps b sQ;simp only;refine ⟨a1,?_,?_⟩
  ·rw[a2,hl,<-zcs e.names,zrZ]
  ·rw[hl]at a3;omega
def zbo (q:Bs) (names:List Nm) (e:Th.Ex):Bs:=⟨q.blocks++[(2,[.comp ⟨e.tok.s.toArray⟩,.enter])],([]::names).reverse++[[]]++[[]],[.zbX,.push (([]::names).reverse.length-1),.wait q.blocks.length]⟩
theorem zh3{fr:Th.Ex->List Nm}(fns:List Nm)(n below:Nat)(q:Bs){l r:Th.Ex}(h6:e.kind=6)(hk:e.kids=[l,r]):work fr fns (n+1) e below q =
  work fr fns n l (below+(zai q.zac (fr r)).length+1) ((Bs.zak fns ⟨(work fr fns n r 2 (zbo q (zai q.zac (fr r)) e)).blocks++[((zai q.zac (fr r)).length+1,(work fr fns n r 2 (zbo q (zai q.zac (fr r)) e)).code)],q.zac,q.code⟩ (zai q.zac (fr r))).push (.wait (work fr fns n r 2 (zbo q (zai q.zac (fr r)) e)).blocks.length)):=by
 have hl:([]::zai q.zac (fr r)).reverse.length=(zai q.zac (fr r)).length+1:=by simp
 rw[work,if_neg (by omega),if_pos h6,hk,<-hl];rfl
theorem zfk{fr:Th.Ex->List Nm}(fns:List Nm)(n below:Nat)(q:Bs){s:Th.Ex}{ds:List Th.Ex}(h9:e.kind=9)(hk:e.kids=s::ds){names:List Nm}(hn:names=zai q.zac (zas fr e.zao ds [])){ao:Bs × List (Nat × Nat × Nat)}(ha:ao=armsOf (work fr fns n) names e.zao ds ⟨q.blocks,([]::names).reverse,[]⟩ []):work fr fns (n+1) e below q =
  work fr fns n s (below+names.length+1) ((Bs.zak fns ⟨ao.1.blocks++[(names.length+1,ao.1.code++[.choose ao.2])],q.zac,q.code⟩ names).push (.wait ao.1.blocks.length)):=by
 have hl:([]::names).reverse.length=names.length+1:=by simp
 rw[work,if_neg (by omega),if_neg (by omega),if_pos h9,hk,<-hl,ha,hn];rfl
theorem zaK(M N:Nat)(fns:List Nm):∀ n:Nat,zb8 M N (work (free N) fns n)
 |0=>fun e below q hd hm=>by
  have:=hd.pos;rw[work];exact ⟨by omega,by omega,by omega⟩
 |n+1=>fun e below q hd hm=>by
  have ih:=zaK M N fns n;have hp:=hd.pos;have dj:=hd.wt;have hlen:=zaZ N e;have Ao:=zbg q.zac (free N e);have hK:M+8<=(M+8)*wt N e:=zzU _ hp;have eE:=hd.zea;have fN:=eE.lo;have gS:=eE.hi;unfold Cost;by_cases h5:e.kind=5
  ·obtain ⟨f,a,hk⟩:=eE.k5 (.inl h5);rw[work];simp only[h5,if_true];obtain ⟨s1,s2,s3⟩:=zeY (n+1) e hd;have s4:=zhU (m:=n) hk;generalize spread (n+1) e=s at s1 s2 s3 s4 ⊢;obtain ⟨fe,es⟩:=s;simp only at s1 s2 s3 s4 ⊢;have xx:∀ x∈es.reverse,Dp N x/\wt N x<=M:=fun x hx=>⟨s3 x (by simpa using hx),by have:=zbj (f:=wt N) (x:=x) (l:=es) (by simpa using hx);omega⟩
   obtain ⟨a1,a2,a3⟩:=zcf ih fns es.reverse q xx;generalize es.reverse.foldl (zaI (work (free N) fns n) (free N) fns) q=b1 at a1 a2 a3 ⊢;obtain ⟨c1,c2,c3⟩:=ih fe (below+es.length+1) (b1.push (.zbF es.length)) s2 (by omega);simp only[Bs.push,zyT,zy0]at c1 c2 c3 ⊢;have dh:(es.reverse.map (wt N)).sum=(es.map (wt N)).sum:=by rw[List.map_reverse,List.sum_reverse]
   rw[dh]at a1;have Du:b1.zac.length=q.zac.length+es.length:=by rw[a2];simp
   rw[zy4]at a3;have hmul:(M+8)*(wt N fe+es.length+1)<=(M+8)*wt N e:=zzp _ (by
    have:1<=(es.map (wt N)).sum:=by
     cases es with
     |nil=>simp at s4
     |cons x es=>have:=(s3 x (by simp)).pos;simp;omega
    omega)
   rw[zzI,zzI]at hmul;have jo:(M+1)*es.length<=(M+8)*es.length:=Nat.mul_le_mul_right _ (by omega);have sH:es.length<=(M+8)*es.length:=zzX _ (by omega);exact ⟨by omega,by omega,by omega⟩
  ·by_cases h6:e.kind=6
   ·obtain ⟨l,r,hk⟩:=eE.k5 (.inr h6);rw[zh3 fns n below q h6 hk];have hl:=hd.kid (k:=l) (by simp[hk]);have hr:=hd.kid (k:=r) (by simp[hk]);rw[hk]at dj;simp at dj;have bd:=zaZ N r;have E6:=zbg q.zac (free N r);have h1:=(ih r 2 (zbo q (zai q.zac (free N r)) e) hr (by omega)).2.2;have bJ:(zbo q (zai q.zac (free N r)) e).blocks.length=q.blocks.length+1:=by simp[zbo]
    rw[bJ]at h1;clear bJ;generalize zai q.zac (free N r)=names at E6 h1 ⊢;generalize work (free N) fns n r 2 (zbo q names e)=R at h1 ⊢;obtain ⟨c,u1,u2⟩:=zd6 fns ⟨R.blocks++[(names.length+1,R.code)],q.zac,q.code⟩ names;rw[u1];simp only[Bs.push];obtain ⟨d1,d2,d3⟩:=ih l (below+names.length+1) ⟨R.blocks++[(names.length+1,R.code)],q.zac++List.replicate names.length []++[[]],q.code++c++[.wait R.blocks.length]⟩ hl (by omega);have hmul:(M+8)*(wt N l+1)<=(M+8)*wt N e:=zzp _ (by omega);rw[zzI]at hmul;simp only[zyT,zy0,zzz]at d1 d2 d3;exact ⟨by omega,by omega,by omega⟩
   ·by_cases h9:e.kind=9
    ·obtain ⟨aH,s,ds,hk,rY⟩:=eE.k9 h9;have hs:=hd.kid (k:=s) (by simp[hk]);have r6:∀ x∈ds,Dp N x/\wt N x<=M:=fun x hx=>⟨hd.kid (by simp[hk,hx]),by have:=hd.zgZ (k:=x) (by simp[hk,hx]);omega⟩
     rw[hk]at dj;simp at dj;have aU:=zbN (free N) (wt N) (zaZ N) e.zao ds [];have rN:=zbg q.zac (zas (free N) e.zao ds []);obtain ⟨names,iZ⟩:∃ names,names=zai q.zac (zas (free N) e.zao ds []):=⟨_,rfl⟩;rw[<-iZ]at rN;obtain ⟨ao,mJ⟩:∃ ao,ao=armsOf (work (free N) fns n) names e.zao ds ⟨q.blocks,([]::names).reverse,[]⟩ []:=⟨_,rfl⟩;obtain ⟨a1,a2,a3⟩:=zeH ih names e.zao ds ⟨q.blocks,([]::names).reverse,[]⟩ [] r6;rw[<-mJ]at a1;rw[zfk fns n below q h9 hk iZ mJ];obtain ⟨c,u1,u2⟩:=zd6 fns ⟨ao.1.blocks++[(names.length+1,ao.1.code++[.choose ao.2])],q.zac,q.code⟩ names;rw[u1];simp only[Bs.push];obtain ⟨d1,d2,d3⟩:=ih s (below+names.length+1) ⟨ao.1.blocks++[(names.length+1,ao.1.code++[.choose ao.2])],q.zac++List.replicate names.length []++[[]],q.code++c++[.wait ao.1.blocks.length]⟩ hs (by omega);have hmul:(M+8)*(wt N s+1)<=(M+8)*wt N e:=zzp _ (by omega);rw[zzI]at hmul;simp only[zyT,zy0,zzz,zzm,zzG]at d1 d2 d3 aU;simp only at a1;exact ⟨by omega,by omega,by omega⟩
    ·by_cases h7:e.kind=7\/e.kind=8
     ·obtain ⟨aH,d,ps,hk,gK⟩:=eE.k7 h7;rw[work];simp only[h5,h6,h9,h7,if_false,if_true];have iX:=hd.kid (k:=d) (by simp[hk]);rw[hk]at dj;simp at dj;have hmul:(M+8)*(wt N d+e.names.length)<=(M+8)*wt N e:=zzp _ (by omega);rw[zzI]at hmul;have ev:e.names.length<=(M+8)*e.names.length:=zzX _ (by omega);split
      ·rw[zei hk];obtain ⟨a1,a2,a3⟩:=zdU ih fns hk gK q hd hm;obtain ⟨d1,d2,d3⟩:=ih d 0 (zdq (work (free N) fns n) (free N) fns e ps q) iX (by omega);rw[a2,zyT,zcs]at d2;exact ⟨by omega,by omega,by omega⟩
      ·simp only[Bs.zhD,Bs.ends,Bs.write];obtain ⟨c,u1,u2⟩:=zd6 fns q (zai q.zac (free N e));rw[u1];simp only;rw[zei hk];obtain ⟨a1,a2,a3⟩:=zdU ih fns hk gK ⟨q.blocks,(zai q.zac (free N e)).reverse,[]⟩ hd hm;obtain ⟨d1,d2,d3⟩:=ih d 0 (zdq (work (free N) fns n) (free N) fns e ps ⟨q.blocks,(zai q.zac (free N e)).reverse,[]⟩) iX (by omega);simp only at a1;simp only[zyT,zy0,zzz];exact ⟨by omega,by omega,by omega⟩
     ·rw[work];simp only[h5,h6,h9,h7,if_false];obtain ⟨bl,c,k1,_,k2,k3⟩:=zpz (work (free N) fns n) (free N) fns q e;rw[k1];simp only[Bs.ends,Bs.write,zyT,zy0];refine ⟨by omega,by omega,?_⟩;rcases k3 with k3|⟨i1,i2,k3⟩
      ·rw[k3];omega
      ·rw[k3];have EJ:e.kind=3\/e.kind=4:=by omega
       unfold zal Bs.zhD;rcases EJ with h3|h4
       ·simp only[h3,if_true,Bs.write];simp;omega
       ·obtain ⟨_,d,hk⟩:=eE.k4 h4;have iX:=hd.kid (k:=d) (by simp[hk]);have h2:=hd.zgZ (k:=d) (by simp[hk]);simp only[h4,if_true,hk];have h3:=(ih d 0 ⟨q.blocks,(zai q.zac (free N e)++Th.texts e.names).reverse,[]⟩ iX (by omega)).2.2;simp only[zyT,zy0];simp only at h3;omega
end Cp
end Go.Proofs.YtgahgkddaljmkaaGreatDoor
namespace Go.Proofs.YtgahgkddaljmkaaGreatDoor
open Tryz
open Go.RowKit Go.Shelf
variable {M N:Nat}{fns:List Cp.Nm}{q:Cp.Bs}{e:Th.Ex}
theorem Fit.prod(h:Fit M N fns q e):(M+8)*Cp.wt N e<=25040000:=by
 have h1:=h.wt;have h2:=h.mm;exact zyR (zAg (show M+8<=5008 by omega) (show Cp.wt N e<=5000 by omega)) (by decide)
theorem Fit.len(h:Fit M N fns q e):(Cp.free N e).length<=5000:=by
 have h1:=h.wt;have h2:=h.mm;have:=Cp.zaZ N e;omega
theorem Fit.hlen(h:Fit M N fns q e)(sl:List Cp.Nm):(Cp.zai sl (Cp.free N e)).length<=5000:=zyR (Cp.zbg _ _) h.len
theorem Fit.hin(h:Fit M N fns q e)(sl:List Cp.Nm):∀ x∈Cp.zai sl (Cp.free N e),x≠[]/\(Cp.za9 q.zac x=none->x∈fns):=fun x hx=>by
 obtain ⟨h1,h2⟩:=h.nm x (Cp.zbK.1 hx).1;refine ⟨h1,fun hs=>?_⟩;rcases h2 with h2|h2
 ·exact absurd h2 (Cp.zca.1 hs)
 ·exact h2
theorem Fit.susp(h:Fit M N fns q e):Fit M N fns ⟨q.blocks,(Cp.zai q.zac (Cp.free N e)).reverse,[]⟩ e:=by
 have hp:=h.prod;have hl:=h.hlen q.zac;refine ⟨h.dp,h.wt,h.mm,h.fl,fun x hx=>?_,by simp;omega,by simp;omega,h.bl⟩;obtain ⟨h1,h2⟩:=h.nm x hx;refine ⟨h1,?_⟩;rcases h2 with h2|h2
 ·exact .inl (by simp[Cp.zbK,hx,h2])
 ·exact .inr h2
variable {d:Th.Ex}
theorem Fit.lam(h:Fit M N fns q e)(h4:e.kind=4)(hk:e.kids=[d]):Fit M N fns ⟨q.blocks,(Cp.zai q.zac (Cp.free N e)++Th.texts e.names).reverse,[]⟩ d/\(Cp.zai q.zac (Cp.free N e)).length+e.names.length<=10000:=by
 have hp:=h.prod;have hl:=h.hlen q.zac;have hw:=h.wt;have hm:=h.mm;have cV:=h.bl;have cK:=h.dp.zgZ (k:=d) (by simp[hk]);have EK:(M+8)*Cp.wt N d<=(M+8)*Cp.wt N e:=zzp _ (by omega);have hn:e.names.length<=5000:=by have:=h.dp.wt;omega
 have ak:=h.dp.free;rw[hk]at ak;simp only[h4]at ak;simp at ak;have ht:=Cp.zcs e.names;refine ⟨⟨h.dp.kid (by simp[hk]),by omega,h.mm,h.fl,fun x hx=>?_,by simp;omega,by simp;omega,by simp only;omega⟩,by omega⟩;by_cases fT:x∈Th.texts e.names
 ·have aH:x≠[]:=by
   obtain ⟨t,h1,h2⟩:=zz1.1 fT;rw[<-h2];exact h.dp.zea.nm t h1
  exact ⟨aH,.inl (by simp[fT])⟩
 ·have uT:x∈Cp.free N e:=by rw[ak];exact Cp.zaN.2 ⟨hx,fT⟩
  obtain ⟨h1,h2⟩:=h.nm x uT;refine ⟨h1,?_⟩;rcases h2 with h2|h2
  ·exact .inl (by simp[Cp.zbK,uT,h2])
  ·exact .inr h2
variable {fr:Th.Ex->List Cp.Nm}
theorem Cp.zh8{wk:Th.Ex->Nat->Cp.Bs->Cp.Bs}(q:Cp.Bs)(h3:e.kind≠3)(h4:e.kind≠4):Cp.zal wk fr q e=(⟨(wk e 0 ⟨q.blocks,(Cp.zai q.zac (fr e)).reverse,[]⟩).blocks++[((Cp.zai q.zac (fr e)).reverse.length,(wk e 0 ⟨q.blocks,(Cp.zai q.zac (fr e)).reverse,[]⟩).code)],q.zac,q.code⟩,(wk e 0 ⟨q.blocks,(Cp.zai q.zac (fr e)).reverse,[]⟩).blocks.length,Cp.zai q.zac (fr e)):=by
 unfold Cp.zal Cp.Bs.zhD;simp only[if_neg h4,if_neg h3]
variable {n:Nat}{Z:Nat->Prop}{w:World}{cb bb:Nat}{rv sv kv v:Value}
theorem zwq(hW:zbi M N n)(h:BS Z w cb bb rv sv kv fns q)(hr:Rep Z w n v e)(hf:Fit M N fns q e):
  ∀ W nv,Fr (fun _=>False) w W->Names w.heap.size W nv (Cp.zai q.zac (Cp.free N e))->Calls prog 161 #[.pointer (some ⟨cb,0,none⟩),v,nv] W fun r w'=>r=.returned (.int .i64 (Cp.work (Cp.free N) fns n e 0 ⟨q.blocks,(Cp.zai q.zac (Cp.free N e)).reverse,[]⟩).blocks.length) /\
   zfH (fun k=>Z k\/nv.ownBlock=some k) W cb rv fns ((Cp.work (Cp.free N) fns n e 0 ⟨q.blocks,(Cp.zai q.zac (Cp.free N e)).reverse,[]⟩).blocks++[((Cp.zai q.zac (Cp.free N e)).reverse.length,(Cp.work (Cp.free N) fns n e 0 ⟨q.blocks,(Cp.zai q.zac (Cp.free N e)).reverse,[]⟩).code)]) w':=by
 intro W nv fW ay;have hc:=(Cp.zaK M N fns n e 0 ⟨q.blocks,(Cp.zai q.zac (Cp.free N e)).reverse,[]⟩ hf.dp hf.wt).2.2;have cV:=hf.bl;have hl:=hf.hlen q.zac;exact zkK hW (h.zp5 fW ay).cs (hr.frz fW (by simp) (fun _ _ x=>.inl x)) ⟨ay.1,fun k hk=>.inr hk⟩ hf.susp (by omega) (by simp only at hc;omega)
theorem Cp.zi8{wk:Th.Ex->Nat->Cp.Bs->Cp.Bs}(q:Cp.Bs)(h4:e.kind=4)(hk:e.kids=[d]):Cp.zal wk fr q e=(⟨(wk d 0 ⟨q.blocks,(Cp.zai q.zac (fr e)++Th.texts e.names).reverse,[]⟩).blocks++[((Cp.zai q.zac (fr e)++Th.texts e.names).reverse.length,(wk d 0 ⟨q.blocks,(Cp.zai q.zac (fr e)++Th.texts e.names).reverse,[]⟩).code)],q.zac,q.code⟩,(wk d 0 ⟨q.blocks,(Cp.zai q.zac (fr e)++Th.texts e.names).reverse,[]⟩).blocks.length,Cp.zai q.zac (fr e)):=by
 unfold Cp.zal Cp.Bs.zhD;simp only[if_pos h4,hk]
theorem Cp.zlg{wk:Th.Ex->Nat->Cp.Bs->Cp.Bs}(q:Cp.Bs)(h3:e.kind=3):Cp.zal wk fr q e=(⟨q.blocks++[((List.replicate e.arity ([]:Cp.Nm)).length,[.pack e.tag e.arity,.enter])],q.zac,q.code⟩,q.blocks.length,Cp.zai q.zac (fr e)):=by
 unfold Cp.zal Cp.Bs.zhD;have h4:¬ e.kind=4:=by omega
 simp only[if_neg h4,if_pos h3];rfl
abbrev znk (_M N n:Nat) (Z:Nat->Prop) (w:World) (cb bb:Nat) (rv sv kv v:Value) (fns:List Cp.Nm) (q:Cp.Bs) (e:Th.Ex):Prop:=
 Calls prog 165 #[.pointer (some ⟨bb,0,none⟩),v] w fun r w'=>∃ nv,r=.returned (.tuple #[.int .i64 (Cp.zal (Cp.work (Cp.free N) fns n) (Cp.free N) q e).2.1,nv])/\znm Z w cb bb rv sv kv fns (Cp.zal (Cp.work (Cp.free N) fns n) (Cp.free N) q e).1 w' nv (Cp.zai q.zac (Cp.free N e))
theorem zhG(hW:zbi M N n)(hn:n+1<=N)(h:BS Z w cb bb rv sv kv fns q)(hr:Rep Z w (n+1) v e)(hf:Fit M N fns q e)(mN:e.kind=3\/e.kind=4):znk M N n Z w cb bb rv sv kv v fns q e:=by
 have hw:=hf.wt;have hm:=hf.mm;have ak:=zgU N (hr.le hn) (by omega);have aL:=hf.len;have aK:=hf.sl;have cV:=hf.bl;have lq:=hf.hlen q.zac;unfold znk;rcases hr with ⟨hk,rfl⟩|⟨hk,rfl⟩|⟨hk,rfl⟩|⟨hk,bf,bv,b,k1,rfl,k3,k4⟩|⟨hk,u1,u2,d1,d2,k1,rfl,k3,k4⟩|⟨hk,u1,u2,d1,d2,k1,rfl,k3,k4⟩|⟨hk,bf,bv,b,parts,pvs,k1,rfl,k3,k4,k5,k6,k7⟩|⟨hk,cv,bf,b,ag,nvs,bvs,k1,rfl,k3,k4,k5,k6,k7,k8,k9⟩
 ·omega
 ·omega
 ·rw[Cp.zlg q hk];refine zmb h ak rfl (by omega) (by omega) (fun W nv fW ay=>?_);exact zrK rfl (h.zp5 fW ay).cs (by omega) (by have:=hf.dp.zea.ar;omega)
 ·rw[Cp.zi8 q hk k1];obtain ⟨bZ,iZ⟩:=hf.lam hk k1;have hc:=(Cp.zaK M N fns n b 0 ⟨q.blocks,(Cp.zai q.zac (Cp.free N e)++Th.texts e.names).reverse,[]⟩ bZ.dp bZ.wt).2.2;have oS:=bZ.bl;obtain ⟨pp,pn,pc,rfl⟩:=zae k3;obtain ⟨bt,bx,rfl⟩:=zah k4;refine zky h ak rfl (by omega) (by omega) (fun W nv fW ay=>?_);exact zrz hW rfl rfl (h.zp5 fW ay).cs (k4.frz fW (by simp) (fun _ _ x=>.inl x)) (k3.frz fW (by simp) (fun _ _ x=>.inl x)) ⟨ay.1,fun k hk=>.inr hk⟩ bZ (by omega) (by simp only at hc oS;omega)
 all_goals omega
theorem zeL(hW:zbi M N n)(hn:n+1<=N)(h:BS Z w cb bb rv sv kv fns q)(hr:Rep Z w n v e)(hf:Fit M N fns q e):znk M N n Z w cb bb rv sv kv v fns q e:=by
 by_cases mN:e.kind=3\/e.kind=4
 ·exact zhG hW hn h (hr.le (zz8 n)) hf mN
 have hw:=hf.wt;have hm:=hf.mm;have ak:=zgU N (hr.le (Nat.le_of_succ_le hn)) (by omega);have aL:=hf.len;have aK:=hf.sl;have mZ:=zwq hW h hr hf;unfold znk;rw[Cp.zh8 q (fun e=>mN (.inl e)) (fun e=>mN (.inr e))];cases n with
 |zero=>exact hr.elim
 |succ n=>
  rcases hr with ⟨hk,rfl⟩|⟨hk,rfl⟩|⟨hk,rfl⟩|⟨hk,bf,bv,b,k1,rfl,k3,k4⟩|⟨hk,u1,u2,d1,d2,k1,rfl,k3,k4⟩|⟨hk,u1,u2,d1,d2,k1,rfl,k3,k4⟩|⟨hk,bf,bv,b,parts,pvs,k1,rfl,k3,k4,k5,k6,k7⟩|⟨hk,cv,bf,b,ag,nvs,bvs,k1,rfl,k3,k4,k5,k6,k7,k8,k9⟩
  ·obtain ⟨-,-,i1,-,-,-,-,i0,-⟩:=zGX;exact zE3 i0 i1 h ak rfl (by omega) (by omega) mZ
  ·obtain ⟨-,-,i1,-,-,-,-,i0,-⟩:=zG6;exact zE3 i0 i1 h ak rfl (by omega) (by omega) mZ
  ·omega
  ·omega
  ·obtain ⟨-,-,-,i1,-,-,-,i0,-⟩:=zG1;exact zE3 i0 i1 h ak rfl (by omega) (by omega) mZ
  ·obtain ⟨-,-,-,i1,-,-,-,i0,-⟩:=zGV;exact zE3 i0 i1 h ak rfl (by omega) (by omega) mZ
  ·obtain ⟨-,-,-,i1,-,-,-,i0,-⟩:=zG5;exact zE3 i0 i1 h ak rfl (by omega) (by omega) mZ
  ·obtain ⟨-,-,-,i1,-,-,-,i0,-⟩:=zG2;exact zE3 i0 i1 h ak rfl (by omega) (by omega) mZ
abbrev zqe (_M N n:Nat) (Z:Nat->Prop) (w:World) (cb bb:Nat) (rv sv kv v:Value) (fns:List Cp.Nm) (q:Cp.Bs) (e:Th.Ex):Prop:=
 Calls prog 95 #[.pointer (some ⟨bb,0,none⟩),v] w fun r w'=>r=.returned (.tuple #[])/\Did Z w cb bb rv sv kv fns (Cp.zaI (Cp.work (Cp.free N) fns n) (Cp.free N) fns q e) w'
theorem Cp.zgX{wk:Th.Ex->Nat->Cp.Bs->Cp.Bs}(q:Cp.Bs)(h1:e.kind≠1)(h2:e.kind≠2)(h3:¬ (e.kind=3/\e.arity=0)):Cp.zaI wk fr fns q e=(((Cp.zal wk fr q e).1.zak fns (Cp.zai q.zac (fr e))).drop (Cp.zai q.zac (fr e)).length).push (.close (Cp.zal wk fr q e).2.1 (Cp.zai q.zac (fr e)).length):=by
 unfold Cp.zaI;simp only[if_neg h2,if_neg h1,if_neg h3];rfl
theorem Cp.zck(wk:Th.Ex->Nat->Cp.Bs->Cp.Bs)(fr:Th.Ex->List Cp.Nm)(q:Cp.Bs)(e:Th.Ex):(Cp.zal wk fr q e).1.zac=q.zac/\(Cp.zal wk fr q e).1.code=q.code:=by
 obtain ⟨bl,h⟩:=Cp.zfr wk fr q e;rw[h];exact ⟨rfl,rfl⟩
theorem zti(hW:zbi M N n)(hn:n+1<=N)(h:BS Z w cb bb rv sv kv fns q)(hr:Rep Z w (n+1) v e)(hf:Fit M N fns q e)(mM:e.kind<=4):zqe M N n Z w cb bb rv sv kv v fns q e:=by
 have hw:=hf.wt;have hm:=hf.mm;have aL:=hf.len;have aK:=hf.sl;have aN:=hf.cl;have bZ:=hf.fl;have lq:=hf.hlen q.zac;have hp:=hf.dp.pos;have hM:M+8<=(M+8)*Cp.wt N e:=zzU _ hp;have hle:=zyR (Cp.zbg q.zac (Cp.free N e)) (Cp.zaZ N e);have fQ:=hr;unfold zqe;have aE:=Cp.zck (Cp.work (Cp.free N) fns n) (Cp.free N) q e;rcases hr with ⟨hk,rfl⟩|⟨hk,rfl⟩|⟨hk,rfl⟩|⟨hk,bf,bv,b,k1,rfl,k3,k4⟩|⟨hk,u1,u2,d1,d2,k1,rfl,k3,k4⟩|⟨hk,u1,u2,d1,d2,k1,rfl,k3,k4⟩|⟨hk,bf,bv,b,parts,pvs,k1,rfl,k3,k4,k5,k6,k7⟩|⟨hk,cv,bf,b,ag,nvs,bvs,k1,rfl,k3,k4,k5,k6,k7,k8,k9⟩
 ·have he:Cp.zaI (Cp.work (Cp.free N) fns n) (Cp.free N) fns q e=q.push (.num e.n):=by unfold Cp.zaI;rw[if_neg (by omega),if_pos hk]
  rw[he];exact zpy h (by omega) (by omega)
 ·have he:Cp.zaI (Cp.work (Cp.free N) fns n) (Cp.free N) fns q e=q.use fns e.tok.s:=by unfold Cp.zaI;rw[if_pos hk]
  rw[he];have ak:=hf.dp.free;simp only[hk,if_true]at ak;obtain ⟨_,h2⟩:=hf.nm e.tok.s (by rw[ak];simp);refine zvC h e.tok.s (fun hs=>?_) (by omega) (by omega) (by omega);rcases h2 with h2|h2
  ·exact absurd h2 (Cp.zca.1 hs)
  ·exact h2
 ·by_cases ha:e.arity=0
  ·have he:Cp.zaI (Cp.work (Cp.free N) fns n) (Cp.free N) fns q e=q.push (.pack e.tag 0):=by unfold Cp.zaI;rw[if_neg (by omega),if_neg (by omega),if_pos ⟨hk,ha⟩]
   rw[he,ha];exact zpx h (by omega) (by omega)
  ·rw[Cp.zgX q (by omega) (by omega) (fun x=>ha x.2)];exact zrx h (by omega) (fun W fW=>zhG hW hn (h.fr0 fW) (fQ.fr0 fW) hf (.inl hk)) (by rw[aE.1];exact hf.hin q.zac) (by rw[aE.2];omega) (by rw[aE.1];omega) (by omega)
 ·rw[Cp.zgX q (by omega) (by omega) (fun x=>by omega)];obtain ⟨-,i0,i1,i2,-⟩:=zGW;exact zFd i0 i1 i2 h (fun W fW=>zhG hW hn (h.fr0 fW) (fQ.fr0 fW) hf (.inr hk)) (by rw[aE.1];exact hf.hin q.zac) (by rw[aE.2];omega) (by rw[aE.1];omega) (by omega)
 all_goals omega
theorem zwT(hW:zbi M N n)(hn:n+1<=N)(h:BS Z w cb bb rv sv kv fns q)(hr:Rep Z w n v e)(hf:Fit M N fns q e):zqe M N n Z w cb bb rv sv kv v fns q e:=by
 by_cases mM:e.kind<=4
 ·exact zti hW hn h (hr.le (zz8 n)) hf mM
 have hw:=hf.wt;have hm:=hf.mm;have aK:=hf.sl;have aN:=hf.cl;have bZ:=hf.fl;have lq:=hf.hlen q.zac;have hp:=hf.dp.pos;have hM:M+8<=(M+8)*Cp.wt N e:=zzU _ hp;have hle:=zyR (Cp.zbg q.zac (Cp.free N e)) (Cp.zaZ N e);have aE:=Cp.zck (Cp.work (Cp.free N) fns n) (Cp.free N) q e;have fQ:=hr;unfold zqe;rw[Cp.zgX q (by omega) (by omega) (fun x=>by omega)];cases n with
 |zero=>exact hr.elim
 |succ n=>
  rcases hr with ⟨hk,rfl⟩|⟨hk,rfl⟩|⟨hk,rfl⟩|⟨hk,bf,bv,b,k1,rfl,k3,k4⟩|⟨hk,u1,u2,d1,d2,k1,rfl,k3,k4⟩|⟨hk,u1,u2,d1,d2,k1,rfl,k3,k4⟩|⟨hk,bf,bv,b,parts,pvs,k1,rfl,k3,k4,k5,k6,k7⟩|⟨hk,cv,bf,b,ag,nvs,bvs,k1,rfl,k3,k4,k5,k6,k7,k8,k9⟩
  ·omega
  ·omega
  ·omega
  ·omega
  ·obtain ⟨-,i0,i1,i2,-⟩:=zG1;exact zFd i0 i1 i2 h (fun W fW=>zeL hW hn (h.fr0 fW) (fQ.fr0 fW) hf) (by rw[aE.1];exact hf.hin q.zac) (by rw[aE.2];omega) (by rw[aE.1];omega) (by omega)
  ·obtain ⟨-,i0,i1,i2,-⟩:=zGV;exact zFd i0 i1 i2 h (fun W fW=>zeL hW hn (h.fr0 fW) (fQ.fr0 fW) hf) (by rw[aE.1];exact hf.hin q.zac) (by rw[aE.2];omega) (by rw[aE.1];omega) (by omega)
  ·obtain ⟨-,i0,i1,i2,-⟩:=zG5;exact zFd i0 i1 i2 h (fun W fW=>zeL hW hn (h.fr0 fW) (fQ.fr0 fW) hf) (by rw[aE.1];exact hf.hin q.zac) (by rw[aE.2];omega) (by rw[aE.1];omega) (by omega)
  ·obtain ⟨-,i0,i1,i2,-⟩:=zG2;exact zFd i0 i1 i2 h (fun W fW=>zeL hW hn (h.fr0 fW) (fQ.fr0 fW) hf) (by rw[aE.1];exact hf.hin q.zac) (by rw[aE.2];omega) (by rw[aE.1];omega) (by omega)
end Go.Proofs.YtgahgkddaljmkaaGreatDoor
