/- Cmp35 .. Cmp39 -/
import Derived.Test.YtgahgkddaljmkaaGreatDoorW25
set_option maxRecDepth 100000
set_option maxHeartbeats 4000000
namespace Go.Proofs.YtgahgkddaljmkaaGreatDoor
open Tryz
open Go.RowKit Go.Shelf
attribute [local go_sem ↓] Go.wp_at_zero Go.wp_at_succ
variable {n:Nat}
variable {Z:Nat->Prop}
variable {w:World}
variable {cb bb blk below:Nat}
variable {rv sv kv:Value}
variable {fns l names:List Cp.Nm}
variable {q:Cp.Bs}
variable {bl:List (Nat × List Ins)}
theorem zk8{sg:ByteArray}{t1 t2:TypeId}{x1 x2:Value}{q1:Cp.Bs}{le:Th.Ex}(h:BS Z w cb bb rv sv kv fns q)(hr:Rep Z w n (.iface t1 x1) le)(ak:∀ W,Fr (fun _=>False) w W->Calls prog 89 #[.iface t2 x2] W fun r w'=>∃ v',r=.returned v'/\Names W.heap.size w' v' l/\Fr (fun _=>False) W w')(bu:names=Cp.zai q.zac l)(aL:l.length<=1000000)(aC:q.zac.length<=1000000000)(sY:∀ Z1 W nv,(∀ k,Z k->Z1 k)->Fr (fun _=>False) w W->CS Z1 W cb rv fns q.blocks->Row Z1 W 9 1 nv names.length (strCells names)->Calls prog 91 #[.pointer (some ⟨cb,0,none⟩),.agg #[.string sg,.iface t1 x1,.iface t2 x2],nv] W fun r w'=>r=.returned (.int .i64 blk)/\zfH Z1 W cb rv fns bl w')(dj:∀ Z1 W bh bf cA nv,BS Z1 W cb bb bh bf cA fns ⟨bl,q.zac,q.code⟩->Rep Z1 W n (.iface t1 x1) le->Row Z1 W 9 1 nv names.length (strCells names)->Calls prog 90 #[.pointer (some ⟨bb,0,none⟩),.iface t1 x1,nv,.int .i64 blk,.int .i64 below] W fun r w'=>r=.returned (.tuple #[])/\Did Z1 W cb bb bh bf cA fns q1 w'):
  Calls prog 54 #[.pointer (some ⟨bb,0,none⟩),.iface 166 (.agg #[.string sg,.iface t1 x1,.iface t2 x2]),.int .i64 below] w fun r w'=>r=.returned (.tuple #[])/\Did Z w cb bb rv sv kv fns q1 w':=by
 have i0:=zcD;have i1:=zcw;have f0:Fr (fun _=>False) w (w.alloc (.cells #[.string sg,.iface t1 x1,.iface t2 x2] 166)):=(Fr.refl _ _).alloc _;have CF:=zab (ak _ f0);have dS:=zab (Blk.new w [.string sg,.iface t1 x1,.iface t2 x2] 166);have F0:=zab f0;have HH:=zab h;have HR:=zab hr;have HN:=zab bu;have vU:=zab sY;have vX:=zab dj;have cV:=h.zbY.lt;clear h hr ak bu sY dj f0;go_enter func54,ntmps54
 go_wp2_with fail
 refine CF.o.mono ?_;rintro r w1 ⟨fv,rfl,bI,f1⟩;obtain ⟨fa,fn,fc,rfl⟩:=zae bI;have dN:=zab (zcl (HH.o.fr0 (F0.o.trans f1)) bI aL aC);have F1:=zab (F0.o.trans f1);have B1:=zab (Fr.blk dS.o f1 (by simp));clear CF bI f1 i0 i1;go_wp2_with fail
 refine dN.o.mono ?_;rintro r w2 ⟨nv,rfl,ay,f2⟩;rw[<-HN.o]at ay;obtain ⟨na,nn,nc,rfl⟩:=zaF ay;have F2:=zab (F1.o.trans f2);have cN:=Fr.blk B1.o f2 (by simp);have B2:=zab cN;have cZ:Hid (Names w.heap.size w2 (.slice na nn nc) names):=zab (Names.base (Row.zaE ay) F1.o.size);have ek:=HH.o.zp5 F2.o cZ.o;have lQ:=zab ek;have af:Row (fun k=>Z k\/(Value.slice na nn nc).ownBlock=some k) w2 9 1 (.slice na nn nc) names.length (strCells names):=⟨cZ.o.1,fun k hk=>.inr hk⟩;have CR:=zab (vU.o _ w2.drew _ (fun k hk=>.inl hk) F2.o.drew (ek.drew).cs (Row.frc af ((Fr.refl (fun _=>False) _).drew) (by simp)));have kF:=zab af;have dT:=zab ((HR.o.fr0 F2.o).mono (fun k _ hk=>(Or.inl hk:Z k\/(Value.slice na nn nc).ownBlock=some k)));have b0:=Blk.cell ek.zbY 0;have p0:=Blk.cell cN 0;have p1:=Blk.cell cN 1;have p2:=Blk.cell cN 2;simp at b0 p0 p1 p2;clear dN ay f2 cN ek af;have ga:Hid (∀ k,w.heap.size<=k->¬ KL cb bb rv sv kv k):=zab (fun k hk he=>by
  have h:=HH.o;rcases he with e|e|e|e|e
  ·have:=h.clt;omega
  ·omega
  ·have:=h.rlt k e;omega
  ·have:=h.slt k e;omega
  ·have:=h.klt k e;omega)
 go_wp2_with fail
 go_region_held3 (fun W=>W.cell? ⟨w.heap.size,0,none⟩=some (.string sg)/\W.cell? ⟨w.heap.size,1,none⟩=some (.iface t1 x1)/\W.cell? ⟨w.heap.size,2,none⟩=some (.iface t2 x2)/\W.cell? ⟨bb,0,none⟩=some (.pointer (some ⟨cb,0,none⟩))) (first|(refine ⟨?_,?_,?_,?_⟩ <;> assumption)|go_keep) (first
  |(go_at_call 91;refine CR.o.mono ?_;rintro r w3 ⟨rfl,hd⟩;obtain ⟨Z3,j8,j9,j7,z3,b3,f3,m1,m2,m3⟩:=hd.did lQ.o.drew;have X3:=zab (And.intro z3 (And.intro b3 (And.intro f3 (And.intro m1 (And.intro m2 m3)))));have CW:=zab (vX.o Z3 w3 j8 j9 j7 (.slice na nn nc) b3 (lQ.o.drew.rep f3 z3 (dT.o.fr0 ((Fr.refl (fun _=>False) _).drew))) (lQ.o.drew.row f3 z3 (Row.frc kF.o ((Fr.refl (fun _=>False) _).drew) (by simp))));have gq:=Fr.blk (a:=w2.drew) B2.o f3 (ga.o _ (zyN _));have B3:=zab gq;have qX:=Blk.cell b3.zbY 0;have tI:=Blk.cell gq 0;have tK:=Blk.cell gq 1;have yy:=Blk.cell gq 2;simp at qX tI tK yy;clear hd z3 b3 f3 m1 m2 m3 gq)
  |(go_at_call 90;refine CW.o.mono ?_;rintro r w4 ⟨rfl,hd⟩;have D4:=zab hd;obtain ⟨Z4,yA,yC,yv,z4,b4,f4,m1,m2,m3⟩:=hd;have kj:¬ KL cb bb j8 j9 j7 w.heap.size:=(fun e=>ga.o _ (zyN _) (KL.new e X3.o.2.2.2.1 X3.o.2.2.2.2.1 X3.o.2.2.2.2.2 (Blk.lt B2.o)));have iF:=Fr.blk B3.o f4 kj;have qY:=Blk.cell b4.zbY 0;have tJ:=Blk.cell iF 0;have tL:=Blk.cell iF 1;have yz:=Blk.cell iF 2;simp at qY tJ tL yz;clear z4 b4 f4 m1 m2 m3 iF kj))
 all_goals
  go_wp2_with fail
  first|go_end0|refine bodyPost_ret (results_none rfl _ _ _) rfl ?_
  refine ⟨rfl,?_⟩;have hd:Did (fun k=>Z k\/(Value.slice na nn nc).ownBlock=some k) w2.drew cb bb rv sv kv fns q1 w4:=by
   obtain ⟨z,b,f,n1,n2,n3⟩:=X3.o;exact Did.trans z f n1 n2 n3 D4.o
  obtain ⟨Z',aO,sv',bG,z,b,f,n1,n2,n3⟩:=hd;have f2:Fr (fun _=>False) w w2.drew:=F2.o.drew;refine ⟨Z',aO,sv',bG,fun k hk=>?_,b,(f2.mono (fun _ x=>x.elim)).trans f,New.trans (New.refl w rv) n1 f2.size,New.trans (New.refl w sv) n2 f2.size,New.trans (New.refl w kv) n3 f2.size⟩;rw[z k (zyS hk f2.size)];constructor
  ·rintro (e|e)
   ·exact e
   ·have:=cZ.o.2 k e;omega
  ·exact .inl
theorem zuP{t1:TypeId}{x1:Value}{pp:Option Addr}{pn pc:Nat}{q1:Cp.Bs}{le:Th.Ex}(h:BS Z w cb bb rv sv kv fns q)(hr:Rep Z w n (.iface t1 x1) le)(ak:∀ W,Fr (fun _=>False) w W->Calls prog 92 #[.slice pp pn pc] W fun r w'=>∃ v',r=.returned v'/\Names W.heap.size w' v' l/\Fr (fun _=>False) W w')(bu:names=Cp.zai q.zac l)(aL:l.length<=1000000)(aC:q.zac.length<=1000000000)(sY:∀ Z1 W nv,(∀ k,Z k->Z1 k)->Fr (fun _=>False) w W->CS Z1 W cb rv fns q.blocks->Row Z1 W 9 1 nv names.length (strCells names)->Calls prog 93 #[.pointer (some ⟨cb,0,none⟩),.slice pp pn pc,nv] W fun r w'=>r=.returned (.int .i64 blk)/\zfH Z1 W cb rv fns bl w')(dj:∀ Z1 W bh bf cA nv,BS Z1 W cb bb bh bf cA fns ⟨bl,q.zac,q.code⟩->Rep Z1 W n (.iface t1 x1) le->Row Z1 W 9 1 nv names.length (strCells names)->Calls prog 90 #[.pointer (some ⟨bb,0,none⟩),.iface t1 x1,nv,.int .i64 blk,.int .i64 below] W fun r w'=>r=.returned (.tuple #[])/\Did Z1 W cb bb bh bf cA fns q1 w'):
  Calls prog 54 #[.pointer (some ⟨bb,0,none⟩),.iface 173 (.agg #[.iface t1 x1,.slice pp pn pc]),.int .i64 below] w fun r w'=>r=.returned (.tuple #[])/\Did Z w cb bb rv sv kv fns q1 w':=by
 have i0:=zfg;have i1:=zd5;have i2:=zin;have f0:Fr (fun _=>False) w (w.alloc (.cells #[.iface t1 x1,.slice pp pn pc] 173)):=(Fr.refl _ _).alloc _;have CF:=zab (ak _ f0);have dS:=zab (Blk.new w [.iface t1 x1,.slice pp pn pc] 173);have F0:=zab f0;have HH:=zab h;have HR:=zab hr;have HN:=zab bu;have vU:=zab sY;have vX:=zab dj;have cV:=h.zbY.lt;clear h hr ak bu sY dj f0;go_enter func54,ntmps54
 go_wp2_with fail
 refine CF.o.mono ?_;rintro r w1 ⟨fv,rfl,bI,f1⟩;obtain ⟨fa,fn,fc,rfl⟩:=zae bI;have dN:=zab (zcl (HH.o.fr0 (F0.o.trans f1)) bI aL aC);have F1:=zab (F0.o.trans f1);have B1:=zab (Fr.blk dS.o f1 (by simp));clear CF bI f1 i0 i1 i2;go_wp2_with fail
 refine dN.o.mono ?_;rintro r w2 ⟨nv,rfl,ay,f2⟩;rw[<-HN.o]at ay;obtain ⟨na,nn,nc,rfl⟩:=zaF ay;have F2:=zab (F1.o.trans f2);have cN:=Fr.blk B1.o f2 (by simp);have B2:=zab cN;have cZ:Hid (Names w.heap.size w2 (.slice na nn nc) names):=zab (Names.base (Row.zaE ay) F1.o.size);have ek:=HH.o.zp5 F2.o cZ.o;have lQ:=zab ek;have af:Row (fun k=>Z k\/(Value.slice na nn nc).ownBlock=some k) w2 9 1 (.slice na nn nc) names.length (strCells names):=⟨cZ.o.1,fun k hk=>.inr hk⟩;have CR:=zab (vU.o _ w2.drew _ (fun k hk=>.inl hk) F2.o.drew (ek.drew).cs (Row.frc af ((Fr.refl (fun _=>False) _).drew) (by simp)));have kF:=zab af;have dT:=zab ((HR.o.fr0 F2.o).mono (fun k _ hk=>(Or.inl hk:Z k\/(Value.slice na nn nc).ownBlock=some k)));have b0:=Blk.cell ek.zbY 0;have p0:=Blk.cell cN 0;have p1:=Blk.cell cN 1;simp at b0 p0 p1;clear dN ay f2 cN ek af;have ga:Hid (∀ k,w.heap.size<=k->¬ KL cb bb rv sv kv k):=zab (fun k hk he=>by
  have h:=HH.o;rcases he with e|e|e|e|e
  ·have:=h.clt;omega
  ·omega
  ·have:=h.rlt k e;omega
  ·have:=h.slt k e;omega
  ·have:=h.klt k e;omega)
 go_wp2_with fail
 go_region_held3 (fun W=>W.cell? ⟨w.heap.size,0,none⟩=some (.iface t1 x1)/\W.cell? ⟨w.heap.size,1,none⟩=some (.slice pp pn pc)/\W.cell? ⟨bb,0,none⟩=some (.pointer (some ⟨cb,0,none⟩))) (first|(refine ⟨?_,?_,?_⟩ <;> assumption)|go_keep) (first
  |(go_at_call 93;refine CR.o.mono ?_;rintro r w3 ⟨rfl,hd⟩;obtain ⟨Z3,j8,j9,j7,z3,b3,f3,m1,m2,m3⟩:=hd.did lQ.o.drew;have X3:=zab (And.intro z3 (And.intro b3 (And.intro f3 (And.intro m1 (And.intro m2 m3)))));have CW:=zab (vX.o Z3 w3 j8 j9 j7 (.slice na nn nc) b3 (lQ.o.drew.rep f3 z3 (dT.o.fr0 ((Fr.refl (fun _=>False) _).drew))) (lQ.o.drew.row f3 z3 (Row.frc kF.o ((Fr.refl (fun _=>False) _).drew) (by simp))));have gq:=Fr.blk (a:=w2.drew) B2.o f3 (ga.o _ (zyN _));have B3:=zab gq;have qX:=Blk.cell b3.zbY 0;have tI:=Blk.cell gq 0;have tK:=Blk.cell gq 1;simp at qX tI tK;clear hd z3 b3 f3 m1 m2 m3 gq)
  |(go_at_call 90;refine CW.o.mono ?_;rintro r w4 ⟨rfl,hd⟩;have D4:=zab hd;obtain ⟨Z4,yA,yC,yv,z4,b4,f4,m1,m2,m3⟩:=hd;have kj:¬ KL cb bb j8 j9 j7 w.heap.size:=(fun e=>ga.o _ (zyN _) (KL.new e X3.o.2.2.2.1 X3.o.2.2.2.2.1 X3.o.2.2.2.2.2 (Blk.lt B2.o)));have iF:=Fr.blk B3.o f4 kj;have qY:=Blk.cell b4.zbY 0;have tJ:=Blk.cell iF 0;have tL:=Blk.cell iF 1;simp at qY tJ tL;clear z4 b4 f4 m1 m2 m3 iF kj))
 all_goals
  go_wp2_with fail
  first|go_end0|refine bodyPost_ret (results_none rfl _ _ _) rfl ?_
  refine ⟨rfl,?_⟩;have hd:Did (fun k=>Z k\/(Value.slice na nn nc).ownBlock=some k) w2.drew cb bb rv sv kv fns q1 w4:=by
   obtain ⟨z,b,f,n1,n2,n3⟩:=X3.o;exact Did.trans z f n1 n2 n3 D4.o
  obtain ⟨Z',aO,sv',bG,z,b,f,n1,n2,n3⟩:=hd;have f2:Fr (fun _=>False) w w2.drew:=F2.o.drew;refine ⟨Z',aO,sv',bG,fun k hk=>?_,b,(f2.mono (fun _ x=>x.elim)).trans f,New.trans (New.refl w rv) n1 f2.size,New.trans (New.refl w sv) n2 f2.size,New.trans (New.refl w kv) n3 f2.size⟩;rw[z k (zyS hk f2.size)];constructor
  ·rintro (e|e)
   ·exact e
   ·have:=cZ.o.2 k e;omega
  ·exact .inl
theorem zkk(fns:List Cp.Nm):∀ (l:List Cp.Nm) (q:Cp.Bs),(l.foldl (Cp.Bs.use fns) q).blocks=q.blocks
 |[],_=>rfl
 |y::l,q=>(zkk fns l (q.use fns y)).trans (zoR fns q y).2.2
theorem zex(fns:List Cp.Nm)(q:Cp.Bs)(names:List Cp.Nm):(q.zak fns names).blocks=q.blocks:=zkk fns _ q
theorem zvO{pn pc:Nat}{r:Bool}{pp:Option Addr}{bt:TypeId}{bx:Value}{e:Th.Ex}(h:BS Z w cb bb rv sv kv fns q)(hr:Rep Z w n (.iface 178 (.agg #[.bool r,.slice pp pn pc,.iface bt bx])) e)(ak:∀ W,Fr (fun _=>False) w W->Calls prog 89 #[.iface 178 (.agg #[.bool r,.slice pp pn pc,.iface bt bx])] W fun r w'=>∃ v',r=.returned v'/\Names W.heap.size w' v' l/\Fr (fun _=>False) W w')(bu:names=Cp.zai q.zac l)(aL:l.length<=1000000)(aC:q.zac.length+names.length<=1000000000)(xF:q.code.length+names.length+1<=1000000000)(cW:fns.length<=1000000000)(hin:∀ x∈names,x≠[]/\(Cp.za9 q.zac x=none->x∈fns))(kf:0<below)(aA:below+names.length<=1000000000)(mZ:∀ Z1 W bh nv,CS Z1 W cb bh fns q.blocks->Rep Z1 W n (.iface 178 (.agg #[.bool r,.slice pp pn pc,.iface bt bx])) e->Row Z1 W 9 1 nv names.length (strCells names)->Calls prog 161 #[.pointer (some ⟨cb,0,none⟩),.iface 178 (.agg #[.bool r,.slice pp pn pc,.iface bt bx]),nv] W fun r w'=>r=.returned (.int .i64 blk)/\zfH Z1 W cb bh fns bl w'):
  Calls prog 94 #[.pointer (some ⟨bb,0,none⟩),.agg #[.bool r,.slice pp pn pc,.iface bt bx],.int .i64 below] w fun r w'=>r=.returned (.tuple #[])/\Did Z w cb bb rv sv kv fns (Cp.Bs.ends ⟨bl,(q.zak fns names).zac,(q.zak fns names).code⟩ (below+names.length) (.jump blk)) w':=by
 have Gz:(0:Int)<(below:Int):=by omega
 have uS:IntKind.i64.wrap ((below:Int)+(names.length:Int))=(below:Int)+(names.length:Int):=zfm _ (by omega) (by omega);have f0:Fr (fun _=>False) w (w.alloc (.cells #[.bool r,.slice pp pn pc,.iface bt bx] 178)):=(Fr.refl _ _).alloc _;have CF:=zab (ak _ f0);have dS:=zab (Blk.new w [.bool r,.slice pp pn pc,.iface bt bx] 178);have F0:=zab f0;have HH:=zab h;have HR:=zab hr;have HN:=zab bu;have jP:=zab mZ;have oz:=zab hin;have cV:=h.zbY.lt;have ul:=zbv fns names.reverse q;have HC:Hid ((q.zak fns names).code.length+1<=1000000000):=zab (by unfold Cp.Bs.zak;rw[ul.2.1,zy4];omega);have C7:=zab (zex fns q names);clear h hr ak bu mZ f0 hin ul;go_enter func94,ntmps94
 go_wp2_with fail
 refine CF.o.mono ?_;rintro r1 w1 ⟨fv,rfl,bI,f1⟩;obtain ⟨fa,fn,fc,rfl⟩:=zae bI;have dN:=zab (zcl (HH.o.fr0 (F0.o.trans f1)) bI aL (by omega));have F1:=zab (F0.o.trans f1);have B1:=zab (Fr.blk dS.o f1 (by simp));clear CF bI f1;go_wp2_with fail
 refine dN.o.mono ?_;rintro r1 w2 ⟨nv,rfl,ay,f2⟩;rw[<-HN.o]at ay;obtain ⟨na,nc,_,lr,_⟩:=zaO (za0 ay (zy5 _));subst lr;have F2:=zab (F1.o.trans f2);have B2:=zab (Fr.blk B1.o f2 (by simp));have cZ:Hid (Names w.heap.size w2 (.slice na names.length nc) names):=zab (Names.base (Row.zaE ay) F1.o.size);have ek:=HH.o.zp5 F2.o cZ.o;have lQ:=zab ek;have af:Row (fun k=>Z k\/(Value.slice na names.length nc).ownBlock=some k) w2 9 1 (.slice na names.length nc) names.length (strCells names):=⟨cZ.o.1,fun k hk=>.inr hk⟩;have CU:=zab (zbU ek af oz.o (by omega) aC cW);have kF:=zab af;have dT:=zab ((HR.o.fr0 F2.o).mono (fun k _ hk=>(Or.inl hk:Z k\/(Value.slice na names.length nc).ownBlock=some k)));have ga:Hid (∀ k,w.heap.size<=k->¬ KL cb bb rv sv kv k):=zab (fun k hk he=>by
  have h:=HH.o;rcases he with e|e|e|e|e
  ·have:=h.clt;omega
  ·omega
  ·have:=h.rlt k e;omega
  ·have:=h.slt k e;omega
  ·have:=h.klt k e;omega)
 clear dN ay f2 ek af;go_wp2_with fail
 refine CU.o.mono ?_;rintro r1 w5 ⟨rfl,Z5,A7,FR,FH,z5,b5,f5,m1,m2,m3⟩;have cN:=Fr.blk B2.o f5 (ga.o _ (zyN _));have B5:=zab cN;have aE:=b5.cs;rw[C7.o]at aE;have hdr:Fr (fun _=>False) w5 w5.drew:=(Fr.refl _ _).drew;have CR:=zab (jP.o Z5 w5.drew A7 (.slice na names.length nc) (aE.fr0 hdr) ((lQ.o.rep f5 z5 dT.o).fr0 hdr) (Row.frc (lQ.o.row f5 z5 kF.o) hdr (by simp)));have b0:=Blk.cell b5.zbY 0;have p0:=Blk.cell cN 0;have p1:=Blk.cell cN 1;have p2:=Blk.cell cN 2;simp at b0 p0 p1 p2;have X5:=zab (And.intro z5 (And.intro b5 (And.intro f5 (And.intro m1 (And.intro m2 m3)))));have yY:Hid (¬ KL cb bb A7 FR FH w.heap.size):=zab (fun e=>ga.o _ (zyN _) (KL.new e m1 m2 m3 (Blk.lt B2.o)));clear CU z5 b5 f5 m1 m2 m3 cN aE hdr;go_wp2_with fail
 go_region_held3 (fun W=>W.cell? ⟨w.heap.size,0,none⟩=some (.bool r)/\W.cell? ⟨w.heap.size,1,none⟩=some (.slice pp pn pc)/\W.cell? ⟨w.heap.size,2,none⟩=some (.iface bt bx)/\W.cell? ⟨bb,0,none⟩=some (.pointer (some ⟨cb,0,none⟩))) (first|(refine ⟨?_,?_,?_,?_⟩ <;> assumption)|go_keep) (first
  |(go_at_call 161;refine CR.o.mono ?_;rintro r1 w6 ⟨rfl,hd⟩;obtain ⟨Z6,A8,Bb,A4,z6,b6,f6,m1,m2,m3⟩:=hd.did X5.o.2.1.drew;have X6:=zab (And.intro z6 (And.intro b6 (And.intro f6 (And.intro m1 (And.intro m2 m3)))));have CE:=zab (zgS (c:=below+names.length) (i:=.jump blk) b6 rfl HC.o);have kR:=Fr.blk (a:=w5.drew) B5.o f6 yY.o;have B6:=zab kR;have qX:=Blk.cell b6.zbY 0;have tI:=Blk.cell kR 0;have tK:=Blk.cell kR 1;have yy:=Blk.cell kR 2;simp at qX tI tK yy;clear hd z6 b6 f6 m1 m2 m3 kR)
  |(go_at_call 96;refine CE.o.mono ?_;rintro r1 w7 ⟨rfl,hd⟩;have D7:=zab hd;obtain ⟨Z7,A9,Bc,A5,z7,b7,f7,m1,m2,m3⟩:=hd;have Aq:¬ KL cb bb A8 Bb A4 w.heap.size:=(fun e=>yY.o (KL.new e X6.o.2.2.2.1 X6.o.2.2.2.2.1 X6.o.2.2.2.2.2 (Blk.lt B5.o)));have mK:=Fr.blk B6.o f7 Aq;have qY:=Blk.cell b7.zbY 0;have tJ:=Blk.cell mK 0;have tL:=Blk.cell mK 1;have yz:=Blk.cell mK 2;simp at qY tJ tL yz;clear z7 b7 f7 m1 m2 m3 mK Aq))
 all_goals
  go_wp2_with fail
  first|go_end0|refine bodyPost_ret (results_none rfl _ _ _) rfl ?_
  refine ⟨rfl,?_⟩;have hd:Did (fun k=>Z k\/(Value.slice na names.length nc).ownBlock=some k) w2 cb bb rv sv kv fns (Cp.Bs.ends ⟨bl,(q.zak fns names).zac,(q.zak fns names).code⟩ (below+names.length) (.jump blk)) w7:=by
   obtain ⟨z,b,f,n1,n2,n3⟩:=X5.o;refine Did.trans z f n1 n2 n3 (Did.fr0 ((Fr.refl _ _).drew) ?_);obtain ⟨z,b,f,n1,n2,n3⟩:=X6.o;exact Did.trans z f n1 n2 n3 D7.o
  obtain ⟨Z',aO,sv',bG,z,b,f,n1,n2,n3⟩:=hd;have f2:=F2.o;refine ⟨Z',aO,sv',bG,fun k hk=>?_,b,(f2.mono (fun _ x=>x.elim)).trans f,New.trans (New.refl w rv) n1 f2.size,New.trans (New.refl w sv) n2 f2.size,New.trans (New.refl w kv) n3 f2.size⟩;rw[z k (zyS hk f2.size)];constructor
  ·rintro (e|e)
   ·exact e
   ·have:=cZ.o.2 k e;omega
  ·exact .inl
theorem zrp:∀ args w,(callFunc 53 args).run prog w=.ok (.enter 53 args) w:=by
 intro args w
 kernel_rfl
theorem zn8{M N:Nat}(hW:zbi M N n){bx:Nat}{a0 a1 a2:Value}{t:TypeId}{x:Value}{e:Th.Ex}(hx:Blk w bx [a0,a1,a2,.iface t x] 93)(h:BS Z w cb bb rv sv kv fns q)(hr:Rep Z w n (.iface t x) e)(hf:Fit M N fns q e):
  Calls prog 53 #[.pointer (some ⟨bb,0,none⟩),.pointer (some ⟨bx,0,none⟩)] w fun r w'=>r=.returned (.tuple #[])/\Did Z w cb bb rv sv kv fns (Cp.work (Cp.free N) fns n e 0 q) w':=by
 have c0:=Blk.cell hx 3;simp at c0;have CW:=zab (hW (below:=0) h hr hf (by have:=hf.cl;omega));clear hW h hr hf hx;go_enter func53,ntmps53
 go_wp2_with fail
 refine CW.o.mono ?_;rintro r w' ⟨rfl,hd⟩;have HD:=zab hd;clear hd CW c0;go_wp2_with fail
 first|go_end0|refine bodyPost_ret (results_none rfl _ _ _) rfl ?_
 exact ⟨rfl,HD.o⟩
theorem zvJ:(prog.info? 38).map (fun i=>(i.size,i.bytes,i.zero))=some (1,24,some (.slice none 0 0)):=by kernel_rfl
theorem madeL(n:Nat):madeCells (Value.cells (.slice none 0 0)) n=(List.replicate n (Value.slice none 0 0)).toArray:=by
 apply Array.ext
 ·simp[madeCells]
 ·intro i h1 h2;simp[madeCells,Value.cells,Nat.mod_one]
theorem ztz(hn:n<=1000000)(W:World):(Instr.makeSlice 160 (.int .i64 (n:Int)) (.int .i64 (n:Int))).run prog W=.ok (.slice (some ⟨W.heap.size,0,none⟩) n n) (W.alloc (.cells (List.replicate n (Value.slice none 0 0)).toArray 38)):=by
 obtain ⟨i,hi,he⟩:=zyX.1 zvJ;simp only[zzL]at he;obtain ⟨h1,h2,h3⟩:=he;have:=run_make (P:=prog) W 160 38 i (.slice none 0 0) underlying160 hi h3 .i64 .i64 n n (by omega) (by omega) (by rw[h2];omega) (by omega);rw[this,h1,zy2,zAt,madeL]
structure TS (Z:Nat->Prop) (w wr:World) (cb bb H m:Nat) (rv sv kv:Value) (fns:List Cp.Nm) (qk:Cp.Bs) (nms:Nat->List Cp.Nm) (k:Nat) (nvs:List Value) (Zk:Nat->Prop) (dM ir il:Value):Prop where
 z:∀ j,j<w.heap.size->(Zk j↔Z j)
 b:BS Zk wr cb bb dM ir il fns qk
 f:Fr (fun j=>KL cb bb rv sv kv j\/j=H) w wr
 n1:New w rv dM
 n2:New w sv ir
 n3:New w kv il
 h:Blk wr H (nvs++List.replicate (m-k) (.slice none 0 0)) 38
 rows:∀ (j:Nat) (nv:Value),nvs[j]?=some nv->Row Zk wr 9 1 nv (nms j).length (strCells (nms j))
 len:nvs.length=k
theorem TS.next{wr w6 w7:World}{H m:Nat}{nv:Value}{qk qc qd:Cp.Bs}{nms:Nat->List Cp.Nm}{k:Nat}{nvs:List Value}{Zk:Nat->Prop}{dM ir il:Value}(h:TS Z w wr cb bb H m rv sv kv fns qk nms k nvs Zk dM ir il)(hH:H<w.heap.size)(hZ:¬ Z H)(hK:¬ KL cb bb rv sv kv H)(hk:k<m){o:Obj}{Z1:Nat->Prop}{bh bf cA:Value}(z1:∀ j,j<(wr.alloc o).heap.size->(Z1 j↔Zk j))(b1:BS Z1 w6 cb bb bh bf cA fns qc)(f1:Fr (KL cb bb dM ir il) (wr.alloc o) w6)(a1:New (wr.alloc o) dM bh)(a2:New (wr.alloc o) ir bf)(a3:New (wr.alloc o) il cA)(af:Row Z1 w6 9 1 nv (nms k).length (strCells (nms k)))(d2:Did Z1 w6 cb bb bh bf cA fns qd w7):
  Blk w7 H (nvs++List.replicate (m-k) (.slice none 0 0)) 38/\∃ Z' aO sv' bG,TS Z w (w7.setCell ⟨H,k,none⟩ nv) cb bb H m rv sv kv fns qd nms (k+1) (nvs++[nv]) Z' aO sv' bG:=by
 have f0:Fr (fun _=>False) wr (wr.alloc o):=(Fr.refl _ _).alloc _;obtain ⟨Z2,im,iq,ik,z2,b2,f2,c1,c2,c3⟩:=d2;have s0:=h.f.size;have s1:=f0.size;have s2:=f1.size;have s3:=f2.size;have k0:¬ KL cb bb dM ir il H:=fun e=>hK (KL.new e h.n1 h.n2 h.n3 hH)
 have Gr:H<wr.heap.size:=h.h.lt;have k1:¬ KL cb bb bh bf cA H:=fun e=>k0 (KL.new e a1 a2 a3 (by omega))
 have k2:¬ KL cb bb im iq ik H:=fun e=>k1 (KL.new e c1 c2 c3 (by omega))
 have zk:¬ Zk H:=fun e=>hZ ((h.z H hH).1 e)
 have FX:¬ Z1 H:=fun e=>zk ((z1 H (by omega)).1 e)
 have Be:¬ Z2 H:=fun e=>FX ((z2 H (by omega)).1 e)
 have pS:Blk w7 H (nvs++List.replicate (m-k) (.slice none 0 0)) 38:=Fr.blk (Fr.blk (Fr.blk h.h f0 (by simp)) f1 k0) f2 k1;have f3:Fr (fun j=>j=H) w7 (w7.setCell ⟨H,k,none⟩ nv):=(Fr.refl _ _).set _ _ (.inl rfl);refine ⟨pS,Z2,im,iq,ik,⟨fun j hj=>(z2 j (by omega)).trans ((z1 j (by omega)).trans (h.z j hj)),b2.frk f3 ?_,?_,?_,?_,?_,?_,?_,by simp[h.len]⟩⟩
 ·rintro j (e|e) rfl
  ·exact Be e
  ·exact k2 e
 ·refine Fr.set ?_ _ _ (.inl (.inr rfl));refine ⟨f2.os.trans (f1.os.trans (f0.os.trans h.f.os)),f2.tape.trans (f1.tape.trans (f0.tape.trans h.f.tape)),f2.output.trans (f1.output.trans (f0.output.trans h.f.output)),by omega,fun i hi hn=>?_⟩;have e0:¬ KL cb bb dM ir il i:=fun e=>hn (.inl (KL.new e h.n1 h.n2 h.n3 hi))
  have e1:¬ KL cb bb bh bf cA i:=fun e=>e0 (KL.new e a1 a2 a3 (by omega))
  rw[f2.block i (by omega) e1,f1.block i (by omega) e0,f0.block i (by omega) (by simp),h.f.block i hi hn]
 ·exact h.n1.trans (New.trans (New.trans (New.refl wr dM) a1 s1) (New.trans (New.refl (wr.alloc o) bh) c1 s2) s1) s0
 ·exact h.n2.trans (New.trans (New.trans (New.refl wr ir) a2 s1) (New.trans (New.refl (wr.alloc o) bf) c2 s2) s1) s0
 ·exact h.n3.trans (New.trans (New.trans (New.refl wr il) a3 s1) (New.trans (New.refl (wr.alloc o) cA) c3 s2) s1) s0
 ·have:=pS.set k nv;have hl:=h.len;have e:(nvs++List.replicate (m-k) (Value.slice none 0 0)).set k nv=(nvs++[nv])++List.replicate (m-(k+1)) (.slice none 0 0):=by
   rw[List.set_append_right _ _ (by omega),hl,zAx,show m-k=(m-(k+1))+1 by omega,zz4,zyZ];simp
  rw[e]at this;exact this
 ·intro j FK hj;rw[zzj]at hj;have ak:∀ j,j<w7.heap.size->Z2 j->¬ j=H:=fun j _ hz e=>Be (e ▸ hz)
  by_cases gT:j<nvs.length
  ·rw[if_pos gT]at hj;exact (b1.row f2 z2 ((h.b.fr0 f0).row f1 z1 (Row.frc (h.rows j FK hj) f0 (by simp)))).frz f3 ak (fun _ _ x=>x)
  ·rw[if_neg gT]at hj;have h1:j-nvs.length=0:=by
    have:=(zyL.1 hj).1;simp at this;omega
   rw[h1]at hj;simp only[zzl,zyP]at hj;subst hj;have ED:j=k:=by have:=h.len;omega
   rw[ED];exact (b1.row f2 z2 af).frz f3 ak (fun _ _ x=>x)
theorem zis{pv:Value}{r:Bool}{bt:TypeId}{bx:Value}{l:List Th.Tok}{parts:List Th.Ex}{pvs:List Value}{st qc ft:Nat->Cp.Bs}{bk:Nat->Nat}{nms:Nat->List Cp.Nm}(h:BS Z w cb bb rv sv kv fns q)(h3:parts.length=l.length)(h4:pvs.length=l.length)(h6:Row Z w 312 3 pv l.length (zaM l pvs))(h8:∀ (i:Nat) (bv:Value) (p:Th.Ex),pvs[i]?=some bv->parts[i]?=some p->Rep Z w n bv p)(bK:st 0=⟨q.blocks,q.zac++Th.texts l,q.code⟩)(aN:∀ (i:Nat) (e:Th.Ex) (Z1:Nat->Prop) (W:World) (bh bf cA v:Value),parts[i]?=some e->BS Z1 W cb bb bh bf cA fns (st i)->Rep Z1 W n v e ->
   Calls prog 165 #[.pointer (some ⟨bb,0,none⟩),v] W fun r w'=>∃ nv,r=.returned (.tuple #[.int .i64 (bk i),nv])/\znm Z1 W cb bb bh bf cA fns (qc i) w' nv (nms i))(dY:∀ i,i<l.length->st (i+1)=(qc i).write (.hold (bk i) (nms i).length))(AF:∀ i,i<l.length->(qc i).code.length<=1000000000)(kg:ft 0=st l.length)(jX:∀ i,i<l.length->ft (i+1)=(((ft i).zak fns (nms i)).drop (nms i).length).write (.fill (q.zac.length+i) (nms i).length))(hin:∀ i,i<l.length->(∀ x∈nms i,x≠[]/\(Cp.za9 (ft i).zac x=none->x∈fns))/\(ft i).code.length+(nms i).length<=1000000000/\(ft i).zac.length+(nms i).length<=1000000000)(cW:fns.length<=1000000000)(bp:0<l.length)(aU:l.length<=1000000)(uQ:q.zac.length<=100000000):
  Calls prog 162 #[.pointer (some ⟨bb,0,none⟩),.agg #[.bool r,pv,.iface bt bx]] w fun e w'=>e=.returned (.tuple #[])/\Did Z w cb bb rv sv kv fns (ft l.length) w':=by
 obtain ⟨i0,dt,bq,aP,bF⟩:=info_parts zeR;have HI:=zab dt;clear dt;have HZ:=zab (And.intro bq (And.intro aP bF));clear bq aP bF;obtain ⟨g0,pc,eD⟩:∃ g0 pc,pv=.slice (some ⟨g0,0,none⟩) l.length pc:=by
  rcases h6.1.2 with ⟨_,h0⟩|⟨g,cap,cur,h0,_⟩
  ·omega
  ·exact ⟨_,_,h0⟩
 subst eD;obtain ⟨sp,sc,_,bA,_⟩:=zaO h.ziW;subst bA;have bR:∀ (i:Nat) (pv:Value),pvs[i]?=some pv->pv.oneCell'=true:=fun i pv hp=>by
  have:i<parts.length:=by rw[h3,<-h4];exact (zyL.1 hp).1
  obtain ⟨t,x,rfl⟩:=zah (h8 i pv parts[i] hp (zyM this));rfl
 have f0:Fr (fun _=>False) w (w.alloc (.cells #[.bool r,.slice (some ⟨g0,0,none⟩) l.length pc,.iface bt bx] 178)):=(Fr.refl _ _).alloc _;have aA:=h.zx8 (.cells #[.bool r,.slice (some ⟨g0,0,none⟩) l.length pc,.iface bt bx] 178);have nH:=Blk.new w [.bool r,.slice (some ⟨g0,0,none⟩) l.length pc,.iface bt bx] 178;have cB:=zab aA;have dS:=zab nH;have me:=(Row.frc h6 f0 (by simp)).mono (S':=fun k=>Z k\/k=w.heap.size) (fun k _ hk=>.inl hk);have H6:=zab me;have H8:=zab (fun i bv p a b=>((h8 i bv p a b).fr0 f0).mono (S':=fun k=>Z k\/k=w.heap.size) (fun k _ hk=>.inl hk));have H3:=zab h3;have H4:=zab h4;have qH:=zab bK;have vv:=zab aN;have pK:=zab (And.intro dY AF);have yU:=zab (And.intro kg (And.intro jX hin));have c1:=Blk.cell aA.zbY 1;simp at c1;have cV:=h.zbY.lt;have CN:=zab (zcX (w:=(w.alloc (.cells #[.bool r,.slice (some ⟨g0,0,none⟩) l.length pc,.iface bt bx] 178)).drew) (rb:=r) (bt:=bt) (bx:=bx) (Row.frc me ((Fr.refl (fun _=>False) _).drew) (by simp)) h4 bR aU);have kB:=ztz aU;obtain ⟨vs,gW⟩:∃ vs,List.replicate l.length (Value.slice none 0 0)=vs:=⟨_,rfl⟩;rw[gW]at kB;have C8:=zab gW;clear gW;clear h h3 h4 h6 h8 bK aN dY AF kg jX hin bR aA nH f0 me;have F0:Hid (Fr (fun _=>False) w (w.alloc (.cells #[.bool r,.slice (some ⟨g0,0,none⟩) l.length pc,.iface bt bx] 178))):=zab ((Fr.refl _ _).alloc _);have qC:Hid (∀ q' w',Did (fun k=>Z k\/k=w.heap.size) (w.alloc (.cells #[.bool r,.slice (some ⟨g0,0,none⟩) l.length pc,.iface bt bx] 178)) cb bb rv (.slice sp q.zac.length sc) kv fns q' w'->Did Z w cb bb rv (.slice sp q.zac.length sc) kv fns q' w'):=zab (fun q' w' d=>Did.out1 d);go_enter func162,ntmps162
 go_wp2_with fail
 generalize w.alloc (.cells #[.bool r,.slice (some ⟨g0,0,none⟩) l.length pc,.iface bt bx] 178)=w0 at dS cB F0 qC H6 H8 c1 CN ⊢;have e0:=Blk.cell dS.o 0;have e1:=Blk.cell dS.o 1;have e2:=Blk.cell dS.o 2;simp at e0 e1 e2
 go_region_law (first
  |(refine step_append_lies _ (by rfl) _ _ _ (by rfl) 0 9 i0 _ 1 16 underlying38 HI.o HZ.o.1 HZ.o.2.1 HZ.o.2.2 rfl (by omega) (.slice sp q.zac.length sc) q.zac.length (strCells q.zac) (by rfl) (F5.o.gb cB.o.ziW (by simp)) ⟨tg,0,none⟩ l.length tc (strCells (Th.texts l)) (by rfl) mC.o kG.o ze1 bp (by unfold maxLen;omega) (by omega) (zy5 _) w5.heap.size rfl ?_;intro g cap w3 ai ah aV aj;have AD:=zab (cB.o.zuu (g:=g) (n':=q.zac.length+l.length) (cap:=cap) (sl:=q.zac++Th.texts l) F5.o (by simp[Th.texts]) (by simpa [strCells] using ai) ah (by rcases aV with e|e;exact .inl e;exact .inr (by have:=F5.o.size;omega)));have d1:=Blk.cell AD.o.1 1;have df:=Blk.frozen AD.o.1 1;simp at d1;clear ai ah aV aj)
  |(go_simp;go_wp2_with (go_at_call 197;refine CN.o.mono ?_;rintro e w5 ⟨tv,rfl,eC,dw⟩;have f5:Fr (fun _=>False) w0 w5:=(Fr.refl _ _).drew.trans (Fr.below dw);have F5:=zab f5;obtain ⟨FT,tc,tg,lI,_,lH,_,lG⟩:=zaO (za0 eC (zy5 _));rw[lH bp]at lI;subst lI;have kG:=zab (fun (j:Nat) v (hv:(strCells (Th.texts l))[j]?=some v)=>(show w5.cell? (Addr.add ⟨tg,0,none⟩ j)=some v by rw[zbe,zzG];exact lG j v hv));have mC:Hid ((strCells (Th.texts l)).length=l.length*1):=zab (by simp[strCells,Th.texts]);have c5:w5.cell? ⟨bb,1,none⟩=some (.slice sp q.zac.length sc):=Blk.cell (cB.o.fr0 f5).zbY 1;clear eC dw f5 lH lG)))
 all_goals
  obtain ⟨Z2,im,iq,ik,z2,b2,f2,m1,m2,m3⟩:=AD.o.2;rw[<-qH.o]at b2;clear AD d1 df;generalize w3.setCell ⟨bb,1,none⟩ (.slice (some ⟨g,0,none⟩) (q.zac.length+l.length) cap)=w4 at b2 f2 ⊢;have cN:=cB.o.box f2 z2 dS.o (.inr rfl);have y1:=Blk.cell cN.1 1;simp at y1;have y2:(w4.alloc (.cells vs.toArray 38)).cell? ⟨w.heap.size,1,none⟩=some (.slice (some ⟨g0,0,none⟩) l.length pc):=Blk.cell (Blk.alloc cN.1 _) 1;have fb:Fr (fun _=>False) w4 (w4.alloc (.cells vs.toArray 38)):=(Fr.refl _ _).alloc _;have zJ:=Blk.new w4 vs 38;have AJ:=Row.frc (cB.o.row f2 z2 H6.o) fb (by simp);have AM:=fun i bv p a b=>(cB.o.rep f2 z2 (H8.o i bv p a b)).fr0 fb
  have zr:=b2.fr0 fb;have zK:w4.heap.size<(w4.alloc (.cells vs.toArray 38)).heap.size:=by rw[World.size_alloc];omega
  have zZ:¬ Z2 w4.heap.size:=fun e=>by have:=b2.zlt _ e;omega
  have zR:¬ KL cb bb im iq ik w4.heap.size:=by
   rintro (e|e|e|e|e)
   ·have:=b2.clt;omega
   ·have:=b2.zbY.lt;omega
   ·have:=b2.rlt _ e;omega
   ·have:=b2.slt _ e;omega
   ·have:=b2.klt _ e;omega
  have X2:=zab (And.intro z2 (And.intro f2 (And.intro m1 (And.intro m2 m3))));have FB:=zab fb;have yX:=zab zJ;have y8:=zab AJ;have zb:=zab AM;have uY:=zab zr;have oy:=zab (And.intro zK (And.intro zZ zR));clear z2 b2 f2 m1 m2 m3 cN fb zJ AJ AM zr zK zZ zR;go_wp2_with fail
  generalize w4.alloc (.cells vs.toArray 38)=wb at FB yX y8 zb uY oy y2 ⊢;clear y1 y2
  go_loopg [34] l.length (fun gk iv wr=>∃ (k:Nat) (nvs:List Value) (Zk:Nat->Prop) (dM ir il:Value),iv=.int .i64 k/\k+gk=l.length/\TS Z2 wb wr cb bb w4.heap.size l.length im iq ik fns (st k) nms k nvs Zk dM ir il)
  case atStart=>exact ⟨0,[],Z2,im,iq,ik,rfl,by omega,⟨fun _ _=>zAz,uY.o,Fr.refl _ _,New.refl _ _,New.refl _ _,New.refl _ _,by rw[zzb,zAl,C8.o];exact yX.o,by simp,rfl⟩⟩
  case round=>
   obtain ⟨k,nvs,Zk,dM,ir,il,rfl,hk,hT⟩:=hrel;have HT:=zab hT;by_cases aj:k<l.length
   ·obtain ⟨a,ha⟩:∃ a,l[k]?=some a:=⟨l[k],zyM aj⟩;obtain ⟨p,hp⟩:∃ p,parts[k]?=some p:=⟨_,zyM (by rw[H3.o];exact aj)⟩;obtain ⟨bv,cC⟩:∃ bv,pvs[k]?=some bv:=⟨_,zyM (by rw[H4.o];exact aj)⟩;have hz:∀ j,j<wb.heap.size->Z2 j->¬ (KL cb bb im iq ik j\/j=w4.heap.size):=fun j _ hj e=>by
     rcases e with e|e
     ·exact uY.o.zk j hj e
     ·exact oy.o.2.1 (e ▸ hj)
    have hR:=(zb.o k bv p cC hp).frz hT.f hz (fun j hj lh=>(hT.z j hj).2 lh);obtain ⟨pt,px,rfl⟩:=zah hR;have aE:=zbA l pvs k a _ ha cC;have af:=(y8.o.frz hT.f hz (fun j hj lh=>(hT.z j hj).2 lh)).1;have c0:=(af.cellAt (k*3) (by omega)).trans aE.1;have c1:=(af.cellAt (k*3+1) (by omega)).trans aE.2.1;have c2:=(af.cellAt (k*3+2) (by omega)).trans aE.2.2;have dF:(0:Int)<=(k:Int):=zzN _;have fw:Fr (fun _=>False) wr (wr.alloc (.cells #[.string ⟨a.s.toArray⟩,.int .i64 a.at_,.iface pt px] 312)):=(Fr.refl _ _).alloc _;have CC:=zab (vv.o k p Zk _ dM ir il (.iface pt px) hp (hT.b.fr0 fw) (hR.fr0 fw));have EL:=pK.o.2 k aj;have CV:=zab (pK.o.1 k aj);clear hT hz hR aE af fw ha hp cC;go_wp2_with fail
    refine CC.o.mono ?_;rintro e w6 ⟨nv,rfl,En⟩;obtain ⟨Z6,A8,Bb,A4,z6,b6,f6,o1,o2,o3,me⟩:=En;obtain ⟨na,nc,_,lr,_⟩:=zaO me.1;subst lr;have CW:=zab (zbS (i:=.hold (bk k) (nms k).length) b6 rfl EL);have X6:=zab (And.intro z6 (And.intro b6 (And.intro f6 (And.intro o1 (And.intro o2 (And.intro o3 me))))));clear z6 b6 f6 o1 o2 o3 me CC c0 c1 c2;go_wp2_with fail
    refine CW.o.mono ?_;rintro e w7 ⟨rfl,Ai⟩;obtain ⟨z6,b6,f6,o1,o2,o3,me⟩:=X6.o;obtain ⟨pS,Z7,A9,Bc,A5,zX⟩:=TS.next HT.o oy.o.1 oy.o.2.1 oy.o.2.2 aj z6 b6 f6 o1 o2 o3 me Ai;have C3:=zab zX;have s0:w7.cell? ⟨w4.heap.size,k,none⟩=some (.slice none 0 0):=by
     have hl:=HT.o.len;rw[Blk.cell pS k,zy3 (by omega),hl,zAx];rw[List.getElem?_replicate,if_pos (by omega)]
    have s1:=Blk.frozen pS k;clear z6 b6 f6 o1 o2 o3 me Ai CW pS zX;go_wp2_with fail
    go_roundg (l.length-(k+1))
    case measure=>omega
    case rel=>exact ⟨k+1,nvs++[.slice na (nms k).length nc],Z7,A9,Bc,A5,by go_num,by omega,by rw[CV.o];exact C3.o⟩
   ·have aG:k=l.length:=by omega
    subst aG;obtain ⟨wm,rfl⟩:∃ wm,wm=wr:=⟨wr,rfl⟩;obtain ⟨kg,jX,hin⟩:=yU.o;have bm:=hT.b;rw[<-kg]at bm;have BM:=zab bm;have k0:¬ KL cb bb dM ir il w4.heap.size:=fun e=>oy.o.2.2 (KL.new e hT.n1 hT.n2 hT.n3 oy.o.1)
    have K0:=zab k0;clear hT bm k0 kg jX hin;go_wp2_with fail
    go_loopg [60] l.length (fun gk iv wr=>∃ i:Nat,iv=.int .i64 i/\i+gk=l.length/\Did Zk wm cb bb dM ir il fns (ft i) wr)
    case atStart=>exact ⟨0,rfl,by omega,Did.refl BM.o⟩
    case round=>
     obtain ⟨i,rfl,hi,Z8,yB,yD,yw,z8,b8,f8,n1,n2,n3⟩:=hrel;by_cases mP:i<l.length
     ·have hT:=HT.o;obtain ⟨nv,ay⟩:∃ nv,nvs[i]?=some nv:=⟨_,zyM (by rw[hT.len];exact mP)⟩;have xY:=BM.o.row f8 z8 (hT.rows i nv ay);have zI:=Fr.blk hT.h f8 K0.o;obtain ⟨na,nc,_,lr,_⟩:=zaO xY.1;subst lr;have u0:wr.cell? ⟨w4.heap.size,i,none⟩=some (.slice na (nms i).length nc):=by
       rw[Blk.cell zI i,zzc (by rw[hT.len];exact mP)];exact ay
      obtain ⟨kg,jX,hin⟩:=yU.o;obtain ⟨j1,j2,j3⟩:=hin i mP;have CU:=zab (zbU b8 xY j1 j2 j3 cW);have dt:(0:Int)<=(i:Int):=zzN _;have ul:=zbv fns (nms i).reverse (ft i);have eI:((ft i).zak fns (nms i)).code.length<=1000000000:=by unfold Cp.Bs.zak;rw[ul.2.1,zy4];omega
      have eN:((ft i).zak fns (nms i)).zac.length<=1000000000:=by unfold Cp.Bs.zak;rw[ul.1,zy4];omega
      have gL:(nms i).length<=((ft i).zak fns (nms i)).zac.length:=by unfold Cp.Bs.zak;rw[ul.1,zy4];omega
      have HU:=zab (And.intro eI (And.intro eN gL));have Cb:=zab (jX i mP);have X8:=zab (And.intro z8 (And.intro f8 (And.intro n1 (And.intro n2 n3))));clear hT ay xY zI kg jX hin j1 j2 j3 ul eI eN gL z8 b8 f8 n1 n2 n3;go_wp2_with fail
      refine CU.o.mono ?_;rintro e w9 ⟨rfl,Z9,G9,Hf,GR,z9,b9,f9,n1,n2,n3⟩;have CD:=zab (zeg b9 HU.o.2.1 HU.o.2.2);have X9:=zab (And.intro z9 (And.intro f9 (And.intro n1 (And.intro n2 n3))));clear z9 b9 f9 n1 n2 n3 CU u0;go_wp2_with fail
      refine CD.o.mono ?_;rintro e pB ⟨rfl,Gb,FN,FQ,FG,Bd,zp,f10,n1,n2,n3⟩;have CW:=zab (zbS (i:=.fill (q.zac.length+i) (nms i).length) zp rfl HU.o.1);have Dt:=zab (And.intro Bd (And.intro f10 (And.intro n1 (And.intro n2 n3))));clear Bd zp f10 n1 n2 n3 CD;rw[zzq]at CW;go_wp2_with fail
      refine CW.o.mono ?_;rintro e yE ⟨rfl,hd⟩;have Bp:=zab hd;clear hd CW;go_wp2_with fail
      go_roundg (l.length-(i+1))
      case measure=>omega
      case rel=>
       refine ⟨i+1,by go_num,by omega,?_⟩;rw[Cb.o];obtain ⟨z,f,n1,n2,n3⟩:=X8.o;refine Did.trans z f n1 n2 n3 ?_;obtain ⟨z,f,n1,n2,n3⟩:=X9.o;refine Did.trans z f n1 n2 n3 ?_;obtain ⟨z,f,n1,n2,n3⟩:=Dt.o;exact Did.trans z f n1 n2 n3 Bp.o
     ·have lg:i=l.length:=by omega
      rw[lg]at b8;have hd:Did Zk wm cb bb dM ir il fns (ft l.length) wr:=⟨Z8,yB,yD,yw,z8,b8,f8,n1,n2,n3⟩;have HD:=zab hd;clear z8 b8 f8 n1 n2 n3 hd lg;go_wp2_with fail
      first|go_end0|refine bodyPost_ret (results_none rfl _ _ _) rfl ?_
      refine ⟨rfl,qC.o _ _ ?_⟩;have hT:=HT.o;obtain ⟨z,f,n1,n2,n3⟩:=X2.o;refine Did.trans z f n1 n2 n3 ?_;obtain ⟨Z8,yB,yD,yw,z8,b8,f8,p1,p2,p3⟩:=HD.o;have g1:=FB.o.size;have g2:=hT.f.size;have g3:=f8.size;refine ⟨Z8,yB,yD,yw,fun k hk=>(z8 k (by omega)).trans (hT.z k (by omega)),b8,⟨f8.os.trans (hT.f.os.trans FB.o.os),f8.tape.trans (hT.f.tape.trans FB.o.tape),f8.output.trans (hT.f.output.trans FB.o.output),by omega,fun i hi hn=>?_⟩,?_,?_,?_⟩
      ·rw[f8.block i (by omega) (fun e=>hn (KL.new e hT.n1 hT.n2 hT.n3 (by omega))),hT.f.block i (by omega) (by rintro (e|e);exact hn e;omega),FB.o.block i hi (by simp)]
      ·exact New.trans (New.trans (New.refl w4 im) hT.n1 g1) p1 (by omega)
      ·exact New.trans (New.trans (New.refl w4 iq) hT.n2 g1) p2 (by omega)
      ·exact New.trans (New.trans (New.refl w4 ik) hT.n3 g1) p3 (by omega)
end Go.Proofs.YtgahgkddaljmkaaGreatDoor
