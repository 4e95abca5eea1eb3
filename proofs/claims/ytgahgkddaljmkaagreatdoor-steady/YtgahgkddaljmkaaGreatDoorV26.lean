/- Cmp35 .. Cmp39 -/
import Derived.Test.YtgahgkddaljmkaaGreatDoorV25
import Derived.Test.YtgahgkddaljmkaaGreatDoorV1
set_option maxRecDepth 100000
set_option maxHeartbeats 4000000
namespace Go.Proofs.YtgahgkddaljmkaaGreatDoor
open Go.RowKit Go.Shelf
attribute [local go_sem ↓] Go.wp_at_zero Go.wp_at_succ
variable {n:Nat}
variable {Z:Nat->Prop}
variable {w:World}
variable {cb bb blk below:Nat}
variable {rv sv kv:Value}
variable {fns l names:List Cp.Nm}
variable {q:Cp.Bs}
variable {bl:List (Nat × List Ins)}
theorem zkA{sg:ByteArray}{t1 t2:TypeId}{x1 x2:Value}{q1:Cp.Bs}{le:Th.Ex}(h:BS Z w cb bb rv sv kv fns q)(hr:Rep Z w n (.iface t1 x1) le)(hfr:∀ W,Fr (fun _=>False) w W->Calls Tryz.prog 89 #[.iface t2 x2] W fun r w'=>∃ v',r=.returned v'/\Names W.heap.size w' v' l/\Fr (fun _=>False) W w')(hnm:names=Cp.zai q.zac l)(hl1:l.length<=1000000)(hl2:q.zac.length<=1000000000)(hrt:∀ Z1 W nv,(∀ k,Z k->Z1 k)->Fr (fun _=>False) w W->CS Z1 W cb rv fns q.blocks->Row Z1 W 9 1 nv names.length (strCells names)->Calls Tryz.prog 91 #[.pointer (some ⟨cb,0,none⟩),.agg #[.string sg,.iface t1 x1,.iface t2 x2],nv] W fun r w'=>r=.returned (.int .i64 blk)/\zfO Z1 W cb rv fns bl w')(hwt:∀ Z1 W rv1 sv1 kv1 nv,BS Z1 W cb bb rv1 sv1 kv1 fns ⟨bl,q.zac,q.code⟩->Rep Z1 W n (.iface t1 x1) le->Row Z1 W 9 1 nv names.length (strCells names)->Calls Tryz.prog 90 #[.pointer (some ⟨bb,0,none⟩),.iface t1 x1,nv,.int .i64 blk,.int .i64 below] W fun r w'=>r=.returned (.tuple #[])/\Did Z1 W cb bb rv1 sv1 kv1 fns q1 w'):
  Calls Tryz.prog 54 #[.pointer (some ⟨bb,0,none⟩),.iface 166 (.agg #[.string sg,.iface t1 x1,.iface t2 x2]),.int .i64 below] w fun r w'=>r=.returned (.tuple #[])/\Did Z w cb bb rv sv kv fns q1 w':=by
 have i0:=zcA;have i1:=zcu;have f0:Fr (fun _=>False) w (w.alloc (.cells #[.string sg,.iface t1 x1,.iface t2 x2] 166)):=(Fr.refl _ _).alloc _;have CF:=zab (hfr _ f0);have HB0:=zab (Blk.new w [.string sg,.iface t1 x1,.iface t2 x2] 166);have F0:=zab f0;have HH:=zab h;have HR:=zab hr;have HN:=zab hnm;have HRT:=zab hrt;have HWT:=zab hwt;have hbl:=h.zbW.lt;clear h hr hfr hnm hrt hwt f0;go_enter Tryz.func54,Tryz.ntmps54
 go_wp2_with fail
 refine CF.o.mono ?_;rintro r w1 ⟨fv,rfl,hfv,f1⟩;obtain ⟨fa,fn,fc,rfl⟩:=zae hfv;have CHd:=zab (zch (HH.o.fr0 (F0.o.trans f1)) hfv hl1 hl2);have F1:=zab (F0.o.trans f1);have B1:=zab (Fr.blk HB0.o f1 (by simp));clear CF hfv f1 i0 i1;go_wp2_with fail
 refine CHd.o.mono ?_;rintro r w2 ⟨nv,rfl,hnv,f2⟩;rw[<-HN.o]at hnv;obtain ⟨na,nn,nc,rfl⟩:=zaF hnv;have F2:=zab (F1.o.trans f2);have hbx:=Fr.blk B1.o f2 (by simp);have B2:=zab hbx;have HNV:Hid (Names w.heap.size w2 (.slice na nn nc) names):=zab (Names.base (Row.zaE hnv) F1.o.size);have hbn:=HH.o.zpG F2.o HNV.o;have HBN:=zab hbn;have hrow:Row (fun k=>Z k\/(Value.slice na nn nc).ownBlock=some k) w2 9 1 (.slice na nn nc) names.length (strCells names):=⟨HNV.o.1,fun k hk=>.inr hk⟩;have CR:=zab (HRT.o _ w2.drew _ (fun k hk=>.inl hk) F2.o.drew (hbn.drew).cs (Row.frc hrow ((Fr.refl (fun _=>False) _).drew) (by simp)));have HROW:=zab hrow;have HREP:=zab ((HR.o.fr0 F2.o).mono (fun k _ hk=>(Or.inl hk:Z k\/(Value.slice na nn nc).ownBlock=some k)));have b0:=Blk.cell hbn.zbW 0;have p0:=Blk.cell hbx 0;have p1:=Blk.cell hbx 1;have p2:=Blk.cell hbx 2;simp at b0 p0 p1 p2;clear CHd hnv f2 hbx hbn hrow;have HKL:Hid (∀ k,w.heap.size<=k->¬ KL cb bb rv sv kv k):=zab (fun k hk he=>by
  have h:=HH.o;rcases he with e|e|e|e|e
  ·have:=h.clt;omega
  ·omega
  ·have:=h.rlt k e;omega
  ·have:=h.slt k e;omega
  ·have:=h.klt k e;omega)
 go_wp2_with fail
 go_region_held3 (fun W=>W.cell? ⟨w.heap.size,0,none⟩=some (.string sg)/\W.cell? ⟨w.heap.size,1,none⟩=some (.iface t1 x1)/\W.cell? ⟨w.heap.size,2,none⟩=some (.iface t2 x2)/\W.cell? ⟨bb,0,none⟩=some (.pointer (some ⟨cb,0,none⟩))) (first|(refine ⟨?_,?_,?_,?_⟩ <;> assumption)|go_keep) (first
  |(go_at_call 91;refine CR.o.mono ?_;rintro r w3 ⟨rfl,hd⟩;obtain ⟨Z3,rv3,sv3,kv3,z3,b3,f3,m1,m2,m3⟩:=hd.did HBN.o.drew;have X3:=zab (And.intro z3 (And.intro b3 (And.intro f3 (And.intro m1 (And.intro m2 m3)))));have CW:=zab (HWT.o Z3 w3 rv3 sv3 kv3 (.slice na nn nc) b3 (HBN.o.drew.rep f3 z3 (HREP.o.fr0 ((Fr.refl (fun _=>False) _).drew))) (HBN.o.drew.row f3 z3 (Row.frc HROW.o ((Fr.refl (fun _=>False) _).drew) (by simp))));have hbx3:=Fr.blk (a:=w2.drew) B2.o f3 (HKL.o _ (zxJ _));have B3:=zab hbx3;have b0r:=Blk.cell b3.zbW 0;have p0r:=Blk.cell hbx3 0;have p1r:=Blk.cell hbx3 1;have p2r:=Blk.cell hbx3 2;simp at b0r p0r p1r p2r;clear hd z3 b3 f3 m1 m2 m3 hbx3)
  |(go_at_call 90;refine CW.o.mono ?_;rintro r w4 ⟨rfl,hd⟩;have D4:=zab hd;obtain ⟨Z4,rv4,sv4,kv4,z4,b4,f4,m1,m2,m3⟩:=hd;have hk4:¬ KL cb bb rv3 sv3 kv3 w.heap.size:=(fun e=>HKL.o _ (zxJ _) (KL.new e X3.o.2.2.2.1 X3.o.2.2.2.2.1 X3.o.2.2.2.2.2 (Blk.lt B2.o)));have hbx4:=Fr.blk B3.o f4 hk4;have b0w:=Blk.cell b4.zbW 0;have p0w:=Blk.cell hbx4 0;have p1w:=Blk.cell hbx4 1;have p2w:=Blk.cell hbx4 2;simp at b0w p0w p1w p2w;clear z4 b4 f4 m1 m2 m3 hbx4 hk4))
 all_goals
  go_wp2_with fail
  first|go_end0|refine bodyPost_ret (results_none rfl _ _ _) rfl ?_
  refine ⟨rfl,?_⟩;have hd:Did (fun k=>Z k\/(Value.slice na nn nc).ownBlock=some k) w2.drew cb bb rv sv kv fns q1 w4:=by
   obtain ⟨z,b,f,n1,n2,n3⟩:=X3.o;exact Did.trans z f n1 n2 n3 D4.o
  obtain ⟨Z',rv',sv',kv',z,b,f,n1,n2,n3⟩:=hd;have f2:Fr (fun _=>False) w w2.drew:=F2.o.drew;refine ⟨Z',rv',sv',kv',fun k hk=>?_,b,(f2.mono (fun _ x=>x.elim)).trans f,New.trans (New.refl w rv) n1 f2.size,New.trans (New.refl w sv) n2 f2.size,New.trans (New.refl w kv) n3 f2.size⟩;rw[z k (zxO hk f2.size)];constructor
  ·rintro (e|e)
   ·exact e
   ·have:=HNV.o.2 k e;omega
  ·exact .inl
theorem zsl{t1:TypeId}{x1:Value}{pp:Option Addr}{pn pc:Nat}{q1:Cp.Bs}{le:Th.Ex}(h:BS Z w cb bb rv sv kv fns q)(hr:Rep Z w n (.iface t1 x1) le)(hfr:∀ W,Fr (fun _=>False) w W->Calls Tryz.prog 92 #[.slice pp pn pc] W fun r w'=>∃ v',r=.returned v'/\Names W.heap.size w' v' l/\Fr (fun _=>False) W w')(hnm:names=Cp.zai q.zac l)(hl1:l.length<=1000000)(hl2:q.zac.length<=1000000000)(hrt:∀ Z1 W nv,(∀ k,Z k->Z1 k)->Fr (fun _=>False) w W->CS Z1 W cb rv fns q.blocks->Row Z1 W 9 1 nv names.length (strCells names)->Calls Tryz.prog 93 #[.pointer (some ⟨cb,0,none⟩),.slice pp pn pc,nv] W fun r w'=>r=.returned (.int .i64 blk)/\zfO Z1 W cb rv fns bl w')(hwt:∀ Z1 W rv1 sv1 kv1 nv,BS Z1 W cb bb rv1 sv1 kv1 fns ⟨bl,q.zac,q.code⟩->Rep Z1 W n (.iface t1 x1) le->Row Z1 W 9 1 nv names.length (strCells names)->Calls Tryz.prog 90 #[.pointer (some ⟨bb,0,none⟩),.iface t1 x1,nv,.int .i64 blk,.int .i64 below] W fun r w'=>r=.returned (.tuple #[])/\Did Z1 W cb bb rv1 sv1 kv1 fns q1 w'):
  Calls Tryz.prog 54 #[.pointer (some ⟨bb,0,none⟩),.iface 173 (.agg #[.iface t1 x1,.slice pp pn pc]),.int .i64 below] w fun r w'=>r=.returned (.tuple #[])/\Did Z w cb bb rv sv kv fns q1 w':=by
 have i0:=zeK;have i1:=zdO;have i2:=zh2;have f0:Fr (fun _=>False) w (w.alloc (.cells #[.iface t1 x1,.slice pp pn pc] 173)):=(Fr.refl _ _).alloc _;have CF:=zab (hfr _ f0);have HB0:=zab (Blk.new w [.iface t1 x1,.slice pp pn pc] 173);have F0:=zab f0;have HH:=zab h;have HR:=zab hr;have HN:=zab hnm;have HRT:=zab hrt;have HWT:=zab hwt;have hbl:=h.zbW.lt;clear h hr hfr hnm hrt hwt f0;go_enter Tryz.func54,Tryz.ntmps54
 go_wp2_with fail
 refine CF.o.mono ?_;rintro r w1 ⟨fv,rfl,hfv,f1⟩;obtain ⟨fa,fn,fc,rfl⟩:=zae hfv;have CHd:=zab (zch (HH.o.fr0 (F0.o.trans f1)) hfv hl1 hl2);have F1:=zab (F0.o.trans f1);have B1:=zab (Fr.blk HB0.o f1 (by simp));clear CF hfv f1 i0 i1 i2;go_wp2_with fail
 refine CHd.o.mono ?_;rintro r w2 ⟨nv,rfl,hnv,f2⟩;rw[<-HN.o]at hnv;obtain ⟨na,nn,nc,rfl⟩:=zaF hnv;have F2:=zab (F1.o.trans f2);have hbx:=Fr.blk B1.o f2 (by simp);have B2:=zab hbx;have HNV:Hid (Names w.heap.size w2 (.slice na nn nc) names):=zab (Names.base (Row.zaE hnv) F1.o.size);have hbn:=HH.o.zpG F2.o HNV.o;have HBN:=zab hbn;have hrow:Row (fun k=>Z k\/(Value.slice na nn nc).ownBlock=some k) w2 9 1 (.slice na nn nc) names.length (strCells names):=⟨HNV.o.1,fun k hk=>.inr hk⟩;have CR:=zab (HRT.o _ w2.drew _ (fun k hk=>.inl hk) F2.o.drew (hbn.drew).cs (Row.frc hrow ((Fr.refl (fun _=>False) _).drew) (by simp)));have HROW:=zab hrow;have HREP:=zab ((HR.o.fr0 F2.o).mono (fun k _ hk=>(Or.inl hk:Z k\/(Value.slice na nn nc).ownBlock=some k)));have b0:=Blk.cell hbn.zbW 0;have p0:=Blk.cell hbx 0;have p1:=Blk.cell hbx 1;simp at b0 p0 p1;clear CHd hnv f2 hbx hbn hrow;have HKL:Hid (∀ k,w.heap.size<=k->¬ KL cb bb rv sv kv k):=zab (fun k hk he=>by
  have h:=HH.o;rcases he with e|e|e|e|e
  ·have:=h.clt;omega
  ·omega
  ·have:=h.rlt k e;omega
  ·have:=h.slt k e;omega
  ·have:=h.klt k e;omega)
 go_wp2_with fail
 go_region_held3 (fun W=>W.cell? ⟨w.heap.size,0,none⟩=some (.iface t1 x1)/\W.cell? ⟨w.heap.size,1,none⟩=some (.slice pp pn pc)/\W.cell? ⟨bb,0,none⟩=some (.pointer (some ⟨cb,0,none⟩))) (first|(refine ⟨?_,?_,?_⟩ <;> assumption)|go_keep) (first
  |(go_at_call 93;refine CR.o.mono ?_;rintro r w3 ⟨rfl,hd⟩;obtain ⟨Z3,rv3,sv3,kv3,z3,b3,f3,m1,m2,m3⟩:=hd.did HBN.o.drew;have X3:=zab (And.intro z3 (And.intro b3 (And.intro f3 (And.intro m1 (And.intro m2 m3)))));have CW:=zab (HWT.o Z3 w3 rv3 sv3 kv3 (.slice na nn nc) b3 (HBN.o.drew.rep f3 z3 (HREP.o.fr0 ((Fr.refl (fun _=>False) _).drew))) (HBN.o.drew.row f3 z3 (Row.frc HROW.o ((Fr.refl (fun _=>False) _).drew) (by simp))));have hbx3:=Fr.blk (a:=w2.drew) B2.o f3 (HKL.o _ (zxJ _));have B3:=zab hbx3;have b0r:=Blk.cell b3.zbW 0;have p0r:=Blk.cell hbx3 0;have p1r:=Blk.cell hbx3 1;simp at b0r p0r p1r;clear hd z3 b3 f3 m1 m2 m3 hbx3)
  |(go_at_call 90;refine CW.o.mono ?_;rintro r w4 ⟨rfl,hd⟩;have D4:=zab hd;obtain ⟨Z4,rv4,sv4,kv4,z4,b4,f4,m1,m2,m3⟩:=hd;have hk4:¬ KL cb bb rv3 sv3 kv3 w.heap.size:=(fun e=>HKL.o _ (zxJ _) (KL.new e X3.o.2.2.2.1 X3.o.2.2.2.2.1 X3.o.2.2.2.2.2 (Blk.lt B2.o)));have hbx4:=Fr.blk B3.o f4 hk4;have b0w:=Blk.cell b4.zbW 0;have p0w:=Blk.cell hbx4 0;have p1w:=Blk.cell hbx4 1;simp at b0w p0w p1w;clear z4 b4 f4 m1 m2 m3 hbx4 hk4))
 all_goals
  go_wp2_with fail
  first|go_end0|refine bodyPost_ret (results_none rfl _ _ _) rfl ?_
  refine ⟨rfl,?_⟩;have hd:Did (fun k=>Z k\/(Value.slice na nn nc).ownBlock=some k) w2.drew cb bb rv sv kv fns q1 w4:=by
   obtain ⟨z,b,f,n1,n2,n3⟩:=X3.o;exact Did.trans z f n1 n2 n3 D4.o
  obtain ⟨Z',rv',sv',kv',z,b,f,n1,n2,n3⟩:=hd;have f2:Fr (fun _=>False) w w2.drew:=F2.o.drew;refine ⟨Z',rv',sv',kv',fun k hk=>?_,b,(f2.mono (fun _ x=>x.elim)).trans f,New.trans (New.refl w rv) n1 f2.size,New.trans (New.refl w sv) n2 f2.size,New.trans (New.refl w kv) n3 f2.size⟩;rw[z k (zxO hk f2.size)];constructor
  ·rintro (e|e)
   ·exact e
   ·have:=HNV.o.2 k e;omega
  ·exact .inl
theorem zkd(fns:List Cp.Nm):∀ (l:List Cp.Nm) (q:Cp.Bs),(l.foldl (Cp.Bs.use fns) q).blocks=q.blocks
 |[],_=>rfl
 |y::l,q=>(zkd fns l (q.use fns y)).trans (znk fns q y).2.2
theorem zep(fns:List Cp.Nm)(q:Cp.Bs)(names:List Cp.Nm):(q.zak fns names).blocks=q.blocks:=zkd fns _ q
theorem zuM{pn pc:Nat}{r:Bool}{pp:Option Addr}{bt:TypeId}{bx:Value}{e:Th.Ex}(h:BS Z w cb bb rv sv kv fns q)(hr:Rep Z w n (.iface 178 (.agg #[.bool r,.slice pp pn pc,.iface bt bx])) e)(hfr:∀ W,Fr (fun _=>False) w W->Calls Tryz.prog 89 #[.iface 178 (.agg #[.bool r,.slice pp pn pc,.iface bt bx])] W fun r w'=>∃ v',r=.returned v'/\Names W.heap.size w' v' l/\Fr (fun _=>False) W w')(hnm:names=Cp.zai q.zac l)(hl1:l.length<=1000000)(hl2:q.zac.length+names.length<=1000000000)(hl4:q.code.length+names.length+1<=1000000000)(hl3:fns.length<=1000000000)(hin:∀ x∈names,x≠[]/\(Cp.za8 q.zac x=none->x∈fns))(hb0:0<below)(hb1:below+names.length<=1000000000)(hsu:∀ Z1 W rv1 nv,CS Z1 W cb rv1 fns q.blocks->Rep Z1 W n (.iface 178 (.agg #[.bool r,.slice pp pn pc,.iface bt bx])) e->Row Z1 W 9 1 nv names.length (strCells names)->Calls Tryz.prog 161 #[.pointer (some ⟨cb,0,none⟩),.iface 178 (.agg #[.bool r,.slice pp pn pc,.iface bt bx]),nv] W fun r w'=>r=.returned (.int .i64 blk)/\zfO Z1 W cb rv1 fns bl w'):
  Calls Tryz.prog 94 #[.pointer (some ⟨bb,0,none⟩),.agg #[.bool r,.slice pp pn pc,.iface bt bx],.int .i64 below] w fun r w'=>r=.returned (.tuple #[])/\Did Z w cb bb rv sv kv fns (Cp.Bs.ends ⟨bl,(q.zak fns names).zac,(q.zak fns names).code⟩ (below+names.length) (.jump blk)) w':=by
 have hgt:(0:Int)<(below:Int):=by omega
 have hwr:IntKind.i64.wrap ((below:Int)+(names.length:Int))=(below:Int)+(names.length:Int):=zeG _ (by omega) (by omega);have f0:Fr (fun _=>False) w (w.alloc (.cells #[.bool r,.slice pp pn pc,.iface bt bx] 178)):=(Fr.refl _ _).alloc _;have CF:=zab (hfr _ f0);have HB0:=zab (Blk.new w [.bool r,.slice pp pn pc,.iface bt bx] 178);have F0:=zab f0;have HH:=zab h;have HR:=zab hr;have HN:=zab hnm;have HSU:=zab hsu;have HIN:=zab hin;have hbl:=h.zbW.lt;have ul:=zbs fns names.reverse q;have HC:Hid ((q.zak fns names).code.length+1<=1000000000):=zab (by unfold Cp.Bs.zak;rw[ul.2.1,zx0];omega);have HUB:=zab (zep fns q names);clear h hr hfr hnm hsu f0 hin ul;go_enter Tryz.func94,Tryz.ntmps94
 go_wp2_with fail
 refine CF.o.mono ?_;rintro r1 w1 ⟨fv,rfl,hfv,f1⟩;obtain ⟨fa,fn,fc,rfl⟩:=zae hfv;have CHd:=zab (zch (HH.o.fr0 (F0.o.trans f1)) hfv hl1 (by omega));have F1:=zab (F0.o.trans f1);have B1:=zab (Fr.blk HB0.o f1 (by simp));clear CF hfv f1;go_wp2_with fail
 refine CHd.o.mono ?_;rintro r1 w2 ⟨nv,rfl,hnv,f2⟩;rw[<-HN.o]at hnv;obtain ⟨na,nc,_,hnve,_⟩:=zaN (zaY hnv (zx1 _));subst hnve;have F2:=zab (F1.o.trans f2);have B2:=zab (Fr.blk B1.o f2 (by simp));have HNV:Hid (Names w.heap.size w2 (.slice na names.length nc) names):=zab (Names.base (Row.zaE hnv) F1.o.size);have hbn:=HH.o.zpG F2.o HNV.o;have HBN:=zab hbn;have hrow:Row (fun k=>Z k\/(Value.slice na names.length nc).ownBlock=some k) w2 9 1 (.slice na names.length nc) names.length (strCells names):=⟨HNV.o.1,fun k hk=>.inr hk⟩;have CU:=zab (zbR hbn hrow HIN.o (by omega) hl2 hl3);have HROW:=zab hrow;have HREP:=zab ((HR.o.fr0 F2.o).mono (fun k _ hk=>(Or.inl hk:Z k\/(Value.slice na names.length nc).ownBlock=some k)));have HKL:Hid (∀ k,w.heap.size<=k->¬ KL cb bb rv sv kv k):=zab (fun k hk he=>by
  have h:=HH.o;rcases he with e|e|e|e|e
  ·have:=h.clt;omega
  ·omega
  ·have:=h.rlt k e;omega
  ·have:=h.slt k e;omega
  ·have:=h.klt k e;omega)
 clear CHd hnv f2 hbn hrow;go_wp2_with fail
 refine CU.o.mono ?_;rintro r1 w5 ⟨rfl,Z5,rv5,sv5,kv5,z5,b5,f5,m1,m2,m3⟩;have hbx:=Fr.blk B2.o f5 (HKL.o _ (zxJ _));have B5:=zab hbx;have hcs:=b5.cs;rw[HUB.o]at hcs;have hdr:Fr (fun _=>False) w5 w5.drew:=(Fr.refl _ _).drew;have CR:=zab (HSU.o Z5 w5.drew rv5 (.slice na names.length nc) (hcs.fr0 hdr) ((HBN.o.rep f5 z5 HREP.o).fr0 hdr) (Row.frc (HBN.o.row f5 z5 HROW.o) hdr (by simp)));have b0:=Blk.cell b5.zbW 0;have p0:=Blk.cell hbx 0;have p1:=Blk.cell hbx 1;have p2:=Blk.cell hbx 2;simp at b0 p0 p1 p2;have X5:=zab (And.intro z5 (And.intro b5 (And.intro f5 (And.intro m1 (And.intro m2 m3)))));have HK5:Hid (¬ KL cb bb rv5 sv5 kv5 w.heap.size):=zab (fun e=>HKL.o _ (zxJ _) (KL.new e m1 m2 m3 (Blk.lt B2.o)));clear CU z5 b5 f5 m1 m2 m3 hbx hcs hdr;go_wp2_with fail
 go_region_held3 (fun W=>W.cell? ⟨w.heap.size,0,none⟩=some (.bool r)/\W.cell? ⟨w.heap.size,1,none⟩=some (.slice pp pn pc)/\W.cell? ⟨w.heap.size,2,none⟩=some (.iface bt bx)/\W.cell? ⟨bb,0,none⟩=some (.pointer (some ⟨cb,0,none⟩))) (first|(refine ⟨?_,?_,?_,?_⟩ <;> assumption)|go_keep) (first
  |(go_at_call 161;refine CR.o.mono ?_;rintro r1 w6 ⟨rfl,hd⟩;obtain ⟨Z6,rv6,sv6,kv6,z6,b6,f6,m1,m2,m3⟩:=hd.did X5.o.2.1.drew;have X6:=zab (And.intro z6 (And.intro b6 (And.intro f6 (And.intro m1 (And.intro m2 m3)))));have CE:=zab (zgI (c:=below+names.length) (i:=.jump blk) b6 rfl HC.o);have hbx6:=Fr.blk (a:=w5.drew) B5.o f6 HK5.o;have B6:=zab hbx6;have b0r:=Blk.cell b6.zbW 0;have p0r:=Blk.cell hbx6 0;have p1r:=Blk.cell hbx6 1;have p2r:=Blk.cell hbx6 2;simp at b0r p0r p1r p2r;clear hd z6 b6 f6 m1 m2 m3 hbx6)
  |(go_at_call 96;refine CE.o.mono ?_;rintro r1 w7 ⟨rfl,hd⟩;have D7:=zab hd;obtain ⟨Z7,rv7,sv7,kv7,z7,b7,f7,m1,m2,m3⟩:=hd;have hk7:¬ KL cb bb rv6 sv6 kv6 w.heap.size:=(fun e=>HK5.o (KL.new e X6.o.2.2.2.1 X6.o.2.2.2.2.1 X6.o.2.2.2.2.2 (Blk.lt B5.o)));have hbx7:=Fr.blk B6.o f7 hk7;have b0w:=Blk.cell b7.zbW 0;have p0w:=Blk.cell hbx7 0;have p1w:=Blk.cell hbx7 1;have p2w:=Blk.cell hbx7 2;simp at b0w p0w p1w p2w;clear z7 b7 f7 m1 m2 m3 hbx7 hk7))
 all_goals
  go_wp2_with fail
  first|go_end0|refine bodyPost_ret (results_none rfl _ _ _) rfl ?_
  refine ⟨rfl,?_⟩;have hd:Did (fun k=>Z k\/(Value.slice na names.length nc).ownBlock=some k) w2 cb bb rv sv kv fns (Cp.Bs.ends ⟨bl,(q.zak fns names).zac,(q.zak fns names).code⟩ (below+names.length) (.jump blk)) w7:=by
   obtain ⟨z,b,f,n1,n2,n3⟩:=X5.o;refine Did.trans z f n1 n2 n3 (Did.fr0 ((Fr.refl _ _).drew) ?_);obtain ⟨z,b,f,n1,n2,n3⟩:=X6.o;exact Did.trans z f n1 n2 n3 D7.o
  obtain ⟨Z',rv',sv',kv',z,b,f,n1,n2,n3⟩:=hd;have f2:=F2.o;refine ⟨Z',rv',sv',kv',fun k hk=>?_,b,(f2.mono (fun _ x=>x.elim)).trans f,New.trans (New.refl w rv) n1 f2.size,New.trans (New.refl w sv) n2 f2.size,New.trans (New.refl w kv) n3 f2.size⟩;rw[z k (zxO hk f2.size)];constructor
  ·rintro (e|e)
   ·exact e
   ·have:=HNV.o.2 k e;omega
  ·exact .inl
theorem zqJ:∀ args w,(callFunc 53 args).run Tryz.prog w=.ok (.enter 53 args) w:=by
 intro args w
 kernel_rfl
theorem zoc{M N:Nat}(hW:zbg M N n){bx:Nat}{a0 a1 a2:Value}{t:TypeId}{x:Value}{e:Th.Ex}(hx:Blk w bx [a0,a1,a2,.iface t x] 93)(h:BS Z w cb bb rv sv kv fns q)(hr:Rep Z w n (.iface t x) e)(hf:Fit M N fns q e):
  Calls Tryz.prog 53 #[.pointer (some ⟨bb,0,none⟩),.pointer (some ⟨bx,0,none⟩)] w fun r w'=>r=.returned (.tuple #[])/\Did Z w cb bb rv sv kv fns (Cp.work (Cp.free N) fns n e 0 q) w':=by
 have c0:=Blk.cell hx 3;simp at c0;have CW:=zab (hW (below:=0) h hr hf (by have:=hf.cl;omega));clear hW h hr hf hx;go_enter Tryz.func53,Tryz.ntmps53
 go_wp2_with fail
 refine CW.o.mono ?_;rintro r w' ⟨rfl,hd⟩;have HD:=zab hd;clear hd CW c0;go_wp2_with fail
 first|go_end0|refine bodyPost_ret (results_none rfl _ _ _) rfl ?_
 exact ⟨rfl,HD.o⟩
theorem zuC:(Tryz.prog.info? 38).map (fun i=>(i.size,i.bytes,i.zero))=some (1,24,some (.slice none 0 0)):=by kernel_rfl
theorem madeL(n:Nat):madeCells (Value.cells (.slice none 0 0)) n=(List.replicate n (Value.slice none 0 0)).toArray:=by
 apply Array.ext
 ·simp[madeCells]
 ·intro i h1 h2;simp[madeCells,Value.cells,Nat.mod_one]
theorem ztO(hn:n<=1000000)(W:World):(Instr.makeSlice 160 (.int .i64 (n:Int)) (.int .i64 (n:Int))).run Tryz.prog W=.ok (.slice (some ⟨W.heap.size,0,none⟩) n n) (W.alloc (.cells (List.replicate n (Value.slice none 0 0)).toArray 38)):=by
 obtain ⟨i,hi,he⟩:=zxT.1 zuC;simp only[zyH]at he;obtain ⟨h1,h2,h3⟩:=he;have:=run_make (P:=Tryz.prog) W 160 38 i (.slice none 0 0) Tryz.underlying160 hi h3 .i64 .i64 n n (by omega) (by omega) (by rw[h2];omega) (by omega);rw[this,h1,zxY,zzn,madeL]
structure TS (Z:Nat->Prop) (w wr:World) (cb bb H m:Nat) (rv sv kv:Value) (fns:List Cp.Nm) (qk:Cp.Bs) (nms:Nat->List Cp.Nm) (k:Nat) (nvs:List Value) (Zk:Nat->Prop) (rvk svk kvk:Value):Prop where
 z:∀ j,j<w.heap.size->(Zk j↔Z j)
 b:BS Zk wr cb bb rvk svk kvk fns qk
 f:Fr (fun j=>KL cb bb rv sv kv j\/j=H) w wr
 n1:New w rv rvk
 n2:New w sv svk
 n3:New w kv kvk
 h:Blk wr H (nvs++List.replicate (m-k) (.slice none 0 0)) 38
 rows:∀ (j:Nat) (nv:Value),nvs[j]?=some nv->Row Zk wr 9 1 nv (nms j).length (strCells (nms j))
 len:nvs.length=k
theorem TS.next{wr w6 w7:World}{H m:Nat}{nv:Value}{qk qc qd:Cp.Bs}{nms:Nat->List Cp.Nm}{k:Nat}{nvs:List Value}{Zk:Nat->Prop}{rvk svk kvk:Value}(h:TS Z w wr cb bb H m rv sv kv fns qk nms k nvs Zk rvk svk kvk)(hH:H<w.heap.size)(hZ:¬ Z H)(hK:¬ KL cb bb rv sv kv H)(hk:k<m){o:Obj}{Z1:Nat->Prop}{rv1 sv1 kv1:Value}(z1:∀ j,j<(wr.alloc o).heap.size->(Z1 j↔Zk j))(b1:BS Z1 w6 cb bb rv1 sv1 kv1 fns qc)(f1:Fr (KL cb bb rvk svk kvk) (wr.alloc o) w6)(a1:New (wr.alloc o) rvk rv1)(a2:New (wr.alloc o) svk sv1)(a3:New (wr.alloc o) kvk kv1)(hrow:Row Z1 w6 9 1 nv (nms k).length (strCells (nms k)))(d2:Did Z1 w6 cb bb rv1 sv1 kv1 fns qd w7):
  Blk w7 H (nvs++List.replicate (m-k) (.slice none 0 0)) 38/\∃ Z' rv' sv' kv',TS Z w (w7.setCell ⟨H,k,none⟩ nv) cb bb H m rv sv kv fns qd nms (k+1) (nvs++[nv]) Z' rv' sv' kv':=by
 have f0:Fr (fun _=>False) wr (wr.alloc o):=(Fr.refl _ _).alloc _;obtain ⟨Z2,rv2,sv2,kv2,z2,b2,f2,c1,c2,c3⟩:=d2;have s0:=h.f.size;have s1:=f0.size;have s2:=f1.size;have s3:=f2.size;have k0:¬ KL cb bb rvk svk kvk H:=fun e=>hK (KL.new e h.n1 h.n2 h.n3 hH)
 have hHr:H<wr.heap.size:=h.h.lt;have k1:¬ KL cb bb rv1 sv1 kv1 H:=fun e=>k0 (KL.new e a1 a2 a3 (by omega))
 have k2:¬ KL cb bb rv2 sv2 kv2 H:=fun e=>k1 (KL.new e c1 c2 c3 (by omega))
 have zk:¬ Zk H:=fun e=>hZ ((h.z H hH).1 e)
 have zk1:¬ Z1 H:=fun e=>zk ((z1 H (by omega)).1 e)
 have zk2:¬ Z2 H:=fun e=>zk1 ((z2 H (by omega)).1 e)
 have hb7:Blk w7 H (nvs++List.replicate (m-k) (.slice none 0 0)) 38:=Fr.blk (Fr.blk (Fr.blk h.h f0 (by simp)) f1 k0) f2 k1;have f3:Fr (fun j=>j=H) w7 (w7.setCell ⟨H,k,none⟩ nv):=(Fr.refl _ _).set _ _ (.inl rfl);refine ⟨hb7,Z2,rv2,sv2,kv2,⟨fun j hj=>(z2 j (by omega)).trans ((z1 j (by omega)).trans (h.z j hj)),b2.frk f3 ?_,?_,?_,?_,?_,?_,?_,by simp[h.len]⟩⟩
 ·rintro j (e|e) rfl
  ·exact zk2 e
  ·exact k2 e
 ·refine Fr.set ?_ _ _ (.inl (.inr rfl));refine ⟨f2.os.trans (f1.os.trans (f0.os.trans h.f.os)),f2.tape.trans (f1.tape.trans (f0.tape.trans h.f.tape)),f2.output.trans (f1.output.trans (f0.output.trans h.f.output)),by omega,fun i hi hn=>?_⟩;have e0:¬ KL cb bb rvk svk kvk i:=fun e=>hn (.inl (KL.new e h.n1 h.n2 h.n3 hi))
  have e1:¬ KL cb bb rv1 sv1 kv1 i:=fun e=>e0 (KL.new e a1 a2 a3 (by omega))
  rw[f2.block i (by omega) e1,f1.block i (by omega) e0,f0.block i (by omega) (by simp),h.f.block i hi hn]
 ·exact h.n1.trans (New.trans (New.trans (New.refl wr rvk) a1 s1) (New.trans (New.refl (wr.alloc o) rv1) c1 s2) s1) s0
 ·exact h.n2.trans (New.trans (New.trans (New.refl wr svk) a2 s1) (New.trans (New.refl (wr.alloc o) sv1) c2 s2) s1) s0
 ·exact h.n3.trans (New.trans (New.trans (New.refl wr kvk) a3 s1) (New.trans (New.refl (wr.alloc o) kv1) c3 s2) s1) s0
 ·have:=hb7.set k nv;have hl:=h.len;have e:(nvs++List.replicate (m-k) (Value.slice none 0 0)).set k nv=(nvs++[nv])++List.replicate (m-(k+1)) (.slice none 0 0):=by
   rw[List.set_append_right _ _ (by omega),hl,zzp,show m-k=(m-(k+1))+1 by omega,zyZ,zxV];simp
  rw[e]at this;exact this
 ·intro j nv' hj;rw[zyd]at hj;have hfr:∀ j,j<w7.heap.size->Z2 j->¬ j=H:=fun j _ hz e=>zk2 (e ▸ hz)
  by_cases hjl:j<nvs.length
  ·rw[if_pos hjl]at hj;exact (b1.row f2 z2 ((h.b.fr0 f0).row f1 z1 (Row.frc (h.rows j nv' hj) f0 (by simp)))).frz f3 hfr (fun _ _ x=>x)
  ·rw[if_neg hjl]at hj;have h1:j-nvs.length=0:=by
    have:=(zxH.1 hj).1;simp at this;omega
   rw[h1]at hj;simp only[zyh,zxL]at hj;subst hj;have hjk:j=k:=by have:=h.len;omega
   rw[hjk];exact (b1.row f2 z2 hrow).frz f3 hfr (fun _ _ x=>x)
theorem zim{pv:Value}{r:Bool}{bt:TypeId}{bx:Value}{l:List Th.Tok}{parts:List Th.Ex}{pvs:List Value}{st qc ft:Nat->Cp.Bs}{bk:Nat->Nat}{nms:Nat->List Cp.Nm}(h:BS Z w cb bb rv sv kv fns q)(h3:parts.length=l.length)(h4:pvs.length=l.length)(h6:Row Z w 312 3 pv l.length (zaM l pvs))(h8:∀ (i:Nat) (bv:Value) (p:Th.Ex),pvs[i]?=some bv->parts[i]?=some p->Rep Z w n bv p)(hs0:st 0=⟨q.blocks,q.zac++Th.texts l,q.code⟩)(hcl:∀ (i:Nat) (e:Th.Ex) (Z1:Nat->Prop) (W:World) (rv1 sv1 kv1 v:Value),parts[i]?=some e->BS Z1 W cb bb rv1 sv1 kv1 fns (st i)->Rep Z1 W n v e ->
   Calls Tryz.prog 165 #[.pointer (some ⟨bb,0,none⟩),v] W fun r w'=>∃ nv,r=.returned (.tuple #[.int .i64 (bk i),nv])/\znQ Z1 W cb bb rv1 sv1 kv1 fns (qc i) w' nv (nms i))(hst:∀ i,i<l.length->st (i+1)=(qc i).write (.hold (bk i) (nms i).length))(hqc:∀ i,i<l.length->(qc i).code.length<=1000000000)(hf0:ft 0=st l.length)(hfs:∀ i,i<l.length->ft (i+1)=(((ft i).zak fns (nms i)).drop (nms i).length).write (.fill (q.zac.length+i) (nms i).length))(hin:∀ i,i<l.length->(∀ x∈nms i,x≠[]/\(Cp.za8 (ft i).zac x=none->x∈fns))/\(ft i).code.length+(nms i).length<=1000000000/\(ft i).zac.length+(nms i).length<=1000000000)(hl3:fns.length<=1000000000)(hpos:0<l.length)(hal:l.length<=1000000)(hsm:q.zac.length<=100000000):
  Calls Tryz.prog 162 #[.pointer (some ⟨bb,0,none⟩),.agg #[.bool r,pv,.iface bt bx]] w fun e w'=>e=.returned (.tuple #[])/\Did Z w cb bb rv sv kv fns (ft l.length) w':=by
 obtain ⟨i0,hi0,hz0,hz1,hz2⟩:=info_parts zeN;have HI:=zab hi0;clear hi0;have HZ:=zab (And.intro hz0 (And.intro hz1 hz2));clear hz0 hz1 hz2;obtain ⟨g0,pc,hpv⟩:∃ g0 pc,pv=.slice (some ⟨g0,0,none⟩) l.length pc:=by
  rcases h6.1.2 with ⟨_,h0⟩|⟨g,cap,cur,h0,_⟩
  ·omega
  ·exact ⟨_,_,h0⟩
 subst hpv;obtain ⟨sp,sc,_,hsv,_⟩:=zaN h.ziJ;subst hsv;have hone:∀ (i:Nat) (pv:Value),pvs[i]?=some pv->pv.oneCell'=true:=fun i pv hp=>by
  have:i<parts.length:=by rw[h3,<-h4];exact (zxH.1 hp).1
  obtain ⟨t,x,rfl⟩:=zah (h8 i pv parts[i] hp (zxI this));rfl
 have f0:Fr (fun _=>False) w (w.alloc (.cells #[.bool r,.slice (some ⟨g0,0,none⟩) l.length pc,.iface bt bx] 178)):=(Fr.refl _ _).alloc _;have hb1:=h.zw6 (.cells #[.bool r,.slice (some ⟨g0,0,none⟩) l.length pc,.iface bt bx] 178);have hB0:=Blk.new w [.bool r,.slice (some ⟨g0,0,none⟩) l.length pc,.iface bt bx] 178;have HB1:=zab hb1;have HB0:=zab hB0;have hr6:=(Row.frc h6 f0 (by simp)).mono (S':=fun k=>Z k\/k=w.heap.size) (fun k _ hk=>.inl hk);have H6:=zab hr6;have H8:=zab (fun i bv p a b=>((h8 i bv p a b).fr0 f0).mono (S':=fun k=>Z k\/k=w.heap.size) (fun k _ hk=>.inl hk));have H3:=zab h3;have H4:=zab h4;have HS0:=zab hs0;have HCLO:=zab hcl;have HST:=zab (And.intro hst hqc);have HFT:=zab (And.intro hf0 (And.intro hfs hin));have c1:=Blk.cell hb1.zbW 1;simp at c1;have hbl:=h.zbW.lt;have CN:=zab (zcY (w:=(w.alloc (.cells #[.bool r,.slice (some ⟨g0,0,none⟩) l.length pc,.iface bt bx] 178)).drew) (rb:=r) (bt:=bt) (bx:=bx) (Row.frc hr6 ((Fr.refl (fun _=>False) _).drew) (by simp)) h4 hone hal);have HL0:=ztO hal;obtain ⟨vs,hvs⟩:∃ vs,List.replicate l.length (Value.slice none 0 0)=vs:=⟨_,rfl⟩;rw[hvs]at HL0;have HVS:=zab hvs;clear hvs;clear h h3 h4 h6 h8 hs0 hcl hst hqc hf0 hfs hin hone hb1 hB0 f0 hr6;have F0:Hid (Fr (fun _=>False) w (w.alloc (.cells #[.bool r,.slice (some ⟨g0,0,none⟩) l.length pc,.iface bt bx] 178))):=zab ((Fr.refl _ _).alloc _);have HOUT:Hid (∀ q' w',Did (fun k=>Z k\/k=w.heap.size) (w.alloc (.cells #[.bool r,.slice (some ⟨g0,0,none⟩) l.length pc,.iface bt bx] 178)) cb bb rv (.slice sp q.zac.length sc) kv fns q' w'->Did Z w cb bb rv (.slice sp q.zac.length sc) kv fns q' w'):=zab (fun q' w' d=>Did.out1 d);go_enter Tryz.func162,Tryz.ntmps162
 go_wp2_with fail
 generalize w.alloc (.cells #[.bool r,.slice (some ⟨g0,0,none⟩) l.length pc,.iface bt bx] 178)=w0 at HB0 HB1 F0 HOUT H6 H8 c1 CN ⊢;have e0:=Blk.cell HB0.o 0;have e1:=Blk.cell HB0.o 1;have e2:=Blk.cell HB0.o 2;simp at e0 e1 e2
 go_region_law (first
  |(refine step_append_lies _ (by rfl) _ _ _ (by rfl) 0 9 i0 _ 1 16 Tryz.underlying38 HI.o HZ.o.1 HZ.o.2.1 HZ.o.2.2 rfl (by omega) (.slice sp q.zac.length sc) q.zac.length (strCells q.zac) (by rfl) (F5.o.gb HB1.o.ziJ (by simp)) ⟨tg,0,none⟩ l.length tc (strCells (Th.texts l)) (by rfl) HTL.o HSRC.o zeU hpos (by unfold maxLen;omega) (by omega) (zx1 _) w5.heap.size rfl ?_;intro g cap w3 hown hgrow hat hlt;have AD:=zab (HB1.o.ztg (g:=g) (n':=q.zac.length+l.length) (cap:=cap) (sl:=q.zac++Th.texts l) F5.o (by simp[Th.texts]) (by simpa [strCells] using hown) hgrow (by rcases hat with e|e;exact .inl e;exact .inr (by have:=F5.o.size;omega)));have d1:=Blk.cell AD.o.1 1;have df:=Blk.frozen AD.o.1 1;simp at d1;clear hown hgrow hat hlt)
  |(go_simp;go_wp2_with (go_at_call 197;refine CN.o.mono ?_;rintro e w5 ⟨tv,rfl,htv,hbel⟩;have f5:Fr (fun _=>False) w0 w5:=(Fr.refl _ _).drew.trans (Fr.below hbel);have F5:=zab f5;obtain ⟨tsp,tc,tg,htv2,_,htsp,_,htcl⟩:=zaN (zaY htv (zx1 _));rw[htsp hpos]at htv2;subst htv2;have HSRC:=zab (fun (j:Nat) v (hv:(strCells (Th.texts l))[j]?=some v)=>(show w5.cell? (Addr.add ⟨tg,0,none⟩ j)=some v by rw[zbb,zyC];exact htcl j v hv));have HTL:Hid ((strCells (Th.texts l)).length=l.length*1):=zab (by simp[strCells,Th.texts]);have c5:w5.cell? ⟨bb,1,none⟩=some (.slice sp q.zac.length sc):=Blk.cell (HB1.o.fr0 f5).zbW 1;clear htv hbel f5 htsp htcl)))
 all_goals
  obtain ⟨Z2,rv2,sv2,kv2,z2,b2,f2,m1,m2,m3⟩:=AD.o.2;rw[<-HS0.o]at b2;clear AD d1 df;generalize w3.setCell ⟨bb,1,none⟩ (.slice (some ⟨g,0,none⟩) (q.zac.length+l.length) cap)=w4 at b2 f2 ⊢;have hbx:=HB1.o.box f2 z2 HB0.o (.inr rfl);have y1:=Blk.cell hbx.1 1;simp at y1;have y2:(w4.alloc (.cells vs.toArray 38)).cell? ⟨w.heap.size,1,none⟩=some (.slice (some ⟨g0,0,none⟩) l.length pc):=Blk.cell (Blk.alloc hbx.1 _) 1;have fb:Fr (fun _=>False) w4 (w4.alloc (.cells vs.toArray 38)):=(Fr.refl _ _).alloc _;have hHb:=Blk.new w4 vs 38;have hrb:=Row.frc (HB1.o.row f2 z2 H6.o) fb (by simp);have hrp:=fun i bv p a b=>(HB1.o.rep f2 z2 (H8.o i bv p a b)).fr0 fb
  have bb2:=b2.fr0 fb;have hHs:w4.heap.size<(w4.alloc (.cells vs.toArray 38)).heap.size:=by rw[World.size_alloc];omega
  have hZH:¬ Z2 w4.heap.size:=fun e=>by have:=b2.zlt _ e;omega
  have hKH:¬ KL cb bb rv2 sv2 kv2 w4.heap.size:=by
   rintro (e|e|e|e|e)
   ·have:=b2.clt;omega
   ·have:=b2.zbW.lt;omega
   ·have:=b2.rlt _ e;omega
   ·have:=b2.slt _ e;omega
   ·have:=b2.klt _ e;omega
  have X2:=zab (And.intro z2 (And.intro f2 (And.intro m1 (And.intro m2 m3))));have FB:=zab fb;have HHB:=zab hHb;have HRB:=zab hrb;have HRP:=zab hrp;have BB2:=zab bb2;have HHS:=zab (And.intro hHs (And.intro hZH hKH));clear z2 b2 f2 m1 m2 m3 hbx fb hHb hrb hrp bb2 hHs hZH hKH;go_wp2_with fail
  generalize w4.alloc (.cells vs.toArray 38)=wb at FB HHB HRB HRP BB2 HHS y2 ⊢;clear y1 y2
  go_loopg [34] l.length (fun gk iv wr=>∃ (k:Nat) (nvs:List Value) (Zk:Nat->Prop) (rvk svk kvk:Value),iv=.int .i64 k/\k+gk=l.length/\TS Z2 wb wr cb bb w4.heap.size l.length rv2 sv2 kv2 fns (st k) nms k nvs Zk rvk svk kvk)
  case atStart=>exact ⟨0,[],Z2,rv2,sv2,kv2,rfl,by omega,⟨fun _ _=>zzs,BB2.o,Fr.refl _ _,New.refl _ _,New.refl _ _,New.refl _ _,by rw[zx7,zzd,HVS.o];exact HHB.o,by simp,rfl⟩⟩
  case round=>
   obtain ⟨k,nvs,Zk,rvk,svk,kvk,rfl,hk,hT⟩:=hrel;have HT:=zab hT;by_cases hlt:k<l.length
   ·obtain ⟨a,ha⟩:∃ a,l[k]?=some a:=⟨l[k],zxI hlt⟩;obtain ⟨p,hp⟩:∃ p,parts[k]?=some p:=⟨_,zxI (by rw[H3.o];exact hlt)⟩;obtain ⟨bv,hbv⟩:∃ bv,pvs[k]?=some bv:=⟨_,zxI (by rw[H4.o];exact hlt)⟩;have hz:∀ j,j<wb.heap.size->Z2 j->¬ (KL cb bb rv2 sv2 kv2 j\/j=w4.heap.size):=fun j _ hj e=>by
     rcases e with e|e
     ·exact BB2.o.zk j hj e
     ·exact HHS.o.2.1 (e ▸ hj)
    have hR:=(HRP.o k bv p hbv hp).frz hT.f hz (fun j hj hj2=>(hT.z j hj).2 hj2);obtain ⟨pt,px,rfl⟩:=zah hR;have hcs:=zbB l pvs k a _ ha hbv;have hrow:=(HRB.o.frz hT.f hz (fun j hj hj2=>(hT.z j hj).2 hj2)).1;have c0:=(hrow.cellAt (k*3) (by omega)).trans hcs.1;have c1:=(hrow.cellAt (k*3+1) (by omega)).trans hcs.2.1;have c2:=(hrow.cellAt (k*3+2) (by omega)).trans hcs.2.2;have hk0:(0:Int)<=(k:Int):=zyJ _;have fw:Fr (fun _=>False) wr (wr.alloc (.cells #[.string ⟨a.s.toArray⟩,.int .i64 a.at_,.iface pt px] 312)):=(Fr.refl _ _).alloc _;have CC:=zab (HCLO.o k p Zk _ rvk svk kvk (.iface pt px) hp (hT.b.fr0 fw) (hR.fr0 fw));have hkq:=HST.o.2 k hlt;have HSK:=zab (HST.o.1 k hlt);clear hT hz hR hcs hrow fw ha hp hbv;go_wp2_with fail
    refine CC.o.mono ?_;rintro e w6 ⟨nv,rfl,hdn⟩;obtain ⟨Z6,rv6,sv6,kv6,z6,b6,f6,o1,o2,o3,hr6⟩:=hdn;obtain ⟨na,nc,_,hnve,_⟩:=zaN hr6.1;subst hnve;have CW:=zab (zbN (i:=.hold (bk k) (nms k).length) b6 rfl hkq);have X6:=zab (And.intro z6 (And.intro b6 (And.intro f6 (And.intro o1 (And.intro o2 (And.intro o3 hr6))))));clear z6 b6 f6 o1 o2 o3 hr6 CC c0 c1 c2;go_wp2_with fail
    refine CW.o.mono ?_;rintro e w7 ⟨rfl,hd7⟩;obtain ⟨z6,b6,f6,o1,o2,o3,hr6⟩:=X6.o;obtain ⟨hb7,Z7,rv7,sv7,kv7,hT7⟩:=TS.next HT.o HHS.o.1 HHS.o.2.1 HHS.o.2.2 hlt z6 b6 f6 o1 o2 o3 hr6 hd7;have HT7:=zab hT7;have s0:w7.cell? ⟨w4.heap.size,k,none⟩=some (.slice none 0 0):=by
     have hl:=HT.o.len;rw[Blk.cell hb7 k,zxZ (by omega),hl,zzp];rw[List.getElem?_replicate,if_pos (by omega)]
    have s1:=Blk.frozen hb7 k;clear z6 b6 f6 o1 o2 o3 hr6 hd7 CW hb7 hT7;go_wp2_with fail
    go_roundg (l.length-(k+1))
    case measure=>omega
    case rel=>exact ⟨k+1,nvs++[.slice na (nms k).length nc],Z7,rv7,sv7,kv7,by go_num,by omega,by rw[HSK.o];exact HT7.o⟩
   ·have hk2:k=l.length:=by omega
    subst hk2;obtain ⟨wm,rfl⟩:∃ wm,wm=wr:=⟨wr,rfl⟩;obtain ⟨hf0,hfs,hin⟩:=HFT.o;have bm:=hT.b;rw[<-hf0]at bm;have BM:=zab bm;have k0:¬ KL cb bb rvk svk kvk w4.heap.size:=fun e=>HHS.o.2.2 (KL.new e hT.n1 hT.n2 hT.n3 HHS.o.1)
    have K0:=zab k0;clear hT bm k0 hf0 hfs hin;go_wp2_with fail
    go_loopg [60] l.length (fun gk iv wr=>∃ i:Nat,iv=.int .i64 i/\i+gk=l.length/\Did Zk wm cb bb rvk svk kvk fns (ft i) wr)
    case atStart=>exact ⟨0,rfl,by omega,Did.refl BM.o⟩
    case round=>
     obtain ⟨i,rfl,hi,Z8,rv8,sv8,kv8,z8,b8,f8,n1,n2,n3⟩:=hrel;by_cases hlt2:i<l.length
     ·have hT:=HT.o;obtain ⟨nv,hnv⟩:∃ nv,nvs[i]?=some nv:=⟨_,zxI (by rw[hT.len];exact hlt2)⟩;have hr8:=BM.o.row f8 z8 (hT.rows i nv hnv);have hH8:=Fr.blk hT.h f8 K0.o;obtain ⟨na,nc,_,hnve,_⟩:=zaN hr8.1;subst hnve;have u0:wr.cell? ⟨w4.heap.size,i,none⟩=some (.slice na (nms i).length nc):=by
       rw[Blk.cell hH8 i,zx8 (by rw[hT.len];exact hlt2)];exact hnv
      obtain ⟨hf0,hfs,hin⟩:=HFT.o;obtain ⟨j1,j2,j3⟩:=hin i hlt2;have CU:=zab (zbR b8 hr8 j1 j2 j3 hl3);have hi0:(0:Int)<=(i:Int):=zyJ _;have ul:=zbs fns (nms i).reverse (ft i);have hu1:((ft i).zak fns (nms i)).code.length<=1000000000:=by unfold Cp.Bs.zak;rw[ul.2.1,zx0];omega
      have hu2:((ft i).zak fns (nms i)).zac.length<=1000000000:=by unfold Cp.Bs.zak;rw[ul.1,zx0];omega
      have hu3:(nms i).length<=((ft i).zak fns (nms i)).zac.length:=by unfold Cp.Bs.zak;rw[ul.1,zx0];omega
      have HU:=zab (And.intro hu1 (And.intro hu2 hu3));have HFS:=zab (hfs i hlt2);have X8:=zab (And.intro z8 (And.intro f8 (And.intro n1 (And.intro n2 n3))));clear hT hnv hr8 hH8 hf0 hfs hin j1 j2 j3 ul hu1 hu2 hu3 z8 b8 f8 n1 n2 n3;go_wp2_with fail
      refine CU.o.mono ?_;rintro e w9 ⟨rfl,Z9,rv9,sv9,kv9,z9,b9,f9,n1,n2,n3⟩;have CD:=zab (zeq b9 HU.o.2.1 HU.o.2.2);have X9:=zab (And.intro z9 (And.intro f9 (And.intro n1 (And.intro n2 n3))));clear z9 b9 f9 n1 n2 n3 CU u0;go_wp2_with fail
      refine CD.o.mono ?_;rintro e w10 ⟨rfl,Z10,rv10,sv10,kv10,z10,b10,f10,n1,n2,n3⟩;have CW:=zab (zbN (i:=.fill (q.zac.length+i) (nms i).length) b10 rfl HU.o.1);have X10:=zab (And.intro z10 (And.intro f10 (And.intro n1 (And.intro n2 n3))));clear z10 b10 f10 n1 n2 n3 CD;rw[zym]at CW;go_wp2_with fail
      refine CW.o.mono ?_;rintro e w11 ⟨rfl,hd⟩;have D11:=zab hd;clear hd CW;go_wp2_with fail
      go_roundg (l.length-(i+1))
      case measure=>omega
      case rel=>
       refine ⟨i+1,by go_num,by omega,?_⟩;rw[HFS.o];obtain ⟨z,f,n1,n2,n3⟩:=X8.o;refine Did.trans z f n1 n2 n3 ?_;obtain ⟨z,f,n1,n2,n3⟩:=X9.o;refine Did.trans z f n1 n2 n3 ?_;obtain ⟨z,f,n1,n2,n3⟩:=X10.o;exact Did.trans z f n1 n2 n3 D11.o
     ·have hi2:i=l.length:=by omega
      rw[hi2]at b8;have hd:Did Zk wm cb bb rvk svk kvk fns (ft l.length) wr:=⟨Z8,rv8,sv8,kv8,z8,b8,f8,n1,n2,n3⟩;have HD:=zab hd;clear z8 b8 f8 n1 n2 n3 hd hi2;go_wp2_with fail
      first|go_end0|refine bodyPost_ret (results_none rfl _ _ _) rfl ?_
      refine ⟨rfl,HOUT.o _ _ ?_⟩;have hT:=HT.o;obtain ⟨z,f,n1,n2,n3⟩:=X2.o;refine Did.trans z f n1 n2 n3 ?_;obtain ⟨Z8,rv8,sv8,kv8,z8,b8,f8,p1,p2,p3⟩:=HD.o;have g1:=FB.o.size;have g2:=hT.f.size;have g3:=f8.size;refine ⟨Z8,rv8,sv8,kv8,fun k hk=>(z8 k (by omega)).trans (hT.z k (by omega)),b8,⟨f8.os.trans (hT.f.os.trans FB.o.os),f8.tape.trans (hT.f.tape.trans FB.o.tape),f8.output.trans (hT.f.output.trans FB.o.output),by omega,fun i hi hn=>?_⟩,?_,?_,?_⟩
      ·rw[f8.block i (by omega) (fun e=>hn (KL.new e hT.n1 hT.n2 hT.n3 (by omega))),hT.f.block i (by omega) (by rintro (e|e);exact hn e;omega),FB.o.block i hi (by simp)]
      ·exact New.trans (New.trans (New.refl w4 rv2) hT.n1 g1) p1 (by omega)
      ·exact New.trans (New.trans (New.refl w4 sv2) hT.n2 g1) p2 (by omega)
      ·exact New.trans (New.trans (New.refl w4 kv2) hT.n3 g1) p3 (by omega)
end Go.Proofs.YtgahgkddaljmkaaGreatDoor
