/- Cmp24 .. Cmp25 -/
import Derived.Test.YtgahgkddaljmkaaGreatDoorV22
import Derived.Test.YtgahgkddaljmkaaGreatDoorV1
set_option maxRecDepth 100000
set_option maxHeartbeats 4000000
namespace Go.Proofs.YtgahgkddaljmkaaGreatDoor
open Go.RowKit Go.Shelf
attribute [local go_sem ↓] Go.wp_at_zero Go.wp_at_succ
def znQ (Z:Nat->Prop) (w:World) (cb bb:Nat) (rv sv kv:Value) (fns:List Cp.Nm) (q':Cp.Bs) (w':World) (nv:Value) (names:List Cp.Nm):Prop:=
 ∃ Z' rv' sv' kv',(∀ k,k<w.heap.size->(Z' k↔Z k))/\BS Z' w' cb bb rv' sv' kv' fns q'/\Fr (KL cb bb rv sv kv) w w'/\New w rv rv'/\New w sv sv'/\New w kv kv'/\Row Z' w' 9 1 nv names.length (strCells names)
variable {Z:Nat->Prop}
variable {w w2:World}
variable {cb:Nat}
variable {rv:Value}
variable {fns:List Cp.Nm}
variable {bl:List (Nat × List Ins)}
theorem zfO.fr0{w1:World}(f:Fr (fun _=>False) w w1)(d:zfO Z w1 cb rv fns bl w2):zfO Z w cb rv fns bl w2:=by
 obtain ⟨Z',rv',h1,h2,h3,h4⟩:=d;refine ⟨Z',rv',fun k hk=>h1 k (zxO hk f.size),h2,(f.mono (fun _ x=>x.elim)).trans h3,New.trans (New.refl w rv) h4 f.size⟩
variable {bb:Nat}
variable {sv kv nv:Value}
variable {names:List Cp.Nm}
variable {q:Cp.Bs}
theorem BS.zpG(h:BS Z w cb bb rv sv kv fns q)(f2:Fr (fun _=>False) w w2)(hnv:Names w.heap.size w2 nv names):BS (fun k=>Z k\/nv.ownBlock=some k) w2 cb bb rv sv kv fns q:=by
 have hs:=h.slt;have hk:=h.klt;have hr:=h.rlt;have hb:=h.zbW.lt;have hc:=h.clt;refine (h.fr0 f2).more (fun k hk'=>⟨(hnv.1.lt k hk').2,?_⟩);have hge:=hnv.2 k hk';rintro (e|e|e|e|e)
 ·omega
 ·omega
 ·have:=hr k e;omega
 ·have:=hs k e;omega
 ·have:=hk k e;omega
theorem zfg{w3:World}(h:BS Z w cb bb rv sv kv fns q)(f2:Fr (fun _=>False) w w2)(hnv:Names w.heap.size w2 nv names)(hd:zfO (fun k=>Z k\/nv.ownBlock=some k) w2 cb rv fns bl w3):znQ Z w cb bb rv sv kv fns ⟨bl,q.zac,q.code⟩ w3 nv names:=by
 have hb:=h.zpG f2 hnv;obtain ⟨Z',rv',sv',kv',z1,b1,f1,n1,n2,n3⟩:=hd.did hb;have hrow:Row (fun k=>Z k\/nv.ownBlock=some k) w2 9 1 nv names.length (strCells names):=⟨hnv.1,fun k hk=>.inr hk⟩;refine ⟨Z',rv',sv',kv',fun k hk=>?_,b1,(f2.mono (fun _ x=>x.elim)).trans f1,New.trans (New.refl w rv) n1 f2.size,New.trans (New.refl w sv) n2 f2.size,New.trans (New.refl w kv) n3 f2.size,hb.row f1 z1 hrow⟩;rw[z1 k (zxO hk f2.size)];constructor
 ·rintro (e|e)
  ·exact e
  ·have:=hnv.2 k e;omega
 ·exact .inl
theorem Did4{w3 w4:World}(h:BS Z w cb bb rv sv kv fns q)(f2:Fr (fun _=>False) w w2)(_hnv:Names w.heap.size w2 nv names)(f3:Fr (fun _=>False) w2 w3)(hd:zfO (fun k=>Z k\/nv.ownBlock=some k) w3.drew cb rv fns bl w4):
  Blk w4 bb [.pointer (some ⟨cb,0,none⟩),sv,kv] 159/\∀ k vs t,w2.heap.size<=k->Blk w3 k vs t->Blk w4 k vs t:=by
 have hc:=h.clt;have hr:=h.rlt;have h2:=f2.size;obtain ⟨Z',rv',z1,b1,f1,n1⟩:=hd;refine ⟨Fr.blk (a:=w3.drew) (((h.fr0 f2).fr0 f3).zbW) f1 ?_,fun k vs t hk hb=>Fr.blk (a:=w3.drew) hb f1 ?_⟩
 ·rintro (e|e)
  ·exact h.ne e.symm
  ·exact h.rc.2 e
 ·rintro (e|e)
  ·omega
  ·have:=hr k e;omega
variable {blk:Nat}
variable {l:List Cp.Nm}
variable {x:Value}
theorem zkl(h:BS Z w cb bb rv sv kv fns q)(hfr:Calls Tryz.prog 89 #[.iface 217 x] w fun r w'=>∃ v',r=.returned v'/\Names w.heap.size w' v' l/\Fr (fun _=>False) w w')(hnm:names=Cp.zai q.zac l)(hl1:l.length<=1000000)(hl2:q.zac.length<=1000000000)(hc:∀ W nv,Fr (fun _=>False) w W->Names w.heap.size W nv names->Calls Tryz.prog 161 #[.pointer (some ⟨cb,0,none⟩),.iface 217 x,nv] W fun r w'=>r=.returned (.int .i64 blk)/\zfO (fun k=>Z k\/nv.ownBlock=some k) W cb rv fns bl w'):
  Calls Tryz.prog 165 #[.pointer (some ⟨bb,0,none⟩),.iface 217 x] w fun r w'=>∃ nv,r=.returned (.tuple #[.int .i64 blk,nv])/\znQ Z w cb bb rv sv kv fns ⟨bl,q.zac,q.code⟩ w' nv names:=by
 have i0:=zet;have i1:=zjF;have CF:=zab hfr;have HH:=zab h;have HC:=zab hc;have HN:=zab hnm;clear h hfr hc hnm;go_enter Tryz.func165,Tryz.ntmps165
 go_wp2_with fail
 refine CF.o.mono ?_;rintro r w1 ⟨fv,rfl,hfv,f1⟩;obtain ⟨fa,fn,fc,rfl⟩:=zae hfv;have CHd:=zab (zch (HH.o.fr0 f1) hfv hl1 hl2);have F1:=zab f1;clear CF hfv f1;go_wp2_with fail
 refine CHd.o.mono ?_;rintro r w2 ⟨nv,rfl,hnv,f2⟩;rw[<-HN.o]at hnv;obtain ⟨na,nn,nc,rfl⟩:=zaF hnv;have F2:=zab (F1.o.trans f2);have HNV:Hid (Names w.heap.size w2 (.slice na nn nc) names):=zab (Names.base (Row.zaE hnv) F1.o.size);have b0:=Blk.cell (HH.o.fr0 F2.o).zbW 0;simp at b0;have CA:=zab (HC.o w2 _ F2.o HNV.o);clear CHd hnv f2;go_wp2_with fail
 refine CA.o.mono ?_;rintro r w3 ⟨rfl,hd⟩;have HD:=zab (zfg HH.o F2.o HNV.o hd);clear hd CA b0 i0 i1;go_wp2_with fail
 refine bodyPost_ret (results_tmp2 rfl _ _ _) rfl ?_;exact ⟨_,rfl,HD.o⟩
theorem zoR(h:BS Z w cb bb rv sv kv fns q)(hfr:Calls Tryz.prog 89 #[.iface 215 x] w fun r w'=>∃ v',r=.returned v'/\Names w.heap.size w' v' l/\Fr (fun _=>False) w w')(hnm:names=Cp.zai q.zac l)(hl1:l.length<=1000000)(hl2:q.zac.length<=1000000000)(hc:∀ W nv,Fr (fun _=>False) w W->Names w.heap.size W nv names->Calls Tryz.prog 161 #[.pointer (some ⟨cb,0,none⟩),.iface 215 x,nv] W fun r w'=>r=.returned (.int .i64 blk)/\zfO (fun k=>Z k\/nv.ownBlock=some k) W cb rv fns bl w'):
  Calls Tryz.prog 165 #[.pointer (some ⟨bb,0,none⟩),.iface 215 x] w fun r w'=>∃ nv,r=.returned (.tuple #[.int .i64 blk,nv])/\znQ Z w cb bb rv sv kv fns ⟨bl,q.zac,q.code⟩ w' nv names:=by
 have i0:=zmv;have i1:=znZ;have CF:=zab hfr;have HH:=zab h;have HC:=zab hc;have HN:=zab hnm;clear h hfr hc hnm;go_enter Tryz.func165,Tryz.ntmps165
 go_wp2_with fail
 refine CF.o.mono ?_;rintro r w1 ⟨fv,rfl,hfv,f1⟩;obtain ⟨fa,fn,fc,rfl⟩:=zae hfv;have CHd:=zab (zch (HH.o.fr0 f1) hfv hl1 hl2);have F1:=zab f1;clear CF hfv f1;go_wp2_with fail
 refine CHd.o.mono ?_;rintro r w2 ⟨nv,rfl,hnv,f2⟩;rw[<-HN.o]at hnv;obtain ⟨na,nn,nc,rfl⟩:=zaF hnv;have F2:=zab (F1.o.trans f2);have HNV:Hid (Names w.heap.size w2 (.slice na nn nc) names):=zab (Names.base (Row.zaE hnv) F1.o.size);have b0:=Blk.cell (HH.o.fr0 F2.o).zbW 0;simp at b0;have CA:=zab (HC.o w2 _ F2.o HNV.o);clear CHd hnv f2;go_wp2_with fail
 refine CA.o.mono ?_;rintro r w3 ⟨rfl,hd⟩;have HD:=zab (zfg HH.o F2.o HNV.o hd);clear hd CA b0 i0 i1;go_wp2_with fail
 refine bodyPost_ret (results_tmp2 rfl _ _ _) rfl ?_;exact ⟨_,rfl,HD.o⟩
theorem znp(h:BS Z w cb bb rv sv kv fns q)(hfr:Calls Tryz.prog 89 #[.iface 163 x] w fun r w'=>∃ v',r=.returned v'/\Names w.heap.size w' v' l/\Fr (fun _=>False) w w')(hnm:names=Cp.zai q.zac l)(hl1:l.length<=1000000)(hl2:q.zac.length<=1000000000)(hc:∀ W nv,Fr (fun _=>False) w W->Names w.heap.size W nv names->Calls Tryz.prog 161 #[.pointer (some ⟨cb,0,none⟩),.iface 163 x,nv] W fun r w'=>r=.returned (.int .i64 blk)/\zfO (fun k=>Z k\/nv.ownBlock=some k) W cb rv fns bl w'):
  Calls Tryz.prog 165 #[.pointer (some ⟨bb,0,none⟩),.iface 163 x] w fun r w'=>∃ nv,r=.returned (.tuple #[.int .i64 blk,nv])/\znQ Z w cb bb rv sv kv fns ⟨bl,q.zac,q.code⟩ w' nv names:=by
 have i0:=zkp;have i1:=zhb;have CF:=zab hfr;have HH:=zab h;have HC:=zab hc;have HN:=zab hnm;clear h hfr hc hnm;go_enter Tryz.func165,Tryz.ntmps165
 go_wp2_with fail
 refine CF.o.mono ?_;rintro r w1 ⟨fv,rfl,hfv,f1⟩;obtain ⟨fa,fn,fc,rfl⟩:=zae hfv;have CHd:=zab (zch (HH.o.fr0 f1) hfv hl1 hl2);have F1:=zab f1;clear CF hfv f1;go_wp2_with fail
 refine CHd.o.mono ?_;rintro r w2 ⟨nv,rfl,hnv,f2⟩;rw[<-HN.o]at hnv;obtain ⟨na,nn,nc,rfl⟩:=zaF hnv;have F2:=zab (F1.o.trans f2);have HNV:Hid (Names w.heap.size w2 (.slice na nn nc) names):=zab (Names.base (Row.zaE hnv) F1.o.size);have b0:=Blk.cell (HH.o.fr0 F2.o).zbW 0;simp at b0;have CA:=zab (HC.o w2 _ F2.o HNV.o);clear CHd hnv f2;go_wp2_with fail
 refine CA.o.mono ?_;rintro r w3 ⟨rfl,hd⟩;have HD:=zab (zfg HH.o F2.o HNV.o hd);clear hd CA b0 i0 i1;go_wp2_with fail
 refine bodyPost_ret (results_tmp2 rfl _ _ _) rfl ?_;exact ⟨_,rfl,HD.o⟩
theorem zhM(h:BS Z w cb bb rv sv kv fns q)(hfr:Calls Tryz.prog 89 #[.iface 166 x] w fun r w'=>∃ v',r=.returned v'/\Names w.heap.size w' v' l/\Fr (fun _=>False) w w')(hnm:names=Cp.zai q.zac l)(hl1:l.length<=1000000)(hl2:q.zac.length<=1000000000)(hc:∀ W nv,Fr (fun _=>False) w W->Names w.heap.size W nv names->Calls Tryz.prog 161 #[.pointer (some ⟨cb,0,none⟩),.iface 166 x,nv] W fun r w'=>r=.returned (.int .i64 blk)/\zfO (fun k=>Z k\/nv.ownBlock=some k) W cb rv fns bl w'):
  Calls Tryz.prog 165 #[.pointer (some ⟨bb,0,none⟩),.iface 166 x] w fun r w'=>∃ nv,r=.returned (.tuple #[.int .i64 blk,nv])/\znQ Z w cb bb rv sv kv fns ⟨bl,q.zac,q.code⟩ w' nv names:=by
 have i0:=zgp;have i1:=zdz;have CF:=zab hfr;have HH:=zab h;have HC:=zab hc;have HN:=zab hnm;clear h hfr hc hnm;go_enter Tryz.func165,Tryz.ntmps165
 go_wp2_with fail
 refine CF.o.mono ?_;rintro r w1 ⟨fv,rfl,hfv,f1⟩;obtain ⟨fa,fn,fc,rfl⟩:=zae hfv;have CHd:=zab (zch (HH.o.fr0 f1) hfv hl1 hl2);have F1:=zab f1;clear CF hfv f1;go_wp2_with fail
 refine CHd.o.mono ?_;rintro r w2 ⟨nv,rfl,hnv,f2⟩;rw[<-HN.o]at hnv;obtain ⟨na,nn,nc,rfl⟩:=zaF hnv;have F2:=zab (F1.o.trans f2);have HNV:Hid (Names w.heap.size w2 (.slice na nn nc) names):=zab (Names.base (Row.zaE hnv) F1.o.size);have b0:=Blk.cell (HH.o.fr0 F2.o).zbW 0;simp at b0;have CA:=zab (HC.o w2 _ F2.o HNV.o);clear CHd hnv f2;go_wp2_with fail
 refine CA.o.mono ?_;rintro r w3 ⟨rfl,hd⟩;have HD:=zab (zfg HH.o F2.o HNV.o hd);clear hd CA b0 i0 i1;go_wp2_with fail
 refine bodyPost_ret (results_tmp2 rfl _ _ _) rfl ?_;exact ⟨_,rfl,HD.o⟩
theorem zo3(h:BS Z w cb bb rv sv kv fns q)(hfr:Calls Tryz.prog 89 #[.iface 178 x] w fun r w'=>∃ v',r=.returned v'/\Names w.heap.size w' v' l/\Fr (fun _=>False) w w')(hnm:names=Cp.zai q.zac l)(hl1:l.length<=1000000)(hl2:q.zac.length<=1000000000)(hc:∀ W nv,Fr (fun _=>False) w W->Names w.heap.size W nv names->Calls Tryz.prog 161 #[.pointer (some ⟨cb,0,none⟩),.iface 178 x,nv] W fun r w'=>r=.returned (.int .i64 blk)/\zfO (fun k=>Z k\/nv.ownBlock=some k) W cb rv fns bl w'):
  Calls Tryz.prog 165 #[.pointer (some ⟨bb,0,none⟩),.iface 178 x] w fun r w'=>∃ nv,r=.returned (.tuple #[.int .i64 blk,nv])/\znQ Z w cb bb rv sv kv fns ⟨bl,q.zac,q.code⟩ w' nv names:=by
 have i0:=zmb;have i1:=zic;have CF:=zab hfr;have HH:=zab h;have HC:=zab hc;have HN:=zab hnm;clear h hfr hc hnm;go_enter Tryz.func165,Tryz.ntmps165
 go_wp2_with fail
 refine CF.o.mono ?_;rintro r w1 ⟨fv,rfl,hfv,f1⟩;obtain ⟨fa,fn,fc,rfl⟩:=zae hfv;have CHd:=zab (zch (HH.o.fr0 f1) hfv hl1 hl2);have F1:=zab f1;clear CF hfv f1;go_wp2_with fail
 refine CHd.o.mono ?_;rintro r w2 ⟨nv,rfl,hnv,f2⟩;rw[<-HN.o]at hnv;obtain ⟨na,nn,nc,rfl⟩:=zaF hnv;have F2:=zab (F1.o.trans f2);have HNV:Hid (Names w.heap.size w2 (.slice na nn nc) names):=zab (Names.base (Row.zaE hnv) F1.o.size);have b0:=Blk.cell (HH.o.fr0 F2.o).zbW 0;simp at b0;have CA:=zab (HC.o w2 _ F2.o HNV.o);clear CHd hnv f2;go_wp2_with fail
 refine CA.o.mono ?_;rintro r w3 ⟨rfl,hd⟩;have HD:=zab (zfg HH.o F2.o HNV.o hd);clear hd CA b0 i0 i1;go_wp2_with fail
 refine bodyPost_ret (results_tmp2 rfl _ _ _) rfl ?_;exact ⟨_,rfl,HD.o⟩
theorem znu(h:BS Z w cb bb rv sv kv fns q)(hfr:Calls Tryz.prog 89 #[.iface 173 x] w fun r w'=>∃ v',r=.returned v'/\Names w.heap.size w' v' l/\Fr (fun _=>False) w w')(hnm:names=Cp.zai q.zac l)(hl1:l.length<=1000000)(hl2:q.zac.length<=1000000000)(hc:∀ W nv,Fr (fun _=>False) w W->Names w.heap.size W nv names->Calls Tryz.prog 161 #[.pointer (some ⟨cb,0,none⟩),.iface 173 x,nv] W fun r w'=>r=.returned (.int .i64 blk)/\zfO (fun k=>Z k\/nv.ownBlock=some k) W cb rv fns bl w'):
  Calls Tryz.prog 165 #[.pointer (some ⟨bb,0,none⟩),.iface 173 x] w fun r w'=>∃ nv,r=.returned (.tuple #[.int .i64 blk,nv])/\znQ Z w cb bb rv sv kv fns ⟨bl,q.zac,q.code⟩ w' nv names:=by
 have i0:=zkQ;have i1:=zhn;have CF:=zab hfr;have HH:=zab h;have HC:=zab hc;have HN:=zab hnm;clear h hfr hc hnm;go_enter Tryz.func165,Tryz.ntmps165
 go_wp2_with fail
 refine CF.o.mono ?_;rintro r w1 ⟨fv,rfl,hfv,f1⟩;obtain ⟨fa,fn,fc,rfl⟩:=zae hfv;have CHd:=zab (zch (HH.o.fr0 f1) hfv hl1 hl2);have F1:=zab f1;clear CF hfv f1;go_wp2_with fail
 refine CHd.o.mono ?_;rintro r w2 ⟨nv,rfl,hnv,f2⟩;rw[<-HN.o]at hnv;obtain ⟨na,nn,nc,rfl⟩:=zaF hnv;have F2:=zab (F1.o.trans f2);have HNV:Hid (Names w.heap.size w2 (.slice na nn nc) names):=zab (Names.base (Row.zaE hnv) F1.o.size);have b0:=Blk.cell (HH.o.fr0 F2.o).zbW 0;simp at b0;have CA:=zab (HC.o w2 _ F2.o HNV.o);clear CHd hnv f2;go_wp2_with fail
 refine CA.o.mono ?_;rintro r w3 ⟨rfl,hd⟩;have HD:=zab (zfg HH.o F2.o HNV.o hd);clear hd CA b0 i0 i1;go_wp2_with fail
 refine bodyPost_ret (results_tmp2 rfl _ _ _) rfl ?_;exact ⟨_,rfl,HD.o⟩
theorem zkK{pp:Option Addr}{pn pc:Nat}{t:TypeId}(h:BS Z w cb bb rv sv kv fns q)(hfr:Calls Tryz.prog 89 #[.iface 226 (.agg #[.slice pp pn pc,.iface t x])] w fun r w'=>∃ v',r=.returned v'/\Names w.heap.size w' v' l/\Fr (fun _=>False) w w')(hnm:names=Cp.zai q.zac l)(hl1:l.length<=1000000)(hl2:q.zac.length<=1000000000)(hc:∀ W nv,Fr (fun _=>False) w W->Names w.heap.size W nv names->Calls Tryz.prog 217 #[.pointer (some ⟨cb,0,none⟩),.agg #[.slice pp pn pc,.iface t x],nv] W fun r w'=>r=.returned (.int .i64 blk)/\zfO (fun k=>Z k\/nv.ownBlock=some k) W cb rv fns bl w'):
  Calls Tryz.prog 165 #[.pointer (some ⟨bb,0,none⟩),.iface 226 (.agg #[.slice pp pn pc,.iface t x])] w fun r w'=>∃ nv,r=.returned (.tuple #[.int .i64 blk,nv])/\znQ Z w cb bb rv sv kv fns ⟨bl,q.zac,q.code⟩ w' nv names:=by
 have i0:=zeu;have CF:=zab hfr;have HH:=zab h;have HC:=zab hc;have HN:=zab hnm;clear h hfr hc hnm;go_enter Tryz.func165,Tryz.ntmps165
 go_wp2_with fail
 refine CF.o.mono ?_;rintro r w1 ⟨fv,rfl,hfv,f1⟩;obtain ⟨fa,fn,fc,rfl⟩:=zae hfv;have CHd:=zab (zch (HH.o.fr0 f1) hfv hl1 hl2);have F1:=zab f1;clear CF hfv f1;go_wp2_with fail
 refine CHd.o.mono ?_;rintro r w2 ⟨nv,rfl,hnv,f2⟩;rw[<-HN.o]at hnv;obtain ⟨na,nn,nc,rfl⟩:=zaF hnv;have F2:=zab (F1.o.trans f2);have HNV:Hid (Names w.heap.size w2 (.slice na nn nc) names):=zab (Names.base (Row.zaE hnv) F1.o.size);have b0:=Blk.cell (HH.o.fr0 F2.o).zbW 0;simp at b0;have f3:Fr (fun _=>False) w2 (w2.alloc (.cells #[.slice pp pn pc,.iface t x] 226)):=(Fr.refl _ _).alloc _;have CA:=zab (HC.o (w2.alloc (.cells #[.slice pp pn pc,.iface t x] 226)).drew _ ((F2.o.trans f3).drew) (HNV.o.fr0 f3.drew));have B3:=zab (Blk.new w2 [.slice pp pn pc,.iface t x] 226);have F3:=zab f3;have b3:=Blk.cell ((HH.o.fr0 F2.o).fr0 f3).zbW 0;simp at b3;clear CHd hnv f2 f3;go_wp2_with fail
 generalize (w2.alloc (.cells #[.slice pp pn pc,.iface t x] 226))=w3 at CA B3 F3 b3 ⊢;have p0:=Blk.cell B3.o 0;have p1:=Blk.cell B3.o 1;simp at p0 p1
 go_region_held3 (fun W=>W.cell? ⟨w2.heap.size,0,none⟩=some (.slice pp pn pc)/\W.cell? ⟨w2.heap.size,1,none⟩=some (.iface t x)/\W.cell? ⟨bb,0,none⟩=some (.pointer (some ⟨cb,0,none⟩))) (first|(refine ⟨?_,?_,?_⟩ <;> assumption)|go_keep) (first
  |(go_at_call 217;refine CA.o.mono ?_;rintro r w4 ⟨rfl,hd⟩;have HD:=zab hd;have hd4:=(Did4 HH.o F2.o HNV.o F3.o hd);have b4:=Blk.cell hd4.1 0;simp at b4;have r0:=Blk.cell (hd4.2 w2.heap.size _ _ (zxJ _) B3.o) 0;have r1:=Blk.cell (hd4.2 w2.heap.size _ _ (zxJ _) B3.o) 1;simp at r0 r1;clear hd hd4))
 all_goals
  go_wp2_with fail
  refine bodyPost_ret (results_tmp2 rfl _ _ _) rfl ?_;exact ⟨_,rfl,zfg HH.o F2.o HNV.o (HD.o.fr0 F3.o.drew)⟩
theorem zml{tag ar:Int}(h:BS Z w cb bb rv sv kv fns q)(hfr:Calls Tryz.prog 89 #[.iface 219 (.agg #[.int .i64 tag,.int .i64 ar])] w fun r w'=>∃ v',r=.returned v'/\Names w.heap.size w' v' l/\Fr (fun _=>False) w w')(hnm:names=Cp.zai q.zac l)(hl1:l.length<=1000000)(hl2:q.zac.length<=1000000000)(hc:∀ W nv,Fr (fun _=>False) w W->Names w.heap.size W nv names->Calls Tryz.prog 218 #[.pointer (some ⟨cb,0,none⟩),.agg #[.int .i64 tag,.int .i64 ar]] W fun r w'=>r=.returned (.int .i64 blk)/\zfO (fun k=>Z k\/nv.ownBlock=some k) W cb rv fns bl w'):
  Calls Tryz.prog 165 #[.pointer (some ⟨bb,0,none⟩),.iface 219 (.agg #[.int .i64 tag,.int .i64 ar])] w fun r w'=>∃ nv,r=.returned (.tuple #[.int .i64 blk,nv])/\znQ Z w cb bb rv sv kv fns ⟨bl,q.zac,q.code⟩ w' nv names:=by
 have i0:=ze6;have i1:=zdE;have CF:=zab hfr;have HH:=zab h;have HC:=zab hc;have HN:=zab hnm;clear h hfr hc hnm;go_enter Tryz.func165,Tryz.ntmps165
 go_wp2_with fail
 refine CF.o.mono ?_;rintro r w1 ⟨fv,rfl,hfv,f1⟩;obtain ⟨fa,fn,fc,rfl⟩:=zae hfv;have CHd:=zab (zch (HH.o.fr0 f1) hfv hl1 hl2);have F1:=zab f1;clear CF hfv f1;go_wp2_with fail
 refine CHd.o.mono ?_;rintro r w2 ⟨nv,rfl,hnv,f2⟩;rw[<-HN.o]at hnv;obtain ⟨na,nn,nc,rfl⟩:=zaF hnv;have F2:=zab (F1.o.trans f2);have HNV:Hid (Names w.heap.size w2 (.slice na nn nc) names):=zab (Names.base (Row.zaE hnv) F1.o.size);have b0:=Blk.cell (HH.o.fr0 F2.o).zbW 0;simp at b0;have f3:Fr (fun _=>False) w2 (w2.alloc (.cells #[.int .i64 tag,.int .i64 ar] 219)):=(Fr.refl _ _).alloc _;have CA:=zab (HC.o (w2.alloc (.cells #[.int .i64 tag,.int .i64 ar] 219)).drew _ ((F2.o.trans f3).drew) (HNV.o.fr0 f3.drew));have B3:=zab (Blk.new w2 [.int .i64 tag,.int .i64 ar] 219);have F3:=zab f3;have b3:=Blk.cell ((HH.o.fr0 F2.o).fr0 f3).zbW 0;simp at b3;clear CHd hnv f2 f3;go_wp2_with fail
 generalize (w2.alloc (.cells #[.int .i64 tag,.int .i64 ar] 219))=w3 at CA B3 F3 b3 ⊢;have p0:=Blk.cell B3.o 0;have p1:=Blk.cell B3.o 1;simp at p0 p1
 go_region_held3 (fun W=>W.cell? ⟨w2.heap.size,0,none⟩=some (.int .i64 tag)/\W.cell? ⟨w2.heap.size,1,none⟩=some (.int .i64 ar)/\W.cell? ⟨bb,0,none⟩=some (.pointer (some ⟨cb,0,none⟩))) (first|(refine ⟨?_,?_,?_⟩ <;> assumption)|go_keep) (first
  |(go_at_call 218;refine CA.o.mono ?_;rintro r w4 ⟨rfl,hd⟩;have HD:=zab hd;have hd4:=(Did4 HH.o F2.o HNV.o F3.o hd);have b4:=Blk.cell hd4.1 0;simp at b4;have r0:=Blk.cell (hd4.2 w2.heap.size _ _ (zxJ _) B3.o) 0;have r1:=Blk.cell (hd4.2 w2.heap.size _ _ (zxJ _) B3.o) 1;simp at r0 r1;clear hd hd4))
 all_goals
  go_wp2_with fail
  refine bodyPost_ret (results_tmp2 rfl _ _ _) rfl ?_;exact ⟨_,rfl,zfg HH.o F2.o HNV.o (HD.o.fr0 F3.o.drew)⟩
theorem zu8{at_:Int}(h:BS Z w cb bb rv sv kv fns q)(x:Cp.Nm)(hin:Cp.za8 q.zac x=none->x∈fns)(hl:q.code.length<=1000000000)(hl2:q.zac.length<=1000000000)(hl3:fns.length<=1000000000):
  Calls Tryz.prog 95 #[.pointer (some ⟨bb,0,none⟩),.iface 215 (.agg #[.string ⟨x.toArray⟩,.int .i64 at_])] w fun r w'=>r=.returned (.tuple #[])/\Did Z w cb bb rv sv kv fns (q.use fns x) w':=by
 have i0:=zlh;have F0:Hid (Fr (fun _=>False) w (w.alloc (.cells #[.string ⟨x.toArray⟩,.int .i64 at_] 215))):=zab ((Fr.refl _ _).alloc _);have CU:=zab (zsf (h.fr0 F0.o) x hin hl hl2 hl3);clear h hin;go_enter Tryz.func95,Tryz.ntmps95
 go_wp2_with fail
 refine CU.o.mono ?_;rintro r w1 ⟨rfl,hd⟩;have HD:=zab (Did.fr0 F0.o hd);clear hd CU i0;go_wp2_with fail
 first|go_end0|refine bodyPost_ret (results_none rfl _ _ _) rfl ?_
 exact ⟨rfl,HD.o⟩
theorem zpv{x:Int}(h:BS Z w cb bb rv sv kv fns q)(hl:q.code.length<=1000000000)(hl2:q.zac.length<=1000000000):
  Calls Tryz.prog 95 #[.pointer (some ⟨bb,0,none⟩),.iface 217 (.agg #[.int .i64 x])] w fun r w'=>r=.returned (.tuple #[])/\Did Z w cb bb rv sv kv fns (q.push (.num x)) w':=by
 have i0:=zgJ;have i1:=ziy;have F0:Hid (Fr (fun _=>False) w (w.alloc (.cells #[.int .i64 x] 217))):=zab ((Fr.refl _ _).alloc _);have CU:=zab (zbl (i:=.num x) (h.fr0 F0.o) rfl hl hl2);clear h;go_enter Tryz.func95,Tryz.ntmps95
 go_wp2_with fail
 refine CU.o.mono ?_;rintro r w1 ⟨rfl,hd⟩;have HD:=zab (Did.fr0 F0.o hd);clear hd CU i0 i1;go_wp2_with fail
 first|go_end0|refine bodyPost_ret (results_none rfl _ _ _) rfl ?_
 exact ⟨rfl,HD.o⟩
theorem zpD{tag:Nat}(h:BS Z w cb bb rv sv kv fns q)(hl:q.code.length<=1000000000)(hl2:q.zac.length<=1000000000):
  Calls Tryz.prog 95 #[.pointer (some ⟨bb,0,none⟩),.iface 219 (.agg #[.int .i64 tag,.int .i64 0])] w fun r w'=>r=.returned (.tuple #[])/\Did Z w cb bb rv sv kv fns (q.push (.pack tag 0)) w':=by
 have i0:=zfc;have i1:=zeW;have i2:=zdE;have F0:Hid (Fr (fun _=>False) w (w.alloc (.cells #[.int .i64 tag,.int .i64 0] 219))):=zab ((Fr.refl _ _).alloc _);have CU:=zab (zbl (i:=.pack tag 0) (h.fr0 F0.o) rfl hl hl2);clear h;go_enter Tryz.func95,Tryz.ntmps95
 go_wp2_with fail
 refine CU.o.mono ?_;rintro r w1 ⟨rfl,hd⟩;have HD:=zab (Did.fr0 F0.o hd);clear hd CU i0 i1 i2;go_wp2_with fail
 first|go_end0|refine bodyPost_ret (results_none rfl _ _ _) rfl ?_
 exact ⟨rfl,HD.o⟩
variable {q1:Cp.Bs}
theorem zq6{tag ar:Int}(_h:BS Z w cb bb rv sv kv fns q)(har:ar≠0)(hc:∀ W,Fr (fun _=>False) w W->Calls Tryz.prog 165 #[.pointer (some ⟨bb,0,none⟩),.iface 219 (.agg #[.int .i64 tag,.int .i64 ar])] W fun r w'=>∃ nv,r=.returned (.tuple #[.int .i64 blk,nv])/\znQ Z W cb bb rv sv kv fns q1 w' nv names)(hin:∀ x∈names,x≠[]/\(Cp.za8 q1.zac x=none->x∈fns))(hl:q1.code.length+names.length<=1000000000)(hl2:q1.zac.length+names.length<=1000000000)(hl3:fns.length<=1000000000):
  Calls Tryz.prog 95 #[.pointer (some ⟨bb,0,none⟩),.iface 219 (.agg #[.int .i64 tag,.int .i64 ar])] w fun r w'=>r=.returned (.tuple #[])/\Did Z w cb bb rv sv kv fns (((q1.zak fns names).drop names.length).push (.close blk names.length)) w':=by
 have i0:=zfc;have i1:=zeW;have i2:=zdE;have hau:(ar == 0)=false:=by simpa using har
 have ul:=zbs fns names.reverse q1;have hu1:(q1.zak fns names).code.length<=1000000000:=by unfold Cp.Bs.zak;rw[ul.2.1,zx0];omega
 have hu2:(q1.zak fns names).zac.length<=1000000000:=by unfold Cp.Bs.zak;rw[ul.1,zx0];omega
 have hu3:names.length<=(q1.zak fns names).zac.length:=by unfold Cp.Bs.zak;rw[ul.1,zx0];omega
 have hu4:((q1.zak fns names).drop names.length).zac.length<=1000000000:=by simp[Cp.Bs.drop];omega
 have f0:Fr (fun _=>False) w _:=(Fr.refl _ _).alloc (.cells #[.int .i64 tag,.int .i64 ar] 219);have CC:=zab (hc _ f0);have F0:=zab f0;have HU:=zab (And.intro hu1 (And.intro hu2 (And.intro hu3 (And.intro hu4 hin))));clear _h hc hin hu1 hu2 hu3 hu4 f0 ul;go_enter Tryz.func95,Tryz.ntmps95
 go_wp2_with fail
 refine CC.o.mono ?_;rintro r w1 ⟨nv,rfl,Z1,rv1,sv1,kv1,z1,b1,f1,n1,n2,n3,hrow⟩;obtain ⟨np,nc,_,rfl,_⟩:=zaN hrow.1;have CU:=zab (zbR b1 hrow HU.o.2.2.2.2 hl hl2 hl3);have X1:=zab (And.intro z1 (And.intro f1 (And.intro n1 (And.intro n2 n3))));clear CC z1 b1 f1 n1 n2 n3 hrow i0 i1 i2;go_wp2_with fail
 refine CU.o.mono ?_;rintro r w2 ⟨rfl,Z2,rv2,sv2,kv2,z1,b1,f1,n1,n2,n3⟩;have CD:=zab (zeq b1 HU.o.2.1 HU.o.2.2.1);have X2:=zab (And.intro z1 (And.intro f1 (And.intro n1 (And.intro n2 n3))));clear CU z1 b1 f1 n1 n2 n3;go_wp2_with fail
 refine CD.o.mono ?_;rintro r w3 ⟨rfl,Z3,rv3,sv3,kv3,z1,b1,f1,n1,n2,n3⟩;have CP:=zab (zbl (i:=.close blk names.length) b1 rfl HU.o.1 HU.o.2.2.2.1);have X3:=zab (And.intro z1 (And.intro f1 (And.intro n1 (And.intro n2 n3))));clear CD z1 b1 f1 n1 n2 n3;go_wp2_with fail
 refine CP.o.mono ?_;rintro r w4 ⟨rfl,hd⟩;have D4:=zab hd;clear CP hd;go_wp2_with fail
 first|go_end0|refine bodyPost_ret (results_none rfl _ _ _) rfl ?_
 refine ⟨rfl,Did.fr0 F0.o ?_⟩;obtain ⟨z1,f1,n1,n2,n3⟩:=X1.o;refine Did.trans z1 f1 n1 n2 n3 ?_;obtain ⟨z1,f1,n1,n2,n3⟩:=X2.o;refine Did.trans z1 f1 n1 n2 n3 ?_;obtain ⟨z1,f1,n1,n2,n3⟩:=X3.o;exact Did.trans z1 f1 n1 n2 n3 D4.o
theorem zr5(_h:BS Z w cb bb rv sv kv fns q)(hc:∀ W,Fr (fun _=>False) w W->Calls Tryz.prog 165 #[.pointer (some ⟨bb,0,none⟩),.iface 163 x] W fun r w'=>∃ nv,r=.returned (.tuple #[.int .i64 blk,nv])/\znQ Z W cb bb rv sv kv fns q1 w' nv names)(hin:∀ x∈names,x≠[]/\(Cp.za8 q1.zac x=none->x∈fns))(hl:q1.code.length+names.length<=1000000000)(hl2:q1.zac.length+names.length<=1000000000)(hl3:fns.length<=1000000000):
  Calls Tryz.prog 95 #[.pointer (some ⟨bb,0,none⟩),.iface 163 x] w fun r w'=>r=.returned (.tuple #[])/\Did Z w cb bb rv sv kv fns (((q1.zak fns names).drop names.length).push (.close blk names.length)) w':=by
 have i0:=zjU;have i1:=zkP;have i2:=zhb;have ul:=zbs fns names.reverse q1;have hu1:(q1.zak fns names).code.length<=1000000000:=by unfold Cp.Bs.zak;rw[ul.2.1,zx0];omega
 have hu2:(q1.zak fns names).zac.length<=1000000000:=by unfold Cp.Bs.zak;rw[ul.1,zx0];omega
 have hu3:names.length<=(q1.zak fns names).zac.length:=by unfold Cp.Bs.zak;rw[ul.1,zx0];omega
 have hu4:((q1.zak fns names).drop names.length).zac.length<=1000000000:=by simp[Cp.Bs.drop];omega
 have f0:Fr (fun _=>False) w _:=Fr.refl _ _;have CC:=zab (hc _ f0);have F0:=zab f0;have HU:=zab (And.intro hu1 (And.intro hu2 (And.intro hu3 (And.intro hu4 hin))));clear _h hc hin hu1 hu2 hu3 hu4 f0 ul;go_enter Tryz.func95,Tryz.ntmps95
 go_wp2_with fail
 refine CC.o.mono ?_;rintro r w1 ⟨nv,rfl,Z1,rv1,sv1,kv1,z1,b1,f1,n1,n2,n3,hrow⟩;obtain ⟨np,nc,_,rfl,_⟩:=zaN hrow.1;have CU:=zab (zbR b1 hrow HU.o.2.2.2.2 hl hl2 hl3);have X1:=zab (And.intro z1 (And.intro f1 (And.intro n1 (And.intro n2 n3))));clear CC z1 b1 f1 n1 n2 n3 hrow i0 i1 i2;go_wp2_with fail
 refine CU.o.mono ?_;rintro r w2 ⟨rfl,Z2,rv2,sv2,kv2,z1,b1,f1,n1,n2,n3⟩;have CD:=zab (zeq b1 HU.o.2.1 HU.o.2.2.1);have X2:=zab (And.intro z1 (And.intro f1 (And.intro n1 (And.intro n2 n3))));clear CU z1 b1 f1 n1 n2 n3;go_wp2_with fail
 refine CD.o.mono ?_;rintro r w3 ⟨rfl,Z3,rv3,sv3,kv3,z1,b1,f1,n1,n2,n3⟩;have CP:=zab (zbl (i:=.close blk names.length) b1 rfl HU.o.1 HU.o.2.2.2.1);have X3:=zab (And.intro z1 (And.intro f1 (And.intro n1 (And.intro n2 n3))));clear CD z1 b1 f1 n1 n2 n3;go_wp2_with fail
 refine CP.o.mono ?_;rintro r w4 ⟨rfl,hd⟩;have D4:=zab hd;clear CP hd;go_wp2_with fail
 first|go_end0|refine bodyPost_ret (results_none rfl _ _ _) rfl ?_
 refine ⟨rfl,Did.fr0 F0.o ?_⟩;obtain ⟨z1,f1,n1,n2,n3⟩:=X1.o;refine Did.trans z1 f1 n1 n2 n3 ?_;obtain ⟨z1,f1,n1,n2,n3⟩:=X2.o;refine Did.trans z1 f1 n1 n2 n3 ?_;obtain ⟨z1,f1,n1,n2,n3⟩:=X3.o;exact Did.trans z1 f1 n1 n2 n3 D4.o
theorem zkr(_h:BS Z w cb bb rv sv kv fns q)(hc:∀ W,Fr (fun _=>False) w W->Calls Tryz.prog 165 #[.pointer (some ⟨bb,0,none⟩),.iface 166 x] W fun r w'=>∃ nv,r=.returned (.tuple #[.int .i64 blk,nv])/\znQ Z W cb bb rv sv kv fns q1 w' nv names)(hin:∀ x∈names,x≠[]/\(Cp.za8 q1.zac x=none->x∈fns))(hl:q1.code.length+names.length<=1000000000)(hl2:q1.zac.length+names.length<=1000000000)(hl3:fns.length<=1000000000):
  Calls Tryz.prog 95 #[.pointer (some ⟨bb,0,none⟩),.iface 166 x] w fun r w'=>r=.returned (.tuple #[])/\Did Z w cb bb rv sv kv fns (((q1.zak fns names).drop names.length).push (.close blk names.length)) w':=by
 have i0:=zev;have i1:=zgl;have i2:=zdz;have ul:=zbs fns names.reverse q1;have hu1:(q1.zak fns names).code.length<=1000000000:=by unfold Cp.Bs.zak;rw[ul.2.1,zx0];omega
 have hu2:(q1.zak fns names).zac.length<=1000000000:=by unfold Cp.Bs.zak;rw[ul.1,zx0];omega
 have hu3:names.length<=(q1.zak fns names).zac.length:=by unfold Cp.Bs.zak;rw[ul.1,zx0];omega
 have hu4:((q1.zak fns names).drop names.length).zac.length<=1000000000:=by simp[Cp.Bs.drop];omega
 have f0:Fr (fun _=>False) w _:=Fr.refl _ _;have CC:=zab (hc _ f0);have F0:=zab f0;have HU:=zab (And.intro hu1 (And.intro hu2 (And.intro hu3 (And.intro hu4 hin))));clear _h hc hin hu1 hu2 hu3 hu4 f0 ul;go_enter Tryz.func95,Tryz.ntmps95
 go_wp2_with fail
 refine CC.o.mono ?_;rintro r w1 ⟨nv,rfl,Z1,rv1,sv1,kv1,z1,b1,f1,n1,n2,n3,hrow⟩;obtain ⟨np,nc,_,rfl,_⟩:=zaN hrow.1;have CU:=zab (zbR b1 hrow HU.o.2.2.2.2 hl hl2 hl3);have X1:=zab (And.intro z1 (And.intro f1 (And.intro n1 (And.intro n2 n3))));clear CC z1 b1 f1 n1 n2 n3 hrow i0 i1 i2;go_wp2_with fail
 refine CU.o.mono ?_;rintro r w2 ⟨rfl,Z2,rv2,sv2,kv2,z1,b1,f1,n1,n2,n3⟩;have CD:=zab (zeq b1 HU.o.2.1 HU.o.2.2.1);have X2:=zab (And.intro z1 (And.intro f1 (And.intro n1 (And.intro n2 n3))));clear CU z1 b1 f1 n1 n2 n3;go_wp2_with fail
 refine CD.o.mono ?_;rintro r w3 ⟨rfl,Z3,rv3,sv3,kv3,z1,b1,f1,n1,n2,n3⟩;have CP:=zab (zbl (i:=.close blk names.length) b1 rfl HU.o.1 HU.o.2.2.2.1);have X3:=zab (And.intro z1 (And.intro f1 (And.intro n1 (And.intro n2 n3))));clear CD z1 b1 f1 n1 n2 n3;go_wp2_with fail
 refine CP.o.mono ?_;rintro r w4 ⟨rfl,hd⟩;have D4:=zab hd;clear CP hd;go_wp2_with fail
 first|go_end0|refine bodyPost_ret (results_none rfl _ _ _) rfl ?_
 refine ⟨rfl,Did.fr0 F0.o ?_⟩;obtain ⟨z1,f1,n1,n2,n3⟩:=X1.o;refine Did.trans z1 f1 n1 n2 n3 ?_;obtain ⟨z1,f1,n1,n2,n3⟩:=X2.o;refine Did.trans z1 f1 n1 n2 n3 ?_;obtain ⟨z1,f1,n1,n2,n3⟩:=X3.o;exact Did.trans z1 f1 n1 n2 n3 D4.o
theorem zvm(_h:BS Z w cb bb rv sv kv fns q)(hc:∀ W,Fr (fun _=>False) w W->Calls Tryz.prog 165 #[.pointer (some ⟨bb,0,none⟩),.iface 178 x] W fun r w'=>∃ nv,r=.returned (.tuple #[.int .i64 blk,nv])/\znQ Z W cb bb rv sv kv fns q1 w' nv names)(hin:∀ x∈names,x≠[]/\(Cp.za8 q1.zac x=none->x∈fns))(hl:q1.code.length+names.length<=1000000000)(hl2:q1.zac.length+names.length<=1000000000)(hl3:fns.length<=1000000000):
  Calls Tryz.prog 95 #[.pointer (some ⟨bb,0,none⟩),.iface 178 x] w fun r w'=>r=.returned (.tuple #[])/\Did Z w cb bb rv sv kv fns (((q1.zak fns names).drop names.length).push (.close blk names.length)) w':=by
 have i0:=zkY;have i1:=zlR;have i2:=zic;have ul:=zbs fns names.reverse q1;have hu1:(q1.zak fns names).code.length<=1000000000:=by unfold Cp.Bs.zak;rw[ul.2.1,zx0];omega
 have hu2:(q1.zak fns names).zac.length<=1000000000:=by unfold Cp.Bs.zak;rw[ul.1,zx0];omega
 have hu3:names.length<=(q1.zak fns names).zac.length:=by unfold Cp.Bs.zak;rw[ul.1,zx0];omega
 have hu4:((q1.zak fns names).drop names.length).zac.length<=1000000000:=by simp[Cp.Bs.drop];omega
 have f0:Fr (fun _=>False) w _:=Fr.refl _ _;have CC:=zab (hc _ f0);have F0:=zab f0;have HU:=zab (And.intro hu1 (And.intro hu2 (And.intro hu3 (And.intro hu4 hin))));clear _h hc hin hu1 hu2 hu3 hu4 f0 ul;go_enter Tryz.func95,Tryz.ntmps95
 go_wp2_with fail
 refine CC.o.mono ?_;rintro r w1 ⟨nv,rfl,Z1,rv1,sv1,kv1,z1,b1,f1,n1,n2,n3,hrow⟩;obtain ⟨np,nc,_,rfl,_⟩:=zaN hrow.1;have CU:=zab (zbR b1 hrow HU.o.2.2.2.2 hl hl2 hl3);have X1:=zab (And.intro z1 (And.intro f1 (And.intro n1 (And.intro n2 n3))));clear CC z1 b1 f1 n1 n2 n3 hrow i0 i1 i2;go_wp2_with fail
 refine CU.o.mono ?_;rintro r w2 ⟨rfl,Z2,rv2,sv2,kv2,z1,b1,f1,n1,n2,n3⟩;have CD:=zab (zeq b1 HU.o.2.1 HU.o.2.2.1);have X2:=zab (And.intro z1 (And.intro f1 (And.intro n1 (And.intro n2 n3))));clear CU z1 b1 f1 n1 n2 n3;go_wp2_with fail
 refine CD.o.mono ?_;rintro r w3 ⟨rfl,Z3,rv3,sv3,kv3,z1,b1,f1,n1,n2,n3⟩;have CP:=zab (zbl (i:=.close blk names.length) b1 rfl HU.o.1 HU.o.2.2.2.1);have X3:=zab (And.intro z1 (And.intro f1 (And.intro n1 (And.intro n2 n3))));clear CD z1 b1 f1 n1 n2 n3;go_wp2_with fail
 refine CP.o.mono ?_;rintro r w4 ⟨rfl,hd⟩;have D4:=zab hd;clear CP hd;go_wp2_with fail
 first|go_end0|refine bodyPost_ret (results_none rfl _ _ _) rfl ?_
 refine ⟨rfl,Did.fr0 F0.o ?_⟩;obtain ⟨z1,f1,n1,n2,n3⟩:=X1.o;refine Did.trans z1 f1 n1 n2 n3 ?_;obtain ⟨z1,f1,n1,n2,n3⟩:=X2.o;refine Did.trans z1 f1 n1 n2 n3 ?_;obtain ⟨z1,f1,n1,n2,n3⟩:=X3.o;exact Did.trans z1 f1 n1 n2 n3 D4.o
theorem zt0(_h:BS Z w cb bb rv sv kv fns q)(hc:∀ W,Fr (fun _=>False) w W->Calls Tryz.prog 165 #[.pointer (some ⟨bb,0,none⟩),.iface 173 x] W fun r w'=>∃ nv,r=.returned (.tuple #[.int .i64 blk,nv])/\znQ Z W cb bb rv sv kv fns q1 w' nv names)(hin:∀ x∈names,x≠[]/\(Cp.za8 q1.zac x=none->x∈fns))(hl:q1.code.length+names.length<=1000000000)(hl2:q1.zac.length+names.length<=1000000000)(hl3:fns.length<=1000000000):
  Calls Tryz.prog 95 #[.pointer (some ⟨bb,0,none⟩),.iface 173 x] w fun r w'=>r=.returned (.tuple #[])/\Did Z w cb bb rv sv kv fns (((q1.zak fns names).drop names.length).push (.close blk names.length)) w':=by
 have i0:=zjj;have i1:=zkO;have i2:=zhn;have ul:=zbs fns names.reverse q1;have hu1:(q1.zak fns names).code.length<=1000000000:=by unfold Cp.Bs.zak;rw[ul.2.1,zx0];omega
 have hu2:(q1.zak fns names).zac.length<=1000000000:=by unfold Cp.Bs.zak;rw[ul.1,zx0];omega
 have hu3:names.length<=(q1.zak fns names).zac.length:=by unfold Cp.Bs.zak;rw[ul.1,zx0];omega
 have hu4:((q1.zak fns names).drop names.length).zac.length<=1000000000:=by simp[Cp.Bs.drop];omega
 have f0:Fr (fun _=>False) w _:=Fr.refl _ _;have CC:=zab (hc _ f0);have F0:=zab f0;have HU:=zab (And.intro hu1 (And.intro hu2 (And.intro hu3 (And.intro hu4 hin))));clear _h hc hin hu1 hu2 hu3 hu4 f0 ul;go_enter Tryz.func95,Tryz.ntmps95
 go_wp2_with fail
 refine CC.o.mono ?_;rintro r w1 ⟨nv,rfl,Z1,rv1,sv1,kv1,z1,b1,f1,n1,n2,n3,hrow⟩;obtain ⟨np,nc,_,rfl,_⟩:=zaN hrow.1;have CU:=zab (zbR b1 hrow HU.o.2.2.2.2 hl hl2 hl3);have X1:=zab (And.intro z1 (And.intro f1 (And.intro n1 (And.intro n2 n3))));clear CC z1 b1 f1 n1 n2 n3 hrow i0 i1 i2;go_wp2_with fail
 refine CU.o.mono ?_;rintro r w2 ⟨rfl,Z2,rv2,sv2,kv2,z1,b1,f1,n1,n2,n3⟩;have CD:=zab (zeq b1 HU.o.2.1 HU.o.2.2.1);have X2:=zab (And.intro z1 (And.intro f1 (And.intro n1 (And.intro n2 n3))));clear CU z1 b1 f1 n1 n2 n3;go_wp2_with fail
 refine CD.o.mono ?_;rintro r w3 ⟨rfl,Z3,rv3,sv3,kv3,z1,b1,f1,n1,n2,n3⟩;have CP:=zab (zbl (i:=.close blk names.length) b1 rfl HU.o.1 HU.o.2.2.2.1);have X3:=zab (And.intro z1 (And.intro f1 (And.intro n1 (And.intro n2 n3))));clear CD z1 b1 f1 n1 n2 n3;go_wp2_with fail
 refine CP.o.mono ?_;rintro r w4 ⟨rfl,hd⟩;have D4:=zab hd;clear CP hd;go_wp2_with fail
 first|go_end0|refine bodyPost_ret (results_none rfl _ _ _) rfl ?_
 refine ⟨rfl,Did.fr0 F0.o ?_⟩;obtain ⟨z1,f1,n1,n2,n3⟩:=X1.o;refine Did.trans z1 f1 n1 n2 n3 ?_;obtain ⟨z1,f1,n1,n2,n3⟩:=X2.o;refine Did.trans z1 f1 n1 n2 n3 ?_;obtain ⟨z1,f1,n1,n2,n3⟩:=X3.o;exact Did.trans z1 f1 n1 n2 n3 D4.o
theorem zpo(_h:BS Z w cb bb rv sv kv fns q)(hc:∀ W,Fr (fun _=>False) w W->Calls Tryz.prog 165 #[.pointer (some ⟨bb,0,none⟩),.iface 226 x] W fun r w'=>∃ nv,r=.returned (.tuple #[.int .i64 blk,nv])/\znQ Z W cb bb rv sv kv fns q1 w' nv names)(hin:∀ x∈names,x≠[]/\(Cp.za8 q1.zac x=none->x∈fns))(hl:q1.code.length+names.length<=1000000000)(hl2:q1.zac.length+names.length<=1000000000)(hl3:fns.length<=1000000000):
  Calls Tryz.prog 95 #[.pointer (some ⟨bb,0,none⟩),.iface 226 x] w fun r w'=>r=.returned (.tuple #[])/\Did Z w cb bb rv sv kv fns (((q1.zak fns names).drop names.length).push (.close blk names.length)) w':=by
 have i0:=zg4;have i1:=zik;have i2:=ziX;have ul:=zbs fns names.reverse q1;have hu1:(q1.zak fns names).code.length<=1000000000:=by unfold Cp.Bs.zak;rw[ul.2.1,zx0];omega
 have hu2:(q1.zak fns names).zac.length<=1000000000:=by unfold Cp.Bs.zak;rw[ul.1,zx0];omega
 have hu3:names.length<=(q1.zak fns names).zac.length:=by unfold Cp.Bs.zak;rw[ul.1,zx0];omega
 have hu4:((q1.zak fns names).drop names.length).zac.length<=1000000000:=by simp[Cp.Bs.drop];omega
 have f0:Fr (fun _=>False) w _:=Fr.refl _ _;have CC:=zab (hc _ f0);have F0:=zab f0;have HU:=zab (And.intro hu1 (And.intro hu2 (And.intro hu3 (And.intro hu4 hin))));clear _h hc hin hu1 hu2 hu3 hu4 f0 ul;go_enter Tryz.func95,Tryz.ntmps95
 go_wp2_with fail
 refine CC.o.mono ?_;rintro r w1 ⟨nv,rfl,Z1,rv1,sv1,kv1,z1,b1,f1,n1,n2,n3,hrow⟩;obtain ⟨np,nc,_,rfl,_⟩:=zaN hrow.1;have CU:=zab (zbR b1 hrow HU.o.2.2.2.2 hl hl2 hl3);have X1:=zab (And.intro z1 (And.intro f1 (And.intro n1 (And.intro n2 n3))));clear CC z1 b1 f1 n1 n2 n3 hrow i0 i1 i2;go_wp2_with fail
 refine CU.o.mono ?_;rintro r w2 ⟨rfl,Z2,rv2,sv2,kv2,z1,b1,f1,n1,n2,n3⟩;have CD:=zab (zeq b1 HU.o.2.1 HU.o.2.2.1);have X2:=zab (And.intro z1 (And.intro f1 (And.intro n1 (And.intro n2 n3))));clear CU z1 b1 f1 n1 n2 n3;go_wp2_with fail
 refine CD.o.mono ?_;rintro r w3 ⟨rfl,Z3,rv3,sv3,kv3,z1,b1,f1,n1,n2,n3⟩;have CP:=zab (zbl (i:=.close blk names.length) b1 rfl HU.o.1 HU.o.2.2.2.1);have X3:=zab (And.intro z1 (And.intro f1 (And.intro n1 (And.intro n2 n3))));clear CD z1 b1 f1 n1 n2 n3;go_wp2_with fail
 refine CP.o.mono ?_;rintro r w4 ⟨rfl,hd⟩;have D4:=zab hd;clear CP hd;go_wp2_with fail
 first|go_end0|refine bodyPost_ret (results_none rfl _ _ _) rfl ?_
 refine ⟨rfl,Did.fr0 F0.o ?_⟩;obtain ⟨z1,f1,n1,n2,n3⟩:=X1.o;refine Did.trans z1 f1 n1 n2 n3 ?_;obtain ⟨z1,f1,n1,n2,n3⟩:=X2.o;refine Did.trans z1 f1 n1 n2 n3 ?_;obtain ⟨z1,f1,n1,n2,n3⟩:=X3.o;exact Did.trans z1 f1 n1 n2 n3 D4.o
end Go.Proofs.YtgahgkddaljmkaaGreatDoor
