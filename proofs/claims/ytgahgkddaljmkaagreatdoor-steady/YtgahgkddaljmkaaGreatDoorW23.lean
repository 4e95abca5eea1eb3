/- Cmp24 .. Cmp25 -/
import Derived.Test.YtgahgkddaljmkaaGreatDoorW22
set_option maxRecDepth 100000
set_option maxHeartbeats 4000000
namespace Go.Proofs.YtgahgkddaljmkaaGreatDoor
open Tryz
open Go.RowKit Go.Shelf
attribute [local go_sem ↓] Go.wp_at_zero Go.wp_at_succ
def znm (Z:Nat->Prop) (w:World) (cb bb:Nat) (rv sv kv:Value) (fns:List Cp.Nm) (q':Cp.Bs) (w':World) (nv:Value) (names:List Cp.Nm):Prop:=
 ∃ Z' aO sv' bG,(∀ k,k<w.heap.size->(Z' k↔Z k))/\BS Z' w' cb bb aO sv' bG fns q'/\Fr (KL cb bb rv sv kv) w w'/\New w rv aO/\New w sv sv'/\New w kv bG/\Row Z' w' 9 1 nv names.length (strCells names)
variable {Z:Nat->Prop}
variable {w w2:World}
variable {cb:Nat}
variable {rv:Value}
variable {fns:List Cp.Nm}
variable {bl:List (Nat × List Ins)}
theorem zfH.fr0{w1:World}(f:Fr (fun _=>False) w w1)(d:zfH Z w1 cb rv fns bl w2):zfH Z w cb rv fns bl w2:=by
 obtain ⟨Z',aO,h1,h2,h3,h4⟩:=d;refine ⟨Z',aO,fun k hk=>h1 k (zyS hk f.size),h2,(f.mono (fun _ x=>x.elim)).trans h3,New.trans (New.refl w rv) h4 f.size⟩
variable {bb:Nat}
variable {sv kv nv:Value}
variable {names:List Cp.Nm}
variable {q:Cp.Bs}
theorem BS.zp5(h:BS Z w cb bb rv sv kv fns q)(f2:Fr (fun _=>False) w w2)(ay:Names w.heap.size w2 nv names):BS (fun k=>Z k\/nv.ownBlock=some k) w2 cb bb rv sv kv fns q:=by
 have hs:=h.slt;have hk:=h.klt;have hr:=h.rlt;have hb:=h.zbY.lt;have hc:=h.clt;refine (h.fr0 f2).more (fun k fy=>⟨(ay.1.lt k fy).2,?_⟩);have nO:=ay.2 k fy;rintro (e|e|e|e|e)
 ·omega
 ·omega
 ·have:=hr k e;omega
 ·have:=hs k e;omega
 ·have:=hk k e;omega
theorem zeM{w3:World}(h:BS Z w cb bb rv sv kv fns q)(f2:Fr (fun _=>False) w w2)(ay:Names w.heap.size w2 nv names)(hd:zfH (fun k=>Z k\/nv.ownBlock=some k) w2 cb rv fns bl w3):znm Z w cb bb rv sv kv fns ⟨bl,q.zac,q.code⟩ w3 nv names:=by
 have hb:=h.zp5 f2 ay;obtain ⟨Z',aO,sv',bG,z1,b1,f1,n1,n2,n3⟩:=hd.did hb;have af:Row (fun k=>Z k\/nv.ownBlock=some k) w2 9 1 nv names.length (strCells names):=⟨ay.1,fun k hk=>.inr hk⟩;refine ⟨Z',aO,sv',bG,fun k hk=>?_,b1,(f2.mono (fun _ x=>x.elim)).trans f1,New.trans (New.refl w rv) n1 f2.size,New.trans (New.refl w sv) n2 f2.size,New.trans (New.refl w kv) n3 f2.size,hb.row f1 z1 af⟩;rw[z1 k (zyS hk f2.size)];constructor
 ·rintro (e|e)
  ·exact e
  ·have:=ay.2 k e;omega
 ·exact .inl
theorem Did4{w3 w4:World}(h:BS Z w cb bb rv sv kv fns q)(f2:Fr (fun _=>False) w w2)(_hnv:Names w.heap.size w2 nv names)(f3:Fr (fun _=>False) w2 w3)(hd:zfH (fun k=>Z k\/nv.ownBlock=some k) w3.drew cb rv fns bl w4):
  Blk w4 bb [.pointer (some ⟨cb,0,none⟩),sv,kv] 159/\∀ k vs t,w2.heap.size<=k->Blk w3 k vs t->Blk w4 k vs t:=by
 have hc:=h.clt;have hr:=h.rlt;have h2:=f2.size;obtain ⟨Z',aO,z1,b1,f1,n1⟩:=hd;refine ⟨Fr.blk (a:=w3.drew) (((h.fr0 f2).fr0 f3).zbY) f1 ?_,fun k vs t hk hb=>Fr.blk (a:=w3.drew) hb f1 ?_⟩
 ·rintro (e|e)
  ·exact h.ne e.symm
  ·exact h.rc.2 e
 ·rintro (e|e)
  ·omega
  ·have:=hr k e;omega
variable {blk:Nat}
variable {l:List Cp.Nm}
variable {x:Value}
theorem zkz(h:BS Z w cb bb rv sv kv fns q)(ak:Calls prog 89 #[.iface 217 x] w fun r w'=>∃ v',r=.returned v'/\Names w.heap.size w' v' l/\Fr (fun _=>False) w w')(bu:names=Cp.zai q.zac l)(aL:l.length<=1000000)(aC:q.zac.length<=1000000000)(hc:∀ W nv,Fr (fun _=>False) w W->Names w.heap.size W nv names->Calls prog 161 #[.pointer (some ⟨cb,0,none⟩),.iface 217 x,nv] W fun r w'=>r=.returned (.int .i64 blk)/\zfH (fun k=>Z k\/nv.ownBlock=some k) W cb rv fns bl w'):
  Calls prog 165 #[.pointer (some ⟨bb,0,none⟩),.iface 217 x] w fun r w'=>∃ nv,r=.returned (.tuple #[.int .i64 blk,nv])/\znm Z w cb bb rv sv kv fns ⟨bl,q.zac,q.code⟩ w' nv names:=by
 have i0:=zeA;have i1:=zki;have CF:=zab ak;have HH:=zab h;have HC:=zab hc;have HN:=zab bu;clear h ak hc bu;go_enter func165,ntmps165
 go_wp2_with fail
 refine CF.o.mono ?_;rintro r w1 ⟨fv,rfl,bI,f1⟩;obtain ⟨fa,fn,fc,rfl⟩:=zae bI;have dN:=zab (zcl (HH.o.fr0 f1) bI aL aC);have F1:=zab f1;clear CF bI f1;go_wp2_with fail
 refine dN.o.mono ?_;rintro r w2 ⟨nv,rfl,ay,f2⟩;rw[<-HN.o]at ay;obtain ⟨na,nn,nc,rfl⟩:=zaF ay;have F2:=zab (F1.o.trans f2);have cZ:Hid (Names w.heap.size w2 (.slice na nn nc) names):=zab (Names.base (Row.zaE ay) F1.o.size);have b0:=Blk.cell (HH.o.fr0 F2.o).zbY 0;simp at b0;have CA:=zab (HC.o w2 _ F2.o cZ.o);clear dN ay f2;go_wp2_with fail
 refine CA.o.mono ?_;rintro r w3 ⟨rfl,hd⟩;have HD:=zab (zeM HH.o F2.o cZ.o hd);clear hd CA b0 i0 i1;go_wp2_with fail
 refine bodyPost_ret (results_tmp2 rfl _ _ _) rfl ?_;exact ⟨_,rfl,HD.o⟩
theorem zph(h:BS Z w cb bb rv sv kv fns q)(ak:Calls prog 89 #[.iface 215 x] w fun r w'=>∃ v',r=.returned v'/\Names w.heap.size w' v' l/\Fr (fun _=>False) w w')(bu:names=Cp.zai q.zac l)(aL:l.length<=1000000)(aC:q.zac.length<=1000000000)(hc:∀ W nv,Fr (fun _=>False) w W->Names w.heap.size W nv names->Calls prog 161 #[.pointer (some ⟨cb,0,none⟩),.iface 215 x,nv] W fun r w'=>r=.returned (.int .i64 blk)/\zfH (fun k=>Z k\/nv.ownBlock=some k) W cb rv fns bl w'):
  Calls prog 165 #[.pointer (some ⟨bb,0,none⟩),.iface 215 x] w fun r w'=>∃ nv,r=.returned (.tuple #[.int .i64 blk,nv])/\znm Z w cb bb rv sv kv fns ⟨bl,q.zac,q.code⟩ w' nv names:=by
 have i0:=znc;have i1:=zoQ;have CF:=zab ak;have HH:=zab h;have HC:=zab hc;have HN:=zab bu;clear h ak hc bu;go_enter func165,ntmps165
 go_wp2_with fail
 refine CF.o.mono ?_;rintro r w1 ⟨fv,rfl,bI,f1⟩;obtain ⟨fa,fn,fc,rfl⟩:=zae bI;have dN:=zab (zcl (HH.o.fr0 f1) bI aL aC);have F1:=zab f1;clear CF bI f1;go_wp2_with fail
 refine dN.o.mono ?_;rintro r w2 ⟨nv,rfl,ay,f2⟩;rw[<-HN.o]at ay;obtain ⟨na,nn,nc,rfl⟩:=zaF ay;have F2:=zab (F1.o.trans f2);have cZ:Hid (Names w.heap.size w2 (.slice na nn nc) names):=zab (Names.base (Row.zaE ay) F1.o.size);have b0:=Blk.cell (HH.o.fr0 F2.o).zbY 0;simp at b0;have CA:=zab (HC.o w2 _ F2.o cZ.o);clear dN ay f2;go_wp2_with fail
 refine CA.o.mono ?_;rintro r w3 ⟨rfl,hd⟩;have HD:=zab (zeM HH.o F2.o cZ.o hd);clear hd CA b0 i0 i1;go_wp2_with fail
 refine bodyPost_ret (results_tmp2 rfl _ _ _) rfl ?_;exact ⟨_,rfl,HD.o⟩
theorem znz(h:BS Z w cb bb rv sv kv fns q)(ak:Calls prog 89 #[.iface 163 x] w fun r w'=>∃ v',r=.returned v'/\Names w.heap.size w' v' l/\Fr (fun _=>False) w w')(bu:names=Cp.zai q.zac l)(aL:l.length<=1000000)(aC:q.zac.length<=1000000000)(hc:∀ W nv,Fr (fun _=>False) w W->Names w.heap.size W nv names->Calls prog 161 #[.pointer (some ⟨cb,0,none⟩),.iface 163 x,nv] W fun r w'=>r=.returned (.int .i64 blk)/\zfH (fun k=>Z k\/nv.ownBlock=some k) W cb rv fns bl w'):
  Calls prog 165 #[.pointer (some ⟨bb,0,none⟩),.iface 163 x] w fun r w'=>∃ nv,r=.returned (.tuple #[.int .i64 blk,nv])/\znm Z w cb bb rv sv kv fns ⟨bl,q.zac,q.code⟩ w' nv names:=by
 have i0:=zk4;have i1:=zhv;have CF:=zab ak;have HH:=zab h;have HC:=zab hc;have HN:=zab bu;clear h ak hc bu;go_enter func165,ntmps165
 go_wp2_with fail
 refine CF.o.mono ?_;rintro r w1 ⟨fv,rfl,bI,f1⟩;obtain ⟨fa,fn,fc,rfl⟩:=zae bI;have dN:=zab (zcl (HH.o.fr0 f1) bI aL aC);have F1:=zab f1;clear CF bI f1;go_wp2_with fail
 refine dN.o.mono ?_;rintro r w2 ⟨nv,rfl,ay,f2⟩;rw[<-HN.o]at ay;obtain ⟨na,nn,nc,rfl⟩:=zaF ay;have F2:=zab (F1.o.trans f2);have cZ:Hid (Names w.heap.size w2 (.slice na nn nc) names):=zab (Names.base (Row.zaE ay) F1.o.size);have b0:=Blk.cell (HH.o.fr0 F2.o).zbY 0;simp at b0;have CA:=zab (HC.o w2 _ F2.o cZ.o);clear dN ay f2;go_wp2_with fail
 refine CA.o.mono ?_;rintro r w3 ⟨rfl,hd⟩;have HD:=zab (zeM HH.o F2.o cZ.o hd);clear hd CA b0 i0 i1;go_wp2_with fail
 refine bodyPost_ret (results_tmp2 rfl _ _ _) rfl ?_;exact ⟨_,rfl,HD.o⟩
theorem zhH(h:BS Z w cb bb rv sv kv fns q)(ak:Calls prog 89 #[.iface 166 x] w fun r w'=>∃ v',r=.returned v'/\Names w.heap.size w' v' l/\Fr (fun _=>False) w w')(bu:names=Cp.zai q.zac l)(aL:l.length<=1000000)(aC:q.zac.length<=1000000000)(hc:∀ W nv,Fr (fun _=>False) w W->Names w.heap.size W nv names->Calls prog 161 #[.pointer (some ⟨cb,0,none⟩),.iface 166 x,nv] W fun r w'=>r=.returned (.int .i64 blk)/\zfH (fun k=>Z k\/nv.ownBlock=some k) W cb rv fns bl w'):
  Calls prog 165 #[.pointer (some ⟨bb,0,none⟩),.iface 166 x] w fun r w'=>∃ nv,r=.returned (.tuple #[.int .i64 blk,nv])/\znm Z w cb bb rv sv kv fns ⟨bl,q.zac,q.code⟩ w' nv names:=by
 have i0:=zgE;have i1:=zdD;have CF:=zab ak;have HH:=zab h;have HC:=zab hc;have HN:=zab bu;clear h ak hc bu;go_enter func165,ntmps165
 go_wp2_with fail
 refine CF.o.mono ?_;rintro r w1 ⟨fv,rfl,bI,f1⟩;obtain ⟨fa,fn,fc,rfl⟩:=zae bI;have dN:=zab (zcl (HH.o.fr0 f1) bI aL aC);have F1:=zab f1;clear CF bI f1;go_wp2_with fail
 refine dN.o.mono ?_;rintro r w2 ⟨nv,rfl,ay,f2⟩;rw[<-HN.o]at ay;obtain ⟨na,nn,nc,rfl⟩:=zaF ay;have F2:=zab (F1.o.trans f2);have cZ:Hid (Names w.heap.size w2 (.slice na nn nc) names):=zab (Names.base (Row.zaE ay) F1.o.size);have b0:=Blk.cell (HH.o.fr0 F2.o).zbY 0;simp at b0;have CA:=zab (HC.o w2 _ F2.o cZ.o);clear dN ay f2;go_wp2_with fail
 refine CA.o.mono ?_;rintro r w3 ⟨rfl,hd⟩;have HD:=zab (zeM HH.o F2.o cZ.o hd);clear hd CA b0 i0 i1;go_wp2_with fail
 refine bodyPost_ret (results_tmp2 rfl _ _ _) rfl ?_;exact ⟨_,rfl,HD.o⟩
theorem zpg(h:BS Z w cb bb rv sv kv fns q)(ak:Calls prog 89 #[.iface 178 x] w fun r w'=>∃ v',r=.returned v'/\Names w.heap.size w' v' l/\Fr (fun _=>False) w w')(bu:names=Cp.zai q.zac l)(aL:l.length<=1000000)(aC:q.zac.length<=1000000000)(hc:∀ W nv,Fr (fun _=>False) w W->Names w.heap.size W nv names->Calls prog 161 #[.pointer (some ⟨cb,0,none⟩),.iface 178 x,nv] W fun r w'=>r=.returned (.int .i64 blk)/\zfH (fun k=>Z k\/nv.ownBlock=some k) W cb rv fns bl w'):
  Calls prog 165 #[.pointer (some ⟨bb,0,none⟩),.iface 178 x] w fun r w'=>∃ nv,r=.returned (.tuple #[.int .i64 blk,nv])/\znm Z w cb bb rv sv kv fns ⟨bl,q.zac,q.code⟩ w' nv names:=by
 have i0:=zna;have i1:=zio;have CF:=zab ak;have HH:=zab h;have HC:=zab hc;have HN:=zab bu;clear h ak hc bu;go_enter func165,ntmps165
 go_wp2_with fail
 refine CF.o.mono ?_;rintro r w1 ⟨fv,rfl,bI,f1⟩;obtain ⟨fa,fn,fc,rfl⟩:=zae bI;have dN:=zab (zcl (HH.o.fr0 f1) bI aL aC);have F1:=zab f1;clear CF bI f1;go_wp2_with fail
 refine dN.o.mono ?_;rintro r w2 ⟨nv,rfl,ay,f2⟩;rw[<-HN.o]at ay;obtain ⟨na,nn,nc,rfl⟩:=zaF ay;have F2:=zab (F1.o.trans f2);have cZ:Hid (Names w.heap.size w2 (.slice na nn nc) names):=zab (Names.base (Row.zaE ay) F1.o.size);have b0:=Blk.cell (HH.o.fr0 F2.o).zbY 0;simp at b0;have CA:=zab (HC.o w2 _ F2.o cZ.o);clear dN ay f2;go_wp2_with fail
 refine CA.o.mono ?_;rintro r w3 ⟨rfl,hd⟩;have HD:=zab (zeM HH.o F2.o cZ.o hd);clear hd CA b0 i0 i1;go_wp2_with fail
 refine bodyPost_ret (results_tmp2 rfl _ _ _) rfl ?_;exact ⟨_,rfl,HD.o⟩
theorem znA(h:BS Z w cb bb rv sv kv fns q)(ak:Calls prog 89 #[.iface 173 x] w fun r w'=>∃ v',r=.returned v'/\Names w.heap.size w' v' l/\Fr (fun _=>False) w w')(bu:names=Cp.zai q.zac l)(aL:l.length<=1000000)(aC:q.zac.length<=1000000000)(hc:∀ W nv,Fr (fun _=>False) w W->Names w.heap.size W nv names->Calls prog 161 #[.pointer (some ⟨cb,0,none⟩),.iface 173 x,nv] W fun r w'=>r=.returned (.int .i64 blk)/\zfH (fun k=>Z k\/nv.ownBlock=some k) W cb rv fns bl w'):
  Calls prog 165 #[.pointer (some ⟨bb,0,none⟩),.iface 173 x] w fun r w'=>∃ nv,r=.returned (.tuple #[.int .i64 blk,nv])/\znm Z w cb bb rv sv kv fns ⟨bl,q.zac,q.code⟩ w' nv names:=by
 have i0:=zk6;have i1:=zhw;have CF:=zab ak;have HH:=zab h;have HC:=zab hc;have HN:=zab bu;clear h ak hc bu;go_enter func165,ntmps165
 go_wp2_with fail
 refine CF.o.mono ?_;rintro r w1 ⟨fv,rfl,bI,f1⟩;obtain ⟨fa,fn,fc,rfl⟩:=zae bI;have dN:=zab (zcl (HH.o.fr0 f1) bI aL aC);have F1:=zab f1;clear CF bI f1;go_wp2_with fail
 refine dN.o.mono ?_;rintro r w2 ⟨nv,rfl,ay,f2⟩;rw[<-HN.o]at ay;obtain ⟨na,nn,nc,rfl⟩:=zaF ay;have F2:=zab (F1.o.trans f2);have cZ:Hid (Names w.heap.size w2 (.slice na nn nc) names):=zab (Names.base (Row.zaE ay) F1.o.size);have b0:=Blk.cell (HH.o.fr0 F2.o).zbY 0;simp at b0;have CA:=zab (HC.o w2 _ F2.o cZ.o);clear dN ay f2;go_wp2_with fail
 refine CA.o.mono ?_;rintro r w3 ⟨rfl,hd⟩;have HD:=zab (zeM HH.o F2.o cZ.o hd);clear hd CA b0 i0 i1;go_wp2_with fail
 refine bodyPost_ret (results_tmp2 rfl _ _ _) rfl ?_;exact ⟨_,rfl,HD.o⟩
theorem zky{pp:Option Addr}{pn pc:Nat}{t:TypeId}(h:BS Z w cb bb rv sv kv fns q)(ak:Calls prog 89 #[.iface 226 (.agg #[.slice pp pn pc,.iface t x])] w fun r w'=>∃ v',r=.returned v'/\Names w.heap.size w' v' l/\Fr (fun _=>False) w w')(bu:names=Cp.zai q.zac l)(aL:l.length<=1000000)(aC:q.zac.length<=1000000000)(hc:∀ W nv,Fr (fun _=>False) w W->Names w.heap.size W nv names->Calls prog 217 #[.pointer (some ⟨cb,0,none⟩),.agg #[.slice pp pn pc,.iface t x],nv] W fun r w'=>r=.returned (.int .i64 blk)/\zfH (fun k=>Z k\/nv.ownBlock=some k) W cb rv fns bl w'):
  Calls prog 165 #[.pointer (some ⟨bb,0,none⟩),.iface 226 (.agg #[.slice pp pn pc,.iface t x])] w fun r w'=>∃ nv,r=.returned (.tuple #[.int .i64 blk,nv])/\znm Z w cb bb rv sv kv fns ⟨bl,q.zac,q.code⟩ w' nv names:=by
 have i0:=zey;have CF:=zab ak;have HH:=zab h;have HC:=zab hc;have HN:=zab bu;clear h ak hc bu;go_enter func165,ntmps165
 go_wp2_with fail
 refine CF.o.mono ?_;rintro r w1 ⟨fv,rfl,bI,f1⟩;obtain ⟨fa,fn,fc,rfl⟩:=zae bI;have dN:=zab (zcl (HH.o.fr0 f1) bI aL aC);have F1:=zab f1;clear CF bI f1;go_wp2_with fail
 refine dN.o.mono ?_;rintro r w2 ⟨nv,rfl,ay,f2⟩;rw[<-HN.o]at ay;obtain ⟨na,nn,nc,rfl⟩:=zaF ay;have F2:=zab (F1.o.trans f2);have cZ:Hid (Names w.heap.size w2 (.slice na nn nc) names):=zab (Names.base (Row.zaE ay) F1.o.size);have b0:=Blk.cell (HH.o.fr0 F2.o).zbY 0;simp at b0;have f3:Fr (fun _=>False) w2 (w2.alloc (.cells #[.slice pp pn pc,.iface t x] 226)):=(Fr.refl _ _).alloc _;have CA:=zab (HC.o (w2.alloc (.cells #[.slice pp pn pc,.iface t x] 226)).drew _ ((F2.o.trans f3).drew) (cZ.o.fr0 f3.drew));have B3:=zab (Blk.new w2 [.slice pp pn pc,.iface t x] 226);have F3:=zab f3;have b3:=Blk.cell ((HH.o.fr0 F2.o).fr0 f3).zbY 0;simp at b3;clear dN ay f2 f3;go_wp2_with fail
 generalize (w2.alloc (.cells #[.slice pp pn pc,.iface t x] 226))=w3 at CA B3 F3 b3 ⊢;have p0:=Blk.cell B3.o 0;have p1:=Blk.cell B3.o 1;simp at p0 p1
 go_region_held3 (fun W=>W.cell? ⟨w2.heap.size,0,none⟩=some (.slice pp pn pc)/\W.cell? ⟨w2.heap.size,1,none⟩=some (.iface t x)/\W.cell? ⟨bb,0,none⟩=some (.pointer (some ⟨cb,0,none⟩))) (first|(refine ⟨?_,?_,?_⟩ <;> assumption)|go_keep) (first
  |(go_at_call 217;refine CA.o.mono ?_;rintro r w4 ⟨rfl,hd⟩;have HD:=zab hd;have mL:=(Did4 HH.o F2.o cZ.o F3.o hd);have b4:=Blk.cell mL.1 0;simp at b4;have r0:=Blk.cell (mL.2 w2.heap.size _ _ (zyN _) B3.o) 0;have r1:=Blk.cell (mL.2 w2.heap.size _ _ (zyN _) B3.o) 1;simp at r0 r1;clear hd mL))
 all_goals
  go_wp2_with fail
  refine bodyPost_ret (results_tmp2 rfl _ _ _) rfl ?_;exact ⟨_,rfl,zeM HH.o F2.o cZ.o (HD.o.fr0 F3.o.drew)⟩
theorem zmb{tag ar:Int}(h:BS Z w cb bb rv sv kv fns q)(ak:Calls prog 89 #[.iface 219 (.agg #[.int .i64 tag,.int .i64 ar])] w fun r w'=>∃ v',r=.returned v'/\Names w.heap.size w' v' l/\Fr (fun _=>False) w w')(bu:names=Cp.zai q.zac l)(aL:l.length<=1000000)(aC:q.zac.length<=1000000000)(hc:∀ W nv,Fr (fun _=>False) w W->Names w.heap.size W nv names->Calls prog 218 #[.pointer (some ⟨cb,0,none⟩),.agg #[.int .i64 tag,.int .i64 ar]] W fun r w'=>r=.returned (.int .i64 blk)/\zfH (fun k=>Z k\/nv.ownBlock=some k) W cb rv fns bl w'):
  Calls prog 165 #[.pointer (some ⟨bb,0,none⟩),.iface 219 (.agg #[.int .i64 tag,.int .i64 ar])] w fun r w'=>∃ nv,r=.returned (.tuple #[.int .i64 blk,nv])/\znm Z w cb bb rv sv kv fns ⟨bl,q.zac,q.code⟩ w' nv names:=by
 have i0:=zfh;have i1:=zdL;have CF:=zab ak;have HH:=zab h;have HC:=zab hc;have HN:=zab bu;clear h ak hc bu;go_enter func165,ntmps165
 go_wp2_with fail
 refine CF.o.mono ?_;rintro r w1 ⟨fv,rfl,bI,f1⟩;obtain ⟨fa,fn,fc,rfl⟩:=zae bI;have dN:=zab (zcl (HH.o.fr0 f1) bI aL aC);have F1:=zab f1;clear CF bI f1;go_wp2_with fail
 refine dN.o.mono ?_;rintro r w2 ⟨nv,rfl,ay,f2⟩;rw[<-HN.o]at ay;obtain ⟨na,nn,nc,rfl⟩:=zaF ay;have F2:=zab (F1.o.trans f2);have cZ:Hid (Names w.heap.size w2 (.slice na nn nc) names):=zab (Names.base (Row.zaE ay) F1.o.size);have b0:=Blk.cell (HH.o.fr0 F2.o).zbY 0;simp at b0;have f3:Fr (fun _=>False) w2 (w2.alloc (.cells #[.int .i64 tag,.int .i64 ar] 219)):=(Fr.refl _ _).alloc _;have CA:=zab (HC.o (w2.alloc (.cells #[.int .i64 tag,.int .i64 ar] 219)).drew _ ((F2.o.trans f3).drew) (cZ.o.fr0 f3.drew));have B3:=zab (Blk.new w2 [.int .i64 tag,.int .i64 ar] 219);have F3:=zab f3;have b3:=Blk.cell ((HH.o.fr0 F2.o).fr0 f3).zbY 0;simp at b3;clear dN ay f2 f3;go_wp2_with fail
 generalize (w2.alloc (.cells #[.int .i64 tag,.int .i64 ar] 219))=w3 at CA B3 F3 b3 ⊢;have p0:=Blk.cell B3.o 0;have p1:=Blk.cell B3.o 1;simp at p0 p1
 go_region_held3 (fun W=>W.cell? ⟨w2.heap.size,0,none⟩=some (.int .i64 tag)/\W.cell? ⟨w2.heap.size,1,none⟩=some (.int .i64 ar)/\W.cell? ⟨bb,0,none⟩=some (.pointer (some ⟨cb,0,none⟩))) (first|(refine ⟨?_,?_,?_⟩ <;> assumption)|go_keep) (first
  |(go_at_call 218;refine CA.o.mono ?_;rintro r w4 ⟨rfl,hd⟩;have HD:=zab hd;have mL:=(Did4 HH.o F2.o cZ.o F3.o hd);have b4:=Blk.cell mL.1 0;simp at b4;have r0:=Blk.cell (mL.2 w2.heap.size _ _ (zyN _) B3.o) 0;have r1:=Blk.cell (mL.2 w2.heap.size _ _ (zyN _) B3.o) 1;simp at r0 r1;clear hd mL))
 all_goals
  go_wp2_with fail
  refine bodyPost_ret (results_tmp2 rfl _ _ _) rfl ?_;exact ⟨_,rfl,zeM HH.o F2.o cZ.o (HD.o.fr0 F3.o.drew)⟩
theorem zvC{at_:Int}(h:BS Z w cb bb rv sv kv fns q)(x:Cp.Nm)(hin:Cp.za9 q.zac x=none->x∈fns)(hl:q.code.length<=1000000000)(aC:q.zac.length<=1000000000)(cW:fns.length<=1000000000):
  Calls prog 95 #[.pointer (some ⟨bb,0,none⟩),.iface 215 (.agg #[.string ⟨x.toArray⟩,.int .i64 at_])] w fun r w'=>r=.returned (.tuple #[])/\Did Z w cb bb rv sv kv fns (q.use fns x) w':=by
 have i0:=zlW;have F0:Hid (Fr (fun _=>False) w (w.alloc (.cells #[.string ⟨x.toArray⟩,.int .i64 at_] 215))):=zab ((Fr.refl _ _).alloc _);have CU:=zab (zuK (h.fr0 F0.o) x hin hl aC cW);clear h hin;go_enter func95,ntmps95
 go_wp2_with fail
 refine CU.o.mono ?_;rintro r w1 ⟨rfl,hd⟩;have HD:=zab (Did.fr0 F0.o hd);clear hd CU i0;go_wp2_with fail
 first|go_end0|refine bodyPost_ret (results_none rfl _ _ _) rfl ?_
 exact ⟨rfl,HD.o⟩
theorem zpy{x:Int}(h:BS Z w cb bb rv sv kv fns q)(hl:q.code.length<=1000000000)(aC:q.zac.length<=1000000000):
  Calls prog 95 #[.pointer (some ⟨bb,0,none⟩),.iface 217 (.agg #[.int .i64 x])] w fun r w'=>r=.returned (.tuple #[])/\Did Z w cb bb rv sv kv fns (q.push (.num x)) w':=by
 have i0:=zhB;have i1:=ziJ;have F0:Hid (Fr (fun _=>False) w (w.alloc (.cells #[.int .i64 x] 217))):=zab ((Fr.refl _ _).alloc _);have CU:=zab (zbn (i:=.num x) (h.fr0 F0.o) rfl hl aC);clear h;go_enter func95,ntmps95
 go_wp2_with fail
 refine CU.o.mono ?_;rintro r w1 ⟨rfl,hd⟩;have HD:=zab (Did.fr0 F0.o hd);clear hd CU i0 i1;go_wp2_with fail
 first|go_end0|refine bodyPost_ret (results_none rfl _ _ _) rfl ?_
 exact ⟨rfl,HD.o⟩
theorem zpx{tag:Nat}(h:BS Z w cb bb rv sv kv fns q)(hl:q.code.length<=1000000000)(aC:q.zac.length<=1000000000):
  Calls prog 95 #[.pointer (some ⟨bb,0,none⟩),.iface 219 (.agg #[.int .i64 tag,.int .i64 0])] w fun r w'=>r=.returned (.tuple #[])/\Did Z w cb bb rv sv kv fns (q.push (.pack tag 0)) w':=by
 have i0:=zfj;have i1:=zfi;have i2:=zdL;have F0:Hid (Fr (fun _=>False) w (w.alloc (.cells #[.int .i64 tag,.int .i64 0] 219))):=zab ((Fr.refl _ _).alloc _);have CU:=zab (zbn (i:=.pack tag 0) (h.fr0 F0.o) rfl hl aC);clear h;go_enter func95,ntmps95
 go_wp2_with fail
 refine CU.o.mono ?_;rintro r w1 ⟨rfl,hd⟩;have HD:=zab (Did.fr0 F0.o hd);clear hd CU i0 i1 i2;go_wp2_with fail
 first|go_end0|refine bodyPost_ret (results_none rfl _ _ _) rfl ?_
 exact ⟨rfl,HD.o⟩
variable {q1:Cp.Bs}
theorem zrx{tag ar:Int}(_h:BS Z w cb bb rv sv kv fns q)(pQ:ar≠0)(hc:∀ W,Fr (fun _=>False) w W->Calls prog 165 #[.pointer (some ⟨bb,0,none⟩),.iface 219 (.agg #[.int .i64 tag,.int .i64 ar])] W fun r w'=>∃ nv,r=.returned (.tuple #[.int .i64 blk,nv])/\znm Z W cb bb rv sv kv fns q1 w' nv names)(hin:∀ x∈names,x≠[]/\(Cp.za9 q1.zac x=none->x∈fns))(hl:q1.code.length+names.length<=1000000000)(aC:q1.zac.length+names.length<=1000000000)(cW:fns.length<=1000000000):
  Calls prog 95 #[.pointer (some ⟨bb,0,none⟩),.iface 219 (.agg #[.int .i64 tag,.int .i64 ar])] w fun r w'=>r=.returned (.tuple #[])/\Did Z w cb bb rv sv kv fns (((q1.zak fns names).drop names.length).push (.close blk names.length)) w':=by
 have i0:=zfj;have i1:=zfi;have i2:=zdL;have Gw:(ar == 0)=false:=by simpa using pQ
 have ul:=zbv fns names.reverse q1;have eI:(q1.zak fns names).code.length<=1000000000:=by unfold Cp.Bs.zak;rw[ul.2.1,zy4];omega
 have eN:(q1.zak fns names).zac.length<=1000000000:=by unfold Cp.Bs.zak;rw[ul.1,zy4];omega
 have gL:names.length<=(q1.zak fns names).zac.length:=by unfold Cp.Bs.zak;rw[ul.1,zy4];omega
 have iQ:((q1.zak fns names).drop names.length).zac.length<=1000000000:=by simp[Cp.Bs.drop];omega
 have f0:Fr (fun _=>False) w _:=(Fr.refl _ _).alloc (.cells #[.int .i64 tag,.int .i64 ar] 219);have CC:=zab (hc _ f0);have F0:=zab f0;have HU:=zab (And.intro eI (And.intro eN (And.intro gL (And.intro iQ hin))));clear _h hc hin eI eN gL iQ f0 ul;go_enter func95,ntmps95
 go_wp2_with fail
 refine CC.o.mono ?_;rintro r w1 ⟨nv,rfl,Z1,bh,bf,cA,z1,b1,f1,n1,n2,n3,af⟩;obtain ⟨np,nc,_,rfl,_⟩:=zaO af.1;have CU:=zab (zbU b1 af HU.o.2.2.2.2 hl aC cW);have X1:=zab (And.intro z1 (And.intro f1 (And.intro n1 (And.intro n2 n3))));clear CC z1 b1 f1 n1 n2 n3 af i0 i1 i2;go_wp2_with fail
 refine CU.o.mono ?_;rintro r w2 ⟨rfl,Z2,im,iq,ik,z1,b1,f1,n1,n2,n3⟩;have CD:=zab (zeg b1 HU.o.2.1 HU.o.2.2.1);have X2:=zab (And.intro z1 (And.intro f1 (And.intro n1 (And.intro n2 n3))));clear CU z1 b1 f1 n1 n2 n3;go_wp2_with fail
 refine CD.o.mono ?_;rintro r w3 ⟨rfl,Z3,j8,j9,j7,z1,b1,f1,n1,n2,n3⟩;have CP:=zab (zbn (i:=.close blk names.length) b1 rfl HU.o.1 HU.o.2.2.2.1);have X3:=zab (And.intro z1 (And.intro f1 (And.intro n1 (And.intro n2 n3))));clear CD z1 b1 f1 n1 n2 n3;go_wp2_with fail
 refine CP.o.mono ?_;rintro r w4 ⟨rfl,hd⟩;have D4:=zab hd;clear CP hd;go_wp2_with fail
 first|go_end0|refine bodyPost_ret (results_none rfl _ _ _) rfl ?_
 refine ⟨rfl,Did.fr0 F0.o ?_⟩;obtain ⟨z1,f1,n1,n2,n3⟩:=X1.o;refine Did.trans z1 f1 n1 n2 n3 ?_;obtain ⟨z1,f1,n1,n2,n3⟩:=X2.o;refine Did.trans z1 f1 n1 n2 n3 ?_;obtain ⟨z1,f1,n1,n2,n3⟩:=X3.o;exact Did.trans z1 f1 n1 n2 n3 D4.o
theorem ztj(_h:BS Z w cb bb rv sv kv fns q)(hc:∀ W,Fr (fun _=>False) w W->Calls prog 165 #[.pointer (some ⟨bb,0,none⟩),.iface 163 x] W fun r w'=>∃ nv,r=.returned (.tuple #[.int .i64 blk,nv])/\znm Z W cb bb rv sv kv fns q1 w' nv names)(hin:∀ x∈names,x≠[]/\(Cp.za9 q1.zac x=none->x∈fns))(hl:q1.code.length+names.length<=1000000000)(aC:q1.zac.length+names.length<=1000000000)(cW:fns.length<=1000000000):
  Calls prog 95 #[.pointer (some ⟨bb,0,none⟩),.iface 163 x] w fun r w'=>r=.returned (.tuple #[])/\Did Z w cb bb rv sv kv fns (((q1.zak fns names).drop names.length).push (.close blk names.length)) w':=by
 have i0:=zkf;have i1:=zk5;have i2:=zhv;have ul:=zbv fns names.reverse q1;have eI:(q1.zak fns names).code.length<=1000000000:=by unfold Cp.Bs.zak;rw[ul.2.1,zy4];omega
 have eN:(q1.zak fns names).zac.length<=1000000000:=by unfold Cp.Bs.zak;rw[ul.1,zy4];omega
 have gL:names.length<=(q1.zak fns names).zac.length:=by unfold Cp.Bs.zak;rw[ul.1,zy4];omega
 have iQ:((q1.zak fns names).drop names.length).zac.length<=1000000000:=by simp[Cp.Bs.drop];omega
 have f0:Fr (fun _=>False) w _:=Fr.refl _ _;have CC:=zab (hc _ f0);have F0:=zab f0;have HU:=zab (And.intro eI (And.intro eN (And.intro gL (And.intro iQ hin))));clear _h hc hin eI eN gL iQ f0 ul;go_enter func95,ntmps95
 go_wp2_with fail
 refine CC.o.mono ?_;rintro r w1 ⟨nv,rfl,Z1,bh,bf,cA,z1,b1,f1,n1,n2,n3,af⟩;obtain ⟨np,nc,_,rfl,_⟩:=zaO af.1;have CU:=zab (zbU b1 af HU.o.2.2.2.2 hl aC cW);have X1:=zab (And.intro z1 (And.intro f1 (And.intro n1 (And.intro n2 n3))));clear CC z1 b1 f1 n1 n2 n3 af i0 i1 i2;go_wp2_with fail
 refine CU.o.mono ?_;rintro r w2 ⟨rfl,Z2,im,iq,ik,z1,b1,f1,n1,n2,n3⟩;have CD:=zab (zeg b1 HU.o.2.1 HU.o.2.2.1);have X2:=zab (And.intro z1 (And.intro f1 (And.intro n1 (And.intro n2 n3))));clear CU z1 b1 f1 n1 n2 n3;go_wp2_with fail
 refine CD.o.mono ?_;rintro r w3 ⟨rfl,Z3,j8,j9,j7,z1,b1,f1,n1,n2,n3⟩;have CP:=zab (zbn (i:=.close blk names.length) b1 rfl HU.o.1 HU.o.2.2.2.1);have X3:=zab (And.intro z1 (And.intro f1 (And.intro n1 (And.intro n2 n3))));clear CD z1 b1 f1 n1 n2 n3;go_wp2_with fail
 refine CP.o.mono ?_;rintro r w4 ⟨rfl,hd⟩;have D4:=zab hd;clear CP hd;go_wp2_with fail
 first|go_end0|refine bodyPost_ret (results_none rfl _ _ _) rfl ?_
 refine ⟨rfl,Did.fr0 F0.o ?_⟩;obtain ⟨z1,f1,n1,n2,n3⟩:=X1.o;refine Did.trans z1 f1 n1 n2 n3 ?_;obtain ⟨z1,f1,n1,n2,n3⟩:=X2.o;refine Did.trans z1 f1 n1 n2 n3 ?_;obtain ⟨z1,f1,n1,n2,n3⟩:=X3.o;exact Did.trans z1 f1 n1 n2 n3 D4.o
theorem zkC(_h:BS Z w cb bb rv sv kv fns q)(hc:∀ W,Fr (fun _=>False) w W->Calls prog 165 #[.pointer (some ⟨bb,0,none⟩),.iface 166 x] W fun r w'=>∃ nv,r=.returned (.tuple #[.int .i64 blk,nv])/\znm Z W cb bb rv sv kv fns q1 w' nv names)(hin:∀ x∈names,x≠[]/\(Cp.za9 q1.zac x=none->x∈fns))(hl:q1.code.length+names.length<=1000000000)(aC:q1.zac.length+names.length<=1000000000)(cW:fns.length<=1000000000):
  Calls prog 95 #[.pointer (some ⟨bb,0,none⟩),.iface 166 x] w fun r w'=>r=.returned (.tuple #[])/\Did Z w cb bb rv sv kv fns (((q1.zak fns names).drop names.length).push (.close blk names.length)) w':=by
 have i0:=zeB;have i1:=zgF;have i2:=zdD;have ul:=zbv fns names.reverse q1;have eI:(q1.zak fns names).code.length<=1000000000:=by unfold Cp.Bs.zak;rw[ul.2.1,zy4];omega
 have eN:(q1.zak fns names).zac.length<=1000000000:=by unfold Cp.Bs.zak;rw[ul.1,zy4];omega
 have gL:names.length<=(q1.zak fns names).zac.length:=by unfold Cp.Bs.zak;rw[ul.1,zy4];omega
 have iQ:((q1.zak fns names).drop names.length).zac.length<=1000000000:=by simp[Cp.Bs.drop];omega
 have f0:Fr (fun _=>False) w _:=Fr.refl _ _;have CC:=zab (hc _ f0);have F0:=zab f0;have HU:=zab (And.intro eI (And.intro eN (And.intro gL (And.intro iQ hin))));clear _h hc hin eI eN gL iQ f0 ul;go_enter func95,ntmps95
 go_wp2_with fail
 refine CC.o.mono ?_;rintro r w1 ⟨nv,rfl,Z1,bh,bf,cA,z1,b1,f1,n1,n2,n3,af⟩;obtain ⟨np,nc,_,rfl,_⟩:=zaO af.1;have CU:=zab (zbU b1 af HU.o.2.2.2.2 hl aC cW);have X1:=zab (And.intro z1 (And.intro f1 (And.intro n1 (And.intro n2 n3))));clear CC z1 b1 f1 n1 n2 n3 af i0 i1 i2;go_wp2_with fail
 refine CU.o.mono ?_;rintro r w2 ⟨rfl,Z2,im,iq,ik,z1,b1,f1,n1,n2,n3⟩;have CD:=zab (zeg b1 HU.o.2.1 HU.o.2.2.1);have X2:=zab (And.intro z1 (And.intro f1 (And.intro n1 (And.intro n2 n3))));clear CU z1 b1 f1 n1 n2 n3;go_wp2_with fail
 refine CD.o.mono ?_;rintro r w3 ⟨rfl,Z3,j8,j9,j7,z1,b1,f1,n1,n2,n3⟩;have CP:=zab (zbn (i:=.close blk names.length) b1 rfl HU.o.1 HU.o.2.2.2.1);have X3:=zab (And.intro z1 (And.intro f1 (And.intro n1 (And.intro n2 n3))));clear CD z1 b1 f1 n1 n2 n3;go_wp2_with fail
 refine CP.o.mono ?_;rintro r w4 ⟨rfl,hd⟩;have D4:=zab hd;clear CP hd;go_wp2_with fail
 first|go_end0|refine bodyPost_ret (results_none rfl _ _ _) rfl ?_
 refine ⟨rfl,Did.fr0 F0.o ?_⟩;obtain ⟨z1,f1,n1,n2,n3⟩:=X1.o;refine Did.trans z1 f1 n1 n2 n3 ?_;obtain ⟨z1,f1,n1,n2,n3⟩:=X2.o;refine Did.trans z1 f1 n1 n2 n3 ?_;obtain ⟨z1,f1,n1,n2,n3⟩:=X3.o;exact Did.trans z1 f1 n1 n2 n3 D4.o
theorem zvB(_h:BS Z w cb bb rv sv kv fns q)(hc:∀ W,Fr (fun _=>False) w W->Calls prog 165 #[.pointer (some ⟨bb,0,none⟩),.iface 178 x] W fun r w'=>∃ nv,r=.returned (.tuple #[.int .i64 blk,nv])/\znm Z W cb bb rv sv kv fns q1 w' nv names)(hin:∀ x∈names,x≠[]/\(Cp.za9 q1.zac x=none->x∈fns))(hl:q1.code.length+names.length<=1000000000)(aC:q1.zac.length+names.length<=1000000000)(cW:fns.length<=1000000000):
  Calls prog 95 #[.pointer (some ⟨bb,0,none⟩),.iface 178 x] w fun r w'=>r=.returned (.tuple #[])/\Did Z w cb bb rv sv kv fns (((q1.zak fns names).drop names.length).push (.close blk names.length)) w':=by
 have i0:=zlV;have i1:=znb;have i2:=zio;have ul:=zbv fns names.reverse q1;have eI:(q1.zak fns names).code.length<=1000000000:=by unfold Cp.Bs.zak;rw[ul.2.1,zy4];omega
 have eN:(q1.zak fns names).zac.length<=1000000000:=by unfold Cp.Bs.zak;rw[ul.1,zy4];omega
 have gL:names.length<=(q1.zak fns names).zac.length:=by unfold Cp.Bs.zak;rw[ul.1,zy4];omega
 have iQ:((q1.zak fns names).drop names.length).zac.length<=1000000000:=by simp[Cp.Bs.drop];omega
 have f0:Fr (fun _=>False) w _:=Fr.refl _ _;have CC:=zab (hc _ f0);have F0:=zab f0;have HU:=zab (And.intro eI (And.intro eN (And.intro gL (And.intro iQ hin))));clear _h hc hin eI eN gL iQ f0 ul;go_enter func95,ntmps95
 go_wp2_with fail
 refine CC.o.mono ?_;rintro r w1 ⟨nv,rfl,Z1,bh,bf,cA,z1,b1,f1,n1,n2,n3,af⟩;obtain ⟨np,nc,_,rfl,_⟩:=zaO af.1;have CU:=zab (zbU b1 af HU.o.2.2.2.2 hl aC cW);have X1:=zab (And.intro z1 (And.intro f1 (And.intro n1 (And.intro n2 n3))));clear CC z1 b1 f1 n1 n2 n3 af i0 i1 i2;go_wp2_with fail
 refine CU.o.mono ?_;rintro r w2 ⟨rfl,Z2,im,iq,ik,z1,b1,f1,n1,n2,n3⟩;have CD:=zab (zeg b1 HU.o.2.1 HU.o.2.2.1);have X2:=zab (And.intro z1 (And.intro f1 (And.intro n1 (And.intro n2 n3))));clear CU z1 b1 f1 n1 n2 n3;go_wp2_with fail
 refine CD.o.mono ?_;rintro r w3 ⟨rfl,Z3,j8,j9,j7,z1,b1,f1,n1,n2,n3⟩;have CP:=zab (zbn (i:=.close blk names.length) b1 rfl HU.o.1 HU.o.2.2.2.1);have X3:=zab (And.intro z1 (And.intro f1 (And.intro n1 (And.intro n2 n3))));clear CD z1 b1 f1 n1 n2 n3;go_wp2_with fail
 refine CP.o.mono ?_;rintro r w4 ⟨rfl,hd⟩;have D4:=zab hd;clear CP hd;go_wp2_with fail
 first|go_end0|refine bodyPost_ret (results_none rfl _ _ _) rfl ?_
 refine ⟨rfl,Did.fr0 F0.o ?_⟩;obtain ⟨z1,f1,n1,n2,n3⟩:=X1.o;refine Did.trans z1 f1 n1 n2 n3 ?_;obtain ⟨z1,f1,n1,n2,n3⟩:=X2.o;refine Did.trans z1 f1 n1 n2 n3 ?_;obtain ⟨z1,f1,n1,n2,n3⟩:=X3.o;exact Did.trans z1 f1 n1 n2 n3 D4.o
theorem ztk(_h:BS Z w cb bb rv sv kv fns q)(hc:∀ W,Fr (fun _=>False) w W->Calls prog 165 #[.pointer (some ⟨bb,0,none⟩),.iface 173 x] W fun r w'=>∃ nv,r=.returned (.tuple #[.int .i64 blk,nv])/\znm Z W cb bb rv sv kv fns q1 w' nv names)(hin:∀ x∈names,x≠[]/\(Cp.za9 q1.zac x=none->x∈fns))(hl:q1.code.length+names.length<=1000000000)(aC:q1.zac.length+names.length<=1000000000)(cW:fns.length<=1000000000):
  Calls prog 95 #[.pointer (some ⟨bb,0,none⟩),.iface 173 x] w fun r w'=>r=.returned (.tuple #[])/\Did Z w cb bb rv sv kv fns (((q1.zak fns names).drop names.length).push (.close blk names.length)) w':=by
 have i0:=zkg;have i1:=zk7;have i2:=zhw;have ul:=zbv fns names.reverse q1;have eI:(q1.zak fns names).code.length<=1000000000:=by unfold Cp.Bs.zak;rw[ul.2.1,zy4];omega
 have eN:(q1.zak fns names).zac.length<=1000000000:=by unfold Cp.Bs.zak;rw[ul.1,zy4];omega
 have gL:names.length<=(q1.zak fns names).zac.length:=by unfold Cp.Bs.zak;rw[ul.1,zy4];omega
 have iQ:((q1.zak fns names).drop names.length).zac.length<=1000000000:=by simp[Cp.Bs.drop];omega
 have f0:Fr (fun _=>False) w _:=Fr.refl _ _;have CC:=zab (hc _ f0);have F0:=zab f0;have HU:=zab (And.intro eI (And.intro eN (And.intro gL (And.intro iQ hin))));clear _h hc hin eI eN gL iQ f0 ul;go_enter func95,ntmps95
 go_wp2_with fail
 refine CC.o.mono ?_;rintro r w1 ⟨nv,rfl,Z1,bh,bf,cA,z1,b1,f1,n1,n2,n3,af⟩;obtain ⟨np,nc,_,rfl,_⟩:=zaO af.1;have CU:=zab (zbU b1 af HU.o.2.2.2.2 hl aC cW);have X1:=zab (And.intro z1 (And.intro f1 (And.intro n1 (And.intro n2 n3))));clear CC z1 b1 f1 n1 n2 n3 af i0 i1 i2;go_wp2_with fail
 refine CU.o.mono ?_;rintro r w2 ⟨rfl,Z2,im,iq,ik,z1,b1,f1,n1,n2,n3⟩;have CD:=zab (zeg b1 HU.o.2.1 HU.o.2.2.1);have X2:=zab (And.intro z1 (And.intro f1 (And.intro n1 (And.intro n2 n3))));clear CU z1 b1 f1 n1 n2 n3;go_wp2_with fail
 refine CD.o.mono ?_;rintro r w3 ⟨rfl,Z3,j8,j9,j7,z1,b1,f1,n1,n2,n3⟩;have CP:=zab (zbn (i:=.close blk names.length) b1 rfl HU.o.1 HU.o.2.2.2.1);have X3:=zab (And.intro z1 (And.intro f1 (And.intro n1 (And.intro n2 n3))));clear CD z1 b1 f1 n1 n2 n3;go_wp2_with fail
 refine CP.o.mono ?_;rintro r w4 ⟨rfl,hd⟩;have D4:=zab hd;clear CP hd;go_wp2_with fail
 first|go_end0|refine bodyPost_ret (results_none rfl _ _ _) rfl ?_
 refine ⟨rfl,Did.fr0 F0.o ?_⟩;obtain ⟨z1,f1,n1,n2,n3⟩:=X1.o;refine Did.trans z1 f1 n1 n2 n3 ?_;obtain ⟨z1,f1,n1,n2,n3⟩:=X2.o;refine Did.trans z1 f1 n1 n2 n3 ?_;obtain ⟨z1,f1,n1,n2,n3⟩:=X3.o;exact Did.trans z1 f1 n1 n2 n3 D4.o
theorem zpw(_h:BS Z w cb bb rv sv kv fns q)(hc:∀ W,Fr (fun _=>False) w W->Calls prog 165 #[.pointer (some ⟨bb,0,none⟩),.iface 226 x] W fun r w'=>∃ nv,r=.returned (.tuple #[.int .i64 blk,nv])/\znm Z W cb bb rv sv kv fns q1 w' nv names)(hin:∀ x∈names,x≠[]/\(Cp.za9 q1.zac x=none->x∈fns))(hl:q1.code.length+names.length<=1000000000)(aC:q1.zac.length+names.length<=1000000000)(cW:fns.length<=1000000000):
  Calls prog 95 #[.pointer (some ⟨bb,0,none⟩),.iface 226 x] w fun r w'=>r=.returned (.tuple #[])/\Did Z w cb bb rv sv kv fns (((q1.zak fns names).drop names.length).push (.close blk names.length)) w':=by
 have i0:=zhy;have i1:=ziI;have i2:=zkh;have ul:=zbv fns names.reverse q1;have eI:(q1.zak fns names).code.length<=1000000000:=by unfold Cp.Bs.zak;rw[ul.2.1,zy4];omega
 have eN:(q1.zak fns names).zac.length<=1000000000:=by unfold Cp.Bs.zak;rw[ul.1,zy4];omega
 have gL:names.length<=(q1.zak fns names).zac.length:=by unfold Cp.Bs.zak;rw[ul.1,zy4];omega
 have iQ:((q1.zak fns names).drop names.length).zac.length<=1000000000:=by simp[Cp.Bs.drop];omega
 have f0:Fr (fun _=>False) w _:=Fr.refl _ _;have CC:=zab (hc _ f0);have F0:=zab f0;have HU:=zab (And.intro eI (And.intro eN (And.intro gL (And.intro iQ hin))));clear _h hc hin eI eN gL iQ f0 ul;go_enter func95,ntmps95
 go_wp2_with fail
 refine CC.o.mono ?_;rintro r w1 ⟨nv,rfl,Z1,bh,bf,cA,z1,b1,f1,n1,n2,n3,af⟩;obtain ⟨np,nc,_,rfl,_⟩:=zaO af.1;have CU:=zab (zbU b1 af HU.o.2.2.2.2 hl aC cW);have X1:=zab (And.intro z1 (And.intro f1 (And.intro n1 (And.intro n2 n3))));clear CC z1 b1 f1 n1 n2 n3 af i0 i1 i2;go_wp2_with fail
 refine CU.o.mono ?_;rintro r w2 ⟨rfl,Z2,im,iq,ik,z1,b1,f1,n1,n2,n3⟩;have CD:=zab (zeg b1 HU.o.2.1 HU.o.2.2.1);have X2:=zab (And.intro z1 (And.intro f1 (And.intro n1 (And.intro n2 n3))));clear CU z1 b1 f1 n1 n2 n3;go_wp2_with fail
 refine CD.o.mono ?_;rintro r w3 ⟨rfl,Z3,j8,j9,j7,z1,b1,f1,n1,n2,n3⟩;have CP:=zab (zbn (i:=.close blk names.length) b1 rfl HU.o.1 HU.o.2.2.2.1);have X3:=zab (And.intro z1 (And.intro f1 (And.intro n1 (And.intro n2 n3))));clear CD z1 b1 f1 n1 n2 n3;go_wp2_with fail
 refine CP.o.mono ?_;rintro r w4 ⟨rfl,hd⟩;have D4:=zab hd;clear CP hd;go_wp2_with fail
 first|go_end0|refine bodyPost_ret (results_none rfl _ _ _) rfl ?_
 refine ⟨rfl,Did.fr0 F0.o ?_⟩;obtain ⟨z1,f1,n1,n2,n3⟩:=X1.o;refine Did.trans z1 f1 n1 n2 n3 ?_;obtain ⟨z1,f1,n1,n2,n3⟩:=X2.o;refine Did.trans z1 f1 n1 n2 n3 ?_;obtain ⟨z1,f1,n1,n2,n3⟩:=X3.o;exact Did.trans z1 f1 n1 n2 n3 D4.o
end Go.Proofs.YtgahgkddaljmkaaGreatDoor
