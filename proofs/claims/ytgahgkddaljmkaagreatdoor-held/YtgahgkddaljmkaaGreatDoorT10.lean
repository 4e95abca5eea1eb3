/- Cmp22 .. Cmp32 -/
import Derived.Test.YtgahgkddaljmkaaGreatDoorT9
set_option maxRecDepth 100000
set_option maxHeartbeats 4000000
namespace Go.Proofs.YtgahgkddaljmkaaGreatDoor
open Tryz
open Go.RowKit Go.Shelf
attribute [local go_sem ↓] Go.wp_at_zero Go.wp_at_succ
variable {W:World}{g:Nat}
theorem ztH(hb:Blk W g [.string ⟨#[]⟩] 9):Row (fun _=>True) W 9 1 (.slice (some ⟨g,0,none⟩) 1 1) ([[]]:List Cp.Nm).length (strCells [[]]):=⟨zgj (base:=0) hb rfl (zyN _) (by unfold maxLen;omega) (zy5 _) rfl,fun _ _=>trivial⟩
theorem zvr:∀ args w,(callFunc 156 args).run prog w=.ok (.enter 156 args) w:=by
 intro args w
 kernel_rfl
variable {M N n:Nat}{Z:Nat->Prop}{w:World}{cb:Nat}{rv v nv:Value}{t1:TypeId}{x1:Value}{fns names sl:List Cp.Nm}{bl:List (Nat × List Ins)}{e:Th.Ex}{q:Cp.Bs}
theorem ztY(hW:zbi M N n){sg:ByteArray}(aK:sl=([]::names).reverse)(hq:q=Cp.zjJ (Cp.work (Cp.free N) fns n e 2) sg ⟨bl,sl,[]⟩)(h:CS Z w cb rv fns bl)(hr:Rep Z w n v e)(hn:Row Z w 9 1 nv names.length (strCells names))(hf:∀ b2 cd,b2.length=bl.length+1->cd.length=3->Fit M N fns ⟨b2,(sl++[[]])++[[]],cd⟩ e)(aw:2+(M+8)*Cp.wt N e<=1000000000)(ev:names.length<=100000)(cV:bl.length<=1000000)(hl:q.blocks.length<=1000000000):
  Calls prog 91 #[.pointer (some ⟨cb,0,none⟩),.agg #[.string sg,.iface t1 x1,v],nv] w fun r w'=>r=.returned (.int .i64 q.blocks.length)/\zfH Z w cb rv fns (q.blocks++[(sl.length,q.code)]) w':=by
 have mc:∀ (fn:Fn) (first cap:Array Value) (w:World),(Instr.makeFunc fn first cap).run prog w=.ok (.func fn first cap) w:=fun _ _ _ _=>rfl
 obtain ⟨t,x,rfl⟩:=zah hr;obtain ⟨np,nn,nc,rfl⟩:=zae hn;have f0:Fr (fun _=>False) w ((w.alloc (.cells #[.pointer (some ⟨cb,0,none⟩)] 83)).alloc (.cells #[.string sg,.iface t1 x1,.iface t x] 166)):=((Fr.refl _ _).alloc _).alloc _;have kM:=Blk.alloc (Blk.new w [.pointer (some ⟨cb,0,none⟩)] 83) (.cells #[.string sg,.iface t1 x1,.iface t x] 166);have oP:=Blk.new (w.alloc (.cells #[.pointer (some ⟨cb,0,none⟩)] 83)) [.string sg,.iface t1 x1,.iface t x] 166;rw[World.size_alloc]at oP;have n9:sl.length=names.length+1:=by rw[aK];simp
 have eR:=zab kM;have pM:=zab oP;have F0:=zab f0;have HN:=zab hn;have HH:=zab (And.intro h (And.intro hr (And.intro hf hl)));have iw:=zab (And.intro aK (And.intro hq n9));have HW:=zab hW;clear hW h hr hn hf hl kM oP f0 aK hq n9;go_enter func91,ntmps91
 go_wp2_with fail
 generalize (w.alloc (.cells #[.pointer (some ⟨cb,0,none⟩)] 83)).alloc (.cells #[.string sg,.iface t1 x1,.iface t x] 166)=w0 at eR pM F0 ⊢;have q1:w0.cell? ⟨w.heap.size,0,none⟩=some (.pointer (some ⟨cb,0,none⟩)):=Blk.cell eR.o 0;have AA:Hid (∀ (W:World) (sp:Option Addr) (sn sc:Nat),Fr (fun _=>False) w0 W->Names w0.heap.size W (.slice sp sn sc) sl->Calls prog 154 #[.pointer (some ⟨cb,0,none⟩),.slice sp sn sc,.func (.func 156) #[] #[.pointer (some ⟨w.heap.size,0,none⟩),.pointer (some ⟨w.heap.size+1,0,none⟩)]] W fun r w'=>r=.returned (.int .i64 q.blocks.length)/\zfH Z w cb rv fns (q.blocks++[(sl.length,q.code)]) w'/\w'.cell? ⟨w.heap.size,0,none⟩=some (.pointer (some ⟨cb,0,none⟩))):=zab (by
  intro W sp sn sc f2 bA;obtain ⟨h,hr,hf,hl⟩:=HH.o;have f3:=F0.o.trans f2;have bq:=pM.o.lt;have bK:∀ k,(Value.slice sp sn sc).ownBlock=some k->w.heap.size+2<=k:=fun k hk=>by have:=bA.2 k hk;omega
  have hA:∀ k,(k=w.heap.size\/k=w.heap.size+1)->k<W.heap.size/\k≠cb/\rv.ownBlock≠some k:=fun k hk=>⟨by have:=f2.size;omega,by have:=h.clt;omega,fun e=>by have:=h.rlt k e;omega⟩
  have h3:=(h.fr0 f3).more hA;refine (zgi (q:=q) zvr h3 (za0 bA.1 (zy5 _)) (fun k hk=>⟨by have:=h.clt;have:=bK k hk;omega,fun e=>by have:=h.rlt k e;have:=bK k hk;omega,fun e=>by
    have:=bK k hk;rcases e with e|e
    ·have:=h.zlt k e;omega
    ·omega⟩) (fun W' bb bQ hb=>?_) hl).mono ?_
  ·rw[iw.o.2.1];refine zrS HW.o (m:=names.length) iw.o.2.2 (Fr.blk (Fr.blk eR.o f2 (by simp)) bQ (by simp)) (.inr (.inl rfl)) (Fr.blk (Fr.blk pM.o f2 (by simp)) bQ (by simp)) (.inr (.inr rfl)) hb ((hr.fr0 (f3.trans bQ)).mono (fun k _ hk=>.inl hk)) (by simp) (by simp[iw.o.2.2];omega) cV (fun b2 cd h1 h2=>hf b2 cd h1 h2) aw
  ·rintro r w6 ⟨rfl,Z',aO,z1,hc,f6,n6⟩;refine ⟨rfl,zqn f3 (fun k hk=>by have:=bK k hk;omega) (fun k hk=>?_) hc f6 n6,?_⟩
   ·rw[z1 k (zyS hk f3.size)];constructor
    ·rintro (e|e)
     ·exact e
     ·omega
    ·exact .inl
   ·refine Blk.cell (Fr.blk (Fr.blk eR.o f2 (by simp)) f6 ?_) 0;rintro (e|e|e)
    ·have:=h.clt;omega
    ·have:=h.rlt _ e;omega
    ·have:=bK _ e;omega)
 go_region_held3 (fun W=>W.cell? ⟨w.heap.size,0,none⟩=some (.pointer (some ⟨cb,0,none⟩))) (first|assumption|go_keep) (first
  |(go_at_call 155;refine (zdV _).mono ?_;rintro e wA ⟨rfl,pj⟩;have FA:Hid (Fr (fun _=>False) w0 wA):=zab (by rw[pj];exact ((Fr.refl _ _).drew).alloc _);have A1:Hid (Blk wA w0.heap.size [.string ⟨#[]⟩] 9):=zab (by rw[pj];exact Blk.new w0.drew [.string ⟨#[]⟩] 9);clear pj;have q2:wA.cell? ⟨w.heap.size,0,none⟩=some (.pointer (some ⟨cb,0,none⟩)):=Blk.cell (Fr.blk eR.o FA.o (by simp)) 0;
    have q5:(wA.alloc (.cells #[.slice (some ⟨w0.heap.size,0,none⟩) 1 1,.slice np nn nc] 38)).cell? ⟨w.heap.size,0,none⟩=some (.pointer (some ⟨cb,0,none⟩)):=Blk.cell (Blk.alloc (Fr.blk eR.o FA.o (by simp)) _) 0)
  |(go_at_call 51;have f11:Fr (fun _=>False) wA (wA.alloc (.cells #[.slice (some ⟨w0.heap.size,0,none⟩) 1 1,.slice np nn nc] 38)):=(Fr.refl _ _).alloc _;refine (zdR (Blk.new wA [.slice (some ⟨w0.heap.size,0,none⟩) 1 1,.slice np nn nc] 38) (ztH (Fr.blk A1.o f11 (by simp))) (Row.frc HN.o (F0.o.trans (FA.o.trans f11)) (by simp)) (by simp;omega)).mono ?_;rintro r w2 ⟨sv,rfl,bA,f2⟩;have lF:Names _ w2 sv sl:=iw.o.1 ▸ bA;obtain ⟨sp,sn,sc,rfl⟩:=zae bA;have F2:=zab (FA.o.trans (f11.trans f2));have um:=zab lF;have mo:=zab (zyR FA.o.size f11.size);clear bA lF f2 f11;have q3:w2.cell? ⟨w.heap.size,0,none⟩=some (.pointer (some ⟨cb,0,none⟩)):=Blk.cell (Fr.blk eR.o F2.o (by simp)) 0)
  |(go_at_call 154;refine (AA.o _ _ _ _ F2.o (um.o.dwn mo.o)).mono ?_;rintro r w6 ⟨rfl,hd,q6⟩;have HD:=zab hd;clear hd))
 all_goals
  go_wp2_with fail
  go_ret
  exact ⟨rfl,HD.o⟩
variable {w1:World}{bb:Nat}{sv kv:Value}
theorem BS.ins{Z1:Nat->Prop}{i:Ins}(h:BS Z w cb bb rv sv kv fns q)(f:Fr (KL cb bb rv sv kv) w w1)(z:∀ k,k<w.heap.size->(Z1 k↔Z k))(hi:zo5 Z w v i):zo5 Z1 w1 v i:=
 hi.frz f (fun k _ hz=>h.zk k hz) (fun k hk hz=>(z k hk).2 hz)
theorem zgS{c:Nat}{i:Ins}(h:BS Z w cb bb rv sv kv fns q)(hi:zo5 Z w v i)(hl:q.code.length+1<=1000000000):
  Calls prog 96 #[.pointer (some ⟨bb,0,none⟩),.int .i64 c,v] w fun r w'=>r=.returned (.tuple #[])/\Did Z w cb bb rv sv kv fns (q.ends c i) w':=by
 obtain ⟨t,x,rfl⟩:=zqA hi;have CW:=zab (zbS (i:=.zci c) h rfl (by omega));have HH:=zab (And.intro h hi);clear h hi;go_enter func96,ntmps96
 go_wp2_with fail
 refine CW.o.mono ?_;rintro r w1 ⟨rfl,Z1,bh,bf,cA,z1,b1,f1,n1,n2,n3⟩;have CE:=zab (zbS b1 (HH.o.1.ins f1 z1 HH.o.2) (by simp[Cp.Bs.write];omega));have X1:=zab (And.intro z1 (And.intro f1 (And.intro n1 (And.intro n2 n3))));clear CW z1 b1 f1 n1 n2 n3;go_wp2_with fail
 refine CE.o.mono ?_;rintro r w2 ⟨rfl,hd⟩;have HE:=zab hd;clear hd CE;go_wp2_with fail
 first|go_end0|refine bodyPost_ret (results_none rfl _ _ _) rfl ?_
 exact ⟨rfl,Did.trans X1.o.1 X1.o.2.1 X1.o.2.2.1 X1.o.2.2.2.1 X1.o.2.2.2.2 HE.o⟩
variable {blk:Nat}
theorem zqY(hW:zbi M N n){below:Nat}(h:BS Z w cb bb rv sv kv fns q)(hr:Rep Z w n v e)(hn:Row Z w 9 1 nv names.length (strCells names))(hin:∀ x∈names,x≠[]/\(Cp.za9 q.zac x=none->x∈fns))(aL:q.code.length+names.length+1<=1000000000)(aC:q.zac.length+names.length+1<=1000000000)(cW:fns.length<=1000000000)(hf:Fit M N fns ((q.zak fns names).push (.wait blk)) e)(hb:below+names.length+1+(M+8)*Cp.wt N e<=1000000000):
  Calls prog 90 #[.pointer (some ⟨bb,0,none⟩),v,nv,.int .i64 blk,.int .i64 below] w fun r w'=>r=.returned (.tuple #[])/\Did Z w cb bb rv sv kv fns (Cp.work (Cp.free N) fns n e (below+names.length+1) ((q.zak fns names).push (.wait blk))) w':=by
 obtain ⟨t,x,rfl⟩:=zah hr;obtain ⟨np,nc,_,rfl,_⟩:=zaO hn.1;have CU:=zab (zbU h hn hin (by omega) (by omega) cW);have HH:=zab (And.intro h (And.intro hr hf));have HW:=zab hW;have iC:below+names.length+1<=1000000000:=by omega
 have HB:=zab hb;have ul:=zbv fns names.reverse q;have eI:(q.zak fns names).code.length<=1000000000:=by unfold Cp.Bs.zak;rw[ul.2.1,zy4];omega
 have eN:(q.zak fns names).zac.length<=1000000000:=by unfold Cp.Bs.zak;rw[ul.1,zy4];omega
 obtain ⟨qu,AI⟩:∃ qu,q.zak fns names=qu:=⟨_,rfl⟩;rw[AI]at CU HH eI eN ⊢;clear h hr hn hin hf hW hb ul AI aL aC;go_enter func90,ntmps90
 go_wp2_with fail
 refine CU.o.mono ?_;rintro r w1 ⟨rfl,Z1,bh,bf,cA,z1,b1,f1,n1,n2,n3⟩;obtain ⟨h,hr,hf⟩:=HH.o;have CP:=zab (zbn (i:=.wait blk) b1 rfl eI eN);have X1:=zab (And.intro z1 (And.intro b1 (And.intro f1 (And.intro n1 (And.intro n2 n3)))));have Y1:=zab (h.rep f1 z1 hr);have HF:=zab hf;clear CU z1 b1 f1 n1 n2 n3 h hr hf HH;go_wp2_with fail
 refine CP.o.mono ?_;rintro r w2 ⟨rfl,Z2,im,iq,ik,z1,b1,f1,n1,n2,n3⟩;have CK:=zab (HW.o (below:=below+names.length+1) b1 (X1.o.2.1.rep f1 z1 Y1.o) HF.o HB.o);have X2:=zab (And.intro z1 (And.intro f1 (And.intro n1 (And.intro n2 n3))));clear CP z1 b1 f1 n1 n2 n3;rw[show ((below+names.length+1:Nat):Int)=(below:Int)+(names.length:Int)+1 by omega]at CK;go_wp2_with fail
 refine CK.o.mono ?_;rintro r w3 ⟨rfl,hd⟩;have D3:=zab hd;clear hd CK;go_wp2_with fail
 first|go_end0|refine bodyPost_ret (results_none rfl _ _ _) rfl ?_
 refine ⟨rfl,?_⟩;obtain ⟨z1,b1,f1,n1,n2,n3⟩:=X1.o;refine Did.trans z1 f1 n1 n2 n3 ?_;obtain ⟨z1,f1,n1,n2,n3⟩:=X2.o;exact Did.trans z1 f1 n1 n2 n3 D3.o
def znm (Z:Nat->Prop) (w:World) (cb bb:Nat) (rv sv kv:Value) (fns:List Cp.Nm) (q':Cp.Bs) (w':World) (nv:Value) (names:List Cp.Nm):Prop:=
 ∃ Z' aO sv' bG,(∀ k,k<w.heap.size->(Z' k↔Z k))/\BS Z' w' cb bb aO sv' bG fns q'/\Fr (KL cb bb rv sv kv) w w'/\New w rv aO/\New w sv sv'/\New w kv bG/\Row Z' w' 9 1 nv names.length (strCells names)
variable {w2:World}
theorem zfH.fr0(f:Fr (fun _=>False) w w1)(d:zfH Z w1 cb rv fns bl w2):zfH Z w cb rv fns bl w2:=by
 obtain ⟨Z',aO,h1,h2,h3,h4⟩:=d;refine ⟨Z',aO,fun k hk=>h1 k (zyS hk f.size),h2,(f.mono (fun _ x=>x.elim)).trans h3,New.trans (New.refl w rv) h4 f.size⟩
theorem BS.zp5(h:BS Z w cb bb rv sv kv fns q)(f2:Fr (fun _=>False) w w2)(ay:Names w.heap.size w2 nv names):BS (fun k=>Z k\/nv.ownBlock=some k) w2 cb bb rv sv kv fns q:=by
 have hs:=h.slt;have hk:=h.klt;have hr:=h.rlt;have hb:=h.zbY.lt;have hc:=h.clt;refine (h.fr0 f2).more (fun k fy=>⟨(ay.1.lt k fy).2,?_⟩);have nO:=ay.2 k fy;rintro (e|e|e|e|e)
 ·omega
 ·omega
 ·have:=hr k e;omega
 ·have:=hs k e;omega
 ·have:=hk k e;omega
variable {w3:World}
theorem zeM(h:BS Z w cb bb rv sv kv fns q)(f2:Fr (fun _=>False) w w2)(ay:Names w.heap.size w2 nv names)(hd:zfH (fun k=>Z k\/nv.ownBlock=some k) w2 cb rv fns bl w3):znm Z w cb bb rv sv kv fns ⟨bl,q.zac,q.code⟩ w3 nv names:=by
 have hb:=h.zp5 f2 ay;obtain ⟨Z',aO,sv',bG,z1,b1,f1,n1,n2,n3⟩:=hd.did hb;have af:Row (fun k=>Z k\/nv.ownBlock=some k) w2 9 1 nv names.length (strCells names):=⟨ay.1,fun k hk=>.inr hk⟩;refine ⟨Z',aO,sv',bG,fun k hk=>?_,b1,(f2.mono (fun _ x=>x.elim)).trans f1,New.trans (New.refl w rv) n1 f2.size,New.trans (New.refl w sv) n2 f2.size,New.trans (New.refl w kv) n3 f2.size,hb.row f1 z1 af⟩;rw[z1 k (zyS hk f2.size)];constructor
 ·rintro (e|e)
  ·exact e
  ·have:=ay.2 k e;omega
 ·exact .inl
theorem Did4{w4:World}(h:BS Z w cb bb rv sv kv fns q)(f2:Fr (fun _=>False) w w2)(_hnv:Names w.heap.size w2 nv names)(f3:Fr (fun _=>False) w2 w3)(hd:zfH (fun k=>Z k\/nv.ownBlock=some k) w3.drew cb rv fns bl w4):
  Blk w4 bb [.pointer (some ⟨cb,0,none⟩),sv,kv] 159/\∀ k vs t,w2.heap.size<=k->Blk w3 k vs t->Blk w4 k vs t:=by
 have hc:=h.clt;have hr:=h.rlt;have h2:=f2.size;obtain ⟨Z',aO,z1,b1,f1,n1⟩:=hd;refine ⟨Fr.blk (a:=w3.drew) (((h.fr0 f2).fr0 f3).zbY) f1 ?_,fun k vs t hk hb=>Fr.blk (a:=w3.drew) hb f1 ?_⟩
 ·rintro (e|e)
  ·exact h.ne e.symm
  ·exact h.rc.2 e
 ·rintro (e|e)
  ·omega
  ·have:=hr k e;omega
variable {t:TypeId}{x:Value}{l:List Cp.Nm}
theorem zE3(i0:TN t 226 (.agg #[.slice none 0 0,.nilIface]))(i1:TN t 219 (.agg #[.int .i64 0,.int .i64 0]))(h:BS Z w cb bb rv sv kv fns q)(ak:Calls prog 89 #[.iface t x] w fun r w'=>∃ v',r=.returned v'/\Names w.heap.size w' v' l/\Fr (fun _=>False) w w')(bu:names=Cp.zai q.zac l)(aL:l.length<=1000000)(aC:q.zac.length<=1000000000)(hc:∀ W nv,Fr (fun _=>False) w W->Names w.heap.size W nv names->Calls prog 161 #[.pointer (some ⟨cb,0,none⟩),.iface t x,nv] W fun r w'=>r=.returned (.int .i64 blk)/\zfH (fun k=>Z k\/nv.ownBlock=some k) W cb rv fns bl w'):
  Calls prog 165 #[.pointer (some ⟨bb,0,none⟩),.iface t x] w fun r w'=>∃ nv,r=.returned (.tuple #[.int .i64 blk,nv])/\znm Z w cb bb rv sv kv fns ⟨bl,q.zac,q.code⟩ w' nv names:=by
 have CF:=zab ak;have HH:=zab h;have HC:=zab hc;have HN:=zab bu;clear h ak hc bu;go_enter func165,ntmps165
 go_wp2_with fail
 refine CF.o.mono ?_;rintro r w1 ⟨fv,rfl,bI,f1⟩;obtain ⟨fa,fn,fc,rfl⟩:=zae bI;have dN:=zab (zcl (HH.o.fr0 f1) bI aL aC);have F1:=zab f1;clear CF bI f1;go_wp2_with fail
 refine dN.o.mono ?_;rintro r w2 ⟨nv,rfl,ay,f2⟩;rw[<-HN.o]at ay;obtain ⟨na,nn,nc,rfl⟩:=zaF ay;have F2:=zab (F1.o.trans f2);have cZ:Hid (Names w.heap.size w2 (.slice na nn nc) names):=zab (Names.dwn (Row.zaE ay) F1.o.size);have b0:=Blk.cell (HH.o.fr0 F2.o).zbY 0;simp at b0;have CA:=zab (HC.o w2 _ F2.o cZ.o);clear dN ay f2;go_wp2_with fail
 refine CA.o.mono ?_;rintro r w3 ⟨rfl,hd⟩;have HD:=zab (zeM HH.o F2.o cZ.o hd);clear hd CA b0 i0 i1;go_wp2_with fail
 refine bodyPost_ret (results_tmp2 rfl _ _ _) rfl ?_;exact ⟨_,rfl,HD.o⟩
theorem zky{pp:Option Addr}{pn pc:Nat}(h:BS Z w cb bb rv sv kv fns q)(ak:Calls prog 89 #[.iface 226 (.agg #[.slice pp pn pc,.iface t x])] w fun r w'=>∃ v',r=.returned v'/\Names w.heap.size w' v' l/\Fr (fun _=>False) w w')(bu:names=Cp.zai q.zac l)(aL:l.length<=1000000)(aC:q.zac.length<=1000000000)(hc:∀ W nv,Fr (fun _=>False) w W->Names w.heap.size W nv names->Calls prog 217 #[.pointer (some ⟨cb,0,none⟩),.agg #[.slice pp pn pc,.iface t x],nv] W fun r w'=>r=.returned (.int .i64 blk)/\zfH (fun k=>Z k\/nv.ownBlock=some k) W cb rv fns bl w'):
  Calls prog 165 #[.pointer (some ⟨bb,0,none⟩),.iface 226 (.agg #[.slice pp pn pc,.iface t x])] w fun r w'=>∃ nv,r=.returned (.tuple #[.int .i64 blk,nv])/\znm Z w cb bb rv sv kv fns ⟨bl,q.zac,q.code⟩ w' nv names:=by
 obtain ⟨i0,-⟩:=zGW;have CF:=zab ak;have HH:=zab h;have HC:=zab hc;have HN:=zab bu;clear h ak hc bu;go_enter func165,ntmps165
 go_wp2_with fail
 refine CF.o.mono ?_;rintro r w1 ⟨fv,rfl,bI,f1⟩;obtain ⟨fa,fn,fc,rfl⟩:=zae bI;have dN:=zab (zcl (HH.o.fr0 f1) bI aL aC);have F1:=zab f1;clear CF bI f1;go_wp2_with fail
 refine dN.o.mono ?_;rintro r w2 ⟨nv,rfl,ay,f2⟩;rw[<-HN.o]at ay;obtain ⟨na,nn,nc,rfl⟩:=zaF ay;have F2:=zab (F1.o.trans f2);have cZ:Hid (Names w.heap.size w2 (.slice na nn nc) names):=zab (Names.dwn (Row.zaE ay) F1.o.size);have b0:=Blk.cell (HH.o.fr0 F2.o).zbY 0;simp at b0;have f3:Fr (fun _=>False) w2 (w2.alloc (.cells #[.slice pp pn pc,.iface t x] 226)):=(Fr.refl _ _).alloc _;have CA:=zab (HC.o (w2.alloc (.cells #[.slice pp pn pc,.iface t x] 226)).drew _ ((F2.o.trans f3).drew) (cZ.o.fr0 f3.drew));have B3:=zab (Blk.new w2 [.slice pp pn pc,.iface t x] 226);have F3:=zab f3;have b3:=Blk.cell ((HH.o.fr0 F2.o).fr0 f3).zbY 0;simp at b3;clear dN ay f2 f3;go_wp2_with fail
 generalize (w2.alloc (.cells #[.slice pp pn pc,.iface t x] 226))=w3 at CA B3 F3 b3 ⊢;have p0:=Blk.cell B3.o 0;have p1:=Blk.cell B3.o 1;simp at p0 p1
 go_region_held3 (fun W=>W.cell? ⟨w2.heap.size,0,none⟩=some (.slice pp pn pc)/\W.cell? ⟨w2.heap.size,1,none⟩=some (.iface t x)/\W.cell? ⟨bb,0,none⟩=some (.pointer (some ⟨cb,0,none⟩))) (first|(refine ⟨?_,?_,?_⟩ <;> assumption)|go_keep) (first
  |(go_at_call 217;refine CA.o.mono ?_;rintro r w4 ⟨rfl,hd⟩;have HD:=zab hd;have mL:=(Did4 HH.o F2.o cZ.o F3.o hd);have b4:=Blk.cell mL.1 0;simp at b4;have r0:=Blk.cell (mL.2 w2.heap.size _ _ (zyN _) B3.o) 0;have r1:=Blk.cell (mL.2 w2.heap.size _ _ (zyN _) B3.o) 1;simp at r0 r1;clear hd mL))
 all_goals
  go_wp2_with fail
  refine bodyPost_ret (results_tmp2 rfl _ _ _) rfl ?_;exact ⟨_,rfl,zeM HH.o F2.o cZ.o (HD.o.fr0 F3.o.drew)⟩
theorem zmb{tag ar:Int}(h:BS Z w cb bb rv sv kv fns q)(ak:Calls prog 89 #[.iface 219 (.agg #[.int .i64 tag,.int .i64 ar])] w fun r w'=>∃ v',r=.returned v'/\Names w.heap.size w' v' l/\Fr (fun _=>False) w w')(bu:names=Cp.zai q.zac l)(aL:l.length<=1000000)(aC:q.zac.length<=1000000000)(hc:∀ W nv,Fr (fun _=>False) w W->Names w.heap.size W nv names->Calls prog 218 #[.pointer (some ⟨cb,0,none⟩),.agg #[.int .i64 tag,.int .i64 ar]] W fun r w'=>r=.returned (.int .i64 blk)/\zfH (fun k=>Z k\/nv.ownBlock=some k) W cb rv fns bl w'):
  Calls prog 165 #[.pointer (some ⟨bb,0,none⟩),.iface 219 (.agg #[.int .i64 tag,.int .i64 ar])] w fun r w'=>∃ nv,r=.returned (.tuple #[.int .i64 blk,nv])/\znm Z w cb bb rv sv kv fns ⟨bl,q.zac,q.code⟩ w' nv names:=by
 obtain ⟨i1,-,-,-,-,-,-,i0,-⟩:=zGY;have CF:=zab ak;have HH:=zab h;have HC:=zab hc;have HN:=zab bu;clear h ak hc bu;go_enter func165,ntmps165
 go_wp2_with fail
 refine CF.o.mono ?_;rintro r w1 ⟨fv,rfl,bI,f1⟩;obtain ⟨fa,fn,fc,rfl⟩:=zae bI;have dN:=zab (zcl (HH.o.fr0 f1) bI aL aC);have F1:=zab f1;clear CF bI f1;go_wp2_with fail
 refine dN.o.mono ?_;rintro r w2 ⟨nv,rfl,ay,f2⟩;rw[<-HN.o]at ay;obtain ⟨na,nn,nc,rfl⟩:=zaF ay;have F2:=zab (F1.o.trans f2);have cZ:Hid (Names w.heap.size w2 (.slice na nn nc) names):=zab (Names.dwn (Row.zaE ay) F1.o.size);have b0:=Blk.cell (HH.o.fr0 F2.o).zbY 0;simp at b0;have f3:Fr (fun _=>False) w2 (w2.alloc (.cells #[.int .i64 tag,.int .i64 ar] 219)):=(Fr.refl _ _).alloc _;have CA:=zab (HC.o (w2.alloc (.cells #[.int .i64 tag,.int .i64 ar] 219)).drew _ ((F2.o.trans f3).drew) (cZ.o.fr0 f3.drew));have B3:=zab (Blk.new w2 [.int .i64 tag,.int .i64 ar] 219);have F3:=zab f3;have b3:=Blk.cell ((HH.o.fr0 F2.o).fr0 f3).zbY 0;simp at b3;clear dN ay f2 f3;go_wp2_with fail
 generalize (w2.alloc (.cells #[.int .i64 tag,.int .i64 ar] 219))=w3 at CA B3 F3 b3 ⊢;have p0:=Blk.cell B3.o 0;have p1:=Blk.cell B3.o 1;simp at p0 p1
 go_region_held3 (fun W=>W.cell? ⟨w2.heap.size,0,none⟩=some (.int .i64 tag)/\W.cell? ⟨w2.heap.size,1,none⟩=some (.int .i64 ar)/\W.cell? ⟨bb,0,none⟩=some (.pointer (some ⟨cb,0,none⟩))) (first|(refine ⟨?_,?_,?_⟩ <;> assumption)|go_keep) (first
  |(go_at_call 218;refine CA.o.mono ?_;rintro r w4 ⟨rfl,hd⟩;have HD:=zab hd;have mL:=(Did4 HH.o F2.o cZ.o F3.o hd);have b4:=Blk.cell mL.1 0;simp at b4;have r0:=Blk.cell (mL.2 w2.heap.size _ _ (zyN _) B3.o) 0;have r1:=Blk.cell (mL.2 w2.heap.size _ _ (zyN _) B3.o) 1;simp at r0 r1;clear hd mL))
 all_goals
  go_wp2_with fail
  refine bodyPost_ret (results_tmp2 rfl _ _ _) rfl ?_;exact ⟨_,rfl,zeM HH.o F2.o cZ.o (HD.o.fr0 F3.o.drew)⟩
theorem zvC{at_:Int}(h:BS Z w cb bb rv sv kv fns q)(x:Cp.Nm)(hin:Cp.za9 q.zac x=none->x∈fns)(hl:q.code.length<=1000000000)(aC:q.zac.length<=1000000000)(cW:fns.length<=1000000000):
  Calls prog 95 #[.pointer (some ⟨bb,0,none⟩),.iface 215 (.agg #[.string ⟨x.toArray⟩,.int .i64 at_])] w fun r w'=>r=.returned (.tuple #[])/\Did Z w cb bb rv sv kv fns (q.use fns x) w':=by
 obtain ⟨i0,-⟩:=zG6;have F0:Hid (Fr (fun _=>False) w (w.alloc (.cells #[.string ⟨x.toArray⟩,.int .i64 at_] 215))):=zab ((Fr.refl _ _).alloc _);have CU:=zab (zuK (h.fr0 F0.o) x hin hl aC cW);clear h hin;go_enter func95,ntmps95
 go_wp2_with fail
 refine CU.o.mono ?_;rintro r w1 ⟨rfl,hd⟩;have HD:=zab (Did.fr0 F0.o hd);clear hd CU i0;go_wp2_with fail
 first|go_end0|refine bodyPost_ret (results_none rfl _ _ _) rfl ?_
 exact ⟨rfl,HD.o⟩
theorem zpy{x:Int}(h:BS Z w cb bb rv sv kv fns q)(hl:q.code.length<=1000000000)(aC:q.zac.length<=1000000000):
  Calls prog 95 #[.pointer (some ⟨bb,0,none⟩),.iface 217 (.agg #[.int .i64 x])] w fun r w'=>r=.returned (.tuple #[])/\Did Z w cb bb rv sv kv fns (q.push (.num x)) w':=by
 obtain ⟨i1,i0,-⟩:=zGX;have F0:Hid (Fr (fun _=>False) w (w.alloc (.cells #[.int .i64 x] 217))):=zab ((Fr.refl _ _).alloc _);have CU:=zab (zbn (i:=.num x) (h.fr0 F0.o) rfl hl aC);clear h;go_enter func95,ntmps95
 go_wp2_with fail
 refine CU.o.mono ?_;rintro r w1 ⟨rfl,hd⟩;have HD:=zab (Did.fr0 F0.o hd);clear hd CU i0 i1;go_wp2_with fail
 first|go_end0|refine bodyPost_ret (results_none rfl _ _ _) rfl ?_
 exact ⟨rfl,HD.o⟩
theorem zpx{tag:Nat}(h:BS Z w cb bb rv sv kv fns q)(hl:q.code.length<=1000000000)(aC:q.zac.length<=1000000000):
  Calls prog 95 #[.pointer (some ⟨bb,0,none⟩),.iface 219 (.agg #[.int .i64 tag,.int .i64 0])] w fun r w'=>r=.returned (.tuple #[])/\Did Z w cb bb rv sv kv fns (q.push (.pack tag 0)) w':=by
 obtain ⟨i2,i0,i1,-⟩:=zGY;have F0:Hid (Fr (fun _=>False) w (w.alloc (.cells #[.int .i64 tag,.int .i64 0] 219))):=zab ((Fr.refl _ _).alloc _);have CU:=zab (zbn (i:=.pack tag 0) (h.fr0 F0.o) rfl hl aC);clear h;go_enter func95,ntmps95
 go_wp2_with fail
 refine CU.o.mono ?_;rintro r w1 ⟨rfl,hd⟩;have HD:=zab (Did.fr0 F0.o hd);clear hd CU i0 i1 i2;go_wp2_with fail
 first|go_end0|refine bodyPost_ret (results_none rfl _ _ _) rfl ?_
 exact ⟨rfl,HD.o⟩
theorem zrx{q1:Cp.Bs}{tag ar:Int}(_h:BS Z w cb bb rv sv kv fns q)(pQ:ar≠0)(hc:∀ W,Fr (fun _=>False) w W->Calls prog 165 #[.pointer (some ⟨bb,0,none⟩),.iface 219 (.agg #[.int .i64 tag,.int .i64 ar])] W fun r w'=>∃ nv,r=.returned (.tuple #[.int .i64 blk,nv])/\znm Z W cb bb rv sv kv fns q1 w' nv names)(hin:∀ x∈names,x≠[]/\(Cp.za9 q1.zac x=none->x∈fns))(hl:q1.code.length+names.length<=1000000000)(aC:q1.zac.length+names.length<=1000000000)(cW:fns.length<=1000000000):
  Calls prog 95 #[.pointer (some ⟨bb,0,none⟩),.iface 219 (.agg #[.int .i64 tag,.int .i64 ar])] w fun r w'=>r=.returned (.tuple #[])/\Did Z w cb bb rv sv kv fns (((q1.zak fns names).drop names.length).push (.close blk names.length)) w':=by
 obtain ⟨i2,i0,i1,-⟩:=zGY;have Gw:(ar == 0)=false:=by simpa using pQ
 have ul:=zbv fns names.reverse q1;have eI:(q1.zak fns names).code.length<=1000000000:=by unfold Cp.Bs.zak;rw[ul.2.1,zy4];omega
 have eN:(q1.zak fns names).zac.length<=1000000000:=by unfold Cp.Bs.zak;rw[ul.1,zy4];omega
 have gL:names.length<=(q1.zak fns names).zac.length:=by unfold Cp.Bs.zak;rw[ul.1,zy4];omega
 have iQ:((q1.zak fns names).drop names.length).zac.length<=1000000000:=by simp[Cp.Bs.drop];omega
 have f0:Fr (fun _=>False) w _:=(Fr.refl _ _).alloc (.cells #[.int .i64 tag,.int .i64 ar] 219);have CC:=zab (hc _ f0);have F0:=zab f0;have HU:=zab (And.intro eI (And.intro eN (And.intro gL (And.intro iQ hin))));clear _h hc hin eI eN gL iQ f0 ul;go_enter func95,ntmps95
 go_wp2_with fail
 refine CC.o.mono ?_;rintro r w1 ⟨nv,rfl,Z1,bh,bf,cA,z1,b1,f1,n1,n2,n3,af⟩;obtain ⟨np,nc,_,rfl,_⟩:=zaO af.1;have CU:=zab (zbU b1 af HU.o.2.2.2.2 hl aC cW);have X1:=zab (And.intro z1 (And.intro f1 (And.intro n1 (And.intro n2 n3))));clear CC z1 b1 f1 n1 n2 n3 af i0 i1 i2;go_wp2_with fail
 refine CU.o.mono ?_;rintro r w2 ⟨rfl,Z2,im,iq,ik,z1,b1,f1,n1,n2,n3⟩;have CD:=zab (zeg b1 HU.o.2.1 HU.o.2.2.1);have X2:=zab (And.intro z1 (And.intro f1 (And.intro n1 (And.intro n2 n3))));clear CU z1 b1 f1 n1 n2 n3;go_wp2_with fail
 refine CD.o.mono ?_;rintro r w3 ⟨rfl,Z3,j8,j9,j7,z1,b1,f1,n1,n2,n3⟩;have CP:=zab (zbn (i:=.close blk names.length) b1 rfl HU.o.1 HU.o.2.2.2.1);have X3:=zab (And.intro z1 (And.intro f1 (And.intro n1 (And.intro n2 n3))));clear CD z1 b1 f1 n1 n2 n3;go_wp2_with fail
 refine CP.o.mono ?_;rintro r w4 ⟨rfl,hd⟩;have D4:=zab hd;clear CP hd;go_wp2_with fail
 first|go_end0|refine bodyPost_ret (results_none rfl _ _ _) rfl ?_
 refine ⟨rfl,Did.fr0 F0.o ?_⟩;obtain ⟨z1,f1,n1,n2,n3⟩:=X1.o;refine Did.trans z1 f1 n1 n2 n3 ?_;obtain ⟨z1,f1,n1,n2,n3⟩:=X2.o;refine Did.trans z1 f1 n1 n2 n3 ?_;obtain ⟨z1,f1,n1,n2,n3⟩:=X3.o;exact Did.trans z1 f1 n1 n2 n3 D4.o
theorem zFd(i0:TN t 215 (.agg #[.string ⟨#[]⟩,.int .i64 0]))(i1:TN t 217 (.agg #[.int .i64 0]))(i2:TN t 219 (.agg #[.int .i64 0,.int .i64 0])){q1:Cp.Bs}(_h:BS Z w cb bb rv sv kv fns q)(hc:∀ W,Fr (fun _=>False) w W->Calls prog 165 #[.pointer (some ⟨bb,0,none⟩),.iface t x] W fun r w'=>∃ nv,r=.returned (.tuple #[.int .i64 blk,nv])/\znm Z W cb bb rv sv kv fns q1 w' nv names)(hin:∀ x∈names,x≠[]/\(Cp.za9 q1.zac x=none->x∈fns))(hl:q1.code.length+names.length<=1000000000)(aC:q1.zac.length+names.length<=1000000000)(cW:fns.length<=1000000000):
  Calls prog 95 #[.pointer (some ⟨bb,0,none⟩),.iface t x] w fun r w'=>r=.returned (.tuple #[])/\Did Z w cb bb rv sv kv fns (((q1.zak fns names).drop names.length).push (.close blk names.length)) w':=by
 have ul:=zbv fns names.reverse q1;have eI:(q1.zak fns names).code.length<=1000000000:=by unfold Cp.Bs.zak;rw[ul.2.1,zy4];omega
 have eN:(q1.zak fns names).zac.length<=1000000000:=by unfold Cp.Bs.zak;rw[ul.1,zy4];omega
 have gL:names.length<=(q1.zak fns names).zac.length:=by unfold Cp.Bs.zak;rw[ul.1,zy4];omega
 have iQ:((q1.zak fns names).drop names.length).zac.length<=1000000000:=by simp[Cp.Bs.drop];omega
 have f0:Fr (fun _=>False) w _:=Fr.refl _ _;have CC:=zab (hc _ f0);have F0:=zab f0;have HU:=zab (And.intro eI (And.intro eN (And.intro gL (And.intro iQ hin))));clear _h hc hin eI eN gL iQ f0 ul;go_enter func95,ntmps95
 go_wp2_with fail
 refine CC.o.mono ?_;rintro r w1 ⟨nv,rfl,Z1,bh,bf,cA,z1,b1,f1,n1,n2,n3,af⟩;obtain ⟨np,nc,_,rfl,_⟩:=zaO af.1;have CU:=zab (zbU b1 af HU.o.2.2.2.2 hl aC cW);have X1:=zab (And.intro z1 (And.intro f1 (And.intro n1 (And.intro n2 n3))));clear CC z1 b1 f1 n1 n2 n3 af i0 i1 i2;go_wp2_with fail
 refine CU.o.mono ?_;rintro r w2 ⟨rfl,Z2,im,iq,ik,z1,b1,f1,n1,n2,n3⟩;have CD:=zab (zeg b1 HU.o.2.1 HU.o.2.2.1);have X2:=zab (And.intro z1 (And.intro f1 (And.intro n1 (And.intro n2 n3))));clear CU z1 b1 f1 n1 n2 n3;go_wp2_with fail
 refine CD.o.mono ?_;rintro r w3 ⟨rfl,Z3,j8,j9,j7,z1,b1,f1,n1,n2,n3⟩;have CP:=zab (zbn (i:=.close blk names.length) b1 rfl HU.o.1 HU.o.2.2.2.1);have X3:=zab (And.intro z1 (And.intro f1 (And.intro n1 (And.intro n2 n3))));clear CD z1 b1 f1 n1 n2 n3;go_wp2_with fail
 refine CP.o.mono ?_;rintro r w4 ⟨rfl,hd⟩;have D4:=zab hd;clear CP hd;go_wp2_with fail
 first|go_end0|refine bodyPost_ret (results_none rfl _ _ _) rfl ?_
 refine ⟨rfl,Did.fr0 F0.o ?_⟩;obtain ⟨z1,f1,n1,n2,n3⟩:=X1.o;refine Did.trans z1 f1 n1 n2 n3 ?_;obtain ⟨z1,f1,n1,n2,n3⟩:=X2.o;refine Did.trans z1 f1 n1 n2 n3 ?_;obtain ⟨z1,f1,n1,n2,n3⟩:=X3.o;exact Did.trans z1 f1 n1 n2 n3 D4.o
theorem zvF:(prog.info? 290).map (fun i=>(i.zero,i.size,i.bytes))=some (some (.agg #[.int .i64 0,.int .i64 0,.int .i64 0]),3,24):=by kernel_rfl
theorem zxj:∀ args w,(callFunc 159 args).run prog w=.ok (.enter 159 args) w:=by
 intro args w
 kernel_rfl
structure AS (Z:Nat->Prop) (w wr:World) (cb bb:Nat) (rv sv kv v:Value) (fns:List Cp.Nm) (q:Cp.Bs) (k:Nat) (Zk:Nat->Prop) (dM:Value) (bl:List (Nat × List Ins)) (lk:List (Nat × Nat × Nat)):Prop where
 z:∀ j,j<w.heap.size->(Zk j↔Z j)
 b:BS Zk wr cb bb dM sv kv fns ⟨bl,q.zac,q.code⟩
 f:Fr (KL cb bb rv sv kv) w wr
 n:New w rv dM
 row:wr.ownsRow w.heap.size 290 3 v k (zbs lk)
 nz:∀ j,v.ownBlock=some j->¬ Zk j/\dM.ownBlock≠some j
 len:lk.length=k
variable {cap:Nat}
theorem AS.next{wr tS:World}{k:Nat}{Zk:Nat->Prop}{dM:Value}{wi:List (Nat × List Ins)}{lk:List (Nat × Nat × Nat)}(h0:BS Z w cb bb rv sv kv fns q)(h:AS Z w wr cb bb rv sv kv v fns q k Zk dM bl lk)(f1:Fr (fun _=>False) wr w1)(d:zfH Zk w1 cb dM fns wi w2)(f2:Fr (fun _=>False) w2 tS){a:Nat × Nat × Nat}(ai:w3.ownsRow w.heap.size 290 3 (.slice (some ⟨g,0,none⟩) (k+1) cap) (k+1) (zbs lk++[.int .i64 a.1,.int .i64 a.2.1,.int .i64 a.2.2]))(hg:tS.grownBy w3 v.ownBlock)(aV:v.ownBlock=some g\/g=tS.heap.size):∃ Z' aO,AS Z w w3 cb bb rv sv kv (.slice (some ⟨g,0,none⟩) (k+1) cap) fns q (k+1) Z' aO wi (lk++[a]):=by
 have pU:=h0.clt;have fQ:=h0.rlt;have bK:=h0.slt;have dF:=h0.klt;have kf:=h0.zbY.lt;have dJ:∀ j,v.ownBlock=some j->w.heap.size<=j/\j<wr.heap.size:=fun j hj=>h.row.lt j hj
 have s1:=f1.size;have s2:=f2.size;have sf:=h.f.size;obtain ⟨Z',aO,z1,c1,g1,n1⟩:=d;have b1:BS Z' w2 cb bb aO sv kv fns ⟨wi,q.zac,q.code⟩:=by
  obtain ⟨vs,cK,aG⟩:=(h.b.fr0 f1).znV;have hh:=h.b.fr0 f1;have iJ:¬ (bb=cb\/dM.ownBlock=some bb):=by
   rintro (e|e)
   ·exact hh.ne e.symm
   ·exact hh.rc.2 e
  have xR:∀ k,sv.ownBlock=some k->¬ (k=cb\/dM.ownBlock=some k):=by
   rintro k e1 (e|e)
   ·exact hh.sc.1 (e ▸ e1)
   ·exact hh.rs k e e1
  have xO:∀ k,kv.ownBlock=some k->¬ (k=cb\/dM.ownBlock=some k):=by
   rintro k e1 (e|e)
   ·exact hh.kc.1 (e ▸ e1)
   ·exact hh.rk k e e1
  have cV:=hh.zbY.lt;refine ⟨c1.zkt,Fr.blk hh.zbY g1 iJ,c1.zkI,g1.gb hh.ziW xR,⟨vs,g1.gb cK xO,aG.frz g1 (fun k _ hz he=>hh.zk k hz (by rcases he with e|e;exact .inl e;exact .inr (.inr (.inl e)))) (fun k hk hz=>(z1 k hk).2 hz)⟩,c1.zlt,?_,hh.ne,⟨c1.rc,?_⟩,hh.sc,hh.kc,?_,?_,hh.sk⟩
  ·rintro k hz (e|e|e|e|e)
   ·exact (c1.zk k hz).1 e
   ·subst e;exact hh.zk k ((z1 k cV).1 hz) (.inr (.inl rfl))
   ·exact (c1.zk k hz).2 e
   ·exact hh.zk k ((z1 k (hh.slt k e)).1 hz) (.inr (.inr (.inr (.inl e))))
   ·exact hh.zk k ((z1 k (hh.klt k e)).1 hz) (.inr (.inr (.inr (.inr e))))
  ·intro e;rcases n1 bb e with e|e
   ·exact hh.rc.2 e
   ·omega
  ·intro k e e';rcases n1 k e with e|e
   ·exact hh.rs k e e'
   ·have:=hh.slt k e';omega
  ·intro k e e';rcases n1 k e with e|e
   ·exact hh.rk k e e'
   ·have:=hh.klt k e';omega
 have qg:∀ j,v.ownBlock=some j->¬ Z' j/\aO.ownBlock≠some j:=fun j hj=>⟨fun e=>(h.nz j hj).1 ((z1 j (by have:=(dJ j hj).2;omega)).1 e),fun e=>by
  rcases n1 j e with e|e
  ·exact (h.nz j hj).2 e
  ·have:=(dJ j hj).2;omega⟩
 have f3:Fr (fun j=>v.ownBlock=some j) tS w3:=(Fr.refl _ _).zjj hg (fun k _ e=>e);have b2:=b1.fr0 f2;have bw:=g1.size;refine ⟨Z',aO,⟨fun j hj=>(z1 j (by omega)).trans (h.z j hj),b2.frk f3 ?_,?_,?_,?_,?_,by simp[h.len]⟩⟩
 ·rintro k (hk|hk) e
  ·exact (qg k e).1 hk
  ·have:=dJ k e;rcases hk with e'|e'|e'|e'|e'
   ·omega
   ·omega
   ·exact (qg k e).2 e'
   ·have:=bK k e';omega
   ·have:=dF k e';omega
 ·have e1:Fr (KL cb bb rv sv kv) w tS:=by
   refine ⟨f2.os.trans (g1.os.trans (f1.os.trans h.f.os)),f2.tape.trans (g1.tape.trans (f1.tape.trans h.f.tape)),f2.output.trans (g1.output.trans (f1.output.trans h.f.output)),by omega,fun i hi hK=>?_⟩;rw[f2.block i (by omega) (by simp),g1.block i (by omega) ?_,f1.block i (by omega) (by simp),h.f.block i hi hK];rintro (e|e)
   ·exact hK (.inl e)
   ·rcases h.n i e with e|e
    ·exact hK (.inr (.inr (.inl e)))
    ·omega
  exact e1.zjj hg (fun k hk e=>by have:=dJ k e;omega)
 ·exact h.n.trans (New.trans (New.refl wr dM) n1 s1) sf
 ·rw[show zbs (lk++[a])=zbs lk++[.int .i64 a.1,.int .i64 a.2.1,.int .i64 a.2.2] by simp[zbs]];exact ai
 ·intro j hj;simp only[Value.ownBlock,zyP]at hj;subst hj;rcases aV with e|e
  ·exact qg _ e
  ·refine ⟨fun e'=>?_,fun e'=>?_⟩
   ·have:=b1.zlt _ e';omega
   ·have:=b1.rlt _ e';omega
theorem zsx(hW:zbi M N n){ba bc bn:Nat}{av:Value}{zao:List (Nat × List Th.Tok)}{ag:List Th.Ex}{nvs bvs:List Value}(h:BS Z w cb bb rv sv kv fns q)(ha:Blk w ba [av] 171)(za:Z ba)(hc:Blk w bc [.pointer (some ⟨cb,0,none⟩)] 83)(zc:Z bc)(lq:Blk w bn [nv] 38)(zn:Z bn)(h3:ag.length=zao.length)(h4:nvs.length=zao.length)(h5:bvs.length=zao.length)(h6:Row Z w 240 3 av zao.length (za7 zao nvs bvs))(hn:Row Z w 9 1 nv names.length (strCells names))(h7:∀ (i:Nat) (a:Nat × List Th.Tok) (nv:Value),zao[i]?=some a->nvs[i]?=some nv->Row Z w 88 2 nv a.2.length (zaj a.2))(h8:∀ (i:Nat) (bv:Value) (p:Th.Ex),bvs[i]?=some bv->ag[i]?=some p->Rep Z w n bv p)(aH:zao≠[])(aX:∀ d q,d∈ag->(Cp.work (Cp.free N) fns n d 0 q).blocks.length<=q.blocks.length+8*Cp.wt N d)(aJ:∀ (i:Nat) (a:Nat × List Th.Tok) (d:Th.Ex) (b:List (Nat × List Ins)),zao[i]?=some a->ag[i]?=some d->b.length+8*Cp.wt N d<=1000000->Fit M N fns ⟨b,(Th.texts a.2++names).reverse,[]⟩ d/\names.length+a.2.length<=1000000)(dh:q.blocks.length+(ag.map fun d=>8*Cp.wt N d+1).sum<=1000000)(aN:q.code.length<=1000000)(aU:zao.length<=1000000):
  Calls prog 159 #[.pointer (some ⟨bb,0,none⟩),.pointer (some ⟨ba,0,none⟩),.pointer (some ⟨bc,0,none⟩),.pointer (some ⟨bn,0,none⟩)] w fun r w'=>r=.returned (.tuple #[]) /\
   Did Z w cb bb rv sv kv fns ((Cp.armsOf (Cp.work (Cp.free N) fns n) names zao ag q []).1.write (.choose (Cp.armsOf (Cp.work (Cp.free N) fns n) names zao ag q []).2)) w':=by
 obtain ⟨i0,dt,bq,aP,bF⟩:=info_parts zvF;have HI:=zab dt;clear dt;have HZ:=zab (And.intro bq (And.intro aP bF));clear bq aP bF;have bp:0<zao.length:=zzA.2 aH;have eM:=zan h6;obtain ⟨g0,ac,Eb⟩:∃ g0 ac,av=.slice (some ⟨g0,0,none⟩) zao.length ac:=by
  rcases eM with e|⟨g,c,e⟩
  ·rcases h6.1.2 with ⟨_,h0⟩|⟨_,_,_,h0,_⟩
   ·omega
   ·rw[e]at h0;cases h0
  ·exact ⟨g,c,e⟩
 subst Eb;obtain ⟨np,nn,nc,rfl⟩:=zae hn;have c0:=Blk.cell ha 0;simp at c0;have HH:=zab h;have HA:=zab (And.intro (And.intro ha za) (And.intro (And.intro hc zc) (And.intro lq zn)));have H3:=zab h3;have H4:=zab h4;have H5:=zab h5;have H6:=zab h6;have HN:=zab hn;have H7:=zab h7;have H8:=zab h8;have BQ:=zab aX;have Ca:=zab aJ;have jP:=zab dh;have HW:=zab hW;have uf:=zab aH;clear h ha za hc zc lq zn h3 h4 h5 h6 hn h7 h8 aX aJ dh hW eM aH;go_enter func159,ntmps159
 go_wp2_with fail
 clear c0
 go_loopg [5,10] zao.length (fun gk v iv wr=>∃ (k:Nat) (Zk:Nat->Prop) (dM:Value) (bl:List (Nat × List Ins)) (lk:List (Nat × Nat × Nat)),iv=.int .i64 k/\k+gk=zao.length/\AS Z w wr cb bb rv sv kv v fns q k Zk dM bl lk /\
  Cp.armsOf (Cp.work (Cp.free N) fns n) names (zao.drop k) (ag.drop k) ⟨bl,q.zac,q.code⟩ lk=Cp.armsOf (Cp.work (Cp.free N) fns n) names zao ag q []/\bl.length+((ag.drop k).map fun d=>8*Cp.wt N d+1).sum<=1000000)
 case atStart=>
  exact ⟨0,Z,rv,q.blocks,[],rfl,by omega,⟨fun _ _=>zAz,HH.o,Fr.refl _ _,New.refl _ _,World.ownsRow_nil _ _ _ _,by simp[Value.ownBlock],rfl⟩,by simp,by simpa using jP.o⟩
 case round=>
  obtain ⟨k,Zk,dM,bl,lk,rfl,hk,hS,hE,hB⟩:=hrel;obtain ⟨va,vn,vc,rfl⟩:=zaF hS.row;have h0:=HH.o;have oT:=h0.box hS.f hS.z HA.o.2.1.1 HA.o.2.1.2;have uN:=h0.box hS.f hS.z HA.o.2.2.1 HA.o.2.2.2;have HS:=zab hS;by_cases aj:k<zao.length
  ·obtain ⟨a,ke⟩:∃ a,zao[k]?=some a:=⟨zao[k],zyM aj⟩;obtain ⟨p,hp⟩:∃ p,ag[k]?=some p:=⟨_,zyM (by rw[H3.o];exact aj)⟩;obtain ⟨pv,eD⟩:∃ nv,nvs[k]?=some nv:=⟨_,zyM (by rw[H4.o];exact aj)⟩;obtain ⟨bv,cC⟩:∃ bv,bvs[k]?=some bv:=⟨_,zyM (by rw[H5.o];exact aj)⟩;have hP:=h0.row hS.f hS.z (H7.o k a pv ke eD);have hR:=h0.rep hS.f hS.z (H8.o k bv p cC hp);have rH:=h0.row hS.f hS.z HN.o;obtain ⟨pp,pn,pc,rfl⟩:=zae hP;obtain ⟨bt,bx,rfl⟩:=zah hR;have aE:=zdx zao nvs bvs k a _ _ ke eD cC;have af:=(h0.row hS.f hS.z H6.o).1;have c0:=(af.cellAt (k*3) (by omega)).trans aE.1;have c1:=(af.cellAt (k*3+1) (by omega)).trans aE.2.1;have c2:=(af.cellAt (k*3+2) (by omega)).trans aE.2.2;have dF:(0:Int)<=(k:Int):=zzN _;have rA:zao.drop k=a::zao.drop (k+1):=by rw[zzs aj];rw[zyM aj]at ke;cases ke;rfl
   have jS:ag.drop k=p::ag.drop (k+1):=by
    have gu:k<ag.length:=by rw[H3.o];exact aj
    rw[zzs gu];rw[zyM gu]at hp;cases hp;rfl
   rw[jS,zza,zzd]at hB;obtain ⟨hF,zH⟩:=Ca.o k a p bl ke hp (by omega);have rX:(Cp.work (Cp.free N) fns n p 0 ⟨bl,(Th.texts a.2++names).reverse,[]⟩).blocks.length<=bl.length+8*Cp.wt N p:=BQ.o p ⟨bl,(Th.texts a.2++names).reverse,[]⟩ (zy1 hp);obtain ⟨qa,sW⟩:∃ qa,qa=Cp.work (Cp.free N) fns n p 0 ⟨bl,(Th.texts a.2++names).reverse,[]⟩:=⟨_,rfl⟩;obtain ⟨sl,aK⟩:∃ sl,sl=(Th.texts a.2++names).reverse:=⟨_,rfl⟩;rw[<-sW]at rX;rw[<-aK]at sW hF;have gO:Cp.armsOf (Cp.work (Cp.free N) fns n) names (zao.drop (k+1)) (ag.drop (k+1)) ⟨qa.blocks++[(sl.length,qa.code)],q.zac,q.code⟩ (lk++[(a.1,a.2.length,qa.blocks.length)])=Cp.armsOf (Cp.work (Cp.free N) fns n) names zao ag q []:=by
    rw[<-hE,rA,jS,Cp.armsOf,sW,aK];rfl
   have jh:(qa.blocks++[(sl.length,qa.code)]).length+((ag.drop (k+1)).map fun d=>8*Cp.wt N d+1).sum<=1000000:=by
    simp only[zyT,zy0];omega
   have f1:Fr (fun _=>False) wr (wr.alloc (.cells #[.int .i64 a.1,.slice pp pn pc,.iface bt bx] 240)):=(Fr.refl _ _).alloc _;have CA:=zab (zw6 (tag:=a.1) HW.o aK sW (hS.b.fr0 f1).cs (hR.fr0 f1) (Row.frc hP f1 (by simp)) (Row.frc rH f1 (by simp)) hF zH (by omega));have d0:=Blk.cell oT.1 0;have d1:=Blk.cell uN.1 0;have d2:(wr.alloc (.cells #[.int .i64 a.1,.slice pp pn pc,.iface bt bx] 240)).cell? ⟨bc,0,none⟩=some (.pointer (some ⟨cb,0,none⟩)):=Blk.cell (Blk.alloc oT.1 _) 0;have d3:(wr.alloc (.cells #[.int .i64 a.1,.slice pp pn pc,.iface bt bx] 240)).cell? ⟨bn,0,none⟩=some (.slice np nn nc):=Blk.cell (Blk.alloc uN.1 _) 0;simp at d0 d1;have fU:=zab (And.intro gO jh);have F1:=zab f1;clear hS hE hB oT uN hP hR rH aE af rA jS hF zH rX sW aK gO jh f1 h0 ke hp eD cC;go_wp2_with fail
   refine CA.o.mono ?_;rintro r w2 ⟨rfl,hd⟩;have ie:∀ j,(Value.slice va vn vc).ownBlock=some j->¬ (j=cb\/dM.ownBlock=some j):=by
    rintro j hj (e|e)
    ·have:=HS.o.row.lt j hj;have:=HH.o.clt;omega
    ·exact (HS.o.nz j hj).2 e
   have cT:w.heap.size<=w2.heap.size:=by
    obtain ⟨_,_,_,_,g1,_⟩:=hd;exact zyR HS.o.f.size (zyR F1.o.size g1.size)
   have jO:Hid ((w2.alloc (.cells #[.int .i64 a.1,.int .i64 a.2.length,.int .i64 qa.blocks.length] 290)).ownsRow w.heap.size 290 3 (.slice va vn vc) k (zbs lk)):=zab (by
    obtain ⟨_,_,_,_,g1,_⟩:=hd;have hw:=HS.o.row;refine ⟨hw.1,?_⟩;rcases hw.2 with e|⟨g,cap,cur,e,hg,hb,r⟩
    ·exact .inl e
    ·refine .inr ⟨g,cap,cur,e,hg,?_,r⟩;have fX:=(zyY.1 hb).1;rw[((Fr.refl (fun _=>False) w2).alloc _).block g (by have:=F1.o.size;have:=g1.size;omega) (by simp),g1.block g (by have:=F1.o.size;omega) (ie g (by rw[e];rfl)),F1.o.block g fX (by simp)];exact hb)
   have HD:=zab hd;have nS:k<=1000000:=by omega
   clear hd CA c0 c1 c2 d0 d1 d2 d3 ie;go_wp2_with (at_builtin;refine wpList_append_lies _ rfl _ _ _ rfl w.heap.size 290 i0 _ 3 24 underlying274 HI.o HZ.o.1 HZ.o.2.1 HZ.o.2.2 rfl (by omega) _ k (zbs lk) rfl jO.o ⟨w2.heap.size,0,none⟩ 1 1 [.int .i64 a.1,.int .i64 a.2.length,.int .i64 qa.blocks.length] rfl rfl (World.news_of_block (cs:=#[.int .i64 a.1,.int .i64 a.2.length,.int .i64 qa.blocks.length]) (t:=290) (fr:=(0,0)) (heap_alloc_new w2 _)) (by simp[Value.oneCell']) (by omega) (by unfold maxLen;omega) (by omega) (by simp;omega) (w2.heap.size+1) (by simp) ?_;intro g cap w3 ai ah aV sG)
   obtain ⟨Z',aO,hA⟩:=AS.next (a:=(a.1,a.2.length,qa.blocks.length)) HH.o HS.o F1.o HD.o ((Fr.refl (fun _=>False) w2).alloc _) ai ah (by rcases aV with e|e;exact .inl e;exact .inr (by rw[World.size_alloc];exact e));have BA:=zab hA;clear hA ai ah aV sG
   go_roundg (zao.length-(k+1))
   case measure=>omega
   case rel=>exact ⟨k+1,Z',aO,_,_,by go_num,by omega,BA.o,fU.o.1,fU.o.2⟩
  ·have aG:k=zao.length:=by omega
   have gO:Cp.armsOf (Cp.work (Cp.free N) fns n) names zao ag q []=(⟨bl,q.zac,q.code⟩,lk):=by
    rw[<-hE,aG,List.drop_length,Cp.armsOf];simp
   have mO:lk≠[]:=fun e=>by have:=hS.len;rw[e]at this;simp at this;omega
   have hw:=hS.row;have iD:=hS.b.more (A:=fun j=>(Value.slice va vn vc).ownBlock=some j) (fun j hj=>by
    have hl:=hw.lt j hj;refine ⟨hl.2,?_⟩;have h1:=HH.o.clt;have h2:=HH.o.slt;have h3:=HH.o.klt;have h4:=HH.o.zbY.lt;rintro (e|e|e|e|e)
    ·omega
    ·omega
    ·exact (hS.nz j hj).2 e
    ·have:=h2 j e;omega
    ·have:=h3 j e;omega)
   have CW:=zab (zbS (i:=.choose lk) (v:=.iface 276 (.agg #[.slice va vn vc])) iD ⟨_,rfl,⟨by have:=za0 hw (zy5 _);rwa [<-hS.len]at this,fun j hj=>.inr hj⟩,mO⟩ (by simp;omega));have fU:=zab gO;have kk:∀ j,j<w.heap.size->((Zk j\/(Value.slice va vn vc).ownBlock=some j)↔Z j):=fun j hj=>by
    rw[<-hS.z j hj];constructor
    ·rintro (e|e)
     ·exact e
     ·have:=hw.lt j e;omega
    ·exact .inl
   have X1:=zab (And.intro kk (And.intro hS.f hS.n));clear hS hE hB gO mO hw iD kk h0 oT uN aG;go_wp2_with fail
   refine CW.o.mono ?_;rintro r w2 ⟨rfl,hd⟩;have HD:=zab hd;clear hd CW;go_wp2_with fail
   first|go_end0|refine bodyPost_ret (results_none rfl _ _ _) rfl ?_
   refine ⟨rfl,?_⟩;rw[fU.o];exact Did.trans X1.o.1 X1.o.2.1 X1.o.2.2 (New.refl _ _) (New.refl _ _) HD.o
theorem zu7(hW:zbi M N n){av:Value}{zao:List (Nat × List Th.Tok)}{ag:List Th.Ex}{nvs bvs:List Value}(aK:sl=([]::names).reverse)(hq:q=(Cp.armsOf (Cp.work (Cp.free N) fns n) names zao ag ⟨bl,sl,[]⟩ []).1.write (.choose (Cp.armsOf (Cp.work (Cp.free N) fns n) names zao ag ⟨bl,sl,[]⟩ []).2))(h:CS Z w cb rv fns bl)(h3:ag.length=zao.length)(h4:nvs.length=zao.length)(h5:bvs.length=zao.length)(h6:Row Z w 240 3 av zao.length (za7 zao nvs bvs))(hn:Row Z w 9 1 nv names.length (strCells names))(h7:∀ (i:Nat) (a:Nat × List Th.Tok) (nv:Value),zao[i]?=some a->nvs[i]?=some nv->Row Z w 88 2 nv a.2.length (zaj a.2))(h8:∀ (i:Nat) (bv:Value) (p:Th.Ex),bvs[i]?=some bv->ag[i]?=some p->Rep Z w n bv p)(aH:zao≠[])(aX:∀ d q,d∈ag->(Cp.work (Cp.free N) fns n d 0 q).blocks.length<=q.blocks.length+8*Cp.wt N d)(aJ:∀ (i:Nat) (a:Nat × List Th.Tok) (d:Th.Ex) (b:List (Nat × List Ins)),zao[i]?=some a->ag[i]?=some d->b.length+8*Cp.wt N d<=1000000->Fit M N fns ⟨b,(Th.texts a.2++names).reverse,[]⟩ d/\names.length+a.2.length<=1000000)(dh:bl.length+(ag.map fun d=>8*Cp.wt N d+1).sum<=1000000)(aU:zao.length<=1000000)(ev:names.length<=100000)(hl:q.blocks.length<=1000000000):
  Calls prog 93 #[.pointer (some ⟨cb,0,none⟩),av,nv] w fun r w'=>r=.returned (.int .i64 q.blocks.length)/\zfH Z w cb rv fns (q.blocks++[(sl.length,q.code)]) w':=by
 have mc:∀ (fn:Fn) (first cap:Array Value) (w:World),(Instr.makeFunc fn first cap).run prog w=.ok (.func fn first cap) w:=fun _ _ _ _=>rfl
 obtain ⟨aa,an,ac,rfl⟩:=zae h6;obtain ⟨np,nn,nc,rfl⟩:=zae hn;have f0:Fr (fun _=>False) w (((w.alloc (.cells #[.pointer (some ⟨cb,0,none⟩)] 83)).alloc (.cells #[.slice aa an ac] 171)).alloc (.cells #[.slice np nn nc] 38)):=(((Fr.refl _ _).alloc _).alloc _).alloc _;have kM:=Blk.alloc (Blk.alloc (Blk.new w [.pointer (some ⟨cb,0,none⟩)] 83) (.cells #[.slice aa an ac] 171)) (.cells #[.slice np nn nc] 38);have oP:=Blk.alloc (Blk.new (w.alloc (.cells #[.pointer (some ⟨cb,0,none⟩)] 83)) [.slice aa an ac] 171) (.cells #[.slice np nn nc] 38);have xd:=Blk.new ((w.alloc (.cells #[.pointer (some ⟨cb,0,none⟩)] 83)).alloc (.cells #[.slice aa an ac] 171)) [.slice np nn nc] 38;rw[World.size_alloc]at oP;rw[World.size_alloc,World.size_alloc]at xd;have eR:=zab kM;have pM:=zab oP;have hU:Hid (Blk (((w.alloc (.cells #[.pointer (some ⟨cb,0,none⟩)] 83)).alloc (.cells #[.slice aa an ac] 171)).alloc (.cells #[.slice np nn nc] 38)) (w.heap.size+2) [.slice np nn nc] 38):=zab xd;have F0:=zab f0;have HN:=zab hn;have HH:=zab (And.intro h hl);have HR:=zab (And.intro h3 (And.intro h4 (And.intro h5 (And.intro h6 (And.intro h7 h8)))));have HK:=zab (And.intro aH (And.intro aX (And.intro aJ dh)));have iw:=zab (And.intro aK hq);have HW:=zab hW;clear hW h hn hl kM oP xd f0 aK hq h3 h4 h5 h6 h7 h8 aH aX aJ dh;go_enter func93,ntmps93
 go_wp2_with fail
 generalize ((w.alloc (.cells #[.pointer (some ⟨cb,0,none⟩)] 83)).alloc (.cells #[.slice aa an ac] 171)).alloc (.cells #[.slice np nn nc] 38)=w0 at eR pM hU F0 ⊢;have GV:w0.cell? ⟨w.heap.size,0,none⟩=some (.pointer (some ⟨cb,0,none⟩)):=Blk.cell eR.o 0;have GW:w0.cell? ⟨w.heap.size+2,0,none⟩=some (.slice np nn nc):=Blk.cell hU.o 0;have AA:Hid (∀ (W:World) (sp:Option Addr) (sn sc:Nat),Fr (fun _=>False) w0 W->Names w0.heap.size W (.slice sp sn sc) sl->Calls prog 154 #[.pointer (some ⟨cb,0,none⟩),.slice sp sn sc,.func (.func 159) #[] #[.pointer (some ⟨w.heap.size+1,0,none⟩),.pointer (some ⟨w.heap.size,0,none⟩),.pointer (some ⟨w.heap.size+2,0,none⟩)]] W fun r w'=>r=.returned (.int .i64 q.blocks.length)/\zfH Z w cb rv fns (q.blocks++[(sl.length,q.code)]) w'/\w'.cell? ⟨w.heap.size,0,none⟩=some (.pointer (some ⟨cb,0,none⟩))/\w'.cell? ⟨w.heap.size+2,0,none⟩=some (.slice np nn nc)):=zab (by
  intro W sp sn sc f2 bA;obtain ⟨h,hl⟩:=HH.o;obtain ⟨h3,h4,h5,h6,h7,h8⟩:=HR.o;obtain ⟨aH,aX,aJ,dh⟩:=HK.o;have f3:=F0.o.trans f2;have bq:=hU.o.lt;have bK:∀ k,(Value.slice sp sn sc).ownBlock=some k->w.heap.size+3<=k:=fun k hk=>by have:=bA.2 k hk;omega
  have hA:∀ k,(k=w.heap.size\/k=w.heap.size+1\/k=w.heap.size+2)->k<W.heap.size/\k≠cb/\rv.ownBlock≠some k:=fun k hk=>⟨by have:=f2.size;omega,by have:=h.clt;omega,fun e=>by have:=h.rlt k e;omega⟩
  have uB:=(h.fr0 f3).more hA;refine (zgi (q:=q) zxj uB (za0 bA.1 (zy5 _)) (fun k hk=>⟨by have:=h.clt;have:=bK k hk;omega,fun e=>by have:=h.rlt k e;have:=bK k hk;omega,fun e=>by
    have:=bK k hk;rcases e with e|e
    ·have:=h.zlt k e;omega
    ·omega⟩) (fun W' bb bQ hb=>?_) hl).mono ?_
  ·rw[iw.o.2];have f4:=f3.trans bQ;refine zsx HW.o hb (Fr.blk (Fr.blk pM.o f2 (by simp)) bQ (by simp)) (.inr (.inr (.inl rfl))) (Fr.blk (Fr.blk eR.o f2 (by simp)) bQ (by simp)) (.inr (.inl rfl)) (Fr.blk (Fr.blk hU.o f2 (by simp)) bQ (by simp)) (.inr (.inr (.inr rfl))) h3 h4 h5 ((Row.frc h6 f4 (by simp)).mono (fun k _ hk=>.inl hk)) ((Row.frc HN.o f4 (by simp)).mono (fun k _ hk=>.inl hk)) (fun i a nv hi hv=>(Row.frc (h7 i a nv hi hv) f4 (by simp)).mono (fun k _ hk=>.inl hk)) (fun i bv p hi hp=>((h8 i bv p hi hp).fr0 f4).mono (fun k _ hk=>.inl hk)) aH aX aJ dh (by simp) aU
  ·rintro r w6 ⟨rfl,Z',aO,z1,hc,f6,n6⟩;refine ⟨rfl,zqn f3 (fun k hk=>by have:=bK k hk;omega) (fun k hk=>?_) hc f6 n6,?_,?_⟩
   ·rw[z1 k (zyS hk f3.size)];constructor
    ·rintro (e|e)
     ·exact e
     ·omega
    ·exact .inl
   ·refine Blk.cell (Fr.blk (Fr.blk eR.o f2 (by simp)) f6 ?_) 0;rintro (e|e|e)
    ·have:=h.clt;omega
    ·have:=h.rlt _ e;omega
    ·have:=bK _ e;omega
   ·refine Blk.cell (Fr.blk (Fr.blk hU.o f2 (by simp)) f6 ?_) 0;rintro (e|e|e)
    ·have:=h.clt;omega
    ·have:=h.rlt _ e;omega
    ·have:=bK _ e;omega)
 go_region_held3 (fun W=>W.cell? ⟨w.heap.size,0,none⟩=some (.pointer (some ⟨cb,0,none⟩))/\W.cell? ⟨w.heap.size+2,0,none⟩=some (.slice np nn nc)) (first|(refine ⟨?_,?_⟩ <;> assumption)|go_keep) (first
  |(go_at_call 155;refine (zdV _).mono ?_;rintro e wA ⟨rfl,pj⟩;have FA:Hid (Fr (fun _=>False) w0 wA):=zab (by rw[pj];exact ((Fr.refl _ _).drew).alloc _);have A1:Hid (Blk wA w0.heap.size [.string ⟨#[]⟩] 9):=zab (by rw[pj];exact Blk.new w0.drew [.string ⟨#[]⟩] 9);clear pj;have GX:wA.cell? ⟨w.heap.size,0,none⟩=some (.pointer (some ⟨cb,0,none⟩)):=Blk.cell (Fr.blk eR.o FA.o (by simp)) 0;have GY:wA.cell? ⟨w.heap.size+2,0,none⟩=some (.slice np nn nc):=Blk.cell (Fr.blk hU.o FA.o (by simp)) 0;
    have G5:(wA.alloc (.cells #[.slice (some ⟨w0.heap.size,0,none⟩) 1 1,.slice np nn nc] 38)).cell? ⟨w.heap.size,0,none⟩=some (.pointer (some ⟨cb,0,none⟩)):=Blk.cell (Blk.alloc (Fr.blk eR.o FA.o (by simp)) _) 0;have G6:(wA.alloc (.cells #[.slice (some ⟨w0.heap.size,0,none⟩) 1 1,.slice np nn nc] 38)).cell? ⟨w.heap.size+2,0,none⟩=some (.slice np nn nc):=Blk.cell (Blk.alloc (Fr.blk hU.o FA.o (by simp)) _) 0)
  |(go_at_call 51;have f11:Fr (fun _=>False) wA (wA.alloc (.cells #[.slice (some ⟨w0.heap.size,0,none⟩) 1 1,.slice np nn nc] 38)):=(Fr.refl _ _).alloc _;refine (zdR (Blk.new wA [.slice (some ⟨w0.heap.size,0,none⟩) 1 1,.slice np nn nc] 38) (ztH (Fr.blk A1.o f11 (by simp))) (Row.frc HN.o (F0.o.trans (FA.o.trans f11)) (by simp)) (by simp;omega)).mono ?_;rintro r w2 ⟨sv,rfl,bA,f2⟩;have lF:Names _ w2 sv sl:=iw.o.1 ▸ bA;obtain ⟨sp,sn,sc,rfl⟩:=zae bA;have F2:=zab (FA.o.trans (f11.trans f2));have um:=zab lF;have mo:=zab (zyR FA.o.size f11.size);clear bA lF f2 f11;have GZ:w2.cell? ⟨w.heap.size,0,none⟩=some (.pointer (some ⟨cb,0,none⟩)):=Blk.cell (Fr.blk eR.o F2.o (by simp)) 0;have G4:w2.cell? ⟨w.heap.size+2,0,none⟩=some (.slice np nn nc):=Blk.cell (Fr.blk hU.o F2.o (by simp)) 0)
  |(go_at_call 154;refine (AA.o _ _ _ _ F2.o (um.o.dwn mo.o)).mono ?_;rintro r w6 ⟨rfl,hd,G7,G8⟩;have HD:=zab hd;clear hd))
 all_goals
  go_wp2_with fail
  go_ret
  exact ⟨rfl,HD.o⟩
theorem zvG:(prog.info? 91).map (fun i=>(i.zero,i.size,i.bytes))=some (some .nilIface,1,16):=by kernel_rfl
def Exs (Z:Nat->Prop) (w:World) (n:Nat) (fH:List Value) (es:List Th.Ex):Prop:=fH.length=es.length/\∀ (i:Nat) (v:Value) (e:Th.Ex),fH[i]?=some v->es[i]?=some e->Rep Z w n v e
variable {es:List Th.Ex}
theorem Exs.snoc{fH:List Value}(h:Exs Z w n fH es)(hr:Rep Z w n v e):Exs Z w n (fH++[v]) (es++[e]):=by
 refine ⟨by simp[h.1],fun i u x hu hx=>?_⟩;rw[zzj]at hu hx;by_cases hj:i<es.length
 ·rw[if_pos (by rw[h.1];exact hj)]at hu;rw[if_pos hj]at hx;exact h.2 i u x hu hx
 ·rw[if_neg (by rw[h.1];exact hj),h.1]at hu;rw[if_neg hj]at hx;have h1:i-es.length=0:=by
   have:=(zyL.1 hx).1;simp at this;omega
  rw[h1]at hu hx;simp only[zzl,zyP]at hu hx;rw[<-hu,<-hx];exact hr
def Spr (Z:Nat->Prop) (w:World) (n:Nat) (fe:Th.Ex) (es:List Th.Ex) (r:Ending) (w':World):Prop:=
 ∃ fv av fH,r=.returned (.tuple #[fv,av])/\Rep Z w n fv fe/\w'.ownsRow w.heap.size 91 1 av es.length fH/\Exs Z w n fH es/\Fr (fun _=>False) w w'
theorem zHk(i0:TN t1 163 (.agg #[.nilIface,.nilIface])){v2:Value}{e1 e2:Th.Ex}(h1:Rep Z w n (.iface t1 x1) e1)(h2:Rep Z w n v2 e2):
  Calls prog 143 #[.agg #[.iface t1 x1,v2]] w (Spr Z w n e1 [e2]):=by
 obtain ⟨t2,x2,rfl⟩:=zah h2;have B0:=zab (Blk.alloc (Blk.new w [.iface t1 x1,.iface t2 x2] 163) (.cells #[.nilIface,.nilIface] 163));have F0:Hid (Fr (fun _=>False) w ((w.alloc (.cells #[.iface t1 x1,.iface t2 x2] 163)).alloc (.cells #[.nilIface,.nilIface] 163))):=zab (((Fr.refl _ _).alloc _).alloc _);have HH:=zab (And.intro h1 h2);clear h1 h2;go_enter func143,ntmps143
 go_wp2_with fail
 generalize (w.alloc (.cells #[.iface t1 x1,.iface t2 x2] 163)).alloc (.cells #[.nilIface,.nilIface] 163)=w1 at B0 F0 ⊢;have q0:=Blk.cell B0.o 0;have q1:=Blk.cell B0.o 1;simp at q0 q1;have q2:(w1.alloc (.cells #[.iface t2 x2] 91)).cell? ⟨w.heap.size,0,none⟩=some (.iface t1 x1):=Blk.cell (Blk.alloc B0.o _) 0;have q3:(w1.alloc (.cells #[.iface t2 x2] 91)).cell? ⟨w.heap.size,1,none⟩=some (.iface t2 x2):=Blk.cell (Blk.alloc B0.o _) 1;clear i0
 go_region
 all_goals
  go_wp2_with fail
  refine bodyPost_ret (results_tmp2 rfl _ _ _) rfl ?_;refine ⟨_,_,[.iface t2 x2],rfl,HH.o.1,?_,⟨rfl,fun i v e hv he=>?_⟩,(F0.o.alloc _).drew⟩
  ·exact ⟨rfl,.inr ⟨w1.heap.size,1,#[.iface t2 x2],rfl,F0.o.size,heap_alloc_new w1 _,zyN _,by unfold maxLen;omega,rfl,rfl⟩⟩
  ·cases i with
   |zero=>simp at hv he;rw[<-hv,<-he];exact HH.o.2
   |succ i=>simp at hv
theorem zpT{t2:TypeId}{x2 v2:Value}{e2 fe:Th.Ex}(h2:Rep Z w n v2 e2)(xx:es.length<=1000000)(hc:∀ W,Fr (fun _=>False) w W->Calls prog 143 #[.agg #[.iface t1 x1,.iface t2 x2]] W (Spr Z W n fe es))(uI:∀ W fv,Fr (fun _=>False) w W->Rep Z W n fv fe->Rep Z w n fv fe)(r7:∀ W fH,Fr (fun _=>False) w W->Exs Z W n fH es->Exs Z w n fH es):
  Calls prog 143 #[.agg #[.iface 163 (.agg #[.iface t1 x1,.iface t2 x2]),v2]] w (Spr Z w n fe (es++[e2])):=by
 obtain ⟨i0,-⟩:=zG1;obtain ⟨i1,dt,bq,aP,bF⟩:=info_parts zvG;have HI:=zab dt;clear dt;have HZ:=zab (And.intro bq (And.intro aP bF));clear bq aP bF;obtain ⟨t3,x3,rfl⟩:=zah h2;have B0:=zab (Blk.alloc (Blk.new w [.iface 163 (.agg #[.iface t1 x1,.iface t2 x2]),.iface t3 x3] 163) (.cells #[.iface t1 x1,.iface t2 x2] 163));have f0:Fr (fun _=>False) w ((w.alloc (.cells #[.iface 163 (.agg #[.iface t1 x1,.iface t2 x2]),.iface t3 x3] 163)).alloc (.cells #[.iface t1 x1,.iface t2 x2] 163)):=((Fr.refl _ _).alloc _).alloc _;have CC:=zab (hc _ f0);have F0:=zab f0;have HH:=zab (And.intro h2 (And.intro uI r7));clear h2 hc f0 uI r7;go_enter func143,ntmps143
 go_wp2_with fail
 refine CC.o.mono ?_;rintro r w2 ⟨fv,av,fH,rfl,bI,af,hx,f2⟩;obtain ⟨ft,fx,rfl⟩:=zah bI;obtain ⟨aa,an,ac,rfl⟩:=zaF af;have q1:w2.cell? ⟨w.heap.size,1,none⟩=some (.iface t3 x3):=Blk.cell (Fr.blk B0.o f2 (by simp)) 1;have F2:=zab (F0.o.trans f2);have nY:=za0 af F0.o.size;have jO:Hid ((w2.alloc (.cells #[.iface t3 x3] 91)).ownsRow w.heap.size 91 1 (.slice aa an ac) es.length fH):=zab (nY.alloc _);have HX:=zab (And.intro bI hx);have cT:=F2.o.size;have HL:Hid (fH.length=es.length):=zab hx.1;clear CC bI af hx f2 nY i0;go_wp2_with (at_builtin;refine wpList_append_lies _ rfl _ _ _ rfl w.heap.size 91 i1 _ 1 16 underlying278 HI.o HZ.o.1 HZ.o.2.1 HZ.o.2.2 rfl (by omega) _ es.length fH rfl jO.o ⟨w2.heap.size,0,none⟩ 1 1 [.iface t3 x3] rfl rfl (World.news_of_block (cs:=#[.iface t3 x3]) (t:=91) (fr:=(0,0)) (heap_alloc_new w2 _)) (by simp[Value.oneCell']) (by omega) (by unfold maxLen;omega) (by omega) (by simp;omega) (w2.heap.size+1) (by simp) ?_;intro g cap w3 ai ah aV sG)
 refine bodyPost_ret (results_tmp2 rfl _ _ _) rfl ?_;refine ⟨_,_,fH++[.iface t3 x3],rfl,HH.o.2.1 _ _ F0.o HX.o.1,by simpa using ai,(HH.o.2.2 _ _ F0.o HX.o.2).snoc HH.o.1,?_⟩;have f3:Fr (fun _=>False) w (w2.alloc (.cells #[.iface t3 x3] 91)):=F2.o.alloc _;refine f3.zjj ah (fun k hk e=>?_);have:=(jO.o.lt k e).1;omega
end Go.Proofs.YtgahgkddaljmkaaGreatDoor
namespace Go.Proofs.YtgahgkddaljmkaaGreatDoor
open Tryz
open Go.RowKit Go.Shelf
variable {Z:Nat->Prop}{w W:World}{n:Nat}{v:Value}
theorem Row.back{e:TypeId}{size:Nat}{xs:List Value}(zl:∀ k,Z k->k<w.heap.size)(f:Fr (fun _=>False) w W)(h:Row Z W e size v n xs):Row Z w e size v n xs:=by
 obtain ⟨⟨h1,h2⟩,h3⟩:=h;refine ⟨⟨h1,?_⟩,h3⟩;rcases h2 with h2|⟨g,cap,cur,hv,hg,hb,r⟩
 ·exact .inl h2
 ·refine .inr ⟨g,cap,cur,hv,hg,?_,r⟩;rw[<-f.block g (zl g (h3 g (by rw[hv];rfl))) (by simp)];exact hb
theorem Rep.back{Z:Nat->Prop}{w W:World}{n:Nat}{v:Value}{e:Th.Ex}(zl:∀ k,Z k->k<w.heap.size)(f:Fr (fun _=>False) w W)(h:Rep Z W n v e):Rep Z w n v e:=
 Rep.imp (fun _ _ _ _ _ hR=>Row.back zl f hR) n v e h
def Cp.spr:Nat->Th.Ex->Th.Ex->Th.Ex × List Th.Ex
 |0,f,a=>(f,[a])
 |m+1,f,a=>
  if f.kind=5 then (match f.kids with|[g,b]=>((Cp.spr m g b).1,(Cp.spr m g b).2++[a])|_=>(f,[a])) else (f,[a])
theorem Cp.zuw:∀ (m:Nat) (f a:Th.Ex),(Cp.spr m f a).2.length<=m+1
 |0,f,a=>by simp[Cp.spr]
 |m+1,f,a=>by
  rw[Cp.spr];split
  ·split
   ·next g b hk=>
    have:=Cp.zuw m g b;simp;omega
   ·simp
  ·simp
theorem zlS{Z:Nat->Prop}{n:Nat}(hn:n<=100000):∀ (m:Nat),m<=n->∀ {w:World} {v1 v2:Value} {e1 e2:Th.Ex},(∀ k,Z k->k<w.heap.size)->Rep Z w m v1 e1->Rep Z w n v2 e2 ->
  Calls prog 143 #[.agg #[v1,v2]] w (Spr Z w n (Cp.spr m e1 e2).1 (Cp.spr m e1 e2).2)
 |0,_,_,_,_,_,_,_,h,_=>h.elim
 |m+1,hm,w,v1,v2,e1,e2,zl,h1,h2=>by
  have iB:=h1.le hm;have eB:e1.kind≠5->Cp.spr (m+1) e1 e2=(e1,[e2]):=fun hk=>by rw[Cp.spr,if_neg hk]
  rcases h1 with ⟨hk,rfl⟩|⟨hk,rfl⟩|⟨hk,rfl⟩|⟨hk,sv,bv,b,k1,rfl,k3,k4⟩|⟨hk,u1,u2,d1,d2,k1,rfl,k3,k4⟩|⟨hk,u1,u2,d1,d2,k1,rfl,k3,k4⟩|⟨hk,sv,bv,b,parts,pvs,k1,rfl,k3,k4,k5,k6,k7⟩|⟨hk,cv,sv,b,ag,nvs,bvs,k1,rfl,k3,k4,k5,k6,k7,k8,k9⟩
  ·rw[eB (by omega)];obtain ⟨-,-,-,i0,-⟩:=zGX;exact zHk i0 iB h2
  ·rw[eB (by omega)];obtain ⟨-,-,-,i0,-⟩:=zG6;exact zHk i0 iB h2
  ·rw[eB (by omega)];obtain ⟨-,-,-,i0,-⟩:=zGY;exact zHk i0 iB h2
  ·rw[eB (by omega)];obtain ⟨-,-,-,-,i0,-⟩:=zGW;exact zHk i0 iB h2
  ·obtain ⟨t1,x1,rfl⟩:=zah k3;obtain ⟨t2,x2,rfl⟩:=zah k4;have hE:Cp.spr (m+1) e1 e2=((Cp.spr m d1 d2).1,(Cp.spr m d1 d2).2++[e2]):=by rw[Cp.spr,if_pos hk,k1]
   rw[hE];have hlen:=Cp.zuw m d1 d2;refine zpT h2 (by omega) (fun W hW=>?_) (fun W fv hW hr=>hr.back zl hW) (fun W fH hW hx=>⟨hx.1,fun i v e a b=>(hx.2 i v e a b).back zl hW⟩);exact zlS hn m (by omega) (fun k hk=>zyS (zl k hk) hW.size) (k3.fr0 hW) ((k4.fr0 hW).le (by omega))
  ·rw[eB (by omega)];obtain ⟨-,-,-,-,i0,-⟩:=zGV;exact zHk i0 iB h2
  ·rw[eB (by omega)];obtain ⟨-,-,-,-,i0,-⟩:=zG5;exact zHk i0 iB h2
  ·rw[eB (by omega)];obtain ⟨-,-,-,-,i0,-⟩:=zG2;exact zHk i0 iB h2
theorem Cp.zom{Z:Nat->Prop}{w:World}:∀ (m:Nat) (e f a:Th.Ex) (v:Value),e.kids=[f,a]->Rep Z w m v f->Cp.spread (m+1) e=Cp.spr m f a
 |0,_,_,_,_,_,h=>h.elim
 |m+1,e,f,a,v,hk,h=>by
  rw[Cp.spread,hk,Cp.spr];by_cases h5:f.kind=5
  ·rcases h with ⟨hk,_⟩|⟨hk,_⟩|⟨hk,_⟩|⟨hk,_⟩|⟨hk,u1,u2,d1,d2,k1,rfl,k3,k4⟩|⟨hk,_⟩|⟨hk,_⟩|⟨hk,_⟩
   all_goals first|omega|skip
   have ih:=Cp.zom m f d1 d2 u1 k1 k3;simp only[h5,if_true,k1];rw[ih]
  ·simp only[if_neg h5]
end Go.Proofs.YtgahgkddaljmkaaGreatDoor
namespace Go.Proofs.YtgahgkddaljmkaaGreatDoor
open Tryz
open Go.RowKit Go.Shelf
attribute [local go_sem ↓] Go.wp_at_zero Go.wp_at_succ
attribute [local go_sem] Oper.semAt_some
variable {M N n:Nat}{Z:Nat->Prop}{w:World}{cb bb:Nat}{rv sv kv:Value}{t1:TypeId}{x1:Value}{fns:List Cp.Nm}{q:Cp.Bs}{es:List Th.Ex}
theorem zsK(hW:zbi M N n){below:Nat}{t2:TypeId}{x2:Value}{fe:Th.Ex}{ho:Cp.Bs->Th.Ex->Cp.Bs}(h:BS Z w cb bb rv sv kv fns q)(eB:∀ W,Fr (fun _=>False) w W->Calls prog 143 #[.agg #[.iface t1 x1,.iface t2 x2]] W (Spr Z W n fe es))(su:∀ (i:Nat) (e:Th.Ex) (Z1:Nat->Prop) (W:World) (bh bf cA v:Value),es[es.length-(i+1)]?=some e->i<es.length->BS Z1 W cb bb bh bf cA fns ((es.drop (es.length-i)).reverse.foldl ho q)->Rep Z1 W n v e ->
   Calls prog 95 #[.pointer (some ⟨bb,0,none⟩),v] W fun r w'=>r=.returned (.tuple #[])/\Did Z1 W cb bb bh bf cA fns (ho ((es.drop (es.length-i)).reverse.foldl ho q) e) w')(xx:es.length<=1000000)(aL:(es.reverse.foldl ho q).code.length<=1000000000)(aC:(es.reverse.foldl ho q).zac.length<=1000000000)(hf:Fit M N fns ((es.reverse.foldl ho q).push (.zbF es.length)) fe)(hb:below+es.length+1+(M+8)*Cp.wt N fe<=1000000000):
  Calls prog 87 #[.pointer (some ⟨bb,0,none⟩),.agg #[.iface t1 x1,.iface t2 x2],.int .i64 below] w fun r w'=>r=.returned (.tuple #[])/\Did Z w cb bb rv sv kv fns (Cp.work (Cp.free N) fns n fe (below+es.length+1) ((es.reverse.foldl ho q).push (.zbF es.length))) w':=by
 have f0:Fr (fun _=>False) w ((w.alloc (.cells #[.pointer (some ⟨bb,0,none⟩)] 100)).alloc (.cells #[.iface t1 x1,.iface t2 x2] 163)):=((Fr.refl _ _).alloc _).alloc _;have yJ:=zab (eB _ f0);have BX:=zab (Blk.alloc (Blk.new w [.pointer (some ⟨bb,0,none⟩)] 100) (.cells #[.iface t1 x1,.iface t2 x2] 163));have F0:=zab f0;have HE:=zab (enters_of (P:=prog) func210 (by kernel_rfl) rfl);have HH:=zab h;have HW:=zab hW;have vE:=zab su;have HF:=zab (And.intro hf hb);have iC:below+es.length+1<=1000000000:=by omega
 have cV:=h.zbY.lt;obtain ⟨q2,bC⟩:∃ q2,q2=es.reverse.foldl ho q:=⟨_,rfl⟩;have oD:=zab bC;rw[<-bC]at aL aC HF ⊢;clear h hW su hf hb eB f0 bC;refine callsIn_wide.1 (callsIn_of_wp_marks (n:=5) func87 rfl trivial (wpIn_wide.2 ?_) rfl);simp only[ntmps87,zzr,zy8,zzm,Nat.reduceAdd,Nat.reduceSub,zzB,zzC,zzH,zzE,zzb,zy7];obtain ⟨Q,hQ⟩:∃ Q,bodyPostM Fence.wide 5 prog Tryz.f87 (fun r w'=>r=.returned (.tuple #[])/\Did Z w cb bb rv sv kv fns (Cp.work (Cp.free N) fns n fe (below+es.length+1) (q2.push (.zbF es.length))) w')=Q:=⟨_,rfl⟩;have HQ:=zab hQ;rw[hQ];clear hQ;go_wp2_with fail
 refine yJ.o.mono ?_;rintro r w1 ⟨fv,av,fH,rfl,bI,af,hx,f1⟩;obtain ⟨ft,fx,rfl⟩:=zah bI;obtain ⟨sp,cap,g,ay,dk,mX,jr,aN⟩:=zaO (za0 af (zy5 _));subst ay;have F1:=zab (F0.o.trans f1);have Bl:=zab (Fr.blk BX.o f1 (by simp));have uK:0<es.length->w.heap.size<=g/\g<w1.heap.size:=fun h0=>by
  have:=af.lt g (jr h0);have:=F0.o.size;omega
 have qm:=zab aN;have uc:=zab uK;have vC:=zab (And.intro (bI.fr0 f1) (And.intro hx.1 (fun i v e a b=>(hx.2 i v e a b).fr0 f1)));have Cq:=zab jr;clear bI af hx f1 aN uK yJ BX jr;go_wp2_with fail
 refine (zsD sp es.length cap _).mono ?_;rintro e w2 ⟨rfl,aB⟩;have F2:Hid (Fr (fun _=>False) w1 w2):=zab (by rw[aB];exact (Fr.refl _ _).alloc _);have qh:Hid (Blk w2 w.heap.size [.pointer (some ⟨bb,0,none⟩)] 100):=zab (Fr.blk Bl.o F2.o (by simp));have uX:Hid (Blk w2 w1.heap.size [.slice sp es.length cap] 278):=zab (by rw[aB];exact Blk.new w1 [.slice sp es.length cap] 278);have mB:Hid (w2.heap.size=w1.heap.size+1):=zab (by rw[aB];simp);have aW:=F1.o.size;clear aB;have Gq:Hid (0<es.length->∀ k,(Value.slice sp es.length cap).ownBlock=some k->k=g):=zab (fun h0 k hk=>by rw[Cq.o h0]at hk;simpa using hk.symm);obtain ⟨Z1,jU⟩:∃ Z1:Nat->Prop,∀ k,Z1 k↔(Z k\/(0<es.length/\k=g)):=⟨_,fun _=>zAz⟩;have ur:=zab jU;clear jU;have ga:Hid (∀ k,w.heap.size<=k->¬ KL cb bb rv sv kv k):=zab (fun k hk he=>by
  have h:=HH.o;rcases he with e|e|e|e|e
  ·have:=h.clt;omega
  ·omega
  ·have:=h.rlt k e;omega
  ·have:=h.slt k e;omega
  ·have:=h.klt k e;omega)
 have gA:Hid (BS Z1 w2 cb bb rv sv kv fns q):=zab (by
  have:=(HH.o.fr0 (F1.o.trans F2.o)).more (A:=fun k=>0<es.length/\k=g) (fun k hk=>⟨by have:=uc.o hk.1;have:=F2.o.size;omega,ga.o k (by have:=uc.o hk.1;omega)⟩);have he:Z1=fun k=>Z k\/(0<es.length/\k=g):=funext (fun k=>propext (ur.o k))
  rw[he];exact this)
 have ow:Hid (Rep Z1 w2 n (.iface ft fx) fe/\fH.length=es.length/\∀ (i:Nat) (v:Value) (e:Th.Ex),fH[i]?=some v->es[i]?=some e->Rep Z1 w2 n v e):=zab ⟨(vC.o.1.fr0 F2.o).mono (fun k _ hk=>(ur.o k).2 (.inl hk)),vC.o.2.1,fun i v e a b=>((vC.o.2.2 i v e a b).fr0 F2.o).mono (fun k _ hk=>(ur.o k).2 (.inl hk))⟩;go_wp2_with fail
 have dJ:fH.length=es.length:=ow.o.2.1;have l9:Iter 210 w1.heap.size cap sp g fH:=fun l J Jr hY hJc W h0=>zsC l _ cap sp g fH (by omega) (fun h0=>mX (by omega)) J Jr hY hJc W h0
 obtain ⟨J,hJ⟩:∃ J:Nat->World->Prop,∀ i W,J i W↔(i<=es.length/\Did Z1 w2 cb bb rv sv kv fns ((es.drop (es.length-i)).reverse.foldl ho q) W):=⟨_,fun _ _=>zAz⟩;have HJ:=zab hJ;clear hJ;refine zp9 HE.o l9 rfl J (fun _=>False) ?hall ?hput ?hputr ?h0 ?hJc ?hround ?hdone ?hret
 case hall=>exact fun i W o hW=>(HJ.o _ _).2 ⟨((HJ.o _ _).1 hW).1,((HJ.o _ _).1 hW).2.alloc _⟩
 case hput=>exact fun i W l xo o hW hl hx hc=>(HJ.o _ _).2 ⟨((HJ.o _ _).1 hW).1,((HJ.o _ _).1 hW).2.putObj _ hl hx hc⟩
 case hputr=>exact fun _ _ _ _ h=>h.elim
 case h0=>exact (HJ.o _ _).2 ⟨zy5 _,by rw[zAl,zz6 (zyN _)];exact Did.refl gA.o⟩
 case hJc=>
  intro i W hW;obtain ⟨_,Z',aO,sv',bG,_,_,f3,_⟩:=(HJ.o i W).1 hW;refine ⟨?_,fun j v hv=>?_⟩
  ·rw[dJ];simpa using Blk.cell (Fr.blk uX.o f3 (ga.o _ aW)) 0
  ·have h4:=qm.o j v hv;have hj:=(zyL.1 hv).1;have hg:=uc.o (by omega);refine (World.cell?_of_block (a:=⟨g,j,none⟩) (w:=w1) ?_).trans h4;exact (f3.block g (zyS hg.2 F2.o.size) (ga.o g hg.1)).trans (F2.o.block g hg.2 (by simp))
 case hret=>exact fun _ h=>h.elim
 case hround=>
  intro l i c v W hJ oU hv;rw[dJ]at oU;obtain ⟨y,hy⟩:∃ y,es[c]?=some y:=⟨_,zyM (by omega)⟩;have yl:=(zyL.1 hy).1;have rI:=ow.o.2.2 c v y hv hy;obtain ⟨vt,vx,rfl⟩:=zah rI;have HY:=zab hy;have pI:=zab rI;clear hv hJ hy rI;simp only[zyO,zyZ,zyW]
  gi_wp2
  refine ⟨trivial,?_⟩;intro W2 h2 hD ma;obtain ⟨hi,Z',aO,sv',bG,hz,hb,f3,n1,n2,n3⟩:=(HJ.o i W2).1 h2;have b0:W2.cell? ⟨w.heap.size,0,none⟩=some (.pointer (some ⟨bb,0,none⟩)):=by simpa using Blk.cell (Fr.blk qh.o f3 (ga.o _ (zyN _))) 0
  have e1:es.length-(i+1)=c:=by omega
  have CU:=zab (vE.o i y Z' W2 aO sv' bG (.iface vt vx) (by rw[e1];exact HY.o) (by omega) hb (gA.o.rep f3 hz pI.o));have vB:Hid ((es.drop (es.length-(i+1))).reverse.foldl ho q=ho ((es.drop (es.length-i)).reverse.foldl ho q) y):=zab (by
   have e2:es.length-i=c+1:=by omega
   rw[e1,e2,zzs yl,show es[c]=y from (zyL.1 HY.o).2,List.reverse_cons,List.foldl_append];rfl)
  have qy:Hid (∀ w6,Fr (KL cb bb aO sv' bG) W2 w6->w6.heap[w2.heap.size]?=W2.heap[w2.heap.size]?/\w6.heap[w2.heap.size+1]?=W2.heap[w2.heap.size+1]?):=zab (fun w6 f6=>by
   obtain ⟨rl,bd⟩:=ma;refine ⟨f6.block _ (zyY.1 hD).1 (fun e=>?_),f6.block _ (zyY.1 bd).1 (fun e=>?_)⟩
   ·obtain ⟨_,_,_,h9⟩:=hb.zfx e;rw[hD]at h9;cases h9
   ·obtain ⟨_,_,_,h9⟩:=hb.zfx e;rw[bd]at h9;cases h9)
  have qp:=zab (And.intro hi (And.intro hz (And.intro f3 (And.intro n1 (And.intro n2 n3)))));clear h2 hD ma hi hz hb f3 n1 n2 n3 e1
  gi_wp2
  refine ⟨trivial,rfl,(zcY CU.o).mono ?_⟩;rintro e w6 ⟨rfl,D6⟩;have qo:=zab D6;clear D6 b0
  gi_wp2
  refine ⟨(HJ.o _ _).2 ⟨by omega,?_⟩,?_⟩
  ·rw[vB.o];obtain ⟨hi,hz,f3,n1,n2,n3⟩:=qp.o;exact Did.trans hz f3 n1 n2 n3 qo.o
  ·obtain ⟨_,_,_,_,_,_,f6,_⟩:=qo.o;exact qy.o _ f6
 case hdone=>
  intro W hW hD;obtain ⟨_,hd⟩:=(HJ.o _ W).1 hW;rw[dJ,zAx,zzY,<-oD.o]at hd;obtain ⟨Z3,j8,j9,j7,z3,b3,f3,n1,n2,n3⟩:=hd;have b0:W.cell? ⟨w.heap.size,0,none⟩=some (.pointer (some ⟨bb,0,none⟩)):=by simpa using Blk.cell (Fr.blk qh.o f3 (ga.o _ (zyN _))) 0
  have CP:=zab (zbn (i:=.zbF es.length) b3 rfl aL aC);have X3:=zab (And.intro z3 (And.intro b3 (And.intro f3 (And.intro n1 (And.intro n2 n3)))));have Y3:=zab (gA.o.rep f3 z3 ow.o.1);have qp:=zab hD;clear hW hD z3 b3 f3 n1 n2 n3;go_wp2_with fail
  refine CP.o.mono ?_;rintro r w4 ⟨rfl,Z4,yA,yC,yv,z4,b4,f4,n1,n2,n3⟩;have c4:w4.cell? ⟨w.heap.size,0,none⟩=some (.pointer (some ⟨bb,0,none⟩)):=by
   obtain ⟨_,b3,f3,n1,n2,n3⟩:=X3.o;have hB:=Fr.blk qh.o f3 (ga.o _ (zyN _));simpa using Blk.cell (Fr.blk hB f4 (fun e=>ga.o _ (zyN _) (KL.new e n1 n2 n3 (by have:=mB.o;omega)))) 0
  have d4:w4.heap[w2.heap.size]?=some (.deferred (some [])):=by
   have hD:=qp.o;rw[f4.block _ (zyY.1 hD).1 (fun e=>by obtain ⟨_,_,_,h9⟩:=X3.o.2.1.zfx e;rw[hD]at h9;cases h9)];exact hD
  have CK:=zab (HW.o (below:=below+es.length+1) b4 (X3.o.2.1.rep f4 z4 Y3.o) HF.o.1 HF.o.2);have BW:=zab d4;have X4:=zab (And.intro z4 (And.intro b4 (And.intro f4 (And.intro n1 (And.intro n2 n3)))));clear z4 b4 f4 n1 n2 n3 d4 b0 CP;rw[show ((below+es.length+1:Nat):Int)=(below:Int)+(es.length:Int)+1 by omega]at CK;go_wp2_with fail
  refine CK.o.mono ?_;rintro r w5 ⟨rfl,Ah⟩;have D5:=zab Ah;clear Ah CK c4;go_wp2_with fail
  rw[<-HQ.o];have d5:w5.heap[w2.heap.size]?=some (.deferred (some [])):=by
   have hD:=BW.o;obtain ⟨_,_,_,_,_,_,f5,_⟩:=D5.o;rw[f5.block _ (zyY.1 hD).1 (fun e=>by obtain ⟨_,_,_,h9⟩:=X4.o.2.1.zfx e;rw[hD]at h9;cases h9)];exact hD
  have eW:Did Z1 w2 cb bb rv sv kv fns (Cp.work (Cp.free N) fns n fe (below+es.length+1) (q2.push (.zbF es.length))) w5:=by
   obtain ⟨z,b,f,n1,n2,n3⟩:=X3.o;refine Did.trans z f n1 n2 n3 ?_;obtain ⟨z,b,f,n1,n2,n3⟩:=X4.o;exact Did.trans z f n1 n2 n3 D5.o
  refine zcg (base:=w2.heap.size) (I:=fun W'=>Did Z1 w2 cb bb rv sv kv fns (Cp.work (Cp.free N) fns n fe (below+es.length+1) (q2.push (.zbF es.length))) W') (by simp) (fun W' d bQ iH iX=>bQ.putObj _ iH iX (by simp)) (fun W' bQ=>?_) (zg3 d5 (zyN _)) eW;refine ⟨_,results_none rfl _ _ _,rfl,?_⟩;obtain ⟨Z',aO,sv',bG,z,b,f,n1,n2,n3⟩:=bQ;have q9:=F1.o.trans F2.o;refine ⟨Z',aO,sv',bG,fun k hk=>?_,b,(q9.mono (fun _ x=>x.elim)).trans f,New.trans (New.refl w rv) n1 q9.size,New.trans (New.refl w sv) n2 q9.size,New.trans (New.refl w kv) n3 q9.size⟩;rw[z k (zyS hk q9.size),ur.o k];constructor
  ·rintro (e|e)
   ·exact e
   ·have:=uc.o e.1;omega
  ·exact .inl
end Go.Proofs.YtgahgkddaljmkaaGreatDoor
namespace Go.Proofs.YtgahgkddaljmkaaGreatDoor
open Tryz
open Go.RowKit Go.Shelf
variable {off n:Nat}
theorem zpS{α:Type}{vs cs:List α}(h:off+cs.length<=n)(hn:n<=vs.length):(Go.splice vs off cs).take n=Go.splice (vs.take n) off cs:=by
 unfold Go.splice;have h1:(vs.take off).length=off:=by simp;omega
 rw[List.take_append,h1,List.take_append,zAq,zAq,List.drop_take];rw[Nat.min_eq_right (by omega:off<=n),zzV (by omega:off<=n),zy9 (by omega:cs.length<=n-off),Nat.sub_sub]
theorem zjZ(l xs:List Cp.Nm)(off:Nat):Go.splice (strCells l) off (strCells xs)=strCells (Go.splice l off xs):=by
 simp[Go.splice,strCells,List.map_take,List.map_drop]
theorem zvH:(prog.info? 9).map (·.size)=some 1:=by kernel_rfl
theorem zmM(l:List Cp.Nm):∀ v∈strCells l,v.oneCell'=true:=ze1
variable {w:World}{g cap:Nat}{l:List Cp.Nm}
theorem zr6{eF gi eJ gz:Nat}{xs:List Cp.Nm}{ad:Addr}{ops:Array Oper}{o:Oper}{a:Act}{K:Act->World->Prop}{Q:Exit->Act->World->Prop}{E:Prop}(oY:o.guard=none)(d sr:Operand)(ho:o.op=.call { callee:=.builtin .copy,args:=#[d,sr],argTypes:=#[38,38] })(ai:w.ownsRow 0 9 1 (.slice (some ⟨g,0,none⟩) n cap) n (strCells l))(hd:a.eval d=.slice (some ⟨g,off,none⟩) eF gi)(hs:a.eval sr=.slice (some ad) eJ gz)(hn:xs.length=Nat.min eJ eF)(dX:∀ (j:Nat) v,(strCells xs)[j]?=some v->w.cell? (ad.add j)=some v)(aJ:off+xs.length<=n)(hk:∀ w',w'.ownsRow 0 9 1 (.slice (some ⟨g,0,none⟩) n cap) n (strCells (Go.splice l off xs))->Fr (fun k=>k=g) w w'->K (a.put o.dst (goInt xs.length)) w'):if Region.wanted o (yielded ops a.tmps)=true then Oper.wp prog o a w K Q else E:=by
 have hw:Region.wanted o (yielded ops a.tmps)=true:=by simp[Region.wanted,oY]
 rw[if_pos hw];obtain ⟨vs,hb,dJ,o6,lY,rR,qf⟩:=ztI ai;have aN:(strCells xs).length=xs.length:=zdA _;have dI:=run_copy_row (P:=prog) w 38 38 o.type 9 g off eF gi ad eJ gz vs.toArray 9 (strCells xs) underlying38 zvH hb (by rw[aN];exact hn) dX (by simp[aN];omega) (zmM xs);unfold Oper.wp;simp[execOp,ho,resolve,invoke,builtin,hd,hs,dI,Result.andThen];have rS:Blk (w.setRow g (Go.splice vs off (strCells xs)).toArray) g (Go.splice vs off (strCells xs)) 9:=setRow_heap w g _ _ 9 _ hb;have:=hk _ (zgj rS (by rw[zzM _ _ _ (by rw[aN];omega)];exact dJ) o6 lY rR (by rw[zpS (by rw[aN];omega) (by omega),qf,zjZ])) ((Fr.refl _ _).setRow g _ rfl);unfold Go.splice at this;simp only[aN]at this ⊢;exact this
theorem zvk(h1:off<n)(h2:n<=cap):∀ W:World,(Instr.slice 38 (.slice (some ⟨g,0,none⟩) n cap) (some (.int .i64 (off:Int))) none none).run prog W=.ok (.slice (some ⟨g,off,none⟩) (n-off) (cap-off)) W:=by
 intro W;rw[run_slice_l W 38 _ _ _ underlying38 .i64 _ (by omega) (by omega)];have e3:prog.elem 38=9:=by kernel_rfl
 rw[e3,sizeOf9];simp[Result.andThen,sliced,zbe];omega
variable {Z:Nat->Prop}{cb bb:Nat}{rv kv:Value}{fns sl:List Cp.Nm}{q:Cp.Bs}
theorem BS.spliced{w':World}(h:BS Z w cb bb rv (.slice (some ⟨g,0,none⟩) n cap) kv fns q)(f:Fr (fun k=>k=g) w w')(hn:n=sl.length)(hs:w'.ownsRow 0 9 1 (.slice (some ⟨g,0,none⟩) n cap) n (strCells sl)):Did Z w cb bb rv (.slice (some ⟨g,0,none⟩) n cap) kv fns ⟨q.blocks,sl,q.code⟩ w':=by
 have hg:(Value.slice (some ⟨g,0,none⟩) n cap).ownBlock=some g:=rfl;have iC:bb≠g:=fun e=>h.sc.2 (by rw[hg,e])
 have f1:Fr (fun k=>k=bb\/(Value.slice (some ⟨g,0,none⟩) n cap).ownBlock=some k\/kv.ownBlock=some k) w w':=f.mono (fun k hk=>.inr (.inl (by rw[hg,hk])));obtain ⟨vs,cK,aG⟩:=h.znV;subst hn;have hz:∀ k,k<w.heap.size->Z k->¬ k=g:=fun k _ hk e=>h.zk k hk (.inr (.inr (.inr (.inl (by rw[hg,e])))))
 exact Did.up (h.up f1 (Fr.blk h.zbY f iC) hs ⟨vs,f.gb cK (fun k hk e=>h.sk g hg (by rw[<-e];exact hk)),aG.frz f hz (fun _ _ x=>x)⟩ (New.refl _ _) (New.refl _ _) h.sk) f1 (New.refl _ _) (New.refl _ _)
end Go.Proofs.YtgahgkddaljmkaaGreatDoor
namespace Go.Proofs.YtgahgkddaljmkaaGreatDoor
open Tryz
open Go.RowKit Go.Shelf
attribute [local go_sem ↓] Go.wp_at_zero Go.wp_at_succ
variable {n:Nat}{Z:Nat->Prop}{w:World}{cb bb:Nat}{rv sv kv:Value}{fns:List Cp.Nm}{q:Cp.Bs}
theorem zvb{pv:Value}{qe:Cp.Bs}{r:Bool}{bt:TypeId}{bx:Value}{l:List Th.Tok}{parts:List Th.Ex}{pvs:List Value}{ho:Cp.Bs->Th.Ex->Cp.Bs}(AG:qe=parts.foldl ho q)(h:BS Z w cb bb rv sv kv fns q)(h3:parts.length=l.length)(h4:pvs.length=l.length)(h6:Row Z w 312 3 pv l.length (zaM l pvs))(h8:∀ (i:Nat) (bv:Value) (p:Th.Ex),pvs[i]?=some bv->parts[i]?=some p->Rep Z w n bv p)(su:∀ (i:Nat) (e:Th.Ex) (Z1:Nat->Prop) (W:World) (bh bf cA v:Value),parts[i]?=some e->BS Z1 W cb bb bh bf cA fns ((parts.take i).foldl ho q)->Rep Z1 W n v e ->
   Calls prog 95 #[.pointer (some ⟨bb,0,none⟩),v] W fun r w'=>r=.returned (.tuple #[])/\Did Z1 W cb bb bh bf cA fns (ho ((parts.take i).foldl ho q) e) w')(bp:0<l.length)(aU:l.length<=1000000)(aK:qe.zac.length=q.zac.length+l.length)(uQ:q.zac.length<=1000000000):
  Calls prog 163 #[.pointer (some ⟨bb,0,none⟩),.agg #[.bool r,pv,.iface bt bx]] w fun e w'=>e=.returned (.tuple #[])/\Did Z w cb bb rv sv kv fns ⟨qe.blocks,Go.splice qe.zac q.zac.length (Th.texts l),qe.code⟩ w':=by
 obtain ⟨g0,pc,eD⟩:∃ g0 pc,pv=.slice (some ⟨g0,0,none⟩) l.length pc:=by
  rcases h6.1.2 with ⟨_,h0⟩|⟨g,cap,cur,h0,_⟩
  ·omega
  ·exact ⟨_,_,h0⟩
 subst eD;obtain ⟨sp,sc,_,bA,_⟩:=zaO h.ziW;have bR:∀ (i:Nat) (pv:Value),pvs[i]?=some pv->pv.oneCell'=true:=fun i pv hp=>by
  have:i<parts.length:=by rw[h3,<-h4];exact (zyL.1 hp).1
  obtain ⟨t,x,rfl⟩:=zah (h8 i pv parts[i] hp (zyM this));rfl
 have f0:Fr (fun _=>False) w (w.alloc (.cells #[.bool r,.slice (some ⟨g0,0,none⟩) l.length pc,.iface bt bx] 178)):=(Fr.refl _ _).alloc _;have nH:=Blk.new w [.bool r,.slice (some ⟨g0,0,none⟩) l.length pc,.iface bt bx] 178;obtain ⟨Z1,jU⟩:∃ Z1:Nat->Prop,Z1=fun k=>Z k\/k=w.heap.size:=⟨_,rfl⟩
 have aA:BS Z1 (w.alloc (.cells #[.bool r,.slice (some ⟨g0,0,none⟩) l.length pc,.iface bt bx] 178)) cb bb rv sv kv fns q:=by
  rw[jU];refine (h.fr0 f0).more (fun k hk=>⟨by rw[World.size_alloc];omega,?_⟩);rintro (e|e|e|e|e)
  ·have:=h.clt;omega
  ·have:=h.zbY.lt;omega
  ·have:=h.rlt k e;omega
  ·have:=h.slt k e;omega
  ·have:=h.klt k e;omega
 have aP:Z1 w.heap.size:=by rw[jU];exact .inr rfl
 have kk:∀ k,k<w.heap.size->(Z1 k↔Z k):=by
  intro k hk;rw[jU];constructor
  ·rintro (e|e)
   ·exact e
   ·omega
  ·exact .inl
 have yo:∀ k,Z k->Z1 k:=fun k hk=>by rw[jU];exact .inl hk
 have c1:=Blk.cell aA.zbY 1;simp at c1;rw[bA]at c1;have cB:=zab aA;have dS:=zab (And.intro nH aP);have De:=zab kk;have F0:=zab f0;have H3:=zab h3;have H4:=zab h4;have H6:=zab ((Row.frc h6 f0 (by simp)).mono (fun k _ hk=>yo k hk));have H8:=zab (fun i bv p a b=>((h8 i bv p a b).fr0 f0).mono (fun k _ hk=>yo k hk));have vE:=zab su;have oA:=zab bR;have HQ:=zab (And.intro AG aK);have cV:=h.zbY.lt;have um:=zab bA;clear h h3 h4 h6 h8 su bR AG aK aA nH aP kk yo f0 jU bA;go_enter func163,ntmps163
 go_wp2_with fail
 generalize w.alloc (.cells #[.bool r,.slice (some ⟨g0,0,none⟩) l.length pc,.iface bt bx] 178)=w0 at dS cB F0 H6 H8 c1 ⊢;clear c1
 go_loopg [15] l.length (fun gk iv wr=>∃ k:Nat,iv=.int .i64 k/\k+gk=l.length/\Did Z1 w0 cb bb rv sv kv fns ((parts.take k).foldl ho q) wr)
 case atStart=>exact ⟨0,rfl,by omega,Did.refl cB.o⟩
 case round=>
  obtain ⟨k,rfl,hk,Zk,dM,ir,il,z,b,f,n1,n2,n3⟩:=hrel;by_cases aj:k<l.length
  ·obtain ⟨a,ha⟩:∃ a,l[k]?=some a:=⟨l[k],zyM aj⟩;obtain ⟨p,hp⟩:∃ p,parts[k]?=some p:=⟨_,zyM (by rw[H3.o];exact aj)⟩;obtain ⟨bv,cC⟩:∃ bv,pvs[k]?=some bv:=⟨_,zyM (by rw[H4.o];exact aj)⟩;have hR:=cB.o.rep f z (H8.o k bv p cC hp);obtain ⟨pt,px,rfl⟩:=zah hR;have aE:=zbA l pvs k a _ ha cC;have af:=(cB.o.row f z H6.o).1;have c0:=(af.cellAt (k*3) (by omega)).trans aE.1;have c1:=(af.cellAt (k*3+1) (by omega)).trans aE.2.1;have c2:=(af.cellAt (k*3+2) (by omega)).trans aE.2.2;have dF:(0:Int)<=(k:Int):=zzN _;have f2:Fr (fun _=>False) wr (wr.alloc (.cells #[.string ⟨a.s.toArray⟩,.int .i64 a.at_,.iface pt px] 312)):=(Fr.refl _ _).alloc _;have CH:=zab (vE.o k p Zk _ dM ir il (.iface pt px) hp (b.fr0 f2) (hR.fr0 f2));have hT:(parts.take (k+1)).foldl ho q=ho ((parts.take k).foldl ho q) p:=by rw[zAn,hp];simp
   have HT:=zab hT;have F2:=zab f2;have X:=zab (And.intro z (And.intro f (And.intro n1 (And.intro n2 n3))));clear z b f n1 n2 n3 hR aE af f2 hT ha hp cC;go_wp2_with fail
   refine CH.o.mono ?_;rintro e w3 ⟨rfl,hd⟩;have HD:=zab hd;clear hd CH c0 c1 c2;go_wp2_with fail
   go_roundg (l.length-(k+1))
   case measure=>omega
   case rel=>
    refine ⟨k+1,by go_num,by omega,?_⟩;rw[HT.o];obtain ⟨z,f,n1,n2,n3⟩:=X.o;exact Did.trans z f n1 n2 n3 (Did.fr0 F2.o HD.o)
  ·have aG:parts.take k=parts:=zy9 (by have:=H3.o;omega);rw[aG,<-HQ.o.1]at b;obtain ⟨Hh,cap,g,td,dk,mX,jr,aN⟩:=zaO b.ziW;have lq:0<qe.zac.length:=by have:=HQ.o.2;omega
   rw[mX lq]at td;subst td;have o6:qe.zac.length<=cap:=by
    rcases b.ziW.2 with ⟨h0,_⟩|⟨_,_,_,h0,_,_,hn,_⟩
    ·cases h0
    ·cases h0;exact hn
   have BU:=zvk (g:=g) (n:=qe.zac.length) (cap:=cap) (off:=q.zac.length) (by have:=HQ.o.2;omega) o6;have cN:=cB.o.box f z dS.o.1 dS.o.2;have e0:=Blk.cell cN.1 0;have e1:=Blk.cell cN.1 1;have e2:=Blk.cell cN.1 2;have b1:=Blk.cell b.zbY 1;simp at e0 e1 e2 b1;have CN:=zab (zcX (w:=wr.drew) (rb:=r) (bt:=bt) (bx:=bx) (cB.o.row f.drew z H6.o) H4.o oA.o aU);have BK:=zab b;have BX:=zab cN;have X:=zab (And.intro z (And.intro f (And.intro n1 (And.intro n2 n3))));clear z f n1 n2 n3 b cN aG dk mX jr aN;go_wp2_with fail
   go_region_law (first
    |(refine zr6 (g:=g) (n:=qe.zac.length) (cap:=cap) (off:=q.zac.length) (l:=qe.zac) (xs:=Th.texts l) (ad:=⟨tg,0,none⟩) (by rfl) _ _ (by rfl) (B5.o.ziW) (by rfl) (by rfl) vK.o kG.o fZ.o ?_;intro w6 h6 f6;have D6:=zab (B5.o.spliced (sl:=Go.splice qe.zac q.zac.length (Th.texts l)) f6 vJ.o h6);clear h6 f6)
    |(go_simp;go_wp2_with (go_at_call 197;refine CN.o.mono ?_;rintro e w5 ⟨tv,rfl,eC,dw⟩;have f5:Fr (fun _=>False) wr w5:=(Fr.refl _ _).drew.trans (Fr.below dw);have B5:=zab (BK.o.fr0 f5);have F5:=zab f5;obtain ⟨FT,tc,tg,lI,_,lH,_,lG⟩:=zaO (za0 eC (zy5 _));rw[lH bp]at lI;subst lI;have kG:=zab (fun (j:Nat) v (hv:(strCells (Th.texts l))[j]?=some v)=>(show w5.cell? (Addr.add ⟨tg,0,none⟩ j)=some v by rw[zbe,zzG];exact lG j v hv));have b5:w5.cell? ⟨bb,1,none⟩=some (.slice (some ⟨g,0,none⟩) qe.zac.length cap):=Blk.cell B5.o.zbY 1;have vK:Hid ((Th.texts l).length=Nat.min l.length (qe.zac.length-q.zac.length)):=zab (by have:=HQ.o.2;simp[Th.texts,Nat.min_def];omega);have fZ:Hid (q.zac.length+(Th.texts l).length<=qe.zac.length):=zab (by have:=HQ.o.2;simp[Th.texts];omega);have vJ:Hid (qe.zac.length=(Go.splice qe.zac q.zac.length (Th.texts l)).length):=zab (zzM _ _ _ fZ.o).symm;clear eC dw f5 lH lG)))
   all_goals
    first|go_end0|refine bodyPost_ret (results_none rfl _ _ _) rfl ?_
    refine ⟨rfl,?_⟩;have hd:Did Z1 w0 cb bb rv sv kv fns ⟨qe.blocks,Go.splice qe.zac q.zac.length (Th.texts l),qe.code⟩ w6:=by
     obtain ⟨z,f,n1,n2,n3⟩:=X.o;exact Did.trans z f n1 n2 n3 (Did.fr0 F5.o D6.o)
    obtain ⟨Z',aO,sv',bG,z,b,f,n1,n2,n3⟩:=hd;exact ⟨Z',aO,sv',bG,fun k hk=>(z k (zyS hk F0.o.size)).trans (De.o k hk),b,(F0.o.mono (fun _ x=>x.elim)).trans f,New.trans (New.refl w rv) n1 F0.o.size,New.trans (New.refl w sv) n2 F0.o.size,New.trans (New.refl w kv) n3 F0.o.size⟩
end Go.Proofs.YtgahgkddaljmkaaGreatDoor
