/- Cmp36 .. Cmp44 -/
import Derived.Test.YtgahgkddaljmkaaGreatDoorV10
set_option maxRecDepth 100000
set_option maxHeartbeats 4000000
namespace Go.Proofs.YtgahgkddaljmkaaGreatDoor
open Tryz Th Cp
section
open Go.RowKit Go.Shelf
attribute [local go_sem ↓] Go.wp_at_zero Go.wp_at_succ
theorem zkk(fns:List Cp.Nm):∀(l:List Cp.Nm)(q:Bs),(l.foldl (Bs.use fns) q).blocks=q.blocks
 |[],_=>rfl
 |y::l,q=>(zkk fns l (q.use fns y)).trans (zoR fns q y).2.2
theorem zex(fns:List Cp.Nm)(q:Bs)(names:List Cp.Nm):(q.J7 fns names).blocks=q.blocks:=zkk fns _ q
variable {n:Nat}{Z:Nat->Prop}{w:World}{cb bb below:Nat}{rv sv kv:Value}{fns:List Cp.Nm}{q:Bs}{e:Ex}
theorem zvO{blk pn pc:Nat}{r:Bool}{pp:Option Addr}{bt:TypeId}{bx:Value}{l names:List Cp.Nm}{bl:List (Nat × List Ds)}(h:BS Z w cb bb rv sv kv fns q)(hr:qU Z w n (.iface 178 (.agg #[.bool r,.slice pp pn pc,.iface bt bx])) e)(ak:∀W,Fr (λ_=>False) w W->Calls prog 89 #[.iface 178 (.agg #[.bool r,.slice pp pn pc,.iface bt bx])] W λr w'=>∃v',r=.returned v'/\Names W.heap.size w' v' l/\Fr (λ_=>False) W w')(bu:names=Il q.kD l)(aL:l.length<=1000000)(aC:q.kD.length+names.length<=1000000000)(xF:q.code.length+names.length+1<=1000000000)(cW:fns.length<=1000000000)(IU:∀x∈names,x≠[]/\(Nu q.kD x=none->x∈fns))(kf:0<below)(aA:below+names.length<=1000000000)(mZ:∀Z1 W bh nv,CS Z1 W cb bh fns q.blocks->qU Z1 W n (.iface 178 (.agg #[.bool r,.slice pp pn pc,.iface bt bx])) e->Row Z1 W 9 1 nv names.length (strCells names)->Calls prog 161 #[.pointer (some ⟨cb,0,none⟩),.iface 178 (.agg #[.bool r,.slice pp pn pc,.iface bt bx]),nv] W λr w'=>r=.returned (.int .i64 blk)/\NO Z1 W cb bh fns bl w'):
  Calls prog 94 #[.pointer (some ⟨bb,0,none⟩),.agg #[.bool r,.slice pp pn pc,.iface bt bx],.int .i64 below] w λr w'=>r=.returned (.tuple #[])/\ES Z w cb bb rv sv kv fns (Bs.ends ⟨bl,(q.J7 fns names).kD,(q.J7 fns names).code⟩ (below+names.length) (.jump blk)) w':=by
 have Gz:(0:Int)<(below:Int):=by omega
 have uS:IntKind.i64.wrap ((below:Int)+(names.length:Int))=(below:Int)+(names.length:Int):=Xi _ (by omega);have f0:Fr (λ_=>False) w (w.alloc (.cells #[.bool r,.slice pp pn pc,.iface bt bx] 178)):=(eU _ _).alloc _;have CF:=eu (ak _ f0);have dS:=eu (gH w [.bool r,.slice pp pn pc,.iface bt bx] 178);have F0:=eu f0;have HH:=eu h;have HR:=eu hr;have HN:=eu bu;have jP:=eu mZ;have oz:=eu IU;have cV:=h.Kq.lt;have ul:=Uu fns names.reverse q;have HC:Hid ((q.J7 fns names).code.length+1<=1000000000):=eu (by unfold Bs.J7;rw[ul.2.1,OO];omega);have C7:=eu (zex fns q names);clear h hr ak bu mZ f0 IU ul;go_enter func94,ntmps94;go_wp2_with fail;refine CF.o.mono ?_;rintro r1 w1⟨fv,rfl,bI,f1⟩;obtain⟨fa,fn,fc,rfl⟩:=Jk bI;have dN:=eu (Vi (HH.o.qR (F0.o.trans f1)) bI aL (by omega));have F1:=eu (F0.o.trans f1);have B1:=eu (gd dS.o f1);clear CF bI f1;go_wp2_with fail;refine dN.o.mono ?_;rintro r1 w2⟨nv,rfl,ay,f2⟩;rw[<-HN.o]at ay;obtain⟨na,nc,_,lr,_⟩:=Pc (Ou ay (Kc _));subst lr;have F2:=eu (F1.o.trans f2);have B2:=eu (gd B1.o f2);have cZ:Hid (Names w.heap.size w2 (.slice na names.length nc) names):=eu (Ib (lP ay) F1.o.size);have ek:=HH.o.UU F2.o cZ.o;have lQ:=eu ek;have af:Row (λk=>Z k\/(Value.slice na names.length nc).ownBlock=some k) w2 9 1 (.slice na names.length nc) names.length (strCells names):=⟨cZ.o.1,λk hk=>.inr hk⟩;have CU:=eu (WL ek af oz.o (by omega) aC cW);have kF:=eu af;have dT:=eu ((HR.o.qR F2.o).mono (λk _ hk=>(Or.inl hk:Z k\/(Value.slice na names.length nc).ownBlock=some k)));have ga:Hid (∀k,w.heap.size<=k->¬KL cb bb rv sv kv k):=eu (λk hk he=>by
  have h:=HH.o;rcases he with e|e|e|e|e
  .have:=h.Nr;omega
  .omega
  .have:=h.Ns k e;omega
  .have:=h.slt k e;omega
  .have:=h.Pt k e;omega)
 clear dN ay f2 ek af;go_wp2_with fail;refine CU.o.mono ?_;rintro r1 w5⟨rfl,Z5,A7,FR,FH,z5,b5,f5,m1,m2,m3⟩;have cN:=gd B2.o f5 (ga.o _ (qP _));have B5:=eu cN;have aE:=b5.cs;rw[C7.o]at aE;have Ip:Fr (λ_=>False) w5 w5.drew:=(eU _ _).drew;have CR:=eu (jP.o Z5 w5.drew A7 (.slice na names.length nc) (aE.qR Ip) ((lQ.o.rep f5 z5 dT.o).qR Ip) (mq (lQ.o.row f5 z5 kF.o) Ip));have b0:=al b5.Kq 0;have p0:=al cN 0;have p1:=al cN 1;have p2:=al cN 2;simp at b0 p0 p1 p2;have X5:=eu (kK z5 (kK b5 (kK f5 (kK m1 (kK m2 m3)))));have yY:Hid (¬KL cb bb A7 FR FH w.heap.size):=eu (λe=>ga.o _ (qP _) (Ia e m1 m2 m3 (oH.lt B2.o)));clear CU z5 b5 f5 m1 m2 m3 cN aE Ip;go_wp2_with fail
 go_region_held3 (λW=>W.cell? ⟨w.heap.size,0,none⟩=some (.bool r)/\W.cell? ⟨w.heap.size,1,none⟩=some (.slice pp pn pc)/\W.cell? ⟨w.heap.size,2,none⟩=some (.iface bt bx)/\W.cell? ⟨bb,0,none⟩=some (.pointer (some ⟨cb,0,none⟩))) (first|(refine⟨?_,?_,?_,?_⟩<;>assumption)|go_keep) (first
  |(go_at_call 161;refine CR.o.mono ?_;rintro r1 w6⟨rfl,hd⟩;obtain⟨Z6,A8,Bb,A4,z6,b6,f6,m1,m2,m3⟩:=hd.V3 X5.o.2.1.drew;have X6:=eu (kK z6 (kK b6 (kK f6 (kK m1 (kK m2 m3)))));have CE:=eu (Xm (c:=below+names.length) (i:=.jump blk) b6 rfl HC.o);have kR:=gd (a:=w5.drew) B5.o f6 yY.o;have B6:=eu kR;have qX:=al b6.Kq 0;have tI:=al kR 0;have tK:=al kR 1;have yy:=al kR 2;simp at qX tI tK yy;clear hd z6 b6 f6 m1 m2 m3 kR)
  |(go_at_call 96;refine CE.o.mono ?_;rintro r1 w7⟨rfl,hd⟩;have D7:=eu hd;obtain⟨Z7,A9,Bc,A5,z7,b7,f7,m1,m2,m3⟩:=hd;have Aq:¬KL cb bb A8 Bb A4 w.heap.size:=(λe=>yY.o (Ia e X6.o.2.2.2.1 X6.o.2.2.2.2.1 X6.o.2.2.2.2.2 (oH.lt B5.o)));have mK:=gd B6.o f7 Aq;have qY:=al b7.Kq 0;have tJ:=al mK 0;have tL:=al mK 1;have yz:=al mK 2;simp at qY tJ tL yz;clear z7 b7 f7 m1 m2 m3 mK Aq))
 all_goals
  go_wp2
  first|go_end0|refine Ju rfl rfl ?_
  refine⟨rfl,?_⟩;have hd:ES (λk=>Z k\/(Value.slice na names.length nc).ownBlock=some k) w2 cb bb rv sv kv fns (Bs.ends ⟨bl,(q.J7 fns names).kD,(q.J7 fns names).code⟩ (below+names.length) (.jump blk)) w7:=by obtain⟨z,b,f,n1,n2,n3⟩:=X5.o;refine kU z f n1 n2 n3 (Hz ((eU _ _).drew) ?_);obtain⟨z,b,f,n1,n2,n3⟩:=X6.o;exact kU z f n1 n2 n3 D7.o
  obtain⟨Z',aO,sv',bG,z,b,f,n1,n2,n3⟩:=hd;have f2:=F2.o;refine⟨Z',aO,sv',bG,λk hk=>?_,b,(f2.mono (λ_ x=>x.elim)).trans f,kH (kq w rv) n1 f2.size,kH (kq w sv) n2 f2.size,kH (kq w kv) n3 f2.size⟩;rw[z k (Kl hk f2.size)];constructor
  .rintro(e|e)
   .exact e
   .have:=cZ.o.2 k e;omega
  .exact .inl
theorem zrp:∀args w,(callFunc 53 args).run prog w=.ok (.enter 53 args) w:=by
 intro args w
 kernel_rfl
variable {M N:Nat}
theorem zn8(hW:Nw M N n){bx:Nat}{a0 a1 a2:Value}{t:TypeId}{x:Value}(hx:oH w bx [a0,a1,a2,.iface t x] 93)(h:BS Z w cb bb rv sv kv fns q)(hr:qU Z w n (.iface t x) e)(hf:Fit M N fns q e):
  Calls prog 53 #[.pointer (some ⟨bb,0,none⟩),.pointer (some ⟨bx,0,none⟩)] w λr w'=>r=.returned (.tuple #[])/\ES Z w cb bb rv sv kv fns (Cp.work (Cp.free N) fns n e 0 q) w':=by
 have c0:=al hx 3;simp at c0;have CW:=eu (hW (below:=0) h hr hf (by have:=hf.cl;omega));clear hW h hr hf hx;go_enter func53,ntmps53;go_wp2_with fail;refine CW.o.mono ?_;rintro r w'⟨rfl,hd⟩;have HD:=eu hd;clear hd CW c0;go_wp2
 first|go_end0|refine Ju rfl rfl ?_
 exact⟨rfl,HD.o⟩
theorem zvJ:(prog.info? 38).map (λi=>(i.size,i.bytes,i.zero))=some (1,24,some (.slice none 0 0)):=by kernel_rfl
theorem V7(n:Nat):madeCells (Value.cells (.slice none 0 0)) n=(List.replicate n (Value.slice none 0 0)).toArray:=by
 apply Array.ext
 .simp[madeCells]
 .intro i h1 h2;simp[madeCells,Value.cells,Nat.mod_one]
theorem ztz(hn:n<=1000000)(W:World):(Instr.makeSlice 160 (.int .i64 (n:Int)) (.int .i64 (n:Int))).run prog W=.ok (.slice (some ⟨W.heap.size,0,none⟩) n n) (W.alloc (.cells (List.replicate n (Value.slice none 0 0)).toArray 38)):=by obtain⟨i,hi,he⟩:=M9.1 zvJ;simp only[O2]at he;obtain⟨h1,h2,h3⟩:=he;have:=run_make (P:=prog) W 160 38 i (.slice none 0 0) underlying160 hi h3 .i64 .i64 n n (by omega) (by omega) (by rw[h2];omega) (by omega);rw[this,h1,MO,S8,V7]
structure TS (Z:Nat->Prop) (w wr:World) (cb bb H m:Nat) (rv sv kv:Value) (fns:List Cp.Nm) (qk:Bs) (nms:Nat->List Cp.Nm) (k:Nat) (nvs:List Value) (Zk:Nat->Prop) (dM ir il:Value):Prop where
 z:∀j,j<w.heap.size->(Zk j↔Z j)
 b:BS Zk wr cb bb dM ir il fns qk
 f:Fr (λj=>KL cb bb rv sv kv j\/j=H) w wr
 n1:Mv w rv dM
 n2:Mv w sv ir
 n3:Mv w kv il
 h:oH wr H (nvs++List.replicate (m-k) (.slice none 0 0)) 38
 rows:∀(j:Nat)(nv:Value),nvs[j]?=some nv->Row Zk wr 9 1 nv (nms j).length (strCells (nms j))
 len:nvs.length=k
theorem TS.next{wr w6 w7:World}{H m:Nat}{nv:Value}{qk qc qd:Bs}{nms:Nat->List Cp.Nm}{k:Nat}{nvs:List Value}{Zk:Nat->Prop}{dM ir il:Value}(h:TS Z w wr cb bb H m rv sv kv fns qk nms k nvs Zk dM ir il)(hH:H<w.heap.size)(hZ:¬Z H)(hK:¬KL cb bb rv sv kv H)(hk:k<m){o:Obj}{Z1:Nat->Prop}{bh bf cA:Value}(z1:∀j,j<(wr.alloc o).heap.size->(Z1 j↔Zk j))(b1:BS Z1 w6 cb bb bh bf cA fns qc)(f1:Fr (KL cb bb dM ir il) (wr.alloc o) w6)(a1:Mv (wr.alloc o) dM bh)(a2:Mv (wr.alloc o) ir bf)(a3:Mv (wr.alloc o) il cA)(af:Row Z1 w6 9 1 nv (nms k).length (strCells (nms k)))(d2:ES Z1 w6 cb bb bh bf cA fns qd w7):
  oH w7 H (nvs++List.replicate (m-k) (.slice none 0 0)) 38/\∃Z' aO sv' bG,TS Z w (w7.setCell ⟨H,k,none⟩ nv) cb bb H m rv sv kv fns qd nms (k+1) (nvs++[nv]) Z' aO sv' bG:=by
 have f0:Fr (λ_=>False) wr (wr.alloc o):=(eU _ _).alloc _;obtain⟨Z2,im,iq,ik,z2,b2,f2,c1,c2,c3⟩:=d2;have s0:=h.f.size;have s1:=f0.size;have s2:=f1.size;have s3:=f2.size;have k0:¬KL cb bb dM ir il H:=λe=>hK (Ia e h.n1 h.n2 h.n3 hH)
 have Gr:H<wr.heap.size:=h.h.lt;have k1:¬KL cb bb bh bf cA H:=λe=>k0 (Ia e a1 a2 a3 (by omega))
 have k2:¬KL cb bb im iq ik H:=λe=>k1 (Ia e c1 c2 c3 (by omega))
 have zk:¬Zk H:=λe=>hZ ((h.z H hH).1 e)
 have FX:¬Z1 H:=λe=>zk ((z1 H (by omega)).1 e)
 have Be:¬Z2 H:=λe=>FX ((z2 H (by omega)).1 e)
 have pS:oH w7 H (nvs++List.replicate (m-k) (.slice none 0 0)) 38:=gd (gd (gd h.h f0) f1 k0) f2 k1;have f3:Fr (λj=>j=H) w7 (w7.setCell ⟨H,k,none⟩ nv):=(eU _ _).set _ _ (.inl rfl);refine⟨pS,Z2,im,iq,ik,⟨λj hj=>(z2 j (by omega)).trans ((z1 j (by omega)).trans (h.z j hj)),b2.SS f3 ?_,?_,?_,?_,?_,?_,?_,by simp[h.len]⟩⟩
 .rintro j(e|e)rfl
  .exact Be e
  .exact k2 e
 .refine IL ?_ _ _ (.inl (.inr rfl));refine⟨f2.os.trans (f1.os.trans (f0.os.trans h.f.os)),f2.tape.trans (f1.tape.trans (f0.tape.trans h.f.tape)),f2.output.trans (f1.output.trans (f0.output.trans h.f.output)),by omega,λi hi hn=>?_⟩;have e0:¬KL cb bb dM ir il i:=λe=>hn (.inl (Ia e h.n1 h.n2 h.n3 hi))
  have e1:¬KL cb bb bh bf cA i:=λe=>e0 (Ia e a1 a2 a3 (by omega))
  rw[f2.block i (by omega) e1,f1.block i (by omega) e0,f0.block i (by omega) (by simp),h.f.block i hi hn]
 .exact h.n1.trans (kH (kH (kq wr dM) a1 s1) (kH (kq (wr.alloc o) bh) c1 s2) s1) s0
 .exact h.n2.trans (kH (kH (kq wr ir) a2 s1) (kH (kq (wr.alloc o) bf) c2 s2) s1) s0
 .exact h.n3.trans (kH (kH (kq wr il) a3 s1) (kH (kq (wr.alloc o) cA) c3 s2) s1) s0
 .have:=pS.set k nv;have hl:=h.len;have e:(nvs++List.replicate (m-k) (Value.slice none 0 0)).set k nv=(nvs++[nv])++List.replicate (m-(k+1)) (.slice none 0 0):=by
   rw[List.set_append_right _ _ (by omega),hl,Uc,show m-k=(m-(k+1))+1 by omega,VO,NK];simp
  rw[e]at this;exact this
 .intro j FK hj;rw[OQ]at hj;have ak:∀j,j<w7.heap.size->Z2 j->¬j=H:=λj _ hz e=>Be (e▸hz)
  by_cases gT:j<nvs.length
  .rw[nB gT]at hj;exact(b1.row f2 z2 ((h.b.qR f0).row f1 z1 (mq (h.rows j FK hj) f0))).Ku f3 ak (λ_ _ x=>x)
  .rw[pL gT]at hj;have h1:j-nvs.length=0:=by
    have:=(Dq.1 hj).1;simp at this;omega
   rw[h1]at hj;simp only[Pk,IA]at hj;subst hj;have ED:j=k:=by have:=h.len;omega
   rw[ED];exact(b1.row f2 z2 af).Ku f3 ak (λ_ _ x=>x)
theorem zis{pv:Value}{r:Bool}{bt:TypeId}{bx:Value}{l:List Tok}{parts:List Ex}{pvs:List Value}{st qc ft:Nat->Bs}{bk:Nat->Nat}{nms:Nat->List Cp.Nm}(h:BS Z w cb bb rv sv kv fns q)(h3:parts.length=l.length)(h4:pvs.length=l.length)(h6:Row Z w 312 3 pv l.length (Ob l pvs))(h8:∀(i:Nat)(bv:Value)(p:Ex),pvs[i]?=some bv->parts[i]?=some p->qU Z w n bv p)(bK:st 0=⟨q.blocks,q.kD++texts l,q.code⟩)(aN:∀(i:Nat)(e:Ex)(Z1:Nat->Prop)(W:World)(bh bf cA v:Value),parts[i]?=some e->BS Z1 W cb bb bh bf cA fns (st i)->qU Z1 W n v e ->
   Calls prog 165 #[.pointer (some ⟨bb,0,none⟩),v] W λr w'=>∃nv,r=.returned (.tuple #[.int .i64 (bk i),nv])/\Tz Z1 W cb bb bh bf cA fns (qc i) w' nv (nms i))(dY:∀i,i<l.length->st (i+1)=(qc i).write (.hold (bk i) (nms i).length))(AF:∀i,i<l.length->(qc i).code.length<=1000000000)(kg:ft 0=st l.length)(jX:∀i,i<l.length->ft (i+1)=(((ft i).J7 fns (nms i)).drop (nms i).length).write (.fill (q.kD.length+i) (nms i).length))(IU:∀i,i<l.length->(∀x∈nms i,x≠[]/\(Nu (ft i).kD x=none->x∈fns))/\(ft i).code.length+(nms i).length<=1000000000/\(ft i).kD.length+(nms i).length<=1000000000)(cW:fns.length<=1000000000)(bp:0<l.length)(aU:l.length<=1000000)(uQ:q.kD.length<=100000000):
  Calls prog 162 #[.pointer (some ⟨bb,0,none⟩),.agg #[.bool r,pv,.iface bt bx]] w λe w'=>e=.returned (.tuple #[])/\ES Z w cb bb rv sv kv fns (ft l.length) w':=by
 obtain⟨i0,dt,bq,aP,bF⟩:=nC RR;have HI:=eu dt;clear dt;have HZ:=eu (kK bq (kK aP bF));clear bq aP bF;obtain⟨g0,pc,eD⟩:∃g0 pc,pv=.slice (some ⟨g0,0,none⟩) l.length pc:=by
  rcases h6.1.2 with⟨_,h0⟩|⟨g,cap,cur,h0,_⟩
  .omega
  .exact⟨_,_,h0⟩
 subst eD;obtain⟨sp,sc,_,bA,_⟩:=Pc h.Og;subst bA;have bR:∀(i:Nat)(pv:Value),pvs[i]?=some pv->pv.oneCell'=true:=λi pv hp=>by
  have:i<parts.length:=by rw[h3,<-h4];exact(Dq.1 hp).1
  obtain⟨t,x,rfl⟩:=JQ (h8 i pv parts[i] hp (Iv this));rfl
 have f0:Fr (λ_=>False) w (w.alloc (.cells #[.bool r,.slice (some ⟨g0,0,none⟩) l.length pc,.iface bt bx] 178)):=(eU _ _).alloc _;have aA:=h.zx8 (.cells #[.bool r,.slice (some ⟨g0,0,none⟩) l.length pc,.iface bt bx] 178);have nH:=gH w [.bool r,.slice (some ⟨g0,0,none⟩) l.length pc,.iface bt bx] 178;have cB:=eu aA;have dS:=eu nH;have me:=(mq h6 f0).mono (S':=λk=>Z k\/k=w.heap.size) (λk _ hk=>.inl hk);have H6:=eu me;have H8:=eu (λi bv p a b=>((h8 i bv p a b).qR f0).mono (S':=λk=>Z k\/k=w.heap.size) (λk _ hk=>.inl hk));have H3:=eu h3;have H4:=eu h4;have qH:=eu bK;have vv:=eu aN;have pK:=eu (kK dY AF);have yU:=eu (kK kg (kK jX IU));have c1:=al aA.Kq 1;simp at c1;have cV:=h.Kq.lt;have CN:=eu (Yh (w:=(w.alloc (.cells #[.bool r,.slice (some ⟨g0,0,none⟩) l.length pc,.iface bt bx] 178)).drew) (rb:=r) (bt:=bt) (bx:=bx) (mq me ((eU (λ_=>False) _).drew)) h4 bR aU);have kB:=ztz aU;obtain⟨vs,gW⟩:∃vs,List.replicate l.length (Value.slice none 0 0)=vs:=⟨_,rfl⟩;rw[gW]at kB;have C8:=eu gW;clear gW;clear h h3 h4 h6 h8 bK aN dY AF kg jX IU bR aA nH f0 me;have F0:Hid (Fr (λ_=>False) w (w.alloc (.cells #[.bool r,.slice (some ⟨g0,0,none⟩) l.length pc,.iface bt bx] 178))):=eu ((eU _ _).alloc _);have qC:Hid (∀q' w',ES (λk=>Z k\/k=w.heap.size) (w.alloc (.cells #[.bool r,.slice (some ⟨g0,0,none⟩) l.length pc,.iface bt bx] 178)) cb bb rv (.slice sp q.kD.length sc) kv fns q' w'->ES Z w cb bb rv (.slice sp q.kD.length sc) kv fns q' w'):=eu (λq' w' d=>ES.TV d);go_enter func162,ntmps162;go_wp2_with fail;generalize w.alloc (.cells #[.bool r,.slice (some ⟨g0,0,none⟩) l.length pc,.iface bt bx] 178)=w0 at dS cB F0 qC H6 H8 c1 CN|-;have e0:=al dS.o 0;have e1:=al dS.o 1;have e2:=al dS.o 2;simp at e0 e1 e2
 go_region_law (first
  |(refine step_append_lies _ (by rfl) _ _ _ (by rfl) 0 9 i0 _ 1 16 underlying38 HI.o HZ.o.1 HZ.o.2.1 HZ.o.2.2 rfl (by omega) (.slice sp q.kD.length sc) q.kD.length (strCells q.kD) (by rfl) (F5.o.gb cB.o.Og (by simp)) ⟨tg,0,none⟩ l.length tc (strCells (texts l)) (by rfl) mC.o kG.o ze1 bp (by unfold maxLen;omega) (by omega) (Kc _) w5.heap.size rfl ?_;intro g cap w3 ai ah aV aj;have AD:=eu (cB.o.zuu (g:=g) (n':=q.kD.length+l.length) (cap:=cap) (sl:=q.kD++texts l) F5.o (by simp[texts]) (by simpa[strCells]using ai) ah (by rcases aV with e|e;exact .inl e;exact .inr (by have:=F5.o.size;omega)));have d1:=al AD.o.1 1;have df:=ku AD.o.1 1;simp at d1;clear ai ah aV aj)
  |(go_simp;go_wp2_with (go_at_call 197;refine CN.o.mono ?_;rintro e w5⟨tv,rfl,eC,dw⟩;have f5:Fr (λ_=>False) w0 w5:=(eU _ _).drew.trans (oq dw);have F5:=eu f5;obtain⟨FT,tc,tg,lI,_,lH,_,lG⟩:=Pc (Ou eC (Kc _));rw[lH bp]at lI;subst lI;have kG:=eu (λ(j:Nat)v(hv:(strCells (texts l))[j]?=some v)=>(show w5.cell? (Addr.add ⟨tg,0,none⟩ j)=some v by rw[Pf,On];exact lG j v hv));have mC:Hid ((strCells (texts l)).length=l.length*1):=eu (by simp[strCells,texts]);have c5:w5.cell? ⟨bb,1,none⟩=some (.slice sp q.kD.length sc):=al (cB.o.qR f5).Kq 1;clear eC dw f5 lH lG)))
 all_goals
  obtain⟨Z2,im,iq,ik,z2,b2,f2,m1,m2,m3⟩:=AD.o.2;rw[<-qH.o]at b2;clear AD d1 df;generalize w3.setCell ⟨bb,1,none⟩ (.slice (some ⟨g,0,none⟩) (q.kD.length+l.length) cap)=w4 at b2 f2|-;have cN:=cB.o.box f2 z2 dS.o (.inr rfl);have y1:=al cN.1 1;simp at y1;have y2:(w4.alloc (.cells vs.toArray 38)).cell? ⟨w.heap.size,1,none⟩=some (.slice (some ⟨g0,0,none⟩) l.length pc):=al (mr cN.1 _) 1;have fb:Fr (λ_=>False) w4 (w4.alloc (.cells vs.toArray 38)):=(eU _ _).alloc _;have zJ:=gH w4 vs 38;have AJ:=mq (cB.o.row f2 z2 H6.o) fb;have AM:=λi bv p a b=>(cB.o.rep f2 z2 (H8.o i bv p a b)).qR fb
  have zr:=b2.qR fb;have zK:w4.heap.size<(w4.alloc (.cells vs.toArray 38)).heap.size:=by rw[gM];omega
  have zZ:¬Z2 w4.heap.size:=λe=>by have:=b2.Ny _ e;omega
  have zR:¬KL cb bb im iq ik w4.heap.size:=by
   rintro(e|e|e|e|e)
   .have:=b2.Nr;omega
   .have:=b2.Kq.lt;omega
   .have:=b2.Ns _ e;omega
   .have:=b2.slt _ e;omega
   .have:=b2.Pt _ e;omega
  have X2:=eu (kK z2 (kK f2 (kK m1 (kK m2 m3))));have FB:=eu fb;have yX:=eu zJ;have y8:=eu AJ;have zb:=eu AM;have uY:=eu zr;have oy:=eu (kK zK (kK zZ zR));clear z2 b2 f2 m1 m2 m3 cN fb zJ AJ AM zr zK zZ zR;go_wp2_with fail;generalize w4.alloc (.cells vs.toArray 38)=wb at FB yX y8 zb uY oy y2|-;clear y1 y2
  go_loopg [34] l.length (λgk iv wr=>∃(k:Nat)(nvs:List Value)(Zk:Nat->Prop)(dM ir il:Value),iv=.int .i64 k/\k+gk=l.length/\TS Z2 wb wr cb bb w4.heap.size l.length im iq ik fns (st k) nms k nvs Zk dM ir il)
  case atStart=>exact⟨0,[],Z2,im,iq,ik,rfl,by omega,⟨λ_ _=>P2,uY.o,eU _ _,kq _ _,kq _ _,kq _ _,by rw[MQ,S0,C8.o];exact yX.o,by simp,rfl⟩⟩
  case round=>
   obtain⟨k,nvs,Zk,dM,ir,il,rfl,hk,hT⟩:=hrel;have HT:=eu hT;by_cases aj:k<l.length
   .obtain⟨a,ha⟩:∃a,l[k]?=some a:=⟨l[k],Iv aj⟩;obtain⟨p,hp⟩:∃p,parts[k]?=some p:=⟨_,Iv (by rw[H3.o];exact aj)⟩;obtain⟨bv,cC⟩:∃bv,pvs[k]?=some bv:=⟨_,Iv (by rw[H4.o];exact aj)⟩;have hz:∀j,j<wb.heap.size->Z2 j->¬(KL cb bb im iq ik j\/j=w4.heap.size):=λj _ hj e=>by
     rcases e with e|e
     .exact uY.o.zk j hj e
     .exact oy.o.2.1 (e▸hj)
    have hR:=(zb.o k bv p cC hp).Ku hT.f hz (λj hj lh=>(hT.z j hj).2 lh);obtain⟨pt,px,rfl⟩:=JQ hR;have aE:=Tj l pvs k a _ ha cC;have af:=(y8.o.Ku hT.f hz (λj hj lh=>(hT.z j hj).2 lh)).1;have c0:=(af.cellAt (k*3) (by omega)).trans aE.1;have c1:=(af.cellAt (k*3+1) (by omega)).trans aE.2.1;have c2:=(af.cellAt (k*3+2) (by omega)).trans aE.2.2;have dF:(0:Int)<=(k:Int):=R6 _;have fw:Fr (λ_=>False) wr (wr.alloc (.cells #[.string ⟨a.s.toArray⟩,.int .i64 a.at_,.iface pt px] 312)):=(eU _ _).alloc _;have CC:=eu (vv.o k p Zk _ dM ir il (.iface pt px) hp (hT.b.qR fw) (hR.qR fw));have EL:=pK.o.2 k aj;have CV:=eu (pK.o.1 k aj);clear hT hz hR aE af fw ha hp cC;go_wp2_with fail;refine CC.o.mono ?_;rintro e w6⟨nv,rfl,En⟩;obtain⟨Z6,A8,Bb,A4,z6,b6,f6,o1,o2,o3,me⟩:=En;obtain⟨na,nc,_,lr,_⟩:=Pc me.1;subst lr;have CW:=eu (Re (i:=.hold (bk k) (nms k).length) b6 rfl EL);have X6:=eu (kK z6 (kK b6 (kK f6 (kK o1 (kK o2 (kK o3 me))))));clear z6 b6 f6 o1 o2 o3 me CC c0 c1 c2;go_wp2_with fail;refine CW.o.mono ?_;rintro e w7⟨rfl,Ai⟩;obtain⟨z6,b6,f6,o1,o2,o3,me⟩:=X6.o;obtain⟨pS,Z7,A9,Bc,A5,zX⟩:=TS.next HT.o oy.o.1 oy.o.2.1 oy.o.2.2 aj z6 b6 f6 o1 o2 o3 me Ai;have C3:=eu zX;have s0:w7.cell? ⟨w4.heap.size,k,none⟩=some (.slice none 0 0):=by have hl:=HT.o.len;rw[al pS k,Om (by omega),hl,Uc];rw[List.getElem?_replicate,Ji]
    have s1:=ku pS k;clear z6 b6 f6 o1 o2 o3 me Ai CW pS zX;go_wp2
    go_roundg (l.length-(k+1))
    case measure=>omega
    case rel=>exact⟨k+1,nvs++[.slice na (nms k).length nc],Z7,A9,Bc,A5,by go_num,by omega,by rw[CV.o];exact C3.o⟩
   .have aG:k=l.length:=by omega
    subst aG;obtain⟨wm,rfl⟩:∃wm,wm=wr:=⟨wr,rfl⟩;obtain⟨kg,jX,IU⟩:=yU.o;have bm:=hT.b;rw[<-kg]at bm;have BM:=eu bm;have k0:¬KL cb bb dM ir il w4.heap.size:=λe=>oy.o.2.2 (Ia e hT.n1 hT.n2 hT.n3 oy.o.1)
    have K0:=eu k0;clear hT bm k0 kg jX IU;go_wp2_with fail
    go_loopg [60] l.length (λgk iv wr=>∃i:Nat,iv=.int .i64 i/\i+gk=l.length/\ES Zk wm cb bb dM ir il fns (ft i) wr)
    case atStart=>exact⟨0,rfl,by omega,ES.refl BM.o⟩
    case round=>
     obtain⟨i,rfl,hi,Z8,yB,yD,yw,z8,b8,f8,n1,n2,n3⟩:=hrel;by_cases mP:i<l.length
     .have hT:=HT.o;obtain⟨nv,ay⟩:∃nv,nvs[i]?=some nv:=⟨_,Iv (by rw[hT.len];exact mP)⟩;have xY:=BM.o.row f8 z8 (hT.rows i nv ay);have zI:=gd hT.h f8 K0.o;obtain⟨na,nc,_,lr,_⟩:=Pc xY.1;subst lr;have u0:wr.cell? ⟨w4.heap.size,i,none⟩=some (.slice na (nms i).length nc):=by
       rw[al zI i,Pq (by rw[hT.len];exact mP)];exact ay
      obtain⟨kg,jX,IU⟩:=yU.o;obtain⟨j1,j2,j3⟩:=IU i mP;have CU:=eu (WL b8 xY j1 j2 j3 cW);have dt:(0:Int)<=(i:Int):=R6 _;have ul:=Uu fns (nms i).reverse (ft i);have eI:((ft i).J7 fns (nms i)).code.length<=1000000000:=by unfold Bs.J7;rw[ul.2.1,OO];omega
      have eN:((ft i).J7 fns (nms i)).kD.length<=1000000000:=by unfold Bs.J7;rw[ul.1,OO];omega
      have gL:(nms i).length<=((ft i).J7 fns (nms i)).kD.length:=by unfold Bs.J7;rw[ul.1,OO];omega
      have HU:=eu (kK eI (kK eN gL));have Cb:=eu (jX i mP);have X8:=eu (kK z8 (kK f8 (kK n1 (kK n2 n3))));clear hT ay xY zI kg jX IU j1 j2 j3 ul eI eN gL z8 b8 f8 n1 n2 n3;go_wp2_with fail;refine CU.o.mono ?_;rintro e w9⟨rfl,Z9,G9,Hf,GR,z9,b9,f9,n1,n2,n3⟩;have CD:=eu (zeg b9 HU.o.2.1 HU.o.2.2);have X9:=eu (kK z9 (kK f9 (kK n1 (kK n2 n3))));clear z9 b9 f9 n1 n2 n3 CU u0;go_wp2_with fail;refine CD.o.mono ?_;rintro e pB⟨rfl,Gb,FN,FQ,FG,Bd,zp,f10,n1,n2,n3⟩;have CW:=eu (Re (i:=.fill (q.kD.length+i) (nms i).length) zp rfl HU.o.1);have Dt:=eu (kK Bd (kK f10 (kK n1 (kK n2 n3))));clear Bd zp f10 n1 n2 n3 CD;rw[OC]at CW;go_wp2_with fail;refine CW.o.mono ?_;rintro e yE⟨rfl,hd⟩;have Bp:=eu hd;clear hd CW;go_wp2
      go_roundg (l.length-(i+1))
      case measure=>omega
      case rel=>refine⟨i+1,by go_num,by omega,?_⟩;rw[Cb.o];obtain⟨z,f,n1,n2,n3⟩:=X8.o;refine kU z f n1 n2 n3 ?_;obtain⟨z,f,n1,n2,n3⟩:=X9.o;refine kU z f n1 n2 n3 ?_;obtain⟨z,f,n1,n2,n3⟩:=Dt.o;exact kU z f n1 n2 n3 Bp.o
     .have lg:i=l.length:=by omega
      rw[lg]at b8;have hd:ES Zk wm cb bb dM ir il fns (ft l.length) wr:=⟨Z8,yB,yD,yw,z8,b8,f8,n1,n2,n3⟩;have HD:=eu hd;clear z8 b8 f8 n1 n2 n3 hd lg;go_wp2
      first|go_end0|refine Ju rfl rfl ?_
      refine⟨rfl,qC.o _ _ ?_⟩;have hT:=HT.o;obtain⟨z,f,n1,n2,n3⟩:=X2.o;refine kU z f n1 n2 n3 ?_;obtain⟨Z8,yB,yD,yw,z8,b8,f8,p1,p2,p3⟩:=HD.o;have g1:=FB.o.size;have g2:=hT.f.size;have g3:=f8.size;refine⟨Z8,yB,yD,yw,λk hk=>(z8 k (by omega)).trans (hT.z k (by omega)),b8,⟨f8.os.trans (hT.f.os.trans FB.o.os),f8.tape.trans (hT.f.tape.trans FB.o.tape),f8.output.trans (hT.f.output.trans FB.o.output),by omega,λi hi hn=>?_⟩,?_,?_,?_⟩
      .rw[f8.block i (by omega) (λe=>hn (Ia e hT.n1 hT.n2 hT.n3 (by omega))),hT.f.block i (by omega) (by rintro(e|e);exact hn e;omega),FB.o.block i hi (by simp)]
      .exact kH (kH (kq w4 im) hT.n1 g1) p1 (by omega)
      .exact kH (kH (kq w4 iq) hT.n2 g1) p2 (by omega)
      .exact kH (kH (kq w4 ik) hT.n3 g1) p3 (by omega)
end
section
namespace Cp
theorem zw2(fns:List Nm)(q:Bs)(x:Nm):∃i,q.use fns x=⟨q.blocks,q.kD++[[]],q.code++[i]⟩:=by
 unfold Bs.use Bs.push;split
 .exact⟨_,rfl⟩
 .exact⟨_,rfl⟩
theorem zuJ(fns:List Nm):∀(l:List Nm)(q:Bs),∃c,l.foldl (Bs.use fns) q=⟨q.blocks,q.kD++List.replicate l.length [],q.code++c⟩/\c.length=l.length
 |[],q=>⟨[],by simp,rfl⟩
 |x::l,q=>by obtain⟨i,h1⟩:=zw2 fns q x;obtain⟨c,h2,h3⟩:=zuJ fns l (q.use fns x);refine⟨i::c,?_,by simp[h3]⟩;rw[NV,h2,h1];simp[VO]
theorem Vk(fns:List Nm)(q:Bs)(l:List Nm):∃c,q.J7 fns l=⟨q.blocks,q.kD++List.replicate l.length [],q.code++c⟩/\c.length=l.length:=by obtain⟨c,h1,h2⟩:=zuJ fns l.reverse q;refine⟨c,?_,by simpa using h2⟩;unfold Bs.J7;rw[h1];simp
theorem zlX(fns:List Nm)(q:Bs)(l:List Nm):∃c,(q.J7 fns l).drop l.length=⟨q.blocks,q.kD,q.code++c⟩/\c.length=l.length:=by obtain⟨c,h1,h2⟩:=Vk fns q l;refine⟨c,?_,h2⟩;rw[h1];unfold Bs.drop;simp
theorem Ys(wk:Ex->Nat->Bs->Bs)(fr:Ex->List Nm)(b:Bs)(e:Ex):∃bl,Mp wk fr b e=(⟨bl,b.kD,b.code⟩,(Mp wk fr b e).2.1,Il b.kD (fr e)):=by
 refine⟨(Mp wk fr b e).1.blocks,?_⟩;unfold Mp Bs.NP;split
 .split<;>rfl
 .split<;>rfl
theorem zpz(wk:Ex->Nat->Bs->Bs)(fr:Ex->List Nm)(fns:List Nm)(b:Bs)(e:Ex):∃bl c,Mf wk fr fns b e=⟨bl,b.kD++[[]],b.code++c⟩/\1<=c.length/\c.length<=(fr e).length+1/\(bl=b.blocks\/e.kind≠2/\e.kind≠1/\bl=(Mp wk fr b e).1.blocks):=by
 unfold Mf;split
 .obtain⟨i,h⟩:=zw2 fns b e.tok.s;exact⟨_,_,h,by simp,by simp,.inl rfl⟩
 .next h2=>
  split
  .exact⟨_,_,rfl,by simp,by simp,.inl rfl⟩
  .next h1=>
   split
   .exact⟨_,_,rfl,by simp,by simp,.inl rfl⟩
   .obtain⟨bl,h⟩:=Ys wk fr b e;obtain⟨c,h3,h4⟩:=zlX fns ⟨bl,b.kD,b.code⟩ (Il b.kD (fr e));have h5:=RH b.kD (fr e);refine⟨bl,c++[.close (Mp wk fr b e).2.1 (Il b.kD (fr e)).length],?_,by simp,by simp;omega,.inr ⟨h2,h1,by rw[h]⟩⟩;rw[h];simp only;rw[h3];simp[Bs.push]
theorem QR{f:Ex->Nat}{x:Ex}:∀{l:List Ex},x∈l->f x<=(l.map f).sum
 |y::l,h=>by
  rw[Ki,MW];rcases Mz.1 h with rfl|h
  .omega
  .have:=QR (f:=f) h;omega
variable {n:Nat}{e:Ex}
theorem Dp.Qq{k:Ex}(h:Dp n e)(hk:k∈e.kids):Cp.wt n k+1<=Cp.wt n e:=by have:=QR (f:=Cp.wt n) hk;rw[h.wt];omega
theorem Xe{N:Nat}:∀(m:Nat)(e:Ex),Dp N e->wt N (spread m e).1+((spread m e).2.map (wt N)).sum+(spread m e).2.length<=wt N e/\Dp N (spread m e).1/\∀x∈(spread m e).2,Dp N x
 |0,e,h=>by simp[spread,h]
 |m+1,e,h=>by
  rw[spread];split
  .next f a hk=>
   have h1:=h.Nn (k:=f) (by simp[hk]);have h2:=h.Nn (k:=a) (by simp[hk]);have hw:=h.wt;rw[hk]at hw;simp at hw;split
   .obtain⟨i1,i2,i3⟩:=Xe m f h1;refine⟨by simp;omega,i2,λx hx=>?_⟩;rcases Ni.1 hx with hx|hx
    .exact i3 x hx
    .rw[NA.1 hx];exact h2
   .exact⟨by simp;omega,h1,by simp[h2]⟩
  .simp[h]
theorem zhU{m:Nat}{f a:Ex}(hk:e.kids=[f,a]):1<=(spread (m+1) e).2.length:=by
 rw[spread,hk];simp only;split
 .simp
 .simp
def VS (M N:Nat) (e:Ex) (q q':Bs):Prop:=q'.code.length<=q.code.length+(M+8)*wt N e/\q'.kD.length<=q.kD.length+(M+8)*wt N e/\q'.blocks.length+1<=q.blocks.length+8*wt N e
def P7 (M N:Nat) (wk:Ex->Nat->Bs->Bs):Prop:=∀e below q,Dp N e->wt N e<=M->VS M N e q (wk e below q)
variable {M N:Nat}{wk:Ex->Nat->Bs->Bs}
theorem zh7(hw:P7 M N wk)(b:Bs)(hd:Dp N e)(hm:wt N e<=M):(Mp wk (free N) b e).1.blocks.length<=b.blocks.length+8*wt N e:=by
 have hp:=hd.pos;unfold Mp Bs.NP;by_cases h4:e.kind=4
 .obtain⟨_,d,hk⟩:=hd.Nf.k4 h4;have h1:=hd.Nn (k:=d) (by simp[hk]);have h2:=hd.Qq (k:=d) (by simp[hk]);simp only[h4,kP,hk];have h3:=(hw d 0 ⟨b.blocks,(Il b.kD (free N e)++texts e.names).reverse,[]⟩ h1 (by omega)).2.2;simp only[IJ,Ng];simp only at h3;omega
 .by_cases h3:e.kind=3
  .simp only[h3,kP,Bs.write];simp;omega
  .simp only[h4,h3,nt];have h5:=(hw e 0 ⟨b.blocks,(Il b.kD (free N e)).reverse,[]⟩ hd hm).2.2;simp only[IJ,Ng];simp only at h5;omega
theorem znR(hw:P7 M N wk)(fns:List Nm)(b:Bs)(hd:Dp N e)(hm:wt N e<=M):(Mf wk (free N) fns b e).blocks.length<=b.blocks.length+8*wt N e/\(Mf wk (free N) fns b e).kD=b.kD++[[]]/\(Mf wk (free N) fns b e).code.length<=b.code.length+(M+1):=by
 obtain⟨bl,c,h1,_,h2,h3⟩:=zpz wk (free N) fns b e;have hl:=Ra N e;rw[h1];refine⟨?_,rfl,by simp;omega⟩;rcases h3 with h3|⟨_,_,h3⟩
 .rw[h3];simp
 .rw[h3];exact zh7 hw b hd hm
theorem Tn{M N:Nat}{wk:Ex->Nat->Bs->Bs}(hw:P7 M N wk)(fns:List Nm):∀(l:List Ex)(b:Bs),(∀x∈l,Dp N x/\wt N x<=M) ->
  (l.foldl (Mf wk (free N) fns) b).blocks.length<=b.blocks.length+8*(l.map (wt N)).sum/\(l.foldl (Mf wk (free N) fns) b).kD=b.kD++List.replicate l.length []/\(l.foldl (Mf wk (free N) fns) b).code.length<=b.code.length+(M+1)*l.length
 |[],b,_=>by simp
 |x::l,b,h=>by
  obtain⟨a1,a2,a3⟩:=znR hw fns b (h x (by simp)).1 (h x (by simp)).2;obtain⟨b1,b2,b3⟩:=Tn hw fns l (Mf wk (free N) fns b x) (λy hy=>h y (by simp[hy]));rw[NV];refine⟨?_,?_,?_⟩
  .rw[Ki,MW];omega
  .rw[b2,a2];simp[VO]
  .rw[Kh,OP];omega
theorem Yw{M N:Nat}{wk:Ex->Nat->Bs->Bs}(hw:P7 M N wk):∀(l:List Ex)(b:Bs)(a:List (List Nm)),(∀x∈l,Dp N x/\wt N x<=M)->(∀x∈a,x.length<=M) ->
  (makeAll wk (free N) l b a).1.blocks.length<=b.blocks.length+8*(l.map (wt N)).sum/\(makeAll wk (free N) l b a).1.kD=b.kD/\(makeAll wk (free N) l b a).1.code.length=b.code.length+l.length/\(makeAll wk (free N) l b a).2=a++l.map (λp=>Il b.kD (free N p))/\∀x∈(makeAll wk (free N) l b a).2,x.length<=M
 |[],b,a,_,ha=>by simp[makeAll];exact ha
 |p::l,b,a,h,ha=>by
  obtain⟨bl,hc⟩:=Ys wk (free N) b p;have h1:=zh7 hw b (h p (by simp)).1 (h p (by simp)).2;have h2:=(h p (by simp)).2;have hl:=yM (RH b.kD (free N p)) (Ra N p);obtain⟨b1,b2,b3,b4,b5⟩:=Yw hw l ((Mp wk (free N) b p).1.write (.hold (Mp wk (free N) b p).2.1 (Mp wk (free N) b p).2.2.length)) (a++[(Mp wk (free N) b p).2.2]) (λy hy=>h y (by simp[hy])) (by
   intro x hx;rcases Ni.1 hx with hx|hx
   .exact ha x hx
   .rw[NA.1 hx,hc];simp only;omega)
  have hs:(Mp wk (free N) b p).1.kD=b.kD:=by rw[hc]
  have hk:(Mp wk (free N) b p).1.code=b.code:=by rw[hc]
  have hn:(Mp wk (free N) b p).2.2=Il b.kD (free N p):=by rw[hc]
  rw[makeAll];simp only[Bs.write]at b1 b2 b3 b4 b5|-;refine⟨?_,?_,?_,?_,b5⟩
  .rw[Ki,MW];omega
  .rw[b2,hs]
  .rw[b3,hk];simp;omega
  .rw[b4,hs,hn];simp
theorem zje{M:Nat}(fns:List Nm):∀(l:List (List Nm))(i:Nat)(b:Bs),(∀x∈l,x.length<=M) ->
  (Od fns i l b).blocks=b.blocks/\(Od fns i l b).kD=b.kD/\(Od fns i l b).code.length<=b.code.length+(M+1)*l.length
 |[],_,b,_=>by simp[Od]
 |x::l,i,b,h=>by obtain⟨c,h1,h2⟩:=zlX fns b x;have hx:=h x (by simp);obtain⟨b1,b2,b3⟩:=zje fns l (i+1) (((b.J7 fns x).drop x.length).write (.fill i x.length)) (λy hy=>h y (by simp[hy]));rw[Od];simp only[Bs.write,h1]at b1 b2 b3|-;refine⟨b1,b2,?_⟩;simp only[IJ,Kh,My]at b3|-;rw[OP];omega
theorem W8{M N:Nat}{wk:Ex->Nat->Bs->Bs}(hw:P7 M N wk)(names:List Nm):∀(az:List (Nat × List Tok))(ds:List Ex)(b:Bs)(l:List (Nat × Nat × Nat)),(∀x∈ds,Dp N x/\wt N x<=M) ->
  (armsOf wk names az ds b l).1.blocks.length<=b.blocks.length+8*(ds.map (wt N)).sum/\(armsOf wk names az ds b l).1.kD=b.kD/\(armsOf wk names az ds b l).1.code=b.code
 |[],ds,b,l,_=>by simp[armsOf]
 |_::_,[],b,l,_=>by simp[armsOf]
 |a::az,d::ds,b,l,h=>by have h1:=(hw d 0 ⟨b.blocks,(texts a.2++names).reverse,[]⟩ (h d (by simp)).1 (h d (by simp)).2).2.2;obtain⟨b1,b2,b3⟩:=W8 hw names az ds (b.NP (texts a.2++names).reverse (wk d 0)).1 (l++[(a.1,a.2.length,(b.NP (texts a.2++names).reverse (wk d 0)).2)]) (λy hy=>h y (by simp[hy]));rw[armsOf];refine⟨?_,b2,b3⟩;rw[Ki,MW];simp only[Bs.NP,IJ,Ng]at b1 h1|-;omega
theorem zrZ{α:Type}(l xs:List α)(y:α):Go.splice (l++List.replicate xs.length y) l.length xs=l++xs:=by unfold Go.splice;simp
theorem Sw(l:List Tok):(texts l).length=l.length:=by simp[texts]
def Oz (wk:Ex->Nat->Bs->Bs) (fr:Ex->List Nm) (fns:List Nm) (e:Ex) (ps:List Ex) (b:Bs):Bs:=
 if e.kind=8 then
  let r:=makeAll wk fr ps { b with kD:=b.kD++texts e.names } []
  Od fns b.kD.length r.2 r.1
 else
  let b1:=ps.foldl (Mf wk fr fns) b
  { b1 with kD:=Go.splice b1.kD b.kD.length (texts e.names) }
variable {d:Ex}
theorem UF{fr:Ex->List Nm}{fns:List Nm}{ps:List Ex}(hk:e.kids=d::ps)(b:Bs):Qb wk fr fns e b=wk d 0 (Oz wk fr fns e ps b):=by
 unfold Qb Oz;rw[hk];simp only;split
 .rfl
 .rfl
theorem WX(hw:P7 M N wk)(fns:List Nm){ps:List Ex}(hk:e.kids=d::ps)(hl:ps.length=e.names.length)(b:Bs)(hd:Dp N e)(hm:wt N e<=M):
  (Oz wk (free N) fns e ps b).blocks.length<=b.blocks.length+8*(ps.map (wt N)).sum/\(Oz wk (free N) fns e ps b).kD=b.kD++texts e.names/\(Oz wk (free N) fns e ps b).code.length<=b.code.length+(M+8)*e.names.length:=by
 have sQ:∀x∈ps,Dp N x/\wt N x<=M:=λx hx=>⟨hd.Nn (by simp[hk,hx]),by have:=hd.Qq (k:=x) (by simp[hk,hx]);omega⟩
 unfold Oz;have hmul:(M+8)*e.names.length=(M+1)*e.names.length+7*e.names.length:=by rw[<-Nat.add_mul]
 split
 .obtain⟨a1,a2,a3,a4,a5⟩:=Yw hw ps { b with kD:=b.kD++texts e.names } [] sQ (by simp);obtain⟨b1,b2,b3⟩:=zje (M:=M) fns (makeAll wk (free N) ps { b with kD:=b.kD++texts e.names } []).2 b.kD.length (makeAll wk (free N) ps { b with kD:=b.kD++texts e.names } []).1 a5;simp only;refine⟨by rw[b1];exact a1,by rw[b2,a2],?_⟩;have hlen:(makeAll wk (free N) ps { b with kD:=b.kD++texts e.names } []).2.length=e.names.length:=by rw[a4];simp[hl]
  rw[hlen]at b3;rw[hl]at a3;simp only at a3;omega
 .obtain⟨a1,a2,a3⟩:=Tn hw fns ps b sQ;simp only;refine⟨a1,?_,?_⟩
  .rw[a2,hl,<-Sw e.names,zrZ]
  .rw[hl]at a3;omega
def OJ (q:Bs) (names:List Nm) (e:Ex):Bs:=⟨q.blocks++[(2,[.comp ⟨e.tok.s.toArray⟩,.enter])],([]::names).reverse++[[]]++[[]],[.PJ,.push (([]::names).reverse.length-1),.wait q.blocks.length]⟩
theorem zh3{fr:Ex->List Nm}(fns:List Nm)(n below:Nat)(q:Bs){l r:Ex}(h6:e.kind=6)(hk:e.kids=[l,r]):work fr fns (n+1) e below q =
  work fr fns n l (below+(Il q.kD (fr r)).length+1) ((Bs.J7 fns ⟨(work fr fns n r 2 (OJ q (Il q.kD (fr r)) e)).blocks++[((Il q.kD (fr r)).length+1,(work fr fns n r 2 (OJ q (Il q.kD (fr r)) e)).code)],q.kD,q.code⟩ (Il q.kD (fr r))).push (.wait (work fr fns n r 2 (OJ q (Il q.kD (fr r)) e)).blocks.length)):=by
 have hl:([]::Il q.kD (fr r)).reverse.length=(Il q.kD (fr r)).length+1:=by simp
 rw[work,qj,nB h6,hk,<-hl];rfl
theorem zfk{fr:Ex->List Nm}(fns:List Nm)(n below:Nat)(q:Bs){s:Ex}{ds:List Ex}(h9:e.kind=9)(hk:e.kids=s::ds){names:List Nm}(hn:names=Il q.kD (Mu fr e.nA ds [])){ao:Bs × List (Nat × Nat × Nat)}(ha:ao=armsOf (work fr fns n) names e.nA ds ⟨q.blocks,([]::names).reverse,[]⟩ []):work fr fns (n+1) e below q =
  work fr fns n s (below+names.length+1) ((Bs.J7 fns ⟨ao.1.blocks++[(names.length+1,ao.1.code++[.choose ao.2])],q.kD,q.code⟩ names).push (.wait ao.1.blocks.length)):=by
 have hl:([]::names).reverse.length=names.length+1:=by simp
 rw[work,qj,qj,nB h9,hk,<-hl,ha,hn];rfl
theorem Oa(M N:Nat)(fns:List Nm):∀n:Nat,P7 M N (work (free N) fns n)
 |0=>λe below q hd hm=>by have:=hd.pos;rw[work];exact⟨by omega,by omega,by omega⟩
 |n+1=>λe below q hd hm=>by
  have ih:=Oa M N fns n;have hp:=hd.pos;have dj:=hd.wt;have hlen:=Ra N e;have Ao:=RH q.kD (free N e);have hK:M+8<=(M+8)*wt N e:=VQ _ hp;have eE:=hd.Nf;have fN:=eE.lo;have gS:=eE.hi;unfold VS;by_cases h5:e.kind=5
  .obtain⟨f,a,hk⟩:=eE.k5 (.inl h5);rw[work];simp only[h5,kP];obtain⟨s1,s2,s3⟩:=Xe (n+1) e hd;have s4:=zhU (m:=n) hk;generalize spread (n+1) e=s at s1 s2 s3 s4|-;obtain⟨fe,es⟩:=s;simp only at s1 s2 s3 s4|-;have xx:∀x∈es.reverse,Dp N x/\wt N x<=M:=λx hx=>⟨s3 x (by simpa using hx),by have:=QR (f:=wt N) (x:=x) (l:=es) (by simpa using hx);omega⟩
   obtain⟨a1,a2,a3⟩:=Tn ih fns es.reverse q xx;generalize es.reverse.foldl (Mf (work (free N) fns n) (free N) fns) q=b1 at a1 a2 a3|-;obtain⟨c1,c2,c3⟩:=ih fe (below+es.length+1) (b1.push (.N6 es.length)) s2 (by omega);simp only[Bs.push,IJ,Ng]at c1 c2 c3|-;have dh:(es.reverse.map (wt N)).sum=(es.map (wt N)).sum:=by rw[Je,Kb]
   rw[dh]at a1;have Du:b1.kD.length=q.kD.length+es.length:=by rw[a2];simp
   rw[OO]at a3;have hmul:(M+8)*(wt N fe+es.length+1)<=(M+8)*wt N e:=Pr _ (by
    have:1<=(es.map (wt N)).sum:=by
     cases es with
     |nil=>simp at s4
     |cons x es=>have:=(s3 x (by simp)).pos;simp;omega
    omega)
   rw[OP,OP]at hmul;have jo:(M+1)*es.length<=(M+8)*es.length:=Jf _ (by omega);have sH:es.length<=(M+8)*es.length:=VR _ (by omega);exact⟨by omega,by omega,by omega⟩
  .by_cases h6:e.kind=6
   .obtain⟨l,r,hk⟩:=eE.k5 (.inr h6);rw[zh3 fns n below q h6 hk];have hl:=hd.Nn (k:=l) (by simp[hk]);have hr:=hd.Nn (k:=r) (by simp[hk]);rw[hk]at dj;simp at dj;have bd:=Ra N r;have E6:=RH q.kD (free N r);have h1:=(ih r 2 (OJ q (Il q.kD (free N r)) e) hr (by omega)).2.2;have bJ:(OJ q (Il q.kD (free N r)) e).blocks.length=q.blocks.length+1:=by simp[OJ]
    rw[bJ]at h1;clear bJ;generalize Il q.kD (free N r)=names at E6 h1|-;generalize work (free N) fns n r 2 (OJ q names e)=R at h1|-;obtain⟨c,u1,u2⟩:=Vk fns ⟨R.blocks++[(names.length+1,R.code)],q.kD,q.code⟩ names;rw[u1];simp only[Bs.push];obtain⟨d1,d2,d3⟩:=ih l (below+names.length+1) ⟨R.blocks++[(names.length+1,R.code)],q.kD++List.replicate names.length []++[[]],q.code++c++[.wait R.blocks.length]⟩ hl (by omega);have hmul:(M+8)*(wt N l+1)<=(M+8)*wt N e:=Pr _ (by omega);rw[OP]at hmul;simp only[IJ,Ng,Q3]at d1 d2 d3;exact⟨by omega,by omega,by omega⟩
   .by_cases h9:e.kind=9
    .obtain⟨aH,s,ds,hk,rY⟩:=eE.k9 h9;have hs:=hd.Nn (k:=s) (by simp[hk]);have r6:∀x∈ds,Dp N x/\wt N x<=M:=λx hx=>⟨hd.Nn (by simp[hk,hx]),by have:=hd.Qq (k:=x) (by simp[hk,hx]);omega⟩
     rw[hk]at dj;simp at dj;have aU:=Ut (free N) (wt N) (Ra N) e.nA ds [];have rN:=RH q.kD (Mu (free N) e.nA ds []);obtain⟨names,iZ⟩:∃names,names=Il q.kD (Mu (free N) e.nA ds []):=⟨_,rfl⟩;rw[<-iZ]at rN;obtain⟨ao,mJ⟩:∃ao,ao=armsOf (work (free N) fns n) names e.nA ds ⟨q.blocks,([]::names).reverse,[]⟩ []:=⟨_,rfl⟩;obtain⟨a1,a2,a3⟩:=W8 ih names e.nA ds ⟨q.blocks,([]::names).reverse,[]⟩ [] r6;rw[<-mJ]at a1;rw[zfk fns n below q h9 hk iZ mJ];obtain⟨c,u1,u2⟩:=Vk fns ⟨ao.1.blocks++[(names.length+1,ao.1.code++[.choose ao.2])],q.kD,q.code⟩ names;rw[u1];simp only[Bs.push];obtain⟨d1,d2,d3⟩:=ih s (below+names.length+1) ⟨ao.1.blocks++[(names.length+1,ao.1.code++[.choose ao.2])],q.kD++List.replicate names.length []++[[]],q.code++c++[.wait ao.1.blocks.length]⟩ hs (by omega);have hmul:(M+8)*(wt N s+1)<=(M+8)*wt N e:=Pr _ (by omega);rw[OP]at hmul;simp only[IJ,Ng,Q3,My,On]at d1 d2 d3 aU;simp only at a1;exact⟨by omega,by omega,by omega⟩
    .by_cases h7:e.kind=7\/e.kind=8
     .obtain⟨aH,d,ps,hk,gK⟩:=eE.k7 h7;rw[work];simp only[h5,h6,h9,h7,nt,kP];have iX:=hd.Nn (k:=d) (by simp[hk]);rw[hk]at dj;simp at dj;have hmul:(M+8)*(wt N d+e.names.length)<=(M+8)*wt N e:=Pr _ (by omega);rw[OP]at hmul;have ev:e.names.length<=(M+8)*e.names.length:=VR _ (by omega);split
      .rw[UF hk];obtain⟨a1,a2,a3⟩:=WX ih fns hk gK q hd hm;obtain⟨d1,d2,d3⟩:=ih d 0 (Oz (work (free N) fns n) (free N) fns e ps q) iX (by omega);rw[a2,IJ,Sw]at d2;exact⟨by omega,by omega,by omega⟩
      .simp only[Bs.NP,Bs.ends,Bs.write];obtain⟨c,u1,u2⟩:=Vk fns q (Il q.kD (free N e));rw[u1];simp only;rw[UF hk];obtain⟨a1,a2,a3⟩:=WX ih fns hk gK ⟨q.blocks,(Il q.kD (free N e)).reverse,[]⟩ hd hm;obtain⟨d1,d2,d3⟩:=ih d 0 (Oz (work (free N) fns n) (free N) fns e ps ⟨q.blocks,(Il q.kD (free N e)).reverse,[]⟩) iX (by omega);simp only at a1;simp only[IJ,Ng,Q3];exact⟨by omega,by omega,by omega⟩
     .rw[work];simp only[h5,h6,h9,h7,nt];obtain⟨bl,c,k1,_,k2,k3⟩:=zpz (work (free N) fns n) (free N) fns q e;rw[k1];simp only[Bs.ends,Bs.write,IJ,Ng];refine⟨by omega,by omega,?_⟩;rcases k3 with k3|⟨i1,i2,k3⟩
      .rw[k3];omega
      .rw[k3];have EJ:e.kind=3\/e.kind=4:=by omega
       unfold Mp Bs.NP;rcases EJ with h3|h4
       .simp only[h3,kP,Bs.write];simp;omega
       .obtain⟨_,d,hk⟩:=eE.k4 h4;have iX:=hd.Nn (k:=d) (by simp[hk]);have h2:=hd.Qq (k:=d) (by simp[hk]);simp only[h4,kP,hk];have h3:=(ih d 0 ⟨q.blocks,(Il q.kD (free N e)++texts e.names).reverse,[]⟩ iX (by omega)).2.2;simp only[IJ,Ng];simp only at h3;omega
end Cp
end
section
open Go.RowKit Go.Shelf
variable {M N:Nat}{fns:List Cp.Nm}{q:Bs}{e:Ex}
theorem Fit.prod(h:Fit M N fns q e):(M+8)*Cp.wt N e<=25040000:=by have h1:=h.wt;have h2:=h.mm;exact yM (Wn (show M+8<=5008 by omega) (show Cp.wt N e<=5000 by omega)) (by decide)
theorem Fit.len(h:Fit M N fns q e):(Cp.free N e).length<=5000:=by have h1:=h.wt;have h2:=h.mm;have:=IK N e;omega
theorem Fit.hlen(h:Fit M N fns q e)(sl:List Cp.Nm):(Il sl (Cp.free N e)).length<=5000:=yM (JA _ _) h.len
theorem Fit.IU(h:Fit M N fns q e)(sl:List Cp.Nm):∀x∈Il sl (Cp.free N e),x≠[]/\(Nu q.kD x=none->x∈fns):=λx hx=>by
 obtain⟨h1,h2⟩:=h.nm x (Qk.1 hx).1;refine⟨h1,λhs=>?_⟩;rcases h2 with h2|h2
 .exact absurd h2 (Uw.1 hs)
 .exact h2
theorem Fit.Wj(h:Fit M N fns q e):Fit M N fns ⟨q.blocks,(Il q.kD (Cp.free N e)).reverse,[]⟩ e:=by
 have hp:=h.prod;have hl:=h.hlen q.kD;refine⟨h.dp,h.wt,h.mm,h.fl,λx hx=>?_,by simp;omega,by simp;omega,h.bl⟩;obtain⟨h1,h2⟩:=h.nm x hx;refine⟨h1,?_⟩;rcases h2 with h2|h2
 .exact .inl (by simp[Qk,hx,h2])
 .exact .inr h2
variable {d:Ex}
theorem Fit.lam(h:Fit M N fns q e)(h4:e.kind=4)(hk:e.kids=[d]):Fit M N fns ⟨q.blocks,(Il q.kD (Cp.free N e)++texts e.names).reverse,[]⟩ d/\(Il q.kD (Cp.free N e)).length+e.names.length<=10000:=by
 have hp:=h.prod;have hl:=h.hlen q.kD;have hw:=h.wt;have hm:=h.mm;have cV:=h.bl;have cK:=h.dp.Qq (k:=d) (by simp[hk]);have EK:(M+8)*Cp.wt N d<=(M+8)*Cp.wt N e:=Pr _ (by omega);have hn:e.names.length<=5000:=by have:=h.dp.wt;omega
 have ak:=h.dp.free;rw[hk]at ak;simp only[h4]at ak;simp at ak;have ht:=Sw e.names;refine⟨⟨h.dp.Nn (by simp[hk]),by omega,h.mm,h.fl,λx hx=>?_,by simp;omega,by simp;omega,by simp only;omega⟩,by omega⟩;by_cases fT:x∈texts e.names
 .have aH:x≠[]:=by
   obtain⟨t,h1,h2⟩:=Ro.1 fT;rw[<-h2];exact h.dp.Nf.nm t h1
  exact⟨aH,.inl (by simp[fT])⟩
 .have uT:x∈Cp.free N e:=by rw[ak];exact Pu.2 ⟨hx,fT⟩
  obtain⟨h1,h2⟩:=h.nm x uT;refine⟨h1,?_⟩;rcases h2 with h2|h2
  .exact .inl (by simp[Qk,uT,h2])
  .exact .inr h2
variable {fr:Ex->List Cp.Nm}
theorem Cp.zh8{wk:Th.Ex->Nat->Cp.Bs->Cp.Bs}(q:Cp.Bs)(h3:e.kind≠3)(h4:e.kind≠4):Cp.Mp wk fr q e=(⟨(wk e 0 ⟨q.blocks,(Cp.Il q.kD (fr e)).reverse,[]⟩).blocks++[((Cp.Il q.kD (fr e)).reverse.length,(wk e 0 ⟨q.blocks,(Cp.Il q.kD (fr e)).reverse,[]⟩).code)],q.kD,q.code⟩,(wk e 0 ⟨q.blocks,(Cp.Il q.kD (fr e)).reverse,[]⟩).blocks.length,Cp.Il q.kD (fr e)):=by unfold Cp.Mp Cp.Bs.NP;simp only[pL h4,pL h3]
variable {n:Nat}{Z:Nat->Prop}{w:World}{cb bb:Nat}{rv sv kv v:Value}
theorem zwq(hW:Nw M N n)(h:BS Z w cb bb rv sv kv fns q)(hr:qU Z w n v e)(hf:Fit M N fns q e):
  ∀W nv,Fr (λ_=>False) w W->Names w.heap.size W nv (Il q.kD (Cp.free N e))->Calls prog 161 #[.pointer (some ⟨cb,0,none⟩),v,nv] W λr w'=>r=.returned (.int .i64 (Cp.work (Cp.free N) fns n e 0 ⟨q.blocks,(Il q.kD (Cp.free N e)).reverse,[]⟩).blocks.length) /\
   NO (λk=>Z k\/nv.ownBlock=some k) W cb rv fns ((Cp.work (Cp.free N) fns n e 0 ⟨q.blocks,(Il q.kD (Cp.free N e)).reverse,[]⟩).blocks++[((Il q.kD (Cp.free N e)).reverse.length,(Cp.work (Cp.free N) fns n e 0 ⟨q.blocks,(Il q.kD (Cp.free N e)).reverse,[]⟩).code)]) w':=by
 intro W nv fW ay;have hc:=(Oa M N fns n e 0 ⟨q.blocks,(Il q.kD (Cp.free N e)).reverse,[]⟩ hf.dp hf.wt).2.2;have cV:=hf.bl;have hl:=hf.hlen q.kD;exact zkK hW (h.UU fW ay).cs (hr.Ku fW (by simp) (λ_ _ x=>.inl x)) ⟨ay.1,λk hk=>.inr hk⟩ hf.Wj (by omega) (by simp only at hc;omega)
theorem Cp.zi8{wk:Th.Ex->Nat->Cp.Bs->Cp.Bs}(q:Cp.Bs)(h4:e.kind=4)(hk:e.kids=[d]):Cp.Mp wk fr q e=(⟨(wk d 0 ⟨q.blocks,(Cp.Il q.kD (fr e)++Th.texts e.names).reverse,[]⟩).blocks++[((Cp.Il q.kD (fr e)++Th.texts e.names).reverse.length,(wk d 0 ⟨q.blocks,(Cp.Il q.kD (fr e)++Th.texts e.names).reverse,[]⟩).code)],q.kD,q.code⟩,(wk d 0 ⟨q.blocks,(Cp.Il q.kD (fr e)++Th.texts e.names).reverse,[]⟩).blocks.length,Cp.Il q.kD (fr e)):=by unfold Cp.Mp Cp.Bs.NP;simp only[nB h4,hk]
theorem Cp.zlg{wk:Th.Ex->Nat->Cp.Bs->Cp.Bs}(q:Cp.Bs)(h3:e.kind=3):Cp.Mp wk fr q e=(⟨q.blocks++[((List.replicate e.arity ([]:Cp.Nm)).length,[.pack e.tag e.arity,.enter])],q.kD,q.code⟩,q.blocks.length,Cp.Il q.kD (fr e)):=by
 unfold Mp Bs.NP;have h4:¬e.kind=4:=by omega
 simp only[pL h4,nB h3];rfl
abbrev Xs (_M N n:Nat) (Z:Nat->Prop) (w:World) (cb bb:Nat) (rv sv kv v:Value) (fns:List Cp.Nm) (q:Bs) (e:Ex):Prop:=
 Calls prog 165 #[.pointer (some ⟨bb,0,none⟩),v] w λr w'=>∃nv,r=.returned (.tuple #[.int .i64 (Mp (Cp.work (Cp.free N) fns n) (Cp.free N) q e).2.1,nv])/\Tz Z w cb bb rv sv kv fns (Mp (Cp.work (Cp.free N) fns n) (Cp.free N) q e).1 w' nv (Il q.kD (Cp.free N e))
theorem zhG(hW:Nw M N n)(hn:n+1<=N)(h:BS Z w cb bb rv sv kv fns q)(hr:qU Z w (n+1) v e)(hf:Fit M N fns q e)(mN:e.kind=3\/e.kind=4):Xs M N n Z w cb bb rv sv kv v fns q e:=by
 have hw:=hf.wt;have hm:=hf.mm;have ak:=Xn N (hr.le hn) (by omega);have aL:=hf.len;have aK:=hf.sl;have cV:=hf.bl;have lq:=hf.hlen q.kD;unfold Xs;rcases hr with⟨hk,rfl⟩|⟨hk,rfl⟩|⟨hk,rfl⟩|⟨hk,bf,bv,b,k1,rfl,k3,k4⟩|⟨hk,u1,u2,d1,d2,k1,rfl,k3,k4⟩|⟨hk,u1,u2,d1,d2,k1,rfl,k3,k4⟩|⟨hk,bf,bv,b,parts,pvs,k1,rfl,k3,k4,k5,k6,k7⟩|⟨hk,cv,bf,b,ag,nvs,bvs,k1,rfl,k3,k4,k5,k6,k7,k8,k9⟩
 .omega
 .omega
 .rw[zlg q hk];refine zmb h ak rfl (by omega) (by omega) (λW nv fW ay=>?_);exact zrK rfl (h.UU fW ay).cs (by omega) (by have:=hf.dp.Nf.ar;omega)
 .rw[zi8 q hk k1];obtain⟨bZ,iZ⟩:=hf.lam hk k1;have hc:=(Oa M N fns n b 0 ⟨q.blocks,(Il q.kD (Cp.free N e)++texts e.names).reverse,[]⟩ bZ.dp bZ.wt).2.2;have oS:=bZ.bl;obtain⟨pp,pn,pc,rfl⟩:=Jk k3;obtain⟨bt,bx,rfl⟩:=JQ k4;refine zky h ak rfl (by omega) (by omega) (λW nv fW ay=>?_);exact zrz hW rfl rfl (h.UU fW ay).cs (k4.Ku fW (by simp) (λ_ _ x=>.inl x)) (k3.Ku fW (by simp) (λ_ _ x=>.inl x)) ⟨ay.1,λk hk=>.inr hk⟩ bZ (by omega) (by simp only at hc oS;omega)
 all_goals omega
theorem W9(hW:Nw M N n)(hn:n+1<=N)(h:BS Z w cb bb rv sv kv fns q)(hr:qU Z w n v e)(hf:Fit M N fns q e):Xs M N n Z w cb bb rv sv kv v fns q e:=by
 by_cases mN:e.kind=3\/e.kind=4
 .exact zhG hW hn h (hr.le (UZ n)) hf mN
 have hw:=hf.wt;have hm:=hf.mm;have ak:=Xn N (hr.le (Nat.le_of_succ_le hn)) (by omega);have aL:=hf.len;have aK:=hf.sl;have mZ:=zwq hW h hr hf;unfold Xs;rw[zh8 q (λe=>mN (.inl e)) (λe=>mN (.inr e))];cases n with
 |zero=>exact hr.elim
 |succ n=>
  rcases hr with⟨hk,rfl⟩|⟨hk,rfl⟩|⟨hk,rfl⟩|⟨hk,bf,bv,b,k1,rfl,k3,k4⟩|⟨hk,u1,u2,d1,d2,k1,rfl,k3,k4⟩|⟨hk,u1,u2,d1,d2,k1,rfl,k3,k4⟩|⟨hk,bf,bv,b,parts,pvs,k1,rfl,k3,k4,k5,k6,k7⟩|⟨hk,cv,bf,b,ag,nvs,bvs,k1,rfl,k3,k4,k5,k6,k7,k8,k9⟩
  .obtain⟨-,-,i1,-,-,-,-,i0,-⟩:=Uk;exact U8 i0 i1 h ak rfl (by omega) (by omega) mZ
  .obtain⟨-,-,i1,-,-,-,-,i0,-⟩:=Uh;exact U8 i0 i1 h ak rfl (by omega) (by omega) mZ
  .omega
  .omega
  .obtain⟨-,-,-,i1,-,-,-,i0,-⟩:=Ue;exact U8 i0 i1 h ak rfl (by omega) (by omega) mZ
  .obtain⟨-,-,-,i1,-,-,-,i0,-⟩:=Ui;exact U8 i0 i1 h ak rfl (by omega) (by omega) mZ
  .obtain⟨-,-,-,i1,-,-,-,i0,-⟩:=Ug;exact U8 i0 i1 h ak rfl (by omega) (by omega) mZ
  .obtain⟨-,-,-,i1,-,-,-,i0,-⟩:=Uf;exact U8 i0 i1 h ak rfl (by omega) (by omega) mZ
abbrev Zh (_M N n:Nat) (Z:Nat->Prop) (w:World) (cb bb:Nat) (rv sv kv v:Value) (fns:List Cp.Nm) (q:Bs) (e:Ex):Prop:=
 Calls prog 95 #[.pointer (some ⟨bb,0,none⟩),v] w λr w'=>r=.returned (.tuple #[])/\ES Z w cb bb rv sv kv fns (Mf (Cp.work (Cp.free N) fns n) (Cp.free N) fns q e) w'
theorem Cp.YC{wk:Th.Ex->Nat->Cp.Bs->Cp.Bs}(q:Cp.Bs)(h1:e.kind≠1)(h2:e.kind≠2)(h3:¬(e.kind=3/\e.arity=0)):Cp.Mf wk fr fns q e=(((Cp.Mp wk fr q e).1.J7 fns (Cp.Il q.kD (fr e))).drop (Cp.Il q.kD (fr e)).length).push (.close (Cp.Mp wk fr q e).2.1 (Cp.Il q.kD (fr e)).length):=by unfold Cp.Mf;simp only[pL h2,pL h1,pL h3];rfl
theorem Cp.WQ(wk:Th.Ex->Nat->Cp.Bs->Cp.Bs)(fr:Th.Ex->List Cp.Nm)(q:Cp.Bs)(e:Th.Ex):(Cp.Mp wk fr q e).1.kD=q.kD/\(Cp.Mp wk fr q e).1.code=q.code:=by obtain⟨bl,h⟩:=Cp.Ys wk fr q e;rw[h];exact⟨rfl,rfl⟩
theorem zti(hW:Nw M N n)(hn:n+1<=N)(h:BS Z w cb bb rv sv kv fns q)(hr:qU Z w (n+1) v e)(hf:Fit M N fns q e)(mM:e.kind<=4):Zh M N n Z w cb bb rv sv kv v fns q e:=by
 have hw:=hf.wt;have hm:=hf.mm;have aL:=hf.len;have aK:=hf.sl;have aN:=hf.cl;have bZ:=hf.fl;have lq:=hf.hlen q.kD;have hp:=hf.dp.pos;have hM:M+8<=(M+8)*Cp.wt N e:=VQ _ hp;have hle:=yM (JA q.kD (Cp.free N e)) (IK N e);have fQ:=hr;unfold Zh;have aE:=WQ (Cp.work (Cp.free N) fns n) (Cp.free N) q e;rcases hr with⟨hk,rfl⟩|⟨hk,rfl⟩|⟨hk,rfl⟩|⟨hk,bf,bv,b,k1,rfl,k3,k4⟩|⟨hk,u1,u2,d1,d2,k1,rfl,k3,k4⟩|⟨hk,u1,u2,d1,d2,k1,rfl,k3,k4⟩|⟨hk,bf,bv,b,parts,pvs,k1,rfl,k3,k4,k5,k6,k7⟩|⟨hk,cv,bf,b,ag,nvs,bvs,k1,rfl,k3,k4,k5,k6,k7,k8,k9⟩
 .have he:Mf (Cp.work (Cp.free N) fns n) (Cp.free N) fns q e=q.push (.num e.n):=by unfold Mf;rw[qj,nB hk]
  rw[he];exact zpy h (by omega) (by omega)
 .have he:Mf (Cp.work (Cp.free N) fns n) (Cp.free N) fns q e=q.use fns e.tok.s:=by unfold Mf;rw[nB hk]
  rw[he];have ak:=hf.dp.free;simp only[hk,kP]at ak;obtain⟨_,h2⟩:=hf.nm e.tok.s (by rw[ak];simp);refine zvC h e.tok.s (λhs=>?_) (by omega) (by omega) (by omega);rcases h2 with h2|h2
  .exact absurd h2 (Uw.1 hs)
  .exact h2
 .by_cases ha:e.arity=0
  .have he:Mf (Cp.work (Cp.free N) fns n) (Cp.free N) fns q e=q.push (.pack e.tag 0):=by unfold Mf;rw[qj,qj,nB ⟨hk,ha⟩]
   rw[he,ha];exact zpx h (by omega) (by omega)
  .rw[YC q (by omega) (by omega) (λx=>ha x.2)];exact zrx h (by omega) (λW fW=>zhG hW hn (h.qR fW) (fQ.qR fW) hf (.inl hk)) (by rw[aE.1];exact hf.IU q.kD) (by rw[aE.2];omega) (by rw[aE.1];omega) (by omega)
 .rw[YC q (by omega) (by omega) (λx=>by omega)];obtain⟨-,i0,i1,i2,-⟩:=Uj;exact Ws i0 i1 i2 h (λW fW=>zhG hW hn (h.qR fW) (fQ.qR fW) hf (.inr hk)) (by rw[aE.1];exact hf.IU q.kD) (by rw[aE.2];omega) (by rw[aE.1];omega)
 all_goals omega
theorem zwT(hW:Nw M N n)(hn:n+1<=N)(h:BS Z w cb bb rv sv kv fns q)(hr:qU Z w n v e)(hf:Fit M N fns q e):Zh M N n Z w cb bb rv sv kv v fns q e:=by
 by_cases mM:e.kind<=4
 .exact zti hW hn h (hr.le (UZ n)) hf mM
 have hw:=hf.wt;have hm:=hf.mm;have aK:=hf.sl;have aN:=hf.cl;have bZ:=hf.fl;have lq:=hf.hlen q.kD;have hp:=hf.dp.pos;have hM:M+8<=(M+8)*Cp.wt N e:=VQ _ hp;have hle:=yM (JA q.kD (Cp.free N e)) (IK N e);have aE:=WQ (Cp.work (Cp.free N) fns n) (Cp.free N) q e;have fQ:=hr;unfold Zh;rw[YC q (by omega) (by omega) (λx=>by omega)];cases n with
 |zero=>exact hr.elim
 |succ n=>
  rcases hr with⟨hk,rfl⟩|⟨hk,rfl⟩|⟨hk,rfl⟩|⟨hk,bf,bv,b,k1,rfl,k3,k4⟩|⟨hk,u1,u2,d1,d2,k1,rfl,k3,k4⟩|⟨hk,u1,u2,d1,d2,k1,rfl,k3,k4⟩|⟨hk,bf,bv,b,parts,pvs,k1,rfl,k3,k4,k5,k6,k7⟩|⟨hk,cv,bf,b,ag,nvs,bvs,k1,rfl,k3,k4,k5,k6,k7,k8,k9⟩
  .omega
  .omega
  .omega
  .omega
  .obtain⟨-,i0,i1,i2,-⟩:=Ue;exact Ws i0 i1 i2 h (λW fW=>W9 hW hn (h.qR fW) (fQ.qR fW) hf) (by rw[aE.1];exact hf.IU q.kD) (by rw[aE.2];omega) (by rw[aE.1];omega)
  .obtain⟨-,i0,i1,i2,-⟩:=Ui;exact Ws i0 i1 i2 h (λW fW=>W9 hW hn (h.qR fW) (fQ.qR fW) hf) (by rw[aE.1];exact hf.IU q.kD) (by rw[aE.2];omega) (by rw[aE.1];omega)
  .obtain⟨-,i0,i1,i2,-⟩:=Ug;exact Ws i0 i1 i2 h (λW fW=>W9 hW hn (h.qR fW) (fQ.qR fW) hf) (by rw[aE.1];exact hf.IU q.kD) (by rw[aE.2];omega) (by rw[aE.1];omega)
  .obtain⟨-,i0,i1,i2,-⟩:=Uf;exact Ws i0 i1 i2 h (λW fW=>W9 hW hn (h.qR fW) (fQ.qR fW) hf) (by rw[aE.1];exact hf.IU q.kD) (by rw[aE.2];omega) (by rw[aE.1];omega)
theorem Fit.part{b:Bs}(h:Fit M N fns q e)(hd:Dp N d)(hw:Cp.wt N d<=Cp.wt N e)(hs:∀x∈Cp.free N d,x≠[]/\(x∈b.kD\/x∈fns))(h1:b.code.length+(M+8)*Cp.wt N d<=q.code.length+(M+8)*Cp.wt N e)(h2:b.kD.length+(M+8)*Cp.wt N d<=q.kD.length+(M+8)*Cp.wt N e)(h3:b.blocks.length+8*Cp.wt N d<=q.blocks.length+8*Cp.wt N e):Fit M N fns b d:=
 ⟨hd,yM hw h.wt,h.mm,h.fl,hs,yM h1 h.cl,yM h2 h.sl,yM h3 h.bl⟩
theorem Cp.zgt{N:Nat}:∀(m:Nat)(e:Th.Ex),Cp.Dp N e->e.kind=5->(∀x∈Cp.free N (Cp.spread m e).1,x∈Cp.free N e)/\∀d∈(Cp.spread m e).2,∀x∈Cp.free N d,x∈Cp.free N e
 |0,e,h,_=>by simp[spread]
 |m+1,e,h,h5=>by
  obtain⟨f,a,hk⟩:=h.Nf.k5 (.inl h5);have ak:=h.free;rw[hk]at ak;simp[h5]at ak;rw[spread,hk];simp only;split
  .next Ep=>
   obtain⟨i1,i2⟩:=zgt m f (h.Nn (by simp[hk])) Ep;refine⟨λx hx=>?_,λd hd x hx=>?_⟩
   .rw[ak];exact No.2 (.inl (i1 x hx))
   .rw[ak];rcases Ni.1 hd with hd|hd
    .exact No.2 (.inl (i2 d hd x hx))
    .rw[NA.1 hd]at hx;exact No.2 (.inr hx)
  .refine⟨λx hx=>?_,λd hd x hx=>?_⟩
   .rw[ak];exact No.2 (.inl hx)
   .rw[ak];rw[NA.1 hd]at hx;exact No.2 (.inr hx)
theorem Cp.zwp(f:Th.Ex->Nat)(l:List Th.Ex)(k:Nat):((l.drop k).map f).sum<=(l.map f).sum:=by
 have h:(l.map f).sum=((l.take k).map f).sum+((l.drop k).map f).sum:=by rw[<-TH,<-SO,U5]
 omega
variable {below:Nat}
theorem Vl(hW:Nw M N n)(hn:n+1<=N)(h:BS Z w cb bb rv sv kv fns q)(hr:qU Z w (n+1) v e)(hf:Fit M N fns q e)(hb:below+(M+8)*Cp.wt N e<=1000000000)(mM:e.kind<=4):
  Calls prog 54 #[.pointer (some ⟨bb,0,none⟩),v,.int .i64 below] w λr w'=>r=.returned (.tuple #[])/\ES Z w cb bb rv sv kv fns (Cp.work (Cp.free N) fns (n+1) e below q) w':=by
 have hH:=zti hW hn h hr hf mM;have aK:=hf.sl;have aN:=hf.cl;have hp:=hf.dp.pos;have hM:M+8<=(M+8)*Cp.wt N e:=VQ _ hp;have hc:=(znR (Oa M N fns n) fns q hf.dp hf.wt).2.2;have he:Cp.work (Cp.free N) fns (n+1) e below q=(Mf (Cp.work (Cp.free N) fns n) (Cp.free N) fns q e).ends (below+1) .enter:=by rw[Cp.work,qj,qj,qj,qj]
 rw[he];rcases hr with⟨hk,rfl⟩|⟨hk,rfl⟩|⟨hk,rfl⟩|⟨hk,bf,bv,b,k1,rfl,k3,k4⟩|⟨hk,u1,u2,d1,d2,k1,rfl,k3,k4⟩|⟨hk,u1,u2,d1,d2,k1,rfl,k3,k4⟩|⟨hk,bf,bv,b,parts,pvs,k1,rfl,k3,k4,k5,k6,k7⟩|⟨hk,cv,bf,b,ag,nvs,bvs,k1,rfl,k3,k4,k5,k6,k7,k8,k9⟩
 .exact zp7 (by omega) (by omega) hH
 .exact zwH (by omega) (by omega) hH
 .exact zsl (by omega) (by omega) hH
 .exact zp6 (by omega) (by omega) hH
 all_goals omega
theorem zkp(hN:N<=100000)(hW:Nw M N n)(hn:n+1<=N){u1 u2:Value}{d1 d2:Ex}(h:BS Z w cb bb rv sv kv fns q)(hk:e.kind=5)(k1:e.kids=[d1,d2])(k3:qU Z w n u1 d1)(k4:qU Z w n u2 d2)(hf:Fit M N fns q e)(hb:below+(M+8)*Cp.wt N e<=1000000000):
  Calls prog 54 #[.pointer (some ⟨bb,0,none⟩),.iface 163 (.agg #[u1,u2]),.int .i64 below] w λr w'=>r=.returned (.tuple #[])/\ES Z w cb bb rv sv kv fns (Cp.work (Cp.free N) fns (n+1) e below q) w':=by
 obtain⟨t1,x1,rfl⟩:=JQ k3;obtain⟨t2,x2,rfl⟩:=JQ k4;obtain⟨s1,s2,s3⟩:=Xe (n+1) e hf.dp;obtain⟨s5,s6⟩:=zgt (n+1) e hf.dp hk;have s4:=zhU (m:=n) k1;have eB:=zom n e d1 d2 _ k1 k3;have mY:=λW(fW:Fr (λ_=>False) w W)=>zlS (Z:=Z) (n:=n) (by omega) n (qP _) (w:=W) (λk hk=>Kl (h.Ny k hk) fW.size) (k3.qR fW) (k4.qR fW)
 have he:Cp.work (Cp.free N) fns (n+1) e below q=Cp.work (Cp.free N) fns n (spread (n+1) e).1 (below+(spread (n+1) e).2.length+1) (((spread (n+1) e).2.reverse.foldl (Mf (Cp.work (Cp.free N) fns n) (Cp.free N) fns) q).push (.N6 (spread (n+1) e).2.length)):=by rw[Cp.work,nB hk]
 rw[he];rw[<-eB]at mY;clear he eB;generalize spread (n+1) e=s at s1 s2 s3 s4 s5 s6 mY|-;obtain⟨fe,es⟩:=s;simp only at s1 s2 s3 s4 s5 s6 mY|-;have hw:=hf.wt;have hm:=hf.mm;have aN:=hf.cl;have aK:=hf.sl;have hmul:(M+8)*(Cp.wt N fe+(es.map (Cp.wt N)).sum+es.length)<=(M+8)*Cp.wt N e:=Pr _ s1;rw[OP,OP]at hmul;have cQ:∀x∈es,Dp N x/\Cp.wt N x<=M:=λx hx=>⟨s3 x hx,by have:=QR (f:=Cp.wt N) hx;omega⟩
 have bp:1<=(es.map (Cp.wt N)).sum:=by
  cases es with
  |nil=>simp at s4
  |cons x es=>have:=(s3 x (by simp)).pos;simp;omega
 have oN:M+8<=(M+8)*(es.map (Cp.wt N)).sum:=VQ _ bp;have jo:(M+1)*es.length<=(M+8)*es.length:=Jf _ (by omega);have sH:es.length<=(M+8)*es.length:=VR _ (by omega);obtain⟨a1,a2,a3⟩:=Tn (Oa M N fns n) fns es.reverse q (λx hx=>cQ x (by simpa using hx));have dh:(es.reverse.map (Cp.wt N)).sum=(es.map (Cp.wt N)).sum:=by rw[Je,Kb]
 rw[dh]at a1;rw[OO]at a3;have Du:(es.reverse.foldl (Mf (Cp.work (Cp.free N) fns n) (Cp.free N) fns) q).kD.length=q.kD.length+es.length:=by rw[a2];simp
 refine zuO (λW fW=>zsK hW (h.qR fW) (λW2 wH=>mY W2 (fW.trans wH)) ?_ (by omega) (by omega) (by omega) ?_ (by omega))
 .intro i e' Z1 W1 bh bf cA v lZ hi aA dd;refine zwT hW hn aA dd ?_;have fO:=ML lZ;have aj:es.length-(i+1)<es.length:=by omega
  have r5:es.drop (es.length-(i+1))=e'::es.drop (es.length-i):=by rw[Q2 aj,show es.length-(i+1)+1=es.length-i by omega];rw[Iv aj]at lZ;cases lZ;rfl
  have E8:=zwp (Cp.wt N) es (es.length-(i+1));rw[r5,Ki,MW]at E8;obtain⟨b1,b2,b3⟩:=Tn (Oa M N fns n) fns (es.drop (es.length-i)).reverse q (λx hx=>cQ x (List.mem_of_mem_drop (by simpa using hx)));have lE:((es.drop (es.length-i)).reverse.map (Cp.wt N)).sum=((es.drop (es.length-i)).map (Cp.wt N)).sum:=by rw[Je,Kb]
  rw[lE]at b1;have rY:(es.drop (es.length-i)).reverse.length=i:=by simp;omega
  rw[rY]at b2 b3;have lg:(M+1)*i<=(M+8)*es.length:=Wn (by omega) (by omega);have GC:(M+8)*Cp.wt N e'<=(M+8)*(es.map (Cp.wt N)).sum:=Pr _ (by omega);refine hf.part (s3 e' fO) (by omega) (λx hx=>?_) (by omega) (by rw[b2];simp;omega) (by omega);obtain⟨c1,c2⟩:=hf.nm x (s6 e' fO x hx);refine⟨c1,?_⟩;rw[b2];rcases c2 with c2|c2
  .exact .inl (by simp[c2])
  .exact .inr c2
 .refine hf.part s2 (by omega) (λx hx=>?_) (by simp only[Bs.push,IJ,Ng];omega) (by simp only[Bs.push,IJ,Ng];omega) (by simp only[Bs.push];omega);obtain⟨c1,c2⟩:=hf.nm x (s5 x hx);refine⟨c1,?_⟩;simp only[Bs.push];rw[a2];rcases c2 with c2|c2
  .exact .inl (by simp[c2])
  .exact .inr c2
theorem Zy(N:Nat)(l:List Ex):(l.map λd=>8*Cp.wt N d+1).sum=8*(l.map (Cp.wt N)).sum+l.length:=by
 induction l with
 |nil=>rfl
 |cons d l ih=>simp only[Ki,MW,Kh,ih];omega
theorem zp8(hW:Nw M N n)(hn:n+1<=N){u1 u2:Value}{d1 d2:Ex}(h:BS Z w cb bb rv sv kv fns q)(hk:e.kind=6)(k1:e.kids=[d1,d2])(k3:qU Z w n u1 d1)(k4:qU Z w n u2 d2)(hf:Fit M N fns q e)(hb:below+(M+8)*Cp.wt N e<=1000000000):
  Calls prog 54 #[.pointer (some ⟨bb,0,none⟩),.iface 166 (.agg #[.string ⟨e.tok.s.toArray⟩,u1,u2]),.int .i64 below] w λr w'=>r=.returned (.tuple #[])/\ES Z w cb bb rv sv kv fns (Cp.work (Cp.free N) fns (n+1) e below q) w':=by
 obtain⟨t1,x1,rfl⟩:=JQ k3;obtain⟨t2,x2,rfl⟩:=JQ k4;have hw:=hf.wt;have hm:=hf.mm;have aN:=hf.cl;have aK:=hf.sl;have cV:=hf.bl;have bZ:=hf.fl;have E3:=hf.prod;have dj:=hf.dp.wt;rw[k1]at dj;simp at dj;have ux:=hf.dp.Nn (k:=d1) (by simp[k1]);have pP:=hf.dp.Nn (k:=d2) (by simp[k1]);have ak:=hf.dp.free;rw[k1]at ak;simp[hk]at ak;have mQ:(M+8)*(Cp.wt N d1+Cp.wt N d2+1)<=(M+8)*Cp.wt N e:=Pr _ (by omega);rw[OP,OP]at mQ;have aC:=IK N d2;obtain⟨names,bu⟩:∃names,names=Il q.kD (Cp.free N d2):=⟨_,rfl⟩;have ev:=JA q.kD (Cp.free N d2);rw[<-bu]at ev;obtain⟨sl,jx⟩:∃sl:List Cp.Nm,sl=([]::names).reverse:=⟨_,rfl⟩;have s8:sl.length=names.length+1:=by rw[jx];simp
 obtain⟨R,hR⟩:∃R,R=Xq (Cp.work (Cp.free N) fns n d2 2) ⟨e.tok.s.toArray⟩ ⟨q.blocks,sl,[]⟩:=⟨_,rfl⟩;have DY:R.blocks.length<=q.blocks.length+8*Cp.wt N d2:=by have:=(Oa M N fns n d2 2 (Bs.push ⟨q.blocks++[(2,[.comp ⟨e.tok.s.toArray⟩,.enter])],sl++[[]],[.PJ,.push (sl.length-1)]⟩ (.wait q.blocks.length)) pP (by omega)).2.2;rw[hR];unfold Xq;simp only[Bs.push,Bs.write,IJ,Ng,MQ,MP]at this|-;omega
 have he:Cp.work (Cp.free N) fns (n+1) e below q=Cp.work (Cp.free N) fns n d1 (below+names.length+1) ((Bs.J7 fns ⟨R.blocks++[(sl.length,R.code)],q.kD,q.code⟩ names).push (.wait R.blocks.length)):=by rw[Cp.work,qj,nB hk,k1];simp only;rw[<-bu,<-jx,hR];rfl
 rw[he];have iL:∀x∈Cp.free N d2,x≠[]/\(x∈names\/x∈fns):=λx hx=>by
  obtain⟨c1,c2⟩:=hf.nm x (by rw[ak];exact No.2 (.inr hx));refine⟨c1,?_⟩;rcases c2 with c2|c2
  .exact .inl (by rw[bu];exact Qk.2 ⟨hx,c2⟩)
  .exact .inr c2
 refine zk8 (blk:=R.blocks.length) (bl:=R.blocks++[(sl.length,R.code)]) (names:=names) h k3 (λW fW=>Xn N ((k4.qR fW).le (by omega)) (by omega)) bu (by omega) (by omega) ?_ ?_
 .intro Z1 W nv hZ fW aE af;refine ztY hW jx hR aE (k4.Ku fW (by simp) (λk _ x=>hZ k x)) af (λb2 cd aw rV=>?_) (by omega) (by omega) (by omega) (by omega);refine⟨pP,by omega,hm,bZ,λx hx=>?_,by simp only;omega,by simp only[IJ,Ng];omega,by simp only;omega⟩;obtain⟨c1,c2⟩:=iL x hx;refine⟨c1,?_⟩;rcases c2 with c2|c2
  .exact .inl (by simp[jx,c2])
  .exact .inr c2
 .intro Z1 W bh bf cA nv aA dd af;obtain⟨c,u1,u2⟩:=Vk fns ⟨R.blocks++[(sl.length,R.code)],q.kD,q.code⟩ names;refine zqY hW aA dd af ?_ (by simp only;omega) (by simp only;omega) (by omega) ?_
  .intro x hx;rw[bu]at hx;obtain⟨g1,g2⟩:=Qk.1 hx;exact⟨(iL x g1).1,λhs=>absurd g2 (Uw.1 hs)⟩
  .rw[u1];refine hf.part ux (by omega) (λx hx=>?_) (by simp only[Bs.push,IJ,Ng];omega) (by simp only[Bs.push,IJ,Ng,Q3];omega) (by simp only[Bs.push,IJ,Ng];omega);obtain⟨c1,c2⟩:=hf.nm x (by rw[ak];exact No.2 (.inl hx));refine⟨c1,?_⟩;simp only[Bs.push];rcases c2 with c2|c2
   .exact .inl (by simp[c2])
   .exact .inr c2
theorem zkq(hW:Nw M N n)(hn:n+1<=N){cv av:Value}{s:Ex}{ag:List Ex}{nvs bvs:List Value}(h:BS Z w cb bb rv sv kv fns q)(hk:e.kind=9)(k1:e.kids=s::ag)(k3:ag.length=e.nA.length)(k4:nvs.length=e.nA.length)(k5:bvs.length=e.nA.length)(k6:Row Z w 240 3 av e.nA.length (OF e.nA nvs bvs))(k7:∀(i:Nat)(a:Nat × List Tok)(nv:Value),e.nA[i]?=some a->nvs[i]?=some nv->Row Z w 88 2 nv a.2.length (Ms a.2))(k8:∀(i:Nat)(bv:Value)(p:Ex),bvs[i]?=some bv->ag[i]?=some p->qU Z w n bv p)(k9:qU Z w n cv s)(hf:Fit M N fns q e)(hb:below+(M+8)*Cp.wt N e<=1000000000):
  Calls prog 54 #[.pointer (some ⟨bb,0,none⟩),.iface 173 (.agg #[cv,av]),.int .i64 below] w λr w'=>r=.returned (.tuple #[])/\ES Z w cb bb rv sv kv fns (Cp.work (Cp.free N) fns (n+1) e below q) w':=by
 obtain⟨t1,x1,rfl⟩:=JQ k9;obtain⟨pp,pn,pc,rfl⟩:=Jk k6;have hw:=hf.wt;have hm:=hf.mm;have aN:=hf.cl;have aK:=hf.sl;have cV:=hf.bl;have bZ:=hf.fl;have E3:=hf.prod;have dj:=hf.dp.wt;rw[k1]at dj;simp only[Ki,MW]at dj;have ux:=hf.dp.Nn (k:=s) (by simp[k1]);have pP:∀d∈ag,Dp N d:=λd hd=>hf.dp.Nn (by simp[k1,hd])
 have ak:=hf.dp.free;rw[k1]at ak;simp[hk]at ak;have mQ:(M+8)*(Cp.wt N s+1+(ag.map (Cp.wt N)).sum)<=(M+8)*Cp.wt N e:=Pr _ (by omega);rw[OP,OP]at mQ;have aU:=Ut (Cp.free N) (Cp.wt N) (IK N) e.nA ag [];simp only[My,On]at aU;have Ea:=zl4 e.nA;obtain⟨names,bu⟩:∃names,names=Il q.kD (Mu (Cp.free N) e.nA ag []):=⟨_,rfl⟩;have ev:=JA q.kD (Mu (Cp.free N) e.nA ag []);rw[<-bu]at ev;obtain⟨sl,jx⟩:∃sl:List Cp.Nm,sl=([]::names).reverse:=⟨_,rfl⟩;obtain⟨R,hR⟩:∃R,R=(Cp.armsOf (Cp.work (Cp.free N) fns n) names e.nA ag ⟨q.blocks,sl,[]⟩ []).1.write (.choose (Cp.armsOf (Cp.work (Cp.free N) fns n) names e.nA ag ⟨q.blocks,sl,[]⟩ []).2):=⟨_,rfl⟩;have DY:R.blocks.length<=q.blocks.length+8*(ag.map (Cp.wt N)).sum:=by have:=(W8 (Oa M N fns n) names e.nA ag ⟨q.blocks,sl,[]⟩ [] (λd hd=>⟨pP d hd,by have:=QR (f:=Cp.wt N) hd;omega⟩)).1;rw[hR];exact this
 have he:Cp.work (Cp.free N) fns (n+1) e below q=Cp.work (Cp.free N) fns n s (below+names.length+1) ((Bs.J7 fns ⟨R.blocks++[(sl.length,R.code)],q.kD,q.code⟩ names).push (.wait R.blocks.length)):=by rw[Cp.work,qj,qj,nB hk,k1];simp only;rw[<-bu,<-jx,hR];rfl
 rw[he];have lE:=Zy N ag;have iL:∀x∈Mu (Cp.free N) e.nA ag [],x≠[]/\(x∈names\/x∈fns):=λx hx=>by
  obtain⟨c1,c2⟩:=hf.nm x (by rw[ak];exact No.2 (.inr hx));refine⟨c1,?_⟩;rcases c2 with c2|c2
  .exact .inl (by rw[bu];exact Qk.2 ⟨hx,c2⟩)
  .exact .inr c2
 refine zuP (blk:=R.blocks.length) (bl:=R.blocks++[(sl.length,R.code)]) (names:=names) (l:=Mu (Cp.free N) e.nA ag []) h k9 (λW fW=>?_) bu (by omega) (by omega) ?_ ?_
 .refine zf8 (g:=Cp.wt N) (IK N) k3 k4 k5 (mq k6 fW) (λi a nv hi hv=>⟨mq (k7 i a nv hi hv) fW,by have:=YK hi;omega⟩) (λi bv p hi hp=>⟨JQ (k8 i bv p hi hp),λW' bQ=>?_⟩) (by omega) (by omega);exact Xn N ((((k8 i bv p hi hp).qR fW).qR bQ).le (by omega)) (by have:=QR (f:=Cp.wt N) (ML hp);omega)
 .intro Z1 W nv hZ fW aE af;refine zu7 hW jx hR aE k3 k4 k5 (k6.Ku fW (by simp) (λk _ x=>hZ k x)) af (λi a nv hi hv=>(k7 i a nv hi hv).Ku fW (by simp) (λk _ x=>hZ k x)) (λi bv p hi hp=>(k8 i bv p hi hp).Ku fW (by simp) (λk _ x=>hZ k x)) (hf.dp.Nf.k9 hk).1 (λd q' hd=>?_) (λi a d b hi hd iC=>?_) (by rw[lE];omega) (by omega) (by omega) (by omega)
  .have:=(Oa M N fns n d 0 q' (pP d hd) (by have:=QR (f:=Cp.wt N) hd;omega)).2.2;omega
  .have rZ:=ML hd;have r6:=QR (f:=Cp.wt N) rZ;have Gu:=YK hi;have cu:=Sw a.2;have GM:(M+8)*Cp.wt N d<=(M+8)*(ag.map (Cp.wt N)).sum:=Pr _ r6;refine⟨⟨pP d rZ,by omega,hm,bZ,λx hx=>?_,by simp only[My];omega,by simp only[OO,IJ];omega,iC⟩,by omega⟩;by_cases fT:x∈texts a.2
   .have aH:x≠[]:=by
     obtain⟨t,h1,h2⟩:=Ro.1 fT;rw[<-h2];exact(hf.dp.Nf.am a (ML hi)).2 t h1
    exact⟨aH,.inl (by simp[fT])⟩
   .obtain⟨c1,c2⟩:=iL x (WN.2 (.inr ⟨i,a,d,hi,hd,hx,fT⟩));refine⟨c1,?_⟩;rcases c2 with c2|c2
    .exact .inl (by simp[c2])
    .exact .inr c2
 .intro Z1 W bh bf cA nv aA dd af;obtain⟨c,u1,u2⟩:=Vk fns ⟨R.blocks++[(sl.length,R.code)],q.kD,q.code⟩ names;have Gx:=ux.pos;refine zqY hW aA dd af ?_ (by simp only;omega) (by simp only;omega) (by omega) ?_
  .intro x hx;rw[bu]at hx;obtain⟨g1,g2⟩:=Qk.1 hx;exact⟨(iL x g1).1,λhs=>absurd g2 (Uw.1 hs)⟩
  .rw[u1];refine hf.part ux (by omega) (λx hx=>?_) (by simp only[Bs.push,IJ,Ng];omega) (by simp only[Bs.push,IJ,Ng,Q3];omega) (by simp only[Bs.push,IJ,Ng];omega);obtain⟨c1,c2⟩:=hf.nm x (by rw[ak];exact No.2 (.inl hx));refine⟨c1,?_⟩;simp only[Bs.push];rcases c2 with c2|c2
   .exact .inl (by simp[c2])
   .exact .inr c2
end
end Go.Proofs.YtgahgkddaljmkaaGreatDoor
