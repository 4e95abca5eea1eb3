/- Cmp25 .. Cmp35 -/
import Derived.Test.YtgahgkddaljmkaaGreatDoorV9
set_option maxRecDepth 100000
set_option maxHeartbeats 4000000
namespace Go.Proofs.YtgahgkddaljmkaaGreatDoor
open Tryz Th Cp
section
open Go.RowKit Go.Shelf
attribute [local go_sem ↓] Go.wp_at_zero Go.wp_at_succ
variable {Z:Nat->Prop}{w:World}{cb bb:Nat}{rv sv kv:Value}{fns:List Cp.Nm}{q:Bs}
theorem zvC{at_:Int}(h:BS Z w cb bb rv sv kv fns q)(x:Cp.Nm)(IU:Nu q.kD x=none->x∈fns)(hl:q.code.length<=1000000000)(aC:q.kD.length<=1000000000)(cW:fns.length<=1000000000):
  Calls prog 95 #[.pointer (some ⟨bb,0,none⟩),.iface 215 (.agg #[.string ⟨x.toArray⟩,.int .i64 at_])] w λr w'=>r=.returned (.tuple #[])/\ES Z w cb bb rv sv kv fns (q.use fns x) w':=by
 obtain⟨i0,-⟩:=Uh;have F0:Hid (Fr (λ_=>False) w (w.alloc (.cells #[.string ⟨x.toArray⟩,.int .i64 at_] 215))):=eu ((eU _ _).alloc _);have CU:=eu (zuK (h.qR F0.o) x IU hl aC cW);clear h IU;go_enter func95,ntmps95;go_wp2_with fail;refine CU.o.mono ?_;rintro r w1⟨rfl,hd⟩;have HD:=eu (Hz F0.o hd);clear hd CU i0;go_wp2
 first|go_end0|refine Ju rfl rfl ?_
 exact⟨rfl,HD.o⟩
theorem zpy{x:Int}(h:BS Z w cb bb rv sv kv fns q)(hl:q.code.length<=1000000000)(aC:q.kD.length<=1000000000):
  Calls prog 95 #[.pointer (some ⟨bb,0,none⟩),.iface 217 (.agg #[.int .i64 x])] w λr w'=>r=.returned (.tuple #[])/\ES Z w cb bb rv sv kv fns (q.push (.num x)) w':=by
 obtain⟨i1,i0,-⟩:=Uk;have F0:Hid (Fr (λ_=>False) w (w.alloc (.cells #[.int .i64 x] 217))):=eu ((eU _ _).alloc _);have CU:=eu (RJ (i:=.num x) (h.qR F0.o) rfl hl aC);clear h;go_enter func95,ntmps95;go_wp2_with fail;refine CU.o.mono ?_;rintro r w1⟨rfl,hd⟩;have HD:=eu (Hz F0.o hd);clear hd CU i0 i1;go_wp2
 first|go_end0|refine Ju rfl rfl ?_
 exact⟨rfl,HD.o⟩
theorem zpx{tag:Nat}(h:BS Z w cb bb rv sv kv fns q)(hl:q.code.length<=1000000000)(aC:q.kD.length<=1000000000):
  Calls prog 95 #[.pointer (some ⟨bb,0,none⟩),.iface 219 (.agg #[.int .i64 tag,.int .i64 0])] w λr w'=>r=.returned (.tuple #[])/\ES Z w cb bb rv sv kv fns (q.push (.pack tag 0)) w':=by
 obtain⟨i2,i0,i1,-⟩:=Ta;have F0:Hid (Fr (λ_=>False) w (w.alloc (.cells #[.int .i64 tag,.int .i64 0] 219))):=eu ((eU _ _).alloc _);have CU:=eu (RJ (i:=.pack tag 0) (h.qR F0.o) rfl hl aC);clear h;go_enter func95,ntmps95;go_wp2_with fail;refine CU.o.mono ?_;rintro r w1⟨rfl,hd⟩;have HD:=eu (Hz F0.o hd);clear hd CU i0 i1 i2;go_wp2
 first|go_end0|refine Ju rfl rfl ?_
 exact⟨rfl,HD.o⟩
variable {blk:Nat}{names:List Cp.Nm}{q1:Bs}
theorem zrx{tag ar:Int}(_h:BS Z w cb bb rv sv kv fns q)(pQ:ar≠0)(hc:∀W,Fr (λ_=>False) w W->Calls prog 165 #[.pointer (some ⟨bb,0,none⟩),.iface 219 (.agg #[.int .i64 tag,.int .i64 ar])] W λr w'=>∃nv,r=.returned (.tuple #[.int .i64 blk,nv])/\Tz Z W cb bb rv sv kv fns q1 w' nv names)(IU:∀x∈names,x≠[]/\(Nu q1.kD x=none->x∈fns))(hl:q1.code.length+names.length<=1000000000)(aC:q1.kD.length+names.length<=1000000000)(cW:fns.length<=1000000000):
  Calls prog 95 #[.pointer (some ⟨bb,0,none⟩),.iface 219 (.agg #[.int .i64 tag,.int .i64 ar])] w λr w'=>r=.returned (.tuple #[])/\ES Z w cb bb rv sv kv fns (((q1.J7 fns names).drop names.length).push (.close blk names.length)) w':=by
 obtain⟨i2,i0,i1,-⟩:=Ta;have Gw:(ar == 0)=false:=by simpa using pQ
 have ul:=Uu fns names.reverse q1;have eI:(q1.J7 fns names).code.length<=1000000000:=by unfold Bs.J7;rw[ul.2.1,OO];omega
 have eN:(q1.J7 fns names).kD.length<=1000000000:=by unfold Bs.J7;rw[ul.1,OO];omega
 have gL:names.length<=(q1.J7 fns names).kD.length:=by unfold Bs.J7;rw[ul.1,OO];omega
 have iQ:((q1.J7 fns names).drop names.length).kD.length<=1000000000:=by simp[Bs.drop];omega
 have f0:Fr (λ_=>False) w _:=(eU _ _).alloc (.cells #[.int .i64 tag,.int .i64 ar] 219);have CC:=eu (hc _ f0);have F0:=eu f0;have HU:=eu (kK eI (kK eN (kK gL (kK iQ IU))));clear _h hc IU eI eN gL iQ f0 ul;go_enter func95,ntmps95;go_wp2_with fail;refine CC.o.mono ?_;rintro r w1⟨nv,rfl,Z1,bh,bf,cA,z1,b1,f1,n1,n2,n3,af⟩;obtain⟨np,nc,_,rfl,_⟩:=Pc af.1;have CU:=eu (WL b1 af HU.o.2.2.2.2 hl aC cW);have X1:=eu (kK z1 (kK f1 (kK n1 (kK n2 n3))));clear CC z1 b1 f1 n1 n2 n3 af i0 i1 i2;go_wp2_with fail;refine CU.o.mono ?_;rintro r w2⟨rfl,Z2,im,iq,ik,z1,b1,f1,n1,n2,n3⟩;have CD:=eu (zeg b1 HU.o.2.1 HU.o.2.2.1);have X2:=eu (kK z1 (kK f1 (kK n1 (kK n2 n3))));clear CU z1 b1 f1 n1 n2 n3;go_wp2_with fail;refine CD.o.mono ?_;rintro r w3⟨rfl,Z3,j8,j9,j7,z1,b1,f1,n1,n2,n3⟩;have CP:=eu (RJ (i:=.close blk names.length) b1 rfl HU.o.1 HU.o.2.2.2.1);have X3:=eu (kK z1 (kK f1 (kK n1 (kK n2 n3))));clear CD z1 b1 f1 n1 n2 n3;go_wp2_with fail;refine CP.o.mono ?_;rintro r w4⟨rfl,hd⟩;have D4:=eu hd;clear CP hd;go_wp2
 first|go_end0|refine Ju rfl rfl ?_
 refine⟨rfl,Hz F0.o ?_⟩;obtain⟨z1,f1,n1,n2,n3⟩:=X1.o;refine kU z1 f1 n1 n2 n3 ?_;obtain⟨z1,f1,n1,n2,n3⟩:=X2.o;refine kU z1 f1 n1 n2 n3 ?_;obtain⟨z1,f1,n1,n2,n3⟩:=X3.o;exact kU z1 f1 n1 n2 n3 D4.o
variable {x:Value}
theorem Ws{t:TypeId}(i0:TN t 215 (.agg #[.string ⟨#[]⟩,.int .i64 0]))(i1:TN t 217 (.agg #[.int .i64 0]))(i2:TN t 219 (.agg #[.int .i64 0,.int .i64 0]))(_h:BS Z w cb bb rv sv kv fns q)(hc:∀W,Fr (λ_=>False) w W->Calls prog 165 #[.pointer (some ⟨bb,0,none⟩),.iface t x] W λr w'=>∃nv,r=.returned (.tuple #[.int .i64 blk,nv])/\Tz Z W cb bb rv sv kv fns q1 w' nv names)(IU:∀x∈names,x≠[]/\(Nu q1.kD x=none->x∈fns))(hl:q1.code.length+names.length<=1000000000)(aC:q1.kD.length+names.length<=1000000000)(cW:fns.length<=1000000000:=by omega):
  Calls prog 95 #[.pointer (some ⟨bb,0,none⟩),.iface t x] w λr w'=>r=.returned (.tuple #[])/\ES Z w cb bb rv sv kv fns (((q1.J7 fns names).drop names.length).push (.close blk names.length)) w':=by
 have ul:=Uu fns names.reverse q1;have eI:(q1.J7 fns names).code.length<=1000000000:=by unfold Bs.J7;rw[ul.2.1,OO];omega
 have eN:(q1.J7 fns names).kD.length<=1000000000:=by unfold Bs.J7;rw[ul.1,OO];omega
 have gL:names.length<=(q1.J7 fns names).kD.length:=by unfold Bs.J7;rw[ul.1,OO];omega
 have iQ:((q1.J7 fns names).drop names.length).kD.length<=1000000000:=by simp[Bs.drop];omega
 have f0:Fr (λ_=>False) w _:=eU _ _;have CC:=eu (hc _ f0);have F0:=eu f0;have HU:=eu (kK eI (kK eN (kK gL (kK iQ IU))));clear _h hc IU eI eN gL iQ f0 ul;go_enter func95,ntmps95;go_wp2_with fail;refine CC.o.mono ?_;rintro r w1⟨nv,rfl,Z1,bh,bf,cA,z1,b1,f1,n1,n2,n3,af⟩;obtain⟨np,nc,_,rfl,_⟩:=Pc af.1;have CU:=eu (WL b1 af HU.o.2.2.2.2 hl aC cW);have X1:=eu (kK z1 (kK f1 (kK n1 (kK n2 n3))));clear CC z1 b1 f1 n1 n2 n3 af i0 i1 i2;go_wp2_with fail;refine CU.o.mono ?_;rintro r w2⟨rfl,Z2,im,iq,ik,z1,b1,f1,n1,n2,n3⟩;have CD:=eu (zeg b1 HU.o.2.1 HU.o.2.2.1);have X2:=eu (kK z1 (kK f1 (kK n1 (kK n2 n3))));clear CU z1 b1 f1 n1 n2 n3;go_wp2_with fail;refine CD.o.mono ?_;rintro r w3⟨rfl,Z3,j8,j9,j7,z1,b1,f1,n1,n2,n3⟩;have CP:=eu (RJ (i:=.close blk names.length) b1 rfl HU.o.1 HU.o.2.2.2.1);have X3:=eu (kK z1 (kK f1 (kK n1 (kK n2 n3))));clear CD z1 b1 f1 n1 n2 n3;go_wp2_with fail;refine CP.o.mono ?_;rintro r w4⟨rfl,hd⟩;have D4:=eu hd;clear CP hd;go_wp2
 first|go_end0|refine Ju rfl rfl ?_
 refine⟨rfl,Hz F0.o ?_⟩;obtain⟨z1,f1,n1,n2,n3⟩:=X1.o;refine kU z1 f1 n1 n2 n3 ?_;obtain⟨z1,f1,n1,n2,n3⟩:=X2.o;refine kU z1 f1 n1 n2 n3 ?_;obtain⟨z1,f1,n1,n2,n3⟩:=X3.o;exact kU z1 f1 n1 n2 n3 D4.o
theorem zvF:(prog.info? 290).map (λi=>(i.zero,i.size,i.bytes))=some (some (.agg #[.int .i64 0,.int .i64 0,.int .i64 0]),3,24):=by kernel_rfl
theorem zxj:∀args w,(callFunc 159 args).run prog w=.ok (.enter 159 args) w:=by
 intro args w
 kernel_rfl
structure AS (Z:Nat->Prop) (w wr:World) (cb bb:Nat) (rv sv kv v:Value) (fns:List Cp.Nm) (q:Bs) (k:Nat) (Zk:Nat->Prop) (dM:Value) (bl:List (Nat × List Ds)) (lk:List (Nat × Nat × Nat)):Prop where
 z:∀j,j<w.heap.size->(Zk j↔Z j)
 b:BS Zk wr cb bb dM sv kv fns ⟨bl,q.kD,q.code⟩
 f:Fr (KL cb bb rv sv kv) w wr
 n:Mv w rv dM
 row:wr.ownsRow w.heap.size 290 3 v k (QB lk)
 nz:∀j,v.ownBlock=some j->¬Zk j/\dM.ownBlock≠some j
 len:lk.length=k
variable {v:Value}{bl:List (Nat × List Ds)}{g cap:Nat}
theorem AS.next{wr w1 w2 tS w3:World}{k:Nat}{Zk:Nat->Prop}{dM:Value}{wi:List (Nat × List Ds)}{lk:List (Nat × Nat × Nat)}(h0:BS Z w cb bb rv sv kv fns q)(h:AS Z w wr cb bb rv sv kv v fns q k Zk dM bl lk)(f1:Fr (λ_=>False) wr w1)(d:NO Zk w1 cb dM fns wi w2)(f2:Fr (λ_=>False) w2 tS){a:Nat × Nat × Nat}(ai:w3.ownsRow w.heap.size 290 3 (.slice (some ⟨g,0,none⟩) (k+1) cap) (k+1) (QB lk++[.int .i64 a.1,.int .i64 a.2.1,.int .i64 a.2.2]))(hg:tS.grownBy w3 v.ownBlock)(aV:v.ownBlock=some g\/g=tS.heap.size):∃Z' aO,AS Z w w3 cb bb rv sv kv (.slice (some ⟨g,0,none⟩) (k+1) cap) fns q (k+1) Z' aO wi (lk++[a]):=by
 have pU:=h0.Nr;have fQ:=h0.Ns;have bK:=h0.slt;have dF:=h0.Pt;have kf:=h0.Kq.lt;have dJ:∀j,v.ownBlock=some j->w.heap.size<=j/\j<wr.heap.size:=λj hj=>h.row.lt j hj
 have s1:=f1.size;have s2:=f2.size;have sf:=h.f.size;obtain⟨Z',aO,z1,c1,g1,n1⟩:=d;have b1:BS Z' w2 cb bb aO sv kv fns ⟨wi,q.kD,q.code⟩:=by
  obtain⟨vs,cK,aG⟩:=(h.b.qR f1).Pz;have hh:=h.b.qR f1;have iJ:¬(bb=cb\/dM.ownBlock=some bb):=by
   rintro(e|e)
   .exact hh.ne e.symm
   .exact hh.rc.2 e
  have xR:∀k,sv.ownBlock=some k->¬(k=cb\/dM.ownBlock=some k):=by
   rintro k e1(e|e)
   .exact hh.sc.1 (e▸e1)
   .exact hh.rs k e e1
  have xO:∀k,kv.ownBlock=some k->¬(k=cb\/dM.ownBlock=some k):=by
   rintro k e1(e|e)
   .exact hh.kc.1 (e▸e1)
   .exact hh.rk k e e1
  have cV:=hh.Kq.lt;refine⟨c1.OA,gd hh.Kq g1 iJ,c1.OL,g1.gb hh.Og xR,⟨vs,g1.gb cK xO,aG.Ku g1 (λk _ hz he=>hh.zk k hz (by rcases he with e|e;exact .inl e;exact .inr (.inr (.inl e)))) (λk hk hz=>(z1 k hk).2 hz)⟩,c1.Ny,?_,hh.ne,⟨c1.rc,?_⟩,hh.sc,hh.kc,?_,?_,hh.sk⟩
  .rintro k hz(e|e|e|e|e)
   .exact(c1.zk k hz).1 e
   .subst e;exact hh.zk k ((z1 k cV).1 hz) (.inr (.inl rfl))
   .exact(c1.zk k hz).2 e
   .exact hh.zk k ((z1 k (hh.slt k e)).1 hz) (.inr (.inr (.inr (.inl e))))
   .exact hh.zk k ((z1 k (hh.Pt k e)).1 hz) (.inr (.inr (.inr (.inr e))))
  .intro e;rcases n1 bb e with e|e
   .exact hh.rc.2 e
   .omega
  .intro k e e';rcases n1 k e with e|e
   .exact hh.rs k e e'
   .have:=hh.slt k e';omega
  .intro k e e';rcases n1 k e with e|e
   .exact hh.rk k e e'
   .have:=hh.Pt k e';omega
 have qg:∀j,v.ownBlock=some j->¬Z' j/\aO.ownBlock≠some j:=λj hj=>⟨λe=>(h.nz j hj).1 ((z1 j (by have:=(dJ j hj).2;omega)).1 e),λe=>by
  rcases n1 j e with e|e
  .exact(h.nz j hj).2 e
  .have:=(dJ j hj).2;omega⟩
 have f3:Fr (λj=>v.ownBlock=some j) tS w3:=(eU _ _).UT hg (λk _ e=>e);have b2:=b1.qR f2;have bw:=g1.size;refine⟨Z',aO,⟨λj hj=>(z1 j (by omega)).trans (h.z j hj),b2.SS f3 ?_,?_,?_,?_,?_,by simp[h.len]⟩⟩
 .rintro k(hk|hk)e
  .exact(qg k e).1 hk
  .have:=dJ k e;rcases hk with e'|e'|e'|e'|e'
   .omega
   .omega
   .exact(qg k e).2 e'
   .have:=bK k e';omega
   .have:=dF k e';omega
 .have e1:Fr (KL cb bb rv sv kv) w tS:=by
   refine⟨f2.os.trans (g1.os.trans (f1.os.trans h.f.os)),f2.tape.trans (g1.tape.trans (f1.tape.trans h.f.tape)),f2.output.trans (g1.output.trans (f1.output.trans h.f.output)),by omega,λi hi hK=>?_⟩;rw[f2.block i (by omega) (by simp),g1.block i (by omega) ?_,f1.block i (by omega) (by simp),h.f.block i hi hK];rintro(e|e)
   .exact hK (.inl e)
   .rcases h.n i e with e|e
    .exact hK (.inr (.inr (.inl e)))
    .omega
  exact e1.UT hg (λk hk e=>by have:=dJ k e;omega)
 .exact h.n.trans (kH (kq wr dM) n1 s1) sf
 .rw[show QB (lk++[a])=QB lk++[.int .i64 a.1,.int .i64 a.2.1,.int .i64 a.2.2] by simp[QB]];exact ai
 .intro j hj;simp only[Value.ownBlock,IA]at hj;subst hj;rcases aV with e|e
  .exact qg _ e
  .refine⟨λe'=>?_,λe'=>?_⟩
   .have:=b1.Ny _ e';omega
   .have:=b1.Ns _ e';omega
variable {M N n:Nat}
theorem zsx(hW:Nw M N n){ba bc bn:Nat}{av nv:Value}{nA:List (Nat × List Tok)}{ag:List Ex}{nvs bvs:List Value}(h:BS Z w cb bb rv sv kv fns q)(ha:oH w ba [av] 171)(za:Z ba)(hc:oH w bc [.pointer (some ⟨cb,0,none⟩)] 83)(zc:Z bc)(lq:oH w bn [nv] 38)(zn:Z bn)(h3:ag.length=nA.length)(h4:nvs.length=nA.length)(h5:bvs.length=nA.length)(h6:Row Z w 240 3 av nA.length (OF nA nvs bvs))(hn:Row Z w 9 1 nv names.length (strCells names))(h7:∀(i:Nat)(a:Nat × List Tok)(nv:Value),nA[i]?=some a->nvs[i]?=some nv->Row Z w 88 2 nv a.2.length (Ms a.2))(h8:∀(i:Nat)(bv:Value)(p:Ex),bvs[i]?=some bv->ag[i]?=some p->qU Z w n bv p)(aH:nA≠[])(aX:∀d q,d∈ag->(Cp.work (Cp.free N) fns n d 0 q).blocks.length<=q.blocks.length+8*Cp.wt N d)(aJ:∀(i:Nat)(a:Nat × List Tok)(d:Ex)(b:List (Nat × List Ds)),nA[i]?=some a->ag[i]?=some d->b.length+8*Cp.wt N d<=1000000->Fit M N fns ⟨b,(texts a.2++names).reverse,[]⟩ d/\names.length+a.2.length<=1000000)(dh:q.blocks.length+(ag.map λd=>8*Cp.wt N d+1).sum<=1000000)(aN:q.code.length<=1000000)(aU:nA.length<=1000000):
  Calls prog 159 #[.pointer (some ⟨bb,0,none⟩),.pointer (some ⟨ba,0,none⟩),.pointer (some ⟨bc,0,none⟩),.pointer (some ⟨bn,0,none⟩)] w λr w'=>r=.returned (.tuple #[]) /\
   ES Z w cb bb rv sv kv fns ((Cp.armsOf (Cp.work (Cp.free N) fns n) names nA ag q []).1.write (.choose (Cp.armsOf (Cp.work (Cp.free N) fns n) names nA ag q []).2)) w':=by
 obtain⟨i0,dt,bq,aP,bF⟩:=nC zvF;have HI:=eu dt;clear dt;have HZ:=eu (kK bq (kK aP bF));clear bq aP bF;have bp:0<nA.length:=Qw.2 aH;have eM:=Mq h6;obtain⟨g0,ac,Eb⟩:∃g0 ac,av=.slice (some ⟨g0,0,none⟩) nA.length ac:=by
  rcases eM with e|⟨g,c,e⟩
  .rcases h6.1.2 with⟨_,h0⟩|⟨_,_,_,h0,_⟩
   .omega
   .rw[e]at h0;cases h0
  .exact⟨g,c,e⟩
 subst Eb;obtain⟨np,nn,nc,rfl⟩:=Jk hn;have c0:=al ha 0;simp at c0;have HH:=eu h;have HA:=eu (kK (kK ha za) (kK (kK hc zc) (kK lq zn)));have H3:=eu h3;have H4:=eu h4;have H5:=eu h5;have H6:=eu h6;have HN:=eu hn;have H7:=eu h7;have H8:=eu h8;have BQ:=eu aX;have Ca:=eu aJ;have jP:=eu dh;have HW:=eu hW;have uf:=eu aH;clear h ha za hc zc lq zn h3 h4 h5 h6 hn h7 h8 aX aJ dh hW eM aH;go_enter func159,ntmps159;go_wp2_with fail;clear c0
 go_loopg [5,10] nA.length (λgk v iv wr=>∃(k:Nat)(Zk:Nat->Prop)(dM:Value)(bl:List (Nat × List Ds))(lk:List (Nat × Nat × Nat)),iv=.int .i64 k/\k+gk=nA.length/\AS Z w wr cb bb rv sv kv v fns q k Zk dM bl lk /\
  Cp.armsOf (Cp.work (Cp.free N) fns n) names (nA.drop k) (ag.drop k) ⟨bl,q.kD,q.code⟩ lk=Cp.armsOf (Cp.work (Cp.free N) fns n) names nA ag q []/\bl.length+((ag.drop k).map λd=>8*Cp.wt N d+1).sum<=1000000)
 case atStart=>exact⟨0,Z,rv,q.blocks,[],rfl,by omega,⟨λ_ _=>P2,HH.o,eU _ _,kq _ _,kt _ _ _ _,by simp[Value.ownBlock],rfl⟩,by simp,by simpa using jP.o⟩
 case round=>
  obtain⟨k,Zk,dM,bl,lk,rfl,hk,hS,hE,hB⟩:=hrel;obtain⟨va,vn,vc,rfl⟩:=OG hS.row;have h0:=HH.o;have oT:=h0.box hS.f hS.z HA.o.2.1.1 HA.o.2.1.2;have uN:=h0.box hS.f hS.z HA.o.2.2.1 HA.o.2.2.2;have HS:=eu hS;by_cases aj:k<nA.length
  .obtain⟨a,ke⟩:∃a,nA[k]?=some a:=⟨nA[k],Iv aj⟩;obtain⟨p,hp⟩:∃p,ag[k]?=some p:=⟨_,Iv (by rw[H3.o];exact aj)⟩;obtain⟨pv,eD⟩:∃nv,nvs[k]?=some nv:=⟨_,Iv (by rw[H4.o];exact aj)⟩;obtain⟨bv,cC⟩:∃bv,bvs[k]?=some bv:=⟨_,Iv (by rw[H5.o];exact aj)⟩;have hP:=h0.row hS.f hS.z (H7.o k a pv ke eD);have hR:=h0.rep hS.f hS.z (H8.o k bv p cC hp);have rH:=h0.row hS.f hS.z HN.o;obtain⟨pp,pn,pc,rfl⟩:=Jk hP;obtain⟨bt,bx,rfl⟩:=JQ hR;have aE:=W5 nA nvs bvs k a _ _ ke eD cC;have af:=(h0.row hS.f hS.z H6.o).1;have c0:=(af.cellAt (k*3) (by omega)).trans aE.1;have c1:=(af.cellAt (k*3+1) (by omega)).trans aE.2.1;have c2:=(af.cellAt (k*3+2) (by omega)).trans aE.2.2;have dF:(0:Int)<=(k:Int):=R6 _;have rA:nA.drop k=a::nA.drop (k+1):=by rw[Q2 aj];rw[Iv aj]at ke;cases ke;rfl
   have jS:ag.drop k=p::ag.drop (k+1):=by
    have gu:k<ag.length:=by rw[H3.o];exact aj
    rw[Q2 gu];rw[Iv gu]at hp;cases hp;rfl
   rw[jS,Ki,MW]at hB;obtain⟨hF,zH⟩:=Ca.o k a p bl ke hp (by omega);have rX:(Cp.work (Cp.free N) fns n p 0 ⟨bl,(texts a.2++names).reverse,[]⟩).blocks.length<=bl.length+8*Cp.wt N p:=BQ.o p ⟨bl,(texts a.2++names).reverse,[]⟩ (ML hp);obtain⟨qa,sW⟩:∃qa,qa=Cp.work (Cp.free N) fns n p 0 ⟨bl,(texts a.2++names).reverse,[]⟩:=⟨_,rfl⟩;obtain⟨sl,aK⟩:∃sl,sl=(texts a.2++names).reverse:=⟨_,rfl⟩;rw[<-sW]at rX;rw[<-aK]at sW hF;have gO:Cp.armsOf (Cp.work (Cp.free N) fns n) names (nA.drop (k+1)) (ag.drop (k+1)) ⟨qa.blocks++[(sl.length,qa.code)],q.kD,q.code⟩ (lk++[(a.1,a.2.length,qa.blocks.length)])=Cp.armsOf (Cp.work (Cp.free N) fns n) names nA ag q []:=by rw[<-hE,rA,jS,Cp.armsOf,sW,aK];rfl
   have jh:(qa.blocks++[(sl.length,qa.code)]).length+((ag.drop (k+1)).map λd=>8*Cp.wt N d+1).sum<=1000000:=by simp only[IJ,Ng];omega
   have f1:Fr (λ_=>False) wr (wr.alloc (.cells #[.int .i64 a.1,.slice pp pn pc,.iface bt bx] 240)):=(eU _ _).alloc _;have CA:=eu (zw6 (tag:=a.1) HW.o aK sW (hS.b.qR f1).cs (hR.qR f1) (mq hP f1) (mq rH f1) hF zH (by omega));have d0:=al oT.1 0;have d1:=al uN.1 0;have d2:(wr.alloc (.cells #[.int .i64 a.1,.slice pp pn pc,.iface bt bx] 240)).cell? ⟨bc,0,none⟩=some (.pointer (some ⟨cb,0,none⟩)):=al (mr oT.1 _) 0;have d3:(wr.alloc (.cells #[.int .i64 a.1,.slice pp pn pc,.iface bt bx] 240)).cell? ⟨bn,0,none⟩=some (.slice np nn nc):=al (mr uN.1 _) 0;simp at d0 d1;have fU:=eu (kK gO jh);have F1:=eu f1;clear hS hE hB oT uN hP hR rH aE af rA jS hF zH rX sW aK gO jh f1 h0 ke hp eD cC;go_wp2_with fail;refine CA.o.mono ?_;rintro r w2⟨rfl,hd⟩;have ie:∀j,(Value.slice va vn vc).ownBlock=some j->¬(j=cb\/dM.ownBlock=some j):=by
    rintro j hj(e|e)
    .have:=HS.o.row.lt j hj;have:=HH.o.Nr;omega
    .exact(HS.o.nz j hj).2 e
   have cT:w.heap.size<=w2.heap.size:=by obtain⟨_,_,_,_,g1,_⟩:=hd;exact yM HS.o.f.size (yM F1.o.size g1.size)
   have jO:Hid ((w2.alloc (.cells #[.int .i64 a.1,.int .i64 a.2.length,.int .i64 qa.blocks.length] 290)).ownsRow w.heap.size 290 3 (.slice va vn vc) k (QB lk)):=eu (by
    obtain⟨_,_,_,_,g1,_⟩:=hd;have hw:=HS.o.row;refine⟨hw.1,?_⟩;rcases hw.2 with e|⟨g,cap,cur,e,hg,hb,r⟩
    .exact .inl e
    .refine .inr ⟨g,cap,cur,e,hg,?_,r⟩;have fX:=(Nz.1 hb).1;rw[((eU (λ_=>False) w2).alloc _).block g (by have:=F1.o.size;have:=g1.size;omega) (by simp),g1.block g (by have:=F1.o.size;omega) (ie g (by rw[e];rfl)),F1.o.block g fX (by simp)];exact hb)
   have HD:=eu hd;have nS:k<=1000000:=by omega
   clear hd CA c0 c1 c2 d0 d1 d2 d3 ie;go_wp2_with (at_builtin;refine wpList_append_lies _ rfl _ _ _ rfl w.heap.size 290 i0 _ 3 24 underlying274 HI.o HZ.o.1 HZ.o.2.1 HZ.o.2.2 rfl (by omega) _ k (QB lk) rfl jO.o ⟨w2.heap.size,0,none⟩ 1 1 [.int .i64 a.1,.int .i64 a.2.length,.int .i64 qa.blocks.length] rfl rfl (World.news_of_block (cs:=#[.int .i64 a.1,.int .i64 a.2.length,.int .i64 qa.blocks.length]) (t:=290) (fr:=(0,0)) (heap_alloc_new w2 _)) (by simp[Value.oneCell']) (by omega) (by unfold maxLen;omega) (by omega) (by simp;omega) (w2.heap.size+1) (by simp) ?_;intro g cap w3 ai ah aV sG);obtain⟨Z',aO,hA⟩:=AS.next (a:=(a.1,a.2.length,qa.blocks.length)) HH.o HS.o F1.o HD.o ((eU (λ_=>False) w2).alloc _) ai ah (by rcases aV with e|e;exact .inl e;exact .inr (by rw[gM];exact e));have BA:=eu hA;clear hA ai ah aV sG
   go_roundg (nA.length-(k+1))
   case measure=>omega
   case rel=>exact⟨k+1,Z',aO,_,_,by go_num,by omega,BA.o,fU.o.1,fU.o.2⟩
  .have aG:k=nA.length:=by omega
   have gO:Cp.armsOf (Cp.work (Cp.free N) fns n) names nA ag q []=(⟨bl,q.kD,q.code⟩,lk):=by rw[<-hE,aG,Jd,Cp.armsOf];simp
   have mO:lk≠[]:=λe=>by have:=hS.len;rw[e]at this;simp at this;omega
   have hw:=hS.row;have iD:=hS.b.more (A:=λj=>(Value.slice va vn vc).ownBlock=some j) (λj hj=>by
    have hl:=hw.lt j hj;refine⟨hl.2,?_⟩;have h1:=HH.o.Nr;have h2:=HH.o.slt;have h3:=HH.o.Pt;have h4:=HH.o.Kq.lt;rintro(e|e|e|e|e)
    .omega
    .omega
    .exact(hS.nz j hj).2 e
    .have:=h2 j e;omega
    .have:=h3 j e;omega)
   have CW:=eu (Re (i:=.choose lk) (v:=.iface 276 (.agg #[.slice va vn vc])) iD ⟨_,rfl,⟨by have:=Ou hw (Kc _);rwa [<-hS.len]at this,λj hj=>.inr hj⟩,mO⟩ (by simp;omega));have fU:=eu gO;have kk:∀j,j<w.heap.size->((Zk j\/(Value.slice va vn vc).ownBlock=some j)↔Z j):=λj hj=>by
    rw[<-hS.z j hj];constructor
    .rintro(e|e)
     .exact e
     .have:=hw.lt j e;omega
    .exact .inl
   have X1:=eu (kK kk (kK hS.f hS.n));clear hS hE hB gO mO hw iD kk h0 oT uN aG;go_wp2_with fail;refine CW.o.mono ?_;rintro r w2⟨rfl,hd⟩;have HD:=eu hd;clear hd CW;go_wp2
   first|go_end0|refine Ju rfl rfl ?_
   refine⟨rfl,?_⟩;rw[fU.o];exact kU X1.o.1 X1.o.2.1 X1.o.2.2 (kq _ _) (kq _ _) HD.o
theorem zu7(hW:Nw M N n){av nv:Value}{sl:List Cp.Nm}{nA:List (Nat × List Tok)}{ag:List Ex}{nvs bvs:List Value}(aK:sl=([]::names).reverse)(hq:q=(Cp.armsOf (Cp.work (Cp.free N) fns n) names nA ag ⟨bl,sl,[]⟩ []).1.write (.choose (Cp.armsOf (Cp.work (Cp.free N) fns n) names nA ag ⟨bl,sl,[]⟩ []).2))(h:CS Z w cb rv fns bl)(h3:ag.length=nA.length)(h4:nvs.length=nA.length)(h5:bvs.length=nA.length)(h6:Row Z w 240 3 av nA.length (OF nA nvs bvs))(hn:Row Z w 9 1 nv names.length (strCells names))(h7:∀(i:Nat)(a:Nat × List Tok)(nv:Value),nA[i]?=some a->nvs[i]?=some nv->Row Z w 88 2 nv a.2.length (Ms a.2))(h8:∀(i:Nat)(bv:Value)(p:Ex),bvs[i]?=some bv->ag[i]?=some p->qU Z w n bv p)(aH:nA≠[])(aX:∀d q,d∈ag->(Cp.work (Cp.free N) fns n d 0 q).blocks.length<=q.blocks.length+8*Cp.wt N d)(aJ:∀(i:Nat)(a:Nat × List Tok)(d:Ex)(b:List (Nat × List Ds)),nA[i]?=some a->ag[i]?=some d->b.length+8*Cp.wt N d<=1000000->Fit M N fns ⟨b,(texts a.2++names).reverse,[]⟩ d/\names.length+a.2.length<=1000000)(dh:bl.length+(ag.map λd=>8*Cp.wt N d+1).sum<=1000000)(aU:nA.length<=1000000)(ev:names.length<=100000)(hl:q.blocks.length<=1000000000):
  Calls prog 93 #[.pointer (some ⟨cb,0,none⟩),av,nv] w λr w'=>r=.returned (.int .i64 q.blocks.length)/\NO Z w cb rv fns (q.blocks++[(sl.length,q.code)]) w':=by
 have mc:∀(fn:Fn)(first cap:Array Value)(w:World),(Instr.makeFunc fn first cap).run prog w=.ok (.func fn first cap) w:=λ_ _ _ _=>rfl
 obtain⟨aa,an,ac,rfl⟩:=Jk h6;obtain⟨np,nn,nc,rfl⟩:=Jk hn;have f0:Fr (λ_=>False) w (((w.alloc (.cells #[.pointer (some ⟨cb,0,none⟩)] 83)).alloc (.cells #[.slice aa an ac] 171)).alloc (.cells #[.slice np nn nc] 38)):=(((eU _ _).alloc _).alloc _).alloc _;have kM:=mr (mr (gH w [.pointer (some ⟨cb,0,none⟩)] 83) (.cells #[.slice aa an ac] 171)) (.cells #[.slice np nn nc] 38);have oP:=mr (gH (w.alloc (.cells #[.pointer (some ⟨cb,0,none⟩)] 83)) [.slice aa an ac] 171) (.cells #[.slice np nn nc] 38);have xd:=gH ((w.alloc (.cells #[.pointer (some ⟨cb,0,none⟩)] 83)).alloc (.cells #[.slice aa an ac] 171)) [.slice np nn nc] 38;rw[gM]at oP;rw[gM,gM]at xd;have eR:=eu kM;have pM:=eu oP;have hU:Hid (oH (((w.alloc (.cells #[.pointer (some ⟨cb,0,none⟩)] 83)).alloc (.cells #[.slice aa an ac] 171)).alloc (.cells #[.slice np nn nc] 38)) (w.heap.size+2) [.slice np nn nc] 38):=eu xd;have F0:=eu f0;have HN:=eu hn;have HH:=eu (kK h hl);have HR:=eu (kK h3 (kK h4 (kK h5 (kK h6 (kK h7 h8)))));have HK:=eu (kK aH (kK aX (kK aJ dh)));have iw:=eu (kK aK hq);have HW:=eu hW;clear hW h hn hl kM oP xd f0 aK hq h3 h4 h5 h6 h7 h8 aH aX aJ dh;go_enter func93,ntmps93;go_wp2_with fail;generalize((w.alloc (.cells #[.pointer (some ⟨cb,0,none⟩)] 83)).alloc (.cells #[.slice aa an ac] 171)).alloc (.cells #[.slice np nn nc] 38)=w0 at eR pM hU F0|-;have GV:w0.cell? ⟨w.heap.size,0,none⟩=some (.pointer (some ⟨cb,0,none⟩)):=al eR.o 0;have GW:w0.cell? ⟨w.heap.size+2,0,none⟩=some (.slice np nn nc):=al hU.o 0
 have AA:Hid (∀(W:World)(sp:Option Addr)(sn sc:Nat),Fr (λ_=>False) w0 W->Names w0.heap.size W (.slice sp sn sc) sl->Calls prog 154 #[.pointer (some ⟨cb,0,none⟩),.slice sp sn sc,.func (.func 159) #[] #[.pointer (some ⟨w.heap.size+1,0,none⟩),.pointer (some ⟨w.heap.size,0,none⟩),.pointer (some ⟨w.heap.size+2,0,none⟩)]] W λr w'=>r=.returned (.int .i64 q.blocks.length)/\NO Z w cb rv fns (q.blocks++[(sl.length,q.code)]) w'/\w'.cell? ⟨w.heap.size,0,none⟩=some (.pointer (some ⟨cb,0,none⟩))/\w'.cell? ⟨w.heap.size+2,0,none⟩=some (.slice np nn nc)):=eu (by
  intro W sp sn sc f2 bA;obtain⟨h,hl⟩:=HH.o;obtain⟨h3,h4,h5,h6,h7,h8⟩:=HR.o;obtain⟨aH,aX,aJ,dh⟩:=HK.o;have f3:=F0.o.trans f2;have bq:=hU.o.lt;have bK:∀k,(Value.slice sp sn sc).ownBlock=some k->w.heap.size+3<=k:=λk hk=>by have:=bA.2 k hk;omega
  have hA:∀k,(k=w.heap.size\/k=w.heap.size+1\/k=w.heap.size+2)->k<W.heap.size/\k≠cb/\rv.ownBlock≠some k:=λk hk=>⟨by have:=f2.size;omega,by have:=h.Nr;omega,λe=>by have:=h.Ns k e;omega⟩
  have uB:=(h.qR f3).more hA;refine(UJ (q:=q) zxj uB (Ou bA.1 (Kc _)) (λk hk=>⟨by have:=h.Nr;have:=bK k hk;omega,λe=>by have:=h.Ns k e;have:=bK k hk;omega,λe=>by
    have:=bK k hk;rcases e with e|e
    .have:=h.Ny k e;omega
    .omega⟩) (λW' bb bQ hb=>?_) hl).mono ?_
  .rw[iw.o.2];have f4:=f3.trans bQ;refine zsx HW.o hb (gd (gd pM.o f2) bQ) (.inr (.inr (.inl rfl))) (gd (gd eR.o f2) bQ) (.inr (.inl rfl)) (gd (gd hU.o f2) bQ) (.inr (.inr (.inr rfl))) h3 h4 h5 ((mq h6 f4).mono (λk _ hk=>.inl hk)) ((mq HN.o f4).mono (λk _ hk=>.inl hk)) (λi a nv hi hv=>(mq (h7 i a nv hi hv) f4).mono (λk _ hk=>.inl hk)) (λi bv p hi hp=>((h8 i bv p hi hp).qR f4).mono (λk _ hk=>.inl hk)) aH aX aJ dh (by simp) aU
  .rintro r w6⟨rfl,Z',aO,z1,hc,f6,n6⟩;refine⟨rfl,zqn f3 (λk hk=>by have:=bK k hk;omega) (λk hk=>?_) hc f6 n6,?_,?_⟩
   .rw[z1 k (Kl hk f3.size)];constructor
    .rintro(e|e)
     .exact e
     .omega
    .exact .inl
   .refine al (gd (gd eR.o f2) f6 ?_) 0;rintro(e|e|e)
    .have:=h.Nr;omega
    .have:=h.Ns _ e;omega
    .have:=bK _ e;omega
   .refine al (gd (gd hU.o f2) f6 ?_) 0;rintro(e|e|e)
    .have:=h.Nr;omega
    .have:=h.Ns _ e;omega
    .have:=bK _ e;omega)
 go_region_held3 (λW=>W.cell? ⟨w.heap.size,0,none⟩=some (.pointer (some ⟨cb,0,none⟩))/\W.cell? ⟨w.heap.size+2,0,none⟩=some (.slice np nn nc)) (first|(refine⟨?_,?_⟩<;>assumption)|go_keep) (first
  |(go_at_call 155;refine(WY _).mono ?_;rintro e wA⟨rfl,pj⟩;have FA:Hid (Fr (λ_=>False) w0 wA):=eu (by rw[pj];exact((eU _ _).drew).alloc _);have A1:Hid (oH wA w0.heap.size [.string ⟨#[]⟩] 9):=eu (by rw[pj];exact gH w0.drew [.string ⟨#[]⟩] 9);clear pj;have GX:wA.cell? ⟨w.heap.size,0,none⟩=some (.pointer (some ⟨cb,0,none⟩)):=al (gd eR.o FA.o) 0;have GY:wA.cell? ⟨w.heap.size+2,0,none⟩=some (.slice np nn nc):=al (gd hU.o FA.o) 0;
    have G5:(wA.alloc (.cells #[.slice (some ⟨w0.heap.size,0,none⟩) 1 1,.slice np nn nc] 38)).cell? ⟨w.heap.size,0,none⟩=some (.pointer (some ⟨cb,0,none⟩)):=al (mr (gd eR.o FA.o) _) 0;have G6:(wA.alloc (.cells #[.slice (some ⟨w0.heap.size,0,none⟩) 1 1,.slice np nn nc] 38)).cell? ⟨w.heap.size+2,0,none⟩=some (.slice np nn nc):=al (mr (gd hU.o FA.o) _) 0)
  |(go_at_call 51;have f11:Fr (λ_=>False) wA (wA.alloc (.cells #[.slice (some ⟨w0.heap.size,0,none⟩) 1 1,.slice np nn nc] 38)):=(eU _ _).alloc _;refine(WV (gH wA [.slice (some ⟨w0.heap.size,0,none⟩) 1 1,.slice np nn nc] 38) (ztH (gd A1.o f11)) (mq HN.o (F0.o.trans (FA.o.trans f11))) (by simp;omega)).mono ?_;rintro r w2⟨sv,rfl,bA,f2⟩;have lF:Names _ w2 sv sl:=iw.o.1▸bA;obtain⟨sp,sn,sc,rfl⟩:=Jk bA;have F2:=eu (FA.o.trans (f11.trans f2));have um:=eu lF;have mo:=eu (yM FA.o.size f11.size);clear bA lF f2 f11;have GZ:w2.cell? ⟨w.heap.size,0,none⟩=some (.pointer (some ⟨cb,0,none⟩)):=al (gd eR.o F2.o) 0;have G4:w2.cell? ⟨w.heap.size+2,0,none⟩=some (.slice np nn nc):=al (gd hU.o F2.o) 0)
  |(go_at_call 154;refine(AA.o _ _ _ _ F2.o (um.o.NB mo.o)).mono ?_;rintro r w6⟨rfl,hd,G7,G8⟩;have HD:=eu hd;clear hd))
 all_goals
  go_wp2;go_ret;exact⟨rfl,HD.o⟩
theorem zvG:(prog.info? 91).map (λi=>(i.zero,i.size,i.bytes))=some (some .nilIface,1,16):=by kernel_rfl
def U1 (Z:Nat->Prop) (w:World) (n:Nat) (fH:List Value) (es:List Ex):Prop:=fH.length=es.length/\∀(i:Nat)(v:Value)(e:Ex),fH[i]?=some v->es[i]?=some e->qU Z w n v e
variable {es:List Ex}{e:Ex}
theorem U1.snoc{fH:List Value}(h:U1 Z w n fH es)(hr:qU Z w n v e):U1 Z w n (fH++[v]) (es++[e]):=by
 refine⟨by simp[h.1],λi u x hu hx=>?_⟩;rw[OQ]at hu hx;by_cases hj:i<es.length
 .rw[nB (by rw[h.1];exact hj)]at hu;rw[nB hj]at hx;exact h.2 i u x hu hx
 .rw[pL (by rw[h.1];exact hj),h.1]at hu;rw[pL hj]at hx;have h1:i-es.length=0:=by
   have:=(Dq.1 hx).1;simp at this;omega
  rw[h1]at hu hx;simp only[Pk,IA]at hu hx;rw[<-hu,<-hx];exact hr
def VW (Z:Nat->Prop) (w:World) (n:Nat) (fe:Ex) (es:List Ex) (r:Ending) (w':World):Prop:=
 ∃fv av fH,r=.returned (.tuple #[fv,av])/\qU Z w n fv fe/\w'.ownsRow w.heap.size 91 1 av es.length fH/\U1 Z w n fH es/\Fr (λ_=>False) w w'
variable {t1:TypeId}{x1:Value}
theorem Ul(i0:TN t1 163 (.agg #[.nilIface,.nilIface])){v2:Value}{e1 e2:Ex}(h1:qU Z w n (.iface t1 x1) e1)(h2:qU Z w n v2 e2):
  Calls prog 143 #[.agg #[.iface t1 x1,v2]] w (VW Z w n e1 [e2]):=by
 obtain⟨t2,x2,rfl⟩:=JQ h2;have B0:=eu (mr (gH w [.iface t1 x1,.iface t2 x2] 163) (.cells #[.nilIface,.nilIface] 163));have F0:Hid (Fr (λ_=>False) w ((w.alloc (.cells #[.iface t1 x1,.iface t2 x2] 163)).alloc (.cells #[.nilIface,.nilIface] 163))):=eu (((eU _ _).alloc _).alloc _);have HH:=eu (kK h1 h2);clear h1 h2;go_enter func143,ntmps143;go_wp2_with fail;generalize(w.alloc (.cells #[.iface t1 x1,.iface t2 x2] 163)).alloc (.cells #[.nilIface,.nilIface] 163)=w1 at B0 F0|-;have q0:=al B0.o 0;have q1:=al B0.o 1;simp at q0 q1;have q2:(w1.alloc (.cells #[.iface t2 x2] 91)).cell? ⟨w.heap.size,0,none⟩=some (.iface t1 x1):=al (mr B0.o _) 0;have q3:(w1.alloc (.cells #[.iface t2 x2] 91)).cell? ⟨w.heap.size,1,none⟩=some (.iface t2 x2):=al (mr B0.o _) 1;clear i0
 go_region
 all_goals
  go_wp2_with fail;refine mF (Jy rfl _ _ _) rfl ?_;refine⟨_,_,[.iface t2 x2],rfl,HH.o.1,?_,⟨rfl,λi v e hv he=>?_⟩,(F0.o.alloc _).drew⟩
  .exact⟨rfl,.inr ⟨w1.heap.size,1,#[.iface t2 x2],rfl,F0.o.size,heap_alloc_new w1 _,qP _,by unfold maxLen;omega,rfl,rfl⟩⟩
  .cases i with
   |zero=>simp at hv he;rw[<-hv,<-he];exact HH.o.2
   |succ i=>simp at hv
variable {t2:TypeId}{x2:Value}
theorem zpT{v2:Value}{e2 fe:Ex}(h2:qU Z w n v2 e2)(xx:es.length<=1000000)(hc:∀W,Fr (λ_=>False) w W->Calls prog 143 #[.agg #[.iface t1 x1,.iface t2 x2]] W (VW Z W n fe es))(uI:∀W fv,Fr (λ_=>False) w W->qU Z W n fv fe->qU Z w n fv fe)(r7:∀W fH,Fr (λ_=>False) w W->U1 Z W n fH es->U1 Z w n fH es):
  Calls prog 143 #[.agg #[.iface 163 (.agg #[.iface t1 x1,.iface t2 x2]),v2]] w (VW Z w n fe (es++[e2])):=by
 obtain⟨i0,-⟩:=Ue;obtain⟨i1,dt,bq,aP,bF⟩:=nC zvG;have HI:=eu dt;clear dt;have HZ:=eu (kK bq (kK aP bF));clear bq aP bF;obtain⟨t3,x3,rfl⟩:=JQ h2;have B0:=eu (mr (gH w [.iface 163 (.agg #[.iface t1 x1,.iface t2 x2]),.iface t3 x3] 163) (.cells #[.iface t1 x1,.iface t2 x2] 163));have f0:Fr (λ_=>False) w ((w.alloc (.cells #[.iface 163 (.agg #[.iface t1 x1,.iface t2 x2]),.iface t3 x3] 163)).alloc (.cells #[.iface t1 x1,.iface t2 x2] 163)):=((eU _ _).alloc _).alloc _;have CC:=eu (hc _ f0);have F0:=eu f0;have HH:=eu (kK h2 (kK uI r7));clear h2 hc f0 uI r7;go_enter func143,ntmps143;go_wp2_with fail;refine CC.o.mono ?_;rintro r w2⟨fv,av,fH,rfl,bI,af,hx,f2⟩;obtain⟨ft,fx,rfl⟩:=JQ bI;obtain⟨aa,an,ac,rfl⟩:=OG af;have q1:w2.cell? ⟨w.heap.size,1,none⟩=some (.iface t3 x3):=al (gd B0.o f2) 1;have F2:=eu (F0.o.trans f2);have nY:=Ou af F0.o.size;have jO:Hid ((w2.alloc (.cells #[.iface t3 x3] 91)).ownsRow w.heap.size 91 1 (.slice aa an ac) es.length fH):=eu (nY.alloc _);have HX:=eu (kK bI hx);have cT:=F2.o.size;have HL:Hid (fH.length=es.length):=eu hx.1;clear CC bI af hx f2 nY i0;go_wp2_with (at_builtin;refine wpList_append_lies _ rfl _ _ _ rfl w.heap.size 91 i1 _ 1 16 underlying278 HI.o HZ.o.1 HZ.o.2.1 HZ.o.2.2 rfl (by omega) _ es.length fH rfl jO.o ⟨w2.heap.size,0,none⟩ 1 1 [.iface t3 x3] rfl rfl (World.news_of_block (cs:=#[.iface t3 x3]) (t:=91) (fr:=(0,0)) (heap_alloc_new w2 _)) (by simp[Value.oneCell']) (by omega) (by unfold maxLen;omega) (by omega) (by simp;omega) (w2.heap.size+1) (by simp) ?_;intro g cap w3 ai ah aV sG);refine mF (Jy rfl _ _ _) rfl ?_;refine⟨_,_,fH++[.iface t3 x3],rfl,HH.o.2.1 _ _ F0.o HX.o.1,by simpa using ai,(HH.o.2.2 _ _ F0.o HX.o.2).snoc HH.o.1,?_⟩;have f3:Fr (λ_=>False) w (w2.alloc (.cells #[.iface t3 x3] 91)):=F2.o.alloc _;refine f3.UT ah (λk hk e=>?_);have:=(jO.o.lt k e).1;omega
end
section
open Go.RowKit Go.Shelf
variable {Z:Nat->Prop}{w:World}{n:Nat}{v:Value}
theorem Row.back{W:World}{e:TypeId}{size:Nat}{xs:List Value}(zl:∀k,Z k->k<w.heap.size)(f:Fr (λ_=>False) w W)(h:Row Z W e size v n xs):Row Z w e size v n xs:=by
 obtain⟨⟨h1,h2⟩,h3⟩:=h;refine⟨⟨h1,?_⟩,h3⟩;rcases h2 with h2|⟨g,cap,cur,hv,hg,hb,r⟩
 .exact .inl h2
 .refine .inr ⟨g,cap,cur,hv,hg,?_,r⟩;rw[<-f.block g (zl g (h3 g (by rw[hv];rfl))) (by simp)];exact hb
theorem qU.back{Z:Nat->Prop}{w W:World}{n:Nat}{v:Value}{e:Ex}(zl:∀k,Z k->k<w.heap.size)(f:Fr (λ_=>False) w W)(h:qU Z W n v e):qU Z w n v e:=
 Jm (λ_ _ _ _ _ hR=>Row.back zl f hR) n v e h
def Cp.PZ:Nat->Th.Ex->Th.Ex->Th.Ex × List Th.Ex
 |0,f,a=>(f,[a])
 |m+1,f,a=>if f.kind=5 then(match f.kids with|[g,b]=>((PZ m g b).1,(PZ m g b).2++[a])|_=>(f,[a]))else(f,[a])
theorem Cp.zuw:∀(m:Nat)(f a:Th.Ex),(Cp.PZ m f a).2.length<=m+1
 |0,f,a=>by simp[PZ]
 |m+1,f,a=>by
  rw[PZ];split
  .split
   .next g b hk=>have:=zuw m g b;simp;omega
   .simp
  .simp
theorem zlS{Z:Nat->Prop}{n:Nat}(hn:n<=100000):∀(m:Nat),m<=n->∀{w:World}{v1 v2:Value}{e1 e2:Ex},(∀k,Z k->k<w.heap.size)->qU Z w m v1 e1->qU Z w n v2 e2 ->
  Calls prog 143 #[.agg #[v1,v2]] w (VW Z w n (PZ m e1 e2).1 (PZ m e1 e2).2)
 |0,_,_,_,_,_,_,_,h,_=>h.elim
 |m+1,hm,w,v1,v2,e1,e2,zl,h1,h2=>by
  have iB:=h1.le hm;have eB:e1.kind≠5->PZ (m+1) e1 e2=(e1,[e2]):=λhk=>by rw[PZ,pL hk]
  rcases h1 with⟨hk,rfl⟩|⟨hk,rfl⟩|⟨hk,rfl⟩|⟨hk,sv,bv,b,k1,rfl,k3,k4⟩|⟨hk,u1,u2,d1,d2,k1,rfl,k3,k4⟩|⟨hk,u1,u2,d1,d2,k1,rfl,k3,k4⟩|⟨hk,sv,bv,b,parts,pvs,k1,rfl,k3,k4,k5,k6,k7⟩|⟨hk,cv,sv,b,ag,nvs,bvs,k1,rfl,k3,k4,k5,k6,k7,k8,k9⟩
  .rw[eB (by omega)];obtain⟨-,-,-,i0,-⟩:=Uk;exact Ul i0 iB h2
  .rw[eB (by omega)];obtain⟨-,-,-,i0,-⟩:=Uh;exact Ul i0 iB h2
  .rw[eB (by omega)];obtain⟨-,-,-,i0,-⟩:=Ta;exact Ul i0 iB h2
  .rw[eB (by omega)];obtain⟨-,-,-,-,i0,-⟩:=Uj;exact Ul i0 iB h2
  .obtain⟨t1,x1,rfl⟩:=JQ k3;obtain⟨t2,x2,rfl⟩:=JQ k4;have hE:PZ (m+1) e1 e2=((PZ m d1 d2).1,(PZ m d1 d2).2++[e2]):=by rw[PZ,nB hk,k1]
   rw[hE];have hlen:=zuw m d1 d2;refine zpT h2 (by omega) (λW hW=>?_) (λW fv hW hr=>hr.back zl hW) (λW fH hW hx=>⟨hx.1,λi v e a b=>(hx.2 i v e a b).back zl hW⟩);exact zlS hn m (by omega) (λk hk=>Kl (zl k hk) hW.size) (k3.qR hW) ((k4.qR hW).le (by omega))
  .rw[eB (by omega)];obtain⟨-,-,-,-,i0,-⟩:=Ui;exact Ul i0 iB h2
  .rw[eB (by omega)];obtain⟨-,-,-,-,i0,-⟩:=Ug;exact Ul i0 iB h2
  .rw[eB (by omega)];obtain⟨-,-,-,-,i0,-⟩:=Uf;exact Ul i0 iB h2
theorem Cp.zom{Z:Nat->Prop}{w:World}:∀(m:Nat)(e f a:Th.Ex)(v:Value),e.kids=[f,a]->qU Z w m v f->Cp.spread (m+1) e=Cp.PZ m f a
 |0,_,_,_,_,_,h=>h.elim
 |m+1,e,f,a,v,hk,h=>by
  rw[spread,hk,PZ];by_cases h5:f.kind=5
  .rcases h with⟨hk,_⟩|⟨hk,_⟩|⟨hk,_⟩|⟨hk,_⟩|⟨hk,u1,u2,d1,d2,k1,rfl,k3,k4⟩|⟨hk,_⟩|⟨hk,_⟩|⟨hk,_⟩
   all_goals first|omega|skip
   have ih:=zom m f d1 d2 u1 k1 k3;simp only[h5,kP,k1];rw[ih]
  .simp only[pL h5]
end
section
open Go.RowKit Go.Shelf
attribute [local go_sem ↓] Go.wp_at_zero Go.wp_at_succ
attribute [local go_sem] Oper.semAt_some
variable {M N n:Nat}{Z:Nat->Prop}{w:World}{cb bb below:Nat}{rv sv kv:Value}{t1 t2:TypeId}{x1 x2:Value}{fns:List Cp.Nm}{q:Bs}{es:List Ex}
theorem zsK(hW:Nw M N n){fe:Ex}{ho:Bs->Ex->Bs}(h:BS Z w cb bb rv sv kv fns q)(eB:∀W,Fr (λ_=>False) w W->Calls prog 143 #[.agg #[.iface t1 x1,.iface t2 x2]] W (VW Z W n fe es))(su:∀(i:Nat)(e:Ex)(Z1:Nat->Prop)(W:World)(bh bf cA v:Value),es[es.length-(i+1)]?=some e->i<es.length->BS Z1 W cb bb bh bf cA fns ((es.drop (es.length-i)).reverse.foldl ho q)->qU Z1 W n v e ->
   Calls prog 95 #[.pointer (some ⟨bb,0,none⟩),v] W λr w'=>r=.returned (.tuple #[])/\ES Z1 W cb bb bh bf cA fns (ho ((es.drop (es.length-i)).reverse.foldl ho q) e) w')(xx:es.length<=1000000)(aL:(es.reverse.foldl ho q).code.length<=1000000000)(aC:(es.reverse.foldl ho q).kD.length<=1000000000)(hf:Fit M N fns ((es.reverse.foldl ho q).push (.N6 es.length)) fe)(hb:below+es.length+1+(M+8)*Cp.wt N fe<=1000000000):
  Calls prog 87 #[.pointer (some ⟨bb,0,none⟩),.agg #[.iface t1 x1,.iface t2 x2],.int .i64 below] w λr w'=>r=.returned (.tuple #[])/\ES Z w cb bb rv sv kv fns (Cp.work (Cp.free N) fns n fe (below+es.length+1) ((es.reverse.foldl ho q).push (.N6 es.length))) w':=by
 have f0:Fr (λ_=>False) w ((w.alloc (.cells #[.pointer (some ⟨bb,0,none⟩)] 100)).alloc (.cells #[.iface t1 x1,.iface t2 x2] 163)):=((eU _ _).alloc _).alloc _;have yJ:=eu (eB _ f0);have BX:=eu (mr (gH w [.pointer (some ⟨bb,0,none⟩)] 100) (.cells #[.iface t1 x1,.iface t2 x2] 163));have F0:=eu f0;have HE:=eu (enters_of (P:=prog) func210 (by kernel_rfl) rfl);have HH:=eu h;have HW:=eu hW;have vE:=eu su;have HF:=eu (kK hf hb);have iC:below+es.length+1<=1000000000:=by omega
 have cV:=h.Kq.lt;obtain⟨q2,bC⟩:∃q2,q2=es.reverse.foldl ho q:=⟨_,rfl⟩;have oD:=eu bC;rw[<-bC]at aL aC HF|-;clear h hW su hf hb eB f0 bC;refine callsIn_wide.1 (callsIn_of_wp_marks (n:=5) func87 rfl trivial (wpIn_wide.2 ?_) rfl);simp only[ntmps87,O3,Kh,My,Nat.reduceAdd,Nat.reduceSub,QX,QY,Q0,QZ,MQ,MP];obtain⟨Q,hQ⟩:∃Q,bodyPostM Fence.wide 5 prog Tryz.f87 (λr w'=>r=.returned (.tuple #[])/\ES Z w cb bb rv sv kv fns (Cp.work (Cp.free N) fns n fe (below+es.length+1) (q2.push (.N6 es.length))) w')=Q:=⟨_,rfl⟩;have HQ:=eu hQ;rw[hQ];clear hQ;go_wp2_with fail;refine yJ.o.mono ?_;rintro r w1⟨fv,av,fH,rfl,bI,af,hx,f1⟩;obtain⟨ft,fx,rfl⟩:=JQ bI;obtain⟨sp,cap,g,ay,dk,mX,jr,aN⟩:=Pc (Ou af (Kc _));subst ay;have F1:=eu (F0.o.trans f1);have Bl:=eu (gd BX.o f1);have uK:0<es.length->w.heap.size<=g/\g<w1.heap.size:=λh0=>by have:=af.lt g (jr h0);have:=F0.o.size;omega
 have qm:=eu aN;have uc:=eu uK;have vC:=eu (kK (bI.qR f1) (kK hx.1 (λi v e a b=>(hx.2 i v e a b).qR f1)));have Cq:=eu jr;clear bI af hx f1 aN uK yJ BX jr;go_wp2_with fail;refine(zsD sp es.length cap _).mono ?_;rintro e w2⟨rfl,aB⟩;have F2:Hid (Fr (λ_=>False) w1 w2):=eu (by rw[aB];exact(eU _ _).alloc _);have qh:Hid (oH w2 w.heap.size [.pointer (some ⟨bb,0,none⟩)] 100):=eu (gd Bl.o F2.o);have uX:Hid (oH w2 w1.heap.size [.slice sp es.length cap] 278):=eu (by rw[aB];exact gH w1 [.slice sp es.length cap] 278);have mB:Hid (w2.heap.size=w1.heap.size+1):=eu (by rw[aB];simp);have aW:=F1.o.size;clear aB;have Gq:Hid (0<es.length->∀k,(Value.slice sp es.length cap).ownBlock=some k->k=g):=eu (λh0 k hk=>by rw[Cq.o h0]at hk;simpa using hk.symm);obtain⟨Z1,jU⟩:∃Z1:Nat->Prop,∀k,Z1 k↔(Z k\/(0<es.length/\k=g)):=⟨_,λ_=>P2⟩;have ur:=eu jU;clear jU;have ga:Hid (∀k,w.heap.size<=k->¬KL cb bb rv sv kv k):=eu (λk hk he=>by
  have h:=HH.o;rcases he with e|e|e|e|e
  .have:=h.Nr;omega
  .omega
  .have:=h.Ns k e;omega
  .have:=h.slt k e;omega
  .have:=h.Pt k e;omega)
 have gA:Hid (BS Z1 w2 cb bb rv sv kv fns q):=eu (by
  have:=(HH.o.qR (F1.o.trans F2.o)).more (A:=λk=>0<es.length/\k=g) (λk hk=>⟨by have:=uc.o hk.1;have:=F2.o.size;omega,ga.o k (by have:=uc.o hk.1;omega)⟩);have he:Z1=λk=>Z k\/(0<es.length/\k=g):=funext (λk=>propext (ur.o k))
  rw[he];exact this)
 have ow:Hid (qU Z1 w2 n (.iface ft fx) fe/\fH.length=es.length/\∀(i:Nat)(v:Value)(e:Ex),fH[i]?=some v->es[i]?=some e->qU Z1 w2 n v e):=eu ⟨(vC.o.1.qR F2.o).mono (λk _ hk=>(ur.o k).2 (.inl hk)),vC.o.2.1,λi v e a b=>((vC.o.2.2 i v e a b).qR F2.o).mono (λk _ hk=>(ur.o k).2 (.inl hk))⟩;go_wp2_with fail;have dJ:fH.length=es.length:=ow.o.2.1;have l9:Iter 210 w1.heap.size cap sp g fH:=λl J Jr hY hJc W h0=>zsC l _ cap sp g fH (by omega) (λh0=>mX (by omega)) J Jr hY hJc W h0
 obtain⟨J,hJ⟩:∃J:Nat->World->Prop,∀i W,J i W↔(i<=es.length/\ES Z1 w2 cb bb rv sv kv fns ((es.drop (es.length-i)).reverse.foldl ho q) W):=⟨_,λ_ _=>P2⟩;have HJ:=eu hJ;clear hJ;refine zp9 HE.o l9 rfl J (λ_=>False) ?hall ?hput ?hputr ?h0 ?hJc ?hround ?hdone ?hret
 case hall=>exactλi W o hW=>(HJ.o _ _).2 ⟨((HJ.o _ _).1 hW).1,((HJ.o _ _).1 hW).2.alloc _⟩
 case hput=>exactλi W l xo o hW hl hx hc=>(HJ.o _ _).2 ⟨((HJ.o _ _).1 hW).1,((HJ.o _ _).1 hW).2.putObj _ hl hx hc⟩
 case hputr=>exactλ_ _ _ _ h=>h.elim
 case h0=>exact(HJ.o _ _).2 ⟨Kc _,by rw[S0,XC (qP _)];exact ES.refl gA.o⟩
 case hJc=>
  intro i W hW;obtain⟨_,Z',aO,sv',bG,_,_,f3,_⟩:=(HJ.o i W).1 hW;refine⟨?_,λj v hv=>?_⟩
  .rw[dJ];simpa using al (gd uX.o f3 (ga.o _ aW)) 0
  .have h4:=qm.o j v hv;have hj:=(Dq.1 hv).1;have hg:=uc.o (by omega);refine(kI (a:=⟨g,j,none⟩) (w:=w1) ?_).trans h4;exact(f3.block g (Kl hg.2 F2.o.size) (ga.o g hg.1)).trans (F2.o.block g hg.2 (by simp))
 case hret=>exactλ_ h=>h.elim
 case hround=>
  intro l i c v W hJ oU hv;rw[dJ]at oU;obtain⟨y,hy⟩:∃y,es[c]?=some y:=⟨_,Iv (by omega)⟩;have yl:=(Dq.1 hy).1;have rI:=ow.o.2.2 c v y hv hy;obtain⟨vt,vx,rfl⟩:=JQ rI;have HY:=eu hy;have pI:=eu rI;clear hv hJ hy rI;simp only[MV,NK,Nh]
  gi_wp2
  refine⟨trivial,?_⟩;intro W2 h2 hD ma;obtain⟨hi,Z',aO,sv',bG,hz,hb,f3,n1,n2,n3⟩:=(HJ.o i W2).1 h2;have b0:W2.cell? ⟨w.heap.size,0,none⟩=some (.pointer (some ⟨bb,0,none⟩)):=by simpa using al (gd qh.o f3 (ga.o _ (qP _))) 0
  have e1:es.length-(i+1)=c:=by omega
  have CU:=eu (vE.o i y Z' W2 aO sv' bG (.iface vt vx) (by rw[e1];exact HY.o) (by omega) hb (gA.o.rep f3 hz pI.o));have vB:Hid ((es.drop (es.length-(i+1))).reverse.foldl ho q=ho ((es.drop (es.length-i)).reverse.foldl ho q) y):=eu (by
   have e2:es.length-i=c+1:=by omega
   rw[e1,e2,Q2 yl,show es[c]=y from(Dq.1 HY.o).2,List.reverse_cons,List.foldl_append];rfl)
  have qy:Hid (∀w6,Fr (KL cb bb aO sv' bG) W2 w6->w6.heap[w2.heap.size]?=W2.heap[w2.heap.size]?/\w6.heap[w2.heap.size+1]?=W2.heap[w2.heap.size+1]?):=eu (λw6 f6=>by
   obtain⟨rl,bd⟩:=ma;refine⟨f6.block _ (Nz.1 hD).1 (λe=>?_),f6.block _ (Nz.1 bd).1 (λe=>?_)⟩
   .obtain⟨_,_,_,h9⟩:=hb.Vu e;rw[hD]at h9;cases h9
   .obtain⟨_,_,_,h9⟩:=hb.Vu e;rw[bd]at h9;cases h9)
  have qp:=eu (kK hi (kK hz (kK f3 (kK n1 (kK n2 n3)))));clear h2 hD ma hi hz hb f3 n1 n2 n3 e1
  gi_wp2
  refine⟨trivial,rfl,(Yi CU.o).mono ?_⟩;rintro e w6⟨rfl,D6⟩;have qo:=eu D6;clear D6 b0
  gi_wp2
  refine⟨(HJ.o _ _).2 ⟨by omega,?_⟩,?_⟩
  .rw[vB.o];obtain⟨hi,hz,f3,n1,n2,n3⟩:=qp.o;exact kU hz f3 n1 n2 n3 qo.o
  .obtain⟨_,_,_,_,_,_,f6,_⟩:=qo.o;exact qy.o _ f6
 case hdone=>
  intro W hW hD;obtain⟨_,hd⟩:=(HJ.o _ W).1 hW;rw[dJ,Uc,Sb,<-oD.o]at hd;obtain⟨Z3,j8,j9,j7,z3,b3,f3,n1,n2,n3⟩:=hd;have b0:W.cell? ⟨w.heap.size,0,none⟩=some (.pointer (some ⟨bb,0,none⟩)):=by simpa using al (gd qh.o f3 (ga.o _ (qP _))) 0
  have CP:=eu (RJ (i:=.N6 es.length) b3 rfl aL aC);have X3:=eu (kK z3 (kK b3 (kK f3 (kK n1 (kK n2 n3)))));have Y3:=eu (gA.o.rep f3 z3 ow.o.1);have qp:=eu hD;clear hW hD z3 b3 f3 n1 n2 n3;go_wp2_with fail;refine CP.o.mono ?_;rintro r w4⟨rfl,Z4,yA,yC,yv,z4,b4,f4,n1,n2,n3⟩;have c4:w4.cell? ⟨w.heap.size,0,none⟩=some (.pointer (some ⟨bb,0,none⟩)):=by obtain⟨_,b3,f3,n1,n2,n3⟩:=X3.o;have hB:=gd qh.o f3 (ga.o _ (qP _));simpa using al (gd hB f4 (λe=>ga.o _ (qP _) (Ia e n1 n2 n3 (by have:=mB.o;omega)))) 0
  have d4:w4.heap[w2.heap.size]?=some (.deferred (some [])):=by have hD:=qp.o;rw[f4.block _ (Nz.1 hD).1 (λe=>by obtain⟨_,_,_,h9⟩:=X3.o.2.1.Vu e;rw[hD]at h9;cases h9)];exact hD
  have CK:=eu (HW.o (below:=below+es.length+1) b4 (X3.o.2.1.rep f4 z4 Y3.o) HF.o.1 HF.o.2);have BW:=eu d4;have X4:=eu (kK z4 (kK b4 (kK f4 (kK n1 (kK n2 n3)))));clear z4 b4 f4 n1 n2 n3 d4 b0 CP;rw[show((below+es.length+1:Nat):Int)=(below:Int)+(es.length:Int)+1 by omega]at CK;go_wp2_with fail;refine CK.o.mono ?_;rintro r w5⟨rfl,Ah⟩;have D5:=eu Ah;clear Ah CK c4;go_wp2_with fail;rw[<-HQ.o];have d5:w5.heap[w2.heap.size]?=some (.deferred (some [])):=by have hD:=BW.o;obtain⟨_,_,_,_,_,_,f5,_⟩:=D5.o;rw[f5.block _ (Nz.1 hD).1 (λe=>by obtain⟨_,_,_,h9⟩:=X4.o.2.1.Vu e;rw[hD]at h9;cases h9)];exact hD
  have eW:ES Z1 w2 cb bb rv sv kv fns (Cp.work (Cp.free N) fns n fe (below+es.length+1) (q2.push (.N6 es.length))) w5:=by obtain⟨z,b,f,n1,n2,n3⟩:=X3.o;refine kU z f n1 n2 n3 ?_;obtain⟨z,b,f,n1,n2,n3⟩:=X4.o;exact kU z f n1 n2 n3 D5.o
  refine Vh (base:=w2.heap.size) (I:=λW'=>ES Z1 w2 cb bb rv sv kv fns (Cp.work (Cp.free N) fns n fe (below+es.length+1) (q2.push (.N6 es.length))) W') (by simp) (λW' d bQ iH iX=>bQ.putObj _ iH iX (by simp)) (λW' bQ=>?_) (Yx d5 (qP _)) eW;refine⟨_,IM rfl _ _ _,rfl,?_⟩;obtain⟨Z',aO,sv',bG,z,b,f,n1,n2,n3⟩:=bQ;have q9:=F1.o.trans F2.o;refine⟨Z',aO,sv',bG,λk hk=>?_,b,(q9.mono (λ_ x=>x.elim)).trans f,kH (kq w rv) n1 q9.size,kH (kq w sv) n2 q9.size,kH (kq w kv) n3 q9.size⟩;rw[z k (Kl hk q9.size),ur.o k];constructor
  .rintro(e|e)
   .exact e
   .have:=uc.o e.1;omega
  .exact .inl
end
section
open Go.RowKit Go.Shelf
variable {off n:Nat}
theorem zpS{α:Type}{vs cs:List α}(h:off+cs.length<=n)(hn:n<=vs.length):(Go.splice vs off cs).take n=Go.splice (vs.take n) off cs:=by
 unfold Go.splice;have h1:(vs.take off).length=off:=by simp;omega
 rw[List.take_append,h1,List.take_append,U6,U6,List.drop_take];rw[Nat.min_eq_right (by omega:off<=n),Sa (by omega:off<=n),N8 (by omega:cs.length<=n-off),Nat.sub_sub]
theorem zjZ(l xs:List Cp.Nm)(off:Nat):Go.splice (strCells l) off (strCells xs)=strCells (Go.splice l off xs):=by simp[Go.splice,strCells,List.map_take,List.map_drop]
theorem zvH:(prog.info? 9).map (·.size)=some 1:=by kernel_rfl
theorem zmM(l:List Cp.Nm):∀v∈strCells l,v.oneCell'=true:=ze1
variable {w:World}{g cap:Nat}{l:List Cp.Nm}
theorem zr6{eF gi eJ gz:Nat}{xs:List Cp.Nm}{ad:Addr}{ops:Array Oper}{o:Oper}{a:Act}{K:Act->World->Prop}{Q:Exit->Act->World->Prop}{E:Prop}(oY:o.guard=none)(d sr:Operand)(ho:o.op=.call { callee:=.builtin .copy,args:=#[d,sr],argTypes:=#[38,38] })(ai:w.ownsRow 0 9 1 (.slice (some ⟨g,0,none⟩) n cap) n (strCells l))(hd:a.eval d=.slice (some ⟨g,off,none⟩) eF gi)(hs:a.eval sr=.slice (some ad) eJ gz)(hn:xs.length=Nat.min eJ eF)(dX:∀(j:Nat)v,(strCells xs)[j]?=some v->w.cell? (ad.add j)=some v)(aJ:off+xs.length<=n)(hk:∀w',w'.ownsRow 0 9 1 (.slice (some ⟨g,0,none⟩) n cap) n (strCells (Go.splice l off xs))->Fr (λk=>k=g) w w'->K (a.put o.dst (goInt xs.length)) w'):if Region.wanted o (yielded ops a.tmps)=true then Oper.wp prog o a w K Q else E:=by
 have hw:Region.wanted o (yielded ops a.tmps)=true:=by simp[Region.wanted,oY]
 rw[nB hw];obtain⟨vs,hb,dJ,o6,lY,rR,qf⟩:=ztI ai;have aN:(strCells xs).length=xs.length:=Yj _;have dI:=run_copy_row (P:=prog) w 38 38 o.type 9 g off eF gi ad eJ gz vs.toArray 9 (strCells xs) underlying38 zvH hb (by rw[aN];exact hn) dX (by simp[aN];omega) (zmM xs);unfold Oper.wp;simp[execOp,ho,resolve,invoke,builtin,hd,hs,dI,Result.andThen];have rS:oH (w.setRow g (Go.splice vs off (strCells xs)).toArray) g (Go.splice vs off (strCells xs)) 9:=J6 w g _ _ 9 _ hb;have:=hk _ (UK rS (by rw[Q1 _ _ _ (by rw[aN];omega)];exact dJ) o6 lY rR (by rw[zpS (by rw[aN];omega) (by omega),qf,zjZ])) ((eU _ _).setRow g _ rfl);unfold Go.splice at this;simp only[aN]at this|-;exact this
theorem zvk(h1:off<n)(h2:n<=cap):∀W:World,(Instr.slice 38 (.slice (some ⟨g,0,none⟩) n cap) (some (.int .i64 (off:Int))) none none).run prog W=.ok (.slice (some ⟨g,off,none⟩) (n-off) (cap-off)) W:=by
 intro W;rw[run_slice_l W 38 _ _ _ underlying38 .i64 _ (by omega) (by omega)];have e3:prog.elem 38=9:=by kernel_rfl
 rw[e3,sizeOf9];simp[Result.andThen,sliced,Pf];omega
variable {Z:Nat->Prop}{cb bb:Nat}{rv kv:Value}{fns:List Cp.Nm}{q:Bs}
theorem BS.spliced{w':World}{sl:List Cp.Nm}(h:BS Z w cb bb rv (.slice (some ⟨g,0,none⟩) n cap) kv fns q)(f:Fr (λk=>k=g) w w')(hn:n=sl.length)(hs:w'.ownsRow 0 9 1 (.slice (some ⟨g,0,none⟩) n cap) n (strCells sl)):ES Z w cb bb rv (.slice (some ⟨g,0,none⟩) n cap) kv fns ⟨q.blocks,sl,q.code⟩ w':=by
 have hg:(Value.slice (some ⟨g,0,none⟩) n cap).ownBlock=some g:=rfl;have iC:bb≠g:=λe=>h.sc.2 (by rw[hg,e])
 have f1:Fr (λk=>k=bb\/(Value.slice (some ⟨g,0,none⟩) n cap).ownBlock=some k\/kv.ownBlock=some k) w w':=f.mono (λk hk=>.inr (.inl (by rw[hg,hk])));obtain⟨vs,cK,aG⟩:=h.Pz;subst hn;have hz:∀k,k<w.heap.size->Z k->¬k=g:=λk _ hk e=>h.zk k hk (.inr (.inr (.inr (.inl (by rw[hg,e])))))
 exact ES.up (h.up f1 (gd h.Kq f iC) hs ⟨vs,f.gb cK (λk hk e=>h.sk g hg (by rw[<-e];exact hk)),aG.Ku f hz (λ_ _ x=>x)⟩ (kq _ _) (kq _ _) h.sk) f1 (kq _ _) (kq _ _)
end
section
open Go.RowKit Go.Shelf
attribute [local go_sem ↓] Go.wp_at_zero Go.wp_at_succ
variable {n:Nat}{Z:Nat->Prop}{w:World}{cb bb:Nat}{rv sv kv:Value}{fns:List Cp.Nm}{q:Bs}{bt:TypeId}{bx:Value}
theorem zvb{pv:Value}{qe:Bs}{r:Bool}{l:List Tok}{parts:List Ex}{pvs:List Value}{ho:Bs->Ex->Bs}(AG:qe=parts.foldl ho q)(h:BS Z w cb bb rv sv kv fns q)(h3:parts.length=l.length)(h4:pvs.length=l.length)(h6:Row Z w 312 3 pv l.length (Ob l pvs))(h8:∀(i:Nat)(bv:Value)(p:Ex),pvs[i]?=some bv->parts[i]?=some p->qU Z w n bv p)(su:∀(i:Nat)(e:Ex)(Z1:Nat->Prop)(W:World)(bh bf cA v:Value),parts[i]?=some e->BS Z1 W cb bb bh bf cA fns ((parts.take i).foldl ho q)->qU Z1 W n v e ->
   Calls prog 95 #[.pointer (some ⟨bb,0,none⟩),v] W λr w'=>r=.returned (.tuple #[])/\ES Z1 W cb bb bh bf cA fns (ho ((parts.take i).foldl ho q) e) w')(bp:0<l.length)(aU:l.length<=1000000)(aK:qe.kD.length=q.kD.length+l.length)(uQ:q.kD.length<=1000000000):
  Calls prog 163 #[.pointer (some ⟨bb,0,none⟩),.agg #[.bool r,pv,.iface bt bx]] w λe w'=>e=.returned (.tuple #[])/\ES Z w cb bb rv sv kv fns ⟨qe.blocks,Go.splice qe.kD q.kD.length (texts l),qe.code⟩ w':=by
 obtain⟨g0,pc,eD⟩:∃g0 pc,pv=.slice (some ⟨g0,0,none⟩) l.length pc:=by
  rcases h6.1.2 with⟨_,h0⟩|⟨g,cap,cur,h0,_⟩
  .omega
  .exact⟨_,_,h0⟩
 subst eD;obtain⟨sp,sc,_,bA,_⟩:=Pc h.Og;have bR:∀(i:Nat)(pv:Value),pvs[i]?=some pv->pv.oneCell'=true:=λi pv hp=>by
  have:i<parts.length:=by rw[h3,<-h4];exact(Dq.1 hp).1
  obtain⟨t,x,rfl⟩:=JQ (h8 i pv parts[i] hp (Iv this));rfl
 have f0:Fr (λ_=>False) w (w.alloc (.cells #[.bool r,.slice (some ⟨g0,0,none⟩) l.length pc,.iface bt bx] 178)):=(eU _ _).alloc _;have nH:=gH w [.bool r,.slice (some ⟨g0,0,none⟩) l.length pc,.iface bt bx] 178;obtain⟨Z1,jU⟩:∃Z1:Nat->Prop,Z1=λk=>Z k\/k=w.heap.size:=⟨_,rfl⟩
 have aA:BS Z1 (w.alloc (.cells #[.bool r,.slice (some ⟨g0,0,none⟩) l.length pc,.iface bt bx] 178)) cb bb rv sv kv fns q:=by
  rw[jU];refine(h.qR f0).more (λk hk=>⟨by rw[gM];omega,?_⟩);rintro(e|e|e|e|e)
  .have:=h.Nr;omega
  .have:=h.Kq.lt;omega
  .have:=h.Ns k e;omega
  .have:=h.slt k e;omega
  .have:=h.Pt k e;omega
 have aP:Z1 w.heap.size:=by rw[jU];exact .inr rfl
 have kk:∀k,k<w.heap.size->(Z1 k↔Z k):=by
  intro k hk;rw[jU];constructor
  .rintro(e|e)
   .exact e
   .omega
  .exact .inl
 have yo:∀k,Z k->Z1 k:=λk hk=>by rw[jU];exact .inl hk
 have c1:=al aA.Kq 1;simp at c1;rw[bA]at c1;have cB:=eu aA;have dS:=eu (kK nH aP);have De:=eu kk;have F0:=eu f0;have H3:=eu h3;have H4:=eu h4;have H6:=eu ((mq h6 f0).mono (λk _ hk=>yo k hk));have H8:=eu (λi bv p a b=>((h8 i bv p a b).qR f0).mono (λk _ hk=>yo k hk));have vE:=eu su;have oA:=eu bR;have HQ:=eu (kK AG aK);have cV:=h.Kq.lt;have um:=eu bA;clear h h3 h4 h6 h8 su bR AG aK aA nH aP kk yo f0 jU bA;go_enter func163,ntmps163;go_wp2_with fail;generalize w.alloc (.cells #[.bool r,.slice (some ⟨g0,0,none⟩) l.length pc,.iface bt bx] 178)=w0 at dS cB F0 H6 H8 c1|-;clear c1
 go_loopg [15] l.length (λgk iv wr=>∃k:Nat,iv=.int .i64 k/\k+gk=l.length/\ES Z1 w0 cb bb rv sv kv fns ((parts.take k).foldl ho q) wr)
 case atStart=>exact⟨0,rfl,by omega,ES.refl cB.o⟩
 case round=>
  obtain⟨k,rfl,hk,Zk,dM,ir,il,z,b,f,n1,n2,n3⟩:=hrel;by_cases aj:k<l.length
  .obtain⟨a,ha⟩:∃a,l[k]?=some a:=⟨l[k],Iv aj⟩;obtain⟨p,hp⟩:∃p,parts[k]?=some p:=⟨_,Iv (by rw[H3.o];exact aj)⟩;obtain⟨bv,cC⟩:∃bv,pvs[k]?=some bv:=⟨_,Iv (by rw[H4.o];exact aj)⟩;have hR:=cB.o.rep f z (H8.o k bv p cC hp);obtain⟨pt,px,rfl⟩:=JQ hR;have aE:=Tj l pvs k a _ ha cC;have af:=(cB.o.row f z H6.o).1;have c0:=(af.cellAt (k*3) (by omega)).trans aE.1;have c1:=(af.cellAt (k*3+1) (by omega)).trans aE.2.1;have c2:=(af.cellAt (k*3+2) (by omega)).trans aE.2.2;have dF:(0:Int)<=(k:Int):=R6 _;have f2:Fr (λ_=>False) wr (wr.alloc (.cells #[.string ⟨a.s.toArray⟩,.int .i64 a.at_,.iface pt px] 312)):=(eU _ _).alloc _;have CH:=eu (vE.o k p Zk _ dM ir il (.iface pt px) hp (b.qR f2) (hR.qR f2));have hT:(parts.take (k+1)).foldl ho q=ho ((parts.take k).foldl ho q) p:=by rw[T9,hp];simp
   have HT:=eu hT;have F2:=eu f2;have X:=eu (kK z (kK f (kK n1 (kK n2 n3))));clear z b f n1 n2 n3 hR aE af f2 hT ha hp cC;go_wp2_with fail;refine CH.o.mono ?_;rintro e w3⟨rfl,hd⟩;have HD:=eu hd;clear hd CH c0 c1 c2;go_wp2
   go_roundg (l.length-(k+1))
   case measure=>omega
   case rel=>refine⟨k+1,by go_num,by omega,?_⟩;rw[HT.o];obtain⟨z,f,n1,n2,n3⟩:=X.o;exact kU z f n1 n2 n3 (Hz F2.o HD.o)
  .have aG:parts.take k=parts:=N8 (by have:=H3.o;omega);rw[aG,<-HQ.o.1]at b;obtain⟨Hh,cap,g,td,dk,mX,jr,aN⟩:=Pc b.Og;have lq:0<qe.kD.length:=by have:=HQ.o.2;omega
   rw[mX lq]at td;subst td;have o6:qe.kD.length<=cap:=by
    rcases b.Og.2 with⟨h0,_⟩|⟨_,_,_,h0,_,_,hn,_⟩
    .cases h0
    .cases h0;exact hn
   have BU:=zvk (g:=g) (n:=qe.kD.length) (cap:=cap) (off:=q.kD.length) (by have:=HQ.o.2;omega) o6;have cN:=cB.o.box f z dS.o.1 dS.o.2;have e0:=al cN.1 0;have e1:=al cN.1 1;have e2:=al cN.1 2;have b1:=al b.Kq 1;simp at e0 e1 e2 b1;have CN:=eu (Yh (w:=wr.drew) (rb:=r) (bt:=bt) (bx:=bx) (cB.o.row f.drew z H6.o) H4.o oA.o aU);have BK:=eu b;have BX:=eu cN;have X:=eu (kK z (kK f (kK n1 (kK n2 n3))));clear z f n1 n2 n3 b cN aG dk mX jr aN;go_wp2_with fail
   go_region_law (first
    |(refine zr6 (g:=g) (n:=qe.kD.length) (cap:=cap) (off:=q.kD.length) (l:=qe.kD) (xs:=texts l) (ad:=⟨tg,0,none⟩) (by rfl) _ _ (by rfl) (B5.o.Og) (by rfl) (by rfl) vK.o kG.o fZ.o ?_;intro w6 h6 f6;have D6:=eu (B5.o.spliced (sl:=Go.splice qe.kD q.kD.length (texts l)) f6 vJ.o h6);clear h6 f6)
    |(go_simp;go_wp2_with (go_at_call 197;refine CN.o.mono ?_;rintro e w5⟨tv,rfl,eC,dw⟩;have f5:Fr (λ_=>False) wr w5:=(eU _ _).drew.trans (oq dw);have B5:=eu (BK.o.qR f5);have F5:=eu f5;obtain⟨FT,tc,tg,lI,_,lH,_,lG⟩:=Pc (Ou eC (Kc _));rw[lH bp]at lI;subst lI;have kG:=eu (λ(j:Nat)v(hv:(strCells (texts l))[j]?=some v)=>(show w5.cell? (Addr.add ⟨tg,0,none⟩ j)=some v by rw[Pf,On];exact lG j v hv));have b5:w5.cell? ⟨bb,1,none⟩=some (.slice (some ⟨g,0,none⟩) qe.kD.length cap):=al B5.o.Kq 1;have vK:Hid ((texts l).length=Nat.min l.length (qe.kD.length-q.kD.length)):=eu (by have:=HQ.o.2;simp[texts,Nat.min_def];omega);have fZ:Hid (q.kD.length+(texts l).length<=qe.kD.length):=eu (by have:=HQ.o.2;simp[texts];omega);have vJ:Hid (qe.kD.length=(Go.splice qe.kD q.kD.length (texts l)).length):=eu (Q1 _ _ _ fZ.o).symm;clear eC dw f5 lH lG)))
   all_goals
    first|go_end0|refine Ju rfl rfl ?_
    refine⟨rfl,?_⟩;have hd:ES Z1 w0 cb bb rv sv kv fns ⟨qe.blocks,Go.splice qe.kD q.kD.length (texts l),qe.code⟩ w6:=by obtain⟨z,f,n1,n2,n3⟩:=X.o;exact kU z f n1 n2 n3 (Hz F5.o D6.o)
    obtain⟨Z',aO,sv',bG,z,b,f,n1,n2,n3⟩:=hd;exact⟨Z',aO,sv',bG,λk hk=>(z k (Kl hk F0.o.size)).trans (De.o k hk),b,(F0.o.mono (λ_ x=>x.elim)).trans f,kH (kq w rv) n1 F0.o.size,kH (kq w sv) n2 F0.o.size,kH (kq w kv) n3 F0.o.size⟩
theorem BS.zx8(h:BS Z w cb bb rv sv kv fns q)(o:Obj):BS (λk=>Z k\/k=w.heap.size) (w.alloc o) cb bb rv sv kv fns q:=by
 refine(h.qR ((eU _ _).alloc _)).more (λk hk=>⟨by rw[gM];omega,?_⟩);rintro(e|e|e|e|e)
 .have:=h.Nr;omega
 .have:=h.Kq.lt;omega
 .have:=h.Ns k e;omega
 .have:=h.slt k e;omega
 .have:=h.Pt k e;omega
theorem ES.TV{w':World}{q':Bs}{o:Obj}(d:ES (λk=>Z k\/k=w.heap.size) (w.alloc o) cb bb rv sv kv fns q' w'):ES Z w cb bb rv sv kv fns q' w':=by
 have f:Fr (λ_=>False) w (w.alloc o):=(eU _ _).alloc _;obtain⟨Z',aO,sv',bG,z,b,f1,n1,n2,n3⟩:=d;refine⟨Z',aO,sv',bG,λk hk=>?_,b,(f.mono (λ_ x=>x.elim)).trans f1,kH (kq w rv) n1 f.size,kH (kq w sv) n2 f.size,kH (kq w kv) n3 f.size⟩;rw[z k (Kl hk f.size)];constructor
 .rintro(e|e)
  .exact e
  .omega
 .exact .inl
variable {M N pn pc:Nat}{pp:Option Addr}{q1:Bs}{e:Ex}
theorem zvN(hW:Nw M N n)(h:BS Z w cb bb rv sv kv fns q)(hr:qU Z w n (.iface bt bx) e)(dq:∀Z1 W,(∀k,Z k->Z1 k)->Fr (λ_=>False) w W->BS Z1 W cb bb rv sv kv fns q->Calls prog 162 #[.pointer (some ⟨bb,0,none⟩),.agg #[.bool true,.slice pp pn pc,.iface bt bx]] W λr w'=>r=.returned (.tuple #[])/\ES Z1 W cb bb rv sv kv fns q1 w')(hf:Fit M N fns q1 e)(hb:(M+8)*Cp.wt N e<=1000000000):
  Calls prog 94 #[.pointer (some ⟨bb,0,none⟩),.agg #[.bool true,.slice pp pn pc,.iface bt bx],.int .i64 0] w λr w'=>r=.returned (.tuple #[])/\ES Z w cb bb rv sv kv fns (Cp.work (Cp.free N) fns n e 0 q1) w':=by
 have f0:Fr (λ_=>False) w (w.alloc (.cells #[.bool true,.slice pp pn pc,.iface bt bx] 178)):=(eU _ _).alloc _;have aA:=h.zx8 (.cells #[.bool true,.slice pp pn pc,.iface bt bx] 178);have CB:=eu (dq _ _ (λk hk=>.inl hk) f0 aA);have dS:=eu (gH w [.bool true,.slice pp pn pc,.iface bt bx] 178);have cB:=eu aA;have HR:=eu ((hr.qR f0).mono (λk _ hk=>(Or.inl hk:Z k\/k=w.heap.size)));have HW:=eu hW;have HF:=eu (kK hf hb);clear h hr dq hf hb hW f0 aA;go_enter func94,ntmps94;go_wp2_with fail;refine CB.o.mono ?_;rintro r w1⟨rfl,Z1,bh,bf,cA,z1,b1,f1,n1,n2,n3⟩;have cN:=cB.o.box f1 z1 dS.o (.inr rfl);have e2:=al cN.1 2;simp at e2;have CK:=eu (HW.o (below:=0) b1 (cB.o.rep f1 z1 HR.o) HF.o.1 (by simpa using HF.o.2));have X:=eu (kK z1 (kK f1 (kK n1 (kK n2 n3))));clear z1 b1 f1 n1 n2 n3 cN CB;go_wp2_with fail;refine CK.o.mono ?_;rintro r w2⟨rfl,hd⟩;have HD:=eu hd;clear hd CK e2;go_wp2
 first|go_end0|refine Ju rfl rfl ?_
 refine⟨rfl,ES.TV (o:=.cells #[.bool true,.slice pp pn pc,.iface bt bx] 178) ?_⟩;obtain⟨z,f,n1,n2,n3⟩:=X.o;exact kU z f n1 n2 n3 HD.o
theorem zrA(hW:Nw M N n)(h:BS Z w cb bb rv sv kv fns q)(hr:qU Z w n (.iface bt bx) e)(dq:∀Z1 W,(∀k,Z k->Z1 k)->Fr (λ_=>False) w W->BS Z1 W cb bb rv sv kv fns q->Calls prog 163 #[.pointer (some ⟨bb,0,none⟩),.agg #[.bool false,.slice pp pn pc,.iface bt bx]] W λr w'=>r=.returned (.tuple #[])/\ES Z1 W cb bb rv sv kv fns q1 w')(hf:Fit M N fns q1 e)(hb:(M+8)*Cp.wt N e<=1000000000):
  Calls prog 94 #[.pointer (some ⟨bb,0,none⟩),.agg #[.bool false,.slice pp pn pc,.iface bt bx],.int .i64 0] w λr w'=>r=.returned (.tuple #[])/\ES Z w cb bb rv sv kv fns (Cp.work (Cp.free N) fns n e 0 q1) w':=by
 have f0:Fr (λ_=>False) w (w.alloc (.cells #[.bool false,.slice pp pn pc,.iface bt bx] 178)):=(eU _ _).alloc _;have aA:=h.zx8 (.cells #[.bool false,.slice pp pn pc,.iface bt bx] 178);have CB:=eu (dq _ _ (λk hk=>.inl hk) f0 aA);have dS:=eu (gH w [.bool false,.slice pp pn pc,.iface bt bx] 178);have cB:=eu aA;have HR:=eu ((hr.qR f0).mono (λk _ hk=>(Or.inl hk:Z k\/k=w.heap.size)));have HW:=eu hW;have HF:=eu (kK hf hb);clear h hr dq hf hb hW f0 aA;go_enter func94,ntmps94;go_wp2_with fail;refine CB.o.mono ?_;rintro r w1⟨rfl,Z1,bh,bf,cA,z1,b1,f1,n1,n2,n3⟩;have cN:=cB.o.box f1 z1 dS.o (.inr rfl);have e2:=al cN.1 2;simp at e2;have CK:=eu (HW.o (below:=0) b1 (cB.o.rep f1 z1 HR.o) HF.o.1 (by simpa using HF.o.2));have X:=eu (kK z1 (kK f1 (kK n1 (kK n2 n3))));clear z1 b1 f1 n1 n2 n3 cN CB;go_wp2_with fail;refine CK.o.mono ?_;rintro r w2⟨rfl,hd⟩;have HD:=eu hd;clear hd CK e2;go_wp2
 first|go_end0|refine Ju rfl rfl ?_
 refine⟨rfl,ES.TV (o:=.cells #[.bool false,.slice pp pn pc,.iface bt bx] 178) ?_⟩;obtain⟨z,f,n1,n2,n3⟩:=X.o;exact kU z f n1 n2 n3 HD.o
variable {t1 t2:TypeId}{x1 x2:Value}
theorem zuO{below:Int}(hc:∀W,Fr (λ_=>False) w W->Calls prog 87 #[.pointer (some ⟨bb,0,none⟩),.agg #[.iface t1 x1,.iface t2 x2],.int .i64 below] W λr w'=>r=.returned (.tuple #[])/\ES Z W cb bb rv sv kv fns q1 w'):
  Calls prog 54 #[.pointer (some ⟨bb,0,none⟩),.iface 163 (.agg #[.iface t1 x1,.iface t2 x2]),.int .i64 below] w λr w'=>r=.returned (.tuple #[])/\ES Z w cb bb rv sv kv fns q1 w':=by
 obtain⟨i0,-⟩:=Ue;have F0:Hid (Fr (λ_=>False) w (w.alloc (.cells #[.iface t1 x1,.iface t2 x2] 163))):=eu ((eU _ _).alloc _);have CC:=eu (hc _ F0.o);clear hc;go_enter func54,ntmps54;go_wp2_with fail;refine CC.o.mono ?_;rintro r w1⟨rfl,hd⟩;have HD:=eu (Hz F0.o hd);clear hd CC i0;go_wp2
 first|go_end0|refine Ju rfl rfl ?_
 exact⟨rfl,HD.o⟩
theorem zq0{below:Int}{r:Bool}(hc:∀W,Fr (λ_=>False) w W->Calls prog 94 #[.pointer (some ⟨bb,0,none⟩),.agg #[.bool r,.slice pp pn pc,.iface bt bx],.int .i64 below] W λr w'=>r=.returned (.tuple #[])/\ES Z W cb bb rv sv kv fns q1 w'):
  Calls prog 54 #[.pointer (some ⟨bb,0,none⟩),.iface 178 (.agg #[.bool r,.slice pp pn pc,.iface bt bx]),.int .i64 below] w λr w'=>r=.returned (.tuple #[])/\ES Z w cb bb rv sv kv fns q1 w':=by
 obtain⟨i3,-,-,-,i0,i1,i2,-⟩:=Ug;have F0:Hid (Fr (λ_=>False) w (w.alloc (.cells #[.bool r,.slice pp pn pc,.iface bt bx] 178))):=eu ((eU _ _).alloc _);have CC:=eu (hc _ F0.o);clear hc;go_enter func54,ntmps54;go_wp2_with fail;refine CC.o.mono ?_;rintro r w1⟨rfl,hd⟩;have HD:=eu (Hz F0.o hd);clear hd CC i0 i1 i2 i3;go_wp2
 first|go_end0|refine Ju rfl rfl ?_
 exact⟨rfl,HD.o⟩
variable {below:Nat}{x:Value}
theorem zp7(uF:below<=1000000000)(hl:q1.code.length+1<=1000000000)(hc:Calls prog 95 #[.pointer (some ⟨bb,0,none⟩),.iface 217 x] w λr w'=>r=.returned (.tuple #[])/\ES Z w cb bb rv sv kv fns q1 w'):
  Calls prog 54 #[.pointer (some ⟨bb,0,none⟩),.iface 217 x,.int .i64 below] w λr w'=>r=.returned (.tuple #[])/\ES Z w cb bb rv sv kv fns (q1.ends (below+1) .enter) w':=by
 obtain⟨-,-,-,i0,i1,i3,i2,-⟩:=Uk;have CC:=eu hc;clear hc;go_enter func54,ntmps54;go_wp2_with fail;refine CC.o.mono ?_;rintro r w1⟨rfl,Z1,bh,bf,cA,z1,b1,f1,n1,n2,n3⟩;have CE:=eu (Xm (c:=below+1) (i:=.enter) b1 rfl hl);have X:=eu (kK z1 (kK f1 (kK n1 (kK n2 n3))));clear z1 b1 f1 n1 n2 n3 CC i0 i1 i2 i3;rw[show((below+1:Nat):Int)=(below:Int)+1 by omega]at CE;go_wp2_with fail;refine CE.o.mono ?_;rintro r w2⟨rfl,hd⟩;have HD:=eu hd;clear hd CE;go_wp2
 first|go_end0|refine Ju rfl rfl ?_
 refine⟨rfl,?_⟩;obtain⟨z,f,n1,n2,n3⟩:=X.o;exact kU z f n1 n2 n3 HD.o
theorem zwH(uF:below<=1000000000)(hl:q1.code.length+1<=1000000000)(hc:Calls prog 95 #[.pointer (some ⟨bb,0,none⟩),.iface 215 x] w λr w'=>r=.returned (.tuple #[])/\ES Z w cb bb rv sv kv fns q1 w'):
  Calls prog 54 #[.pointer (some ⟨bb,0,none⟩),.iface 215 x,.int .i64 below] w λr w'=>r=.returned (.tuple #[])/\ES Z w cb bb rv sv kv fns (q1.ends (below+1) .enter) w':=by
 obtain⟨-,-,-,i0,i1,i3,i2,-⟩:=Uh;have CC:=eu hc;clear hc;go_enter func54,ntmps54;go_wp2_with fail;refine CC.o.mono ?_;rintro r w1⟨rfl,Z1,bh,bf,cA,z1,b1,f1,n1,n2,n3⟩;have CE:=eu (Xm (c:=below+1) (i:=.enter) b1 rfl hl);have X:=eu (kK z1 (kK f1 (kK n1 (kK n2 n3))));clear z1 b1 f1 n1 n2 n3 CC i0 i1 i2 i3;rw[show((below+1:Nat):Int)=(below:Int)+1 by omega]at CE;go_wp2_with fail;refine CE.o.mono ?_;rintro r w2⟨rfl,hd⟩;have HD:=eu hd;clear hd CE;go_wp2
 first|go_end0|refine Ju rfl rfl ?_
 refine⟨rfl,?_⟩;obtain⟨z,f,n1,n2,n3⟩:=X.o;exact kU z f n1 n2 n3 HD.o
theorem zsl(uF:below<=1000000000)(hl:q1.code.length+1<=1000000000)(hc:Calls prog 95 #[.pointer (some ⟨bb,0,none⟩),.iface 219 x] w λr w'=>r=.returned (.tuple #[])/\ES Z w cb bb rv sv kv fns q1 w'):
  Calls prog 54 #[.pointer (some ⟨bb,0,none⟩),.iface 219 x,.int .i64 below] w λr w'=>r=.returned (.tuple #[])/\ES Z w cb bb rv sv kv fns (q1.ends (below+1) .enter) w':=by
 obtain⟨-,-,-,i0,i1,i3,i2,-⟩:=Ta;have CC:=eu hc;clear hc;go_enter func54,ntmps54;go_wp2_with fail;refine CC.o.mono ?_;rintro r w1⟨rfl,Z1,bh,bf,cA,z1,b1,f1,n1,n2,n3⟩;have CE:=eu (Xm (c:=below+1) (i:=.enter) b1 rfl hl);have X:=eu (kK z1 (kK f1 (kK n1 (kK n2 n3))));clear z1 b1 f1 n1 n2 n3 CC i0 i1 i2 i3;rw[show((below+1:Nat):Int)=(below:Int)+1 by omega]at CE;go_wp2_with fail;refine CE.o.mono ?_;rintro r w2⟨rfl,hd⟩;have HD:=eu hd;clear hd CE;go_wp2
 first|go_end0|refine Ju rfl rfl ?_
 refine⟨rfl,?_⟩;obtain⟨z,f,n1,n2,n3⟩:=X.o;exact kU z f n1 n2 n3 HD.o
theorem zp6(uF:below<=1000000000)(hl:q1.code.length+1<=1000000000)(hc:Calls prog 95 #[.pointer (some ⟨bb,0,none⟩),.iface 226 x] w λr w'=>r=.returned (.tuple #[])/\ES Z w cb bb rv sv kv fns q1 w'):
  Calls prog 54 #[.pointer (some ⟨bb,0,none⟩),.iface 226 x,.int .i64 below] w λr w'=>r=.returned (.tuple #[])/\ES Z w cb bb rv sv kv fns (q1.ends (below+1) .enter) w':=by
 obtain⟨-,-,-,-,i0,i1,i3,i2,-⟩:=Uj;have CC:=eu hc;clear hc;go_enter func54,ntmps54;go_wp2_with fail;refine CC.o.mono ?_;rintro r w1⟨rfl,Z1,bh,bf,cA,z1,b1,f1,n1,n2,n3⟩;have CE:=eu (Xm (c:=below+1) (i:=.enter) b1 rfl hl);have X:=eu (kK z1 (kK f1 (kK n1 (kK n2 n3))));clear z1 b1 f1 n1 n2 n3 CC i0 i1 i2 i3;rw[show((below+1:Nat):Int)=(below:Int)+1 by omega]at CE;go_wp2_with fail;refine CE.o.mono ?_;rintro r w2⟨rfl,hd⟩;have HD:=eu hd;clear hd CE;go_wp2
 first|go_end0|refine Ju rfl rfl ?_
 refine⟨rfl,?_⟩;obtain⟨z,f,n1,n2,n3⟩:=X.o;exact kU z f n1 n2 n3 HD.o
variable {blk:Nat}{l names:List Cp.Nm}{bl:List (Nat × List Ds)}
theorem zk8{sg:ByteArray}{le:Ex}(h:BS Z w cb bb rv sv kv fns q)(hr:qU Z w n (.iface t1 x1) le)(ak:∀W,Fr (λ_=>False) w W->Calls prog 89 #[.iface t2 x2] W λr w'=>∃v',r=.returned v'/\Names W.heap.size w' v' l/\Fr (λ_=>False) W w')(bu:names=Il q.kD l)(aL:l.length<=1000000)(aC:q.kD.length<=1000000000)(sY:∀Z1 W nv,(∀k,Z k->Z1 k)->Fr (λ_=>False) w W->CS Z1 W cb rv fns q.blocks->Row Z1 W 9 1 nv names.length (strCells names)->Calls prog 91 #[.pointer (some ⟨cb,0,none⟩),.agg #[.string sg,.iface t1 x1,.iface t2 x2],nv] W λr w'=>r=.returned (.int .i64 blk)/\NO Z1 W cb rv fns bl w')(dj:∀Z1 W bh bf cA nv,BS Z1 W cb bb bh bf cA fns ⟨bl,q.kD,q.code⟩->qU Z1 W n (.iface t1 x1) le->Row Z1 W 9 1 nv names.length (strCells names)->Calls prog 90 #[.pointer (some ⟨bb,0,none⟩),.iface t1 x1,nv,.int .i64 blk,.int .i64 below] W λr w'=>r=.returned (.tuple #[])/\ES Z1 W cb bb bh bf cA fns q1 w'):
  Calls prog 54 #[.pointer (some ⟨bb,0,none⟩),.iface 166 (.agg #[.string sg,.iface t1 x1,.iface t2 x2]),.int .i64 below] w λr w'=>r=.returned (.tuple #[])/\ES Z w cb bb rv sv kv fns q1 w':=by
 obtain⟨i1,-,-,-,i0,-⟩:=Ui;have f0:Fr (λ_=>False) w (w.alloc (.cells #[.string sg,.iface t1 x1,.iface t2 x2] 166)):=(eU _ _).alloc _;have CF:=eu (ak _ f0);have dS:=eu (gH w [.string sg,.iface t1 x1,.iface t2 x2] 166);have F0:=eu f0;have HH:=eu h;have HR:=eu hr;have HN:=eu bu;have vU:=eu sY;have vX:=eu dj;have cV:=h.Kq.lt;clear h hr ak bu sY dj f0;go_enter func54,ntmps54;go_wp2_with fail;refine CF.o.mono ?_;rintro r w1⟨fv,rfl,bI,f1⟩;obtain⟨fa,fn,fc,rfl⟩:=Jk bI;have dN:=eu (Vi (HH.o.qR (F0.o.trans f1)) bI aL aC);have F1:=eu (F0.o.trans f1);have B1:=eu (gd dS.o f1);clear CF bI f1 i0 i1;go_wp2_with fail;refine dN.o.mono ?_;rintro r w2⟨nv,rfl,ay,f2⟩;rw[<-HN.o]at ay;obtain⟨na,nn,nc,rfl⟩:=OG ay;have F2:=eu (F1.o.trans f2);have cN:=gd B1.o f2;have B2:=eu cN;have cZ:Hid (Names w.heap.size w2 (.slice na nn nc) names):=eu (Ib (lP ay) F1.o.size);have ek:=HH.o.UU F2.o cZ.o;have lQ:=eu ek;have af:Row (λk=>Z k\/(Value.slice na nn nc).ownBlock=some k) w2 9 1 (.slice na nn nc) names.length (strCells names):=⟨cZ.o.1,λk hk=>.inr hk⟩;have CR:=eu (vU.o _ w2.drew _ (λk hk=>.inl hk) F2.o.drew (ek.drew).cs (mq af ((eU (λ_=>False) _).drew)));have kF:=eu af;have dT:=eu ((HR.o.qR F2.o).mono (λk _ hk=>(Or.inl hk:Z k\/(Value.slice na nn nc).ownBlock=some k)));have b0:=al ek.Kq 0;have p0:=al cN 0;have p1:=al cN 1;have p2:=al cN 2;simp at b0 p0 p1 p2;clear dN ay f2 cN ek af;have ga:Hid (∀k,w.heap.size<=k->¬KL cb bb rv sv kv k):=eu (λk hk he=>by
  have h:=HH.o;rcases he with e|e|e|e|e
  .have:=h.Nr;omega
  .omega
  .have:=h.Ns k e;omega
  .have:=h.slt k e;omega
  .have:=h.Pt k e;omega)
 go_wp2_with fail
 go_region_held3 (λW=>W.cell? ⟨w.heap.size,0,none⟩=some (.string sg)/\W.cell? ⟨w.heap.size,1,none⟩=some (.iface t1 x1)/\W.cell? ⟨w.heap.size,2,none⟩=some (.iface t2 x2)/\W.cell? ⟨bb,0,none⟩=some (.pointer (some ⟨cb,0,none⟩))) (first|(refine⟨?_,?_,?_,?_⟩<;>assumption)|go_keep) (first
  |(go_at_call 91;refine CR.o.mono ?_;rintro r w3⟨rfl,hd⟩;obtain⟨Z3,j8,j9,j7,z3,b3,f3,m1,m2,m3⟩:=hd.V3 lQ.o.drew;have X3:=eu (kK z3 (kK b3 (kK f3 (kK m1 (kK m2 m3)))));have CW:=eu (vX.o Z3 w3 j8 j9 j7 (.slice na nn nc) b3 (lQ.o.drew.rep f3 z3 (dT.o.qR ((eU (λ_=>False) _).drew))) (lQ.o.drew.row f3 z3 (mq kF.o ((eU (λ_=>False) _).drew))));have gq:=gd (a:=w2.drew) B2.o f3 (ga.o _ (qP _));have B3:=eu gq;have qX:=al b3.Kq 0;have tI:=al gq 0;have tK:=al gq 1;have yy:=al gq 2;simp at qX tI tK yy;clear hd z3 b3 f3 m1 m2 m3 gq)
  |(go_at_call 90;refine CW.o.mono ?_;rintro r w4⟨rfl,hd⟩;have D4:=eu hd;obtain⟨Z4,yA,yC,yv,z4,b4,f4,m1,m2,m3⟩:=hd;have kj:¬KL cb bb j8 j9 j7 w.heap.size:=(λe=>ga.o _ (qP _) (Ia e X3.o.2.2.2.1 X3.o.2.2.2.2.1 X3.o.2.2.2.2.2 (oH.lt B2.o)));have iF:=gd B3.o f4 kj;have qY:=al b4.Kq 0;have tJ:=al iF 0;have tL:=al iF 1;have yz:=al iF 2;simp at qY tJ tL yz;clear z4 b4 f4 m1 m2 m3 iF kj))
 all_goals
  go_wp2
  first|go_end0|refine Ju rfl rfl ?_
  refine⟨rfl,?_⟩;have hd:ES (λk=>Z k\/(Value.slice na nn nc).ownBlock=some k) w2.drew cb bb rv sv kv fns q1 w4:=by obtain⟨z,b,f,n1,n2,n3⟩:=X3.o;exact kU z f n1 n2 n3 D4.o
  obtain⟨Z',aO,sv',bG,z,b,f,n1,n2,n3⟩:=hd;have f2:Fr (λ_=>False) w w2.drew:=F2.o.drew;refine⟨Z',aO,sv',bG,λk hk=>?_,b,(f2.mono (λ_ x=>x.elim)).trans f,kH (kq w rv) n1 f2.size,kH (kq w sv) n2 f2.size,kH (kq w kv) n3 f2.size⟩;rw[z k (Kl hk f2.size)];constructor
  .rintro(e|e)
   .exact e
   .have:=cZ.o.2 k e;omega
  .exact .inl
theorem zuP{le:Ex}(h:BS Z w cb bb rv sv kv fns q)(hr:qU Z w n (.iface t1 x1) le)(ak:∀W,Fr (λ_=>False) w W->Calls prog 92 #[.slice pp pn pc] W λr w'=>∃v',r=.returned v'/\Names W.heap.size w' v' l/\Fr (λ_=>False) W w')(bu:names=Il q.kD l)(aL:l.length<=1000000)(aC:q.kD.length<=1000000000)(sY:∀Z1 W nv,(∀k,Z k->Z1 k)->Fr (λ_=>False) w W->CS Z1 W cb rv fns q.blocks->Row Z1 W 9 1 nv names.length (strCells names)->Calls prog 93 #[.pointer (some ⟨cb,0,none⟩),.slice pp pn pc,nv] W λr w'=>r=.returned (.int .i64 blk)/\NO Z1 W cb rv fns bl w')(dj:∀Z1 W bh bf cA nv,BS Z1 W cb bb bh bf cA fns ⟨bl,q.kD,q.code⟩->qU Z1 W n (.iface t1 x1) le->Row Z1 W 9 1 nv names.length (strCells names)->Calls prog 90 #[.pointer (some ⟨bb,0,none⟩),.iface t1 x1,nv,.int .i64 blk,.int .i64 below] W λr w'=>r=.returned (.tuple #[])/\ES Z1 W cb bb bh bf cA fns q1 w'):
  Calls prog 54 #[.pointer (some ⟨bb,0,none⟩),.iface 173 (.agg #[.iface t1 x1,.slice pp pn pc]),.int .i64 below] w λr w'=>r=.returned (.tuple #[])/\ES Z w cb bb rv sv kv fns q1 w':=by
 obtain⟨i2,-,-,-,i0,i1,-⟩:=Uf;have f0:Fr (λ_=>False) w (w.alloc (.cells #[.iface t1 x1,.slice pp pn pc] 173)):=(eU _ _).alloc _;have CF:=eu (ak _ f0);have dS:=eu (gH w [.iface t1 x1,.slice pp pn pc] 173);have F0:=eu f0;have HH:=eu h;have HR:=eu hr;have HN:=eu bu;have vU:=eu sY;have vX:=eu dj;have cV:=h.Kq.lt;clear h hr ak bu sY dj f0;go_enter func54,ntmps54;go_wp2_with fail;refine CF.o.mono ?_;rintro r w1⟨fv,rfl,bI,f1⟩;obtain⟨fa,fn,fc,rfl⟩:=Jk bI;have dN:=eu (Vi (HH.o.qR (F0.o.trans f1)) bI aL aC);have F1:=eu (F0.o.trans f1);have B1:=eu (gd dS.o f1);clear CF bI f1 i0 i1 i2;go_wp2_with fail;refine dN.o.mono ?_;rintro r w2⟨nv,rfl,ay,f2⟩;rw[<-HN.o]at ay;obtain⟨na,nn,nc,rfl⟩:=OG ay;have F2:=eu (F1.o.trans f2);have cN:=gd B1.o f2;have B2:=eu cN;have cZ:Hid (Names w.heap.size w2 (.slice na nn nc) names):=eu (Ib (lP ay) F1.o.size);have ek:=HH.o.UU F2.o cZ.o;have lQ:=eu ek;have af:Row (λk=>Z k\/(Value.slice na nn nc).ownBlock=some k) w2 9 1 (.slice na nn nc) names.length (strCells names):=⟨cZ.o.1,λk hk=>.inr hk⟩;have CR:=eu (vU.o _ w2.drew _ (λk hk=>.inl hk) F2.o.drew (ek.drew).cs (mq af ((eU (λ_=>False) _).drew)));have kF:=eu af;have dT:=eu ((HR.o.qR F2.o).mono (λk _ hk=>(Or.inl hk:Z k\/(Value.slice na nn nc).ownBlock=some k)));have b0:=al ek.Kq 0;have p0:=al cN 0;have p1:=al cN 1;simp at b0 p0 p1;clear dN ay f2 cN ek af;have ga:Hid (∀k,w.heap.size<=k->¬KL cb bb rv sv kv k):=eu (λk hk he=>by
  have h:=HH.o;rcases he with e|e|e|e|e
  .have:=h.Nr;omega
  .omega
  .have:=h.Ns k e;omega
  .have:=h.slt k e;omega
  .have:=h.Pt k e;omega)
 go_wp2_with fail
 go_region_held3 (λW=>W.cell? ⟨w.heap.size,0,none⟩=some (.iface t1 x1)/\W.cell? ⟨w.heap.size,1,none⟩=some (.slice pp pn pc)/\W.cell? ⟨bb,0,none⟩=some (.pointer (some ⟨cb,0,none⟩))) (first|(refine⟨?_,?_,?_⟩<;>assumption)|go_keep) (first
  |(go_at_call 93;refine CR.o.mono ?_;rintro r w3⟨rfl,hd⟩;obtain⟨Z3,j8,j9,j7,z3,b3,f3,m1,m2,m3⟩:=hd.V3 lQ.o.drew;have X3:=eu (kK z3 (kK b3 (kK f3 (kK m1 (kK m2 m3)))));have CW:=eu (vX.o Z3 w3 j8 j9 j7 (.slice na nn nc) b3 (lQ.o.drew.rep f3 z3 (dT.o.qR ((eU (λ_=>False) _).drew))) (lQ.o.drew.row f3 z3 (mq kF.o ((eU (λ_=>False) _).drew))));have gq:=gd (a:=w2.drew) B2.o f3 (ga.o _ (qP _));have B3:=eu gq;have qX:=al b3.Kq 0;have tI:=al gq 0;have tK:=al gq 1;simp at qX tI tK;clear hd z3 b3 f3 m1 m2 m3 gq)
  |(go_at_call 90;refine CW.o.mono ?_;rintro r w4⟨rfl,hd⟩;have D4:=eu hd;obtain⟨Z4,yA,yC,yv,z4,b4,f4,m1,m2,m3⟩:=hd;have kj:¬KL cb bb j8 j9 j7 w.heap.size:=(λe=>ga.o _ (qP _) (Ia e X3.o.2.2.2.1 X3.o.2.2.2.2.1 X3.o.2.2.2.2.2 (oH.lt B2.o)));have iF:=gd B3.o f4 kj;have qY:=al b4.Kq 0;have tJ:=al iF 0;have tL:=al iF 1;simp at qY tJ tL;clear z4 b4 f4 m1 m2 m3 iF kj))
 all_goals
  go_wp2
  first|go_end0|refine Ju rfl rfl ?_
  refine⟨rfl,?_⟩;have hd:ES (λk=>Z k\/(Value.slice na nn nc).ownBlock=some k) w2.drew cb bb rv sv kv fns q1 w4:=by obtain⟨z,b,f,n1,n2,n3⟩:=X3.o;exact kU z f n1 n2 n3 D4.o
  obtain⟨Z',aO,sv',bG,z,b,f,n1,n2,n3⟩:=hd;have f2:Fr (λ_=>False) w w2.drew:=F2.o.drew;refine⟨Z',aO,sv',bG,λk hk=>?_,b,(f2.mono (λ_ x=>x.elim)).trans f,kH (kq w rv) n1 f2.size,kH (kq w sv) n2 f2.size,kH (kq w kv) n3 f2.size⟩;rw[z k (Kl hk f2.size)];constructor
  .rintro(e|e)
   .exact e
   .have:=cZ.o.2 k e;omega
  .exact .inl
end
end Go.Proofs.YtgahgkddaljmkaaGreatDoor
