/- Cmp26 .. Cmp29 -/
import Derived.Test.YtgahgkddaljmkaaGreatDoorV23
import Derived.Test.YtgahgkddaljmkaaGreatDoorV1
set_option maxRecDepth 100000
set_option maxHeartbeats 4000000
namespace Go.Proofs.YtgahgkddaljmkaaGreatDoor
open Go.RowKit Go.Shelf
attribute [local go_sem ↓] Go.wp_at_zero Go.wp_at_succ
theorem zvd:(Tryz.prog.info? 290).map (fun i=>(i.zero,i.size,i.bytes))=some (some (.agg #[.int .i64 0,.int .i64 0,.int .i64 0]),3,24):=by kernel_rfl
theorem zwC:∀ args w,(callFunc 159 args).run Tryz.prog w=.ok (.enter 159 args) w:=by
 intro args w
 kernel_rfl
structure AS (Z:Nat->Prop) (w wr:World) (cb bb:Nat) (rv sv kv v:Value) (fns:List Cp.Nm) (q:Cp.Bs) (k:Nat) (Zk:Nat->Prop) (rvk:Value) (bl:List (Nat × List Ins)) (lk:List (Nat × Nat × Nat)):Prop where
 z:∀ j,j<w.heap.size->(Zk j↔Z j)
 b:BS Zk wr cb bb rvk sv kv fns ⟨bl,q.zac,q.code⟩
 f:Fr (KL cb bb rv sv kv) w wr
 n:New w rv rvk
 row:wr.ownsRow w.heap.size 290 3 v k (zbp lk)
 nz:∀ j,v.ownBlock=some j->¬ Zk j/\rvk.ownBlock≠some j
 len:lk.length=k
variable {Z:Nat->Prop}
variable {w:World}
variable {cb:Nat}
variable {rv v:Value}
variable {fns:List Cp.Nm}
variable {q:Cp.Bs}
theorem AS.next{wr w1 w2 w2a w3:World}{bb:Nat}{sv kv:Value}{k:Nat}{Zk:Nat->Prop}{rvk:Value}{bl bl2:List (Nat × List Ins)}{lk:List (Nat × Nat × Nat)}(h0:BS Z w cb bb rv sv kv fns q)(h:AS Z w wr cb bb rv sv kv v fns q k Zk rvk bl lk)(f1:Fr (fun _=>False) wr w1)(d:zfO Zk w1 cb rvk fns bl2 w2)(f2:Fr (fun _=>False) w2 w2a){g cap:Nat}{a:Nat × Nat × Nat}(hown:w3.ownsRow w.heap.size 290 3 (.slice (some ⟨g,0,none⟩) (k+1) cap) (k+1) (zbp lk++[.int .i64 a.1,.int .i64 a.2.1,.int .i64 a.2.2]))(hg:w2a.grownBy w3 v.ownBlock)(hat:v.ownBlock=some g\/g=w2a.heap.size):∃ Z' rv',AS Z w w3 cb bb rv sv kv (.slice (some ⟨g,0,none⟩) (k+1) cap) fns q (k+1) Z' rv' bl2 (lk++[a]):=by
 have hc0:=h0.clt;have hr0:=h0.rlt;have hs0:=h0.slt;have hk0:=h0.klt;have hb0:=h0.zbW.lt;have hvl:∀ j,v.ownBlock=some j->w.heap.size<=j/\j<wr.heap.size:=fun j hj=>h.row.lt j hj
 have s1:=f1.size;have s2:=f2.size;have sf:=h.f.size;obtain ⟨Z',rv',z1,c1,g1,n1⟩:=d;have b1:BS Z' w2 cb bb rv' sv kv fns ⟨bl2,q.zac,q.code⟩:=by
  obtain ⟨vs,hk1,hk2⟩:=(h.b.fr0 f1).znO;have hh:=h.b.fr0 f1;have hnb:¬ (bb=cb\/rvk.ownBlock=some bb):=by
   rintro (e|e)
   ·exact hh.ne e.symm
   ·exact hh.rc.2 e
  have hns:∀ k,sv.ownBlock=some k->¬ (k=cb\/rvk.ownBlock=some k):=by
   rintro k e1 (e|e)
   ·exact hh.sc.1 (e ▸ e1)
   ·exact hh.rs k e e1
  have hnk:∀ k,kv.ownBlock=some k->¬ (k=cb\/rvk.ownBlock=some k):=by
   rintro k e1 (e|e)
   ·exact hh.kc.1 (e ▸ e1)
   ·exact hh.rk k e e1
  have hbl:=hh.zbW.lt;refine ⟨c1.zkk,Fr.blk hh.zbW g1 hnb,c1.zkF,g1.gb hh.ziJ hns,⟨vs,g1.gb hk1 hnk,hk2.frz g1 (fun k _ hz he=>hh.zk k hz (by rcases he with e|e;exact .inl e;exact .inr (.inr (.inl e)))) (fun k hk hz=>(z1 k hk).2 hz)⟩,c1.zlt,?_,hh.ne,⟨c1.rc,?_⟩,hh.sc,hh.kc,?_,?_,hh.sk⟩
  ·rintro k hz (e|e|e|e|e)
   ·exact (c1.zk k hz).1 e
   ·subst e;exact hh.zk k ((z1 k hbl).1 hz) (.inr (.inl rfl))
   ·exact (c1.zk k hz).2 e
   ·exact hh.zk k ((z1 k (hh.slt k e)).1 hz) (.inr (.inr (.inr (.inl e))))
   ·exact hh.zk k ((z1 k (hh.klt k e)).1 hz) (.inr (.inr (.inr (.inr e))))
  ·intro e;rcases n1 bb e with e|e
   ·exact hh.rc.2 e
   ·omega
  ·intro k e e';rcases n1 k e with e|e
   ·exact hh.rs k e e'
   ·have:=hh.slt k e';omega
  ·intro k e e';rcases n1 k e with e|e
   ·exact hh.rk k e e'
   ·have:=hh.klt k e';omega
 have hv1:∀ j,v.ownBlock=some j->¬ Z' j/\rv'.ownBlock≠some j:=fun j hj=>⟨fun e=>(h.nz j hj).1 ((z1 j (by have:=(hvl j hj).2;omega)).1 e),fun e=>by
  rcases n1 j e with e|e
  ·exact (h.nz j hj).2 e
  ·have:=(hvl j hj).2;omega⟩
 have f3:Fr (fun j=>v.ownBlock=some j) w2a w3:=(Fr.refl _ _).zjx hg (fun k _ e=>e);have b2:=b1.fr0 f2;have hg1:=g1.size;refine ⟨Z',rv',⟨fun j hj=>(z1 j (by omega)).trans (h.z j hj),b2.frk f3 ?_,?_,?_,?_,?_,by simp[h.len]⟩⟩
 ·rintro k (hk|hk) e
  ·exact (hv1 k e).1 hk
  ·have:=hvl k e;rcases hk with e'|e'|e'|e'|e'
   ·omega
   ·omega
   ·exact (hv1 k e).2 e'
   ·have:=hs0 k e';omega
   ·have:=hk0 k e';omega
 ·have e1:Fr (KL cb bb rv sv kv) w w2a:=by
   refine ⟨f2.os.trans (g1.os.trans (f1.os.trans h.f.os)),f2.tape.trans (g1.tape.trans (f1.tape.trans h.f.tape)),f2.output.trans (g1.output.trans (f1.output.trans h.f.output)),by omega,fun i hi hK=>?_⟩;rw[f2.block i (by omega) (by simp),g1.block i (by omega) ?_,f1.block i (by omega) (by simp),h.f.block i hi hK];rintro (e|e)
   ·exact hK (.inl e)
   ·rcases h.n i e with e|e
    ·exact hK (.inr (.inr (.inl e)))
    ·omega
  exact e1.zjx hg (fun k hk e=>by have:=hvl k e;omega)
 ·exact h.n.trans (New.trans (New.refl wr rvk) n1 s1) sf
 ·rw[show zbp (lk++[a])=zbp lk++[.int .i64 a.1,.int .i64 a.2.1,.int .i64 a.2.2] by simp[zbp]];exact hown
 ·intro j hj;simp only[Value.ownBlock,zxL]at hj;subst hj;rcases hat with e|e
  ·exact hv1 _ e
  ·refine ⟨fun e'=>?_,fun e'=>?_⟩
   ·have:=b1.zlt _ e';omega
   ·have:=b1.rlt _ e';omega
variable {n:Nat}
theorem zs9{M N:Nat}(hW:zbg M N n){bb ba bc bn:Nat}{sv kv av nv:Value}{names:List Cp.Nm}{zao:List (Nat × List Th.Tok)}{bodies:List Th.Ex}{nvs bvs:List Value}(h:BS Z w cb bb rv sv kv fns q)(ha:Blk w ba [av] 171)(za:Z ba)(hc:Blk w bc [.pointer (some ⟨cb,0,none⟩)] 83)(zc:Z bc)(hn0:Blk w bn [nv] 38)(zn:Z bn)(h3:bodies.length=zao.length)(h4:nvs.length=zao.length)(h5:bvs.length=zao.length)(h6:Row Z w 240 3 av zao.length (za7 zao nvs bvs))(hn:Row Z w 9 1 nv names.length (strCells names))(h7:∀ (i:Nat) (a:Nat × List Th.Tok) (nv:Value),zao[i]?=some a->nvs[i]?=some nv->Row Z w 88 2 nv a.2.length (zaj a.2))(h8:∀ (i:Nat) (bv:Value) (p:Th.Ex),bvs[i]?=some bv->bodies[i]?=some p->Rep Z w n bv p)(hne:zao≠[])(hcost:∀ d q,d∈bodies->(Cp.work (Cp.free N) fns n d 0 q).blocks.length<=q.blocks.length+8*Cp.wt N d)(hfit:∀ (i:Nat) (a:Nat × List Th.Tok) (d:Th.Ex) (b:List (Nat × List Ins)),zao[i]?=some a->bodies[i]?=some d->b.length+8*Cp.wt N d<=1000000->Fit M N fns ⟨b,(Th.texts a.2++names).reverse,[]⟩ d/\names.length+a.2.length<=1000000)(hsum:q.blocks.length+(bodies.map fun d=>8*Cp.wt N d+1).sum<=1000000)(hcl:q.code.length<=1000000)(hal:zao.length<=1000000):
  Calls Tryz.prog 159 #[.pointer (some ⟨bb,0,none⟩),.pointer (some ⟨ba,0,none⟩),.pointer (some ⟨bc,0,none⟩),.pointer (some ⟨bn,0,none⟩)] w fun r w'=>r=.returned (.tuple #[]) /\
   Did Z w cb bb rv sv kv fns ((Cp.armsOf (Cp.work (Cp.free N) fns n) names zao bodies q []).1.write (.choose (Cp.armsOf (Cp.work (Cp.free N) fns n) names zao bodies q []).2)) w':=by
 obtain ⟨i0,hi0,hz0,hz1,hz2⟩:=info_parts zvd;have HI:=zab hi0;clear hi0;have HZ:=zab (And.intro hz0 (And.intro hz1 hz2));clear hz0 hz1 hz2;have hpos:0<zao.length:=zyz.2 hne;have hss:=zan h6;obtain ⟨g0,ac,hav⟩:∃ g0 ac,av=.slice (some ⟨g0,0,none⟩) zao.length ac:=by
  rcases hss with e|⟨g,c,e⟩
  ·rcases h6.1.2 with ⟨_,h0⟩|⟨_,_,_,h0,_⟩
   ·omega
   ·rw[e]at h0;cases h0
  ·exact ⟨g,c,e⟩
 subst hav;obtain ⟨np,nn,nc,rfl⟩:=zae hn;have c0:=Blk.cell ha 0;simp at c0;have HH:=zab h;have HA:=zab (And.intro (And.intro ha za) (And.intro (And.intro hc zc) (And.intro hn0 zn)));have H3:=zab h3;have H4:=zab h4;have H5:=zab h5;have H6:=zab h6;have HN:=zab hn;have H7:=zab h7;have H8:=zab h8;have HCO:=zab hcost;have HFI:=zab hfit;have HSU:=zab hsum;have HW:=zab hW;have HNE:=zab hne;clear h ha za hc zc hn0 zn h3 h4 h5 h6 hn h7 h8 hcost hfit hsum hW hss hne;go_enter Tryz.func159,Tryz.ntmps159
 go_wp2_with fail
 clear c0
 go_loopg [5,10] zao.length (fun gk v iv wr=>∃ (k:Nat) (Zk:Nat->Prop) (rvk:Value) (bl:List (Nat × List Ins)) (lk:List (Nat × Nat × Nat)),iv=.int .i64 k/\k+gk=zao.length/\AS Z w wr cb bb rv sv kv v fns q k Zk rvk bl lk /\
  Cp.armsOf (Cp.work (Cp.free N) fns n) names (zao.drop k) (bodies.drop k) ⟨bl,q.zac,q.code⟩ lk=Cp.armsOf (Cp.work (Cp.free N) fns n) names zao bodies q []/\bl.length+((bodies.drop k).map fun d=>8*Cp.wt N d+1).sum<=1000000)
 case atStart=>
  exact ⟨0,Z,rv,q.blocks,[],rfl,by omega,⟨fun _ _=>zzs,HH.o,Fr.refl _ _,New.refl _ _,World.ownsRow_nil _ _ _ _,by simp[Value.ownBlock],rfl⟩,by simp,by simpa using HSU.o⟩
 case round=>
  obtain ⟨k,Zk,rvk,bl,lk,rfl,hk,hS,hE,hB⟩:=hrel;obtain ⟨va,vn,vc,rfl⟩:=zaF hS.row;have h0:=HH.o;have hca:=h0.box hS.f hS.z HA.o.2.1.1 HA.o.2.1.2;have hna:=h0.box hS.f hS.z HA.o.2.2.1 HA.o.2.2.2;have HS:=zab hS;by_cases hlt:k<zao.length
  ·obtain ⟨a,hak⟩:∃ a,zao[k]?=some a:=⟨zao[k],zxI hlt⟩;obtain ⟨p,hp⟩:∃ p,bodies[k]?=some p:=⟨_,zxI (by rw[H3.o];exact hlt)⟩;obtain ⟨pv,hpv⟩:∃ nv,nvs[k]?=some nv:=⟨_,zxI (by rw[H4.o];exact hlt)⟩;obtain ⟨bv,hbv⟩:∃ bv,bvs[k]?=some bv:=⟨_,zxI (by rw[H5.o];exact hlt)⟩;have hP:=h0.row hS.f hS.z (H7.o k a pv hak hpv);have hR:=h0.rep hS.f hS.z (H8.o k bv p hbv hp);have hNm:=h0.row hS.f hS.z HN.o;obtain ⟨pp,pn,pc,rfl⟩:=zae hP;obtain ⟨bt,bx,rfl⟩:=zah hR;have hcs:=zdu zao nvs bvs k a _ _ hak hpv hbv;have hrow:=(h0.row hS.f hS.z H6.o).1;have c0:=(hrow.cellAt (k*3) (by omega)).trans hcs.1;have c1:=(hrow.cellAt (k*3+1) (by omega)).trans hcs.2.1;have c2:=(hrow.cellAt (k*3+2) (by omega)).trans hcs.2.2;have hk0:(0:Int)<=(k:Int):=zyJ _;have hDa:zao.drop k=a::zao.drop (k+1):=by rw[zyn hlt];rw[zxI hlt]at hak;cases hak;rfl
   have hDb:bodies.drop k=p::bodies.drop (k+1):=by
    have hlt':k<bodies.length:=by rw[H3.o];exact hlt
    rw[zyn hlt'];rw[zxI hlt']at hp;cases hp;rfl
   rw[hDb,zx6,zx9]at hB;obtain ⟨hF,hFl⟩:=HFI.o k a p bl hak hp (by omega);have hco:(Cp.work (Cp.free N) fns n p 0 ⟨bl,(Th.texts a.2++names).reverse,[]⟩).blocks.length<=bl.length+8*Cp.wt N p:=HCO.o p ⟨bl,(Th.texts a.2++names).reverse,[]⟩ (zxX hp);obtain ⟨qa,hqa⟩:∃ qa,qa=Cp.work (Cp.free N) fns n p 0 ⟨bl,(Th.texts a.2++names).reverse,[]⟩:=⟨_,rfl⟩;obtain ⟨sl,hsl⟩:∃ sl,sl=(Th.texts a.2++names).reverse:=⟨_,rfl⟩;rw[<-hqa]at hco;rw[<-hsl]at hqa hF;have hE2:Cp.armsOf (Cp.work (Cp.free N) fns n) names (zao.drop (k+1)) (bodies.drop (k+1)) ⟨qa.blocks++[(sl.length,qa.code)],q.zac,q.code⟩ (lk++[(a.1,a.2.length,qa.blocks.length)])=Cp.armsOf (Cp.work (Cp.free N) fns n) names zao bodies q []:=by
    rw[<-hE,hDa,hDb,Cp.armsOf,hqa,hsl];rfl
   have hB2:(qa.blocks++[(sl.length,qa.code)]).length+((bodies.drop (k+1)).map fun d=>8*Cp.wt N d+1).sum<=1000000:=by
    simp only[zxP,zxW];omega
   have f1:Fr (fun _=>False) wr (wr.alloc (.cells #[.int .i64 a.1,.slice pp pn pc,.iface bt bx] 240)):=(Fr.refl _ _).alloc _;have CA:=zab (zwi (tag:=a.1) HW.o hsl hqa (hS.b.fr0 f1).cs (hR.fr0 f1) (Row.frc hP f1 (by simp)) (Row.frc hNm f1 (by simp)) hF hFl (by omega));have d0:=Blk.cell hca.1 0;have d1:=Blk.cell hna.1 0;have d2:(wr.alloc (.cells #[.int .i64 a.1,.slice pp pn pc,.iface bt bx] 240)).cell? ⟨bc,0,none⟩=some (.pointer (some ⟨cb,0,none⟩)):=Blk.cell (Blk.alloc hca.1 _) 0;have d3:(wr.alloc (.cells #[.int .i64 a.1,.slice pp pn pc,.iface bt bx] 240)).cell? ⟨bn,0,none⟩=some (.slice np nn nc):=Blk.cell (Blk.alloc hna.1 _) 0;simp at d0 d1;have HE2:=zab (And.intro hE2 hB2);have F1:=zab f1;clear hS hE hB hca hna hP hR hNm hcs hrow hDa hDb hF hFl hco hqa hsl hE2 hB2 f1 h0 hak hp hpv hbv;go_wp2_with fail
   refine CA.o.mono ?_;rintro r w2 ⟨rfl,hd⟩;have hgv:∀ j,(Value.slice va vn vc).ownBlock=some j->¬ (j=cb\/rvk.ownBlock=some j):=by
    rintro j hj (e|e)
    ·have:=HS.o.row.lt j hj;have:=HH.o.clt;omega
    ·exact (HS.o.nz j hj).2 e
   have hsz:w.heap.size<=w2.heap.size:=by
    obtain ⟨_,_,_,_,g1,_⟩:=hd;exact zxN HS.o.f.size (zxN F1.o.size g1.size)
   have HOWN:Hid ((w2.alloc (.cells #[.int .i64 a.1,.int .i64 a.2.length,.int .i64 qa.blocks.length] 290)).ownsRow w.heap.size 290 3 (.slice va vn vc) k (zbp lk)):=zab (by
    obtain ⟨_,_,_,_,g1,_⟩:=hd;have hw:=HS.o.row;refine ⟨hw.1,?_⟩;rcases hw.2 with e|⟨g,cap,cur,e,hg,hb,r⟩
    ·exact .inl e
    ·refine .inr ⟨g,cap,cur,e,hg,?_,r⟩;have hgl:=(zxU.1 hb).1;rw[((Fr.refl (fun _=>False) w2).alloc _).block g (by have:=F1.o.size;have:=g1.size;omega) (by simp),g1.block g (by have:=F1.o.size;omega) (hgv g (by rw[e];rfl)),F1.o.block g hgl (by simp)];exact hb)
   have HD:=zab hd;have hkl:k<=1000000:=by omega
   clear hd CA c0 c1 c2 d0 d1 d2 d3 hgv;go_wp2_with (at_builtin;refine wpList_append_lies _ rfl _ _ _ rfl w.heap.size 290 i0 _ 3 24 Tryz.underlying274 HI.o HZ.o.1 HZ.o.2.1 HZ.o.2.2 rfl (by omega) _ k (zbp lk) rfl HOWN.o ⟨w2.heap.size,0,none⟩ 1 1 [.int .i64 a.1,.int .i64 a.2.length,.int .i64 qa.blocks.length] rfl rfl (World.news_of_block (cs:=#[.int .i64 a.1,.int .i64 a.2.length,.int .i64 qa.blocks.length]) (t:=290) (fr:=(0,0)) (heap_alloc_new w2 _)) (by simp[Value.oneCell']) (by omega) (by unfold maxLen;omega) (by omega) (by simp;omega) (w2.heap.size+1) (by simp) ?_;intro g cap w3 hown hgrow hat hlt3)
   obtain ⟨Z',rv',hA⟩:=AS.next (a:=(a.1,a.2.length,qa.blocks.length)) HH.o HS.o F1.o HD.o ((Fr.refl (fun _=>False) w2).alloc _) hown hgrow (by rcases hat with e|e;exact .inl e;exact .inr (by rw[World.size_alloc];exact e));have HAS:=zab hA;clear hA hown hgrow hat hlt3
   go_roundg (zao.length-(k+1))
   case measure=>omega
   case rel=>exact ⟨k+1,Z',rv',_,_,by go_num,by omega,HAS.o,HE2.o.1,HE2.o.2⟩
  ·have hk2:k=zao.length:=by omega
   have hE2:Cp.armsOf (Cp.work (Cp.free N) fns n) names zao bodies q []=(⟨bl,q.zac,q.code⟩,lk):=by
    rw[<-hE,hk2,List.drop_length,Cp.armsOf];simp
   have hlk:lk≠[]:=fun e=>by have:=hS.len;rw[e]at this;simp at this;omega
   have hw:=hS.row;have hbm:=hS.b.more (A:=fun j=>(Value.slice va vn vc).ownBlock=some j) (fun j hj=>by
    have hl:=hw.lt j hj;refine ⟨hl.2,?_⟩;have h1:=HH.o.clt;have h2:=HH.o.slt;have h3:=HH.o.klt;have h4:=HH.o.zbW.lt;rintro (e|e|e|e|e)
    ·omega
    ·omega
    ·exact (hS.nz j hj).2 e
    ·have:=h2 j e;omega
    ·have:=h3 j e;omega)
   have CW:=zab (zbN (i:=.choose lk) (v:=.iface 276 (.agg #[.slice va vn vc])) hbm ⟨_,rfl,⟨by have:=zaY hw (zx1 _);rwa [<-hS.len]at this,fun j hj=>.inr hj⟩,hlk⟩ (by simp;omega));have HE2:=zab hE2;have hzz:∀ j,j<w.heap.size->((Zk j\/(Value.slice va vn vc).ownBlock=some j)↔Z j):=fun j hj=>by
    rw[<-hS.z j hj];constructor
    ·rintro (e|e)
     ·exact e
     ·have:=hw.lt j e;omega
    ·exact .inl
   have X1:=zab (And.intro hzz (And.intro hS.f hS.n));clear hS hE hB hE2 hlk hw hbm hzz h0 hca hna hk2;go_wp2_with fail
   refine CW.o.mono ?_;rintro r w2 ⟨rfl,hd⟩;have HD:=zab hd;clear hd CW;go_wp2_with fail
   first|go_end0|refine bodyPost_ret (results_none rfl _ _ _) rfl ?_
   refine ⟨rfl,?_⟩;rw[HE2.o];exact Did.trans X1.o.1 X1.o.2.1 X1.o.2.2 (New.refl _ _) (New.refl _ _) HD.o
theorem zvs{M N:Nat}(hW:zbg M N n){av nv:Value}{names sl:List Cp.Nm}{bl:List (Nat × List Ins)}{zao:List (Nat × List Th.Tok)}{bodies:List Th.Ex}{nvs bvs:List Value}(hsl:sl=([]::names).reverse)(hq:q=(Cp.armsOf (Cp.work (Cp.free N) fns n) names zao bodies ⟨bl,sl,[]⟩ []).1.write (.choose (Cp.armsOf (Cp.work (Cp.free N) fns n) names zao bodies ⟨bl,sl,[]⟩ []).2))(h:CS Z w cb rv fns bl)(h3:bodies.length=zao.length)(h4:nvs.length=zao.length)(h5:bvs.length=zao.length)(h6:Row Z w 240 3 av zao.length (za7 zao nvs bvs))(hn:Row Z w 9 1 nv names.length (strCells names))(h7:∀ (i:Nat) (a:Nat × List Th.Tok) (nv:Value),zao[i]?=some a->nvs[i]?=some nv->Row Z w 88 2 nv a.2.length (zaj a.2))(h8:∀ (i:Nat) (bv:Value) (p:Th.Ex),bvs[i]?=some bv->bodies[i]?=some p->Rep Z w n bv p)(hne:zao≠[])(hcost:∀ d q,d∈bodies->(Cp.work (Cp.free N) fns n d 0 q).blocks.length<=q.blocks.length+8*Cp.wt N d)(hfit:∀ (i:Nat) (a:Nat × List Th.Tok) (d:Th.Ex) (b:List (Nat × List Ins)),zao[i]?=some a->bodies[i]?=some d->b.length+8*Cp.wt N d<=1000000->Fit M N fns ⟨b,(Th.texts a.2++names).reverse,[]⟩ d/\names.length+a.2.length<=1000000)(hsum:bl.length+(bodies.map fun d=>8*Cp.wt N d+1).sum<=1000000)(hal:zao.length<=1000000)(hnl:names.length<=100000)(hl:q.blocks.length<=1000000000):
  Calls Tryz.prog 93 #[.pointer (some ⟨cb,0,none⟩),av,nv] w fun r w'=>r=.returned (.int .i64 q.blocks.length)/\zfO Z w cb rv fns (q.blocks++[(sl.length,q.code)]) w':=by
 have hmf:∀ (fn:Fn) (first cap:Array Value) (w:World),(Instr.makeFunc fn first cap).run Tryz.prog w=.ok (.func fn first cap) w:=fun _ _ _ _=>rfl
 obtain ⟨aa,an,ac,rfl⟩:=zae h6;obtain ⟨np,nn,nc,rfl⟩:=zae hn;have f0:Fr (fun _=>False) w (((w.alloc (.cells #[.pointer (some ⟨cb,0,none⟩)] 83)).alloc (.cells #[.slice aa an ac] 171)).alloc (.cells #[.slice np nn nc] 38)):=(((Fr.refl _ _).alloc _).alloc _).alloc _;have hX1:=Blk.alloc (Blk.alloc (Blk.new w [.pointer (some ⟨cb,0,none⟩)] 83) (.cells #[.slice aa an ac] 171)) (.cells #[.slice np nn nc] 38);have hX2:=Blk.alloc (Blk.new (w.alloc (.cells #[.pointer (some ⟨cb,0,none⟩)] 83)) [.slice aa an ac] 171) (.cells #[.slice np nn nc] 38);have hX3:=Blk.new ((w.alloc (.cells #[.pointer (some ⟨cb,0,none⟩)] 83)).alloc (.cells #[.slice aa an ac] 171)) [.slice np nn nc] 38;rw[World.size_alloc]at hX2;rw[World.size_alloc,World.size_alloc]at hX3;have HX1:=zab hX1;have HX2:=zab hX2;have HX3:Hid (Blk (((w.alloc (.cells #[.pointer (some ⟨cb,0,none⟩)] 83)).alloc (.cells #[.slice aa an ac] 171)).alloc (.cells #[.slice np nn nc] 38)) (w.heap.size+2) [.slice np nn nc] 38):=zab hX3;have F0:=zab f0;have HN:=zab hn;have HH:=zab (And.intro h hl);have HR:=zab (And.intro h3 (And.intro h4 (And.intro h5 (And.intro h6 (And.intro h7 h8)))));have HK:=zab (And.intro hne (And.intro hcost (And.intro hfit hsum)));have HSL:=zab (And.intro hsl hq);have HW:=zab hW;clear hW h hn hl hX1 hX2 hX3 f0 hsl hq h3 h4 h5 h6 h7 h8 hne hcost hfit hsum;go_enter Tryz.func93,Tryz.ntmps93
 go_wp2_with fail
 generalize ((w.alloc (.cells #[.pointer (some ⟨cb,0,none⟩)] 83)).alloc (.cells #[.slice aa an ac] 171)).alloc (.cells #[.slice np nn nc] 38)=w0 at HX1 HX2 HX3 F0 ⊢;have q1a:w0.cell? ⟨w.heap.size,0,none⟩=some (.pointer (some ⟨cb,0,none⟩)):=Blk.cell HX1.o 0;have q1b:w0.cell? ⟨w.heap.size+2,0,none⟩=some (.slice np nn nc):=Blk.cell HX3.o 0;have AA:Hid (∀ (W:World) (sp:Option Addr) (sn sc:Nat),Fr (fun _=>False) w0 W->Names w0.heap.size W (.slice sp sn sc) sl->Calls Tryz.prog 154 #[.pointer (some ⟨cb,0,none⟩),.slice sp sn sc,.func (.func 159) #[] #[.pointer (some ⟨w.heap.size+1,0,none⟩),.pointer (some ⟨w.heap.size,0,none⟩),.pointer (some ⟨w.heap.size+2,0,none⟩)]] W fun r w'=>r=.returned (.int .i64 q.blocks.length)/\zfO Z w cb rv fns (q.blocks++[(sl.length,q.code)]) w'/\w'.cell? ⟨w.heap.size,0,none⟩=some (.pointer (some ⟨cb,0,none⟩))/\w'.cell? ⟨w.heap.size+2,0,none⟩=some (.slice np nn nc)):=zab (by
  intro W sp sn sc f2 hsv;obtain ⟨h,hl⟩:=HH.o;obtain ⟨h3,h4,h5,h6,h7,h8⟩:=HR.o;obtain ⟨hne,hcost,hfit,hsum⟩:=HK.o;have f3:=F0.o.trans f2;have hz0:=HX3.o.lt;have hs0:∀ k,(Value.slice sp sn sc).ownBlock=some k->w.heap.size+3<=k:=fun k hk=>by have:=hsv.2 k hk;omega
  have hA:∀ k,(k=w.heap.size\/k=w.heap.size+1\/k=w.heap.size+2)->k<W.heap.size/\k≠cb/\rv.ownBlock≠some k:=fun k hk=>⟨by have:=f2.size;omega,by have:=h.clt;omega,fun e=>by have:=h.rlt k e;omega⟩
  have h3c:=(h.fr0 f3).more hA;refine (zgy (q:=q) zwC h3c (zaY hsv.1 (zx1 _)) (fun k hk=>⟨by have:=h.clt;have:=hs0 k hk;omega,fun e=>by have:=h.rlt k e;have:=hs0 k hk;omega,fun e=>by
    have:=hs0 k hk;rcases e with e|e
    ·have:=h.zlt k e;omega
    ·omega⟩) (fun W' bb hW' hb=>?_) hl).mono ?_
  ·rw[HSL.o.2];have f4:=f3.trans hW';refine zs9 HW.o hb (Fr.blk (Fr.blk HX2.o f2 (by simp)) hW' (by simp)) (.inr (.inr (.inl rfl))) (Fr.blk (Fr.blk HX1.o f2 (by simp)) hW' (by simp)) (.inr (.inl rfl)) (Fr.blk (Fr.blk HX3.o f2 (by simp)) hW' (by simp)) (.inr (.inr (.inr rfl))) h3 h4 h5 ((Row.frc h6 f4 (by simp)).mono (fun k _ hk=>.inl hk)) ((Row.frc HN.o f4 (by simp)).mono (fun k _ hk=>.inl hk)) (fun i a nv hi hv=>(Row.frc (h7 i a nv hi hv) f4 (by simp)).mono (fun k _ hk=>.inl hk)) (fun i bv p hi hp=>((h8 i bv p hi hp).fr0 f4).mono (fun k _ hk=>.inl hk)) hne hcost hfit hsum (by simp) hal
  ·rintro r w6 ⟨rfl,Z',rv',z1,hc,f6,n6⟩;refine ⟨rfl,zqx f3 (fun k hk=>by have:=hs0 k hk;omega) (fun k hk=>?_) hc f6 n6,?_,?_⟩
   ·rw[z1 k (zxO hk f3.size)];constructor
    ·rintro (e|e)
     ·exact e
     ·omega
    ·exact .inl
   ·refine Blk.cell (Fr.blk (Fr.blk HX1.o f2 (by simp)) f6 ?_) 0;rintro (e|e|e)
    ·have:=h.clt;omega
    ·have:=h.rlt _ e;omega
    ·have:=hs0 _ e;omega
   ·refine Blk.cell (Fr.blk (Fr.blk HX3.o f2 (by simp)) f6 ?_) 0;rintro (e|e|e)
    ·have:=h.clt;omega
    ·have:=h.rlt _ e;omega
    ·have:=hs0 _ e;omega)
 go_region_held3 (fun W=>W.cell? ⟨w.heap.size,0,none⟩=some (.pointer (some ⟨cb,0,none⟩))/\W.cell? ⟨w.heap.size+2,0,none⟩=some (.slice np nn nc)) (first|(refine ⟨?_,?_⟩ <;> assumption)|go_keep) (first
  |(go_at_call 155;refine (zd1 _).mono ?_;rintro e wA ⟨rfl,hwA⟩;have FA:Hid (Fr (fun _=>False) w0 wA):=zab (by rw[hwA];exact ((Fr.refl _ _).drew).alloc _);have A1:Hid (Blk wA w0.heap.size [.string ⟨#[]⟩] 9):=zab (by rw[hwA];exact Blk.new w0.drew [.string ⟨#[]⟩] 9);clear hwA;have q2a:wA.cell? ⟨w.heap.size,0,none⟩=some (.pointer (some ⟨cb,0,none⟩)):=Blk.cell (Fr.blk HX1.o FA.o (by simp)) 0;have q2b:wA.cell? ⟨w.heap.size+2,0,none⟩=some (.slice np nn nc):=Blk.cell (Fr.blk HX3.o FA.o (by simp)) 0;
    have q5a:(wA.alloc (.cells #[.slice (some ⟨w0.heap.size,0,none⟩) 1 1,.slice np nn nc] 38)).cell? ⟨w.heap.size,0,none⟩=some (.pointer (some ⟨cb,0,none⟩)):=Blk.cell (Blk.alloc (Fr.blk HX1.o FA.o (by simp)) _) 0;have q5b:(wA.alloc (.cells #[.slice (some ⟨w0.heap.size,0,none⟩) 1 1,.slice np nn nc] 38)).cell? ⟨w.heap.size+2,0,none⟩=some (.slice np nn nc):=Blk.cell (Blk.alloc (Fr.blk HX3.o FA.o (by simp)) _) 0)
  |(go_at_call 51;have f11:Fr (fun _=>False) wA (wA.alloc (.cells #[.slice (some ⟨w0.heap.size,0,none⟩) 1 1,.slice np nn nc] 38)):=(Fr.refl _ _).alloc _;refine (zdR (Blk.new wA [.slice (some ⟨w0.heap.size,0,none⟩) 1 1,.slice np nn nc] 38) (ztl (Fr.blk A1.o f11 (by simp))) (Row.frc HN.o (F0.o.trans (FA.o.trans f11)) (by simp)) (by simp;omega)).mono ?_;rintro r w2 ⟨sv,rfl,hsv,f2⟩;have hsv':Names _ w2 sv sl:=HSL.o.1 ▸ hsv;obtain ⟨sp,sn,sc,rfl⟩:=zae hsv;have F2:=zab (FA.o.trans (f11.trans f2));have HSV:=zab hsv';have F11:=zab (zxN FA.o.size f11.size);clear hsv hsv' f2 f11;have q3a:w2.cell? ⟨w.heap.size,0,none⟩=some (.pointer (some ⟨cb,0,none⟩)):=Blk.cell (Fr.blk HX1.o F2.o (by simp)) 0;have q3b:w2.cell? ⟨w.heap.size+2,0,none⟩=some (.slice np nn nc):=Blk.cell (Fr.blk HX3.o F2.o (by simp)) 0)
  |(go_at_call 154;refine (AA.o _ _ _ _ F2.o (HSV.o.base F11.o)).mono ?_;rintro r w6 ⟨rfl,hd,q6a,q6b⟩;have HD:=zab hd;clear hd))
 all_goals
  go_wp2_with fail
  go_ret
  exact ⟨rfl,HD.o⟩
theorem zuB:(Tryz.prog.info? 91).map (fun i=>(i.zero,i.size,i.bytes))=some (some .nilIface,1,16):=by kernel_rfl
def Exs (Z:Nat->Prop) (w:World) (n:Nat) (avs:List Value) (es:List Th.Ex):Prop:=avs.length=es.length/\∀ (i:Nat) (v:Value) (e:Th.Ex),avs[i]?=some v->es[i]?=some e->Rep Z w n v e
theorem Exs.snoc{avs:List Value}{es:List Th.Ex}{e:Th.Ex}(h:Exs Z w n avs es)(hr:Rep Z w n v e):Exs Z w n (avs++[v]) (es++[e]):=by
 refine ⟨by simp[h.1],fun i u x hu hx=>?_⟩;rw[zyd]at hu hx;by_cases hj:i<es.length
 ·rw[if_pos (by rw[h.1];exact hj)]at hu;rw[if_pos hj]at hx;exact h.2 i u x hu hx
 ·rw[if_neg (by rw[h.1];exact hj),h.1]at hu;rw[if_neg hj]at hx;have h1:i-es.length=0:=by
   have:=(zxH.1 hx).1;simp at this;omega
  rw[h1]at hu hx;simp only[zyh,zxL]at hu hx;rw[<-hu,<-hx];exact hr
def Spr (Z:Nat->Prop) (w:World) (n:Nat) (fe:Th.Ex) (es:List Th.Ex) (r:Ending) (w':World):Prop:=
 ∃ fv av avs,r=.returned (.tuple #[fv,av])/\Rep Z w n fv fe/\w'.ownsRow w.heap.size 91 1 av es.length avs/\Exs Z w n avs es/\Fr (fun _=>False) w w'
variable {x1 v2:Value}
variable {e1 e2:Th.Ex}
theorem zmC(h1:Rep Z w n (.iface 217 x1) e1)(h2:Rep Z w n v2 e2):
  Calls Tryz.prog 143 #[.agg #[.iface 217 x1,v2]] w (Spr Z w n e1 [e2]):=by
 have i0:=zdJ;obtain ⟨t2,x2,rfl⟩:=zah h2;have B0:=zab (Blk.alloc (Blk.new w [.iface 217 x1,.iface t2 x2] 163) (.cells #[.nilIface,.nilIface] 163));have F0:Hid (Fr (fun _=>False) w ((w.alloc (.cells #[.iface 217 x1,.iface t2 x2] 163)).alloc (.cells #[.nilIface,.nilIface] 163))):=zab (((Fr.refl _ _).alloc _).alloc _);have HH:=zab (And.intro h1 h2);clear h1 h2;go_enter Tryz.func143,Tryz.ntmps143
 go_wp2_with fail
 generalize (w.alloc (.cells #[.iface 217 x1,.iface t2 x2] 163)).alloc (.cells #[.nilIface,.nilIface] 163)=w1 at B0 F0 ⊢;have q0:=Blk.cell B0.o 0;have q1:=Blk.cell B0.o 1;simp at q0 q1;have q2:(w1.alloc (.cells #[.iface t2 x2] 91)).cell? ⟨w.heap.size,0,none⟩=some (.iface 217 x1):=Blk.cell (Blk.alloc B0.o _) 0;have q3:(w1.alloc (.cells #[.iface t2 x2] 91)).cell? ⟨w.heap.size,1,none⟩=some (.iface t2 x2):=Blk.cell (Blk.alloc B0.o _) 1;clear i0
 go_region
 all_goals
  go_wp2_with fail
  refine bodyPost_ret (results_tmp2 rfl _ _ _) rfl ?_;refine ⟨_,_,[.iface t2 x2],rfl,HH.o.1,?_,⟨rfl,fun i v e hv he=>?_⟩,(F0.o.alloc _).drew⟩
  ·exact ⟨rfl,.inr ⟨w1.heap.size,1,#[.iface t2 x2],rfl,F0.o.size,heap_alloc_new w1 _,zxJ _,by unfold maxLen;omega,rfl,rfl⟩⟩
  ·cases i with
   |zero=>simp at hv he;rw[<-hv,<-he];exact HH.o.2
   |succ i=>simp at hv
theorem zqS(h1:Rep Z w n (.iface 215 x1) e1)(h2:Rep Z w n v2 e2):
  Calls Tryz.prog 143 #[.agg #[.iface 215 x1,v2]] w (Spr Z w n e1 [e2]):=by
 have i0:=zja;obtain ⟨t2,x2,rfl⟩:=zah h2;have B0:=zab (Blk.alloc (Blk.new w [.iface 215 x1,.iface t2 x2] 163) (.cells #[.nilIface,.nilIface] 163));have F0:Hid (Fr (fun _=>False) w ((w.alloc (.cells #[.iface 215 x1,.iface t2 x2] 163)).alloc (.cells #[.nilIface,.nilIface] 163))):=zab (((Fr.refl _ _).alloc _).alloc _);have HH:=zab (And.intro h1 h2);clear h1 h2;go_enter Tryz.func143,Tryz.ntmps143
 go_wp2_with fail
 generalize (w.alloc (.cells #[.iface 215 x1,.iface t2 x2] 163)).alloc (.cells #[.nilIface,.nilIface] 163)=w1 at B0 F0 ⊢;have q0:=Blk.cell B0.o 0;have q1:=Blk.cell B0.o 1;simp at q0 q1;have q2:(w1.alloc (.cells #[.iface t2 x2] 91)).cell? ⟨w.heap.size,0,none⟩=some (.iface 215 x1):=Blk.cell (Blk.alloc B0.o _) 0;have q3:(w1.alloc (.cells #[.iface t2 x2] 91)).cell? ⟨w.heap.size,1,none⟩=some (.iface t2 x2):=Blk.cell (Blk.alloc B0.o _) 1;clear i0
 go_region
 all_goals
  go_wp2_with fail
  refine bodyPost_ret (results_tmp2 rfl _ _ _) rfl ?_;refine ⟨_,_,[.iface t2 x2],rfl,HH.o.1,?_,⟨rfl,fun i v e hv he=>?_⟩,(F0.o.alloc _).drew⟩
  ·exact ⟨rfl,.inr ⟨w1.heap.size,1,#[.iface t2 x2],rfl,F0.o.size,heap_alloc_new w1 _,zxJ _,by unfold maxLen;omega,rfl,rfl⟩⟩
  ·cases i with
   |zero=>simp at hv he;rw[<-hv,<-he];exact HH.o.2
   |succ i=>simp at hv
theorem znP(h1:Rep Z w n (.iface 219 x1) e1)(h2:Rep Z w n v2 e2):
  Calls Tryz.prog 143 #[.agg #[.iface 219 x1,v2]] w (Spr Z w n e1 [e2]):=by
 have i0:=zen;obtain ⟨t2,x2,rfl⟩:=zah h2;have B0:=zab (Blk.alloc (Blk.new w [.iface 219 x1,.iface t2 x2] 163) (.cells #[.nilIface,.nilIface] 163));have F0:Hid (Fr (fun _=>False) w ((w.alloc (.cells #[.iface 219 x1,.iface t2 x2] 163)).alloc (.cells #[.nilIface,.nilIface] 163))):=zab (((Fr.refl _ _).alloc _).alloc _);have HH:=zab (And.intro h1 h2);clear h1 h2;go_enter Tryz.func143,Tryz.ntmps143
 go_wp2_with fail
 generalize (w.alloc (.cells #[.iface 219 x1,.iface t2 x2] 163)).alloc (.cells #[.nilIface,.nilIface] 163)=w1 at B0 F0 ⊢;have q0:=Blk.cell B0.o 0;have q1:=Blk.cell B0.o 1;simp at q0 q1;have q2:(w1.alloc (.cells #[.iface t2 x2] 91)).cell? ⟨w.heap.size,0,none⟩=some (.iface 219 x1):=Blk.cell (Blk.alloc B0.o _) 0;have q3:(w1.alloc (.cells #[.iface t2 x2] 91)).cell? ⟨w.heap.size,1,none⟩=some (.iface t2 x2):=Blk.cell (Blk.alloc B0.o _) 1;clear i0
 go_region
 all_goals
  go_wp2_with fail
  refine bodyPost_ret (results_tmp2 rfl _ _ _) rfl ?_;refine ⟨_,_,[.iface t2 x2],rfl,HH.o.1,?_,⟨rfl,fun i v e hv he=>?_⟩,(F0.o.alloc _).drew⟩
  ·exact ⟨rfl,.inr ⟨w1.heap.size,1,#[.iface t2 x2],rfl,F0.o.size,heap_alloc_new w1 _,zxJ _,by unfold maxLen;omega,rfl,rfl⟩⟩
  ·cases i with
   |zero=>simp at hv he;rw[<-hv,<-he];exact HH.o.2
   |succ i=>simp at hv
theorem zmU(h1:Rep Z w n (.iface 226 x1) e1)(h2:Rep Z w n v2 e2):
  Calls Tryz.prog 143 #[.agg #[.iface 226 x1,v2]] w (Spr Z w n e1 [e2]):=by
 have i0:=zdD;obtain ⟨t2,x2,rfl⟩:=zah h2;have B0:=zab (Blk.alloc (Blk.new w [.iface 226 x1,.iface t2 x2] 163) (.cells #[.nilIface,.nilIface] 163));have F0:Hid (Fr (fun _=>False) w ((w.alloc (.cells #[.iface 226 x1,.iface t2 x2] 163)).alloc (.cells #[.nilIface,.nilIface] 163))):=zab (((Fr.refl _ _).alloc _).alloc _);have HH:=zab (And.intro h1 h2);clear h1 h2;go_enter Tryz.func143,Tryz.ntmps143
 go_wp2_with fail
 generalize (w.alloc (.cells #[.iface 226 x1,.iface t2 x2] 163)).alloc (.cells #[.nilIface,.nilIface] 163)=w1 at B0 F0 ⊢;have q0:=Blk.cell B0.o 0;have q1:=Blk.cell B0.o 1;simp at q0 q1;have q2:(w1.alloc (.cells #[.iface t2 x2] 91)).cell? ⟨w.heap.size,0,none⟩=some (.iface 226 x1):=Blk.cell (Blk.alloc B0.o _) 0;have q3:(w1.alloc (.cells #[.iface t2 x2] 91)).cell? ⟨w.heap.size,1,none⟩=some (.iface t2 x2):=Blk.cell (Blk.alloc B0.o _) 1;clear i0
 go_region
 all_goals
  go_wp2_with fail
  refine bodyPost_ret (results_tmp2 rfl _ _ _) rfl ?_;refine ⟨_,_,[.iface t2 x2],rfl,HH.o.1,?_,⟨rfl,fun i v e hv he=>?_⟩,(F0.o.alloc _).drew⟩
  ·exact ⟨rfl,.inr ⟨w1.heap.size,1,#[.iface t2 x2],rfl,F0.o.size,heap_alloc_new w1 _,zxJ _,by unfold maxLen;omega,rfl,rfl⟩⟩
  ·cases i with
   |zero=>simp at hv he;rw[<-hv,<-he];exact HH.o.2
   |succ i=>simp at hv
theorem zio(h1:Rep Z w n (.iface 166 x1) e1)(h2:Rep Z w n v2 e2):
  Calls Tryz.prog 143 #[.agg #[.iface 166 x1,v2]] w (Spr Z w n e1 [e2]):=by
 have i0:=zcA;obtain ⟨t2,x2,rfl⟩:=zah h2;have B0:=zab (Blk.alloc (Blk.new w [.iface 166 x1,.iface t2 x2] 163) (.cells #[.nilIface,.nilIface] 163));have F0:Hid (Fr (fun _=>False) w ((w.alloc (.cells #[.iface 166 x1,.iface t2 x2] 163)).alloc (.cells #[.nilIface,.nilIface] 163))):=zab (((Fr.refl _ _).alloc _).alloc _);have HH:=zab (And.intro h1 h2);clear h1 h2;go_enter Tryz.func143,Tryz.ntmps143
 go_wp2_with fail
 generalize (w.alloc (.cells #[.iface 166 x1,.iface t2 x2] 163)).alloc (.cells #[.nilIface,.nilIface] 163)=w1 at B0 F0 ⊢;have q0:=Blk.cell B0.o 0;have q1:=Blk.cell B0.o 1;simp at q0 q1;have q2:(w1.alloc (.cells #[.iface t2 x2] 91)).cell? ⟨w.heap.size,0,none⟩=some (.iface 166 x1):=Blk.cell (Blk.alloc B0.o _) 0;have q3:(w1.alloc (.cells #[.iface t2 x2] 91)).cell? ⟨w.heap.size,1,none⟩=some (.iface t2 x2):=Blk.cell (Blk.alloc B0.o _) 1;clear i0
 go_region
 all_goals
  go_wp2_with fail
  refine bodyPost_ret (results_tmp2 rfl _ _ _) rfl ?_;refine ⟨_,_,[.iface t2 x2],rfl,HH.o.1,?_,⟨rfl,fun i v e hv he=>?_⟩,(F0.o.alloc _).drew⟩
  ·exact ⟨rfl,.inr ⟨w1.heap.size,1,#[.iface t2 x2],rfl,F0.o.size,heap_alloc_new w1 _,zxJ _,by unfold maxLen;omega,rfl,rfl⟩⟩
  ·cases i with
   |zero=>simp at hv he;rw[<-hv,<-he];exact HH.o.2
   |succ i=>simp at hv
theorem zqU(h1:Rep Z w n (.iface 178 x1) e1)(h2:Rep Z w n v2 e2):
  Calls Tryz.prog 143 #[.agg #[.iface 178 x1,v2]] w (Spr Z w n e1 [e2]):=by
 have i0:=zgo;obtain ⟨t2,x2,rfl⟩:=zah h2;have B0:=zab (Blk.alloc (Blk.new w [.iface 178 x1,.iface t2 x2] 163) (.cells #[.nilIface,.nilIface] 163));have F0:Hid (Fr (fun _=>False) w ((w.alloc (.cells #[.iface 178 x1,.iface t2 x2] 163)).alloc (.cells #[.nilIface,.nilIface] 163))):=zab (((Fr.refl _ _).alloc _).alloc _);have HH:=zab (And.intro h1 h2);clear h1 h2;go_enter Tryz.func143,Tryz.ntmps143
 go_wp2_with fail
 generalize (w.alloc (.cells #[.iface 178 x1,.iface t2 x2] 163)).alloc (.cells #[.nilIface,.nilIface] 163)=w1 at B0 F0 ⊢;have q0:=Blk.cell B0.o 0;have q1:=Blk.cell B0.o 1;simp at q0 q1;have q2:(w1.alloc (.cells #[.iface t2 x2] 91)).cell? ⟨w.heap.size,0,none⟩=some (.iface 178 x1):=Blk.cell (Blk.alloc B0.o _) 0;have q3:(w1.alloc (.cells #[.iface t2 x2] 91)).cell? ⟨w.heap.size,1,none⟩=some (.iface t2 x2):=Blk.cell (Blk.alloc B0.o _) 1;clear i0
 go_region
 all_goals
  go_wp2_with fail
  refine bodyPost_ret (results_tmp2 rfl _ _ _) rfl ?_;refine ⟨_,_,[.iface t2 x2],rfl,HH.o.1,?_,⟨rfl,fun i v e hv he=>?_⟩,(F0.o.alloc _).drew⟩
  ·exact ⟨rfl,.inr ⟨w1.heap.size,1,#[.iface t2 x2],rfl,F0.o.size,heap_alloc_new w1 _,zxJ _,by unfold maxLen;omega,rfl,rfl⟩⟩
  ·cases i with
   |zero=>simp at hv he;rw[<-hv,<-he];exact HH.o.2
   |succ i=>simp at hv
theorem zpJ(h1:Rep Z w n (.iface 173 x1) e1)(h2:Rep Z w n v2 e2):
  Calls Tryz.prog 143 #[.agg #[.iface 173 x1,v2]] w (Spr Z w n e1 [e2]):=by
 have i0:=zeK;obtain ⟨t2,x2,rfl⟩:=zah h2;have B0:=zab (Blk.alloc (Blk.new w [.iface 173 x1,.iface t2 x2] 163) (.cells #[.nilIface,.nilIface] 163));have F0:Hid (Fr (fun _=>False) w ((w.alloc (.cells #[.iface 173 x1,.iface t2 x2] 163)).alloc (.cells #[.nilIface,.nilIface] 163))):=zab (((Fr.refl _ _).alloc _).alloc _);have HH:=zab (And.intro h1 h2);clear h1 h2;go_enter Tryz.func143,Tryz.ntmps143
 go_wp2_with fail
 generalize (w.alloc (.cells #[.iface 173 x1,.iface t2 x2] 163)).alloc (.cells #[.nilIface,.nilIface] 163)=w1 at B0 F0 ⊢;have q0:=Blk.cell B0.o 0;have q1:=Blk.cell B0.o 1;simp at q0 q1;have q2:(w1.alloc (.cells #[.iface t2 x2] 91)).cell? ⟨w.heap.size,0,none⟩=some (.iface 173 x1):=Blk.cell (Blk.alloc B0.o _) 0;have q3:(w1.alloc (.cells #[.iface t2 x2] 91)).cell? ⟨w.heap.size,1,none⟩=some (.iface t2 x2):=Blk.cell (Blk.alloc B0.o _) 1;clear i0
 go_region
 all_goals
  go_wp2_with fail
  refine bodyPost_ret (results_tmp2 rfl _ _ _) rfl ?_;refine ⟨_,_,[.iface t2 x2],rfl,HH.o.1,?_,⟨rfl,fun i v e hv he=>?_⟩,(F0.o.alloc _).drew⟩
  ·exact ⟨rfl,.inr ⟨w1.heap.size,1,#[.iface t2 x2],rfl,F0.o.size,heap_alloc_new w1 _,zxJ _,by unfold maxLen;omega,rfl,rfl⟩⟩
  ·cases i with
   |zero=>simp at hv he;rw[<-hv,<-he];exact HH.o.2
   |succ i=>simp at hv
theorem zpl{t1 t2:TypeId}{x2:Value}{fe:Th.Ex}{es:List Th.Ex}(h2:Rep Z w n v2 e2)(hes:es.length<=1000000)(hc:∀ W,Fr (fun _=>False) w W->Calls Tryz.prog 143 #[.agg #[.iface t1 x1,.iface t2 x2]] W (Spr Z W n fe es))(hfe:∀ W fv,Fr (fun _=>False) w W->Rep Z W n fv fe->Rep Z w n fv fe)(hees:∀ W avs,Fr (fun _=>False) w W->Exs Z W n avs es->Exs Z w n avs es):
  Calls Tryz.prog 143 #[.agg #[.iface 163 (.agg #[.iface t1 x1,.iface t2 x2]),v2]] w (Spr Z w n fe (es++[e2])):=by
 have i0:=zeF;obtain ⟨i1,hi0,hz0,hz1,hz2⟩:=info_parts zuB;have HI:=zab hi0;clear hi0;have HZ:=zab (And.intro hz0 (And.intro hz1 hz2));clear hz0 hz1 hz2;obtain ⟨t3,x3,rfl⟩:=zah h2;have B0:=zab (Blk.alloc (Blk.new w [.iface 163 (.agg #[.iface t1 x1,.iface t2 x2]),.iface t3 x3] 163) (.cells #[.iface t1 x1,.iface t2 x2] 163));have f0:Fr (fun _=>False) w ((w.alloc (.cells #[.iface 163 (.agg #[.iface t1 x1,.iface t2 x2]),.iface t3 x3] 163)).alloc (.cells #[.iface t1 x1,.iface t2 x2] 163)):=((Fr.refl _ _).alloc _).alloc _;have CC:=zab (hc _ f0);have F0:=zab f0;have HH:=zab (And.intro h2 (And.intro hfe hees));clear h2 hc f0 hfe hees;go_enter Tryz.func143,Tryz.ntmps143
 go_wp2_with fail
 refine CC.o.mono ?_;rintro r w2 ⟨fv,av,avs,rfl,hfv,hrow,hx,f2⟩;obtain ⟨ft,fx,rfl⟩:=zah hfv;obtain ⟨aa,an,ac,rfl⟩:=zaF hrow;have q1:w2.cell? ⟨w.heap.size,1,none⟩=some (.iface t3 x3):=Blk.cell (Fr.blk B0.o f2 (by simp)) 1;have F2:=zab (F0.o.trans f2);have hrow1:=zaY hrow F0.o.size;have HOWN:Hid ((w2.alloc (.cells #[.iface t3 x3] 91)).ownsRow w.heap.size 91 1 (.slice aa an ac) es.length avs):=zab (hrow1.alloc _);have HX:=zab (And.intro hfv hx);have hsz:=F2.o.size;have HL:Hid (avs.length=es.length):=zab hx.1;clear CC hfv hrow hx f2 hrow1 i0;go_wp2_with (at_builtin;refine wpList_append_lies _ rfl _ _ _ rfl w.heap.size 91 i1 _ 1 16 Tryz.underlying278 HI.o HZ.o.1 HZ.o.2.1 HZ.o.2.2 rfl (by omega) _ es.length avs rfl HOWN.o ⟨w2.heap.size,0,none⟩ 1 1 [.iface t3 x3] rfl rfl (World.news_of_block (cs:=#[.iface t3 x3]) (t:=91) (fr:=(0,0)) (heap_alloc_new w2 _)) (by simp[Value.oneCell']) (by omega) (by unfold maxLen;omega) (by omega) (by simp;omega) (w2.heap.size+1) (by simp) ?_;intro g cap w3 hown hgrow hat hlt3)
 refine bodyPost_ret (results_tmp2 rfl _ _ _) rfl ?_;refine ⟨_,_,avs++[.iface t3 x3],rfl,HH.o.2.1 _ _ F0.o HX.o.1,by simpa using hown,(HH.o.2.2 _ _ F0.o HX.o.2).snoc HH.o.1,?_⟩;have f3:Fr (fun _=>False) w (w2.alloc (.cells #[.iface t3 x3] 91)):=F2.o.alloc _;refine f3.zjx hgrow (fun k hk e=>?_);have:=(HOWN.o.lt k e).1;omega
end Go.Proofs.YtgahgkddaljmkaaGreatDoor
namespace Go.Proofs.YtgahgkddaljmkaaGreatDoor
open Go.RowKit Go.Shelf
variable {Z:Nat->Prop}
variable {w:World}
variable {n:Nat}
variable {v:Value}
theorem Row.back{W:World}{e:TypeId}{size:Nat}{xs:List Value}(zl:∀ k,Z k->k<w.heap.size)(f:Fr (fun _=>False) w W)(h:Row Z W e size v n xs):Row Z w e size v n xs:=by
 obtain ⟨⟨h1,h2⟩,h3⟩:=h;refine ⟨⟨h1,?_⟩,h3⟩;rcases h2 with h2|⟨g,cap,cur,hv,hg,hb,r⟩
 ·exact .inl h2
 ·refine .inr ⟨g,cap,cur,hv,hg,?_,r⟩;rw[<-f.block g (zl g (h3 g (by rw[hv];rfl))) (by simp)];exact hb
theorem Rep.back{Z:Nat->Prop}{w W:World}{n:Nat}{v:Value}{e:Th.Ex}(zl:∀ k,Z k->k<w.heap.size)(f:Fr (fun _=>False) w W)(h:Rep Z W n v e):Rep Z w n v e:=
 Rep.imp (fun _ _ _ _ _ hR=>Row.back zl f hR) n v e h
def Cp.spr:Nat->Th.Ex->Th.Ex->Th.Ex × List Th.Ex
 |0,f,a=>(f,[a])
 |m+1,f,a=>
  if f.kind=5 then (match f.kids with|[g,b]=>((Cp.spr m g b).1,(Cp.spr m g b).2++[a])|_=>(f,[a])) else (f,[a])
theorem Cp.ztX:∀ (m:Nat) (f a:Th.Ex),(Cp.spr m f a).2.length<=m+1
 |0,f,a=>by simp[Cp.spr]
 |m+1,f,a=>by
  rw[Cp.spr];split
  ·split
   ·next g b hk=>
    have:=Cp.ztX m g b;simp;omega
   ·simp
  ·simp
theorem zk8{Z:Nat->Prop}{n:Nat}(hn:n<=100000):∀ (m:Nat),m<=n->∀ {w:World} {v1 v2:Value} {e1 e2:Th.Ex},(∀ k,Z k->k<w.heap.size)->Rep Z w m v1 e1->Rep Z w n v2 e2 ->
  Calls Tryz.prog 143 #[.agg #[v1,v2]] w (Spr Z w n (Cp.spr m e1 e2).1 (Cp.spr m e1 e2).2)
 |0,_,_,_,_,_,_,_,h,_=>h.elim
 |m+1,hm,w,v1,v2,e1,e2,zl,h1,h2=>by
  have h1':=h1.le hm;have hsp:e1.kind≠5->Cp.spr (m+1) e1 e2=(e1,[e2]):=fun hk=>by rw[Cp.spr,if_neg hk]
  rcases h1 with ⟨hk,rfl⟩|⟨hk,rfl⟩|⟨hk,rfl⟩|⟨hk,sv,bv,b,k1,rfl,k3,k4⟩|⟨hk,u1,u2,d1,d2,k1,rfl,k3,k4⟩|⟨hk,u1,u2,d1,d2,k1,rfl,k3,k4⟩|⟨hk,sv,bv,b,parts,pvs,k1,rfl,k3,k4,k5,k6,k7⟩|⟨hk,cv,sv,b,bodies,nvs,bvs,k1,rfl,k3,k4,k5,k6,k7,k8,k9⟩
  ·rw[hsp (by omega)];exact zmC h1' h2
  ·rw[hsp (by omega)];exact zqS h1' h2
  ·rw[hsp (by omega)];exact znP h1' h2
  ·rw[hsp (by omega)];exact zmU h1' h2
  ·obtain ⟨t1,x1,rfl⟩:=zah k3;obtain ⟨t2,x2,rfl⟩:=zah k4;have hE:Cp.spr (m+1) e1 e2=((Cp.spr m d1 d2).1,(Cp.spr m d1 d2).2++[e2]):=by rw[Cp.spr,if_pos hk,k1]
   rw[hE];have hlen:=Cp.ztX m d1 d2;refine zpl h2 (by omega) (fun W hW=>?_) (fun W fv hW hr=>hr.back zl hW) (fun W avs hW hx=>⟨hx.1,fun i v e a b=>(hx.2 i v e a b).back zl hW⟩);exact zk8 hn m (by omega) (fun k hk=>zxO (zl k hk) hW.size) (k3.fr0 hW) ((k4.fr0 hW).le (by omega))
  ·rw[hsp (by omega)];exact zio h1' h2
  ·rw[hsp (by omega)];exact zqU h1' h2
  ·rw[hsp (by omega)];exact zpJ h1' h2
theorem Cp.zox{Z:Nat->Prop}{w:World}:∀ (m:Nat) (e f a:Th.Ex) (v:Value),e.kids=[f,a]->Rep Z w m v f->Cp.spread (m+1) e=Cp.spr m f a
 |0,_,_,_,_,_,h=>h.elim
 |m+1,e,f,a,v,hk,h=>by
  rw[Cp.spread,hk,Cp.spr];by_cases h5:f.kind=5
  ·rcases h with ⟨hk,_⟩|⟨hk,_⟩|⟨hk,_⟩|⟨hk,_⟩|⟨hk,u1,u2,d1,d2,k1,rfl,k3,k4⟩|⟨hk,_⟩|⟨hk,_⟩|⟨hk,_⟩
   all_goals first|omega|skip
   have ih:=Cp.zox m f d1 d2 u1 k1 k3;simp only[h5,if_true,k1];rw[ih]
  ·simp only[if_neg h5]
end Go.Proofs.YtgahgkddaljmkaaGreatDoor
