/- Par8 .. Iter1 -/
import Derived.Test.YtgahgkddaljmkaaGreatDoorV4
import Derived.Deep.AppendLies
import Derived.Deep.DeepCutAuto
import Derived.RangeFuncNested
import Derived.RangeFuncBound
import Derived.OwnWalkIn
import Derived.TacticsInMore
import Derived.LoopNIn
import Derived.LoopIn
set_option maxRecDepth 100000
set_option maxHeartbeats 4000000
namespace Go.Proofs.YtgahgkddaljmkaaGreatDoor
open Tryz Th Cp
section
open Go.RowKit
variable {w:World}{r tb:Nat}{T:List Tok}{nv v:Value}{l:List Tok}
theorem zvQ{w7:World}{b1:Nat}{x:Ex}{s:St}{vs:List Value}{t:TypeId}(nm:ByteArray)(at_:Int)(hb:oH w7 w.heap.size [.string ⟨#[]⟩,.int .i64 0,.slice none 0 0,.nilIface] t)(hr:Row (λb=>IB w b/\b≠b1/\b≠w.heap.size) w7 88 2 nv l.length vs)(hg:Nl (λb=>IB w b/\b≠b1/\b≠w.heap.size) w7 v x s)(hs:RS w7 r tb T s)(hG:w.grownBy w7 (some r))(bd:r<w.heap.size)(cu:tb<w.heap.size):
  oH ((((w7.setCell ⟨w.heap.size,0,none⟩ (.string nm)).setCell ⟨w.heap.size,1,none⟩ (.int .i64 at_)).setCell ⟨w.heap.size,2,none⟩ nv).setCell ⟨w.heap.size,3,none⟩ v) w.heap.size [.string nm,.int .i64 at_,nv,v] t /\
  Row (IB w) ((((w7.setCell ⟨w.heap.size,0,none⟩ (.string nm)).setCell ⟨w.heap.size,1,none⟩ (.int .i64 at_)).setCell ⟨w.heap.size,2,none⟩ nv).setCell ⟨w.heap.size,3,none⟩ v) 88 2 nv l.length vs /\
  Nl (IB w) ((((w7.setCell ⟨w.heap.size,0,none⟩ (.string nm)).setCell ⟨w.heap.size,1,none⟩ (.int .i64 at_)).setCell ⟨w.heap.size,2,none⟩ nv).setCell ⟨w.heap.size,3,none⟩ v) v x s /\
  RS ((((w7.setCell ⟨w.heap.size,0,none⟩ (.string nm)).setCell ⟨w.heap.size,1,none⟩ (.int .i64 at_)).setCell ⟨w.heap.size,2,none⟩ nv).setCell ⟨w.heap.size,3,none⟩ v) r tb T s /\
  w.grownBy ((((w7.setCell ⟨w.heap.size,0,none⟩ (.string nm)).setCell ⟨w.heap.size,1,none⟩ (.int .i64 at_)).setCell ⟨w.heap.size,2,none⟩ nv).setCell ⟨w.heap.size,3,none⟩ v) (some r):=by
 refine⟨?_,?_,?_,?_,?_⟩
 .exact(((hb.set 0 (.string nm)).set 1 (.int .i64 at_)).set 2 nv).set 3 v
 .exact((((hr.gb (MF _ _ _ _) (by simp)).gb (MF _ _ _ _) (by simp)).gb (MF _ _ _ _) (by simp)).gb (MF _ _ _ _) (by simp)).mono (λk _ hk=>hk.1)
 .exact((((hg.gb (MF _ _ _ _) (by simp)).gb (MF _ _ _ _) (by simp)).gb (MF _ _ _ _) (by simp)).gb (MF _ _ _ _) (by simp)).mono (λk _ hk=>hk.1)
 .exact(((hs.set _ _ _ (by omega) (by omega)).set _ _ _ (by omega) (by omega)).set _ _ _ (by omega) (by omega)).set _ _ _ (by omega) (by omega)
 .exact Nv (Nv (Nv (Nv hG _ _ (qP _)) _ _ (qP _)) _ _ (qP _)) _ _ (qP _)
variable {ex:Rd}{st:St}
theorem zpu(hx:QW ex){q:By × St}(hq:Qs ex st=some q)(h:RS w r tb T st):
  Calls prog 68 #[.pointer (some ⟨r,0,none⟩)] w λen w'=>
   ∃nv v,en=.returned (.agg #[.string ⟨q.1.name.s.toArray⟩,.int .i64 q.1.name.at_,nv,v])/\Row (IB w) w' 88 2 nv q.1.params.length (Ms q.1.params)/\Nl (IB w) w' v q.1.e q.2/\RS w' r tb T q.2/\w.grownBy w' (some r):=by
 have bd:=h.lt;have cu:=h.P0;unfold Qs at hq;simp only[JM,IA]at hq;obtain⟨q1,cF,rfl⟩:=hq;generalize mg:Th.IG st=tg at cF|-;generalize da:Th.JR tg.2=ln at cF|-;have HQ:=eu cF;have vV:=eu mg;have kB:=eu da;have h0:=h.alloc (.cells #[.string ⟨#[]⟩,.int .i64 0,.slice none 0 0,.nilIface] 93);have BR:=eu (gH w [.string ⟨#[]⟩,.int .i64 0,.slice none 0 0,.nilIface] 93);have eQ:=eu (IS w (.cells #[.string ⟨#[]⟩,.int .i64 0,.slice none 0 0,.nilIface] 93) (some r));clear cF h mg da;go_enter func68,ntmps68;go_wp2_with fail;refine(Xk h0).mono ?_;rintro e w1⟨rfl,aW,bw⟩;rw[vV.o]at aW|-;have gY:=eu (qN eQ.o bw);have om:=eu (BR.o.grown bw (by simp;omega));clear h0 bw;go_wp2_with fail;refine(zn3 aW).mono ?_;rintro e w4⟨nv,rfl,af,bV,bM⟩;rw[kB.o]at af bV;have aP:=om.o.lt;have GQ:=bM.size;have hR:Row (λb=>IB w b/\b≠w4.heap.size/\b≠w.heap.size) w4 88 2 nv ln.1.length (Ms ln.1):=(lP af).mono (λk cK hk=>by simp only[IB];omega);have gZ:=eu (qN (qN gY.o bM) (IS w4 (.cells #[.string ⟨tg.1.s.toArray⟩,.int .i64 tg.1.at_,nv,.nilIface] 93) (some r)));have tV:=eu ((om.o.grown bM (by simp;omega)).alloc (.cells #[.string ⟨tg.1.s.toArray⟩,.int .i64 tg.1.at_,nv,.nilIface] 93));have B4:=eu (gH w4 [.string ⟨tg.1.s.toArray⟩,.int .i64 tg.1.at_,nv,.nilIface] 93);have gh:=eu (bV.alloc (.cells #[.string ⟨tg.1.s.toArray⟩,.int .i64 tg.1.at_,nv,.nilIface] 93));have vR:=eu (hR.gb (IS w4 (.cells #[.string ⟨tg.1.s.toArray⟩,.int .i64 tg.1.at_,nv,.nilIface] 93) none) (by simp));have gV:=Mq hR;clear aW bV bM af hR;rcases gV with rfl|⟨gn,wu,rfl⟩
 all_goals
  go_wp2_with fail;refine(Qi gh.o ⟨#[61]⟩).mono ?_;rintro e w6⟨rfl,jL,fk⟩;have kb:=eu (qN gZ.o fk);have vj:=eu (tV.o.grown fk (by simp;omega));have B6:=eu (B4.o.grown fk (by simp;omega));have vS:=eu (vR.o.gb fk (λk hk=>by cases hk;simp only[IB];omega));clear fk;go_wp2_with fail;refine(hx _ _ _ _ _ _ _ HQ.o jL).mono ?_;rintro e w7⟨v,rfl,aq,s7,kW⟩;have ko:=vj.o.grown kW (by simp;omega);have B7:=B6.o.grown kW (by simp;omega);have c3:=B7.cell 3;have f3:=B7.frozen 3;simp at c3;have qv:=eu (Nv (qN kb.o kW) ⟨w4.heap.size,3,none⟩ v (by simp;omega));have vT:=eu ((vS.o.gb kW (λk hk=>by cases hk;simp only[IB];omega)).gb (MF w7 w4.heap.size 3 v) (by simp));have EO:=B7.lt;have cj:=eu ((aq.mono (S':=λb=>IB w b/\b≠w4.heap.size/\b≠w.heap.size) (λk _ hk=>by have h1:=kb.o.size;have h2:=B6.o.lt;simp only[IB]at hk|-;omega)).gb (MF w7 w4.heap.size 3 v) (by simp))
  have ho:=aq.one;have v8:=eu (s7.set w4.heap.size 3 v (by omega) (by omega));have yN:=eu (B7.set 3 v);have ov:=eu (ko.other ⟨w4.heap.size,3,none⟩ v (by simp;omega));clear jL kW aq s7 B7 ko;rcases ho.shape with rfl|⟨t1,x1,rfl⟩
  all_goals
   clear ho;go_wp2_with fail;refine(Qi v8.o ⟨#[59]⟩).mono ?_;rintro e w8⟨rfl,p8,pX⟩;have lO:=ov.o.grown pX (by simp;omega);have B8:=yN.o.grown pX (by simp;omega);have d0:=lO.cell 0;have d1:=lO.cell 1;have d2:=lO.cell 2;have d3:=lO.cell 3;have g0:=lO.frozen 0;have g1:=lO.frozen 1;have g2:=lO.frozen 2;have g3:=lO.frozen 3;have e0:=B8.cell 0;have e1:=B8.cell 1;have e2:=B8.cell 2;have e3:=B8.cell 3;simp at d0 d1 d2 d3 e0 e1 e2 e3;have cE:=eu (zvQ ⟨tg.1.s.toArray⟩ tg.1.at_ lO (vT.o.gb pX (λk hk=>by cases hk;simp only[IB];omega)) ((cj.o.gb pX (λk hk=>by cases hk;simp only[IB];omega)).st (MI [59] q1.2)) p8 (qN qv.o pX) bd cu);clear p8 pX lO B8 c3 f3;go_wp2_with fail;have p0:=cE.o.1.cell 0;have p1:=cE.o.1.cell 1;have p2:=cE.o.1.cell 2;have p3:=cE.o.1.cell 3;simp at p0 p1 p2 p3;refine mF (by simp[results,Tryz.results68,go_sem,p0,p1,p2,p3]) rfl ⟨_,_,rfl,cE.o.2⟩
end
section
open Go.RowKit
attribute [local go_sem ↓] Go.wp_at_zero Go.wp_at_succ
theorem zvE:(prog.info? 312).map (λi=>(i.zero,i.size,i.bytes))=some (some (.agg #[.string ⟨#[]⟩,.int .i64 0,.nilIface]),3,40):=by kernel_rfl
theorem RS.drew{w:World}{r tb:Nat}{T:List Tok}{st:St}(h:RS w r tb T st):RS w.drew r tb T st:=h.gb (Po w none) (by simp) (by simp)
variable {p:Int}{v:Value}
theorem V9{s:ByteArray}(h:v.oneCell'=true):∀u∈[Value.string s,.int .i64 p,v],u.oneCell'=true:=by
 intro u hu;simp only[Mz,PV,qT]at hu;rcases hu with rfl|rfl|rfl
 .rfl
 .rfl
 .exact h
abbrev Rn (w:World) (b o:Nat) (v:Value):Prop:=w.cell? ⟨b,o,none⟩=some v/\w.frozen? ⟨b,o,none⟩=false
variable {w:World}{b:Nat}
theorem W4{vs:List Value}{t:TypeId}(h:oH w b vs t)(o:Nat)(e:vs[o]?=some v):Rn w b o v:=⟨(h.cell o).trans e,h.frozen o⟩
variable {w':World}{o:Nat}
theorem Rn.gb(h:Rn w b o v){row:Option Nat}(hg:w.grownBy w' row)(hr:some b≠row):Rn w' b o v:=
 ⟨Qt hg h.1 hr,by rw[World.frozen?_of_block (w:=w) (hg.block b (Tp h.1) hr)];exact h.2⟩
theorem Rn.drew{w:World}{b o:Nat}{v:Value}(h:Rn w b o v):Rn w.drew b o v:=h
theorem Rn.alloc{w:World}{b o:Nat}{v:Value}(h:Rn w b o v)(ob:Obj):Rn (w.alloc ob) b o v:=h.gb (IS w ob none) (by simp)
structure RY (w wr:World) (r tb eb:Nat) (T:List Tok) (rc:Bool) (l:List Tok) (es:List Ex) (s1:St) (sv:Value):Prop where
 blk:oH wr eb [.bool rc,sv,.nilIface] 178
 lo:w.heap.size<=eb
 rs:RS wr r tb T s1
 gb:w.grownBy wr (some r)
 len:l.length=es.length
 parts:∃pvs,pvs.length=l.length/\wr.ownsRow (eb+1) 312 3 sv l.length (Ob l pvs) /\
  (s1.bad=none->∃n,∀(i:Nat)(pv:Value)(p:Ex),pvs[i]?=some pv->es[i]?=some p->qU (λb=>eb<b/\some b≠sv.ownBlock) wr n pv p)
theorem Qj{α:Type}{l:List α}{a:α}{i:Nat}{x:α}(h:(l++[a])[i]?=some x):l[i]?=some x\/(i=l.length/\x=a):=by
 rcases Rs i l.length with hi|hi
 .rw[Pq hi]at h;exact .inl h
 .rw[Om hi]at h;have:i-l.length=0:=by
   rcases JI (i-l.length)with h0|h0
   .exact h0
   .rw[R5 (by simp;omega)]at h;simp at h
  rw[this]at h;simp at h;exact .inr ⟨by omega,h.symm⟩
variable {wr w2 w3:World}{r tb eb:Nat}{T:List Tok}{rc:Bool}{l:List Tok}{es:List Ex}{s1 s2:St}{sv:Value}{e:Ex}{g cap:Nat}
theorem RY.add{x:Tok}{pvs:List Value}{o:Obj}(hB:RY w wr r tb eb T rc l es s1 sv)(hl:pvs.length=l.length)(fS:wr.ownsRow (eb+1) 312 3 sv l.length (Ob l pvs))(mf:s1.bad=none->∃n,∀(i:Nat)(pv:Value)(p:Ex),pvs[i]?=some pv->es[i]?=some p->qU (λb=>eb<b/\some b≠sv.ownBlock) wr n pv p)(bd:r<w.heap.size)(cu:tb<w.heap.size)(aq:Nl (IB wr.drew) w2 v e s2)(aI:RS w2 r tb T s2)(aF:wr.drew.grownBy w2 (some r))(ai:w3.ownsRow (eb+1) 312 3 (.slice (some ⟨g,0,none⟩) (l.length+1) cap) (l.length+1) (Ob l pvs++[.string ⟨x.s.toArray⟩,.int .i64 x.at_,v]))(ah:(w2.alloc o).grownBy w3 sv.ownBlock)(aV:sv.ownBlock=some g\/g=w2.heap.size+1)(aQ:s2.bad=none->s1.bad=none):
  RY w (w3.setCell ⟨eb,1,none⟩ (.slice (some ⟨g,0,none⟩) (l.length+1) cap)) r tb eb T rc (l++[x]) (es++[e]) s2 (.slice (some ⟨g,0,none⟩) (l.length+1) cap):=by
 have fN:=hB.lo;have xw:=hB.blk.lt;have bF:wr.heap.size<=w2.heap.size:=aF.size;have cD:∀b,sv.ownBlock=some b->eb<b/\b<wr.heap.size:=λb hb=>⟨(fS.lt b hb).1,(fS.lt b hb).2⟩
 have aH:some eb≠sv.ownBlock:=λe=>by have:=(cD eb e.symm).1;omega
 have nO:eb<g:=by
  rcases aV with h|h
  .exact(cD g h).1
  .omega
 have lz:some r≠sv.ownBlock:=λe=>by have:=(cD r e.symm).1;omega
 have tw:some tb≠sv.ownBlock:=λe=>by have:=(cD tb e.symm).1;omega
 have kQ:oH w3 eb [.bool rc,sv,.nilIface] 178:=((hB.blk.drew.grown aF (by simp;omega)).alloc o).grown ah aH;refine⟨?_,fN,?_,?_,by simp[hB.len],pvs++[v],by simp[hl],?_,?_⟩
 .exact kQ.set 1 _
 .exact((aI.alloc o).gb ah lz tw).set eb 1 _ (by omega) (by omega)
 .refine Nv ?_ _ _ fN;have h1:w.grownBy (w2.alloc o) (some r):=qN (qN (qN hB.gb (Po wr _)) aF) (IS w2 o _);exact⟨ah.os.trans h1.os,ah.tape.trans h1.tape,ah.output.trans h1.output,yM h1.size ah.size,
   λk hk hr=>(ah.block k (Kl hk h1.size) (λe=>by have:=(cD k e.symm).1;omega)).trans (h1.block k hk hr)⟩
 .rw[zf1 l pvs x v hl.symm,IJ];exact ownsRow_setCell_below (a:=⟨eb,1,none⟩) ai (by simp) _
 .intro hb;obtain⟨n1,cR⟩:=mf (aQ hb);obtain⟨n2,eY⟩:=aq.rep hb;refine⟨n1+n2,λi pv p eD hp=>?_⟩;have key:∀b,eb<b->some b≠sv.ownBlock->b<w2.heap.size->some b≠some g:=by
   intro b aA aw bD e;cases e;rcases aV with h|h
   .exact aw h.symm
   .omega
  rcases Qj eD with h1|⟨h1,rfl⟩
  .rcases Qj hp with h2|⟨h2,rfl⟩
   .have hr:=(cR i pv p h1 h2).le (TG n1 n2);have a1:=hr.gb (Po wr none) (by simp);have a2:=a1.gb aF (λk hk=>by cases hk;omega);have a3:qU (λb=>eb<b/\some b≠sv.ownBlock/\b<w2.heap.size) w2 (n1+n2) pv p:=a2.mono (λk hk h=>⟨h.1,h.2,hk⟩);have a4:=a3.gb (IS w2 o none) (by simp);have a5:=a4.gb ah (λk hk h=>h.2.1 hk.symm);have a6:=a5.gb (MF w3 eb 1 (.slice (some ⟨g,0,none⟩) (l.length+1) cap)) (λk hk h=>by cases hk;omega);exact a6.mono (λk _ h=>⟨h.1,key k h.1 h.2.1 h.2.2⟩)
   .rw[R5 (by rw[hl,hB.len];omega)]at h1;simp at h1
  .rcases Qj hp with h2|⟨h2,rfl⟩
   .rw[R5 (by rw[<-hB.len,<-hl];omega)]at h2;simp at h2
   .have a2:=eY.le (T6 n2 n1);have a3:qU (λb=>wr.heap.size<=b/\b<w2.heap.size) w2 (n1+n2) pv p:=a2.mono (λk hk h=>⟨h,hk⟩);have a4:=a3.gb (IS w2 o none) (by simp);have a5:=a4.gb ah (λk hk h=>by have:=(cD k hk).2;omega);have a6:=a5.gb (MF w3 eb 1 (.slice (some ⟨g,0,none⟩) (l.length+1) cap)) (λk hk h=>by cases hk;omega);exact a6.mono (λk _ h=>⟨by omega,key k (by omega) (λe=>by have:=(cD k e.symm).2;omega) h.2⟩)
def MJ (ex:Rd):Prop:=∀c st q,ex c st=some q->q.2.bad=none->st.bad=none
theorem Ss(st:St):(Th.IG st).2.bad=none->st.bad=none:=by
 intro h;unfold Th.IG at h;split at h
 .simpa[St.qM]using h
 .simp only at h;unfold St.fail at h;split at h
  .simp at h
  .exact h
theorem RY.step(hB:RY w wr r tb eb T rc l es s1 sv)(bd:r<w.heap.size)(hg:wr.grownBy w' (some r))(hs:RS w' r tb T s2)(hb:s2.bad=none->s1.bad=none):RY w w' r tb eb T rc l es s2 sv:=by have fN:=hB.lo;obtain⟨pvs,h1,h2,h3⟩:=hB.parts;refine⟨hB.blk.grown hg (by simp;omega),fN,hs,qN hB.gb hg,hB.len,pvs,h1,h2.kept hg (Qa h2),λaQ=>?_⟩;obtain⟨n,hn⟩:=h3 (hb aQ);exact⟨n,λi pv p a b=>(hn i pv p a b).gb hg (λk hk=>by cases hk;omega)⟩
variable {st:St}
theorem zvv :st.fail.bad≠none:=by
 unfold St.fail;split
 .simp
 .simp_all
theorem zxH(hB:RY w wr r tb eb T rc l es s1 sv)(bd:r<w.heap.size)(hg:wr.grownBy w' (some r))(aq:Nl (IB wr) w' v e s2)(hb:s2.bad=none->s1.bad=none):
  Nl (IB w) (w'.setCell ⟨eb,2,none⟩ v) (.iface 178 (.agg #[.bool rc,sv,v])) (mkLet rc l es e) s2:=by
 have fN:=hB.lo;have xw:=hB.blk.lt;obtain⟨pvs,h1,h2,h3⟩:=hB.parts;refine⟨Ti _ _,λaQ=>?_⟩;obtain⟨n1,cR⟩:=h3 (hb aQ);obtain⟨n2,eY⟩:=aq.rep aQ;have hz:=hB.gb.size;have cS:=MF w' eb 2 v;refine⟨n1+n2+1,.inr (.inr (.inr (.inr (.inr (.inr (.inl ?_))))))⟩;refine⟨by cases rc<;>simp[mkLet],sv,v,e,es,pvs,rfl,by cases rc<;>rfl,hB.len.symm,h1,?_,?_,?_⟩
 .have hk:=(h2.kept hg (Qa h2)).kept cS (Qa h2);exact⟨Ou hk (Kc _),λb hb=>by have:=(hk.lt b hb).1;simp only[IB];omega⟩
 .intro i pv p a b;exact(((cR i pv p a b).le (by omega)).gb hg (λk hk=>by cases hk;omega)).gb cS (λk hk=>by cases hk;omega)|>.mono (λk _ h=>by simp only[IB];omega)
 .exact((eY.le (by omega)).gb cS (λk hk=>by cases hk;simp only[IB];omega)).mono (λk _ h=>by simp only[IB]at *;omega)
variable {ex:Rd}{c:Bool}{k:Nat}{q:Ex × St}
theorem zyn(hx:QW ex)(hk:MJ ex)(uL:k<=1000000)(hq:Qv ex k c st=some q)(h:RS w r tb T st):
  Calls prog 193 #[.pointer (some ⟨r,0,none⟩),.bool c] w λen w'=>Reads w r tb T q.1 q.2 en w':=by
 have bd:=h.lt;have cu:=h.P0;obtain⟨i0,dt,bq,aP,bF⟩:=nC zvE;have HI:=eu dt;clear dt;have HZ:=eu (kK bq (kK aP bF));clear bq aP bF;unfold Qv at hq;simp only[JM,IA]at hq;obtain⟨q1,cF,q2,bC,rfl⟩:=hq;generalize AK:st.is Na=rc at cF|-;have CG:=eu AK;obtain⟨s0,bK⟩:∃s,(if rc=true then st.qM else st)=s:=⟨_,rfl⟩;rw[bK]at cF;have qH:=eu bK;have oC:=eu cF;have oD:=eu bC;clear AK cF bC bK;cases k with
 |zero=>have:=oC.o;simp[NH]at this
 |succ k=>
  have hp:=oC.o;rw[NH]at hp;simp only[JM]at hp;obtain⟨q3,mS,sS⟩:=hp;have qE:=eu mS;have vO:=eu sS;clear mS sS;go_enter func193,ntmps193;go_wp2_with fail;refine(RF h ⟨#[114,101,99]⟩).mono ?_;rintro e w1⟨rfl,aW,bw⟩;rw[show st.is (ByteArray.mk #[114,101,99]).data.toList=rc from CG.o]at aW|-;rw[qH.o]at aW;have hz:=bw.size;have dS:Hid (RY w (w1.alloc (.cells #[.bool rc,.slice none 0 0,.nilIface] 178)) r tb w1.heap.size T rc [] [] s0 (.slice none 0 0)):=
   eu ⟨gH w1 [.bool rc,.slice none 0 0,.nilIface] 178,hz,aW.alloc _,qN bw (IS w1 _ _),rfl,[],rfl,kt _ _ _ _,λ_=>⟨0,λi pv p hh _=>by simp at hh⟩⟩
  have nK:=eu (W4 dS.o.blk 1 (v:=.slice none 0 0) rfl);have dn:=eu (λ(W:World)(hW:RS W r tb T s0)=>zsI hx qE.o hW);clear h aW bw;go_wp2_with fail
  go_cut [10] (λ_ wc=>∃sv,RY w wc r tb w1.heap.size T rc [(Th.IG s0).1] [q3.1] q3.2 sv)
  case first=>
   go_region_law (first
    |(refine step_append_lies _ (by rfl) _ _ _ (by rfl) (w1.heap.size+1) 312 i0 _ 3 40 underlying176 HI.o HZ.o.1 HZ.o.2.1 HZ.o.2.2 rfl (by omega) (.slice none 0 0) 0 [] (by rfl) (kt _ _ _ _) ⟨w2.heap.size,0,none⟩ 1 1 [.string ⟨(Th.IG s0).1.s.toArray⟩,.int .i64 (Th.IG s0).1.at_,v] (by rfl) (by rfl) (World.news_of_block (cs:=#[.string ⟨(Th.IG s0).1.s.toArray⟩,.int .i64 (Th.IG s0).1.at_,v]) (t:=312) (fr:=(0,0)) (heap_alloc_new w2 _)) (V9 bR) (by omega) (by unfold maxLen;omega) (by omega) (by simp;omega) (w2.heap.size+1) (by simp) ?_;intro g cap w3 ai ah aV aj;have h3:=eu ((H2.o.alloc _).gb ah (by simp[Value.ownBlock]));have uB:=h3.o.1;have zD:=h3.o.2)
    |(go_simp;go_wp2_with (go_at_call 249;refine(dn.o _ ?_).mono ?_;exact dS.o.rs.drew;rintro e w2⟨v,rfl,aq,aI,aF⟩;have bR:=aq.one.one;have j6:w1.heap.size<w2.heap.size:=(by have:=aF.size;simp at this;omega);have cj:=eu aq;have eS:=eu aI;have eK:=eu aF;have H2:=eu (nK.o.drew.gb aF (by simp;omega));have wL:=H2.o.1;have rq:=H2.o.2;clear aq aI)))
   all_goals
    go_wp2_with fail;go_meet
    case rel=>exact⟨_,dS.o.add (pvs:=[]) rfl (kt _ _ _ _) (λ_=>⟨0,λi pv p hh _=>by simp at hh⟩) bd cu cj.o eS.o eK.o ai ah aV (λhb=>Ss _ (MI [61] _ (hk _ _ _ qE.o hb)))⟩
  case rest=>
   obtain⟨Ba,cU⟩:=hcut;have cB:=eu cU;clear cU;go_wp2_with fail
   go_loopg [17] k (λg _ wr=>∃l es s1 sv,RY w wr r tb w1.heap.size T rc l es s1 sv/\l≠[]/\l.length+g<=k+1/\(if s1.is [59]=true then NH ex g l es s1.qM else some (l,es,s1))=some q1)
   case atStart=>exact⟨_,_,_,_,cB.o,by simp,by simp;omega,vO.o⟩
   case round=>
    obtain⟨l,es,s1,sv,hB,aH,mO,hp⟩:=hrel;have HB:=eu hB;have hs:=hB.rs;clear hB;cases h5:s1.is [59]
    .rw[h5]at hp;simp only[Ps,nt,IA]at hp;subst hp;have H5:=eu h5;clear h5;go_wp2_with fail;refine(RF hs ⟨#[59]⟩).mono ?_;rintro e w4⟨rfl,bV,bM⟩;rw[show s1.is (ByteArray.mk #[59]).data.toList=false from H5.o]at bV|-;have j5:RS w4 r tb T s1:=by simpa using bV
     have gB:=eu (HB.o.step bd bM j5 (λhb=>hb));clear hs bV bM;go_wp2_with fail;refine(Qi j5 ⟨#[105,110]⟩).mono ?_;rintro e w5⟨rfl,fC,cH⟩;have kx:=eu (gB.o.step bd cH fC (MI _ _));clear j5 cH;go_wp2_with fail;refine(hx _ _ _ _ _ _ _ oD.o fC).mono ?_;rintro en w6⟨v,rfl,aq,jL,fk⟩;have lX:=kx.o.blk.grown fk (by simp;omega);have d0:=lX.cell 0;have d1:=lX.cell 1;have d2:=lX.cell 2;have f2:=lX.frozen 2;simp at d0 d1 d2;have cE:=eu (zxH kx.o bd fk aq (λhb=>hk _ _ _ oD.o hb));have kb:=eu (Nv (qN kx.o.gb fk) ⟨w1.heap.size,2,none⟩ v hz);have qL:=eu (jL.set w1.heap.size 2 v (by omega) (by omega));have ho:=aq.one;obtain⟨pvs,-,af,-⟩:=kx.o.parts;have gV:=Mq (lP af);clear fC aq jL fk lX af;rcases gV with rfl|⟨gs,iA,rfl⟩<;>rcases ho.shape with rfl|⟨t1,x1,rfl⟩
     all_goals
      clear ho;go_wp2;go_ret;exact⟨_,rfl,cE.o,qL.o,kb.o⟩
    .rw[h5]at hp;simp only[kP]at hp;cases gk with
     |zero=>simp[NH]at hp
     |succ g0=>
      rw[NH]at hp;simp only[JM]at hp;obtain⟨q5,sT,sU⟩:=hp;have qF:=eu sT;have vP:=eu sU;have H5:=eu h5;have eP:=eu (λ(W:World)(hW:RS W r tb T s1.qM)=>zsI hx qF.o hW);clear h5 sT sU;go_wp2_with fail;refine(RF hs ⟨#[59]⟩).mono ?_;rintro e w4⟨rfl,bV,bM⟩;rw[show s1.is (ByteArray.mk #[59]).data.toList=true from H5.o]at bV|-;have j5:RS w4 r tb T s1.qM:=by simpa using bV
      have gB:=eu (HB.o.step bd bM j5 (λ_=>Tu H5.o));obtain⟨pvs,gK,af,aR⟩:=gB.o.parts;have gV:=Mq (lP af);rcases gV with rfl|⟨gs,iA,rfl⟩
      .exfalso;rcases af.2 with⟨-,h0⟩|⟨_,_,_,h0,_⟩
       .exact aH (Pl.1 h0)
       .cases h0
      .have uK:=(af.lt gs rfl);have HR:=eu (kK gK (kK af aR));have oO:=eu (W4 gB.o.blk 1 (v:=.slice (some ⟨gs,0,none⟩) l.length iA) rfl);have DL:=oO.o.1;have DM:=oO.o.2;have xF:=gB.o.blk.lt;clear hs bV bM j5 gK af aR;go_wp2_with fail
       go_region_law (first
        |(refine step_append_lies _ (by rfl) _ _ _ (by rfl) (w1.heap.size+1) 312 i0 _ 3 40 underlying176 HI.o HZ.o.1 HZ.o.2.1 HZ.o.2.2 rfl (by omega) (.slice (some ⟨gs,0,none⟩) l.length iA) l.length (Ob l pvs) (by rfl) (ly.alloc _) ⟨w5.heap.size,0,none⟩ 1 1 [.string ⟨(Th.IG s1.qM).1.s.toArray⟩,.int .i64 (Th.IG s1.qM).1.at_,v5] (by rfl) (by rfl) (World.news_of_block (cs:=#[.string ⟨(Th.IG s1.qM).1.s.toArray⟩,.int .i64 (Th.IG s1.qM).1.at_,v5]) (t:=312) (fr:=(0,0)) (heap_alloc_new w5 _)) (V9 bR) (by omega) (by unfold maxLen;omega) (by omega) (by simp;omega) (w5.heap.size+1) (by simp) ?_;intro g cap w6 ai ah aV aj;have h6:=eu ((ou.o.alloc _).gb ah (by simp[Value.ownBlock];omega));have DQ:=h6.o.1;have DR:=h6.o.2)
        |(go_simp;go_wp2_with (go_at_call 249;refine(eP.o _ ?_).mono ?_;exact gB.o.rs.drew;rintro e w5⟨v5,rfl,aq,fC,cH⟩;have bR:=aq.one.one;have x9:w1.heap.size<w5.heap.size:=(by have:=cH.size;simp at this;omega);have cj:=eu aq;have oF:=eu fC;have lS:=eu cH;have ou:=eu (oO.o.drew.gb cH (by simp;omega));have DO:=ou.o.1;have DP:=ou.o.2;have ly:=HR.o.2.1.drew.kept cH (Qa HR.o.2.1);clear aq fC)))
       all_goals
        go_wp2
        go_roundg g0
        case measure=>omega
        case rel=>exact⟨_,_,_,_,gB.o.add HR.o.1 HR.o.2.1 HR.o.2.2 bd cu cj.o oF.o lS.o ai ah aV (λhb=>Ss _ (MI [61] _ (hk _ _ _ qF.o hb))),by simp,by simp;omega,vP.o⟩
theorem zxr:(prog.info? 240).map (λi=>(i.zero,i.size,i.bytes))=some (some (.agg #[.int .i64 0,.slice none 0 0,.nilIface]),3,48):=by kernel_rfl
theorem Wa{u:Value}(h1:u.oneCell'=true)(h:v.oneCell'=true):∀x∈[Value.int .i64 p,u,v],x.oneCell'=true:=by
 intro x hu;simp only[Mz,PV,qT]at hu;rcases hu with rfl|rfl|rfl
 .rfl
 .exact h1
 .exact h
theorem row_one{S:Nat->Prop}{e:TypeId}{size n:Nat}{xs:List Value}(h:Row S w e size v n xs):v.oneCell'=true:=by rcases Mq h with rfl|⟨g,cap,rfl⟩<;>rfl
structure R3 (w wr:World) (r tb eb:Nat) (T:List Tok) (cv:Value) (ce:Ex) (l:List (Nat × List Tok)) (es:List Ex) (s1:St) (sv:Value):Prop where
 blk:oH wr eb [cv,sv] 173
 lo:w.heap.size<=eb
 rs:RS wr r tb T s1
 gb:w.grownBy wr (some r)
 len:l.length=es.length
 TZ:s1.bad=none->∃n,qU (λb=>IB w b/\b<eb) wr n cv ce
 parts:∃nvs bvs,nvs.length=l.length/\bvs.length=l.length/\wr.ownsRow (eb+1) 240 3 sv l.length (OF l nvs bvs) /\
  (s1.bad=none->∃n,(∀(i:Nat)(a:Nat × List Tok)(nv:Value),l[i]?=some a->nvs[i]?=some nv->Row (λb=>eb<b/\some b≠sv.ownBlock) wr 88 2 nv a.2.length (Ms a.2)) /\
   (∀(i:Nat)(bv:Value)(p:Ex),bvs[i]?=some bv->es[i]?=some p->qU (λb=>eb<b/\some b≠sv.ownBlock) wr n bv p))
variable {cv:Value}{ce:Ex}{nv:Value}
theorem R3.add{l:List (Nat × List Tok)}{x:Nat × List Tok}{nvs bvs:List Value}{o:Obj}(hB:R3 w wr r tb eb T cv ce l es s1 sv)(aL:nvs.length=l.length)(aC:bvs.length=l.length)(fS:wr.ownsRow (eb+1) 240 3 sv l.length (OF l nvs bvs))(mf:s1.bad=none->∃n,(∀(i:Nat)(a:Nat × List Tok)(nv:Value),l[i]?=some a->nvs[i]?=some nv->Row (λb=>eb<b/\some b≠sv.ownBlock) wr 88 2 nv a.2.length (Ms a.2)) /\
   (∀(i:Nat)(bv:Value)(p:Ex),bvs[i]?=some bv->es[i]?=some p->qU (λb=>eb<b/\some b≠sv.ownBlock) wr n bv p))(bd:r<w.heap.size)(cu:tb<w.heap.size)(ay:Row (IB wr.drew) w2 88 2 nv x.2.length (Ms x.2))(aq:Nl (IB wr.drew) w2 v e s2)(aI:RS w2 r tb T s2)(aF:wr.drew.grownBy w2 (some r))(ai:w3.ownsRow (eb+1) 240 3 (.slice (some ⟨g,0,none⟩) (l.length+1) cap) (l.length+1) (OF l nvs bvs++[.int .i64 x.1,nv,v]))(ah:(w2.alloc o).grownBy w3 sv.ownBlock)(aV:sv.ownBlock=some g\/g=w2.heap.size+1)(aQ:s2.bad=none->s1.bad=none):
  R3 w (w3.setCell ⟨eb,1,none⟩ (.slice (some ⟨g,0,none⟩) (l.length+1) cap)) r tb eb T cv ce (l++[x]) (es++[e]) s2 (.slice (some ⟨g,0,none⟩) (l.length+1) cap):=by
 have fN:=hB.lo;have xw:=hB.blk.lt;have bF:wr.heap.size<=w2.heap.size:=aF.size;have cD:∀b,sv.ownBlock=some b->eb<b/\b<wr.heap.size:=λb hb=>⟨(fS.lt b hb).1,(fS.lt b hb).2⟩
 have aH:some eb≠sv.ownBlock:=λe=>by have:=(cD eb e.symm).1;omega
 have nO:eb<g:=by
  rcases aV with h|h
  .exact(cD g h).1
  .omega
 have lz:some r≠sv.ownBlock:=λe=>by have:=(cD r e.symm).1;omega
 have tw:some tb≠sv.ownBlock:=λe=>by have:=(cD tb e.symm).1;omega
 have kQ:oH w3 eb [cv,sv] 173:=((hB.blk.drew.grown aF (by simp;omega)).alloc o).grown ah aH;have key:∀b,eb<b->some b≠sv.ownBlock->b<w2.heap.size->some b≠some g:=by
  intro b aA aw bD e;cases e;rcases aV with h|h
  .exact aw h.symm
  .omega
 have lN:∀{ty:TypeId}{sz m:Nat}{u:Value}{ys:List Value},Row (λb=>eb<b/\some b≠sv.ownBlock) wr ty sz u m ys ->
   Row (λb=>eb<b/\some b≠some g) (w3.setCell ⟨eb,1,none⟩ (.slice (some ⟨g,0,none⟩) (l.length+1) cap)) ty sz u m ys:=by
  intro ty sz m u ys hr;have a1:=hr.gb (Po wr none) (by simp);have a2:=a1.gb aF (λk hk=>by cases hk;omega);have a3:Row (λb=>eb<b/\some b≠sv.ownBlock/\b<w2.heap.size) w2 ty sz u m ys:=a2.mono (λk hk h=>⟨h.1,h.2,hk⟩);have a4:=a3.gb (IS w2 o none) (by simp);have a5:=a4.gb ah (λk hk h=>h.2.1 hk.symm);have a6:=a5.gb (MF w3 eb 1 (.slice (some ⟨g,0,none⟩) (l.length+1) cap)) (λk hk h=>by cases hk;omega);exact a6.mono (λk _ h=>⟨h.1,key k h.1 h.2.1 h.2.2⟩)
 have lM:∀{ty:TypeId}{sz m:Nat}{u:Value}{ys:List Value},Row (IB wr.drew) w2 ty sz u m ys ->
   Row (λb=>eb<b/\some b≠some g) (w3.setCell ⟨eb,1,none⟩ (.slice (some ⟨g,0,none⟩) (l.length+1) cap)) ty sz u m ys:=by
  intro ty sz m u ys hr;have a3:Row (λb=>wr.heap.size<=b/\b<w2.heap.size) w2 ty sz u m ys:=hr.mono (λk hk h=>⟨h,hk⟩);have a4:=a3.gb (IS w2 o none) (by simp);have a5:=a4.gb ah (λk hk h=>by have:=(cD k hk).2;omega);have a6:=a5.gb (MF w3 eb 1 (.slice (some ⟨g,0,none⟩) (l.length+1) cap)) (λk hk h=>by cases hk;omega);exact a6.mono (λk _ h=>⟨by omega,key k (by omega) (λe=>by have:=(cD k e.symm).2;omega) h.2⟩)
 refine⟨?_,fN,?_,?_,by simp[hB.len],?_,nvs++[nv],bvs++[v],by simp[aL],by simp[aC],?_,?_⟩
 .exact kQ.set 1 _
 .exact((aI.alloc o).gb ah lz tw).set eb 1 _ (by omega) (by omega)
 .refine Nv ?_ _ _ fN;have h1:w.grownBy (w2.alloc o) (some r):=qN (qN (qN hB.gb (Po wr _)) aF) (IS w2 o _);exact⟨ah.os.trans h1.os,ah.tape.trans h1.tape,ah.output.trans h1.output,yM h1.size ah.size,
   λk hk hr=>(ah.block k (Kl hk h1.size) (λe=>by have:=(cD k e.symm).1;omega)).trans (h1.block k hk hr)⟩
 .intro hb;obtain⟨n,hn⟩:=hB.TZ (aQ hb);exact⟨n,((((hn.gb (Po wr none) (by simp)).gb aF (λk hk h=>by cases hk;simp only[IB]at h;omega)).gb (IS w2 o none) (by simp)).gb ah (λk hk h=>by have:=(cD k hk).1;omega)).gb (MF w3 eb 1 _) (λk hk h=>by cases hk;omega)⟩
 .rw[zgK l nvs bvs x nv v aL.symm aC.symm,IJ];exact ownsRow_setCell_below (a:=⟨eb,1,none⟩) ai (by simp) _
 .intro hb;obtain⟨n1,dd,cR⟩:=mf (aQ hb);obtain⟨n2,eY⟩:=aq.rep hb;refine⟨n1+n2,λi a u ha hu=>?_,λi pv p eD hp=>?_⟩
  .rcases Qj ha with h1|⟨h1,rfl⟩
   .rcases Qj hu with h2|⟨h2,rfl⟩
    .exact lN (dd i a u h1 h2)
    .rw[R5 (by omega)]at h1;simp at h1
   .rcases Qj hu with h2|⟨h2,rfl⟩
    .rw[R5 (by omega)]at h2;simp at h2
    .exact lM ay
  .rcases Qj eD with h1|⟨h1,rfl⟩
   .rcases Qj hp with h2|⟨h2,rfl⟩
    .exact Jm (λ_ _ _ _ _ hR=>lN hR) _ _ _ ((cR i pv p h1 h2).le (TG n1 n2))
    .rw[R5 (by rw[aC,hB.len];omega)]at h1;simp at h1
   .rcases Qj hp with h2|⟨h2,rfl⟩
    .rw[R5 (by rw[<-hB.len,<-aC];omega)]at h2;simp at h2
    .exact Jm (λ_ _ _ _ _ hR=>lM hR) _ _ _ (eY.le (T6 n2 n1))
theorem R3.step{l:List (Nat × List Tok)}(hB:R3 w wr r tb eb T cv ce l es s1 sv)(bd:r<w.heap.size)(hg:wr.grownBy w' (some r))(hs:RS w' r tb T s2)(hb:s2.bad=none->s1.bad=none):R3 w w' r tb eb T cv ce l es s2 sv:=by
 have fN:=hB.lo;obtain⟨nvs,bvs,h1,iB,h2,h3⟩:=hB.parts;refine⟨hB.blk.grown hg (by simp;omega),fN,hs,qN hB.gb hg,hB.len,?_,nvs,bvs,h1,iB,h2.kept hg (Qa h2),λaQ=>?_⟩
 .intro aQ;obtain⟨n,hn⟩:=hB.TZ (hb aQ);exact⟨n,hn.gb hg (λk hk h=>by cases hk;simp only[IB]at h;omega)⟩
 .obtain⟨n,hr,hn⟩:=h3 (hb aQ);exact⟨n,λi a u x y=>(hr i a u x y).gb hg (λk hk=>by cases hk;omega),λi pv p a b=>(hn i pv p a b).gb hg (λk hk=>by cases hk;omega)⟩
theorem zv4{l:List (Nat × List Tok)}(hB:R3 w wr r tb eb T cv ce l es s1 sv):
  Nl (IB w) wr (.iface 173 (.agg #[cv,sv])) (mkCase ce l es) s1:=by
 have fN:=hB.lo;obtain⟨nvs,bvs,h1,iB,h2,h3⟩:=hB.parts;refine⟨Ti _ _,λaQ=>?_⟩;obtain⟨n1,hr,cR⟩:=h3 aQ;obtain⟨n2,eY⟩:=hB.TZ aQ;refine⟨n1+n2+1,.inr (.inr (.inr (.inr (.inr (.inr (.inr ?_))))))⟩;refine⟨rfl,cv,sv,ce,es,nvs,bvs,rfl,rfl,hB.len.symm,h1,iB,?_,?_,?_,?_⟩
 .exact⟨Ou h2 (Kc _),λb hb=>by have:=(h2.lt b hb).1;simp only[IB];omega⟩
 .exactλi a u x y=>(hr i a u x y).mono (λk _ h=>by simp only[IB];omega)
 .exactλi pv p a b=>((cR i pv p a b).le (by omega)).mono (λk _ h=>by simp only[IB];omega)
 .exact(eY.le (by omega)).mono (λk _ h=>h.1)
theorem RO(st:St):(Th.JR st).2.bad=none->st.bad=none:=by
 intro h;unfold Th.JR at h;split at h
 .simp_all
 .exact h
theorem Vv(hk:MJ ex){q:(Nat × List Tok) × Ex × St}(h:PC ex c st=some q):q.2.2.bad=none->st.bad=none:=by unfold PC at h;simp only[JM,IA]at h;obtain⟨q1,h1,rfl⟩:=h;intro hb;exact MI _ _ (WZ _ _ _ (MI _ _ (RO _ (MI _ _ (hk _ _ _ h1 hb)))))
theorem zlo(h:NL c st=true):st.is [59]=true:=by
 unfold NL at h;cases hi:st.is [59]
 .rw[hi]at h;simp at h
 .rfl
theorem zsM(hx:QW ex)(hk:MJ ex)(uL:k<=1000000)(hq:Qr ex k c st=some q)(h:RS w r tb T st):
  Calls prog 194 #[.pointer (some ⟨r,0,none⟩),.bool c] w λen w'=>Reads w r tb T q.1 q.2 en w':=by
 have bd:=h.lt;have cu:=h.P0;obtain⟨i0,dt,bq,aP,bF⟩:=nC zxr;have HI:=eu dt;clear dt;have HZ:=eu (kK bq (kK aP bF));clear bq aP bF;unfold Qr at hq;simp only[JM,IA]at hq;obtain⟨q0,sR,q1,cF,rfl⟩:=hq;have Cu:=eu sR;have oC:=eu cF;clear sR cF;cases k with
 |zero=>have:=oC.o;simp[NI]at this
 |succ k=>
  have hp:=oC.o;rw[NI]at hp;simp only[JM]at hp;obtain⟨q3,mS,sS⟩:=hp;have qE:=eu mS;have vO:=eu sS;clear mS sS;go_enter func194,ntmps194;go_wp2_with fail;refine(hx _ _ _ _ _ _ _ Cu.o h).mono ?_;rintro e w1⟨cv,rfl,kX,aW,bw⟩;have hz:=bw.size;have ho:=kX.one;have dS:Hid (R3 w (w1.alloc (.cells #[cv,.slice none 0 0] 173)) r tb w1.heap.size T cv q0.1 [] [] q0.2 (.slice none 0 0)):=
   eu ⟨gH w1 [cv,.slice none 0 0] 173,hz,aW.alloc _,qN bw (IS w1 _ _),rfl,
    λhb=>by obtain⟨n,hn⟩:=kX.rep hb;exact⟨n,(hn.mono (λk hk h=>⟨h,hk⟩)).gb (IS w1 _ none) (by simp)⟩,[],[],rfl,rfl,kt _ _ _ _,λ_=>⟨0,λi pv p hh _=>by simp at hh,λi pv p hh _=>by simp at hh⟩⟩
  clear h aW bw kX;rcases ho.shape with rfl|⟨t1,x1,rfl⟩
  all_goals
   clear ho;go_wp2_with fail;refine(Qi dS.o.rs ⟨#[111,102]⟩).mono ?_;rintro e w9⟨rfl,AN,Am⟩;have tZ:=eu (dS.o.step bd Am AN (MI _ _));have nK:=eu (W4 tZ.o.blk 1 (v:=.slice none 0 0) rfl);have Gm:=nK.o.1;have Gn:=nK.o.2;have GJ:=tZ.o.blk.lt;have dn:=eu (λ(W:World)(hW:RS W r tb T (Th.want Nt q0.2))=>zwN hx qE.o hW);clear AN Am;go_wp2_with fail
   go_cut [12] (λ_ wc=>∃cv sv,One cv/\R3 w wc r tb w1.heap.size T cv q0.1 [q3.1] [q3.2.1] q3.2.2 sv)
   case first=>
    go_region_law (first
     |(refine step_append_lies _ (by rfl) _ _ _ (by rfl) (w1.heap.size+1) 240 i0 _ 3 48 underlying171 HI.o HZ.o.1 HZ.o.2.1 HZ.o.2.2 rfl (by omega) (.slice none 0 0) 0 [] (by rfl) (kt _ _ _ _) ⟨w2.heap.size,0,none⟩ 1 1 [.int .i64 q3.1.1,nv,v] (by rfl) (by rfl) (World.news_of_block (cs:=#[.int .i64 q3.1.1,nv,v]) (t:=240) (fr:=(0,0)) (heap_alloc_new w2 _)) (Wa iM bR) (by omega) (by unfold maxLen;omega) (by omega) (by simp;omega) (w2.heap.size+1) (by simp) ?_;intro g cap w3 ai ah aV aj;have h3:=eu ((H2.o.alloc _).gb ah (by simp[Value.ownBlock]));have uB:=h3.o.1;have zD:=h3.o.2)
     |(go_simp;go_wp2_with (go_at_call 250;refine(dn.o _ ?_).mono ?_;exact tZ.o.rs.drew;rintro e w2⟨nv,v,rfl,ay,aq,aI,aF⟩;have bR:=aq.one.one;have iM:=row_one ay;have j6:w1.heap.size<w2.heap.size:=(by have:=aF.size;simp at this;omega);have v7:=eu ay;have cj:=eu aq;have eS:=eu aI;have eK:=eu aF;have H2:=eu (nK.o.drew.gb aF (by simp;omega));have wL:=H2.o.1;have rq:=H2.o.2;clear aq aI ay)))
    all_goals
     go_wp2_with fail;go_meet
     case rel=>exact⟨_,_,⟨by first|exact .inl rfl|exact .inr ⟨_,_,rfl⟩⟩,tZ.o.add (nvs:=[]) (bvs:=[]) rfl rfl (kt _ _ _ _) (λ_=>⟨0,λi pv p hh _=>by simp at hh,λi pv p hh _=>by simp at hh⟩) bd cu v7.o cj.o eS.o eK.o ai ah aV (Vv hk qE.o)⟩
   case rest=>
    obtain⟨Gc,Ba,ja,cU⟩:=hcut;have cB:=eu (kK ja cU);clear cU ja;go_wp2_with fail
    go_loopg [21] k (λg _ wr=>∃cv l es s1 sv,One cv/\R3 w wr r tb w1.heap.size T cv q0.1 l es s1 sv/\l≠[]/\l.length+g<=k+1/\(if NL c s1=true then NI ex c g l es s1.qM else some (l,es,s1))=some q1)
    case atStart=>exact⟨_,_,_,_,_,cB.o.1,cB.o.2,by simp,by simp;omega,vO.o⟩
    case round=>
     obtain⟨cv,l,es,s1,sv,Az,hB,aH,mO,hp⟩:=hrel;have HB:=eu hB;have hs:=hB.rs;have HO:=eu Az;clear hB Az;cases h5:NL c s1
     .rw[h5]at hp;simp only[Ps,nt,IA]at hp;subst hp;have H5:=eu h5;clear h5;go_wp2_with fail;refine(zfX hs c).mono ?_;rintro e w4⟨rfl,xi⟩;rw[H5.o];have gB:=eu (HB.o.step bd (Bj _ xi) (hs.below xi) (λhb=>hb));have d0:=gB.o.blk.cell 0;have d1:=gB.o.blk.cell 1;simp at d0 d1;have cE:=eu (zv4 gB.o);obtain⟨nvs,bvs,-,-,af,-⟩:=gB.o.parts;have gV:=Mq (lP af);clear hs xi af;rcases gV with rfl|⟨gs,iA,rfl⟩<;>rcases HO.o.shape with rfl|⟨t2,x2,rfl⟩
      all_goals
       go_wp2;go_ret;exact⟨_,rfl,cE.o,gB.o.rs,gB.o.gb⟩
     .rw[h5]at hp;simp only[kP]at hp;cases gk with
      |zero=>simp[NI]at hp
      |succ g0=>
       rw[NI]at hp;simp only[JM]at hp;obtain⟨q5,sT,sU⟩:=hp;have qF:=eu sT;have vP:=eu sU;have H5:=eu h5;have Hw:Hid (Th.want [59] s1=s1.qM):=eu (by rw[Th.want,zlo h5];simp);have eP:=eu (λ(W:World)(hW:RS W r tb T s1.qM)=>zwN hx qF.o hW);clear h5 sT sU;go_wp2_with fail;refine(zfX hs c).mono ?_;rintro e w8⟨rfl,xj⟩;rw[H5.o];have p8:=hs.below xj;have BC:=eu (HB.o.step bd (Bj _ xj) p8 (λhb=>hb));clear hs xj;go_wp2_with fail;refine(Qi p8 ⟨#[59]⟩).mono ?_;rintro e w4⟨rfl,bV,bM⟩;rw[show Th.want (ByteArray.mk #[59]).data.toList s1=s1.qM from Hw.o]at bV;have gB:=eu (BC.o.step bd bM bV (λ_=>Tu (zlo H5.o)));obtain⟨nvs,bvs,sO,sP,af,aR⟩:=gB.o.parts;have gV:=Mq (lP af);rcases gV with rfl|⟨gs,iA,rfl⟩
       .exfalso;rcases af.2 with⟨-,h0⟩|⟨_,_,_,h0,_⟩
        .exact aH (Pl.1 h0)
        .cases h0
       .have uK:=(af.lt gs rfl);have HR:=eu (kK (kK sO sP) (kK af aR));have oO:=eu (W4 gB.o.blk 1 (v:=.slice (some ⟨gs,0,none⟩) l.length iA) rfl);have DL:=oO.o.1;have DM:=oO.o.2;have xF:=gB.o.blk.lt;clear p8 bV bM sO sP af aR;go_wp2_with fail
        go_region_law (first
         |(refine step_append_lies _ (by rfl) _ _ _ (by rfl) (w1.heap.size+1) 240 i0 _ 3 48 underlying171 HI.o HZ.o.1 HZ.o.2.1 HZ.o.2.2 rfl (by omega) (.slice (some ⟨gs,0,none⟩) l.length iA) l.length (OF l nvs bvs) (by rfl) (ly.alloc _) ⟨w5.heap.size,0,none⟩ 1 1 [.int .i64 q5.1.1,A6,v5] (by rfl) (by rfl) (World.news_of_block (cs:=#[.int .i64 q5.1.1,A6,v5]) (t:=240) (fr:=(0,0)) (heap_alloc_new w5 _)) (Wa iM bR) (by omega) (by unfold maxLen;omega) (by omega) (by simp;omega) (w5.heap.size+1) (by simp) ?_;intro g cap w6 ai ah aV aj;have h6:=eu ((ou.o.alloc _).gb ah (by simp[Value.ownBlock];omega));have DQ:=h6.o.1;have DR:=h6.o.2)
         |(go_simp;go_wp2_with (go_at_call 250;refine(eP.o _ ?_).mono ?_;exact gB.o.rs.drew;rintro e w5⟨A6,v5,rfl,ay,aq,fC,cH⟩;have bR:=aq.one.one;have iM:=row_one ay;have x9:w1.heap.size<w5.heap.size:=(by have:=cH.size;simp at this;omega);have v7:=eu ay;have cj:=eu aq;have oF:=eu fC;have lS:=eu cH;have ou:=eu (oO.o.drew.gb cH (by simp;omega));have DO:=ou.o.1;have DP:=ou.o.2;have ly:=HR.o.2.1.drew.kept cH (Qa HR.o.2.1);clear aq fC ay)))
        all_goals
         go_wp2
         go_roundg g0
         case measure=>omega
         case rel=>exact⟨_,_,_,_,_,HO.o,gB.o.add HR.o.1.1 HR.o.1.2 HR.o.2.1 HR.o.2.2 bd cu v7.o cj.o oF.o lS.o ai ah aV (Vv hk qF.o),by simp,by simp;omega,vP.o⟩
theorem ztF(l:List Tok):∀u∈Ms l,u.oneCell'=true:=by intro u hu;simp only[Ms,List.mem_flatMap,Rc]at hu;obtain⟨t,_,ht⟩:=hu;simp only[Mz,PV,qT]at ht;rcases ht with rfl|rfl<;>rfl
theorem zkE(l:List Tok):(Ms l).length=l.length*2:=by
 induction l with
 |nil=>rfl
 |cons t l ih=>rw[show Ms (t::l)=Rc t++Ms l from rfl,IJ,ih];simp only[Rc,Kh,My];omega
theorem ztE(h:RS w r tb T st):(Th.JR st).1.length<=100000:=by
 have:=ztW h;unfold Th.JR;split
 .exact yM (List.takeWhile_prefix _).length_le this
 .simp
structure U2 (w wr:World) (r tb eb:Nat) (T:List Tok) (l:List Tok) (s1:St) (sv:Value):Prop where
 blk:oH wr eb [sv,.nilIface] 226
 lo:w.heap.size<=eb
 rs:RS wr r tb T s1
 gb:w.grownBy wr (some r)
 row:Row (λb=>IB w b/\b≠eb) wr 88 2 sv l.length (Ms l)
theorem U2.step(hB:U2 w wr r tb eb T l s1 sv)(bd:r<w.heap.size)(hg:wr.grownBy w' (some r))(hs:RS w' r tb T s2):U2 w w' r tb eb T l s2 sv:=by have fN:=hB.lo;exact⟨hB.blk.grown hg (by simp;omega),fN,hs,qN hB.gb hg,hB.row.gb hg (λk hk h=>by cases hk;simp only[IB]at h;omega)⟩
theorem zxG(hB:U2 w wr r tb eb T l s1 sv)(bd:r<w.heap.size)(hg:wr.grownBy w' (some r))(aq:Nl (IB wr) w' v e s2):
  Nl (IB w) (w'.setCell ⟨eb,1,none⟩ v) (.iface 226 (.agg #[sv,v])) (mkFun l e) s2:=by
 have fN:=hB.lo;have xw:=hB.blk.lt;have hz:=hB.gb.size;refine⟨Ti _ _,λaQ=>?_⟩;obtain⟨n2,eY⟩:=aq.rep aQ;have cS:=MF w' eb 1 v;refine⟨n2+1,.inr (.inr (.inr (.inl ⟨rfl,sv,v,e,rfl,rfl,?_,?_⟩)))⟩
 .exact((hB.row.gb hg (λk hk h=>by cases hk;simp only[IB]at h;omega)).gb cS (λk hk h=>by cases hk;exact h.2 rfl)).mono (λk _ h=>h.1)
 .exact(eY.gb cS (λk hk=>by cases hk;simp only[IB];omega)).mono (λk _ h=>by simp only[IB]at *;omega)
theorem zqK{base:Nat}{e:TypeId}{size n:Nat}{xs:List Value}(h:w.ownsRow base e size v n xs)(hn:0<n):∃g cap,v=.slice (some ⟨g,0,none⟩) n cap:=by
 rcases h.2 with⟨_,h0⟩|⟨g,cap,cur,h,_⟩
 .omega
 .exact⟨g,cap,h⟩
theorem zqD{w1 W0:World}{m:Nat}{x:Tok}(hB:oH W0 (w1.heap.size+1) [.slice (some ⟨w1.heap.size,0,none⟩) 1 1,.nilIface] 226)(hz:w.heap.size<=w1.heap.size)(bd:r<w.heap.size)(cu:tb<w.heap.size)(DU:w.grownBy W0 (some r))(aI:RS w2 r tb T s2)(aF:W0.drew.grownBy w2 (some r))(ai:w3.ownsRow w1.heap.size 88 2 (.slice (some ⟨g,0,none⟩) m cap) m (Ms (x::l)))(hm:m=(x::l).length)(ah:w2.grownBy w3 (some w1.heap.size))(aV:g=w1.heap.size\/g=w2.heap.size):
  U2 w (w3.setCell ⟨w1.heap.size+1,0,none⟩ (.slice (some ⟨g,0,none⟩) m cap)) r tb (w1.heap.size+1) T (x::l) s2 (.slice (some ⟨g,0,none⟩) m cap):=by
 have aj:=hB.lt;have bF:W0.heap.size<=w2.heap.size:=aF.size;have nO:g≠w1.heap.size+1:=by omega
 have cS:=MF w3 (w1.heap.size+1) 0 (.slice (some ⟨g,0,none⟩) m cap);refine⟨?_,by omega,?_,?_,?_,?_⟩
 .exact((hB.drew.grown aF (by simp;omega)).grown ah (by simp)).set 0 _
 .exact(aI.gb ah (by simp;omega) (by simp;omega)).set _ _ _ (by omega) (by omega)
 .refine Nv ?_ _ _ (by simp;omega);have h1:=qN (qN DU (Po W0 _)) aF;exact⟨ah.os.trans h1.os,ah.tape.trans h1.tape,ah.output.trans h1.output,yM h1.size ah.size,
   λk hk hr=>(ah.block k (Kl hk h1.size) (by simp;omega)).trans (h1.block k hk hr)⟩
 .rw[<-hm];exact Ou (ai.kept cS (by simp[Value.ownBlock];omega)) (Kc _)
 .intro k hk;simp only[Value.ownBlock,IA]at hk;subst hk;have:=(ai.lt g rfl).1;simp only[IB];omega
theorem ztn(hx:QW ex)(hq:Qu ex c st=some q)(h:RS w r tb T st):
  Calls prog 195 #[.pointer (some ⟨r,0,none⟩),.bool c] w λen w'=>Reads w r tb T q.1 q.2 en w':=by
 have bd:=h.lt;have cu:=h.P0;obtain⟨i0,dt,bq,aP,bF⟩:=nC zqz;have HI:=eu dt;clear dt;have HZ:=eu (kK bq (kK aP bF));clear bq aP bF;unfold Qu at hq;simp only[JM,IA]at hq;obtain⟨q1,cF,rfl⟩:=hq;generalize cX:Th.IG st=xs at cF|-;generalize da:Th.JR xs.2=ln at cF|-;have oC:=eu cF;have C9:=eu cX;have kB:=eu da;clear cF cX da;go_enter func195,ntmps195;go_wp2_with fail;refine(Xk h).mono ?_;rintro e w1⟨rfl,aW,bw⟩;rw[C9.o]at aW|-;have hz:=bw.size;have nX:=World.ownsRow_lit (base:=w1.heap.size) (e:=88) (size:=2) w1 #[.string ⟨xs.1.s.toArray⟩,.int .i64 xs.1.at_] 1 (qP _) (by unfold maxLen;omega) rfl;have uW:=gH (w1.alloc (.cells #[.string ⟨xs.1.s.toArray⟩,.int .i64 xs.1.at_] 88)) [.slice (some ⟨w1.heap.size,0,none⟩) 1 1,.nilIface] 226;rw[gM]at uW;have B0:=eu uW;clear uW;have zi:=eu ((aW.alloc (.cells #[.string ⟨xs.1.s.toArray⟩,.int .i64 xs.1.at_] 88)).alloc (.cells #[.slice (some ⟨w1.heap.size,0,none⟩) 1 1,.nilIface] 226));have eQ:=eu (qN (qN bw (IS w1 (.cells #[.string ⟨xs.1.s.toArray⟩,.int .i64 xs.1.at_] 88) (some r))) (IS _ (.cells #[.slice (some ⟨w1.heap.size,0,none⟩) 1 1,.nilIface] 226) (some r)));have pI:=eu (nX.alloc (.cells #[.slice (some ⟨w1.heap.size,0,none⟩) 1 1,.nilIface] 226));have xy:=ztE aW;rw[kB.o]at xy;have dn:=eu (λ(W:World)(hW:RS W r tb T xs.2)=>zlH hW);clear h aW bw nX;have nK:Hid (Rn _ (w1.heap.size+1) 0 (.slice (some ⟨w1.heap.size,0,none⟩) 1 1)):=eu (W4 B0.o 0 (v:=.slice (some ⟨w1.heap.size,0,none⟩) 1 1) rfl);go_wp2_with fail
 go_cut [11] (λ_ wc=>∃sv,U2 w wc r tb (w1.heap.size+1) T (xs.1::ln.1) ln.2 sv)
 case first=>
  by_cases hl:ln.1=[]
  .have Hl:=eu hl;clear hl
   go_region_law (first
    |(go_simp;go_wp2_with (go_at_call 116;refine(dn.o _ ?_).mono ?_;exact zi.o.drew;rintro e w2⟨nv,rfl,ck,ez,aI,aF⟩;rw[kB.o]at ck aI;obtain rfl:=ck Hl.o;have j6:w1.heap.size+1<w2.heap.size:=(by have:=aF.size;simp at this;omega);have eS:=eu aI;have eK:=eu aF;have H2:=eu (nK.o.drew.gb aF (by simp;omega));have wL:=H2.o.1;have rq:=H2.o.2;clear aI ck ez)))
   all_goals
    go_wp2_with fail;go_meet
    case rel=>have jc:w2.ownsRow w1.heap.size 88 2 (.slice (some ⟨w1.heap.size,0,none⟩) 1 1) 1 (Ms (xs.1::[])):=pI.o.drew.kept eK.o (Qa pI.o);have eW:=zqD B0.o hz bd cu eQ.o eS.o eK.o jc rfl (QT w2 _) (.inl rfl);rw[<-Hl.o]at eW;exact⟨_,eW⟩
  .have aL:0<ln.1.length:=Qw.2 hl;have Hl:=eu hl;clear hl
   go_region_law (first
    |(refine step_append_lies _ (by rfl) _ _ _ (by rfl) w1.heap.size 88 i0 _ 2 24 underlying89 HI.o HZ.o.1 HZ.o.2.1 HZ.o.2.2 rfl (by omega) (.slice (some ⟨w1.heap.size,0,none⟩) 1 1) 1 (Rc xs.1) (by rfl) sX ⟨g2,0,none⟩ ln.1.length c2 (Ms ln.1) (by rfl) (zkE _) (ez.cells rfl) (ztF _) (by omega) (by unfold maxLen;omega) (by omega) (by omega) w2.heap.size rfl ?_;intro g cap w3 ai ah aV aj;have h3:=eu (H2.o.gb ah (by simp[Value.ownBlock]));have uB:=h3.o.1;have zD:=h3.o.2)
    |(go_simp;go_wp2_with (go_at_call 116;refine(dn.o _ ?_).mono ?_;exact zi.o.drew;rintro e w2⟨nv,rfl,ck,ez,aI,aF⟩;rw[kB.o]at ez aI;obtain⟨g2,c2,rfl⟩:=zqK ez aL;have j6:w1.heap.size+1<w2.heap.size:=(by have:=aF.size;simp at this;omega);have eS:=eu aI;have eK:=eu aF;have H2:=eu (nK.o.drew.gb aF (by simp;omega));have wL:=H2.o.1;have rq:=H2.o.2;have sX:=pI.o.drew.kept aF (Qa pI.o);clear aI ck)))
   all_goals
    go_wp2_with fail;go_meet
    case rel=>
     refine⟨_,zqD B0.o hz bd cu eQ.o eS.o eK.o ai (by simp;omega) ah ?_⟩;rcases aV with h|h
     .left;simpa[Value.ownBlock]using h.symm
     .exact .inr h
 case rest=>
  obtain⟨Ba,cU⟩:=hcut;have cB:=eu cU;have hs:=cU.rs;clear cU;go_wp2_with fail;refine(Qi hs ⟨#[46]⟩).mono ?_;rintro e w5⟨rfl,fC,cH⟩;have kx:=eu (cB.o.step bd cH fC);clear hs cH;go_wp2_with fail;refine(hx _ _ _ _ _ _ _ oC.o fC).mono ?_;rintro en w6⟨v,rfl,aq,jL,fk⟩;have lX:=kx.o.blk.grown fk (by simp;omega);have d0:=lX.cell 0;have d1:=lX.cell 1;have f1:=lX.frozen 1;simp at d0 d1;have cE:=eu (zxG kx.o bd fk aq);have kb:=eu (Nv (qN kx.o.gb fk) ⟨w1.heap.size+1,1,none⟩ v (by simp;omega));have qL:=eu (jL.set (w1.heap.size+1) 1 v (by omega) (by omega));have ho:=aq.one;have gV:=Mq kx.o.row;clear fC aq jL fk lX;rcases gV with rfl|⟨gs,iA,rfl⟩<;>rcases ho.shape with rfl|⟨t1,x1,rfl⟩
  all_goals
   clear ho;go_wp2;go_ret;exact⟨_,rfl,cE.o,qL.o,kb.o⟩
end
section
open Go.RowKit
theorem OV(st:St):st.qM.bad=none->st.bad=none:=λh=>h
variable {st:St}
theorem SI(h:st.fail.bad=none):False:=zvv h
theorem ztC(st:St):(PN st).2.bad=none->st.bad=none:=by intro h;exact WZ _ _ _ (MI _ _ (WZ _ _ _ (MI _ _ h)))
variable {ex:Rd}{q:Ex × St}
theorem Yq(hk:MJ ex)(h:NZ ex st=some q):q.2.bad=none->st.bad=none:=by
 unfold NZ at h;intro hb;split at h
 .cases h;exact hb
 .split at h
  .cases h;exact hb
  .split at h
   .cases h;exact OV _ (ztC _ hb)
   .split at h
    .simp only[JM,IA]at h;obtain⟨r,h1,rfl⟩:=h;exact OV _ (hk _ _ _ h1 (MI _ _ hb))
    .cases h;exact(SI hb).elim
theorem zi7{ex:Rd}(hk:MJ ex):∀(k:Nat)(e:Ex)(st:St)(q:Ex × St),Of ex k e st=some q->q.2.bad=none->st.bad=none
 |0,_,_,_,h=>by simp[Of]at h
 |k+1,e,st,q,h=>by
  rw[Of]at h;split at h
  .simp only[JM]at h;obtain⟨r,h1,h2⟩:=h;exactλhb=>Yq hk h1 (zi7 hk k _ _ _ h2 hb)
  .cases h;exactλhb=>hb
theorem Yr(hk:MJ ex)(k:Nat)(st:St)(q:Ex × St)(h:OZ ex k st=some q):q.2.bad=none->st.bad=none:=by unfold OZ at h;simp only[JM]at h;obtain⟨r,h1,h2⟩:=h;exactλhb=>Yq hk h1 (zi7 hk k _ _ _ h2 hb)
theorem zjx{sub:St->Option (Ex × St)}(hs:∀st q,sub st=some q->q.2.bad=none->st.bad=none)(a b:List UInt8):∀(k:Nat)(e:Ex)(st:St)(q:Ex × St),Nk sub a b k e st=some q->q.2.bad=none->st.bad=none
 |0,_,_,_,h=>by simp[Nk]at h
 |k+1,e,st,q,h=>by
  rw[Nk]at h;split at h
  .simp only[JM]at h;obtain⟨r,h1,h2⟩:=h;exactλhb=>OV _ (hs _ _ h1 (zjx hs a b k _ _ _ h2 hb))
  .cases h;exactλhb=>hb
theorem Yg(hk:MJ ex)(k:Nat)(st:St)(q:Ex × St)(h:Px ex k st=some q):q.2.bad=none->st.bad=none:=by unfold Px at h;simp only[JM]at h;obtain⟨r,h1,h2⟩:=h;exactλhb=>Yr hk k _ _ h1 (zjx (Yr hk k) _ _ k _ _ _ h2 hb)
theorem W6(hk:MJ ex)(k:Nat)(st:St)(q:Ex × St)(h:PD ex k st=some q):q.2.bad=none->st.bad=none:=by unfold PD at h;simp only[JM]at h;obtain⟨r,h1,h2⟩:=h;exactλhb=>Yg hk k _ _ h1 (zjx (Yg hk k) _ _ k _ _ _ h2 hb)
theorem zsa(hk:MJ ex)(k:Nat)(st:St)(q:Ex × St)(h:Py ex k st=some q):q.2.bad=none->st.bad=none:=by
 unfold Py at h;simp only[JM]at h;obtain⟨r,h1,h2⟩:=h;split at h2
 .simp only[JM,IA]at h2;obtain⟨s,h3,rfl⟩:=h2;exactλhb=>W6 hk k _ _ h1 (OV _ (W6 hk k _ _ h3 hb))
 .cases h2;exact W6 hk k _ _ h1
theorem zi4{ex:Rd}(hk:MJ ex):∀(k:Nat)(l:List Tok)(es:List Ex)(st:St)(q:List Tok × List Ex × St),NH ex k l es st=some q->q.2.2.bad=none->st.bad=none
 |0,_,_,_,_,h=>by simp[NH]at h
 |k+1,l,es,st,q,h=>by
  rw[NH]at h;simp only[JM]at h;obtain⟨r,h1,h2⟩:=h;have h0:r.2.bad=none->st.bad=none:=λhb=>Ss _ (MI _ _ (hk _ _ _ h1 hb))
  split at h2
  .exactλhb=>h0 (OV _ (zi4 hk k _ _ _ _ h2 hb))
  .cases h2;exact h0
theorem Yp{ex:Rd}(hk:MJ ex)(c:Bool):∀(k:Nat)(l:List (Nat × List Tok))(es:List Ex)(st:St)(q:List (Nat × List Tok) × List Ex × St),NI ex c k l es st=some q->q.2.2.bad=none->st.bad=none
 |0,_,_,_,_,h=>by simp[NI]at h
 |k+1,l,es,st,q,h=>by
  rw[NI]at h;simp only[JM]at h;obtain⟨r,h1,h2⟩:=h;split at h2
  .exactλhb=>Vv hk h1 (OV _ (Yp hk c k _ _ _ _ h2 hb))
  .cases h2;exact Vv hk h1
theorem zrc(hk:MJ ex)(k:Nat):MJ (NU ex k):=by
 intro c st q h hb;unfold NU at h;split at h
 .unfold Qv at h;simp only[JM,IA]at h;obtain⟨r,h1,s,h2,rfl⟩:=h;have:=zi4 hk k _ _ _ _ h1 (MI _ _ (hk _ _ _ h2 hb));split at this
  .exact OV _ (OV _ this)
  .exact OV _ this
 .split at h
  .unfold Qr at h;simp only[JM,IA]at h;obtain⟨r,h1,s,h2,rfl⟩:=h;exact OV _ (hk _ _ _ h1 (MI _ _ (Yp hk c k _ _ _ _ h2 hb)))
  .split at h
   .unfold Qu at h;simp only[JM,IA]at h;obtain⟨r,h1,rfl⟩:=h;exact OV _ (Ss _ (RO _ (MI _ _ (hk _ _ _ h1 hb))))
   .exact zsa hk k _ _ h hb
theorem Ux:∀n,MJ (Mn n)
 |0=>λ_ _ _ h=>by simp[Mn]at h
 |n+1=>zrc (Ux n) n
variable {w w2:World}{r tb:Nat}{T:List Tok}{e:Ex}
theorem YT{w1:World}{s:St}{en:Ending}(hg:w.grownBy w1 (some r))(h:Reads w1 r tb T e s en w2):Reads w r tb T e s en w2:=by obtain⟨v,h1,h2,h3,h4⟩:=h;exact⟨v,h1,h2.mono (λk _ hk=>yM hg.size hk),h3,qN hg h4⟩
variable {k:Nat}
theorem zxa(hx:QW ex)(hk:MJ ex)(uL:k<=1000000):QW (NU ex k):=by
 intro c st q w r tb T hq h;have bd:=h.lt;have HQ:=eu hq;clear hq;go_enter func118,ntmps118;go_wp2_with fail;refine(RF h ⟨#[108,101,116]⟩).mono ?_;rintro e w1⟨rfl,aW,bw⟩;have lW:=eu bw;clear bw h;cases h1:st.is Ol
 .rw[show st.is (ByteArray.mk #[108,101,116]).data.toList=false from h1]at aW|-;have lA:RS w1 r tb T st:=by simpa using aW
  have H1:=eu h1;clear h1 aW;go_wp2_with fail;refine(RF lA ⟨#[99,97,115,101]⟩).mono ?_;rintro e w2⟨rfl,aI,aF⟩;have ix:=eu (qN lW.o aF);clear aF lA;cases h2:st.is OK
  .rw[show st.is (ByteArray.mk #[99,97,115,101]).data.toList=false from h2]at aI|-;have lB:RS w2 r tb T st:=by simpa using aI
   have H2:=eu h2;clear h2 aI;go_wp2_with fail;refine(RF lB ⟨#[92]⟩).mono ?_;rintro e w3⟨rfl,bP,aS⟩;have ej:=eu (qN ix.o aS);clear aS lB;cases h3:st.is [92]
   .rw[show st.is (ByteArray.mk #[92]).data.toList=false from h3]at bP;have lC:RS w3 r tb T st:=by simpa using bP
    have mS:Hid (Py ex k st=some q):=eu (by have e:=HQ.o;rw[NU,H1.o,H2.o,h3]at e;simpa using e);clear h3 bP;go_wp2_with fail;refine(zxW hx k _ _ _ _ _ _ mS.o lC).mono ?_;rintro en w4 hr;obtain⟨v,rfl,cg⟩:=YT ej.o hr;have hc:=cg.1.one.cells;have HR:=eu cg;clear hr cg lC;go_wp2;go_ret;exact⟨v,rfl,HR.o⟩
   .rw[show st.is (ByteArray.mk #[92]).data.toList=true from h3]at bP;have lC:RS w3 r tb T st.qM:=by simpa using bP
    have mS:Hid (Qu ex c st.qM=some q):=eu (by have e:=HQ.o;rw[NU,H1.o,H2.o,h3]at e;simpa using e);clear h3 bP;go_wp2_with fail;refine(ztn hx mS.o lC).mono ?_;rintro en w4 hr;obtain⟨v,rfl,cg⟩:=YT ej.o hr;have hc:=cg.1.one.cells;have HR:=eu cg;clear hr cg lC;go_wp2;go_ret;exact⟨v,rfl,HR.o⟩
  .rw[show st.is (ByteArray.mk #[99,97,115,101]).data.toList=true from h2]at aI|-;have lB:RS w2 r tb T st.qM:=by simpa using aI
   have bC:Hid (Qr ex k c st.qM=some q):=eu (by have e:=HQ.o;rw[NU,H1.o,h2]at e;simpa using e);clear h2 aI;go_wp2_with fail;refine(zsM hx hk uL bC.o lB).mono ?_;rintro en w4 hr;obtain⟨v,rfl,cg⟩:=YT ix.o hr;have hc:=cg.1.one.cells;have HR:=eu cg;clear hr cg lB;go_wp2;go_ret;exact⟨v,rfl,HR.o⟩
 .rw[show st.is (ByteArray.mk #[108,101,116]).data.toList=true from h1]at aW|-;have lA:RS w1 r tb T st.qM:=by simpa using aW
  have cF:Hid (Qv ex k c st.qM=some q):=eu (by have e:=HQ.o;rw[NU,h1]at e;simpa using e);clear h1 aW;go_wp2_with fail;refine(zyn hx hk uL cF.o lA).mono ?_;rintro en w4 hr;obtain⟨v,rfl,cg⟩:=YT lW.o hr;have hc:=cg.1.one.cells;have HR:=eu cg;clear hr cg lA;go_wp2;go_ret;exact⟨v,rfl,HR.o⟩
theorem zs0:∀(n:Nat),n<=1000000->QW (Mn n)
 |0,_=>λ_ _ _ _ _ _ _ h=>by simp[Mn]at h
 |n+1,hn=>zxa (zs0 n (by omega)) (Ux n) (by omega)
theorem znU:(prog.info? 93).map (λi=>(i.zero,i.size,i.bytes))=some (some (.agg #[.string ⟨#[]⟩,.int .i64 0,.slice none 0 0,.nilIface]),4,64):=by kernel_rfl
def OH:List By->List Value->List Value->List Value
 |x::l,n::ns,v::vs=>[.string ⟨x.name.s.toArray⟩,.int .i64 x.name.at_,n,v]++OH l ns vs
 |_,_,_=>[]
theorem zga:∀(l:List By)(ns vs:List Value)(a:By)(n v:Value),l.length=ns.length->l.length=vs.length->OH (l++[a]) (ns++[n]) (vs++[v])=OH l ns vs++[.string ⟨a.name.s.toArray⟩,.int .i64 a.name.at_,n,v]
 |[],[],[],_,_,_,_,_=>rfl
 |x::l,y::ns,z::vs,a,n,v,h1,h2=>by simp only[MP,OH];rw[zga l ns vs a n v (by simpa using h1) (by simpa using h2)];simp
 |[],_::_,_,_,_,_,h,_=>by simp at h
 |[],[],_::_,_,_,_,_,h=>by simp at h
 |_::_,[],_,_,_,_,h,_=>by simp at h
 |_::_,_::_,[],_,_,_,_,h=>by simp at h
variable {p:Int}{v:Value}
theorem Zv{s:ByteArray}{u:Value}(h1:u.oneCell'=true)(h:v.oneCell'=true):∀x∈[Value.string s,.int .i64 p,u,v],x.oneCell'=true:=by
 intro x hu;simp only[Mz,PV,qT]at hu;rcases hu with rfl|rfl|rfl|rfl
 .rfl
 .rfl
 .exact h1
 .exact h
def To (S:Nat->Prop) (w:World) (n:Nat) (l:List By) (nvs bvs:List Value):Prop:=
 ∀(i:Nat)(x:By)(nv bv:Value),l[i]?=some x->nvs[i]?=some nv->bvs[i]?=some bv->Row S w 88 2 nv x.params.length (Ms x.params)/\qU S w n bv x.e
structure SL (w wr:World) (r tb:Nat) (T:List Tok) (l:List By) (s1:St) (sv:Value):Prop where
 rs:RS wr r tb T s1
 gb:w.grownBy wr (some r)
 parts:∃nvs bvs,nvs.length=l.length/\bvs.length=l.length/\wr.ownsRow w.heap.size 93 4 sv l.length (OH l nvs bvs) /\
  (s1.bad=none->∃n,To (λb=>IB w b/\some b≠sv.ownBlock) wr n l nvs bvs)
variable {wr w3:World}{s1 s2:St}{sv nv:Value}{g cap:Nat}
theorem SL.add{l:List By}{x:By}{nvs bvs:List Value}{o:Obj}(hB:SL w wr r tb T l s1 sv)(aL:nvs.length=l.length)(aC:bvs.length=l.length)(fS:wr.ownsRow w.heap.size 93 4 sv l.length (OH l nvs bvs))(mf:s1.bad=none->∃n,To (λb=>IB w b/\some b≠sv.ownBlock) wr n l nvs bvs)(bd:r<w.heap.size)(cu:tb<w.heap.size)(ay:Row (IB wr) w2 88 2 nv x.params.length (Ms x.params))(aq:Nl (IB wr) w2 v x.e s2)(aI:RS w2 r tb T s2)(aF:wr.grownBy w2 (some r))(ai:w3.ownsRow w.heap.size 93 4 (.slice (some ⟨g,0,none⟩) (l.length+1) cap) (l.length+1) (OH l nvs bvs++[.string ⟨x.name.s.toArray⟩,.int .i64 x.name.at_,nv,v]))(ah:(w2.alloc o).grownBy w3 sv.ownBlock)(aV:sv.ownBlock=some g\/g=w2.heap.size+1)(aQ:s2.bad=none->s1.bad=none):
  SL w w3 r tb T (l++[x]) s2 (.slice (some ⟨g,0,none⟩) (l.length+1) cap):=by
 have bF:wr.heap.size<=w2.heap.size:=aF.size;have aP:=hB.gb.size;have cD:∀b,sv.ownBlock=some b->w.heap.size<=b/\b<wr.heap.size:=λb hb=>⟨(fS.lt b hb).1,(fS.lt b hb).2⟩
 have lz:some r≠sv.ownBlock:=λe=>by have:=(cD r e.symm).1;omega
 have tw:some tb≠sv.ownBlock:=λe=>by have:=(cD tb e.symm).1;omega
 have key:∀b,some b≠sv.ownBlock->b<w2.heap.size->some b≠some g:=by
  intro b aw bD e;cases e;rcases aV with h|h
  .exact aw h.symm
  .omega
 have lN:∀{ty:TypeId}{sz m:Nat}{u:Value}{ys:List Value},Row (λb=>IB w b/\some b≠sv.ownBlock) wr ty sz u m ys ->
   Row (λb=>IB w b/\some b≠some g) w3 ty sz u m ys:=by
  intro ty sz m u ys hr;have a2:=hr.gb aF (λk hk h=>by cases hk;simp only[IB]at h;omega);have a3:Row (λb=>IB w b/\some b≠sv.ownBlock/\b<w2.heap.size) w2 ty sz u m ys:=a2.mono (λk hk h=>⟨h.1,h.2,hk⟩);have a4:=a3.gb (IS w2 o none) (by simp);have a5:=a4.gb ah (λk hk h=>h.2.1 hk.symm);exact a5.mono (λk _ h=>⟨h.1,key k h.2.1 h.2.2⟩)
 have lM:∀{ty:TypeId}{sz m:Nat}{u:Value}{ys:List Value},Row (IB wr) w2 ty sz u m ys ->
   Row (λb=>IB w b/\some b≠some g) w3 ty sz u m ys:=by
  intro ty sz m u ys hr;have a3:Row (λb=>wr.heap.size<=b/\b<w2.heap.size) w2 ty sz u m ys:=hr.mono (λk hk h=>⟨h,hk⟩);have a4:=a3.gb (IS w2 o none) (by simp);have a5:=a4.gb ah (λk hk h=>by have:=(cD k hk).2;omega);exact a5.mono (λk _ h=>⟨by simp only[IB];omega,key k (λe=>by have:=(cD k e.symm).2;omega) h.2⟩)
 refine⟨(aI.alloc o).gb ah lz tw,?_,nvs++[nv],bvs++[v],by simp[aL],by simp[aC],?_,?_⟩
 .have h1:w.grownBy (w2.alloc o) (some r):=qN (qN hB.gb aF) (IS w2 o _);exact⟨ah.os.trans h1.os,ah.tape.trans h1.tape,ah.output.trans h1.output,yM h1.size ah.size,
   λk hk hr=>(ah.block k (Kl hk h1.size) (λe=>by have:=(cD k e.symm).1;omega)).trans (h1.block k hk hr)⟩
 .rw[zga l nvs bvs x nv v aL.symm aC.symm,IJ];exact ai
 .intro hb;obtain⟨n1,cR⟩:=mf (aQ hb);obtain⟨n2,eY⟩:=aq.rep hb;refine⟨n1+n2,λi a u p ha hu hp=>?_⟩;rcases Qj ha with h1|⟨h1,rfl⟩
  .have hi:i<l.length:=(Dq.1 h1).1;rcases Qj hu with h2|⟨h2,rfl⟩
   .rcases Qj hp with h3|⟨h3,rfl⟩
    .exact⟨lN (cR i a u p h1 h2 h3).1,Jm (λ_ _ _ _ _ hR=>lN hR) _ _ _ ((cR i a u p h1 h2 h3).2.le (TG n1 n2))⟩
    .omega
   .omega
  .rcases Qj hu with h2|⟨h2,rfl⟩
   .rw[R5 (by omega)]at h2;simp at h2
   .rcases Qj hp with h3|⟨h3,rfl⟩
    .rw[R5 (by omega)]at h3;simp at h3
    .exact⟨lM ay,Jm (λ_ _ _ _ _ hR=>lM hR) _ _ _ (eY.le (T6 n2 n1))⟩
variable {w':World}
theorem SL.step{l:List By}(hB:SL w wr r tb T l s1 sv)(bd:r<w.heap.size)(hg:wr.grownBy w' (some r))(hs:RS w' r tb T s2)(hb:s2.bad=none->s1.bad=none):SL w w' r tb T l s2 sv:=by obtain⟨nvs,bvs,h1,iB,h2,h3⟩:=hB.parts;refine⟨hs,qN hB.gb hg,nvs,bvs,h1,iB,h2.kept hg (Qa h2 bd),λaQ=>?_⟩;obtain⟨n,hn⟩:=h3 (hb aQ);exact⟨n,λi a u p x y z=>⟨(hn i a u p x y z).1.gb hg (λk hk h=>by cases hk;simp only[IB]at h;omega),(hn i a u p x y z).2.gb hg (λk hk h=>by cases hk;simp only[IB]at h;omega)⟩⟩
end
section
open Go.RowKit
attribute [local go_sem] zcZ zc0 zc1
def RE (t:Tok):List Value:=[.int .i64 t.k,.string ⟨t.s.toArray⟩,.int .i64 t.at_]
def P5 (l:List Tok):List Value:=l.flatMap RE
theorem zht:∀(l:List Tok)(i:Nat)(t:Tok),l[i]?=some t->(P5 l)[i*3]?=some (.int .i64 t.k)/\(P5 l)[i*3+1]?=some (.string ⟨t.s.toArray⟩)/\(P5 l)[i*3+2]?=some (.int .i64 t.at_)
 |[],i,t,h=>by simp at h
 |x::l,0,t,h=>by simp only[Pk,IA]at h;subst h;exact⟨rfl,rfl,rfl⟩
 |x::l,i+1,t,h=>by
  have ih:=zht l i t (by simpa using h);have e:∀c,(P5 (x::l))[(i+1)*3+c]?=(P5 l)[i*3+c]?:=by intro c;rw[show P5 (x::l)=RE x++P5 l from rfl,Om (by simp[RE];omega)];congr 1;simp[RE];omega
  refine⟨?_,?_,?_⟩
  .have:=e 0;simp only[PU]at this;rw[this];exact ih.1
  .rw[e 1];exact ih.2.1
  .rw[e 2];exact ih.2.2
def Mr (s:ByteArray):List Tok:=Th.ME (s.size+1) s.data.toList 0
def znl:Prop:=∀(s:ByteArray)(w:World),s.size<=600 ->
 Calls prog 66 #[.string s] w λe w'=>∃v,e=.returned v/\w'.ownsRow w.heap.size 135 3 v (Mr s).length (P5 (Mr s))/\Below w.heap.size w w'
variable {w:World}{r tb:Nat}{T:List Tok}{st:St}
theorem RS.failed(h:RS w r tb T st):w.cell? ⟨r,2,none⟩=some (.bool st.bad.isSome)/\(∀p,st.bad=some p->w.cell? ⟨r,3,none⟩=some (.int .i64 p)):=by
 obtain⟨cap,n,f,p,h,rfl⟩:=h;have h2:=h.blk.cell 2;have h3:=h.blk.cell 3;simp at h2 h3;cases f with
 |false=>exact⟨h2,λp hp=>by simp[MN]at hp⟩
 |true=>exact⟨h2,λp hp=>by simp[MN]at hp;rw[h3,hp]⟩
def UO (S:Nat->Prop) (w:World) (pv:Value) (l:List By):Prop:=
 ∃nvs bvs n,nvs.length=l.length/\bvs.length=l.length/\Row S w 93 4 pv l.length (OH l nvs bvs)/\To S w n l nvs bvs
variable {ex:Rd}
theorem zrC(hk:MJ ex){q:By × St}(h:Qs ex st=some q):q.2.bad=none->st.bad=none:=by unfold Qs at h;simp only[JM,IA]at h;obtain⟨r,h1,rfl⟩:=h;exactλhb=>Ss _ (RO _ (MI _ _ (hk _ _ _ h1 (MI _ _ hb))))
def zu3 (w:World) (q:List By × St) (e:Ending) (w':World):Prop:=
 Below w.heap.size w w'/\((∃p,q.2.bad=some p/\e=.returned (.tuple #[.slice none 0 0,.int .i64 p,.bool false])) \/
   (q.2.bad=none/\∃pv,e=.returned (.tuple #[pv,.int .i64 0,.bool true])/\UO (IB w) w' pv q.1))
variable {wr:World}{s1:St}{sv:Value}
theorem zf0{l:List By}{B:Nat}(h:SL w wr r tb T l s1 sv)(hB:B<=r)(hr:r<w.heap.size):Below B w wr:=
 ⟨h.gb.os,h.gb.tape,h.gb.output,h.gb.size,λk hk=>h.gb.block k (by omega) (by simp;omega)⟩
theorem zpJ(hC:znl)(s:ByteArray)(w:World)(hs:s.size<=600)(gJ:Good (Mr s))(aH:Mr s≠[])(n k:Nat)(hn:n<=1000000)(hk:k<=1000000)(q:List By × St)(hq:N7 (Mn n) k [] ⟨Mr s,none⟩=some q):
  Calls prog 41 #[.string s] w λe w'=>zu3 w q e w':=by
 obtain⟨i0,dt,bq,aP,bF⟩:=nC znU;have HI:=eu dt;clear dt;have HZ:=eu (kK bq (kK aP bF));clear bq aP bF;have HQ:=eu hq;have HX:=eu (zs0 n hn);have HG:=eu gJ;generalize hT:Mr s=T at *;have HT:=eu hT;clear hT hq gJ;go_enter func41,ntmps41;go_wp2_with fail;refine(hC s _ hs).mono ?_;rintro e w1⟨v,rfl,af,aA⟩;rw[HT.o]at af;obtain⟨tb,cap,rfl⟩:=zqK af (Qw.2 aH);have tj:=(af.lt tb rfl);have zW:RI (w1.alloc (.cells #[.slice (some ⟨tb,0,none⟩) T.length cap,.int .i64 0,.bool false,.int .i64 0] 132)) w1.heap.size tb cap T 0 false 0:=by
  refine⟨gH w1 [.slice (some ⟨tb,0,none⟩) T.length cap,.int .i64 0,.bool false,.int .i64 0] 132,?_,by omega,Qw.2 aH,HG.o,by simp,?_⟩
  .intro i t ht;have aj:i<T.length:=(Dq.1 ht).1;have hc:=zht T i t ht;have ez:=af.alloc (.cells #[.slice (some ⟨tb,0,none⟩) T.length cap,.int .i64 0,.bool false,.int .i64 0] 132);refine⟨?_,?_,?_⟩
   .rw[ez.cellAt _ (by omega)];exact hc.1
   .rw[ez.cellAt _ (by omega)];exact hc.2.1
   .rw[ez.cellAt _ (by omega)];exact hc.2.2
  .rcases af.2 with⟨h,_⟩|⟨g,c,cur,h,_,_,hle,_⟩
   .cases h
   .cases h;exact hle
 have zT:SL (w1.alloc (.cells #[.slice (some ⟨tb,0,none⟩) T.length cap,.int .i64 0,.bool false,.int .i64 0] 132)) (w1.alloc (.cells #[.slice (some ⟨tb,0,none⟩) T.length cap,.int .i64 0,.bool false,.int .i64 0] 132)) w1.heap.size tb T [] ⟨T,none⟩ (.slice none 0 0):=
  ⟨⟨cap,0,false,0,zW,by simp[MN]⟩,QT _ _,[],[],rfl,rfl,kt _ _ _ _,λ_=>⟨0,λi x nv bv hh _ _=>by simp at hh⟩⟩
 have kB:=eu zT;have aP:=aA.size;have cB:=eu ((aA.trans ((Mi w1 _).mono aP)):Below w.heap.size w (w1.alloc (.cells #[.slice (some ⟨tb,0,none⟩) T.length cap,.int .i64 0,.bool false,.int .i64 0] 132)));clear zW zT af aA;go_wp2_with fail;generalize rL:w1.alloc (.cells #[.slice (some ⟨tb,0,none⟩) T.length cap,.int .i64 0,.bool false,.int .i64 0] 132)=W0 at *;have mI:w1.heap.size<W0.heap.size:=by rw[<-rL];simp
 clear rL
 go_loopg [2] k (λg sv wr=>∃l s1,SL W0 wr w1.heap.size tb T l s1 sv/\l.length+g<=k/\N7 (Mn n) g l s1=some q)
 case atStart=>exact⟨[],_,kB.o,by simp,HQ.o⟩
 case round=>
  obtain⟨l,s1,hL,mO,hp⟩:=hrel;have HL:=eu hL;have aW:=hL.rs;have hf:=aW.failed;have aL:=aW.lt;clear hL;cases gk with
  |zero=>simp[N7]at hp
  |succ gg=>
   rw[N7]at hp;cases dq:s1.bad with
   |some p=>
    rw[dq]at hp hf;simp only[Option.isNone_some,Bool.false_and,Ps,nt,IA]at hp;subst hp;have c2:=hf.1;have c3:=hf.2 p rfl;simp at c2;have qJ:=eu dq;clear hf dq aW;go_wp2_with fail
    go_quiet (fail)
    go_wp2
    go_ret3
    exact⟨below_drewN (cB.o.trans (zf0 HL.o aP mI)) _,.inl ⟨p,qJ.o,rfl⟩⟩
   |none=>
    rw[dq]at hp hf;obtain⟨t,tk,ti,th,tm,tc⟩:=UM aW;have jd:=th dq;have c2:=hf.1;simp at c2;have qJ:=eu dq;have gF:=eu aW;clear hf dq tk ti th tm aW;cases dF:(t.k == 0)
    .have cK:((t.k:Int) == 0)=false:=by simp at dF|-;omega
     have aG:((t.k:Int) != 0)=true:=by simp at dF|-;omega
     rw[jd]at hp;have e0:(t.k != 0)=true:=by simpa using dF
     simp only[JJ,J9,e0,kP,JM]at hp;obtain⟨q2,bC,fB⟩:=hp;have oD:=eu bC;have Cs:=eu fB;clear dF e0 jd bC fB;go_wp2_with fail;refine tc.mono ?_;rintro e w2⟨rfl,aw⟩;have kC:=eu (HL.o.step mI (Bj _ aw) (gF.o.below aw) (λhb=>hb));clear tc aw c2;go_wp2_with fail;refine(zpu HX.o oD.o kC.o.rs).mono ?_;rintro e w3⟨nv,bv,rfl,ay,aq,bP,aS⟩;obtain⟨nvs,bvs,aL,aC,fS,mf⟩:=kC.o.parts;have bR:=aq.one.one;have iM:=row_one ay;have x5:=(fS.kept aS (Qa fS mI)).alloc (.cells #[.string ⟨q2.1.name.s.toArray⟩,.int .i64 q2.1.name.at_,nv,bv] 93);have ym:W0.heap.size<=w3.heap.size:=yM kC.o.gb.size aS.size;have H3:=eu (kK ay (kK aq (kK bP aS)));have HP:=eu (kK aL (kK aC (kK fS mf)));have gV:=Mq ay;have mV:=aq.one.shape;clear ay aq bP aS aL aC fS mf;go_wp2_with (at_builtin;refine wpList_append_lies _ rfl _ _ _ rfl W0.heap.size 93 i0 _ 4 64 underlying60 HI.o HZ.o.1 HZ.o.2.1 HZ.o.2.2 rfl (by omega) _ l.length (OH l nvs bvs) rfl x5 ⟨w3.heap.size,0,none⟩ 1 1 [.string ⟨q2.1.name.s.toArray⟩,.int .i64 q2.1.name.at_,nv,bv] rfl rfl (World.news_of_block (cs:=#[.string ⟨q2.1.name.s.toArray⟩,.int .i64 q2.1.name.at_,nv,bv]) (t:=93) (fr:=(0,0)) (heap_alloc_new w3 _)) (Zv iM bR) (by omega) (by unfold maxLen;omega) (by omega) (by simp;omega) (w3.heap.size+1) (by simp) ?_;intro g cap w4 ai ah aV aj)
     go_roundg gg
     case measure=>omega
     case rel=>exact⟨l++[q2.1],q2.2,kC.o.add HP.o.1 HP.o.2.1 HP.o.2.2.1 HP.o.2.2.2 mI (by omega) H3.o.1 H3.o.2.1 H3.o.2.2.1 H3.o.2.2.2 ai ah aV (zrC (Ux n) oD.o),by simp;omega,Cs.o⟩
    .have cK:((t.k:Int) == 0)=true:=by simp at dF|-;omega
     have aG:((t.k:Int) != 0)=false:=by simp at dF|-;omega
     rw[jd]at hp;have e0:(t.k != 0)=false:=by simpa using dF
     simp only[JJ,J9,e0,Ps,nt,IA]at hp;subst hp;clear dF e0 jd;go_wp2_with fail;refine tc.mono ?_;rintro e w2⟨rfl,aw⟩;have kC:=eu (HL.o.step mI (Bj _ aw) (gF.o.below aw) (λhb=>hb));have zs:=kC.o.rs.failed.1;rw[qJ.o]at zs;simp at zs;clear tc aw c2;go_wp2
     go_ret3
     refine⟨cB.o.trans (zf0 kC.o aP mI),.inr ⟨qJ.o,u2,rfl,?_⟩⟩;obtain⟨nvs,bvs,aL,aC,fS,mf⟩:=kC.o.parts;obtain⟨m,hm⟩:=mf qJ.o;have kk:w.heap.size<=W0.heap.size:=by omega
     refine⟨nvs,bvs,m,aL,aC,(lP fS).mono (λk _ hk=>yM kk hk),λi x nv bv a b c=>?_⟩;have:=hm i x nv bv a b c;exact⟨this.1.mono (λk _ hk=>yM kk hk.1),this.2.mono (λk _ hk=>yM kk hk.1)⟩
end
section
open Go.RowKit Go.Shelf
attribute [local go_sem] Oper.semAt_some
theorem zwG{t:List UInt8}(h:t≠[]):1<=(Th.word t).2.length:=by have:0<t.length:=Qw.2 h;unfold Th.word;split<;>exact this
theorem zw0{q:UInt8->Bool}{c:UInt8}{r:List UInt8}(h:q c=true):(c::r).takeWhile q≠[]:=by simp[h]
theorem Xb(t:List UInt8)(h:2<=(Th.first t).1):1<=(Th.first t).2.length:=by
 cases t with
 |nil=>simp[Th.first]at h
 |cons c r=>
  simp only[Th.first]at h|-;split
  .next hc=>exact zwG (zw0 (by simp[MY,hc]))
  .split
   .next hc hd=>
    rw[pL hc,nB hd]at h;have hp:=zw0 (q:=Mg) (r:=r) hd;have:0<((c::r).takeWhile Mg).length:=Qw.2 hp;unfold Pj at h|-;split
    .next h9=>rw[nB h9]at h;simp at h
    .exact this
   .split
    .next hc hd hs=>rw[pL hc,pL hd,nB hs]at h;simp at h
    .next hs=>have:=zlP (c::r);simp only[NQ];omega
theorem zvx(t:List UInt8):(Th.first t).2.length<=t.length:=by
 cases t with
 |nil=>simp[Th.first]
 |cons c r=>
  simp only[Th.first];split
  .have:=Xz MY (c::r);unfold Th.word;split<;>exact this
  .split
   .have:=Xz Mg (c::r);unfold Pj;split
    .simp
    .exact this
   .split
    .simp
    .simp only[NQ];omega
theorem zoN(f:Nat)(t:List UInt8)(p:Nat):Th.ME (f+1) t p=⟨(Th.first (t.drop (t.takeWhile Mh).length)).1,(Th.first (t.drop (t.takeWhile Mh).length)).2,p+(t.takeWhile Mh).length⟩ ::
  (if(Th.first (t.drop (t.takeWhile Mh).length)).1<=1 then[]else Th.ME f ((t.drop (t.takeWhile Mh).length).drop (Th.first (t.drop (t.takeWhile Mh).length)).2.length) (p+(t.takeWhile Mh).length+(Th.first (t.drop (t.takeWhile Mh).length)).2.length)):=rfl
def Xu (t:Tok):Value:=.agg #[.int .i64 t.k,.string ⟨t.s.toArray⟩,.int .i64 t.at_]
def TJ (n₀ Bn:Nat) (A B:World):Prop:=Below n₀ A B/\B.heap[Bn]?=A.heap[Bn]?/\∀(b:Nat)(cs:Array Value),A.heap[b]?=some (.cells cs 135 (0,0))->cs.size=3->B.heap[b]?=some (.cells cs 135 (0,0))
theorem zqr(s:ByteArray)(p:Nat):(s.extract p s.size).data.toList=s.data.toList.drop p:=by rw[Lib.extract_data,N8];simp
theorem zpa{J:List Tok->World->Prop}{B:Nat}(hJ:AbidesFrom B J){pre:List Tok}{A C:World}(h:J pre A)(hb:Below A.heap.size A C):J pre C:=
 hJ pre A C none h (Bj none hb) (by simp)
theorem zsc(n:Nat)(hn:1<=n)(l Bn n₀:Nat)(s:ByteArray)(hs:s.size<=600)(J Jx:List Tok->World->Prop)(hY:∀pre x W,J pre W->pre.length<(Mr s).length->YieldAt Fence.wide (n-1) prog l #[Xu x] W λe W'=>
   (e=.returned (.bool true)/\J (pre++[x]) W'/\TJ n₀ Bn W W')\/(e=.returned (.bool false)/\Jx (pre++[x]) W'))(W:World)(hn₀:n₀<=W.heap.size)(hJ:AbidesFrom W.heap.size J)(DT:W.cell? ⟨Bn,0,none⟩=some (.string s))(h0:J [] W):
  CallsIn Fence.wide n prog 187 #[.func (.yield l) #[] #[],.pointer (some ⟨Bn,0,none⟩)] W λe W'=>(∃v,e=.returned v) /\
   ((∃ys,ys=Mr s/\J ys W')\/(∃pre,pre <+: Mr s/\Jx pre W')):=by
 have HY:=eu hY;have HJ:=eu hJ;clear hY hJ;refine Jg func187 rfl trivial ?_ rfl;simp only[ntmps187,O3,Kh,My,Nat.reduceAdd,Nat.reduceSub,QX,QY,Q0,QZ,MQ,MP]
 gi_wp2
 gi_loopw [3] (λi wr=>∃(pre:List Tok)(p f:Nat),i=.int .i64 p/\p<=s.size/\s.size-p<=f/\Hid (Mr s=pre++Th.ME (f+1) (s.data.toList.drop p) p)/\wr.cell? ⟨Bn,0,none⟩=some (.string s)/\n₀<=wr.heap.size/\Hid (Below n₀ W wr)/\Hid (J pre wr))
  (λi _=>s.size+1-(intOf i).toNat)
 case atStart=>exact⟨[],0,s.size,rfl,Kc _,by omega,eu (by simp[Mr]),DT,hn₀,eu (Below.refl _ _),eu h0⟩
 case round=>
  obtain⟨pre,p,f,rfl,hp,hf,hT,hB,hz,zF,zM⟩:=hrel;obtain⟨b,hb⟩:∃b,((s.data.toList.drop p).takeWhile Mh).length=b:=⟨_,rfl⟩;have cV:b<=s.size-p:=by have:=Xz Mh (s.data.toList.drop p);rw[hb]at this;simpa using this
  obtain⟨a,ha⟩:∃a,p+b=a:=⟨_,rfl⟩;have aU:a<=s.size:=by omega
  have js:p<=a:=by omega
  obtain⟨⟨k,t⟩,jI⟩:∃x,Th.first (s.data.toList.drop a)=x:=⟨_,rfl⟩
  have cu:=zvx (s.data.toList.drop a);rw[jI]at cu;simp only[Oo]at cu;have Fe:t.length<=s.size-a:=by simpa using cu
  have gl:Hid (Mr s=pre++⟨k,t,a⟩::(if k<=1 then[]else Th.ME f (s.data.toList.drop (a+t.length)) (a+t.length))):=eu (by have e:=hT.o;rw[zoN,hb,List.drop_drop,ha,jI]at e;simp only[List.drop_drop]at e;exact e)
  have bp:Hid (2<=k->1<=t.length):=eu (λh=>by have:=Xb (s.data.toList.drop a) (by rw[jI];exact h);rw[jI]at this;exact this);have Ha:=eu ha;clear ha;have Hb:=eu hb;have Dg:=eu jI;clear hb jI cu hT
  gi_wp2
  refine⟨trivial,?_⟩;refine(callsIn_wide.2 (ZY (.inl rfl) zgo zyj zw8 zw9 _ _)).mono ?_;rintro e w1⟨rfl,pos,aD⟩;rw[zqr,Hb.o];have aA:Below wr.heap.size wr w1:=by rw[aD];exact Mi _ _
  have zL:=eu (zpa HJ.o zM.o aA);have ry:=eu (zF.o.trans (aA.mono hz));have cU:w1.cell? ⟨Bn,0,none⟩=some (.string s):=(aA.cell (p:=⟨Bn,0,none⟩) (Tp hB)).trans hB;have aP:n₀<=w1.heap.size:=yM hz aA.size;clear aA aD hB zM zF hz
  gi_wp2
  refine⟨trivial,?_⟩;rw[show((p:Int)+(b:Int))=(a:Int) by have:=Ha.o;omega,show p+b=a from Ha.o];refine(callsIn_wide.2 (zs7 _ _ (by rw[ByteArray.size_extract];omega))).mono ?_;rintro e w2⟨rfl,aw⟩;rw[zqr,Dg.o];have wR:=eu (zpa HJ.o (zpa HJ.o zL.o aw) (Mi w2 (.cells #[.int .i64 k,.string ⟨t.toArray⟩,.int .i64 (a:Int)] 135)));have oM:=eu ((ry.o.trans (aw.mono aP)).trans ((Mi w2 (.cells #[.int .i64 k,.string ⟨t.toArray⟩,.int .i64 (a:Int)] 135)).mono (yM aP aw.size)));have jh:w2.cell? ⟨Bn,0,none⟩=some (.string s):=(aw.cell (p:=⟨Bn,0,none⟩) (Tp cU)).trans cU;have bF:n₀<=w2.heap.size:=yM aP aw.size;have hlen:pre.length<(Mr s).length:=by rw[gl.o];simp
  obtain⟨fn,tmps,assign,body,hy,hR⟩:=HY.o pre ⟨k,t,a⟩ _ wR.o hlen;have HR:=eu hR;simp only[Xu]at hy;clear hR aw cU zL ry
  gi_wp2
  refine HR.o.mono ?_;rintro e w3(⟨rfl,gP,dG⟩|⟨rfl,rD⟩)
  .have wP:oH w3 w2.heap.size [.int .i64 k,.string ⟨t.toArray⟩,.int .i64 a] 135:=dG.2.2 _ _ (heap_alloc_new w2 _) rfl;have c0:=wP.cell 0;have c1:=wP.cell 1;simp at c0 c1;have ia:w3.cell? ⟨Bn,0,none⟩=some (.string s):=(kI (a:=⟨Bn,0,none⟩) dG.2.1).trans ((((Mi w2 (.cells #[.int .i64 k,.string ⟨t.toArray⟩,.int .i64 (a:Int)] 135)).cell (p:=⟨Bn,0,none⟩) (Tp jh))).trans jh);have ym:n₀<=w3.heap.size:=by have:=dG.1.size;simp at this;omega
   have wO:=eu (oM.o.trans dG.1);have iu:=eu gP;clear wP dG gP hy HR wR oM jh bF;by_cases dF:k=0
   .have rK:Hid (Mr s=pre++[⟨k,t,a⟩]):=eu (by have e:=gl.o;rw[Ji]at e;exact e);have xC:((k:Int) == 0)=true:=by simp;omega
    have HK:=eu dF;clear dF
    gi_wp2
    refine Ju rfl rfl ?_;exact⟨⟨_,rfl⟩,.inl ⟨_,rK.o.symm,iu.o⟩⟩
   .have xC:((k:Int) == 0)=false:=by simp;omega
    by_cases cK:k=1
    .have rK:Hid (Mr s=pre++[⟨k,t,a⟩]):=eu (by have e:=gl.o;rw[Ji]at e;exact e);have xD:((k:Int) == 1)=true:=by simp;omega
     clear dF cK
     gi_wp2
     refine Ju rfl rfl ?_;exact⟨⟨_,rfl⟩,.inl ⟨_,rK.o.symm,iu.o⟩⟩
    .have xD:((k:Int) == 1)=false:=by simp;omega
     have rK:Hid (Mr s=(pre++[⟨k,t,a⟩])++Th.ME f (s.data.toList.drop (a+t.length)) (a+t.length)):=eu (by have e:=gl.o;rw[qj]at e;rw[e];simp);have sN:=bp.o (by omega);clear dF cK
     gi_wp2
     go_roundw
     case rel=>
      cases f with
      |zero=>omega
      |succ f=>
       refine⟨pre++[⟨k,t,a⟩],a+t.length,f,?_,by omega,by omega,rK,ia,ym,wO,iu⟩
       first|rfl|(congr 1;simp;omega)|go_num
     case measure=>simp[intOf];omega
  .have Ci:=eu rD;clear rD hy HR wR oM jh
   gi_wp2
   refine Ju rfl rfl ?_;refine⟨⟨_,rfl⟩,.inr ⟨pre++[⟨k,t,a⟩],?_,Ci.o⟩⟩;rw[gl.o];exact⟨_,by simp;rfl⟩
end
end Go.Proofs.YtgahgkddaljmkaaGreatDoor
