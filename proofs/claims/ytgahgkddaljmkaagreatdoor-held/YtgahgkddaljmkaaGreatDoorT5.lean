/- Par6 .. Prog2 -/
import Derived.Test.YtgahgkddaljmkaaGreatDoorT4
import Derived.Deep.AppendLies
import Derived.Deep.DeepCutAuto
set_option maxRecDepth 100000
set_option maxHeartbeats 4000000
namespace Go.Proofs.YtgahgkddaljmkaaGreatDoor
open Tryz
open Go.RowKit
variable {ex:Th.Rd}{w:World}{r tb:Nat}{T:List Th.Tok}{st:Th.St}{q:Th.Ex × Th.St}
theorem zsI(hx:zso ex)(hq:ex true (Th.want [61] (Th.zaL st).2)=some q)(h:RS w r tb T st):
  Calls prog 249 #[.pointer (some ⟨r,0,none⟩)] w fun en w'=>
   ∃ v,en=.returned (.agg #[.string ⟨(Th.zaL st).1.s.toArray⟩,.int .i64 (Th.zaL st).1.at_,v])/\Got (zat w) w' v q.1 q.2/\RS w' r tb T q.2/\w.grownBy w' (some r):=by
 have bd:=h.lt;have cu:=h.tlt;have HQ:=zab hq;have h0:=h.alloc (.cells #[.string ⟨#[]⟩,.int .i64 0,.nilIface] 312);have BR:=zab (Blk.new w [.string ⟨#[]⟩,.int .i64 0,.nilIface] 312);have eQ:=zab (zag w (.cells #[.string ⟨#[]⟩,.int .i64 0,.nilIface] 312) (some r));clear hq h;go_enter func249,ntmps249
 go_wp2_with fail
 refine (zg4 h0).mono ?_;rintro e w1 ⟨rfl,aW,bw⟩;obtain ⟨⟨x,s1⟩,tG⟩:∃ y,Th.zaL st=y:=⟨_,rfl⟩;rw[tG]at aW HQ ⊢;have gF:=zab (aW.alloc (.cells #[.string ⟨x.s.toArray⟩,.int .i64 x.at_,.nilIface] 312));have gY:=zab (zad (zad eQ.o bw) (zag w1 (.cells #[.string ⟨x.s.toArray⟩,.int .i64 x.at_,.nilIface] 312) (some r)));have aP:w.heap.size<w1.heap.size:=by have:=bw.size;simp at this;omega
 have B1:=zab (Blk.new w1 [.string ⟨x.s.toArray⟩,.int .i64 x.at_,.nilIface] 312);have om:=zab ((BR.o.grown bw (by simp;omega)).alloc (.cells #[.string ⟨x.s.toArray⟩,.int .i64 x.at_,.nilIface] 312));have Dj:=zab tG;clear h0 aW bw tG;go_wp2_with fail
 refine (zaX gF.o ⟨#[61]⟩ (by simp)).mono ?_;rintro e w2 ⟨rfl,aI,aF⟩;have eK:=zab (zad gY.o aF);have B2:=zab (B1.o.grown aF (by simp;omega));have vh:=zab (om.o.grown aF (by simp;omega));clear aF;go_wp2_with fail
 refine (hx _ _ _ _ _ _ _ HQ.o aI).mono ?_;rintro e w3 ⟨v,rfl,aq,bP,aS⟩;have B3:=B2.o.grown aS (by simp;omega);have km:=vh.o.grown aS (by simp;omega);have c0:=B3.cell 0;have c1:=B3.cell 1;have c2:=B3.cell 2;have f2:=B3.frozen 2;have d0:=km.cell 0;have d1:=km.cell 1;have d2:=km.cell 2;have g0:=km.frozen 0;have g1:=km.frozen 1;have g2:=km.frozen 2;simp at c0 c1 c2 d0 d1 d2;have gC:=zab (zad eK.o aS);have aL:=B3.lt;have mw:=zab B3;have BE:=zab km;have fG:=zab bP;have ho:=aq.one;have cj:=zab (aq.mono (S':=fun b=>zat w b/\b≠w1.heap.size/\b≠w.heap.size) (fun k _ hk=>by
  have h1:=eK.o.size;have h2:=B2.o.lt;simp only[zat]at hk ⊢;omega))
 have B4:=zab (((((km.other ⟨w1.heap.size,2,none⟩ v (by simp;omega)).set 0 (.string ⟨x.s.toArray⟩)).set 1 (.int .i64 x.at_)).set 2 v));have cE:=zab (And.intro
  ((((((cj.o.gb (zaT w3 w1.heap.size 2 v) (by simp)).gb (zaT _ w.heap.size 0 (.string ⟨x.s.toArray⟩)) (by simp)).gb (zaT _ w.heap.size 1 (.int .i64 x.at_)) (by simp)).gb (zaT _ w.heap.size 2 v) (by simp))).mono (S':=zat w) (fun k _ hk=>hk.1))
  (And.intro ((((fG.o.set w1.heap.size 2 v (by omega) (by omega)).set w.heap.size 0 (.string ⟨x.s.toArray⟩) (by omega) (by omega)).set w.heap.size 1 (.int .i64 x.at_) (by omega) (by omega)).set w.heap.size 2 v (by omega) (by omega))
   (zap (zap (zap (zap gC.o ⟨w1.heap.size,2,none⟩ v (zAk aP)) ⟨w.heap.size,0,none⟩ (.string ⟨x.s.toArray⟩) (zyN _)) ⟨w.heap.size,1,none⟩ (.int .i64 x.at_) (zyN _)) ⟨w.heap.size,2,none⟩ v (zyN _))))
 clear aI aS B3 km bP aq cj;rcases ho.shape with rfl|⟨t1,x1,rfl⟩
 all_goals
  clear ho;go_wp2_with fail
  have p0:=B4.o.cell 0;have p1:=B4.o.cell 1;have p2:=B4.o.cell 2;simp at p0 p1 p2;refine bodyPost_ret (by simp[results,Tryz.results249,go_sem,p0,p1,p2];rfl) rfl ⟨_,by rw[Dj.o],cE.o⟩
variable {size n:Nat}{v:Value}{xs:List Value}
theorem zan{S:Nat->Prop}{e:TypeId}(h:Row S w e size v n xs):v=.slice none 0 0\/∃ g cap,v=.slice (some ⟨g,0,none⟩) n cap:=by
 rcases h.1.2 with ⟨h,_⟩|⟨g,cap,cur,h,_⟩
 ·exact .inl h
 ·exact .inr ⟨g,cap,h⟩
variable {nv:Value}{s:Th.St}{vs:List Value}{l:List Th.Tok}
theorem zw7{w7:World}{b1:Nat}{x:Th.Ex}(tg:Nat)(hb:Blk w7 w.heap.size [.int .i64 0,.slice none 0 0,.nilIface] 240)(hr:Row (fun b=>zat w b/\b≠b1/\b≠w.heap.size) w7 88 2 nv l.length vs)(hg:Got (fun b=>zat w b/\b≠b1/\b≠w.heap.size) w7 v x s)(hs:RS w7 r tb T s)(hG:w.grownBy w7 (some r))(hz:w.heap.size<b1)(bd:r<w.heap.size)(cu:tb<w.heap.size):
  Blk ((((w7.setCell ⟨b1,2,none⟩ v).setCell ⟨w.heap.size,0,none⟩ (.int .i64 tg)).setCell ⟨w.heap.size,1,none⟩ nv).setCell ⟨w.heap.size,2,none⟩ v) w.heap.size [.int .i64 tg,nv,v] 240 /\
  Row (zat w) ((((w7.setCell ⟨b1,2,none⟩ v).setCell ⟨w.heap.size,0,none⟩ (.int .i64 tg)).setCell ⟨w.heap.size,1,none⟩ nv).setCell ⟨w.heap.size,2,none⟩ v) 88 2 nv l.length vs /\
  Got (zat w) ((((w7.setCell ⟨b1,2,none⟩ v).setCell ⟨w.heap.size,0,none⟩ (.int .i64 tg)).setCell ⟨w.heap.size,1,none⟩ nv).setCell ⟨w.heap.size,2,none⟩ v) v x s /\
  RS ((((w7.setCell ⟨b1,2,none⟩ v).setCell ⟨w.heap.size,0,none⟩ (.int .i64 tg)).setCell ⟨w.heap.size,1,none⟩ nv).setCell ⟨w.heap.size,2,none⟩ v) r tb T s /\
  w.grownBy ((((w7.setCell ⟨b1,2,none⟩ v).setCell ⟨w.heap.size,0,none⟩ (.int .i64 tg)).setCell ⟨w.heap.size,1,none⟩ nv).setCell ⟨w.heap.size,2,none⟩ v) (some r):=by
 refine ⟨?_,?_,?_,?_,?_⟩
 ·exact (((hb.other ⟨b1,2,none⟩ v (by simp;omega)).set 0 (.int .i64 tg)).set 1 nv).set 2 v
 ·exact ((((hr.gb (zaT _ _ _ _) (by simp)).gb (zaT _ _ _ _) (by simp)).gb (zaT _ _ _ _) (by simp)).gb (zaT _ _ _ _) (by simp)).mono (fun k _ hk=>hk.1)
 ·exact ((((hg.gb (zaT _ _ _ _) (by simp)).gb (zaT _ _ _ _) (by simp)).gb (zaT _ _ _ _) (by simp)).gb (zaT _ _ _ _) (by simp)).mono (fun k _ hk=>hk.1)
 ·exact (((hs.set _ _ _ (by omega) (by omega)).set _ _ _ (by omega) (by omega)).set _ _ _ (by omega) (by omega)).set _ _ _ (by omega) (by omega)
 ·exact zap (zap (zap (zap hG _ _ (zAk hz)) _ _ (zyN _)) _ _ (zyN _)) _ _ (zyN _)
variable {c:Bool}
theorem zwN(hx:zso ex){q:(Nat × List Th.Tok) × Th.Ex × Th.St}(hq:Th.ztN ex c st=some q)(h:RS w r tb T st):
  Calls prog 250 #[.pointer (some ⟨r,0,none⟩),.bool c] w fun en w'=>
   ∃ nv v,en=.returned (.agg #[.int .i64 q.1.1,nv,v])/\Row (zat w) w' 88 2 nv q.1.2.length (zaj q.1.2)/\Got (zat w) w' v q.2.1 q.2.2/\RS w' r tb T q.2.2/\w.grownBy w' (some r):=by
 have bd:=h.lt;have cu:=h.tlt;unfold Th.ztN at hq;simp only[zyQ,zyP]at hq;obtain ⟨q1,cF,rfl⟩:=hq;generalize mg:Th.zaB 1 99 (Th.want [60] st)=tg at cF ⊢;generalize da:Th.zax (Th.want [62] tg.2)=ln at cF ⊢;have HQ:=zab cF;have vV:=zab mg;have kB:=zab da;have h0:=h.alloc (.cells #[.int .i64 0,.slice none 0 0,.nilIface] 240);have BR:=zab (Blk.new w [.int .i64 0,.slice none 0 0,.nilIface] 240);have eQ:=zab (zag w (.cells #[.int .i64 0,.slice none 0 0,.nilIface] 240) (some r));clear cF h mg da;go_enter func250,ntmps250
 go_wp2_with fail
 refine (zaX h0 ⟨#[60]⟩ (by simp)).mono ?_;rintro e w1 ⟨rfl,aW,bw⟩;have gY:=zab (zad eQ.o bw);have om:=zab (BR.o.grown bw (by simp;omega));clear h0 bw;go_wp2_with fail
 refine (zuF aW).mono ?_;rintro e w2 ⟨rfl,aI,aF⟩;rw[show Th.zaB 1 99 (Th.want (ByteArray.mk #[60]).data.toList st)=tg from vV.o]at aI ⊢;have bF:w.heap.size<w2.heap.size:=by have h1:=om.o.lt;have h2:=aF.size;omega
 have eK:=zab (zad (zad gY.o aF) (zag w2 (.cells #[.int .i64 tg.1,.slice none 0 0,.nilIface] 240) (some r)));have vh:=zab ((om.o.grown aF (by simp;omega)).alloc (.cells #[.int .i64 tg.1,.slice none 0 0,.nilIface] 240));have B2:=zab (Blk.new w2 [.int .i64 tg.1,.slice none 0 0,.nilIface] 240);have eS:=zab (aI.alloc (.cells #[.int .i64 tg.1,.slice none 0 0,.nilIface] 240));clear aW aI aF;go_wp2_with fail
 refine (zaX eS.o ⟨#[62]⟩ (by simp)).mono ?_;rintro e w3 ⟨rfl,bP,aS⟩;have gC:=zab (zad eK.o aS);have km:=zab (vh.o.grown aS (by simp;omega));have B3:=zab (B2.o.grown aS (by simp;omega));clear aS;go_wp2_with fail
 refine (zn3 bP).mono ?_;rintro e w4 ⟨nv,rfl,af,bV,bM⟩;rw[show Th.zax (Th.want (ByteArray.mk #[62]).data.toList tg.2)=ln from kB.o]at af bV;have ym:=gC.o.size;have bD:=B3.o.lt;have hR:Row (fun b=>zat w b/\b≠w2.heap.size/\b≠w.heap.size) w4 88 2 nv ln.1.length (zaj ln.1):=(Row.zaE af).mono (fun k _ hk=>by simp only[zat];omega);have gZ:=zab (zad gC.o bM);have tV:=km.o.grown bM (by simp;omega);have B4:=B3.o.grown bM (by simp;omega);have c1:=B4.cell 1;have f1:=B4.frozen 1;simp at c1;have xF:=B4.lt;have Bk:=zab (tV.other ⟨w2.heap.size,1,none⟩ nv (by simp;omega));have B5:=zab (B4.set 1 nv);have oF:=zab (bV.set w2.heap.size 1 nv (by omega) (by omega));have lS:=zab (zap gZ.o ⟨w2.heap.size,1,none⟩ nv (zAk bF));have Cz:=zab (hR.gb (zaT w4 w2.heap.size 1 nv) (by simp));have gV:=zan hR;clear bP bV bM af hR tV B4;rcases gV with rfl|⟨gn,wu,rfl⟩
 all_goals
  go_wp2_with fail
  refine (zaX oF.o ⟨#[45,62]⟩ (by simp)).mono ?_;rintro e w6 ⟨rfl,jL,fk⟩;have kb:=zab (zad lS.o fk);have vj:=zab (Bk.o.grown fk (by simp;omega));have B6:=zab (B5.o.grown fk (by simp;omega));have vS:=zab (Cz.o.gb fk (fun k hk=>by cases hk;simp only[zat];omega));clear fk c1 f1;go_wp2_with fail
  refine (hx _ _ _ _ _ _ _ HQ.o jL).mono ?_;rintro e w7 ⟨v,rfl,aq,s7,kW⟩;have ko:=vj.o.grown kW (by simp;omega);have B7:=B6.o.grown kW (by simp;omega);have c0:=B7.cell 0;have c1:=B7.cell 1;have c2:=B7.cell 2;have f2:=B7.frozen 2;have d0:=ko.cell 0;have d1:=ko.cell 1;have d2:=ko.cell 2;have g0:=ko.frozen 0;have g1:=ko.frozen 1;have g2:=ko.frozen 2;simp at c0 c1 c2 d0 d1 d2;have qv:=zab (zad kb.o kW);have vT:=zab (vS.o.gb kW (fun k hk=>by cases hk;simp only[zat];omega));have EO:=B7.lt;have cj:=zab (aq.mono (S':=fun b=>zat w b/\b≠w2.heap.size/\b≠w.heap.size) (fun k _ hk=>by
   have h1:=kb.o.size;have h2:=B6.o.lt;simp only[zat]at hk ⊢;omega))
  have ho:=aq.one;have v8:=zab s7;have yN:=zab B7;have ov:=zab ko;clear jL kW aq s7 B7 ko;rcases ho.shape with rfl|⟨t1,x1,rfl⟩
  all_goals
   clear ho;have cE:=zab (zw7 tg.1 ov.o vT.o cj.o v8.o qv.o bF bd cu);go_wp2_with fail
   have p0:=cE.o.1.cell 0;have p1:=cE.o.1.cell 1;have p2:=cE.o.1.cell 2;simp at p0 p1 p2;refine bodyPost_ret (by simp[results,Tryz.results250,go_sem,p0,p1,p2]) rfl ⟨_,_,rfl,cE.o.2⟩
theorem zvQ{w7:World}{b1:Nat}{x:Th.Ex}{t:TypeId}(nm:ByteArray)(at_:Int)(hb:Blk w7 w.heap.size [.string ⟨#[]⟩,.int .i64 0,.slice none 0 0,.nilIface] t)(hr:Row (fun b=>zat w b/\b≠b1/\b≠w.heap.size) w7 88 2 nv l.length vs)(hg:Got (fun b=>zat w b/\b≠b1/\b≠w.heap.size) w7 v x s)(hs:RS w7 r tb T s)(hG:w.grownBy w7 (some r))(bd:r<w.heap.size)(cu:tb<w.heap.size):
  Blk ((((w7.setCell ⟨w.heap.size,0,none⟩ (.string nm)).setCell ⟨w.heap.size,1,none⟩ (.int .i64 at_)).setCell ⟨w.heap.size,2,none⟩ nv).setCell ⟨w.heap.size,3,none⟩ v) w.heap.size [.string nm,.int .i64 at_,nv,v] t /\
  Row (zat w) ((((w7.setCell ⟨w.heap.size,0,none⟩ (.string nm)).setCell ⟨w.heap.size,1,none⟩ (.int .i64 at_)).setCell ⟨w.heap.size,2,none⟩ nv).setCell ⟨w.heap.size,3,none⟩ v) 88 2 nv l.length vs /\
  Got (zat w) ((((w7.setCell ⟨w.heap.size,0,none⟩ (.string nm)).setCell ⟨w.heap.size,1,none⟩ (.int .i64 at_)).setCell ⟨w.heap.size,2,none⟩ nv).setCell ⟨w.heap.size,3,none⟩ v) v x s /\
  RS ((((w7.setCell ⟨w.heap.size,0,none⟩ (.string nm)).setCell ⟨w.heap.size,1,none⟩ (.int .i64 at_)).setCell ⟨w.heap.size,2,none⟩ nv).setCell ⟨w.heap.size,3,none⟩ v) r tb T s /\
  w.grownBy ((((w7.setCell ⟨w.heap.size,0,none⟩ (.string nm)).setCell ⟨w.heap.size,1,none⟩ (.int .i64 at_)).setCell ⟨w.heap.size,2,none⟩ nv).setCell ⟨w.heap.size,3,none⟩ v) (some r):=by
 refine ⟨?_,?_,?_,?_,?_⟩
 ·exact (((hb.set 0 (.string nm)).set 1 (.int .i64 at_)).set 2 nv).set 3 v
 ·exact ((((hr.gb (zaT _ _ _ _) (by simp)).gb (zaT _ _ _ _) (by simp)).gb (zaT _ _ _ _) (by simp)).gb (zaT _ _ _ _) (by simp)).mono (fun k _ hk=>hk.1)
 ·exact ((((hg.gb (zaT _ _ _ _) (by simp)).gb (zaT _ _ _ _) (by simp)).gb (zaT _ _ _ _) (by simp)).gb (zaT _ _ _ _) (by simp)).mono (fun k _ hk=>hk.1)
 ·exact (((hs.set _ _ _ (by omega) (by omega)).set _ _ _ (by omega) (by omega)).set _ _ _ (by omega) (by omega)).set _ _ _ (by omega) (by omega)
 ·exact zap (zap (zap (zap hG _ _ (zyN _)) _ _ (zyN _)) _ _ (zyN _)) _ _ (zyN _)
theorem zpu(hx:zso ex){q:Th.zbr × Th.St}(hq:Th.zmE ex st=some q)(h:RS w r tb T st):
  Calls prog 68 #[.pointer (some ⟨r,0,none⟩)] w fun en w'=>
   ∃ nv v,en=.returned (.agg #[.string ⟨q.1.name.s.toArray⟩,.int .i64 q.1.name.at_,nv,v])/\Row (zat w) w' 88 2 nv q.1.params.length (zaj q.1.params)/\Got (zat w) w' v q.1.e q.2/\RS w' r tb T q.2/\w.grownBy w' (some r):=by
 have bd:=h.lt;have cu:=h.tlt;unfold Th.zmE at hq;simp only[zyQ,zyP]at hq;obtain ⟨q1,cF,rfl⟩:=hq;generalize mg:Th.zaL st=tg at cF ⊢;generalize da:Th.zax tg.2=ln at cF ⊢;have HQ:=zab cF;have vV:=zab mg;have kB:=zab da;have h0:=h.alloc (.cells #[.string ⟨#[]⟩,.int .i64 0,.slice none 0 0,.nilIface] 93);have BR:=zab (Blk.new w [.string ⟨#[]⟩,.int .i64 0,.slice none 0 0,.nilIface] 93);have eQ:=zab (zag w (.cells #[.string ⟨#[]⟩,.int .i64 0,.slice none 0 0,.nilIface] 93) (some r));clear cF h mg da;go_enter func68,ntmps68
 go_wp2_with fail
 refine (zg4 h0).mono ?_;rintro e w1 ⟨rfl,aW,bw⟩;rw[vV.o]at aW ⊢;have gY:=zab (zad eQ.o bw);have om:=zab (BR.o.grown bw (by simp;omega));clear h0 bw;go_wp2_with fail
 refine (zn3 aW).mono ?_;rintro e w4 ⟨nv,rfl,af,bV,bM⟩;rw[kB.o]at af bV;have aP:=om.o.lt;have GQ:=bM.size;have hR:Row (fun b=>zat w b/\b≠w4.heap.size/\b≠w.heap.size) w4 88 2 nv ln.1.length (zaj ln.1):=(Row.zaE af).mono (fun k cK hk=>by simp only[zat];omega);have gZ:=zab (zad (zad gY.o bM) (zag w4 (.cells #[.string ⟨tg.1.s.toArray⟩,.int .i64 tg.1.at_,nv,.nilIface] 93) (some r)));have tV:=zab ((om.o.grown bM (by simp;omega)).alloc (.cells #[.string ⟨tg.1.s.toArray⟩,.int .i64 tg.1.at_,nv,.nilIface] 93));have B4:=zab (Blk.new w4 [.string ⟨tg.1.s.toArray⟩,.int .i64 tg.1.at_,nv,.nilIface] 93);have gh:=zab (bV.alloc (.cells #[.string ⟨tg.1.s.toArray⟩,.int .i64 tg.1.at_,nv,.nilIface] 93));have vR:=zab (hR.gb (zag w4 (.cells #[.string ⟨tg.1.s.toArray⟩,.int .i64 tg.1.at_,nv,.nilIface] 93) none) (by simp));have gV:=zan hR;clear aW bV bM af hR;rcases gV with rfl|⟨gn,wu,rfl⟩
 all_goals
  go_wp2_with fail
  refine (zaX gh.o ⟨#[61]⟩ (by simp)).mono ?_;rintro e w6 ⟨rfl,jL,fk⟩;have kb:=zab (zad gZ.o fk);have vj:=zab (tV.o.grown fk (by simp;omega));have B6:=zab (B4.o.grown fk (by simp;omega));have vS:=zab (vR.o.gb fk (fun k hk=>by cases hk;simp only[zat];omega));clear fk;go_wp2_with fail
  refine (hx _ _ _ _ _ _ _ HQ.o jL).mono ?_;rintro e w7 ⟨v,rfl,aq,s7,kW⟩;have ko:=vj.o.grown kW (by simp;omega);have B7:=B6.o.grown kW (by simp;omega);have c3:=B7.cell 3;have f3:=B7.frozen 3;simp at c3;have qv:=zab (zap (zad kb.o kW) ⟨w4.heap.size,3,none⟩ v (by simp;omega));have vT:=zab ((vS.o.gb kW (fun k hk=>by cases hk;simp only[zat];omega)).gb (zaT w7 w4.heap.size 3 v) (by simp));have EO:=B7.lt;have cj:=zab ((aq.mono (S':=fun b=>zat w b/\b≠w4.heap.size/\b≠w.heap.size) (fun k _ hk=>by
   have h1:=kb.o.size;have h2:=B6.o.lt;simp only[zat]at hk ⊢;omega)).gb (zaT w7 w4.heap.size 3 v) (by simp))
  have ho:=aq.one;have v8:=zab (s7.set w4.heap.size 3 v (by omega) (by omega));have yN:=zab (B7.set 3 v);have ov:=zab (ko.other ⟨w4.heap.size,3,none⟩ v (by simp;omega));clear jL kW aq s7 B7 ko;rcases ho.shape with rfl|⟨t1,x1,rfl⟩
  all_goals
   clear ho;go_wp2_with fail
   refine (zaX v8.o ⟨#[59]⟩ (by simp)).mono ?_;rintro e w8 ⟨rfl,p8,pX⟩;have lO:=ov.o.grown pX (by simp;omega);have B8:=yN.o.grown pX (by simp;omega);have d0:=lO.cell 0;have d1:=lO.cell 1;have d2:=lO.cell 2;have d3:=lO.cell 3;have g0:=lO.frozen 0;have g1:=lO.frozen 1;have g2:=lO.frozen 2;have g3:=lO.frozen 3;have e0:=B8.cell 0;have e1:=B8.cell 1;have e2:=B8.cell 2;have e3:=B8.cell 3;simp at d0 d1 d2 d3 e0 e1 e2 e3;have cE:=zab (zvQ ⟨tg.1.s.toArray⟩ tg.1.at_ lO (vT.o.gb pX (fun k hk=>by cases hk;simp only[zat];omega)) ((cj.o.gb pX (fun k hk=>by cases hk;simp only[zat];omega)).st (zaC [59] q1.2)) p8 (zad qv.o pX) bd cu);clear p8 pX lO B8 c3 f3;go_wp2_with fail
   have p0:=cE.o.1.cell 0;have p1:=cE.o.1.cell 1;have p2:=cE.o.1.cell 2;have p3:=cE.o.1.cell 3;simp at p0 p1 p2 p3;refine bodyPost_ret (by simp[results,Tryz.results68,go_sem,p0,p1,p2,p3]) rfl ⟨_,_,rfl,cE.o.2⟩
end Go.Proofs.YtgahgkddaljmkaaGreatDoor
namespace Go.Proofs.YtgahgkddaljmkaaGreatDoor
open Tryz
open Go.RowKit
attribute [local go_sem ↓] Go.wp_at_zero Go.wp_at_succ
theorem zvE:(prog.info? 312).map (fun i=>(i.zero,i.size,i.bytes))=some (some (.agg #[.string ⟨#[]⟩,.int .i64 0,.nilIface]),3,40):=by kernel_rfl
theorem RS.drew{w:World}{r tb:Nat}{T:List Th.Tok}{st:Th.St}(h:RS w r tb T st):RS w.drew r tb T st:=h.gb (zbO w none) (by simp) (by simp)
variable {p:Int}{v:Value}
theorem one3{s:ByteArray}(h:v.oneCell'=true):∀ u∈[Value.string s,.int .i64 p,v],u.oneCell'=true:=by
 intro u hu;simp only[zzo,zzZ,or_false]at hu;rcases hu with rfl|rfl|rfl
 ·rfl
 ·rfl
 ·exact h
abbrev zsr (w:World) (b o:Nat) (v:Value):Prop:=w.cell? ⟨b,o,none⟩=some v/\w.frozen? ⟨b,o,none⟩=false
variable {w:World}{b:Nat}{vs:List Value}
theorem zdf{t:TypeId}(h:Blk w b vs t)(o:Nat)(e:vs[o]?=some v):zsr w b o v:=⟨(h.cell o).trans e,h.frozen o⟩
variable {w':World}{o:Nat}
theorem zsr.gb(h:zsr w b o v){row:Option Nat}(hg:w.grownBy w' row)(hr:some b≠row):zsr w' b o v:=
 ⟨zma hg h.1 hr,by rw[World.frozen?_of_block (w:=w) (hg.block b (zeK h.1) hr)];exact h.2⟩
theorem zsr.drew{w:World}{b o:Nat}{v:Value}(h:zsr w b o v):zsr w.drew b o v:=h
theorem zsr.alloc{w:World}{b o:Nat}{v:Value}(h:zsr w b o v)(ob:Obj):zsr (w.alloc ob) b o v:=h.gb (zag w ob none) (by simp)
structure zkv (w wr:World) (r tb eb:Nat) (T:List Th.Tok) (rc:Bool) (l:List Th.Tok) (es:List Th.Ex) (s1:Th.St) (sv:Value):Prop where
 blk:Blk wr eb [.bool rc,sv,.nilIface] 178
 lo:w.heap.size<=eb
 rs:RS wr r tb T s1
 gb:w.grownBy wr (some r)
 len:l.length=es.length
 parts:∃ pvs,pvs.length=l.length/\wr.ownsRow (eb+1) 312 3 sv l.length (zaM l pvs) /\
  (s1.bad=none->∃ n,∀ (i:Nat) (pv:Value) (p:Th.Ex),pvs[i]?=some pv->es[i]?=some p->Rep (fun b=>eb<b/\some b≠sv.ownBlock) wr n pv p)
theorem zbI{α:Type}{l:List α}{a:α}{i:Nat}{x:α}(h:(l++[a])[i]?=some x):l[i]?=some x\/(i=l.length/\x=a):=by
 rcases zAw i l.length with hi|hi
 ·rw[zzc hi]at h;exact .inl h
 ·rw[zy3 hi]at h;have:i-l.length=0:=by
   rcases Nat.eq_zero_or_pos (i-l.length) with h0|h0
   ·exact h0
   ·rw[zzK (by simp;omega)]at h;simp at h
  rw[this]at h;simp at h;exact .inr ⟨by omega,h.symm⟩
variable {wr w2 w3:World}{r tb eb:Nat}{T:List Th.Tok}{rc:Bool}{l:List Th.Tok}{es:List Th.Ex}{s1 s2:Th.St}{sv:Value}{e:Th.Ex}{g cap:Nat}
theorem zkv.add{x:Th.Tok}{pvs:List Value}{o:Obj}(hB:zkv w wr r tb eb T rc l es s1 sv)(hl:pvs.length=l.length)(fS:wr.ownsRow (eb+1) 312 3 sv l.length (zaM l pvs))(mf:s1.bad=none->∃ n,∀ (i:Nat) (pv:Value) (p:Th.Ex),pvs[i]?=some pv->es[i]?=some p->Rep (fun b=>eb<b/\some b≠sv.ownBlock) wr n pv p)(bd:r<w.heap.size)(cu:tb<w.heap.size)(aq:Got (zat wr.drew) w2 v e s2)(aI:RS w2 r tb T s2)(aF:wr.drew.grownBy w2 (some r))(ai:w3.ownsRow (eb+1) 312 3 (.slice (some ⟨g,0,none⟩) (l.length+1) cap) (l.length+1) (zaM l pvs++[.string ⟨x.s.toArray⟩,.int .i64 x.at_,v]))(ah:(w2.alloc o).grownBy w3 sv.ownBlock)(aV:sv.ownBlock=some g\/g=w2.heap.size+1)(aQ:s2.bad=none->s1.bad=none):
  zkv w (w3.setCell ⟨eb,1,none⟩ (.slice (some ⟨g,0,none⟩) (l.length+1) cap)) r tb eb T rc (l++[x]) (es++[e]) s2 (.slice (some ⟨g,0,none⟩) (l.length+1) cap):=by
 have fN:=hB.lo;have xw:=hB.blk.lt;have bF:wr.heap.size<=w2.heap.size:=aF.size;have cD:∀ b,sv.ownBlock=some b->eb<b/\b<wr.heap.size:=fun b hb=>⟨(fS.lt b hb).1,(fS.lt b hb).2⟩
 have aH:some eb≠sv.ownBlock:=fun e=>by have:=(cD eb e.symm).1;omega
 have nO:eb<g:=by
  rcases aV with h|h
  ·exact (cD g h).1
  ·omega
 have lz:some r≠sv.ownBlock:=fun e=>by have:=(cD r e.symm).1;omega
 have tw:some tb≠sv.ownBlock:=fun e=>by have:=(cD tb e.symm).1;omega
 have kQ:Blk w3 eb [.bool rc,sv,.nilIface] 178:=((hB.blk.drew.grown aF (by simp;omega)).alloc o).grown ah aH;refine ⟨?_,fN,?_,?_,by simp[hB.len],pvs++[v],by simp[hl],?_,?_⟩
 ·exact kQ.set 1 _
 ·exact ((aI.alloc o).gb ah lz tw).set eb 1 _ (by omega) (by omega)
 ·refine zap ?_ _ _ fN;have h1:w.grownBy (w2.alloc o) (some r):=zad (zad (zad hB.gb (zbO wr _)) aF) (zag w2 o _);exact ⟨ah.os.trans h1.os,ah.tape.trans h1.tape,ah.output.trans h1.output,zyR h1.size ah.size,
   fun k hk hr=>(ah.block k (zyS hk h1.size) (fun e=>by have:=(cD k e.symm).1;omega)).trans (h1.block k hk hr)⟩
 ·rw[zf1 l pvs x v hl.symm,zyT];exact ownsRow_setCell_below (a:=⟨eb,1,none⟩) ai (by simp) _
 ·intro hb;obtain ⟨n1,cR⟩:=mf (aQ hb);obtain ⟨n2,eY⟩:=aq.rep hb;refine ⟨n1+n2,fun i pv p eD hp=>?_⟩;have key:∀ b,eb<b->some b≠sv.ownBlock->b<w2.heap.size->some b≠some g:=by
   intro b aA aw bD e;cases e;rcases aV with h|h
   ·exact aw h.symm
   ·omega
  rcases zbI eD with h1|⟨h1,rfl⟩
  ·rcases zbI hp with h2|⟨h2,rfl⟩
   ·have hr:=(cR i pv p h1 h2).le (zz0 n1 n2);have a1:=hr.gb (zbO wr none) (by simp);have a2:=a1.gb aF (fun k hk=>by cases hk;omega);have a3:Rep (fun b=>eb<b/\some b≠sv.ownBlock/\b<w2.heap.size) w2 (n1+n2) pv p:=a2.mono (fun k hk h=>⟨h.1,h.2,hk⟩);have a4:=a3.gb (zag w2 o none) (by simp);have a5:=a4.gb ah (fun k hk h=>h.2.1 hk.symm);have a6:=a5.gb (zaT w3 eb 1 (.slice (some ⟨g,0,none⟩) (l.length+1) cap)) (fun k hk h=>by cases hk;omega);exact a6.mono (fun k _ h=>⟨h.1,key k h.1 h.2.1 h.2.2⟩)
   ·rw[zzK (by rw[hl,hB.len];omega)]at h1;simp at h1
  ·rcases zbI hp with h2|⟨h2,rfl⟩
   ·rw[zzK (by rw[<-hB.len,<-hl];omega)]at h2;simp at h2
   ·have a2:=eY.le (zAc n2 n1);have a3:Rep (fun b=>wr.heap.size<=b/\b<w2.heap.size) w2 (n1+n2) pv p:=a2.mono (fun k hk h=>⟨h,hk⟩);have a4:=a3.gb (zag w2 o none) (by simp);have a5:=a4.gb ah (fun k hk h=>by have:=(cD k hk).2;omega);have a6:=a5.gb (zaT w3 eb 1 (.slice (some ⟨g,0,none⟩) (l.length+1) cap)) (fun k hk h=>by cases hk;omega);exact a6.mono (fun k _ h=>⟨by omega,key k (by omega) (fun e=>by have:=(cD k e.symm).2;omega) h.2⟩)
def zbD (ex:Th.Rd):Prop:=∀ c st q,ex c st=some q->q.2.bad=none->st.bad=none
theorem zc2(st:Th.St):(Th.zaL st).2.bad=none->st.bad=none:=by
 intro h;unfold Th.zaL at h;split at h
 ·simpa [Th.St.adv] using h
 ·simp only at h;unfold Th.St.fail at h;split at h
  ·simp at h
  ·exact h
theorem zkv.step(hB:zkv w wr r tb eb T rc l es s1 sv)(bd:r<w.heap.size)(hg:wr.grownBy w' (some r))(hs:RS w' r tb T s2)(hb:s2.bad=none->s1.bad=none):zkv w w' r tb eb T rc l es s2 sv:=by
 have fN:=hB.lo;obtain ⟨pvs,h1,h2,h3⟩:=hB.parts;refine ⟨hB.blk.grown hg (by simp;omega),fN,hs,zad hB.gb hg,hB.len,pvs,h1,h2.kept hg (zdi h2 (by omega)),fun aQ=>?_⟩;obtain ⟨n,hn⟩:=h3 (hb aQ);exact ⟨n,fun i pv p a b=>(hn i pv p a b).gb hg (fun k hk=>by cases hk;omega)⟩
variable {st:Th.St}
theorem zvv :st.fail.bad≠none:=by
 unfold Th.St.fail;split
 ·simp
 ·simp_all
theorem zxH(hB:zkv w wr r tb eb T rc l es s1 sv)(bd:r<w.heap.size)(hg:wr.grownBy w' (some r))(aq:Got (zat wr) w' v e s2)(hb:s2.bad=none->s1.bad=none):
  Got (zat w) (w'.setCell ⟨eb,2,none⟩ v) (.iface 178 (.agg #[.bool rc,sv,v])) (Th.mkLet rc l es e) s2:=by
 have fN:=hB.lo;have xw:=hB.blk.lt;obtain ⟨pvs,h1,h2,h3⟩:=hB.parts;refine ⟨zb0 _ _,fun aQ=>?_⟩;obtain ⟨n1,cR⟩:=h3 (hb aQ);obtain ⟨n2,eY⟩:=aq.rep aQ;have hz:=hB.gb.size;have cS:=zaT w' eb 2 v;refine ⟨n1+n2+1,.inr (.inr (.inr (.inr (.inr (.inr (.inl ?_))))))⟩;refine ⟨by cases rc <;> simp[Th.mkLet],sv,v,e,es,pvs,rfl,by cases rc <;> rfl,hB.len.symm,h1,?_,?_,?_⟩
 ·have hk:=(h2.kept hg (zdi h2 (by omega))).kept cS (zdi h2 (by omega));exact ⟨za0 hk (zy5 _),fun b hb=>by have:=(hk.lt b hb).1;simp only[zat];omega⟩
 ·intro i pv p a b;exact (((cR i pv p a b).le (by omega)).gb hg (fun k hk=>by cases hk;omega)).gb cS (fun k hk=>by cases hk;omega)|>.mono (fun k _ h=>by simp only[zat];omega)
 ·exact ((eY.le (by omega)).gb cS (fun k hk=>by cases hk;simp only[zat];omega)).mono (fun k _ h=>by simp only[zat]at *;omega)
variable {ex:Th.Rd}{c:Bool}{k:Nat}{q:Th.Ex × Th.St}
theorem zyn(hx:zso ex)(hk:zbD ex)(uL:k<=1000000)(hq:Th.ztQ ex k c st=some q)(h:RS w r tb T st):
  Calls prog 193 #[.pointer (some ⟨r,0,none⟩),.bool c] w fun en w'=>Reads w r tb T q.1 q.2 en w':=by
 have bd:=h.lt;have cu:=h.tlt;obtain ⟨i0,dt,bq,aP,bF⟩:=info_parts zvE;have HI:=zab dt;clear dt;have HZ:=zab (And.intro bq (And.intro aP bF));clear bq aP bF;unfold Th.ztQ at hq;simp only[zyQ,zyP]at hq;obtain ⟨q1,cF,q2,bC,rfl⟩:=hq;generalize AK:st.is Th.zo8=rc at cF ⊢;have CG:=zab AK;obtain ⟨s0,bK⟩:∃ s,(if rc=true then st.adv else st)=s:=⟨_,rfl⟩;rw[bK]at cF;have qH:=zab bK;have oC:=zab cF;have oD:=zab bC;clear AK cF bC bK;cases k with
 |zero=>have:=oC.o;simp[Th.zcu]at this
 |succ k=>
  have hp:=oC.o;rw[Th.zcu]at hp;simp only[zyQ]at hp;obtain ⟨q3,mS,sS⟩:=hp;have qE:=zab mS;have vO:=zab sS;clear mS sS;go_enter func193,ntmps193
  go_wp2_with fail
  refine (zbG h ⟨#[114,101,99]⟩ (by simp)).mono ?_;rintro e w1 ⟨rfl,aW,bw⟩;rw[show st.is (ByteArray.mk #[114,101,99]).data.toList=rc from CG.o]at aW ⊢;rw[qH.o]at aW;have hz:=bw.size;have dS:Hid (zkv w (w1.alloc (.cells #[.bool rc,.slice none 0 0,.nilIface] 178)) r tb w1.heap.size T rc [] [] s0 (.slice none 0 0)):=
   zab ⟨Blk.new w1 [.bool rc,.slice none 0 0,.nilIface] 178,hz,aW.alloc _,zad bw (zag w1 _ _),rfl,[],rfl,World.ownsRow_nil _ _ _ _,fun _=>⟨0,fun i pv p hh _=>by simp at hh⟩⟩
  have nK:=zab (zdf dS.o.blk 1 (v:=.slice none 0 0) rfl);have dn:=zab (fun (W:World) (hW:RS W r tb T s0)=>zsI hx qE.o hW);clear h aW bw;go_wp2_with fail
  go_cut [10] (fun _ wc=>∃ sv,zkv w wc r tb w1.heap.size T rc [(Th.zaL s0).1] [q3.1] q3.2 sv)
  case first=>
   go_region_law (first
    |(refine step_append_lies _ (by rfl) _ _ _ (by rfl) (w1.heap.size+1) 312 i0 _ 3 40 underlying176 HI.o HZ.o.1 HZ.o.2.1 HZ.o.2.2 rfl (by omega) (.slice none 0 0) 0 [] (by rfl) (World.ownsRow_nil _ _ _ _) ⟨w2.heap.size,0,none⟩ 1 1 [.string ⟨(Th.zaL s0).1.s.toArray⟩,.int .i64 (Th.zaL s0).1.at_,v] (by rfl) (by rfl) (World.news_of_block (cs:=#[.string ⟨(Th.zaL s0).1.s.toArray⟩,.int .i64 (Th.zaL s0).1.at_,v]) (t:=312) (fr:=(0,0)) (heap_alloc_new w2 _)) (one3 bR) (by omega) (by unfold maxLen;omega) (by omega) (by simp;omega) (w2.heap.size+1) (by simp) ?_;intro g cap w3 ai ah aV aj;have h3:=zab ((H2.o.alloc _).gb ah (by simp[Value.ownBlock]));have uB:=h3.o.1;have zD:=h3.o.2)
    |(go_simp;go_wp2_with (go_at_call 249;refine (dn.o _ ?_).mono ?_;exact dS.o.rs.drew;rintro e w2 ⟨v,rfl,aq,aI,aF⟩;have bR:=aq.one.one;have j6:w1.heap.size<w2.heap.size:=(by have:=aF.size;simp at this;omega);have cj:=zab aq;have eS:=zab aI;have eK:=zab aF;have H2:=zab (nK.o.drew.gb aF (by simp;omega));have wL:=H2.o.1;have rq:=H2.o.2;clear aq aI)))
   all_goals
    go_wp2_with fail
    go_meet
    case rel=>
     exact ⟨_,dS.o.add (pvs:=[]) rfl (World.ownsRow_nil _ _ _ _) (fun _=>⟨0,fun i pv p hh _=>by simp at hh⟩) bd cu cj.o eS.o eK.o ai ah aV (fun hb=>zc2 _ (zaC [61] _ (hk _ _ _ qE.o hb)))⟩
  case rest=>
   obtain ⟨Ba,cU⟩:=hcut;have cB:=zab cU;clear cU;go_wp2_with fail
   go_loopg [17] k (fun g _ wr=>∃ l es s1 sv,zkv w wr r tb w1.heap.size T rc l es s1 sv/\l≠[]/\l.length+g<=k+1/\(if s1.is [59]=true then Th.zcu ex g l es s1.adv else some (l,es,s1))=some q1)
   case atStart=>exact ⟨_,_,_,_,cB.o,by simp,by simp;omega,vO.o⟩
   case round=>
    obtain ⟨l,es,s1,sv,hB,aH,mO,hp⟩:=hrel;have HB:=zab hB;have hs:=hB.rs;clear hB;cases h5:s1.is [59]
    ·rw[h5]at hp;simp only[zzw,if_false,zyP]at hp;subst hp;have H5:=zab h5;clear h5;go_wp2_with fail
     refine (zbG hs ⟨#[59]⟩ (by simp)).mono ?_;rintro e w4 ⟨rfl,bV,bM⟩;rw[show s1.is (ByteArray.mk #[59]).data.toList=false from H5.o]at bV ⊢;have j5:RS w4 r tb T s1:=by simpa using bV
     have gB:=zab (HB.o.step bd bM j5 (fun hb=>hb));clear hs bV bM;go_wp2_with fail
     refine (zaX j5 ⟨#[105,110]⟩ (by simp)).mono ?_;rintro e w5 ⟨rfl,fC,cH⟩;have kx:=zab (gB.o.step bd cH fC (zaC _ _));clear j5 cH;go_wp2_with fail
     refine (hx _ _ _ _ _ _ _ oD.o fC).mono ?_;rintro en w6 ⟨v,rfl,aq,jL,fk⟩;have lX:=kx.o.blk.grown fk (by simp;omega);have d0:=lX.cell 0;have d1:=lX.cell 1;have d2:=lX.cell 2;have f2:=lX.frozen 2;simp at d0 d1 d2;have cE:=zab (zxH kx.o bd fk aq (fun hb=>hk _ _ _ oD.o hb));have kb:=zab (zap (zad kx.o.gb fk) ⟨w1.heap.size,2,none⟩ v hz);have qL:=zab (jL.set w1.heap.size 2 v (by omega) (by omega));have ho:=aq.one;obtain ⟨pvs,-,af,-⟩:=kx.o.parts;have gV:=zan (Row.zaE af);clear fC aq jL fk lX af;rcases gV with rfl|⟨gs,iA,rfl⟩ <;> rcases ho.shape with rfl|⟨t1,x1,rfl⟩
     all_goals
      clear ho;go_wp2_with fail
      go_ret
      exact ⟨_,rfl,cE.o,qL.o,kb.o⟩
    ·rw[h5]at hp;simp only[if_true]at hp;cases gk with
     |zero=>simp[Th.zcu]at hp
     |succ g0=>
      rw[Th.zcu]at hp;simp only[zyQ]at hp;obtain ⟨q5,sT,sU⟩:=hp;have qF:=zab sT;have vP:=zab sU;have H5:=zab h5;have eP:=zab (fun (W:World) (hW:RS W r tb T s1.adv)=>zsI hx qF.o hW);clear h5 sT sU;go_wp2_with fail
      refine (zbG hs ⟨#[59]⟩ (by simp)).mono ?_;rintro e w4 ⟨rfl,bV,bM⟩;rw[show s1.is (ByteArray.mk #[59]).data.toList=true from H5.o]at bV ⊢;have j5:RS w4 r tb T s1.adv:=by simpa using bV
      have gB:=zab (HB.o.step bd bM j5 (fun _=>zie H5.o));obtain ⟨pvs,gK,af,aR⟩:=gB.o.parts;have gV:=zan (Row.zaE af);rcases gV with rfl|⟨gs,iA,rfl⟩
      ·exfalso;rcases af.2 with ⟨-,h0⟩|⟨_,_,_,h0,_⟩
       ·exact aH (zzn.1 h0)
       ·cases h0
      ·have uK:=(af.lt gs rfl);have HR:=zab (And.intro gK (And.intro af aR));have oO:=zab (zdf gB.o.blk 1 (v:=.slice (some ⟨gs,0,none⟩) l.length iA) rfl);have DL:=oO.o.1;have DM:=oO.o.2;have xF:=gB.o.blk.lt;clear hs bV bM j5 gK af aR;go_wp2_with fail
       go_region_law (first
        |(refine step_append_lies _ (by rfl) _ _ _ (by rfl) (w1.heap.size+1) 312 i0 _ 3 40 underlying176 HI.o HZ.o.1 HZ.o.2.1 HZ.o.2.2 rfl (by omega) (.slice (some ⟨gs,0,none⟩) l.length iA) l.length (zaM l pvs) (by rfl) (ly.alloc _) ⟨w5.heap.size,0,none⟩ 1 1 [.string ⟨(Th.zaL s1.adv).1.s.toArray⟩,.int .i64 (Th.zaL s1.adv).1.at_,v5] (by rfl) (by rfl) (World.news_of_block (cs:=#[.string ⟨(Th.zaL s1.adv).1.s.toArray⟩,.int .i64 (Th.zaL s1.adv).1.at_,v5]) (t:=312) (fr:=(0,0)) (heap_alloc_new w5 _)) (one3 bR) (by omega) (by unfold maxLen;omega) (by omega) (by simp;omega) (w5.heap.size+1) (by simp) ?_;intro g cap w6 ai ah aV aj;have h6:=zab ((ou.o.alloc _).gb ah (by simp[Value.ownBlock];omega));have DQ:=h6.o.1;have DR:=h6.o.2)
        |(go_simp;go_wp2_with (go_at_call 249;refine (eP.o _ ?_).mono ?_;exact gB.o.rs.drew;rintro e w5 ⟨v5,rfl,aq,fC,cH⟩;have bR:=aq.one.one;have x9:w1.heap.size<w5.heap.size:=(by have:=cH.size;simp at this;omega);have cj:=zab aq;have oF:=zab fC;have lS:=zab cH;have ou:=zab (oO.o.drew.gb cH (by simp;omega));have DO:=ou.o.1;have DP:=ou.o.2;have ly:=HR.o.2.1.drew.kept cH (zdi HR.o.2.1 (by omega));clear aq fC)))
       all_goals
        go_wp2_with fail
        go_roundg g0
        case measure=>omega
        case rel=>
         exact ⟨_,_,_,_,gB.o.add HR.o.1 HR.o.2.1 HR.o.2.2 bd cu cj.o oF.o lS.o ai ah aV (fun hb=>zc2 _ (zaC [61] _ (hk _ _ _ qF.o hb))),by simp,by simp;omega,vP.o⟩
theorem zxr:(prog.info? 240).map (fun i=>(i.zero,i.size,i.bytes))=some (some (.agg #[.int .i64 0,.slice none 0 0,.nilIface]),3,48):=by kernel_rfl
theorem onea{u:Value}(h1:u.oneCell'=true)(h:v.oneCell'=true):∀ x∈[Value.int .i64 p,u,v],x.oneCell'=true:=by
 intro x hu;simp only[zzo,zzZ,or_false]at hu;rcases hu with rfl|rfl|rfl
 ·rfl
 ·exact h1
 ·exact h
variable {size n:Nat}{xs:List Value}
theorem row_one{S:Nat->Prop}{e:TypeId}(h:Row S w e size v n xs):v.oneCell'=true:=by
 rcases zan h with rfl|⟨g,cap,rfl⟩ <;> rfl
structure zuZ (w wr:World) (r tb eb:Nat) (T:List Th.Tok) (cv:Value) (ce:Th.Ex) (l:List (Nat × List Th.Tok)) (es:List Th.Ex) (s1:Th.St) (sv:Value):Prop where
 blk:Blk wr eb [cv,sv] 173
 lo:w.heap.size<=eb
 rs:RS wr r tb T s1
 gb:w.grownBy wr (some r)
 len:l.length=es.length
 subj:s1.bad=none->∃ n,Rep (fun b=>zat w b/\b<eb) wr n cv ce
 parts:∃ nvs bvs,nvs.length=l.length/\bvs.length=l.length/\wr.ownsRow (eb+1) 240 3 sv l.length (za7 l nvs bvs) /\
  (s1.bad=none->∃ n,(∀ (i:Nat) (a:Nat × List Th.Tok) (nv:Value),l[i]?=some a->nvs[i]?=some nv->Row (fun b=>eb<b/\some b≠sv.ownBlock) wr 88 2 nv a.2.length (zaj a.2)) /\
   (∀ (i:Nat) (bv:Value) (p:Th.Ex),bvs[i]?=some bv->es[i]?=some p->Rep (fun b=>eb<b/\some b≠sv.ownBlock) wr n bv p))
variable {cv:Value}{ce:Th.Ex}{nv:Value}
theorem zuZ.add{l:List (Nat × List Th.Tok)}{x:Nat × List Th.Tok}{nvs bvs:List Value}{o:Obj}(hB:zuZ w wr r tb eb T cv ce l es s1 sv)(aL:nvs.length=l.length)(aC:bvs.length=l.length)(fS:wr.ownsRow (eb+1) 240 3 sv l.length (za7 l nvs bvs))(mf:s1.bad=none->∃ n,(∀ (i:Nat) (a:Nat × List Th.Tok) (nv:Value),l[i]?=some a->nvs[i]?=some nv->Row (fun b=>eb<b/\some b≠sv.ownBlock) wr 88 2 nv a.2.length (zaj a.2)) /\
   (∀ (i:Nat) (bv:Value) (p:Th.Ex),bvs[i]?=some bv->es[i]?=some p->Rep (fun b=>eb<b/\some b≠sv.ownBlock) wr n bv p))(bd:r<w.heap.size)(cu:tb<w.heap.size)(ay:Row (zat wr.drew) w2 88 2 nv x.2.length (zaj x.2))(aq:Got (zat wr.drew) w2 v e s2)(aI:RS w2 r tb T s2)(aF:wr.drew.grownBy w2 (some r))(ai:w3.ownsRow (eb+1) 240 3 (.slice (some ⟨g,0,none⟩) (l.length+1) cap) (l.length+1) (za7 l nvs bvs++[.int .i64 x.1,nv,v]))(ah:(w2.alloc o).grownBy w3 sv.ownBlock)(aV:sv.ownBlock=some g\/g=w2.heap.size+1)(aQ:s2.bad=none->s1.bad=none):
  zuZ w (w3.setCell ⟨eb,1,none⟩ (.slice (some ⟨g,0,none⟩) (l.length+1) cap)) r tb eb T cv ce (l++[x]) (es++[e]) s2 (.slice (some ⟨g,0,none⟩) (l.length+1) cap):=by
 have fN:=hB.lo;have xw:=hB.blk.lt;have bF:wr.heap.size<=w2.heap.size:=aF.size;have cD:∀ b,sv.ownBlock=some b->eb<b/\b<wr.heap.size:=fun b hb=>⟨(fS.lt b hb).1,(fS.lt b hb).2⟩
 have aH:some eb≠sv.ownBlock:=fun e=>by have:=(cD eb e.symm).1;omega
 have nO:eb<g:=by
  rcases aV with h|h
  ·exact (cD g h).1
  ·omega
 have lz:some r≠sv.ownBlock:=fun e=>by have:=(cD r e.symm).1;omega
 have tw:some tb≠sv.ownBlock:=fun e=>by have:=(cD tb e.symm).1;omega
 have kQ:Blk w3 eb [cv,sv] 173:=((hB.blk.drew.grown aF (by simp;omega)).alloc o).grown ah aH;have key:∀ b,eb<b->some b≠sv.ownBlock->b<w2.heap.size->some b≠some g:=by
  intro b aA aw bD e;cases e;rcases aV with h|h
  ·exact aw h.symm
  ·omega
 have lN:∀ {ty:TypeId} {sz m:Nat} {u:Value} {ys:List Value},Row (fun b=>eb<b/\some b≠sv.ownBlock) wr ty sz u m ys ->
   Row (fun b=>eb<b/\some b≠some g) (w3.setCell ⟨eb,1,none⟩ (.slice (some ⟨g,0,none⟩) (l.length+1) cap)) ty sz u m ys:=by
  intro ty sz m u ys hr;have a1:=hr.gb (zbO wr none) (by simp);have a2:=a1.gb aF (fun k hk=>by cases hk;omega);have a3:Row (fun b=>eb<b/\some b≠sv.ownBlock/\b<w2.heap.size) w2 ty sz u m ys:=a2.mono (fun k hk h=>⟨h.1,h.2,hk⟩);have a4:=a3.gb (zag w2 o none) (by simp);have a5:=a4.gb ah (fun k hk h=>h.2.1 hk.symm);have a6:=a5.gb (zaT w3 eb 1 (.slice (some ⟨g,0,none⟩) (l.length+1) cap)) (fun k hk h=>by cases hk;omega);exact a6.mono (fun k _ h=>⟨h.1,key k h.1 h.2.1 h.2.2⟩)
 have lM:∀ {ty:TypeId} {sz m:Nat} {u:Value} {ys:List Value},Row (zat wr.drew) w2 ty sz u m ys ->
   Row (fun b=>eb<b/\some b≠some g) (w3.setCell ⟨eb,1,none⟩ (.slice (some ⟨g,0,none⟩) (l.length+1) cap)) ty sz u m ys:=by
  intro ty sz m u ys hr;have a3:Row (fun b=>wr.heap.size<=b/\b<w2.heap.size) w2 ty sz u m ys:=hr.mono (fun k hk h=>⟨h,hk⟩);have a4:=a3.gb (zag w2 o none) (by simp);have a5:=a4.gb ah (fun k hk h=>by have:=(cD k hk).2;omega);have a6:=a5.gb (zaT w3 eb 1 (.slice (some ⟨g,0,none⟩) (l.length+1) cap)) (fun k hk h=>by cases hk;omega);exact a6.mono (fun k _ h=>⟨by omega,key k (by omega) (fun e=>by have:=(cD k e.symm).2;omega) h.2⟩)
 refine ⟨?_,fN,?_,?_,by simp[hB.len],?_,nvs++[nv],bvs++[v],by simp[aL],by simp[aC],?_,?_⟩
 ·exact kQ.set 1 _
 ·exact ((aI.alloc o).gb ah lz tw).set eb 1 _ (by omega) (by omega)
 ·refine zap ?_ _ _ fN;have h1:w.grownBy (w2.alloc o) (some r):=zad (zad (zad hB.gb (zbO wr _)) aF) (zag w2 o _);exact ⟨ah.os.trans h1.os,ah.tape.trans h1.tape,ah.output.trans h1.output,zyR h1.size ah.size,
   fun k hk hr=>(ah.block k (zyS hk h1.size) (fun e=>by have:=(cD k e.symm).1;omega)).trans (h1.block k hk hr)⟩
 ·intro hb;obtain ⟨n,hn⟩:=hB.subj (aQ hb);exact ⟨n,((((hn.gb (zbO wr none) (by simp)).gb aF (fun k hk h=>by cases hk;simp only[zat]at h;omega)).gb (zag w2 o none) (by simp)).gb ah (fun k hk h=>by have:=(cD k hk).1;omega)).gb (zaT w3 eb 1 _) (fun k hk h=>by cases hk;omega)⟩
 ·rw[zgK l nvs bvs x nv v aL.symm aC.symm,zyT];exact ownsRow_setCell_below (a:=⟨eb,1,none⟩) ai (by simp) _
 ·intro hb;obtain ⟨n1,dd,cR⟩:=mf (aQ hb);obtain ⟨n2,eY⟩:=aq.rep hb;refine ⟨n1+n2,fun i a u ha hu=>?_,fun i pv p eD hp=>?_⟩
  ·rcases zbI ha with h1|⟨h1,rfl⟩
   ·rcases zbI hu with h2|⟨h2,rfl⟩
    ·exact lN (dd i a u h1 h2)
    ·rw[zzK (by omega)]at h1;simp at h1
   ·rcases zbI hu with h2|⟨h2,rfl⟩
    ·rw[zzK (by omega)]at h2;simp at h2
    ·exact lM ay
  ·rcases zbI eD with h1|⟨h1,rfl⟩
   ·rcases zbI hp with h2|⟨h2,rfl⟩
    ·exact Rep.imp (fun _ _ _ _ _ hR=>lN hR) _ _ _ ((cR i pv p h1 h2).le (zz0 n1 n2))
    ·rw[zzK (by rw[aC,hB.len];omega)]at h1;simp at h1
   ·rcases zbI hp with h2|⟨h2,rfl⟩
    ·rw[zzK (by rw[<-hB.len,<-aC];omega)]at h2;simp at h2
    ·exact Rep.imp (fun _ _ _ _ _ hR=>lM hR) _ _ _ (eY.le (zAc n2 n1))
theorem zuZ.step{l:List (Nat × List Th.Tok)}(hB:zuZ w wr r tb eb T cv ce l es s1 sv)(bd:r<w.heap.size)(hg:wr.grownBy w' (some r))(hs:RS w' r tb T s2)(hb:s2.bad=none->s1.bad=none):zuZ w w' r tb eb T cv ce l es s2 sv:=by
 have fN:=hB.lo;obtain ⟨nvs,bvs,h1,iB,h2,h3⟩:=hB.parts;refine ⟨hB.blk.grown hg (by simp;omega),fN,hs,zad hB.gb hg,hB.len,?_,nvs,bvs,h1,iB,h2.kept hg (zdi h2 (by omega)),fun aQ=>?_⟩
 ·intro aQ;obtain ⟨n,hn⟩:=hB.subj (hb aQ);exact ⟨n,hn.gb hg (fun k hk h=>by cases hk;simp only[zat]at h;omega)⟩
 ·obtain ⟨n,hr,hn⟩:=h3 (hb aQ);exact ⟨n,fun i a u x y=>(hr i a u x y).gb hg (fun k hk=>by cases hk;omega),fun i pv p a b=>(hn i pv p a b).gb hg (fun k hk=>by cases hk;omega)⟩
theorem zv4{l:List (Nat × List Th.Tok)}(hB:zuZ w wr r tb eb T cv ce l es s1 sv):
  Got (zat w) wr (.iface 173 (.agg #[cv,sv])) (Th.mkCase ce l es) s1:=by
 have fN:=hB.lo;obtain ⟨nvs,bvs,h1,iB,h2,h3⟩:=hB.parts;refine ⟨zb0 _ _,fun aQ=>?_⟩;obtain ⟨n1,hr,cR⟩:=h3 aQ;obtain ⟨n2,eY⟩:=hB.subj aQ;refine ⟨n1+n2+1,.inr (.inr (.inr (.inr (.inr (.inr (.inr ?_))))))⟩;refine ⟨rfl,cv,sv,ce,es,nvs,bvs,rfl,rfl,hB.len.symm,h1,iB,?_,?_,?_,?_⟩
 ·exact ⟨za0 h2 (zy5 _),fun b hb=>by have:=(h2.lt b hb).1;simp only[zat];omega⟩
 ·exact fun i a u x y=>(hr i a u x y).mono (fun k _ h=>by simp only[zat];omega)
 ·exact fun i pv p a b=>((cR i pv p a b).le (by omega)).mono (fun k _ h=>by simp only[zat];omega)
 ·exact (eY.le (by omega)).mono (fun k _ h=>h.1)
theorem zcM(st:Th.St):(Th.zax st).2.bad=none->st.bad=none:=by
 intro h;unfold Th.zax at h;split at h
 ·simp_all
 ·exact h
theorem zfz(hk:zbD ex){q:(Nat × List Th.Tok) × Th.Ex × Th.St}(h:Th.ztN ex c st=some q):q.2.2.bad=none->st.bad=none:=by
 unfold Th.ztN at h;simp only[zyQ,zyP]at h;obtain ⟨q1,h1,rfl⟩:=h;intro hb;exact zaC _ _ (zdX _ _ _ (zaC _ _ (zcM _ (zaC _ _ (hk _ _ _ h1 hb)))))
theorem zlo(h:Th.za8 c st=true):st.is [59]=true:=by
 unfold Th.za8 at h;cases hi:st.is [59]
 ·rw[hi]at h;simp at h
 ·rfl
theorem zsM(hx:zso ex)(hk:zbD ex)(uL:k<=1000000)(hq:Th.zjy ex k c st=some q)(h:RS w r tb T st):
  Calls prog 194 #[.pointer (some ⟨r,0,none⟩),.bool c] w fun en w'=>Reads w r tb T q.1 q.2 en w':=by
 have bd:=h.lt;have cu:=h.tlt;obtain ⟨i0,dt,bq,aP,bF⟩:=info_parts zxr;have HI:=zab dt;clear dt;have HZ:=zab (And.intro bq (And.intro aP bF));clear bq aP bF;unfold Th.zjy at hq;simp only[zyQ,zyP]at hq;obtain ⟨q0,sR,q1,cF,rfl⟩:=hq;have Cu:=zab sR;have oC:=zab cF;clear sR cF;cases k with
 |zero=>have:=oC.o;simp[Th.zeD]at this
 |succ k=>
  have hp:=oC.o;rw[Th.zeD]at hp;simp only[zyQ]at hp;obtain ⟨q3,mS,sS⟩:=hp;have qE:=zab mS;have vO:=zab sS;clear mS sS;go_enter func194,ntmps194
  go_wp2_with fail
  refine (hx _ _ _ _ _ _ _ Cu.o h).mono ?_;rintro e w1 ⟨cv,rfl,kX,aW,bw⟩;have hz:=bw.size;have ho:=kX.one;have dS:Hid (zuZ w (w1.alloc (.cells #[cv,.slice none 0 0] 173)) r tb w1.heap.size T cv q0.1 [] [] q0.2 (.slice none 0 0)):=
   zab ⟨Blk.new w1 [cv,.slice none 0 0] 173,hz,aW.alloc _,zad bw (zag w1 _ _),rfl,
    fun hb=>by obtain ⟨n,hn⟩:=kX.rep hb;exact ⟨n,(hn.mono (fun k hk h=>⟨h,hk⟩)).gb (zag w1 _ none) (by simp)⟩,[],[],rfl,rfl,World.ownsRow_nil _ _ _ _,fun _=>⟨0,fun i pv p hh _=>by simp at hh,fun i pv p hh _=>by simp at hh⟩⟩
  clear h aW bw kX;rcases ho.shape with rfl|⟨t1,x1,rfl⟩
  all_goals
   clear ho;go_wp2_with fail
   refine (zaX dS.o.rs ⟨#[111,102]⟩ (by simp)).mono ?_;rintro e w9 ⟨rfl,AN,Am⟩;have tZ:=zab (dS.o.step bd Am AN (zaC _ _));have nK:=zab (zdf tZ.o.blk 1 (v:=.slice none 0 0) rfl);have Gm:=nK.o.1;have Gn:=nK.o.2;have GJ:=tZ.o.blk.lt;have dn:=zab (fun (W:World) (hW:RS W r tb T (Th.want Th.sOf q0.2))=>zwN hx qE.o hW);clear AN Am;go_wp2_with fail
   go_cut [12] (fun _ wc=>∃ cv sv,One cv/\zuZ w wc r tb w1.heap.size T cv q0.1 [q3.1] [q3.2.1] q3.2.2 sv)
   case first=>
    go_region_law (first
     |(refine step_append_lies _ (by rfl) _ _ _ (by rfl) (w1.heap.size+1) 240 i0 _ 3 48 underlying171 HI.o HZ.o.1 HZ.o.2.1 HZ.o.2.2 rfl (by omega) (.slice none 0 0) 0 [] (by rfl) (World.ownsRow_nil _ _ _ _) ⟨w2.heap.size,0,none⟩ 1 1 [.int .i64 q3.1.1,nv,v] (by rfl) (by rfl) (World.news_of_block (cs:=#[.int .i64 q3.1.1,nv,v]) (t:=240) (fr:=(0,0)) (heap_alloc_new w2 _)) (onea iM bR) (by omega) (by unfold maxLen;omega) (by omega) (by simp;omega) (w2.heap.size+1) (by simp) ?_;intro g cap w3 ai ah aV aj;have h3:=zab ((H2.o.alloc _).gb ah (by simp[Value.ownBlock]));have uB:=h3.o.1;have zD:=h3.o.2)
     |(go_simp;go_wp2_with (go_at_call 250;refine (dn.o _ ?_).mono ?_;exact tZ.o.rs.drew;rintro e w2 ⟨nv,v,rfl,ay,aq,aI,aF⟩;have bR:=aq.one.one;have iM:=row_one ay;have j6:w1.heap.size<w2.heap.size:=(by have:=aF.size;simp at this;omega);have v7:=zab ay;have cj:=zab aq;have eS:=zab aI;have eK:=zab aF;have H2:=zab (nK.o.drew.gb aF (by simp;omega));have wL:=H2.o.1;have rq:=H2.o.2;clear aq aI ay)))
    all_goals
     go_wp2_with fail
     go_meet
     case rel=>
      exact ⟨_,_,⟨by first|exact .inl rfl|exact .inr ⟨_,_,rfl⟩⟩,tZ.o.add (nvs:=[]) (bvs:=[]) rfl rfl (World.ownsRow_nil _ _ _ _) (fun _=>⟨0,fun i pv p hh _=>by simp at hh,fun i pv p hh _=>by simp at hh⟩) bd cu v7.o cj.o eS.o eK.o ai ah aV (zfz hk qE.o)⟩
   case rest=>
    obtain ⟨Gc,Ba,ja,cU⟩:=hcut;have cB:=zab (And.intro ja cU);clear cU ja;go_wp2_with fail
    go_loopg [21] k (fun g _ wr=>∃ cv l es s1 sv,One cv/\zuZ w wr r tb w1.heap.size T cv q0.1 l es s1 sv/\l≠[]/\l.length+g<=k+1/\(if Th.za8 c s1=true then Th.zeD ex c g l es s1.adv else some (l,es,s1))=some q1)
    case atStart=>exact ⟨_,_,_,_,_,cB.o.1,cB.o.2,by simp,by simp;omega,vO.o⟩
    case round=>
     obtain ⟨cv,l,es,s1,sv,Az,hB,aH,mO,hp⟩:=hrel;have HB:=zab hB;have hs:=hB.rs;have HO:=zab Az;clear hB Az;cases h5:Th.za8 c s1
     ·rw[h5]at hp;simp only[zzw,if_false,zyP]at hp;subst hp;have H5:=zab h5;clear h5;go_wp2_with fail
      refine (zfX hs c).mono ?_;rintro e w4 ⟨rfl,xi⟩;rw[H5.o];have gB:=zab (HB.o.step bd (zaf _ xi) (hs.below xi) (fun hb=>hb));have d0:=gB.o.blk.cell 0;have d1:=gB.o.blk.cell 1;simp at d0 d1;have cE:=zab (zv4 gB.o);obtain ⟨nvs,bvs,-,-,af,-⟩:=gB.o.parts;have gV:=zan (Row.zaE af);clear hs xi af;rcases gV with rfl|⟨gs,iA,rfl⟩ <;> rcases HO.o.shape with rfl|⟨t2,x2,rfl⟩
      all_goals
       go_wp2_with fail
       go_ret
       exact ⟨_,rfl,cE.o,gB.o.rs,gB.o.gb⟩
     ·rw[h5]at hp;simp only[if_true]at hp;cases gk with
      |zero=>simp[Th.zeD]at hp
      |succ g0=>
       rw[Th.zeD]at hp;simp only[zyQ]at hp;obtain ⟨q5,sT,sU⟩:=hp;have qF:=zab sT;have vP:=zab sU;have H5:=zab h5;have Hw:Hid (Th.want [59] s1=s1.adv):=zab (by rw[Th.want,zlo h5];simp);have eP:=zab (fun (W:World) (hW:RS W r tb T s1.adv)=>zwN hx qF.o hW);clear h5 sT sU;go_wp2_with fail
       refine (zfX hs c).mono ?_;rintro e w8 ⟨rfl,xj⟩;rw[H5.o];have p8:=hs.below xj;have BC:=zab (HB.o.step bd (zaf _ xj) p8 (fun hb=>hb));clear hs xj;go_wp2_with fail
       refine (zaX p8 ⟨#[59]⟩ (by simp)).mono ?_;rintro e w4 ⟨rfl,bV,bM⟩;rw[show Th.want (ByteArray.mk #[59]).data.toList s1=s1.adv from Hw.o]at bV;have gB:=zab (BC.o.step bd bM bV (fun _=>zie (zlo H5.o)));obtain ⟨nvs,bvs,sO,sP,af,aR⟩:=gB.o.parts;have gV:=zan (Row.zaE af);rcases gV with rfl|⟨gs,iA,rfl⟩
       ·exfalso;rcases af.2 with ⟨-,h0⟩|⟨_,_,_,h0,_⟩
        ·exact aH (zzn.1 h0)
        ·cases h0
       ·have uK:=(af.lt gs rfl);have HR:=zab (And.intro (And.intro sO sP) (And.intro af aR));have oO:=zab (zdf gB.o.blk 1 (v:=.slice (some ⟨gs,0,none⟩) l.length iA) rfl);have DL:=oO.o.1;have DM:=oO.o.2;have xF:=gB.o.blk.lt;clear p8 bV bM sO sP af aR;go_wp2_with fail
        go_region_law (first
         |(refine step_append_lies _ (by rfl) _ _ _ (by rfl) (w1.heap.size+1) 240 i0 _ 3 48 underlying171 HI.o HZ.o.1 HZ.o.2.1 HZ.o.2.2 rfl (by omega) (.slice (some ⟨gs,0,none⟩) l.length iA) l.length (za7 l nvs bvs) (by rfl) (ly.alloc _) ⟨w5.heap.size,0,none⟩ 1 1 [.int .i64 q5.1.1,A6,v5] (by rfl) (by rfl) (World.news_of_block (cs:=#[.int .i64 q5.1.1,A6,v5]) (t:=240) (fr:=(0,0)) (heap_alloc_new w5 _)) (onea iM bR) (by omega) (by unfold maxLen;omega) (by omega) (by simp;omega) (w5.heap.size+1) (by simp) ?_;intro g cap w6 ai ah aV aj;have h6:=zab ((ou.o.alloc _).gb ah (by simp[Value.ownBlock];omega));have DQ:=h6.o.1;have DR:=h6.o.2)
         |(go_simp;go_wp2_with (go_at_call 250;refine (eP.o _ ?_).mono ?_;exact gB.o.rs.drew;rintro e w5 ⟨A6,v5,rfl,ay,aq,fC,cH⟩;have bR:=aq.one.one;have iM:=row_one ay;have x9:w1.heap.size<w5.heap.size:=(by have:=cH.size;simp at this;omega);have v7:=zab ay;have cj:=zab aq;have oF:=zab fC;have lS:=zab cH;have ou:=zab (oO.o.drew.gb cH (by simp;omega));have DO:=ou.o.1;have DP:=ou.o.2;have ly:=HR.o.2.1.drew.kept cH (zdi HR.o.2.1 (by omega));clear aq fC ay)))
        all_goals
         go_wp2_with fail
         go_roundg g0
         case measure=>omega
         case rel=>
          exact ⟨_,_,_,_,_,HO.o,gB.o.add HR.o.1.1 HR.o.1.2 HR.o.2.1 HR.o.2.2 bd cu v7.o cj.o oF.o lS.o ai ah aV (zfz hk qF.o),by simp,by simp;omega,vP.o⟩
theorem ztF(l:List Th.Tok):∀ u∈zaj l,u.oneCell'=true:=by
 intro u hu;simp only[zaj,List.mem_flatMap,zbP]at hu;obtain ⟨t,_,ht⟩:=hu;simp only[zzo,zzZ,or_false]at ht;rcases ht with rfl|rfl <;> rfl
theorem zkE(l:List Th.Tok):(zaj l).length=l.length*2:=by
 induction l with
 |nil=>rfl
 |cons t l ih=>
  rw[show zaj (t::l)=zbP t++zaj l from rfl,zyT,ih];simp only[zbP,zy8,zzm];omega
theorem ztE(h:RS w r tb T st):(Th.zax st).1.length<=100000:=by
 have:=ztW h;unfold Th.zax;split
 ·exact zyR (List.takeWhile_prefix _).length_le this
 ·simp
structure Lam (w wr:World) (r tb eb:Nat) (T:List Th.Tok) (l:List Th.Tok) (s1:Th.St) (sv:Value):Prop where
 blk:Blk wr eb [sv,.nilIface] 226
 lo:w.heap.size<=eb
 rs:RS wr r tb T s1
 gb:w.grownBy wr (some r)
 row:Row (fun b=>zat w b/\b≠eb) wr 88 2 sv l.length (zaj l)
theorem Lam.step(hB:Lam w wr r tb eb T l s1 sv)(bd:r<w.heap.size)(hg:wr.grownBy w' (some r))(hs:RS w' r tb T s2):Lam w w' r tb eb T l s2 sv:=by
 have fN:=hB.lo;exact ⟨hB.blk.grown hg (by simp;omega),fN,hs,zad hB.gb hg,hB.row.gb hg (fun k hk h=>by cases hk;simp only[zat]at h;omega)⟩
theorem zxG(hB:Lam w wr r tb eb T l s1 sv)(bd:r<w.heap.size)(hg:wr.grownBy w' (some r))(aq:Got (zat wr) w' v e s2):
  Got (zat w) (w'.setCell ⟨eb,1,none⟩ v) (.iface 226 (.agg #[sv,v])) (Th.mkFun l e) s2:=by
 have fN:=hB.lo;have xw:=hB.blk.lt;have hz:=hB.gb.size;refine ⟨zb0 _ _,fun aQ=>?_⟩;obtain ⟨n2,eY⟩:=aq.rep aQ;have cS:=zaT w' eb 1 v;refine ⟨n2+1,.inr (.inr (.inr (.inl ⟨rfl,sv,v,e,rfl,rfl,?_,?_⟩)))⟩
 ·exact ((hB.row.gb hg (fun k hk h=>by cases hk;simp only[zat]at h;omega)).gb cS (fun k hk h=>by cases hk;exact h.2 rfl)).mono (fun k _ h=>h.1)
 ·exact (eY.gb cS (fun k hk=>by cases hk;simp only[zat];omega)).mono (fun k _ h=>by simp only[zat]at *;omega)
theorem zqK{base:Nat}{e:TypeId}(h:w.ownsRow base e size v n xs)(hn:0<n):∃ g cap,v=.slice (some ⟨g,0,none⟩) n cap:=by
 rcases h.2 with ⟨_,h0⟩|⟨g,cap,cur,h,_⟩
 ·omega
 ·exact ⟨g,cap,h⟩
theorem zqD{w1 W0:World}{m:Nat}{x:Th.Tok}(hB:Blk W0 (w1.heap.size+1) [.slice (some ⟨w1.heap.size,0,none⟩) 1 1,.nilIface] 226)(hz:w.heap.size<=w1.heap.size)(bd:r<w.heap.size)(cu:tb<w.heap.size)(DU:w.grownBy W0 (some r))(aI:RS w2 r tb T s2)(aF:W0.drew.grownBy w2 (some r))(ai:w3.ownsRow w1.heap.size 88 2 (.slice (some ⟨g,0,none⟩) m cap) m (zaj (x::l)))(hm:m=(x::l).length)(ah:w2.grownBy w3 (some w1.heap.size))(aV:g=w1.heap.size\/g=w2.heap.size):
  Lam w (w3.setCell ⟨w1.heap.size+1,0,none⟩ (.slice (some ⟨g,0,none⟩) m cap)) r tb (w1.heap.size+1) T (x::l) s2 (.slice (some ⟨g,0,none⟩) m cap):=by
 have aj:=hB.lt;have bF:W0.heap.size<=w2.heap.size:=aF.size;have nO:g≠w1.heap.size+1:=by omega
 have cS:=zaT w3 (w1.heap.size+1) 0 (.slice (some ⟨g,0,none⟩) m cap);refine ⟨?_,by omega,?_,?_,?_,?_⟩
 ·exact ((hB.drew.grown aF (by simp;omega)).grown ah (by simp)).set 0 _
 ·exact (aI.gb ah (by simp;omega) (by simp;omega)).set _ _ _ (by omega) (by omega)
 ·refine zap ?_ _ _ (by simp;omega);have h1:=zad (zad DU (zbO W0 _)) aF;exact ⟨ah.os.trans h1.os,ah.tape.trans h1.tape,ah.output.trans h1.output,zyR h1.size ah.size,
   fun k hk hr=>(ah.block k (zyS hk h1.size) (by simp;omega)).trans (h1.block k hk hr)⟩
 ·rw[<-hm];exact za0 (ai.kept cS (by simp[Value.ownBlock];omega)) (zy5 _)
 ·intro k hk;simp only[Value.ownBlock,zyP]at hk;subst hk;have:=(ai.lt g rfl).1;simp only[zat];omega
theorem ztn(hx:zso ex)(hq:Th.ztO ex c st=some q)(h:RS w r tb T st):
  Calls prog 195 #[.pointer (some ⟨r,0,none⟩),.bool c] w fun en w'=>Reads w r tb T q.1 q.2 en w':=by
 have bd:=h.lt;have cu:=h.tlt;obtain ⟨i0,dt,bq,aP,bF⟩:=info_parts zqz;have HI:=zab dt;clear dt;have HZ:=zab (And.intro bq (And.intro aP bF));clear bq aP bF;unfold Th.ztO at hq;simp only[zyQ,zyP]at hq;obtain ⟨q1,cF,rfl⟩:=hq;generalize cX:Th.zaL st=xs at cF ⊢;generalize da:Th.zax xs.2=ln at cF ⊢;have oC:=zab cF;have C9:=zab cX;have kB:=zab da;clear cF cX da;go_enter func195,ntmps195
 go_wp2_with fail
 refine (zg4 h).mono ?_;rintro e w1 ⟨rfl,aW,bw⟩;rw[C9.o]at aW ⊢;have hz:=bw.size;have nX:=World.ownsRow_lit (base:=w1.heap.size) (e:=88) (size:=2) w1 #[.string ⟨xs.1.s.toArray⟩,.int .i64 xs.1.at_] 1 (zyN _) (by unfold maxLen;omega) rfl;have uW:=Blk.new (w1.alloc (.cells #[.string ⟨xs.1.s.toArray⟩,.int .i64 xs.1.at_] 88)) [.slice (some ⟨w1.heap.size,0,none⟩) 1 1,.nilIface] 226;rw[World.size_alloc]at uW;have B0:=zab uW;clear uW;have zi:=zab ((aW.alloc (.cells #[.string ⟨xs.1.s.toArray⟩,.int .i64 xs.1.at_] 88)).alloc (.cells #[.slice (some ⟨w1.heap.size,0,none⟩) 1 1,.nilIface] 226));have eQ:=zab (zad (zad bw (zag w1 (.cells #[.string ⟨xs.1.s.toArray⟩,.int .i64 xs.1.at_] 88) (some r))) (zag _ (.cells #[.slice (some ⟨w1.heap.size,0,none⟩) 1 1,.nilIface] 226) (some r)));have pI:=zab (nX.alloc (.cells #[.slice (some ⟨w1.heap.size,0,none⟩) 1 1,.nilIface] 226));have xy:=ztE aW;rw[kB.o]at xy;have dn:=zab (fun (W:World) (hW:RS W r tb T xs.2)=>zlH hW);clear h aW bw nX;have nK:Hid (zsr _ (w1.heap.size+1) 0 (.slice (some ⟨w1.heap.size,0,none⟩) 1 1)):=zab (zdf B0.o 0 (v:=.slice (some ⟨w1.heap.size,0,none⟩) 1 1) rfl);go_wp2_with fail
 go_cut [11] (fun _ wc=>∃ sv,Lam w wc r tb (w1.heap.size+1) T (xs.1::ln.1) ln.2 sv)
 case first=>
  by_cases hl:ln.1=[]
  ·have Hl:=zab hl;clear hl
   go_region_law (first
    |(go_simp;go_wp2_with (go_at_call 116;refine (dn.o _ ?_).mono ?_;exact zi.o.drew;rintro e w2 ⟨nv,rfl,ck,ez,aI,aF⟩;rw[kB.o]at ck aI;obtain rfl:=ck Hl.o;have j6:w1.heap.size+1<w2.heap.size:=(by have:=aF.size;simp at this;omega);have eS:=zab aI;have eK:=zab aF;have H2:=zab (nK.o.drew.gb aF (by simp;omega));have wL:=H2.o.1;have rq:=H2.o.2;clear aI ck ez)))
   all_goals
    go_wp2_with fail
    go_meet
    case rel=>
     have jc:w2.ownsRow w1.heap.size 88 2 (.slice (some ⟨w1.heap.size,0,none⟩) 1 1) 1 (zaj (xs.1::[])):=pI.o.drew.kept eK.o (zdi pI.o (by omega));have eW:=zqD B0.o hz bd cu eQ.o eS.o eK.o jc rfl (zcT w2 _) (.inl rfl);rw[<-Hl.o]at eW;exact ⟨_,eW⟩
  ·have aL:0<ln.1.length:=zzA.2 hl;have Hl:=zab hl;clear hl
   go_region_law (first
    |(refine step_append_lies _ (by rfl) _ _ _ (by rfl) w1.heap.size 88 i0 _ 2 24 underlying89 HI.o HZ.o.1 HZ.o.2.1 HZ.o.2.2 rfl (by omega) (.slice (some ⟨w1.heap.size,0,none⟩) 1 1) 1 (zbP xs.1) (by rfl) sX ⟨g2,0,none⟩ ln.1.length c2 (zaj ln.1) (by rfl) (zkE _) (ez.cells rfl) (ztF _) (by omega) (by unfold maxLen;omega) (by omega) (by omega) w2.heap.size rfl ?_;intro g cap w3 ai ah aV aj;have h3:=zab (H2.o.gb ah (by simp[Value.ownBlock]));have uB:=h3.o.1;have zD:=h3.o.2)
    |(go_simp;go_wp2_with (go_at_call 116;refine (dn.o _ ?_).mono ?_;exact zi.o.drew;rintro e w2 ⟨nv,rfl,ck,ez,aI,aF⟩;rw[kB.o]at ez aI;obtain ⟨g2,c2,rfl⟩:=zqK ez aL;have j6:w1.heap.size+1<w2.heap.size:=(by have:=aF.size;simp at this;omega);have eS:=zab aI;have eK:=zab aF;have H2:=zab (nK.o.drew.gb aF (by simp;omega));have wL:=H2.o.1;have rq:=H2.o.2;have sX:=pI.o.drew.kept aF (zdi pI.o (by omega));clear aI ck)))
   all_goals
    go_wp2_with fail
    go_meet
    case rel=>
     refine ⟨_,zqD B0.o hz bd cu eQ.o eS.o eK.o ai (by simp;omega) ah ?_⟩;rcases aV with h|h
     ·left;simpa [Value.ownBlock] using h.symm
     ·exact .inr h
 case rest=>
  obtain ⟨Ba,cU⟩:=hcut;have cB:=zab cU;have hs:=cU.rs;clear cU;go_wp2_with fail
  refine (zaX hs ⟨#[46]⟩ (by simp)).mono ?_;rintro e w5 ⟨rfl,fC,cH⟩;have kx:=zab (cB.o.step bd cH fC);clear hs cH;go_wp2_with fail
  refine (hx _ _ _ _ _ _ _ oC.o fC).mono ?_;rintro en w6 ⟨v,rfl,aq,jL,fk⟩;have lX:=kx.o.blk.grown fk (by simp;omega);have d0:=lX.cell 0;have d1:=lX.cell 1;have f1:=lX.frozen 1;simp at d0 d1;have cE:=zab (zxG kx.o bd fk aq);have kb:=zab (zap (zad kx.o.gb fk) ⟨w1.heap.size+1,1,none⟩ v (by simp;omega));have qL:=zab (jL.set (w1.heap.size+1) 1 v (by omega) (by omega));have ho:=aq.one;have gV:=zan kx.o.row;clear fC aq jL fk lX;rcases gV with rfl|⟨gs,iA,rfl⟩ <;> rcases ho.shape with rfl|⟨t1,x1,rfl⟩
  all_goals
   clear ho;go_wp2_with fail
   go_ret
   exact ⟨_,rfl,cE.o,qL.o,kb.o⟩
end Go.Proofs.YtgahgkddaljmkaaGreatDoor
namespace Go.Proofs.YtgahgkddaljmkaaGreatDoor
open Tryz
open Go.RowKit
theorem zbz(st:Th.St):st.adv.bad=none->st.bad=none:=fun h=>h
variable {st:Th.St}
theorem zhK(h:st.fail.bad=none):False:=zvv h
theorem ztC(st:Th.St):(Th.zdj st).2.bad=none->st.bad=none:=by
 intro h;exact zdX _ _ _ (zaC _ _ (zdX _ _ _ (zaC _ _ h)))
variable {ex:Th.Rd}{q:Th.Ex × Th.St}
theorem zfp(hk:zbD ex)(h:Th.zeU ex st=some q):q.2.bad=none->st.bad=none:=by
 unfold Th.zeU at h;intro hb;split at h
 ·cases h;exact hb
 ·split at h
  ·cases h;exact hb
  ·split at h
   ·cases h;exact zbz _ (ztC _ hb)
   ·split at h
    ·simp only[zyQ,zyP]at h;obtain ⟨r,h1,rfl⟩:=h;exact zbz _ (hk _ _ _ h1 (zaC _ _ hb))
    ·cases h;exact (zhK hb).elim
theorem zi7{ex:Th.Rd}(hk:zbD ex):∀ (k:Nat) (e:Th.Ex) (st:Th.St) (q:Th.Ex × Th.St),Th.zcV ex k e st=some q->q.2.bad=none->st.bad=none
 |0,_,_,_,h=>by simp[Th.zcV]at h
 |k+1,e,st,q,h=>by
  rw[Th.zcV]at h;split at h
  ·simp only[zyQ]at h;obtain ⟨r,h1,h2⟩:=h;exact fun hb=>zfp hk h1 (zi7 hk k _ _ _ h2 hb)
  ·cases h;exact fun hb=>hb
theorem zfq(hk:zbD ex)(k:Nat)(st:Th.St)(q:Th.Ex × Th.St)(h:Th.zhP ex k st=some q):q.2.bad=none->st.bad=none:=by
 unfold Th.zhP at h;simp only[zyQ]at h;obtain ⟨r,h1,h2⟩:=h;exact fun hb=>zfp hk h1 (zi7 hk k _ _ _ h2 hb)
theorem zjx{sub:Th.St->Option (Th.Ex × Th.St)}(hs:∀ st q,sub st=some q->q.2.bad=none->st.bad=none)(a b:List UInt8):∀ (k:Nat) (e:Th.Ex) (st:Th.St) (q:Th.Ex × Th.St),Th.zku sub a b k e st=some q->q.2.bad=none->st.bad=none
 |0,_,_,_,h=>by simp[Th.zku]at h
 |k+1,e,st,q,h=>by
  rw[Th.zku]at h;split at h
  ·simp only[zyQ]at h;obtain ⟨r,h1,h2⟩:=h;exact fun hb=>zbz _ (hs _ _ h1 (zjx hs a b k _ _ _ h2 hb))
  ·cases h;exact fun hb=>hb
theorem zc4(hk:zbD ex)(k:Nat)(st:Th.St)(q:Th.Ex × Th.St)(h:Th.zcG ex k st=some q):q.2.bad=none->st.bad=none:=by
 unfold Th.zcG at h;simp only[zyQ]at h;obtain ⟨r,h1,h2⟩:=h;exact fun hb=>zfq hk k _ _ h1 (zjx (zfq hk k) _ _ k _ _ _ h2 hb)
theorem ze2(hk:zbD ex)(k:Nat)(st:Th.St)(q:Th.Ex × Th.St)(h:Th.zu0 ex k st=some q):q.2.bad=none->st.bad=none:=by
 unfold Th.zu0 at h;simp only[zyQ]at h;obtain ⟨r,h1,h2⟩:=h;exact fun hb=>zc4 hk k _ _ h1 (zjx (zc4 hk k) _ _ k _ _ _ h2 hb)
theorem zsa(hk:zbD ex)(k:Nat)(st:Th.St)(q:Th.Ex × Th.St)(h:Th.zjD ex k st=some q):q.2.bad=none->st.bad=none:=by
 unfold Th.zjD at h;simp only[zyQ]at h;obtain ⟨r,h1,h2⟩:=h;split at h2
 ·simp only[zyQ,zyP]at h2;obtain ⟨s,h3,rfl⟩:=h2;exact fun hb=>ze2 hk k _ _ h1 (zbz _ (ze2 hk k _ _ h3 hb))
 ·cases h2;exact ze2 hk k _ _ h1
theorem zi4{ex:Th.Rd}(hk:zbD ex):∀ (k:Nat) (l:List Th.Tok) (es:List Th.Ex) (st:Th.St) (q:List Th.Tok × List Th.Ex × Th.St),Th.zcu ex k l es st=some q->q.2.2.bad=none->st.bad=none
 |0,_,_,_,_,h=>by simp[Th.zcu]at h
 |k+1,l,es,st,q,h=>by
  rw[Th.zcu]at h;simp only[zyQ]at h;obtain ⟨r,h1,h2⟩:=h;have h0:r.2.bad=none->st.bad=none:=fun hb=>zc2 _ (zaC _ _ (hk _ _ _ h1 hb))
  split at h2
  ·exact fun hb=>h0 (zbz _ (zi4 hk k _ _ _ _ h2 hb))
  ·cases h2;exact h0
theorem zfn{ex:Th.Rd}(hk:zbD ex)(c:Bool):∀ (k:Nat) (l:List (Nat × List Th.Tok)) (es:List Th.Ex) (st:Th.St) (q:List (Nat × List Th.Tok) × List Th.Ex × Th.St),Th.zeD ex c k l es st=some q->q.2.2.bad=none->st.bad=none
 |0,_,_,_,_,h=>by simp[Th.zeD]at h
 |k+1,l,es,st,q,h=>by
  rw[Th.zeD]at h;simp only[zyQ]at h;obtain ⟨r,h1,h2⟩:=h;split at h2
  ·exact fun hb=>zfz hk h1 (zbz _ (zfn hk c k _ _ _ _ h2 hb))
  ·cases h2;exact zfz hk h1
theorem zrc(hk:zbD ex)(k:Nat):zbD (Th.zg7 ex k):=by
 intro c st q h hb;unfold Th.zg7 at h;split at h
 ·unfold Th.ztQ at h;simp only[zyQ,zyP]at h;obtain ⟨r,h1,s,h2,rfl⟩:=h;have:=zi4 hk k _ _ _ _ h1 (zaC _ _ (hk _ _ _ h2 hb));split at this
  ·exact zbz _ (zbz _ this)
  ·exact zbz _ this
 ·split at h
  ·unfold Th.zjy at h;simp only[zyQ,zyP]at h;obtain ⟨r,h1,s,h2,rfl⟩:=h;exact zbz _ (hk _ _ _ h1 (zaC _ _ (zfn hk c k _ _ _ _ h2 hb)))
  ·split at h
   ·unfold Th.ztO at h;simp only[zyQ,zyP]at h;obtain ⟨r,h1,rfl⟩:=h;exact zbz _ (zc2 _ (zcM _ (zaC _ _ (hk _ _ _ h1 hb))))
   ·exact zsa hk k _ _ h hb
theorem zcz:∀ n,zbD (Th.zdJ n)
 |0=>fun _ _ _ h=>by simp[Th.zdJ]at h
 |n+1=>zrc (zcz n) n
variable {w w2:World}{r tb:Nat}{T:List Th.Tok}{e:Th.Ex}{s:Th.St}
theorem ziV{w1:World}{en:Ending}(hg:w.grownBy w1 (some r))(h:Reads w1 r tb T e s en w2):Reads w r tb T e s en w2:=by
 obtain ⟨v,h1,h2,h3,h4⟩:=h;exact ⟨v,h1,h2.mono (fun k _ hk=>zyR hg.size hk),h3,zad hg h4⟩
variable {k:Nat}
theorem zxa(hx:zso ex)(hk:zbD ex)(uL:k<=1000000):zso (Th.zg7 ex k):=by
 intro c st q w r tb T hq h;have bd:=h.lt;have HQ:=zab hq;clear hq;go_enter func118,ntmps118
 go_wp2_with fail
 refine (zbG h ⟨#[108,101,116]⟩ (by simp)).mono ?_;rintro e w1 ⟨rfl,aW,bw⟩;have lW:=zab bw;clear bw h;cases h1:st.is Th.zqP
 ·rw[show st.is (ByteArray.mk #[108,101,116]).data.toList=false from h1]at aW ⊢;have lA:RS w1 r tb T st:=by simpa using aW
  have H1:=zab h1;clear h1 aW;go_wp2_with fail
  refine (zbG lA ⟨#[99,97,115,101]⟩ (by simp)).mono ?_;rintro e w2 ⟨rfl,aI,aF⟩;have ix:=zab (zad lW.o aF);clear aF lA;cases h2:st.is Th.zjO
  ·rw[show st.is (ByteArray.mk #[99,97,115,101]).data.toList=false from h2]at aI ⊢;have lB:RS w2 r tb T st:=by simpa using aI
   have H2:=zab h2;clear h2 aI;go_wp2_with fail
   refine (zbG lB ⟨#[92]⟩ (by simp)).mono ?_;rintro e w3 ⟨rfl,bP,aS⟩;have ej:=zab (zad ix.o aS);clear aS lB;cases h3:st.is [92]
   ·rw[show st.is (ByteArray.mk #[92]).data.toList=false from h3]at bP;have lC:RS w3 r tb T st:=by simpa using bP
    have mS:Hid (Th.zjD ex k st=some q):=zab (by have e:=HQ.o;rw[Th.zg7,H1.o,H2.o,h3]at e;simpa using e);clear h3 bP;go_wp2_with fail
    refine (zxW hx k _ _ _ _ _ _ mS.o lC).mono ?_;rintro en w4 hr;obtain ⟨v,rfl,cg⟩:=ziV ej.o hr;have hc:=cg.1.one.cells;have HR:=zab cg;clear hr cg lC;go_wp2_with fail
    go_ret
    exact ⟨v,rfl,HR.o⟩
   ·rw[show st.is (ByteArray.mk #[92]).data.toList=true from h3]at bP;have lC:RS w3 r tb T st.adv:=by simpa using bP
    have mS:Hid (Th.ztO ex c st.adv=some q):=zab (by have e:=HQ.o;rw[Th.zg7,H1.o,H2.o,h3]at e;simpa using e);clear h3 bP;go_wp2_with fail
    refine (ztn hx mS.o lC).mono ?_;rintro en w4 hr;obtain ⟨v,rfl,cg⟩:=ziV ej.o hr;have hc:=cg.1.one.cells;have HR:=zab cg;clear hr cg lC;go_wp2_with fail
    go_ret
    exact ⟨v,rfl,HR.o⟩
  ·rw[show st.is (ByteArray.mk #[99,97,115,101]).data.toList=true from h2]at aI ⊢;have lB:RS w2 r tb T st.adv:=by simpa using aI
   have bC:Hid (Th.zjy ex k c st.adv=some q):=zab (by have e:=HQ.o;rw[Th.zg7,H1.o,h2]at e;simpa using e);clear h2 aI;go_wp2_with fail
   refine (zsM hx hk uL bC.o lB).mono ?_;rintro en w4 hr;obtain ⟨v,rfl,cg⟩:=ziV ix.o hr;have hc:=cg.1.one.cells;have HR:=zab cg;clear hr cg lB;go_wp2_with fail
   go_ret
   exact ⟨v,rfl,HR.o⟩
 ·rw[show st.is (ByteArray.mk #[108,101,116]).data.toList=true from h1]at aW ⊢;have lA:RS w1 r tb T st.adv:=by simpa using aW
  have cF:Hid (Th.ztQ ex k c st.adv=some q):=zab (by have e:=HQ.o;rw[Th.zg7,h1]at e;simpa using e);clear h1 aW;go_wp2_with fail
  refine (zyn hx hk uL cF.o lA).mono ?_;rintro en w4 hr;obtain ⟨v,rfl,cg⟩:=ziV lW.o hr;have hc:=cg.1.one.cells;have HR:=zab cg;clear hr cg lA;go_wp2_with fail
  go_ret
  exact ⟨v,rfl,HR.o⟩
theorem zs0:∀ (n:Nat),n<=1000000->zso (Th.zdJ n)
 |0,_=>fun _ _ _ _ _ _ _ h=>by simp[Th.zdJ]at h
 |n+1,hn=>zxa (zs0 n (by omega)) (zcz n) (by omega)
theorem znU:(prog.info? 93).map (fun i=>(i.zero,i.size,i.bytes))=some (some (.agg #[.string ⟨#[]⟩,.int .i64 0,.slice none 0 0,.nilIface]),4,64):=by kernel_rfl
def zaR:List Th.zbr->List Value->List Value->List Value
 |x::l,n::ns,v::vs=>[.string ⟨x.name.s.toArray⟩,.int .i64 x.name.at_,n,v]++zaR l ns vs
 |_,_,_=>[]
theorem zga:∀ (l:List Th.zbr) (ns vs:List Value) (a:Th.zbr) (n v:Value),l.length=ns.length->l.length=vs.length->zaR (l++[a]) (ns++[n]) (vs++[v])=zaR l ns vs++[.string ⟨a.name.s.toArray⟩,.int .i64 a.name.at_,n,v]
 |[],[],[],_,_,_,_,_=>rfl
 |x::l,y::ns,z::vs,a,n,v,h1,h2=>by
  simp only[zy7,zaR];rw[zga l ns vs a n v (by simpa using h1) (by simpa using h2)];simp
 |[],_::_,_,_,_,_,h,_=>by simp at h
 |[],[],_::_,_,_,_,_,h=>by simp at h
 |_::_,[],_,_,_,_,h,_=>by simp at h
 |_::_,_::_,[],_,_,_,_,h=>by simp at h
variable {p:Int}{v:Value}
theorem onel{s:ByteArray}{u:Value}(h1:u.oneCell'=true)(h:v.oneCell'=true):∀ x∈[Value.string s,.int .i64 p,u,v],x.oneCell'=true:=by
 intro x hu;simp only[zzo,zzZ,or_false]at hu;rcases hu with rfl|rfl|rfl|rfl
 ·rfl
 ·rfl
 ·exact h1
 ·exact h
def zdv (S:Nat->Prop) (w:World) (n:Nat) (l:List Th.zbr) (nvs bvs:List Value):Prop:=
 ∀ (i:Nat) (x:Th.zbr) (nv bv:Value),l[i]?=some x->nvs[i]?=some nv->bvs[i]?=some bv->Row S w 88 2 nv x.params.length (zaj x.params)/\Rep S w n bv x.e
structure zl1 (w wr:World) (r tb:Nat) (T:List Th.Tok) (l:List Th.zbr) (s1:Th.St) (sv:Value):Prop where
 rs:RS wr r tb T s1
 gb:w.grownBy wr (some r)
 parts:∃ nvs bvs,nvs.length=l.length/\bvs.length=l.length/\wr.ownsRow w.heap.size 93 4 sv l.length (zaR l nvs bvs) /\
  (s1.bad=none->∃ n,zdv (fun b=>zat w b/\some b≠sv.ownBlock) wr n l nvs bvs)
variable {wr w3:World}{s1 s2:Th.St}{sv nv:Value}{g cap:Nat}
theorem zl1.add{l:List Th.zbr}{x:Th.zbr}{nvs bvs:List Value}{o:Obj}(hB:zl1 w wr r tb T l s1 sv)(aL:nvs.length=l.length)(aC:bvs.length=l.length)(fS:wr.ownsRow w.heap.size 93 4 sv l.length (zaR l nvs bvs))(mf:s1.bad=none->∃ n,zdv (fun b=>zat w b/\some b≠sv.ownBlock) wr n l nvs bvs)(bd:r<w.heap.size)(cu:tb<w.heap.size)(ay:Row (zat wr) w2 88 2 nv x.params.length (zaj x.params))(aq:Got (zat wr) w2 v x.e s2)(aI:RS w2 r tb T s2)(aF:wr.grownBy w2 (some r))(ai:w3.ownsRow w.heap.size 93 4 (.slice (some ⟨g,0,none⟩) (l.length+1) cap) (l.length+1) (zaR l nvs bvs++[.string ⟨x.name.s.toArray⟩,.int .i64 x.name.at_,nv,v]))(ah:(w2.alloc o).grownBy w3 sv.ownBlock)(aV:sv.ownBlock=some g\/g=w2.heap.size+1)(aQ:s2.bad=none->s1.bad=none):
  zl1 w w3 r tb T (l++[x]) s2 (.slice (some ⟨g,0,none⟩) (l.length+1) cap):=by
 have bF:wr.heap.size<=w2.heap.size:=aF.size;have aP:=hB.gb.size;have cD:∀ b,sv.ownBlock=some b->w.heap.size<=b/\b<wr.heap.size:=fun b hb=>⟨(fS.lt b hb).1,(fS.lt b hb).2⟩
 have lz:some r≠sv.ownBlock:=fun e=>by have:=(cD r e.symm).1;omega
 have tw:some tb≠sv.ownBlock:=fun e=>by have:=(cD tb e.symm).1;omega
 have key:∀ b,some b≠sv.ownBlock->b<w2.heap.size->some b≠some g:=by
  intro b aw bD e;cases e;rcases aV with h|h
  ·exact aw h.symm
  ·omega
 have lN:∀ {ty:TypeId} {sz m:Nat} {u:Value} {ys:List Value},Row (fun b=>zat w b/\some b≠sv.ownBlock) wr ty sz u m ys ->
   Row (fun b=>zat w b/\some b≠some g) w3 ty sz u m ys:=by
  intro ty sz m u ys hr;have a2:=hr.gb aF (fun k hk h=>by cases hk;simp only[zat]at h;omega);have a3:Row (fun b=>zat w b/\some b≠sv.ownBlock/\b<w2.heap.size) w2 ty sz u m ys:=a2.mono (fun k hk h=>⟨h.1,h.2,hk⟩);have a4:=a3.gb (zag w2 o none) (by simp);have a5:=a4.gb ah (fun k hk h=>h.2.1 hk.symm);exact a5.mono (fun k _ h=>⟨h.1,key k h.2.1 h.2.2⟩)
 have lM:∀ {ty:TypeId} {sz m:Nat} {u:Value} {ys:List Value},Row (zat wr) w2 ty sz u m ys ->
   Row (fun b=>zat w b/\some b≠some g) w3 ty sz u m ys:=by
  intro ty sz m u ys hr;have a3:Row (fun b=>wr.heap.size<=b/\b<w2.heap.size) w2 ty sz u m ys:=hr.mono (fun k hk h=>⟨h,hk⟩);have a4:=a3.gb (zag w2 o none) (by simp);have a5:=a4.gb ah (fun k hk h=>by have:=(cD k hk).2;omega);exact a5.mono (fun k _ h=>⟨by simp only[zat];omega,key k (fun e=>by have:=(cD k e.symm).2;omega) h.2⟩)
 refine ⟨(aI.alloc o).gb ah lz tw,?_,nvs++[nv],bvs++[v],by simp[aL],by simp[aC],?_,?_⟩
 ·have h1:w.grownBy (w2.alloc o) (some r):=zad (zad hB.gb aF) (zag w2 o _);exact ⟨ah.os.trans h1.os,ah.tape.trans h1.tape,ah.output.trans h1.output,zyR h1.size ah.size,
   fun k hk hr=>(ah.block k (zyS hk h1.size) (fun e=>by have:=(cD k e.symm).1;omega)).trans (h1.block k hk hr)⟩
 ·rw[zga l nvs bvs x nv v aL.symm aC.symm,zyT];exact ai
 ·intro hb;obtain ⟨n1,cR⟩:=mf (aQ hb);obtain ⟨n2,eY⟩:=aq.rep hb;refine ⟨n1+n2,fun i a u p ha hu hp=>?_⟩;rcases zbI ha with h1|⟨h1,rfl⟩
  ·have hi:i<l.length:=(zyL.1 h1).1;rcases zbI hu with h2|⟨h2,rfl⟩
   ·rcases zbI hp with h3|⟨h3,rfl⟩
    ·exact ⟨lN (cR i a u p h1 h2 h3).1,Rep.imp (fun _ _ _ _ _ hR=>lN hR) _ _ _ ((cR i a u p h1 h2 h3).2.le (zz0 n1 n2))⟩
    ·omega
   ·omega
  ·rcases zbI hu with h2|⟨h2,rfl⟩
   ·rw[zzK (by omega)]at h2;simp at h2
   ·rcases zbI hp with h3|⟨h3,rfl⟩
    ·rw[zzK (by omega)]at h3;simp at h3
    ·exact ⟨lM ay,Rep.imp (fun _ _ _ _ _ hR=>lM hR) _ _ _ (eY.le (zAc n2 n1))⟩
variable {w':World}
theorem zl1.step{l:List Th.zbr}(hB:zl1 w wr r tb T l s1 sv)(bd:r<w.heap.size)(hg:wr.grownBy w' (some r))(hs:RS w' r tb T s2)(hb:s2.bad=none->s1.bad=none):zl1 w w' r tb T l s2 sv:=by
 obtain ⟨nvs,bvs,h1,iB,h2,h3⟩:=hB.parts;refine ⟨hs,zad hB.gb hg,nvs,bvs,h1,iB,h2.kept hg (zdi h2 bd),fun aQ=>?_⟩;obtain ⟨n,hn⟩:=h3 (hb aQ);exact ⟨n,fun i a u p x y z=>⟨(hn i a u p x y z).1.gb hg (fun k hk h=>by cases hk;simp only[zat]at h;omega),(hn i a u p x y z).2.gb hg (fun k hk h=>by cases hk;simp only[zat]at h;omega)⟩⟩
end Go.Proofs.YtgahgkddaljmkaaGreatDoor
namespace Go.Proofs.YtgahgkddaljmkaaGreatDoor
open Tryz
open Go.RowKit
attribute [local go_sem] zcZ zc0 zc1
def zb6 (t:Th.Tok):List Value:=[.int .i64 t.k,.string ⟨t.s.toArray⟩,.int .i64 t.at_]
def za2 (l:List Th.Tok):List Value:=l.flatMap zb6
theorem zht:∀ (l:List Th.Tok) (i:Nat) (t:Th.Tok),l[i]?=some t->(za2 l)[i*3]?=some (.int .i64 t.k)/\(za2 l)[i*3+1]?=some (.string ⟨t.s.toArray⟩)/\(za2 l)[i*3+2]?=some (.int .i64 t.at_)
 |[],i,t,h=>by simp at h
 |x::l,0,t,h=>by
  simp only[zzl,zyP]at h;subst h;exact ⟨rfl,rfl,rfl⟩
 |x::l,i+1,t,h=>by
  have ih:=zht l i t (by simpa using h);have e:∀ c,(za2 (x::l))[(i+1)*3+c]?=(za2 l)[i*3+c]?:=by
   intro c;rw[show za2 (x::l)=zb6 x++za2 l from rfl,zy3 (by simp[zb6];omega)];congr 1;simp[zb6];omega
  refine ⟨?_,?_,?_⟩
  ·have:=e 0;simp only[zzO]at this;rw[this];exact ih.1
  ·rw[e 1];exact ih.2.1
  ·rw[e 2];exact ih.2.2
def zay (s:ByteArray):List Th.Tok:=Th.zdN (s.size+1) s.data.toList 0
def znl:Prop:=∀ (s:ByteArray) (w:World),s.size<=600 ->
 Calls prog 66 #[.string s] w fun e w'=>∃ v,e=.returned v/\w'.ownsRow w.heap.size 135 3 v (zay s).length (za2 (zay s))/\Below w.heap.size w w'
variable {w:World}{r tb:Nat}{T:List Th.Tok}{st:Th.St}
theorem RS.failed(h:RS w r tb T st):w.cell? ⟨r,2,none⟩=some (.bool st.bad.isSome)/\(∀ p,st.bad=some p->w.cell? ⟨r,3,none⟩=some (.int .i64 p)):=by
 obtain ⟨cap,n,f,p,h,rfl⟩:=h;have h2:=h.blk.cell 2;have h3:=h.blk.cell 3;simp at h2 h3;cases f with
 |false=>exact ⟨h2,fun p hp=>by simp[zby]at hp⟩
 |true=>exact ⟨h2,fun p hp=>by simp[zby]at hp;rw[h3,hp]⟩
def ziZ (S:Nat->Prop) (w:World) (pv:Value) (l:List Th.zbr):Prop:=
 ∃ nvs bvs n,nvs.length=l.length/\bvs.length=l.length/\Row S w 93 4 pv l.length (zaR l nvs bvs)/\zdv S w n l nvs bvs
variable {ex:Th.Rd}
theorem zrC(hk:zbD ex){q:Th.zbr × Th.St}(h:Th.zmE ex st=some q):q.2.bad=none->st.bad=none:=by
 unfold Th.zmE at h;simp only[zyQ,zyP]at h;obtain ⟨r,h1,rfl⟩:=h;exact fun hb=>zc2 _ (zcM _ (zaC _ _ (hk _ _ _ h1 (zaC _ _ hb))))
def zu3 (w:World) (q:List Th.zbr × Th.St) (e:Ending) (w':World):Prop:=
 Below w.heap.size w w'/\((∃ p,q.2.bad=some p/\e=.returned (.tuple #[.slice none 0 0,.int .i64 p,.bool false])) \/
   (q.2.bad=none/\∃ pv,e=.returned (.tuple #[pv,.int .i64 0,.bool true])/\ziZ (zat w) w' pv q.1))
variable {wr:World}{s1:Th.St}{sv:Value}
theorem zf0{l:List Th.zbr}{B:Nat}(h:zl1 w wr r tb T l s1 sv)(hB:B<=r)(hr:r<w.heap.size):Below B w wr:=
 ⟨h.gb.os,h.gb.tape,h.gb.output,h.gb.size,fun k hk=>h.gb.block k (by omega) (by simp;omega)⟩
theorem zpJ(hC:znl)(s:ByteArray)(w:World)(hs:s.size<=600)(gJ:Good (zay s))(aH:zay s≠[])(n k:Nat)(hn:n<=1000000)(hk:k<=1000000)(q:List Th.zbr × Th.St)(hq:Th.zcn (Th.zdJ n) k [] ⟨zay s,none⟩=some q):
  Calls prog 41 #[.string s] w fun e w'=>zu3 w q e w':=by
 obtain ⟨i0,dt,bq,aP,bF⟩:=info_parts znU;have HI:=zab dt;clear dt;have HZ:=zab (And.intro bq (And.intro aP bF));clear bq aP bF;have HQ:=zab hq;have HX:=zab (zs0 n hn);have HG:=zab gJ;generalize hT:zay s=T at *;have HT:=zab hT;clear hT hq gJ;go_enter func41,ntmps41
 go_wp2_with fail
 refine (hC s _ hs).mono ?_;rintro e w1 ⟨v,rfl,af,aA⟩;rw[HT.o]at af;obtain ⟨tb,cap,rfl⟩:=zqK af (zzA.2 aH);have tj:=(af.lt tb rfl);have zW:RI (w1.alloc (.cells #[.slice (some ⟨tb,0,none⟩) T.length cap,.int .i64 0,.bool false,.int .i64 0] 132)) w1.heap.size tb cap T 0 false 0:=by
  refine ⟨Blk.new w1 [.slice (some ⟨tb,0,none⟩) T.length cap,.int .i64 0,.bool false,.int .i64 0] 132,?_,by omega,zzA.2 aH,HG.o,by simp,?_⟩
  ·intro i t ht;have aj:i<T.length:=(zyL.1 ht).1;have hc:=zht T i t ht;have ez:=af.alloc (.cells #[.slice (some ⟨tb,0,none⟩) T.length cap,.int .i64 0,.bool false,.int .i64 0] 132);refine ⟨?_,?_,?_⟩
   ·rw[ez.cellAt _ (by omega)];exact hc.1
   ·rw[ez.cellAt _ (by omega)];exact hc.2.1
   ·rw[ez.cellAt _ (by omega)];exact hc.2.2
  ·rcases af.2 with ⟨h,_⟩|⟨g,c,cur,h,_,_,hle,_⟩
   ·cases h
   ·cases h;exact hle
 have zT:zl1 (w1.alloc (.cells #[.slice (some ⟨tb,0,none⟩) T.length cap,.int .i64 0,.bool false,.int .i64 0] 132)) (w1.alloc (.cells #[.slice (some ⟨tb,0,none⟩) T.length cap,.int .i64 0,.bool false,.int .i64 0] 132)) w1.heap.size tb T [] ⟨T,none⟩ (.slice none 0 0):=
  ⟨⟨cap,0,false,0,zW,by simp[zby]⟩,zcT _ _,[],[],rfl,rfl,World.ownsRow_nil _ _ _ _,fun _=>⟨0,fun i x nv bv hh _ _=>by simp at hh⟩⟩
 have kB:=zab zT;have aP:=aA.size;have cB:=zab ((aA.trans ((zam w1 _).mono aP)):Below w.heap.size w (w1.alloc (.cells #[.slice (some ⟨tb,0,none⟩) T.length cap,.int .i64 0,.bool false,.int .i64 0] 132)));clear zW zT af aA;go_wp2_with fail
 generalize rL:w1.alloc (.cells #[.slice (some ⟨tb,0,none⟩) T.length cap,.int .i64 0,.bool false,.int .i64 0] 132)=W0 at *;have mI:w1.heap.size<W0.heap.size:=by rw[<-rL];simp
 clear rL
 go_loopg [2] k (fun g sv wr=>∃ l s1,zl1 W0 wr w1.heap.size tb T l s1 sv/\l.length+g<=k/\Th.zcn (Th.zdJ n) g l s1=some q)
 case atStart=>exact ⟨[],_,kB.o,by simp,HQ.o⟩
 case round=>
  obtain ⟨l,s1,hL,mO,hp⟩:=hrel;have HL:=zab hL;have aW:=hL.rs;have hf:=aW.failed;have aL:=aW.lt;clear hL;cases gk with
  |zero=>simp[Th.zcn]at hp
  |succ gg=>
   rw[Th.zcn]at hp;cases dq:s1.bad with
   |some p=>
    rw[dq]at hp hf;simp only[Option.isNone_some,Bool.false_and,zzw,if_false,zyP]at hp;subst hp;have c2:=hf.1;have c3:=hf.2 p rfl;simp at c2;have qJ:=zab dq;clear hf dq aW;go_wp2_with fail
    go_quiet (fail)
    go_wp2_with fail
    go_ret3
    exact ⟨below_drewN (cB.o.trans (zf0 HL.o aP mI)) _,.inl ⟨p,qJ.o,rfl⟩⟩
   |none=>
    rw[dq]at hp hf;obtain ⟨t,tk,ti,th,tm,tc⟩:=zhs aW;have jd:=th dq;have c2:=hf.1;simp at c2;have qJ:=zab dq;have gF:=zab aW;clear hf dq tk ti th tm aW;cases dF:(t.k == 0)
    ·have cK:((t.k:Int) == 0)=false:=by simp at dF ⊢;omega
     have aG:((t.k:Int) != 0)=true:=by simp at dF ⊢;omega
     rw[jd]at hp;have e0:(t.k != 0)=true:=by simpa using dF
     simp only[Option.isNone_none,Bool.true_and,e0,if_true,zyQ]at hp;obtain ⟨q2,bC,fB⟩:=hp;have oD:=zab bC;have Cs:=zab fB;clear dF e0 jd bC fB;go_wp2_with fail
     refine tc.mono ?_;rintro e w2 ⟨rfl,aw⟩;have kC:=zab (HL.o.step mI (zaf _ aw) (gF.o.below aw) (fun hb=>hb));clear tc aw c2;go_wp2_with fail
     refine (zpu HX.o oD.o kC.o.rs).mono ?_;rintro e w3 ⟨nv,bv,rfl,ay,aq,bP,aS⟩;obtain ⟨nvs,bvs,aL,aC,fS,mf⟩:=kC.o.parts;have bR:=aq.one.one;have iM:=row_one ay;have x5:=(fS.kept aS (zdi fS mI)).alloc (.cells #[.string ⟨q2.1.name.s.toArray⟩,.int .i64 q2.1.name.at_,nv,bv] 93);have ym:W0.heap.size<=w3.heap.size:=zyR kC.o.gb.size aS.size;have H3:=zab (And.intro ay (And.intro aq (And.intro bP aS)));have HP:=zab (And.intro aL (And.intro aC (And.intro fS mf)));have gV:=zan ay;have mV:=aq.one.shape;clear ay aq bP aS aL aC fS mf;go_wp2_with (at_builtin;refine wpList_append_lies _ rfl _ _ _ rfl W0.heap.size 93 i0 _ 4 64 underlying60 HI.o HZ.o.1 HZ.o.2.1 HZ.o.2.2 rfl (by omega) _ l.length (zaR l nvs bvs) rfl x5 ⟨w3.heap.size,0,none⟩ 1 1 [.string ⟨q2.1.name.s.toArray⟩,.int .i64 q2.1.name.at_,nv,bv] rfl rfl (World.news_of_block (cs:=#[.string ⟨q2.1.name.s.toArray⟩,.int .i64 q2.1.name.at_,nv,bv]) (t:=93) (fr:=(0,0)) (heap_alloc_new w3 _)) (onel iM bR) (by omega) (by unfold maxLen;omega) (by omega) (by simp;omega) (w3.heap.size+1) (by simp) ?_;intro g cap w4 ai ah aV aj)
     go_roundg gg
     case measure=>omega
     case rel=>
      exact ⟨l++[q2.1],q2.2,kC.o.add HP.o.1 HP.o.2.1 HP.o.2.2.1 HP.o.2.2.2 mI (by omega) H3.o.1 H3.o.2.1 H3.o.2.2.1 H3.o.2.2.2 ai ah aV (zrC (zcz n) oD.o),by simp;omega,Cs.o⟩
    ·have cK:((t.k:Int) == 0)=true:=by simp at dF ⊢;omega
     have aG:((t.k:Int) != 0)=false:=by simp at dF ⊢;omega
     rw[jd]at hp;have e0:(t.k != 0)=false:=by simpa using dF
     simp only[Option.isNone_none,Bool.true_and,e0,zzw,if_false,zyP]at hp;subst hp;clear dF e0 jd;go_wp2_with fail
     refine tc.mono ?_;rintro e w2 ⟨rfl,aw⟩;have kC:=zab (HL.o.step mI (zaf _ aw) (gF.o.below aw) (fun hb=>hb));have zs:=kC.o.rs.failed.1;rw[qJ.o]at zs;simp at zs;clear tc aw c2;go_wp2_with fail
     go_ret3
     refine ⟨cB.o.trans (zf0 kC.o aP mI),.inr ⟨qJ.o,u2,rfl,?_⟩⟩;obtain ⟨nvs,bvs,aL,aC,fS,mf⟩:=kC.o.parts;obtain ⟨m,hm⟩:=mf qJ.o;have kk:w.heap.size<=W0.heap.size:=by omega
     refine ⟨nvs,bvs,m,aL,aC,(Row.zaE fS).mono (fun k _ hk=>zyR kk hk),fun i x nv bv a b c=>?_⟩;have:=hm i x nv bv a b c;exact ⟨this.1.mono (fun k _ hk=>zyR kk hk.1),this.2.mono (fun k _ hk=>zyR kk hk.1)⟩
end Go.Proofs.YtgahgkddaljmkaaGreatDoor
