/- Par9 .. Par13 -/
import Derived.Test.YtgahgkddaljmkaaGreatDoorW11
import Derived.Deep.AppendLies
import Derived.Deep.DeepCutAuto
set_option maxRecDepth 100000
set_option maxHeartbeats 4000000
namespace Go.Proofs.YtgahgkddaljmkaaGreatDoor
open Tryz
open Go.RowKit
attribute [local go_sem ↓] Go.wp_at_zero Go.wp_at_succ
theorem zvE:(prog.info? 312).map (fun i=>(i.zero,i.size,i.bytes))=some (some (.agg #[.string ⟨#[]⟩,.int .i64 0,.nilIface]),3,40):=by kernel_rfl
theorem RS.drew{w:World}{r tb:Nat}{T:List Th.Tok}{st:Th.St}(h:RS w r tb T st):RS w.drew r tb T st:=h.gb (zbO w none) (by simp) (by simp)
variable {v:Value}
theorem one3{s:ByteArray}{p:Int}(h:v.oneCell'=true):∀ u∈[Value.string s,.int .i64 p,v],u.oneCell'=true:=by
 intro u hu;simp only[zzo,zzZ,or_false]at hu;rcases hu with rfl|rfl|rfl
 ·rfl
 ·rfl
 ·exact h
abbrev zsr (w:World) (b o:Nat) (v:Value):Prop:=w.cell? ⟨b,o,none⟩=some v/\w.frozen? ⟨b,o,none⟩=false
variable {w:World}
variable {b:Nat}
theorem zdf{vs:List Value}{t:TypeId}(h:Blk w b vs t)(o:Nat)(e:vs[o]?=some v):zsr w b o v:=⟨(h.cell o).trans e,h.frozen o⟩
variable {w':World}
variable {o:Nat}
theorem zsr.gb(h:zsr w b o v){row:Option Nat}(hg:w.grownBy w' row)(hr:some b≠row):zsr w' b o v:=
 ⟨zma hg h.1 hr,by rw[World.frozen?_of_block (w:=w) (hg.block b (zeK h.1) hr)];exact h.2⟩
theorem zsr.drew{w:World}{b o:Nat}{v:Value}(h:zsr w b o v):zsr w.drew b o v:=h
theorem zsr.alloc{w:World}{b o:Nat}{v:Value}(h:zsr w b o v)(ob:Obj):zsr (w.alloc ob) b o v:=h.gb (zag w ob none) (by simp)
structure zkv (w wr:World) (r tb eb:Nat) (T:List Th.Tok) (rc:Bool) (l:List Th.Tok) (es:List Th.Ex) (s1:Th.St) (sv:Value):Prop where
 blk:Blk wr eb [.bool rc,sv,.nilIface] 178
 lo:w.heap.size<=eb
 rs:RS wr r tb T s1
 gb:w.grownBy wr (some r)
 len:l.length=es.length
 parts:∃ pvs,pvs.length=l.length/\wr.ownsRow (eb+1) 312 3 sv l.length (zaM l pvs) /\
  (s1.bad=none->∃ n,∀ (i:Nat) (pv:Value) (p:Th.Ex),pvs[i]?=some pv->es[i]?=some p->Rep (fun b=>eb<b/\some b≠sv.ownBlock) wr n pv p)
theorem zbI{α:Type}{l:List α}{a:α}{i:Nat}{x:α}(h:(l++[a])[i]?=some x):l[i]?=some x\/(i=l.length/\x=a):=by
 rcases zAw i l.length with hi|hi
 ·rw[zzc hi]at h;exact .inl h
 ·rw[zy3 hi]at h;have:i-l.length=0:=by
   rcases Nat.eq_zero_or_pos (i-l.length) with h0|h0
   ·exact h0
   ·rw[zzK (by simp;omega)]at h;simp at h
  rw[this]at h;simp at h;exact .inr ⟨by omega,h.symm⟩
variable {wr w2 w3:World}
variable {r tb eb:Nat}
variable {T:List Th.Tok}
variable {rc:Bool}
variable {l:List Th.Tok}
variable {es:List Th.Ex}
variable {s1 s2:Th.St}
variable {sv:Value}
variable {e:Th.Ex}
variable {g cap:Nat}
theorem zkv.add{x:Th.Tok}{pvs:List Value}{o:Obj}(hB:zkv w wr r tb eb T rc l es s1 sv)(hl:pvs.length=l.length)(fS:wr.ownsRow (eb+1) 312 3 sv l.length (zaM l pvs))(mf:s1.bad=none->∃ n,∀ (i:Nat) (pv:Value) (p:Th.Ex),pvs[i]?=some pv->es[i]?=some p->Rep (fun b=>eb<b/\some b≠sv.ownBlock) wr n pv p)(bd:r<w.heap.size)(cu:tb<w.heap.size)(aq:Got (zat wr.drew) w2 v e s2)(aI:RS w2 r tb T s2)(aF:wr.drew.grownBy w2 (some r))(ai:w3.ownsRow (eb+1) 312 3 (.slice (some ⟨g,0,none⟩) (l.length+1) cap) (l.length+1) (zaM l pvs++[.string ⟨x.s.toArray⟩,.int .i64 x.at_,v]))(ah:(w2.alloc o).grownBy w3 sv.ownBlock)(aV:sv.ownBlock=some g\/g=w2.heap.size+1)(aQ:s2.bad=none->s1.bad=none):
  zkv w (w3.setCell ⟨eb,1,none⟩ (.slice (some ⟨g,0,none⟩) (l.length+1) cap)) r tb eb T rc (l++[x]) (es++[e]) s2 (.slice (some ⟨g,0,none⟩) (l.length+1) cap):=by
 have fN:=hB.lo;have xw:=hB.blk.lt;have bF:wr.heap.size<=w2.heap.size:=aF.size;have cD:∀ b,sv.ownBlock=some b->eb<b/\b<wr.heap.size:=fun b hb=>⟨(fS.lt b hb).1,(fS.lt b hb).2⟩
 have aH:some eb≠sv.ownBlock:=fun e=>by have:=(cD eb e.symm).1;omega
 have nO:eb<g:=by
  rcases aV with h|h
  ·exact (cD g h).1
  ·omega
 have lz:some r≠sv.ownBlock:=fun e=>by have:=(cD r e.symm).1;omega
 have tw:some tb≠sv.ownBlock:=fun e=>by have:=(cD tb e.symm).1;omega
 have kQ:Blk w3 eb [.bool rc,sv,.nilIface] 178:=((hB.blk.drew.grown aF (by simp;omega)).alloc o).grown ah aH;refine ⟨?_,fN,?_,?_,by simp[hB.len],pvs++[v],by simp[hl],?_,?_⟩
 ·exact kQ.set 1 _
 ·exact ((aI.alloc o).gb ah lz tw).set eb 1 _ (by omega) (by omega)
 ·refine zap ?_ _ _ fN;have h1:w.grownBy (w2.alloc o) (some r):=zad (zad (zad hB.gb (zbO wr _)) aF) (zag w2 o _);exact ⟨ah.os.trans h1.os,ah.tape.trans h1.tape,ah.output.trans h1.output,zyR h1.size ah.size,
   fun k hk hr=>(ah.block k (zyS hk h1.size) (fun e=>by have:=(cD k e.symm).1;omega)).trans (h1.block k hk hr)⟩
 ·rw[zf1 l pvs x v hl.symm,zyT];exact ownsRow_setCell_below (a:=⟨eb,1,none⟩) ai (by simp) _
 ·intro hb;obtain ⟨n1,cR⟩:=mf (aQ hb);obtain ⟨n2,eY⟩:=aq.rep hb;refine ⟨n1+n2,fun i pv p eD hp=>?_⟩;have key:∀ b,eb<b->some b≠sv.ownBlock->b<w2.heap.size->some b≠some g:=by
   intro b aA aw bD e;cases e;rcases aV with h|h
   ·exact aw h.symm
   ·omega
  rcases zbI eD with h1|⟨h1,rfl⟩
  ·rcases zbI hp with h2|⟨h2,rfl⟩
   ·have hr:=(cR i pv p h1 h2).le (zz0 n1 n2);have a1:=hr.gb (zbO wr none) (by simp);have a2:=a1.gb aF (fun k hk=>by cases hk;omega);have a3:Rep (fun b=>eb<b/\some b≠sv.ownBlock/\b<w2.heap.size) w2 (n1+n2) pv p:=a2.mono (fun k hk h=>⟨h.1,h.2,hk⟩);have a4:=a3.gb (zag w2 o none) (by simp);have a5:=a4.gb ah (fun k hk h=>h.2.1 hk.symm);have a6:=a5.gb (zaT w3 eb 1 (.slice (some ⟨g,0,none⟩) (l.length+1) cap)) (fun k hk h=>by cases hk;omega);exact a6.mono (fun k _ h=>⟨h.1,key k h.1 h.2.1 h.2.2⟩)
   ·rw[zzK (by rw[hl,hB.len];omega)]at h1;simp at h1
  ·rcases zbI hp with h2|⟨h2,rfl⟩
   ·rw[zzK (by rw[<-hB.len,<-hl];omega)]at h2;simp at h2
   ·have a2:=eY.le (zAc n2 n1);have a3:Rep (fun b=>wr.heap.size<=b/\b<w2.heap.size) w2 (n1+n2) pv p:=a2.mono (fun k hk h=>⟨h,hk⟩);have a4:=a3.gb (zag w2 o none) (by simp);have a5:=a4.gb ah (fun k hk h=>by have:=(cD k hk).2;omega);have a6:=a5.gb (zaT w3 eb 1 (.slice (some ⟨g,0,none⟩) (l.length+1) cap)) (fun k hk h=>by cases hk;omega);exact a6.mono (fun k _ h=>⟨by omega,key k (by omega) (fun e=>by have:=(cD k e.symm).2;omega) h.2⟩)
def zbD (ex:Th.Rd):Prop:=∀ c st q,ex c st=some q->q.2.bad=none->st.bad=none
theorem zc2(st:Th.St):(Th.zaL st).2.bad=none->st.bad=none:=by
 intro h;unfold Th.zaL at h;split at h
 ·simpa [Th.St.adv] using h
 ·simp only at h;unfold Th.St.fail at h;split at h
  ·simp at h
  ·exact h
theorem zkv.step(hB:zkv w wr r tb eb T rc l es s1 sv)(bd:r<w.heap.size)(hg:wr.grownBy w' (some r))(hs:RS w' r tb T s2)(hb:s2.bad=none->s1.bad=none):zkv w w' r tb eb T rc l es s2 sv:=by
 have fN:=hB.lo;obtain ⟨pvs,h1,h2,h3⟩:=hB.parts;refine ⟨hB.blk.grown hg (by simp;omega),fN,hs,zad hB.gb hg,hB.len,pvs,h1,h2.kept hg (zdi h2 (by omega)),fun aQ=>?_⟩;obtain ⟨n,hn⟩:=h3 (hb aQ);exact ⟨n,fun i pv p a b=>(hn i pv p a b).gb hg (fun k hk=>by cases hk;omega)⟩
variable {st:Th.St}
theorem zvv :st.fail.bad≠none:=by
 unfold Th.St.fail;split
 ·simp
 ·simp_all
theorem zxH(hB:zkv w wr r tb eb T rc l es s1 sv)(bd:r<w.heap.size)(hg:wr.grownBy w' (some r))(aq:Got (zat wr) w' v e s2)(hb:s2.bad=none->s1.bad=none):
  Got (zat w) (w'.setCell ⟨eb,2,none⟩ v) (.iface 178 (.agg #[.bool rc,sv,v])) (Th.mkLet rc l es e) s2:=by
 have fN:=hB.lo;have xw:=hB.blk.lt;obtain ⟨pvs,h1,h2,h3⟩:=hB.parts;refine ⟨zb0 _ _,fun aQ=>?_⟩;obtain ⟨n1,cR⟩:=h3 (hb aQ);obtain ⟨n2,eY⟩:=aq.rep aQ;have hz:=hB.gb.size;have cS:=zaT w' eb 2 v;refine ⟨n1+n2+1,.inr (.inr (.inr (.inr (.inr (.inr (.inl ?_))))))⟩;refine ⟨by cases rc <;> simp[Th.mkLet],sv,v,e,es,pvs,rfl,by cases rc <;> rfl,hB.len.symm,h1,?_,?_,?_⟩
 ·have hk:=(h2.kept hg (zdi h2 (by omega))).kept cS (zdi h2 (by omega));exact ⟨za0 hk (zy5 _),fun b hb=>by have:=(hk.lt b hb).1;simp only[zat];omega⟩
 ·intro i pv p a b;exact (((cR i pv p a b).le (by omega)).gb hg (fun k hk=>by cases hk;omega)).gb cS (fun k hk=>by cases hk;omega)|>.mono (fun k _ h=>by simp only[zat];omega)
 ·exact ((eY.le (by omega)).gb cS (fun k hk=>by cases hk;simp only[zat];omega)).mono (fun k _ h=>by simp only[zat]at *;omega)
variable {ex:Th.Rd}
variable {c:Bool}
variable {q:Th.Ex × Th.St}
theorem zyn(hx:zso ex)(hk:zbD ex){k:Nat}(uL:k<=1000000)(hq:Th.ztQ ex k c st=some q)(h:RS w r tb T st):
  Calls prog 193 #[.pointer (some ⟨r,0,none⟩),.bool c] w fun en w'=>Reads w r tb T q.1 q.2 en w':=by
 have bd:=h.lt;have cu:=h.tlt;obtain ⟨i0,dt,bq,aP,bF⟩:=info_parts zvE;have HI:=zab dt;clear dt;have HZ:=zab (And.intro bq (And.intro aP bF));clear bq aP bF;unfold Th.ztQ at hq;simp only[zyQ,zyP]at hq;obtain ⟨q1,cF,q2,bC,rfl⟩:=hq;generalize AK:st.is Th.zo8=rc at cF ⊢;have CG:=zab AK;obtain ⟨s0,bK⟩:∃ s,(if rc=true then st.adv else st)=s:=⟨_,rfl⟩;rw[bK]at cF;have qH:=zab bK;have oC:=zab cF;have oD:=zab bC;clear AK cF bC bK;cases k with
 |zero=>have:=oC.o;simp[Th.zcu]at this
 |succ k=>
  have hp:=oC.o;rw[Th.zcu]at hp;simp only[zyQ]at hp;obtain ⟨q3,mS,sS⟩:=hp;have qE:=zab mS;have vO:=zab sS;clear mS sS;go_enter func193,ntmps193
  go_wp2_with fail
  refine (zbG h ⟨#[114,101,99]⟩ (by simp)).mono ?_;rintro e w1 ⟨rfl,aW,bw⟩;rw[show st.is (ByteArray.mk #[114,101,99]).data.toList=rc from CG.o]at aW ⊢;rw[qH.o]at aW;have hz:=bw.size;have dS:Hid (zkv w (w1.alloc (.cells #[.bool rc,.slice none 0 0,.nilIface] 178)) r tb w1.heap.size T rc [] [] s0 (.slice none 0 0)):=
   zab ⟨Blk.new w1 [.bool rc,.slice none 0 0,.nilIface] 178,hz,aW.alloc _,zad bw (zag w1 _ _),rfl,[],rfl,World.ownsRow_nil _ _ _ _,fun _=>⟨0,fun i pv p hh _=>by simp at hh⟩⟩
  have nK:=zab (zdf dS.o.blk 1 (v:=.slice none 0 0) rfl);have dn:=zab (fun (W:World) (hW:RS W r tb T s0)=>zsI hx qE.o hW);clear h aW bw;go_wp2_with fail
  go_cut [10] (fun _ wc=>∃ sv,zkv w wc r tb w1.heap.size T rc [(Th.zaL s0).1] [q3.1] q3.2 sv)
  case first=>
   go_region_law (first
    |(refine step_append_lies _ (by rfl) _ _ _ (by rfl) (w1.heap.size+1) 312 i0 _ 3 40 underlying176 HI.o HZ.o.1 HZ.o.2.1 HZ.o.2.2 rfl (by omega) (.slice none 0 0) 0 [] (by rfl) (World.ownsRow_nil _ _ _ _) ⟨w2.heap.size,0,none⟩ 1 1 [.string ⟨(Th.zaL s0).1.s.toArray⟩,.int .i64 (Th.zaL s0).1.at_,v] (by rfl) (by rfl) (World.news_of_block (cs:=#[.string ⟨(Th.zaL s0).1.s.toArray⟩,.int .i64 (Th.zaL s0).1.at_,v]) (t:=312) (fr:=(0,0)) (heap_alloc_new w2 _)) (one3 bR) (by omega) (by unfold maxLen;omega) (by omega) (by simp;omega) (w2.heap.size+1) (by simp) ?_;intro g cap w3 ai ah aV aj;have h3:=zab ((H2.o.alloc _).gb ah (by simp[Value.ownBlock]));have uB:=h3.o.1;have zD:=h3.o.2)
    |(go_simp;go_wp2_with (go_at_call 249;refine (dn.o _ ?_).mono ?_;exact dS.o.rs.drew;rintro e w2 ⟨v,rfl,aq,aI,aF⟩;have bR:=aq.one.one;have j6:w1.heap.size<w2.heap.size:=(by have:=aF.size;simp at this;omega);have cj:=zab aq;have eS:=zab aI;have eK:=zab aF;have H2:=zab (nK.o.drew.gb aF (by simp;omega));have wL:=H2.o.1;have rq:=H2.o.2;clear aq aI)))
   all_goals
    go_wp2_with fail
    go_meet
    case rel=>
     exact ⟨_,dS.o.add (pvs:=[]) rfl (World.ownsRow_nil _ _ _ _) (fun _=>⟨0,fun i pv p hh _=>by simp at hh⟩) bd cu cj.o eS.o eK.o ai ah aV (fun hb=>zc2 _ (zaC [61] _ (hk _ _ _ qE.o hb)))⟩
  case rest=>
   obtain ⟨Ba,cU⟩:=hcut;have cB:=zab cU;clear cU;go_wp2_with fail
   go_loopg [17] k (fun g _ wr=>∃ l es s1 sv,zkv w wr r tb w1.heap.size T rc l es s1 sv/\l≠[]/\l.length+g<=k+1/\(if s1.is [59]=true then Th.zcu ex g l es s1.adv else some (l,es,s1))=some q1)
   case atStart=>exact ⟨_,_,_,_,cB.o,by simp,by simp;omega,vO.o⟩
   case round=>
    obtain ⟨l,es,s1,sv,hB,aH,mO,hp⟩:=hrel;have HB:=zab hB;have hs:=hB.rs;clear hB;cases h5:s1.is [59]
    ·rw[h5]at hp;simp only[zzw,if_false,zyP]at hp;subst hp;have H5:=zab h5;clear h5;go_wp2_with fail
     refine (zbG hs ⟨#[59]⟩ (by simp)).mono ?_;rintro e w4 ⟨rfl,bV,bM⟩;rw[show s1.is (ByteArray.mk #[59]).data.toList=false from H5.o]at bV ⊢;have j5:RS w4 r tb T s1:=by simpa using bV
     have gB:=zab (HB.o.step bd bM j5 (fun hb=>hb));clear hs bV bM;go_wp2_with fail
     refine (zaX j5 ⟨#[105,110]⟩ (by simp)).mono ?_;rintro e w5 ⟨rfl,fC,cH⟩;have kx:=zab (gB.o.step bd cH fC (zaC _ _));clear j5 cH;go_wp2_with fail
     refine (hx _ _ _ _ _ _ _ oD.o fC).mono ?_;rintro en w6 ⟨v,rfl,aq,jL,fk⟩;have lX:=kx.o.blk.grown fk (by simp;omega);have d0:=lX.cell 0;have d1:=lX.cell 1;have d2:=lX.cell 2;have f2:=lX.frozen 2;simp at d0 d1 d2;have cE:=zab (zxH kx.o bd fk aq (fun hb=>hk _ _ _ oD.o hb));have kb:=zab (zap (zad kx.o.gb fk) ⟨w1.heap.size,2,none⟩ v hz);have qL:=zab (jL.set w1.heap.size 2 v (by omega) (by omega));have ho:=aq.one;obtain ⟨pvs,-,af,-⟩:=kx.o.parts;have gV:=zan (Row.zaE af);clear fC aq jL fk lX af;rcases gV with rfl|⟨gs,iA,rfl⟩ <;> rcases ho.shape with rfl|⟨t1,x1,rfl⟩
     all_goals
      clear ho;go_wp2_with fail
      go_ret
      exact ⟨_,rfl,cE.o,qL.o,kb.o⟩
    ·rw[h5]at hp;simp only[if_true]at hp;cases gk with
     |zero=>simp[Th.zcu]at hp
     |succ g0=>
      rw[Th.zcu]at hp;simp only[zyQ]at hp;obtain ⟨q5,sT,sU⟩:=hp;have qF:=zab sT;have vP:=zab sU;have H5:=zab h5;have eP:=zab (fun (W:World) (hW:RS W r tb T s1.adv)=>zsI hx qF.o hW);clear h5 sT sU;go_wp2_with fail
      refine (zbG hs ⟨#[59]⟩ (by simp)).mono ?_;rintro e w4 ⟨rfl,bV,bM⟩;rw[show s1.is (ByteArray.mk #[59]).data.toList=true from H5.o]at bV ⊢;have j5:RS w4 r tb T s1.adv:=by simpa using bV
      have gB:=zab (HB.o.step bd bM j5 (fun _=>zie H5.o));obtain ⟨pvs,gK,af,aR⟩:=gB.o.parts;have gV:=zan (Row.zaE af);rcases gV with rfl|⟨gs,iA,rfl⟩
      ·exfalso;rcases af.2 with ⟨-,h0⟩|⟨_,_,_,h0,_⟩
       ·exact aH (zzn.1 h0)
       ·cases h0
      ·have uK:=(af.lt gs rfl);have HR:=zab (And.intro gK (And.intro af aR));have oO:=zab (zdf gB.o.blk 1 (v:=.slice (some ⟨gs,0,none⟩) l.length iA) rfl);have DL:=oO.o.1;have DM:=oO.o.2;have xF:=gB.o.blk.lt;clear hs bV bM j5 gK af aR;go_wp2_with fail
       go_region_law (first
        |(refine step_append_lies _ (by rfl) _ _ _ (by rfl) (w1.heap.size+1) 312 i0 _ 3 40 underlying176 HI.o HZ.o.1 HZ.o.2.1 HZ.o.2.2 rfl (by omega) (.slice (some ⟨gs,0,none⟩) l.length iA) l.length (zaM l pvs) (by rfl) (ly.alloc _) ⟨w5.heap.size,0,none⟩ 1 1 [.string ⟨(Th.zaL s1.adv).1.s.toArray⟩,.int .i64 (Th.zaL s1.adv).1.at_,v5] (by rfl) (by rfl) (World.news_of_block (cs:=#[.string ⟨(Th.zaL s1.adv).1.s.toArray⟩,.int .i64 (Th.zaL s1.adv).1.at_,v5]) (t:=312) (fr:=(0,0)) (heap_alloc_new w5 _)) (one3 bR) (by omega) (by unfold maxLen;omega) (by omega) (by simp;omega) (w5.heap.size+1) (by simp) ?_;intro g cap w6 ai ah aV aj;have h6:=zab ((ou.o.alloc _).gb ah (by simp[Value.ownBlock];omega));have DQ:=h6.o.1;have DR:=h6.o.2)
        |(go_simp;go_wp2_with (go_at_call 249;refine (eP.o _ ?_).mono ?_;exact gB.o.rs.drew;rintro e w5 ⟨v5,rfl,aq,fC,cH⟩;have bR:=aq.one.one;have x9:w1.heap.size<w5.heap.size:=(by have:=cH.size;simp at this;omega);have cj:=zab aq;have oF:=zab fC;have lS:=zab cH;have ou:=zab (oO.o.drew.gb cH (by simp;omega));have DO:=ou.o.1;have DP:=ou.o.2;have ly:=HR.o.2.1.drew.kept cH (zdi HR.o.2.1 (by omega));clear aq fC)))
       all_goals
        go_wp2_with fail
        go_roundg g0
        case measure=>omega
        case rel=>
         exact ⟨_,_,_,_,gB.o.add HR.o.1 HR.o.2.1 HR.o.2.2 bd cu cj.o oF.o lS.o ai ah aV (fun hb=>zc2 _ (zaC [61] _ (hk _ _ _ qF.o hb))),by simp,by simp;omega,vP.o⟩
theorem zxr:(prog.info? 240).map (fun i=>(i.zero,i.size,i.bytes))=some (some (.agg #[.int .i64 0,.slice none 0 0,.nilIface]),3,48):=by kernel_rfl
theorem onea{p:Int}{u:Value}(h1:u.oneCell'=true)(h:v.oneCell'=true):∀ x∈[Value.int .i64 p,u,v],x.oneCell'=true:=by
 intro x hu;simp only[zzo,zzZ,or_false]at hu;rcases hu with rfl|rfl|rfl
 ·rfl
 ·exact h1
 ·exact h
theorem row_one{S:Nat->Prop}{e:TypeId}{size n:Nat}{xs:List Value}(h:Row S w e size v n xs):v.oneCell'=true:=by
 rcases zan h with rfl|⟨g,cap,rfl⟩ <;> rfl
structure zuZ (w wr:World) (r tb eb:Nat) (T:List Th.Tok) (cv:Value) (ce:Th.Ex) (l:List (Nat × List Th.Tok)) (es:List Th.Ex) (s1:Th.St) (sv:Value):Prop where
 blk:Blk wr eb [cv,sv] 173
 lo:w.heap.size<=eb
 rs:RS wr r tb T s1
 gb:w.grownBy wr (some r)
 len:l.length=es.length
 subj:s1.bad=none->∃ n,Rep (fun b=>zat w b/\b<eb) wr n cv ce
 parts:∃ nvs bvs,nvs.length=l.length/\bvs.length=l.length/\wr.ownsRow (eb+1) 240 3 sv l.length (za7 l nvs bvs) /\
  (s1.bad=none->∃ n,(∀ (i:Nat) (a:Nat × List Th.Tok) (nv:Value),l[i]?=some a->nvs[i]?=some nv->Row (fun b=>eb<b/\some b≠sv.ownBlock) wr 88 2 nv a.2.length (zaj a.2)) /\
   (∀ (i:Nat) (bv:Value) (p:Th.Ex),bvs[i]?=some bv->es[i]?=some p->Rep (fun b=>eb<b/\some b≠sv.ownBlock) wr n bv p))
variable {cv:Value}
variable {ce:Th.Ex}
theorem zuZ.add{l:List (Nat × List Th.Tok)}{nv:Value}{x:Nat × List Th.Tok}{nvs bvs:List Value}{o:Obj}(hB:zuZ w wr r tb eb T cv ce l es s1 sv)(aL:nvs.length=l.length)(aC:bvs.length=l.length)(fS:wr.ownsRow (eb+1) 240 3 sv l.length (za7 l nvs bvs))(mf:s1.bad=none->∃ n,(∀ (i:Nat) (a:Nat × List Th.Tok) (nv:Value),l[i]?=some a->nvs[i]?=some nv->Row (fun b=>eb<b/\some b≠sv.ownBlock) wr 88 2 nv a.2.length (zaj a.2)) /\
   (∀ (i:Nat) (bv:Value) (p:Th.Ex),bvs[i]?=some bv->es[i]?=some p->Rep (fun b=>eb<b/\some b≠sv.ownBlock) wr n bv p))(bd:r<w.heap.size)(cu:tb<w.heap.size)(ay:Row (zat wr.drew) w2 88 2 nv x.2.length (zaj x.2))(aq:Got (zat wr.drew) w2 v e s2)(aI:RS w2 r tb T s2)(aF:wr.drew.grownBy w2 (some r))(ai:w3.ownsRow (eb+1) 240 3 (.slice (some ⟨g,0,none⟩) (l.length+1) cap) (l.length+1) (za7 l nvs bvs++[.int .i64 x.1,nv,v]))(ah:(w2.alloc o).grownBy w3 sv.ownBlock)(aV:sv.ownBlock=some g\/g=w2.heap.size+1)(aQ:s2.bad=none->s1.bad=none):
  zuZ w (w3.setCell ⟨eb,1,none⟩ (.slice (some ⟨g,0,none⟩) (l.length+1) cap)) r tb eb T cv ce (l++[x]) (es++[e]) s2 (.slice (some ⟨g,0,none⟩) (l.length+1) cap):=by
 have fN:=hB.lo;have xw:=hB.blk.lt;have bF:wr.heap.size<=w2.heap.size:=aF.size;have cD:∀ b,sv.ownBlock=some b->eb<b/\b<wr.heap.size:=fun b hb=>⟨(fS.lt b hb).1,(fS.lt b hb).2⟩
 have aH:some eb≠sv.ownBlock:=fun e=>by have:=(cD eb e.symm).1;omega
 have nO:eb<g:=by
  rcases aV with h|h
  ·exact (cD g h).1
  ·omega
 have lz:some r≠sv.ownBlock:=fun e=>by have:=(cD r e.symm).1;omega
 have tw:some tb≠sv.ownBlock:=fun e=>by have:=(cD tb e.symm).1;omega
 have kQ:Blk w3 eb [cv,sv] 173:=((hB.blk.drew.grown aF (by simp;omega)).alloc o).grown ah aH;have key:∀ b,eb<b->some b≠sv.ownBlock->b<w2.heap.size->some b≠some g:=by
  intro b aA aw bD e;cases e;rcases aV with h|h
  ·exact aw h.symm
  ·omega
 have lN:∀ {ty:TypeId} {sz m:Nat} {u:Value} {ys:List Value},Row (fun b=>eb<b/\some b≠sv.ownBlock) wr ty sz u m ys ->
   Row (fun b=>eb<b/\some b≠some g) (w3.setCell ⟨eb,1,none⟩ (.slice (some ⟨g,0,none⟩) (l.length+1) cap)) ty sz u m ys:=by
  intro ty sz m u ys hr;have a1:=hr.gb (zbO wr none) (by simp);have a2:=a1.gb aF (fun k hk=>by cases hk;omega);have a3:Row (fun b=>eb<b/\some b≠sv.ownBlock/\b<w2.heap.size) w2 ty sz u m ys:=a2.mono (fun k hk h=>⟨h.1,h.2,hk⟩);have a4:=a3.gb (zag w2 o none) (by simp);have a5:=a4.gb ah (fun k hk h=>h.2.1 hk.symm);have a6:=a5.gb (zaT w3 eb 1 (.slice (some ⟨g,0,none⟩) (l.length+1) cap)) (fun k hk h=>by cases hk;omega);exact a6.mono (fun k _ h=>⟨h.1,key k h.1 h.2.1 h.2.2⟩)
 have lM:∀ {ty:TypeId} {sz m:Nat} {u:Value} {ys:List Value},Row (zat wr.drew) w2 ty sz u m ys ->
   Row (fun b=>eb<b/\some b≠some g) (w3.setCell ⟨eb,1,none⟩ (.slice (some ⟨g,0,none⟩) (l.length+1) cap)) ty sz u m ys:=by
  intro ty sz m u ys hr;have a3:Row (fun b=>wr.heap.size<=b/\b<w2.heap.size) w2 ty sz u m ys:=hr.mono (fun k hk h=>⟨h,hk⟩);have a4:=a3.gb (zag w2 o none) (by simp);have a5:=a4.gb ah (fun k hk h=>by have:=(cD k hk).2;omega);have a6:=a5.gb (zaT w3 eb 1 (.slice (some ⟨g,0,none⟩) (l.length+1) cap)) (fun k hk h=>by cases hk;omega);exact a6.mono (fun k _ h=>⟨by omega,key k (by omega) (fun e=>by have:=(cD k e.symm).2;omega) h.2⟩)
 refine ⟨?_,fN,?_,?_,by simp[hB.len],?_,nvs++[nv],bvs++[v],by simp[aL],by simp[aC],?_,?_⟩
 ·exact kQ.set 1 _
 ·exact ((aI.alloc o).gb ah lz tw).set eb 1 _ (by omega) (by omega)
 ·refine zap ?_ _ _ fN;have h1:w.grownBy (w2.alloc o) (some r):=zad (zad (zad hB.gb (zbO wr _)) aF) (zag w2 o _);exact ⟨ah.os.trans h1.os,ah.tape.trans h1.tape,ah.output.trans h1.output,zyR h1.size ah.size,
   fun k hk hr=>(ah.block k (zyS hk h1.size) (fun e=>by have:=(cD k e.symm).1;omega)).trans (h1.block k hk hr)⟩
 ·intro hb;obtain ⟨n,hn⟩:=hB.subj (aQ hb);exact ⟨n,((((hn.gb (zbO wr none) (by simp)).gb aF (fun k hk h=>by cases hk;simp only[zat]at h;omega)).gb (zag w2 o none) (by simp)).gb ah (fun k hk h=>by have:=(cD k hk).1;omega)).gb (zaT w3 eb 1 _) (fun k hk h=>by cases hk;omega)⟩
 ·rw[zgK l nvs bvs x nv v aL.symm aC.symm,zyT];exact ownsRow_setCell_below (a:=⟨eb,1,none⟩) ai (by simp) _
 ·intro hb;obtain ⟨n1,dd,cR⟩:=mf (aQ hb);obtain ⟨n2,eY⟩:=aq.rep hb;refine ⟨n1+n2,fun i a u ha hu=>?_,fun i pv p eD hp=>?_⟩
  ·rcases zbI ha with h1|⟨h1,rfl⟩
   ·rcases zbI hu with h2|⟨h2,rfl⟩
    ·exact lN (dd i a u h1 h2)
    ·rw[zzK (by omega)]at h1;simp at h1
   ·rcases zbI hu with h2|⟨h2,rfl⟩
    ·rw[zzK (by omega)]at h2;simp at h2
    ·exact lM ay
  ·rcases zbI eD with h1|⟨h1,rfl⟩
   ·rcases zbI hp with h2|⟨h2,rfl⟩
    ·exact Rep.imp (fun _ _ _ _ _ hR=>lN hR) _ _ _ ((cR i pv p h1 h2).le (zz0 n1 n2))
    ·rw[zzK (by rw[aC,hB.len];omega)]at h1;simp at h1
   ·rcases zbI hp with h2|⟨h2,rfl⟩
    ·rw[zzK (by rw[<-hB.len,<-aC];omega)]at h2;simp at h2
    ·exact Rep.imp (fun _ _ _ _ _ hR=>lM hR) _ _ _ (eY.le (zAc n2 n1))
theorem zuZ.step{l:List (Nat × List Th.Tok)}(hB:zuZ w wr r tb eb T cv ce l es s1 sv)(bd:r<w.heap.size)(hg:wr.grownBy w' (some r))(hs:RS w' r tb T s2)(hb:s2.bad=none->s1.bad=none):zuZ w w' r tb eb T cv ce l es s2 sv:=by
 have fN:=hB.lo;obtain ⟨nvs,bvs,h1,iB,h2,h3⟩:=hB.parts;refine ⟨hB.blk.grown hg (by simp;omega),fN,hs,zad hB.gb hg,hB.len,?_,nvs,bvs,h1,iB,h2.kept hg (zdi h2 (by omega)),fun aQ=>?_⟩
 ·intro aQ;obtain ⟨n,hn⟩:=hB.subj (hb aQ);exact ⟨n,hn.gb hg (fun k hk h=>by cases hk;simp only[zat]at h;omega)⟩
 ·obtain ⟨n,hr,hn⟩:=h3 (hb aQ);exact ⟨n,fun i a u x y=>(hr i a u x y).gb hg (fun k hk=>by cases hk;omega),fun i pv p a b=>(hn i pv p a b).gb hg (fun k hk=>by cases hk;omega)⟩
theorem zv4{l:List (Nat × List Th.Tok)}(hB:zuZ w wr r tb eb T cv ce l es s1 sv):
  Got (zat w) wr (.iface 173 (.agg #[cv,sv])) (Th.mkCase ce l es) s1:=by
 have fN:=hB.lo;obtain ⟨nvs,bvs,h1,iB,h2,h3⟩:=hB.parts;refine ⟨zb0 _ _,fun aQ=>?_⟩;obtain ⟨n1,hr,cR⟩:=h3 aQ;obtain ⟨n2,eY⟩:=hB.subj aQ;refine ⟨n1+n2+1,.inr (.inr (.inr (.inr (.inr (.inr (.inr ?_))))))⟩;refine ⟨rfl,cv,sv,ce,es,nvs,bvs,rfl,rfl,hB.len.symm,h1,iB,?_,?_,?_,?_⟩
 ·exact ⟨za0 h2 (zy5 _),fun b hb=>by have:=(h2.lt b hb).1;simp only[zat];omega⟩
 ·exact fun i a u x y=>(hr i a u x y).mono (fun k _ h=>by simp only[zat];omega)
 ·exact fun i pv p a b=>((cR i pv p a b).le (by omega)).mono (fun k _ h=>by simp only[zat];omega)
 ·exact (eY.le (by omega)).mono (fun k _ h=>h.1)
theorem zcM(st:Th.St):(Th.zax st).2.bad=none->st.bad=none:=by
 intro h;unfold Th.zax at h;split at h
 ·simp_all
 ·exact h
theorem zfz(hk:zbD ex){q:(Nat × List Th.Tok) × Th.Ex × Th.St}(h:Th.ztN ex c st=some q):q.2.2.bad=none->st.bad=none:=by
 unfold Th.ztN at h;simp only[zyQ,zyP]at h;obtain ⟨q1,h1,rfl⟩:=h;intro hb;exact zaC _ _ (zdX _ _ _ (zaC _ _ (zcM _ (zaC _ _ (hk _ _ _ h1 hb)))))
theorem zlo(h:Th.za8 c st=true):st.is [59]=true:=by
 unfold Th.za8 at h;cases hi:st.is [59]
 ·rw[hi]at h;simp at h
 ·rfl
theorem zsM(hx:zso ex)(hk:zbD ex){k:Nat}(uL:k<=1000000)(hq:Th.zjy ex k c st=some q)(h:RS w r tb T st):
  Calls prog 194 #[.pointer (some ⟨r,0,none⟩),.bool c] w fun en w'=>Reads w r tb T q.1 q.2 en w':=by
 have bd:=h.lt;have cu:=h.tlt;obtain ⟨i0,dt,bq,aP,bF⟩:=info_parts zxr;have HI:=zab dt;clear dt;have HZ:=zab (And.intro bq (And.intro aP bF));clear bq aP bF;unfold Th.zjy at hq;simp only[zyQ,zyP]at hq;obtain ⟨q0,sR,q1,cF,rfl⟩:=hq;have Cu:=zab sR;have oC:=zab cF;clear sR cF;cases k with
 |zero=>have:=oC.o;simp[Th.zeD]at this
 |succ k=>
  have hp:=oC.o;rw[Th.zeD]at hp;simp only[zyQ]at hp;obtain ⟨q3,mS,sS⟩:=hp;have qE:=zab mS;have vO:=zab sS;clear mS sS;go_enter func194,ntmps194
  go_wp2_with fail
  refine (hx _ _ _ _ _ _ _ Cu.o h).mono ?_;rintro e w1 ⟨cv,rfl,kX,aW,bw⟩;have hz:=bw.size;have ho:=kX.one;have dS:Hid (zuZ w (w1.alloc (.cells #[cv,.slice none 0 0] 173)) r tb w1.heap.size T cv q0.1 [] [] q0.2 (.slice none 0 0)):=
   zab ⟨Blk.new w1 [cv,.slice none 0 0] 173,hz,aW.alloc _,zad bw (zag w1 _ _),rfl,
    fun hb=>by obtain ⟨n,hn⟩:=kX.rep hb;exact ⟨n,(hn.mono (fun k hk h=>⟨h,hk⟩)).gb (zag w1 _ none) (by simp)⟩,[],[],rfl,rfl,World.ownsRow_nil _ _ _ _,fun _=>⟨0,fun i pv p hh _=>by simp at hh,fun i pv p hh _=>by simp at hh⟩⟩
  clear h aW bw kX;rcases ho.shape with rfl|⟨t1,x1,rfl⟩
  all_goals
   clear ho;go_wp2_with fail
   refine (zaX dS.o.rs ⟨#[111,102]⟩ (by simp)).mono ?_;rintro e w9 ⟨rfl,AN,Am⟩;have tZ:=zab (dS.o.step bd Am AN (zaC _ _));have nK:=zab (zdf tZ.o.blk 1 (v:=.slice none 0 0) rfl);have Gm:=nK.o.1;have Gn:=nK.o.2;have GJ:=tZ.o.blk.lt;have dn:=zab (fun (W:World) (hW:RS W r tb T (Th.want Th.sOf q0.2))=>zwN hx qE.o hW);clear AN Am;go_wp2_with fail
   go_cut [12] (fun _ wc=>∃ cv sv,One cv/\zuZ w wc r tb w1.heap.size T cv q0.1 [q3.1] [q3.2.1] q3.2.2 sv)
   case first=>
    go_region_law (first
     |(refine step_append_lies _ (by rfl) _ _ _ (by rfl) (w1.heap.size+1) 240 i0 _ 3 48 underlying171 HI.o HZ.o.1 HZ.o.2.1 HZ.o.2.2 rfl (by omega) (.slice none 0 0) 0 [] (by rfl) (World.ownsRow_nil _ _ _ _) ⟨w2.heap.size,0,none⟩ 1 1 [.int .i64 q3.1.1,nv,v] (by rfl) (by rfl) (World.news_of_block (cs:=#[.int .i64 q3.1.1,nv,v]) (t:=240) (fr:=(0,0)) (heap_alloc_new w2 _)) (onea iM bR) (by omega) (by unfold maxLen;omega) (by omega) (by simp;omega) (w2.heap.size+1) (by simp) ?_;intro g cap w3 ai ah aV aj;have h3:=zab ((H2.o.alloc _).gb ah (by simp[Value.ownBlock]));have uB:=h3.o.1;have zD:=h3.o.2)
     |(go_simp;go_wp2_with (go_at_call 250;refine (dn.o _ ?_).mono ?_;exact tZ.o.rs.drew;rintro e w2 ⟨nv,v,rfl,ay,aq,aI,aF⟩;have bR:=aq.one.one;have iM:=row_one ay;have j6:w1.heap.size<w2.heap.size:=(by have:=aF.size;simp at this;omega);have v7:=zab ay;have cj:=zab aq;have eS:=zab aI;have eK:=zab aF;have H2:=zab (nK.o.drew.gb aF (by simp;omega));have wL:=H2.o.1;have rq:=H2.o.2;clear aq aI ay)))
    all_goals
     go_wp2_with fail
     go_meet
     case rel=>
      exact ⟨_,_,⟨by first|exact .inl rfl|exact .inr ⟨_,_,rfl⟩⟩,tZ.o.add (nvs:=[]) (bvs:=[]) rfl rfl (World.ownsRow_nil _ _ _ _) (fun _=>⟨0,fun i pv p hh _=>by simp at hh,fun i pv p hh _=>by simp at hh⟩) bd cu v7.o cj.o eS.o eK.o ai ah aV (zfz hk qE.o)⟩
   case rest=>
    obtain ⟨Gc,Ba,ja,cU⟩:=hcut;have cB:=zab (And.intro ja cU);clear cU ja;go_wp2_with fail
    go_loopg [21] k (fun g _ wr=>∃ cv l es s1 sv,One cv/\zuZ w wr r tb w1.heap.size T cv q0.1 l es s1 sv/\l≠[]/\l.length+g<=k+1/\(if Th.za8 c s1=true then Th.zeD ex c g l es s1.adv else some (l,es,s1))=some q1)
    case atStart=>exact ⟨_,_,_,_,_,cB.o.1,cB.o.2,by simp,by simp;omega,vO.o⟩
    case round=>
     obtain ⟨cv,l,es,s1,sv,Az,hB,aH,mO,hp⟩:=hrel;have HB:=zab hB;have hs:=hB.rs;have HO:=zab Az;clear hB Az;cases h5:Th.za8 c s1
     ·rw[h5]at hp;simp only[zzw,if_false,zyP]at hp;subst hp;have H5:=zab h5;clear h5;go_wp2_with fail
      refine (zfX hs c).mono ?_;rintro e w4 ⟨rfl,xi⟩;rw[H5.o];have gB:=zab (HB.o.step bd (zaf _ xi) (hs.below xi) (fun hb=>hb));have d0:=gB.o.blk.cell 0;have d1:=gB.o.blk.cell 1;simp at d0 d1;have cE:=zab (zv4 gB.o);obtain ⟨nvs,bvs,-,-,af,-⟩:=gB.o.parts;have gV:=zan (Row.zaE af);clear hs xi af;rcases gV with rfl|⟨gs,iA,rfl⟩ <;> rcases HO.o.shape with rfl|⟨t2,x2,rfl⟩
      all_goals
       go_wp2_with fail
       go_ret
       exact ⟨_,rfl,cE.o,gB.o.rs,gB.o.gb⟩
     ·rw[h5]at hp;simp only[if_true]at hp;cases gk with
      |zero=>simp[Th.zeD]at hp
      |succ g0=>
       rw[Th.zeD]at hp;simp only[zyQ]at hp;obtain ⟨q5,sT,sU⟩:=hp;have qF:=zab sT;have vP:=zab sU;have H5:=zab h5;have Hw:Hid (Th.want [59] s1=s1.adv):=zab (by rw[Th.want,zlo h5];simp);have eP:=zab (fun (W:World) (hW:RS W r tb T s1.adv)=>zwN hx qF.o hW);clear h5 sT sU;go_wp2_with fail
       refine (zfX hs c).mono ?_;rintro e w8 ⟨rfl,xj⟩;rw[H5.o];have p8:=hs.below xj;have BC:=zab (HB.o.step bd (zaf _ xj) p8 (fun hb=>hb));clear hs xj;go_wp2_with fail
       refine (zaX p8 ⟨#[59]⟩ (by simp)).mono ?_;rintro e w4 ⟨rfl,bV,bM⟩;rw[show Th.want (ByteArray.mk #[59]).data.toList s1=s1.adv from Hw.o]at bV;have gB:=zab (BC.o.step bd bM bV (fun _=>zie (zlo H5.o)));obtain ⟨nvs,bvs,sO,sP,af,aR⟩:=gB.o.parts;have gV:=zan (Row.zaE af);rcases gV with rfl|⟨gs,iA,rfl⟩
       ·exfalso;rcases af.2 with ⟨-,h0⟩|⟨_,_,_,h0,_⟩
        ·exact aH (zzn.1 h0)
        ·cases h0
       ·have uK:=(af.lt gs rfl);have HR:=zab (And.intro (And.intro sO sP) (And.intro af aR));have oO:=zab (zdf gB.o.blk 1 (v:=.slice (some ⟨gs,0,none⟩) l.length iA) rfl);have DL:=oO.o.1;have DM:=oO.o.2;have xF:=gB.o.blk.lt;clear p8 bV bM sO sP af aR;go_wp2_with fail
        go_region_law (first
         |(refine step_append_lies _ (by rfl) _ _ _ (by rfl) (w1.heap.size+1) 240 i0 _ 3 48 underlying171 HI.o HZ.o.1 HZ.o.2.1 HZ.o.2.2 rfl (by omega) (.slice (some ⟨gs,0,none⟩) l.length iA) l.length (za7 l nvs bvs) (by rfl) (ly.alloc _) ⟨w5.heap.size,0,none⟩ 1 1 [.int .i64 q5.1.1,A6,v5] (by rfl) (by rfl) (World.news_of_block (cs:=#[.int .i64 q5.1.1,A6,v5]) (t:=240) (fr:=(0,0)) (heap_alloc_new w5 _)) (onea iM bR) (by omega) (by unfold maxLen;omega) (by omega) (by simp;omega) (w5.heap.size+1) (by simp) ?_;intro g cap w6 ai ah aV aj;have h6:=zab ((ou.o.alloc _).gb ah (by simp[Value.ownBlock];omega));have DQ:=h6.o.1;have DR:=h6.o.2)
         |(go_simp;go_wp2_with (go_at_call 250;refine (eP.o _ ?_).mono ?_;exact gB.o.rs.drew;rintro e w5 ⟨A6,v5,rfl,ay,aq,fC,cH⟩;have bR:=aq.one.one;have iM:=row_one ay;have x9:w1.heap.size<w5.heap.size:=(by have:=cH.size;simp at this;omega);have v7:=zab ay;have cj:=zab aq;have oF:=zab fC;have lS:=zab cH;have ou:=zab (oO.o.drew.gb cH (by simp;omega));have DO:=ou.o.1;have DP:=ou.o.2;have ly:=HR.o.2.1.drew.kept cH (zdi HR.o.2.1 (by omega));clear aq fC ay)))
        all_goals
         go_wp2_with fail
         go_roundg g0
         case measure=>omega
         case rel=>
          exact ⟨_,_,_,_,_,HO.o,gB.o.add HR.o.1.1 HR.o.1.2 HR.o.2.1 HR.o.2.2 bd cu v7.o cj.o oF.o lS.o ai ah aV (zfz hk qF.o),by simp,by simp;omega,vP.o⟩
theorem ztF(l:List Th.Tok):∀ u∈zaj l,u.oneCell'=true:=by
 intro u hu;simp only[zaj,List.mem_flatMap,zbP]at hu;obtain ⟨t,_,ht⟩:=hu;simp only[zzo,zzZ,or_false]at ht;rcases ht with rfl|rfl <;> rfl
theorem zkE(l:List Th.Tok):(zaj l).length=l.length*2:=by
 induction l with
 |nil=>rfl
 |cons t l ih=>
  rw[show zaj (t::l)=zbP t++zaj l from rfl,zyT,ih];simp only[zbP,zy8,zzm];omega
theorem ztE(h:RS w r tb T st):(Th.zax st).1.length<=100000:=by
 have:=ztW h;unfold Th.zax;split
 ·exact zyR (List.takeWhile_prefix _).length_le this
 ·simp
structure Lam (w wr:World) (r tb eb:Nat) (T:List Th.Tok) (l:List Th.Tok) (s1:Th.St) (sv:Value):Prop where
 blk:Blk wr eb [sv,.nilIface] 226
 lo:w.heap.size<=eb
 rs:RS wr r tb T s1
 gb:w.grownBy wr (some r)
 row:Row (fun b=>zat w b/\b≠eb) wr 88 2 sv l.length (zaj l)
theorem Lam.step(hB:Lam w wr r tb eb T l s1 sv)(bd:r<w.heap.size)(hg:wr.grownBy w' (some r))(hs:RS w' r tb T s2):Lam w w' r tb eb T l s2 sv:=by
 have fN:=hB.lo;exact ⟨hB.blk.grown hg (by simp;omega),fN,hs,zad hB.gb hg,hB.row.gb hg (fun k hk h=>by cases hk;simp only[zat]at h;omega)⟩
theorem zxG(hB:Lam w wr r tb eb T l s1 sv)(bd:r<w.heap.size)(hg:wr.grownBy w' (some r))(aq:Got (zat wr) w' v e s2):
  Got (zat w) (w'.setCell ⟨eb,1,none⟩ v) (.iface 226 (.agg #[sv,v])) (Th.mkFun l e) s2:=by
 have fN:=hB.lo;have xw:=hB.blk.lt;have hz:=hB.gb.size;refine ⟨zb0 _ _,fun aQ=>?_⟩;obtain ⟨n2,eY⟩:=aq.rep aQ;have cS:=zaT w' eb 1 v;refine ⟨n2+1,.inr (.inr (.inr (.inl ⟨rfl,sv,v,e,rfl,rfl,?_,?_⟩)))⟩
 ·exact ((hB.row.gb hg (fun k hk h=>by cases hk;simp only[zat]at h;omega)).gb cS (fun k hk h=>by cases hk;exact h.2 rfl)).mono (fun k _ h=>h.1)
 ·exact (eY.gb cS (fun k hk=>by cases hk;simp only[zat];omega)).mono (fun k _ h=>by simp only[zat]at *;omega)
theorem zqK{base:Nat}{e:TypeId}{size n:Nat}{xs:List Value}(h:w.ownsRow base e size v n xs)(hn:0<n):∃ g cap,v=.slice (some ⟨g,0,none⟩) n cap:=by
 rcases h.2 with ⟨_,h0⟩|⟨g,cap,cur,h,_⟩
 ·omega
 ·exact ⟨g,cap,h⟩
theorem zqD{w1 W0:World}{m:Nat}{x:Th.Tok}(hB:Blk W0 (w1.heap.size+1) [.slice (some ⟨w1.heap.size,0,none⟩) 1 1,.nilIface] 226)(hz:w.heap.size<=w1.heap.size)(bd:r<w.heap.size)(cu:tb<w.heap.size)(DU:w.grownBy W0 (some r))(aI:RS w2 r tb T s2)(aF:W0.drew.grownBy w2 (some r))(ai:w3.ownsRow w1.heap.size 88 2 (.slice (some ⟨g,0,none⟩) m cap) m (zaj (x::l)))(hm:m=(x::l).length)(ah:w2.grownBy w3 (some w1.heap.size))(aV:g=w1.heap.size\/g=w2.heap.size):
  Lam w (w3.setCell ⟨w1.heap.size+1,0,none⟩ (.slice (some ⟨g,0,none⟩) m cap)) r tb (w1.heap.size+1) T (x::l) s2 (.slice (some ⟨g,0,none⟩) m cap):=by
 have aj:=hB.lt;have bF:W0.heap.size<=w2.heap.size:=aF.size;have nO:g≠w1.heap.size+1:=by omega
 have cS:=zaT w3 (w1.heap.size+1) 0 (.slice (some ⟨g,0,none⟩) m cap);refine ⟨?_,by omega,?_,?_,?_,?_⟩
 ·exact ((hB.drew.grown aF (by simp;omega)).grown ah (by simp)).set 0 _
 ·exact (aI.gb ah (by simp;omega) (by simp;omega)).set _ _ _ (by omega) (by omega)
 ·refine zap ?_ _ _ (by simp;omega);have h1:=zad (zad DU (zbO W0 _)) aF;exact ⟨ah.os.trans h1.os,ah.tape.trans h1.tape,ah.output.trans h1.output,zyR h1.size ah.size,
   fun k hk hr=>(ah.block k (zyS hk h1.size) (by simp;omega)).trans (h1.block k hk hr)⟩
 ·rw[<-hm];exact za0 (ai.kept cS (by simp[Value.ownBlock];omega)) (zy5 _)
 ·intro k hk;simp only[Value.ownBlock,zyP]at hk;subst hk;have:=(ai.lt g rfl).1;simp only[zat];omega
theorem ztn(hx:zso ex)(hq:Th.ztO ex c st=some q)(h:RS w r tb T st):
  Calls prog 195 #[.pointer (some ⟨r,0,none⟩),.bool c] w fun en w'=>Reads w r tb T q.1 q.2 en w':=by
 have bd:=h.lt;have cu:=h.tlt;obtain ⟨i0,dt,bq,aP,bF⟩:=info_parts zqz;have HI:=zab dt;clear dt;have HZ:=zab (And.intro bq (And.intro aP bF));clear bq aP bF;unfold Th.ztO at hq;simp only[zyQ,zyP]at hq;obtain ⟨q1,cF,rfl⟩:=hq;generalize cX:Th.zaL st=xs at cF ⊢;generalize da:Th.zax xs.2=ln at cF ⊢;have oC:=zab cF;have C9:=zab cX;have kB:=zab da;clear cF cX da;go_enter func195,ntmps195
 go_wp2_with fail
 refine (zg4 h).mono ?_;rintro e w1 ⟨rfl,aW,bw⟩;rw[C9.o]at aW ⊢;have hz:=bw.size;have nX:=World.ownsRow_lit (base:=w1.heap.size) (e:=88) (size:=2) w1 #[.string ⟨xs.1.s.toArray⟩,.int .i64 xs.1.at_] 1 (zyN _) (by unfold maxLen;omega) rfl;have uW:=Blk.new (w1.alloc (.cells #[.string ⟨xs.1.s.toArray⟩,.int .i64 xs.1.at_] 88)) [.slice (some ⟨w1.heap.size,0,none⟩) 1 1,.nilIface] 226;rw[World.size_alloc]at uW;have B0:=zab uW;clear uW;have zi:=zab ((aW.alloc (.cells #[.string ⟨xs.1.s.toArray⟩,.int .i64 xs.1.at_] 88)).alloc (.cells #[.slice (some ⟨w1.heap.size,0,none⟩) 1 1,.nilIface] 226));have eQ:=zab (zad (zad bw (zag w1 (.cells #[.string ⟨xs.1.s.toArray⟩,.int .i64 xs.1.at_] 88) (some r))) (zag _ (.cells #[.slice (some ⟨w1.heap.size,0,none⟩) 1 1,.nilIface] 226) (some r)));have pI:=zab (nX.alloc (.cells #[.slice (some ⟨w1.heap.size,0,none⟩) 1 1,.nilIface] 226));have xy:=ztE aW;rw[kB.o]at xy;have dn:=zab (fun (W:World) (hW:RS W r tb T xs.2)=>zlH hW);clear h aW bw nX;have nK:Hid (zsr _ (w1.heap.size+1) 0 (.slice (some ⟨w1.heap.size,0,none⟩) 1 1)):=zab (zdf B0.o 0 (v:=.slice (some ⟨w1.heap.size,0,none⟩) 1 1) rfl);go_wp2_with fail
 go_cut [11] (fun _ wc=>∃ sv,Lam w wc r tb (w1.heap.size+1) T (xs.1::ln.1) ln.2 sv)
 case first=>
  by_cases hl:ln.1=[]
  ·have Hl:=zab hl;clear hl
   go_region_law (first
    |(go_simp;go_wp2_with (go_at_call 116;refine (dn.o _ ?_).mono ?_;exact zi.o.drew;rintro e w2 ⟨nv,rfl,ck,ez,aI,aF⟩;rw[kB.o]at ck aI;obtain rfl:=ck Hl.o;have j6:w1.heap.size+1<w2.heap.size:=(by have:=aF.size;simp at this;omega);have eS:=zab aI;have eK:=zab aF;have H2:=zab (nK.o.drew.gb aF (by simp;omega));have wL:=H2.o.1;have rq:=H2.o.2;clear aI ck ez)))
   all_goals
    go_wp2_with fail
    go_meet
    case rel=>
     have jc:w2.ownsRow w1.heap.size 88 2 (.slice (some ⟨w1.heap.size,0,none⟩) 1 1) 1 (zaj (xs.1::[])):=pI.o.drew.kept eK.o (zdi pI.o (by omega));have eW:=zqD B0.o hz bd cu eQ.o eS.o eK.o jc rfl (zcT w2 _) (.inl rfl);rw[<-Hl.o]at eW;exact ⟨_,eW⟩
  ·have aL:0<ln.1.length:=zzA.2 hl;have Hl:=zab hl;clear hl
   go_region_law (first
    |(refine step_append_lies _ (by rfl) _ _ _ (by rfl) w1.heap.size 88 i0 _ 2 24 underlying89 HI.o HZ.o.1 HZ.o.2.1 HZ.o.2.2 rfl (by omega) (.slice (some ⟨w1.heap.size,0,none⟩) 1 1) 1 (zbP xs.1) (by rfl) sX ⟨g2,0,none⟩ ln.1.length c2 (zaj ln.1) (by rfl) (zkE _) (ez.cells rfl) (ztF _) (by omega) (by unfold maxLen;omega) (by omega) (by omega) w2.heap.size rfl ?_;intro g cap w3 ai ah aV aj;have h3:=zab (H2.o.gb ah (by simp[Value.ownBlock]));have uB:=h3.o.1;have zD:=h3.o.2)
    |(go_simp;go_wp2_with (go_at_call 116;refine (dn.o _ ?_).mono ?_;exact zi.o.drew;rintro e w2 ⟨nv,rfl,ck,ez,aI,aF⟩;rw[kB.o]at ez aI;obtain ⟨g2,c2,rfl⟩:=zqK ez aL;have j6:w1.heap.size+1<w2.heap.size:=(by have:=aF.size;simp at this;omega);have eS:=zab aI;have eK:=zab aF;have H2:=zab (nK.o.drew.gb aF (by simp;omega));have wL:=H2.o.1;have rq:=H2.o.2;have sX:=pI.o.drew.kept aF (zdi pI.o (by omega));clear aI ck)))
   all_goals
    go_wp2_with fail
    go_meet
    case rel=>
     refine ⟨_,zqD B0.o hz bd cu eQ.o eS.o eK.o ai (by simp;omega) ah ?_⟩;rcases aV with h|h
     ·left;simpa [Value.ownBlock] using h.symm
     ·exact .inr h
 case rest=>
  obtain ⟨Ba,cU⟩:=hcut;have cB:=zab cU;have hs:=cU.rs;clear cU;go_wp2_with fail
  refine (zaX hs ⟨#[46]⟩ (by simp)).mono ?_;rintro e w5 ⟨rfl,fC,cH⟩;have kx:=zab (cB.o.step bd cH fC);clear hs cH;go_wp2_with fail
  refine (hx _ _ _ _ _ _ _ oC.o fC).mono ?_;rintro en w6 ⟨v,rfl,aq,jL,fk⟩;have lX:=kx.o.blk.grown fk (by simp;omega);have d0:=lX.cell 0;have d1:=lX.cell 1;have f1:=lX.frozen 1;simp at d0 d1;have cE:=zab (zxG kx.o bd fk aq);have kb:=zab (zap (zad kx.o.gb fk) ⟨w1.heap.size+1,1,none⟩ v (by simp;omega));have qL:=zab (jL.set (w1.heap.size+1) 1 v (by omega) (by omega));have ho:=aq.one;have gV:=zan kx.o.row;clear fC aq jL fk lX;rcases gV with rfl|⟨gs,iA,rfl⟩ <;> rcases ho.shape with rfl|⟨t1,x1,rfl⟩
  all_goals
   clear ho;go_wp2_with fail
   go_ret
   exact ⟨_,rfl,cE.o,qL.o,kb.o⟩
end Go.Proofs.YtgahgkddaljmkaaGreatDoor
